import PyProof.Rows.All
import Wide.All
import OpenK.AllK
import Wide.FinOn
import Lean
import PyProof.EqAt
import PyProof.EqKinds
import PyProof.TupleCall
import PyProof.NeKinds
import KE.KIntText
import PySem.Challenge.RW_byexample_k23_words_spoiled
set_option Elab.async false
set_option linter.all false
set_option maxRecDepth 100000
noncomputable section
namespace L2
open PySem PySem.Spec PyProof.Rows
noncomputable abbrev Key:=Sum Int Str
noncomputable def keyIs:Key → Value → Bool
 | .inl k,v => Value.isInt k v
 | .inr x,v => Value.isStrOf x v
noncomputable def keyH (w:World):Key → Int
 | .inl k => hashInt k
 | .inr x => hashStr w x
theorem keyIs_shape:∀ {k:Key} {v:Value},keyIs k v = true → (∃ i t,k = Sum.inl i ∧ v = Value.int i t) ∨ (∃ x t,k = Sum.inr x ∧ v = Value.str x t)
 | .inl i,v,h => by
  obtain ⟨t,e⟩:=Value.isInt_shape (k:=i) (v:=v) h
  exact .inl ⟨i,t,rfl,e⟩
 | .inr x,v,h => by
  obtain ⟨t,e⟩:=Value.isStrOf_shape (x:=x) (v:=v) h
  exact .inr ⟨x,t,rfl,e⟩
theorem key_ll (a b:Int):decide ((Sum.inl a:Key) = Sum.inl b) = (a == b):=by
 by_cases e:a = b
 ·subst e; simp
 ·have h:¬ (Sum.inl a:Key) = Sum.inl b:=fun q => e (Sum.inl.inj q)
  rw [decide_eq_false h]
  exact (beq_eq_false_iff_ne.mpr e).symm
theorem key_rr (a b:Str):decide ((Sum.inr a:Key) = Sum.inr b) = decide (a = b):=by
 by_cases e:a = b
 ·subst e; simp
 ·have h:¬ (Sum.inr a:Key) = Sum.inr b:=fun q => e (Sum.inr.inj q)
  rw [decide_eq_false h,decide_eq_false e]
theorem key_lr (a:Int) (b:Str):decide ((Sum.inl a:Key) = Sum.inr b) = false:=decide_eq_false (fun q => nomatch q)
theorem key_rl (a:Str) (b:Int):decide ((Sum.inr a:Key) = Sum.inl b) = false:=decide_eq_false (fun q => nomatch q)
noncomputable def mixKind (prog:Program) (w:World):PySem.KeyKind prog w Key where
 is:=keyIs
 hash:=keyH w
 inj:=fun v a b ha hb => by
  rcases keyIs_shape ha with ⟨i,t,rfl,rfl⟩ | ⟨x,t,rfl,rfl⟩
  ·rcases keyIs_shape hb with ⟨j,u,rfl,e⟩ | ⟨y,u,rfl,e⟩
   ·injection e with e1 _; rw [e1]
   ·exact nomatch e
  ·rcases keyIs_shape hb with ⟨j,u,rfl,e⟩ | ⟨y,u,rfl,e⟩
   ·exact nomatch e
   ·injection e with e1 _; rw [e1]
 byValue:=fun k v h => by
  rcases keyIs_shape h with ⟨i,t,rfl,rfl⟩ | ⟨x,t,rfl,rfl⟩ <;> rfl
 pyHash:=fun hv h => by
  rcases keyIs_shape hv with ⟨i,t,rfl,rfl⟩ | ⟨x,t,rfl,rfl⟩
  ·exact wpAny_pyHash_int h
  ·exact wpAny_pyHash_str h
 eqBool:=fun hu hv h => by
  rcases keyIs_shape hu with ⟨i,t,rfl,rfl⟩ | ⟨x,t,rfl,rfl⟩
  ·rcases keyIs_shape hv with ⟨j,u,rfl,rfl⟩ | ⟨y,u,rfl,rfl⟩
   ·rw [key_ll] at h; exact wpAny_eqBool_int h
   ·rw [key_lr] at h; exact SeqAt.EqAt.int_str i t y u _ _ _ _ h
  ·rcases keyIs_shape hv with ⟨j,u,rfl,rfl⟩ | ⟨y,u,rfl,rfl⟩
   ·rw [key_rl] at h; exact SeqAt.EqAt.str_int x t j u _ _ _ _ h
   ·rw [key_rr] at h; exact wpAny_eqBool_str h
 «strs»:=fun k x t v h => by
  rcases keyIs_shape h with ⟨i,u,rfl,e⟩ | ⟨y,u,rfl,e⟩
  ·exact nomatch e
  ·injection e with e1 _
   subst e1
   cases v <;> rfl
end L2
namespace L2
open PySem PySem.Spec PyProof.Rows
inductive V where
 | non | bl (b:Bool) | int (i:Int) | str (x:Str) | byt (b:Array UInt8) | flt (b:UInt64) | ref (a:Addr) | ty (n:String)
 deriving DecidableEq
noncomputable def RelV:V → Value → Prop
 | .non,u => u = Value.none
 | .bl b,u => u = Value.bool b
 | .int i,u => ∃ t,u = Value.int i t
 | .str x,u => ∃ t,u = Value.str x t
 | .byt b,u => ∃ t,u = Value.bytes b t
 | .flt b,u => ∃ t,u = Value.float b t
 | .ref a,u => u = Value.ref a
 | .ty n,u => u = Value.type n
noncomputable abbrev Vals:List V → List Value → Prop:=Paired RelV
theorem Vals.length {xs:List V} {us:List Value} (r:Vals xs us):xs.length = us.length:=Paired.length r
theorem Vals.get:∀ {xs:List V} {us:List Value} {i:Nat} {x:V},Vals xs us → xs[i]? = some x → ∃ u,us[i]? = some u ∧ RelV x u
 | _,_,_,_,.nil,e => by simp at e
 | _,_,0,_,.cons r _,e => by simp at e; subst e; exact ⟨_,rfl,r⟩
 | _,_,i + 1,x,.cons _ t,e => by
  obtain ⟨u,h1,h2⟩:=Vals.get (i:=i) (x:=x) t (by simpa using e)
  exact ⟨u,by simpa using h1,h2⟩
theorem Vals.set {x:V} {u:Value} (r:RelV x u):∀ {xs:List V} {us:List Value} (i:Nat),Vals xs us → Vals (xs.set i x) (us.set i u)
 | _,_,_,.nil => .nil
 | _,_,0,.cons _ t => .cons r t
 | _,_,i + 1,.cons q t => .cons q (Vals.set r i t)
theorem Vals.append:∀ {xs ys:List V} {us ws:List Value},Vals xs us → Vals ys ws → Vals (xs ++ ys) (us ++ ws)
 | _,_,_,_,.nil,s => s
 | _,_,_,_,.cons r t,s => .cons r (Vals.append t s)
theorem Vals.take:∀ {xs:List V} {us:List Value} (n:Nat),Vals xs us → Vals (xs.take n) (us.take n)
 | _,_,0,_ => .nil
 | _,_,_ + 1,.nil => .nil
 | _,_,n + 1,.cons r t => .cons r (Vals.take n t)
theorem Vals.drop:∀ {xs:List V} {us:List Value} (n:Nat),Vals xs us → Vals (xs.drop n) (us.drop n)
 | _,_,0,r => r
 | _,_,_ + 1,.nil => .nil
 | _,_,n + 1,.cons _ t => Vals.drop n t
theorem Vals.none_of:∀ {xs:List V} {us:List Value} {i:Nat},Vals xs us → xs[i]? = none → us[i]? = none:=fun {xs us i} r e => by
 have h1:=r.length
 have h2:xs.length ≤ i:=List.getElem?_eq_none_iff.mp e
 exact List.getElem?_eq_none_iff.mpr (by omega)
noncomputable def RelO:Option V → Option Value → Prop
 | some v,some u => RelV v u
 | none,none => True
 | _,_ => False
noncomputable def KV {κ:Type}:List (κ × V) → List (κ × Value) → Prop:=Paired fun (p:κ × V) (q:κ × Value) => p.1 = q.1 ∧ RelV p.2 q.2
noncomputable def kV:Key → V
 | .inl i => .int i
 | .inr x => .str x
inductive HO where
 /-- a list -/
 | lst (xs:List V)
 /-- a tuple (never changes) -/
 | tup (xs:List V)
 /-- a dict whose keys are ints and texts; one whose keys are tuples of ints and texts (the empty one is both) -/
 | dK (kvs:List (Key × V)) | dT (kvs:List (List Key × V))
 /-- a set of ints: its members,its size -/
 | set (S:Int → Bool) (n:Nat)
 /-- an instance of the class at C,its dict at dx,its attributes -/
 | ins (C dx:Addr) (fs:List (Str × V))
 /-- the dict of the instance at x -/
 | own (x:Addr)
 /-- the dict of an exception -/
 | xd (fs:List (Str × V))
 /-- a bound method,f of x -/
 | met (f x:Addr)
 /-- a range object lo,lo + 1,.. below hi -/
 | rng (lo hi:Int)
 /-- a thing that is known to the object (the script; a dict while a loop walks it): read,never written while it is so -/
 | frz (o:Obj) (u:HO)
 /-- a code object's table -/
 | tbl (ps:Array Value)
 /-- any other thing,by what is true of its one object (a def of one's own: SetO a S n:=HO.ext fun h => ..) -/
 | ext (φ:Heap → Prop)
noncomputable abbrev Hp:=Addr → Option HO
noncomputable def upd (H:Hp) (a:Addr) (o:HO):Hp:=fun b => if b = a then some o else H b
theorem upd_same {H:Hp} {a:Addr} {o:HO}:upd H a o a = some o:=by unfold upd; rw [if_pos rfl]
theorem upd_ne {H:Hp} {a b:Addr} {o:HO} (h:b ≠ a):upd H a o b = H b:=by unfold upd; rw [if_neg h]
theorem ne_of_none {H:Hp} {a b:Addr} {o:HO} (h:H a = some o) (h':H b = none):a ≠ b:=by
 intro e; subst e; rw [h] at h'; cases h'
section
variable (P:Program) (w:World)
noncomputable def ObjOk (H:Hp) (h:Heap) (a:Addr):HO → Prop
 | .lst xs => xs.length ≤ sizeLine ∧ ∃ (its:List Value) (n:Nat),Vals xs its ∧ h.get? a = some { cls:=.type "list",data:=.seq its.toArray n }
 | .tup xs => xs.length ≤ sizeLine ∧ ∃ its:List Value,Vals xs its ∧ IsTup h a its.toArray
 | .dK kvs => kvs.length ≤ sizeLine ∧ (a == sysModules) = false ∧ ∃ vs,KV kvs vs ∧ h.DictOf (mixKind P w) a vs
 | .dT kvs => kvs.length ≤ sizeLine ∧ (a == sysModules) = false ∧ ∃ xs:List (List Key × Addr × Value),
   Paired (fun (p:List Key × V) (q:List Key × Addr × Value) => p.1 = q.1 ∧ H q.2.1 = some (.tup (p.1.map kV)) ∧ RelV p.2 q.2.2) kvs xs ∧
   ∃ o es ep,h.get? a = some o ∧ o.ExactDict ∧ o.data = .dict es ep ∧ es.toList = xs.map (entryOfKey (tupleKind (mixKind P w))) ∧ (xs.map (·.1)).Nodup
 | .set S n => h.SetOf (intKind P w) a S n
 | .ins C dx fs => H dx = some (.own a) ∧ fs.length ≤ 1000 ∧ dx ≠ a ∧ h.get? a = some (PySem.W.instObj C dx) ∧
   ∃ mA,h.Ns1 dx mA ∧ (∀ f,RelO (fs.lookup f) (mA f)) ∧ PySem.Within mA (fs.map (·.1))
 | .own _ => ∃ o,h.get? a = some o
 | .xd fs => ∃ mA,h.Ns1 a mA ∧ ∀ f,RelO (fs.lookup f) (mA f)
 | .rng lo hi => ∃ t u v,h.get? a = some { cls:=.type "range",data:=.fields #[.int lo t,.int hi u,.int 1 v] }
 | .frz o u => h.get? a = some o ∧ ObjOk H h a u
 | .tbl ps => h.get? a = some { cls:=.none,data:=.fields ps }
 | .met f x => h.get? a = some (PySem.W.methodObj (.ref f) (.ref x))
 | .ext φ => φ h ∧ (∃ o,h.get? a = some o) ∧ ∀ h1 h2:Heap,φ h1 → (∀ o,h1.get? a = some o → h2.get? a = some o) → φ h2
noncomputable def HOk (H:Hp) (h:Heap):Prop:=∀ a o,H a = some o → ObjOk P w H h a o
end
section
variable {P:Program} {w:World} {H H':Hp} {h h':Heap} {a:Addr} {o:HO}
theorem ObjOk.lt (x:ObjOk P w H h a o):a < h.objs.size:=by
 cases o with
 | lst xs => obtain ⟨_,_,_,_,e⟩:=x; exact Heap.lt_size e
 | tup xs => obtain ⟨_,_,_,p⟩:=x; exact p.lt
 | dK kvs => obtain ⟨_,_,_,_,o,_,_,e,_⟩:=x; exact Heap.lt_size e
 | dT kvs => obtain ⟨_,_,_,_,o,_,_,e,_⟩:=x; exact Heap.lt_size e
 | set S n => obtain ⟨o,_,_,_,e,_⟩:=x; exact Heap.lt_size e
 | ins C dx fs => obtain ⟨_,_,_,e,_⟩:=x; exact Heap.lt_size e
 | own y => obtain ⟨_,e⟩:=x; exact Heap.lt_size e
 | xd fs => obtain ⟨_,⟨_,_,_,e,_⟩,_⟩:=x; exact Heap.lt_size e
 | rng lo hi => obtain ⟨_,_,_,e⟩:=x; exact Heap.lt_size e
 | frz ob u => obtain ⟨e,_⟩:=x; exact Heap.lt_size e
 | tbl ps => exact Heap.lt_size (show h.get? a = some _ from x)
 | met f y => exact Heap.lt_size (show h.get? a = some _ from x)
 | ext φ => obtain ⟨_,⟨_,e⟩,_⟩:=x; exact Heap.lt_size e
theorem Paired.mapP {α β:Type} {F G:α → β → Prop}:∀ {l₁:List α} {l₂:List β},Paired F l₁ l₂ → (∀ a b,F a b → G a b) → Paired G l₁ l₂
 | _,_,.nil,_ => .nil
 | _,_,.cons r t,f => .cons (f _ _ r) (Paired.mapP t f)
theorem ObjOk.stay (x:ObjOk P w H h a o) (k:∀ b u,(b = a ∨ H b = some (.own a)) → h.get? b = some u → h'.get? b = some u)
  (ho:∀ b,H b = some (.own a) → H' b = some (.own a)) (ht:∀ b xs,H b = some (.tup xs) → H' b = some (.tup xs)):ObjOk P w H' h' a o:=by
 induction o with
 | lst xs => obtain ⟨z,its,n,r,e⟩:=x; exact ⟨z,its,n,r,k _ _ (.inl rfl) e⟩
 | tup xs => obtain ⟨z,its,r,ob,e,c⟩:=x; exact ⟨z,its,r,ob,k _ _ (.inl rfl) e,c⟩
 | dK kvs => obtain ⟨z,y,vs,r,ob,es,ep,e,c⟩:=x; exact ⟨z,y,vs,r,ob,es,ep,k _ _ (.inl rfl) e,c⟩
 | dT kvs =>
  obtain ⟨z,y,xs,r,ob,es,ep,e,c⟩:=x
  exact ⟨z,y,xs,Paired.mapP r fun p q z => ⟨z.1,ht _ _ z.2.1,z.2.2⟩,ob,es,ep,k _ _ (.inl rfl) e,c⟩
 | set S n => obtain ⟨ob,es,ep,t,e,c⟩:=x; exact ⟨ob,es,ep,t,k _ _ (.inl rfl) e,c⟩
 | ins C dx fs =>
  obtain ⟨d,z,ne,e,mA,⟨od,es,ep,e2,c⟩,r⟩:=x
  exact ⟨ho _ d,z,ne,k _ _ (.inl rfl) e,mA,⟨od,es,ep,k _ _ (.inr d) e2,c⟩,r⟩
 | own y => obtain ⟨ob,e⟩:=x; exact ⟨ob,k _ _ (.inl rfl) e⟩
 | xd fs => obtain ⟨mA,⟨od,es,ep,e,c⟩,r⟩:=x; exact ⟨mA,⟨od,es,ep,k _ _ (.inl rfl) e,c⟩,r⟩
 | rng lo hi => obtain ⟨t,u,v,e⟩:=x; exact ⟨t,u,v,k _ _ (.inl rfl) e⟩
 | frz ob u ih => obtain ⟨e,q⟩:=x; exact ⟨k _ _ (.inl rfl) e,ih q⟩
 | tbl ps =>
  have e:h.get? a = some { cls:=.none,data:=.fields ps }:=x
  show h'.get? a = some { cls:=.none,data:=.fields ps }
  exact k a _ (.inl rfl) e
 | met f y =>
  have e:h.get? a = some (PySem.W.methodObj (.ref f) (.ref y)):=x
  show h'.get? a = some (PySem.W.methodObj (.ref f) (.ref y))
  exact k a _ (.inl rfl) e
 | ext φ => obtain ⟨p,⟨o,e⟩,st⟩:=x; exact ⟨st _ _ p fun o q => k _ _ (.inl rfl) q,⟨o,k _ _ (.inl rfl) e⟩,st⟩
theorem HOk.lt (x:HOk P w H h) (e:H a = some o):a < h.objs.size:=(x a o e).lt
theorem HOk.fresh (x:HOk P w H h) (e:h.objs.size ≤ a):H a = none:=by
 cases q:H a with
 | none => rfl
 | some u => exact absurd (Nat.lt_of_lt_of_le (x.lt q) e) (Nat.lt_irrefl _)
theorem HOk.kept (x:HOk P w H h) (k:∀ b u,h.get? b = some u → h'.get? b = some u):HOk P w H h':=fun a o e =>
 (x a o e).stay (fun b u _ q => k b u q) (fun _ q => q) fun _ _ q => q
theorem HOk.laid (x:HOk P w H h) (k:∀ b u,h.get? b = some u → h'.get? b = some u) (hp:h.objs.size ≤ a) (new:ObjOk P w (upd H a o) h' a o):HOk P w (upd H a o) h':=fun b u e => by
 have hn:=x.fresh hp
 by_cases hb:b = a
 ·subst hb; rw [upd_same] at e; cases e; exact new
 ·rw [upd_ne hb] at e
  exact (x b u e).stay (fun c v _ q => k c v q) (fun c q => by rw [upd_ne (ne_of_none q hn)]; exact q) fun c xs q => by rw [upd_ne (ne_of_none q hn)]; exact q
end
noncomputable def Rd (H:Hp) (a:Addr) (u:HO):Prop:=H a = some u ∨ ∃ o,H a = some (.frz o u)
theorem Rd.of {H:Hp} {a:Addr} {u:HO} (h:H a = some u):Rd H a u:=.inl h
theorem Rd.ok {P:Program} {w:World} {H:Hp} {h:Heap} {a:Addr} {u:HO} (r:Rd H a u) (x:HOk P w H h):ObjOk P w H h a u:=by
 rcases r with r | ⟨o,r⟩
 ·exact x a u r
 ·obtain ⟨_,q⟩:=x a _ r
  exact q
noncomputable def Mut:Option HO → Prop
 | some (.lst _) => True
 | some (.dK _) => True
 | some (.dT _) => True
 | some (.set _ _) => True
 | some (.ins _ _ _) => True
 | some (.ext _) => True
 | _ => False
section
variable {P:Program} {w:World} {H:Hp} {h h':Heap} {x e:Addr} {o':HO}
theorem HOk.write (ok:HOk P w H h) (mu:Mut (H x)) (he:e = x ∨ H e = some (.own x)) (k:∀ b u,b ≠ e → h.get? b = some u → h'.get? b = some u) (heo:∃ u,h'.get? e = some u)
  (new:ObjOk P w (upd H x o') h' x o'):HOk P w (upd H x o') h':=fun b u q => by
 have nown:∀ c y,H c = some (.own y) → c ≠ x:=fun c y r z => by subst z; rw [r] at mu; exact mu
 have ntup:∀ c xs,H c = some (.tup xs) → c ≠ x:=fun c xs r z => by subst z; rw [r] at mu; exact mu
 by_cases hb:b = x
 ·subst hb; rw [upd_same] at q; cases q; exact new
 ·rw [upd_ne hb] at q
  by_cases hbe:b = e
  ·have q':H b = some (.own x):=by
    rcases he with z | z
    ·exact absurd (hbe.trans z) hb
    ·rw [hbe]; exact z
   rw [q] at q'; cases q'
   obtain ⟨v,hv⟩:=heo
   exact ⟨v,by rw [hbe]; exact hv⟩
  ·refine (ok b u q).stay (fun c v hc r => k c v ?_ r) (fun c r => by rw [upd_ne (nown c b r)]; exact r) fun c xs r => by rw [upd_ne (ntup c xs r)]; exact r
   rcases hc with rfl | hc
   ·exact hbe
   ·rintro rfl
    rcases he with z | z
    ·exact nown c b hc z
    ·rw [hc] at z; cases z; exact hb rfl
end
structure Un (fs ex:List Addr) (H H':Hp) (h h':Heap):Prop where
 keep:∀ b o,h.get? b = some o → H b = none → b ∉ fs → b ∉ ex → h'.get? b = some o
 slot:∀ b o,h.get? b = some o → H b = none → b ∈ fs → b ∉ ex → ∃ sl,h'.get? b = some { o with slots:=sl }
 free:∀ b o,h.get? b = some o → H b = none → b ∉ ex → H' b = none
 there:∀ b o,h.get? b = some o → b ∉ ex → ∃ o',h'.get? b = some o'
 tups:∀ b xs,H b = some (.tup xs) → H' b = some (.tup xs)
 frzs:∀ b o u,H b = some (.frz o u) → H' b = some (.frz o u)
 tbls:∀ b ps,H b = some (.tbl ps) → ∃ more,H' b = some (.tbl (ps ++ more))
section
variable {fs fs' ex ex':List Addr} {H H1 H2:Hp} {h h1 h2 h':Heap} {a x e:Addr} {o:HO}
theorem Un.any (u:Un fs ex H H1 h h1) {b:Addr} {ob:Obj} (q:h.get? b = some ob) (n:H b = none) (hx:b ∉ ex):∃ sl,h1.get? b = some { ob with slots:=sl }:=by
 by_cases hb:b ∈ fs
 ·exact u.slot b ob q n hb hx
 ·exact ⟨ob.slots,u.keep b ob q n hb hx⟩
theorem Un.trans (a:Un fs ex H H1 h h1) (b:Un fs ex H1 H2 h1 h2):Un fs ex H H2 h h2 where
 keep:=fun c ob q n hc hx => b.keep c ob (a.keep c ob q n hc hx) (a.free c ob q n hx) hc hx
 slot:=fun c ob q n hc hx => by
  obtain ⟨sl,e1⟩:=a.slot c ob q n hc hx
  obtain ⟨sl',e2⟩:=b.slot c _ e1 (a.free c ob q n hx) hc hx
  exact ⟨sl',e2⟩
 free:=fun c ob q n hx => by
  obtain ⟨o',e1⟩:=a.there c ob q hx
  exact b.free c o' e1 (a.free c ob q n hx) hx
 there:=fun c ob q hx => by
  obtain ⟨o',e1⟩:=a.there c ob q hx
  exact b.there c o' e1 hx
 tups:=fun c xs q => b.tups c xs (a.tups c xs q)
 frzs:=fun c ob xs q => b.frzs c ob xs (a.frzs c ob xs q)
 tbls:=fun c ps q => by
  obtain ⟨m1,e1⟩:=a.tbls c ps q
  obtain ⟨m2,e2⟩:=b.tbls c _ e1
  exact ⟨m1 ++ m2,by rw [e2,Array.append_assoc]⟩
theorem Un.kept (k:∀ b u,h.get? b = some u → h'.get? b = some u):Un fs ex H H h h' :=
 ⟨fun b ob q _ _ _ => k b ob q,fun b ob q _ _ _ => ⟨ob.slots,k b ob q⟩,fun _ _ _ n _ => n,fun b ob q _ => ⟨ob,k b ob q⟩,fun _ _ q => q,fun _ _ _ q => q,fun _ ps q => ⟨#[],by rw [q]; simp⟩⟩
theorem Un.refl:Un fs ex H H h h:=Un.kept fun _ _ q => q
theorem Un.laid (k:∀ b u,h.get? b = some u → h'.get? b = some u) (hp:h.objs.size ≤ a) (hn:H a = none):Un fs ex H (upd H a o) h h' where
 keep:=fun b u q _ _ _ => k b u q
 slot:=fun b u q _ _ _ => ⟨u.slots,k b u q⟩
 free:=fun b u q n _ => by rw [upd_ne (Nat.ne_of_lt (Nat.lt_of_lt_of_le (Heap.lt_size q) hp))]; exact n
 there:=fun b u q _ => ⟨u,k b u q⟩
 tups:=fun b xs q => by rw [upd_ne (ne_of_none q hn)]; exact q
 frzs:=fun b u xs q => by rw [upd_ne (ne_of_none q hn)]; exact q
 tbls:=fun b ps q => ⟨#[],by rw [upd_ne (ne_of_none q hn),q]; simp⟩
theorem Un.write (mu:Mut (H x)) (he:e = x ∨ H e = some (.own x)) (k:∀ b u,b ≠ e → h.get? b = some u → h'.get? b = some u) (heo:∃ u,h'.get? e = some u):Un fs ex H (upd H x o) h h':=by
 have hx:∀ b,H b = none → b ≠ x:=fun b n z => by subst z; rw [n] at mu; exact mu
 have hb:∀ b,H b = none → b ≠ e:=fun b n z => by
  subst z
  rcases he with r | r
  ·exact hx b n r
  ·rw [n] at r; cases r
 have hm:∀ b u,H b = some u → ¬ Mut (some u) → b ≠ x:=fun b u q nm z => by subst z; rw [q] at mu; exact nm mu
 refine ⟨fun b u q n _ _ => k b u (hb b n) q,fun b u q n _ _ => ⟨u.slots,k b u (hb b n) q⟩,fun b u q n _ => by rw [upd_ne (hx b n)]; exact n,fun b u q _ => ?_,
  fun b xs q => by rw [upd_ne (hm b _ q fun z => z)]; exact q,fun b u xs q => by rw [upd_ne (hm b _ q fun z => z)]; exact q,fun b ps q => ⟨#[],by rw [upd_ne (hm b _ q fun z => z),q]; simp⟩⟩
 by_cases hbe:b = e
 ·subst hbe; exact heo
 ·exact ⟨u,k b u hbe q⟩
theorem Un.mono (u:Un fs ex H H1 h h1) (hs:∀ b ∈ fs,b ∈ fs') (hx:∀ b ∈ ex,b ∈ ex'):Un fs' ex' H H1 h h1 :=
 ⟨fun b ob q n hb he => u.keep b ob q n (fun z => hb (hs b z)) fun z => he (hx b z),fun _ _ q n _ he => u.any q n fun z => he (hx _ z),fun b ob q n he => u.free b ob q n fun z => he (hx b z),fun b ob q he => u.there b ob q fun z => he (hx b z),u.tups,u.frzs,u.tbls⟩
end
noncomputable def trk (h:Heap) (H:Hp):List Addr:=(List.range h.objs.size).filter fun a => (H a).isSome
noncomputable def hidT (h:Heap) (H:Hp):Heap:=PySem.W.hideAll h (trk h H)
theorem hidT_size (h:Heap) (H:Hp):(hidT h H).objs.size = h.objs.size:=PySem.W.hideAll_size _ _
theorem hidT_get {h:Heap} {H:Hp} {b:Addr} {o:Obj} (e:h.get? b = some o) (n:H b = none):(hidT h H).get? b = some o :=
 PySem.W.hideAll_get _ e fun hm => by
  have q:(H b).isSome = true:=(List.mem_filter.mp hm).2
  rw [n] at q; simp at q
theorem of_hidT {h:Heap} {H:Hp} {b:Addr} {o:Obj} (e:(hidT h H).get? b = some o):h.get? b = some o ∧ H b = none:=by
 have e':h.get? b = some o:=PySem.W.of_hideAll (trk h H) e
 refine ⟨e',?_⟩
 cases q:H b with
 | none => rfl
 | some x =>
  have hm:b ∈ trk h H:=List.mem_filter.mpr ⟨List.mem_range.mpr (Heap.lt_size e'),by simp [q]⟩
  have z:(hidT h H).get? b = none:=PySem.W.hideAll_none (trk h H) hm
  rw [z] at e; cases e
noncomputable def allNews (g h:Heap) (L:Addr):List (Addr × Obj):=(List.range h.objs.size).filterMap fun a => if a = L ∨ (g.get? a).isSome = true then none else (h.get? a).map fun o => (a,o)
noncomputable def rest (g h:Heap) (L d:Addr):List (Addr × Obj):=(allNews g h L).filter fun p => decide (p.1 ≠ d)
end L2
namespace L2
open PySem PySem.Spec PyProof.Rows
structure Mod (K:PySem.W.Frag) (mg:Str → Option Value) (base:Heap):Prop where
 kin:K.In base
 glob:base.Ns mainGlobals mg
 blt:∃ mb,base.Ns builtinsNs mb ∧ ∀ x:Str,x ≠ "__name__" → mb x = bootBuiltins x
 nolimit:base.NoLimit
structure Cx where
 prog:Program
 w:World
 K:PySem.W.Frag
 mg:Str → Option Value
 base:Heap
 A:Around
 N:List Str
 s₀:Shared
 H₀:Hp
 env:Env
 outer:List Env
 stack:List Env
 ex:List Addr
 fn:Str → Bool
 calm:Bool
 pn:List (Addr × Obj)
 xe:Value → Shared → Prop
noncomputable def frs (l:List Env):List Addr:=l.filterMap (·.frame)
noncomputable abbrev Cx.fs (X:Cx):List Addr:=frs X.outer
noncomputable def Vis (sc:Scope) (x:Str):Prop:=sc.names.lookup x = some .local ∨ sc.names.lookup x = some .cell ∨ sc.names.lookup x = some .free
noncomputable def Loc (sc:Scope) (x:Str):Prop:=sc.names.lookup x = some .local ∨ sc.names.lookup x = some .cell
noncomputable def Look (env:Env) (h:Heap) (m:Str → Option Value) (x:Str) (u:Value):Prop :=
 (env.kindOf x = some .local ∧ m x = some u) ∨ ((env.kindOf x = some .cell ∨ env.kindOf x = some .free) ∧ ∃ c,env.cells.lookup x = some c ∧ h.IsCell c (some u))
structure Cx.Ok (X:Cx):Prop where
 mod:Mod X.K X.mg X.base
 kind:X.env.scope.kind = .function
 glob:X.env.globals = mainGlobals
 blt:X.env.builtins = builtinsNs
 above:X.s₀.heap.objs.size ≤ X.env.locals
 inj:∀ x y c,X.env.cells.lookup x = some c → X.env.cells.lookup y = some c → x = y
 has:∀ x,(X.env.kindOf x = some .cell ∨ X.env.kindOf x = some .free) → ∃ c,X.env.cells.lookup x = some c
 cab:∀ x c,X.fn x = true → X.env.cells.lookup x = some c → X.s₀.heap.objs.size ≤ c
 hd:X.calm = true → X.A.handled = none
 frames:X.A.frames = some X.stack
 stk:X.stack = X.outer ∨ (X.stack = X.env :: X.outer ∧ X.env.frame = some X.env.locals)
 exf:∀ b ∈ X.ex,b ≠ X.env.locals ∧ ∀ x c,X.env.cells.lookup x = some c → c ≠ b
 bs:∀ b o,X.base.get? b = some o → X.s₀.heap.get? b = some o ∧ X.H₀ b = none
 bsz:X.base.objs.size ≤ X.s₀.heap.objs.size
 noex:∀ b o,X.base.get? b = some o → b ∉ X.ex
 exfs:∀ b ∈ X.ex,b ∉ X.fs
 funs:X.s₀.heap.FunFrames X.base X.outer
 frf:∀ b ∈ X.fs,X.H₀ b = none
structure Inv (X:Cx) (pins:List (Addr × Obj)) (σ:List (Option V)) (H:Hp) (s:Shared):Prop where
 ok:X.Ok
 os:s.os = X.s₀.os
 bare:AllBare s.gens
 base:Un X.fs X.ex X.H₀ H X.s₀.heap s.heap
 loc:∃ m,s.heap.Ns X.env.locals m ∧ ∀ (i:Nat) (x:Str) (v:V),X.N[i]? = some x → σ[i]? = some (some v) → Vis X.env.scope x → ∃ u,RelV v u ∧ Look X.env s.heap m x u
 cell:∀ x c,X.env.cells.lookup x = some c → ∃ v,s.heap.IsCell c v
 free:H X.env.locals = none
 freeC:∀ x c,X.env.cells.lookup x = some c → H c = none
 pin:∀ p ∈ X.pn ++ pins,s.heap.get? p.1 = some p.2 ∧ H p.1 = none ∧ p.1 ≠ X.env.locals ∧ p.1 ∉ X.fs ∧ ∀ v,p.2.data ≠ .cell v
 hok:HOk X.prog X.w H s.heap
 len:σ.length = X.N.length
section
variable {X:Cx} {pins:List (Addr × Obj)} {σ:List (Option V)} {H H':Hp} {s:Shared} {h':Heap}
theorem Cx.Ok.nofr (ok:X.Ok) {b:Addr} {o:Obj} (e:X.base.get? b = some o):b ∉ X.fs:=fun hb => by
 have:=(ok.funs.mem hb).1
 rw [e] at this; cases this
theorem Inv.bs (I:Inv X pins σ H s):∀ b o,X.base.get? b = some o → s.heap.get? b = some o ∧ H b = none:=fun b o e =>
 ⟨I.base.keep b o (I.ok.bs b o e).1 (I.ok.bs b o e).2 (I.ok.nofr e) (I.ok.noex b o e),I.base.free b o (I.ok.bs b o e).1 (I.ok.bs b o e).2 (I.ok.noex b o e)⟩
theorem Inv.bk (I:Inv X pins σ H s):∀ b o,X.base.get? b = some o → s.heap.get? b = some o:=fun b o e => (I.bs b o e).1
theorem Inv.mod (I:Inv X pins σ H s):Mod X.K X.mg X.base:=I.ok.mod
theorem Inv.kIn (I:Inv X pins σ H s):X.K.In s.heap:=I.ok.mod.kin.keeps I.bk
theorem Inv.nolimit (I:Inv X pins σ H s):s.heap.NoLimit:=I.ok.mod.nolimit.keeps I.bk
theorem Inv.lt (I:Inv X pins σ H s):X.env.locals < s.heap.objs.size:=let ⟨_,hn,_⟩:=I.loc; hn.lt
theorem Inv.sz (I:Inv X pins σ H s):X.s₀.heap.objs.size ≤ s.heap.objs.size:=Nat.le_trans I.ok.above (Nat.le_of_lt I.lt)
theorem Inv.nofs (I:Inv X pins σ H s) {a:Addr} (h:s.heap.objs.size ≤ a):a ∉ X.fs:=fun hb => by
 obtain ⟨_,o,ho,_⟩:=I.ok.funs.mem hb
 exact absurd (Nat.lt_of_lt_of_le (Heap.lt_size ho) (Nat.le_trans I.sz h)) (Nat.lt_irrefl _)
theorem Inv.cne (I:Inv X pins σ H s):∀ x c,X.env.cells.lookup x = some c → c ≠ X.env.locals:=fun x c e z => by
 obtain ⟨v,o,ho,hd⟩:=I.cell x c e
 obtain ⟨m,⟨o',es,ep,ho',hd',_⟩,_⟩:=I.loc
 rw [z,ho'] at ho; cases ho; rw [hd'] at hd; cases hd
theorem Inv.funs (I:Inv X pins σ H s):s.heap.FunFrames X.base X.outer:=by
 have all:∀ (l:List Env),(∀ b ∈ frs l,b ∈ X.fs) → X.s₀.heap.FunFrames X.base l → s.heap.FunFrames X.base l:=by
  intro l
  induction l with
  | nil => intro _ _; trivial
  | cons env r ih =>
   intro hs hl
   obtain ⟨hk,⟨L,o,hf,hn,ho,hd⟩,hr⟩:=hl
   have hL:L ∈ X.fs:=hs L (by unfold frs; rw [List.filterMap_cons,hf]; exact List.mem_cons_self)
   obtain ⟨sl,e⟩:=I.base.slot L o ho (I.ok.frf L hL) hL fun z => I.ok.exfs L z hL
   exact ⟨hk,⟨L,_,hf,hn,e,hd⟩,ih (fun b hb => hs b (by unfold frs; rw [List.filterMap_cons,hf]; exact List.mem_cons_of_mem _ hb)) hr⟩
 exact all X.outer (fun _ hb => hb) I.ok.funs
theorem Inv.stack (I:Inv X pins σ H s):s.heap.FunFrames X.base X.stack:=by
 rcases I.ok.stk with e | ⟨e,hf⟩
 ·rw [e]; exact I.funs
 ·rw [e]
  obtain ⟨m,hn,_⟩:=I.loc
  refine .cons (by rw [I.ok.kind]; decide) hf hn ?_ I.funs
  exact Heap.get?_none_of_le (Nat.le_trans I.ok.bsz I.ok.above)
theorem Inv.stkSub (I:Inv X pins σ H s):∀ b ∈ frs X.stack,b ∈ X.env.locals :: X.fs:=fun b hb => by
 rcases I.ok.stk with e | ⟨e,hf⟩
 ·rw [e] at hb; exact List.mem_cons_of_mem _ hb
 ·rw [e] at hb
  unfold frs at hb
  rw [List.filterMap_cons,hf] at hb
  exact hb
theorem Inv.stkFree (I:Inv X pins σ H s):∀ b ∈ frs X.stack,H b = none:=fun b hb => by
 rcases List.mem_cons.mp (I.stkSub b hb) with e | hb
 ·rw [e]; exact I.free
 ·obtain ⟨_,o,ho,_⟩:=I.ok.funs.mem hb
  exact I.base.free b o ho (I.ok.frf b hb) fun z => I.ok.exfs b z hb
theorem Inv.step {g':Array GenState} {t':Nat} {d':Drawn} {ch:List Addr} (I:Inv X pins σ H s)
  (hch:∀ b ∈ ch,(b ∈ X.ex ∨ X.s₀.heap.objs.size ≤ b) ∧ b ≠ X.env.locals ∧ (∀ x c,X.env.cells.lookup x = some c → c ≠ b) ∧ ∀ p ∈ X.pn ++ pins,p.1 ≠ b)
  (keep:∀ b o,b ≠ X.env.locals → b ∉ X.fs → b ∉ ch → s.heap.get? b = some o → H b = none → h'.get? b = some o)
  (slot:∀ b o,b ≠ X.env.locals → b ∈ X.fs → b ∉ ch → s.heap.get? b = some o → H b = none → ∃ sl,h'.get? b = some { o with slots:=sl }) (free:∀ b o,b ∉ ch → s.heap.get? b = some o → H b = none → H' b = none)
  (there:∀ b o,b ∉ ch → s.heap.get? b = some o → ∃ o',h'.get? b = some o')
  (tups:∀ b xs,H b = some (.tup xs) → H' b = some (.tup xs)) (frzs:∀ b o u,H b = some (.frz o u) → H' b = some (.frz o u)) (tbls:∀ b ps,H b = some (.tbl ps) → ∃ more,H' b = some (.tbl (ps ++ more)))
  (ns:∀ m,s.heap.Ns X.env.locals m → h'.Ns X.env.locals m) (hok:HOk X.prog X.w H' h') (hg:AllBare g') :
  Inv X pins σ H' { s with heap:=h',gens:=g',drawn:=d',toks:=t' }:=by
 have neL:∀ b o,X.s₀.heap.get? b = some o → b ≠ X.env.locals:=fun b o e => Nat.ne_of_lt (Nat.lt_of_lt_of_le (Heap.lt_size e) I.ok.above)
 have neC:∀ b o,X.s₀.heap.get? b = some o → b ∉ X.ex → b ∉ ch:=fun b o e hx hb => by
  rcases (hch b hb).1 with z | z
  ·exact hx z
  ·exact absurd (Nat.lt_of_lt_of_le (Heap.lt_size e) z) (Nat.lt_irrefl _)
 have cellK:∀ x c,X.env.cells.lookup x = some c → ∀ v,s.heap.IsCell c v → h'.IsCell c v:=fun x c e v z4_ => by
  obtain ⟨o,ho,hd⟩:=z4_
  have nch:c ∉ ch:=fun z => (hch c z).2.2.1 x c e rfl
  by_cases hc:c ∈ X.fs
  ·obtain ⟨sl,q⟩:=slot c o (I.cne x c e) hc nch ho (I.freeC x c e)
   exact ⟨_,q,hd⟩
  ·exact ⟨o,keep c o (I.cne x c e) hc nch ho (I.freeC x c e),hd⟩
 refine ⟨I.ok,I.os,hg,⟨fun b o e n hb hx => ?_,fun b o e n hb hx => ?_,fun b o e n hx => ?_,fun b o e hx => ?_,fun b xs e => tups b xs (I.base.tups b xs e),fun b o xs e => frzs b o xs (I.base.frzs b o xs e),fun b ps e => ?_⟩,?_,fun x c e => ?_,?_,fun x c e => ?_,fun p hp => ?_,hok,I.len⟩
 ·exact keep b o (neL b o e) hb (neC b o e hx) (I.base.keep b o e n hb hx) (I.base.free b o e n hx)
 ·obtain ⟨sl,e1⟩:=I.base.slot b o e n hb hx
  obtain ⟨sl',e2⟩:=slot b _ (neL b o e) hb (neC b o e hx) e1 (I.base.free b o e n hx)
  exact ⟨sl',e2⟩
 ·obtain ⟨o',e1⟩:=I.base.there b o e hx
  exact free b o' (neC b o e hx) e1 (I.base.free b o e n hx)
 ·obtain ⟨o',e1⟩:=I.base.there b o e hx
  exact there b o' (neC b o e hx) e1
 ·obtain ⟨m1,e1⟩:=I.base.tbls b ps e
  obtain ⟨m2,e2⟩:=tbls b _ e1
  exact ⟨m1 ++ m2,by rw [e2,Array.append_assoc]⟩
 ·obtain ⟨m,hn,hl⟩:=I.loc
  refine ⟨m,ns m hn,fun i x v e1 e2 e3 => ?_⟩
  obtain ⟨u,r,l⟩:=hl i x v e1 e2 e3
  refine ⟨u,r,?_⟩
  rcases l with l | ⟨k,c,e,z⟩
  ·exact .inl l
  ·exact .inr ⟨k,c,e,cellK x c e _ z⟩
 ·obtain ⟨v,z⟩:=I.cell x c e
  exact ⟨v,cellK x c e v z⟩
 ·obtain ⟨m,⟨o,_,_,ho,_⟩,_⟩:=I.loc
  exact free _ o (fun z => (hch _ z).2.1 rfl) ho I.free
 ·obtain ⟨v,o,ho,hd⟩:=I.cell x c e
  exact free c o (fun z => (hch c z).2.2.1 x c e rfl) ho (I.freeC x c e)
 ·obtain ⟨e,n,ne,nf,d⟩:=I.pin p hp
  have nch:p.1 ∉ ch:=fun z => (hch p.1 z).2.2.2 p hp rfl
  exact ⟨keep p.1 p.2 ne nf nch e n,free p.1 p.2 nch e n,ne,nf,d⟩
theorem Inv.un {t':Nat} (I:Inv X pins σ H s) (u:Un X.fs [] H H' s.heap h') (hok:HOk X.prog X.w H' h'):Inv X pins σ H' { s with heap:=h',toks:=t' }:=by
 obtain ⟨m,⟨o,es,ep,ho,r⟩,_⟩:=id I.loc
 obtain ⟨sl,hL⟩:=u.any ho I.free (by simp)
 exact I.step (g':=s.gens) (d':=s.drawn) (ch:=[]) (fun _ z => nomatch z) (fun b o _ hb _ e n => u.keep b o e n hb (by simp)) (fun b o _ hb _ e n => u.slot b o e n hb (by simp)) (fun b o _ e n => u.free b o e n (by simp)) (fun b o _ e => u.there b o e (by simp)) u.tups u.frzs u.tbls (fun m' hm => by
  obtain ⟨o',es',ep',ho',r'⟩:=hm
  rw [ho] at ho'; cases ho'
  exact ⟨_,es',ep',hL,r'⟩) hok I.bare
theorem Inv.call {g':Array GenState} {t':Nat} {d':Drawn} {ch:List Addr} (I:Inv X pins σ H s) (u:Un (frs X.stack) ch H H' s.heap h') (hok:HOk X.prog X.w H' h') (hg:AllBare g')
  (hch:∀ b ∈ ch,(b ∈ X.ex ∨ X.s₀.heap.objs.size ≤ b) ∧ b ≠ X.env.locals ∧ (∀ x c,X.env.cells.lookup x = some c → c ≠ b) ∧ ∀ p ∈ X.pn ++ pins,p.1 ≠ b) :
  Inv X pins σ H' { s with heap:=h',gens:=g',drawn:=d',toks:=t' }:=by
 obtain ⟨m,⟨o,es,ep,ho,r⟩,_⟩:=id I.loc
 obtain ⟨sl,hL⟩:=u.any ho I.free fun z => (hch _ z).2.1 rfl
 exact I.step (ch:=ch) hch (fun b o hL hb hc e n => u.keep b o e n (fun z => (List.mem_cons.mp (I.stkSub b z)).elim hL hb) hc) (fun b o _ _ hc e n => u.any e n hc) (fun b o hc e n => u.free b o e n hc) (fun b o hc e => u.there b o e hc) u.tups u.frzs u.tbls (fun m' hm => by
  obtain ⟨o',es',ep',ho',r'⟩:=hm
  rw [ho] at ho'; cases ho'
  exact ⟨_,es',ep',hL,r'⟩) hok hg
theorem Inv.turned {t':Nat} {it:Addr} (I:Inv X pins σ H s) (k:∀ b o,b ≠ it → s.heap.get? b = some o → h'.get? b = some o) (hn:H it = none) (hL:it ≠ X.env.locals)
  (h1:it ∈ X.ex ∨ X.s₀.heap.objs.size ≤ it) (h2:∀ x c,X.env.cells.lookup x = some c → c ≠ it) (h3:∀ p ∈ X.pn ++ pins,p.1 ≠ it):Inv X pins σ H { s with heap:=h',toks:=t' }:=by
 have nit:∀ b u,H b = some u → b ≠ it:=fun b u e z => by rw [z,hn] at e; cases e
 refine I.step (g':=s.gens) (d':=s.drawn) (ch:=[it]) (fun b hb => ?_) (fun b o _ _ hc e _ => k b o (fun z => hc (by simp [z])) e) (fun b o _ _ hc e _ => ⟨o.slots,k b o (fun z => hc (by simp [z])) e⟩) (fun _ _ _ _ n => n)
  (fun b o hc e => ⟨o,k b o (fun z => hc (by simp [z])) e⟩) (fun _ _ e => e) (fun _ _ _ e => e) (fun b ps e => ⟨#[],by rw [e]; simp⟩) (fun m hm => ?_) (fun b u e => ?_) I.bare
 ·have e:b = it:=by simpa using hb
  subst e
  exact ⟨h1,hL,h2,h3⟩
 ·obtain ⟨o,es,ep,ho,r⟩:=hm
  exact ⟨o,es,ep,k _ o (Ne.symm hL) ho,r⟩
 ·refine (I.hok b u e).stay (fun c v hc q => k c v ?_ q) (fun _ q => q) fun _ _ q => q
  rcases hc with z | z
  ·rw [z]; exact nit b u e
  ·exact nit c _ z
theorem Inv.tok (I:Inv X pins σ H s) (t:Nat):Inv X pins σ H { s with toks:=t }:=I.un (h':=s.heap) (t':=t) Un.refl I.hok
theorem Inv.kept {t':Nat} (I:Inv X pins σ H s) (k:∀ b u,s.heap.get? b = some u → h'.get? b = some u):Inv X pins σ H { s with heap:=h',toks:=t' }:=I.un (Un.kept k) (I.hok.kept k)
theorem Inv.laid {a:Addr} {o:HO} {t':Nat} (I:Inv X pins σ H s) (k:∀ b u,s.heap.get? b = some u → h'.get? b = some u) (hp:s.heap.objs.size ≤ a) (new:ObjOk X.prog X.w (upd H a o) h' a o) :
  Inv X pins σ (upd H a o) { s with heap:=h',toks:=t' }:=I.un (Un.laid k hp (I.hok.fresh hp)) (I.hok.laid k hp new)
theorem Inv.write {x e:Addr} {o:HO} {t':Nat} (I:Inv X pins σ H s) (mu:Mut (H x)) (he:e = x ∨ H e = some (.own x)) (k:∀ b u,b ≠ e → s.heap.get? b = some u → h'.get? b = some u) (heo:∃ u,h'.get? e = some u)
  (new:ObjOk X.prog X.w (upd H x o) h' x o):Inv X pins σ (upd H x o) { s with heap:=h',toks:=t' }:=I.un (Un.write mu he k heo) (I.hok.write mu he k heo new)
theorem Inv.pins_of {pins':List (Addr × Obj)} (I:Inv X pins σ H s) (h:∀ p ∈ pins',s.heap.get? p.1 = some p.2 ∧ H p.1 = none ∧ p.1 ≠ X.env.locals ∧ p.1 ∉ X.fs ∧ ∀ v,p.2.data ≠ .cell v):Inv X pins' σ H s :=
 ⟨I.ok,I.os,I.bare,I.base,I.loc,I.cell,I.free,I.freeC,fun p hp => (List.mem_append.mp hp).elim (fun z => I.pin p (List.mem_append_left _ z)) (h p),I.hok,I.len⟩
theorem nodup_ix {N:List Str} (hN:N.Nodup) {i j:Nat} {x:Str} (a:N[i]? = some x) (b:N[j]? = some x):i = j:=by
 obtain ⟨h1,e1⟩:=List.getElem?_eq_some_iff.mp a
 obtain ⟨h2,e2⟩:=List.getElem?_eq_some_iff.mp b
 exact (List.getElem_inj hN).mp (e1.trans e2.symm)
theorem store_ok2 {M:Model} {A:Around} {E:Value → Shared → Prop} {i:Nat} {x:Str} {v:V} {u:Value} {Q:Unit → Shared → Prop} (I:Inv X pins σ H s) (hN:X.N.Nodup) (hi:X.N[i]? = some x) (hx:Loc X.env.scope x) (r:RelV v u)
  (h:∀ s',Inv X pins (σ.set i (some v)) H s' → (∃ a,Heap.SameBut a s.heap s'.heap ∧ (a = X.env.locals ∨ X.env.cells.lookup x = some a)) → Q () s') (hf:X.fn x = true ∨ X.env.scope.names.lookup x = some .local:=by first | exact .inl rfl | exact .inr rfl | assumption):wpAny M A (storeName X.env x u) Q E s:=by
 obtain ⟨m,hn,hl⟩:=id I.loc
 have hcls:(X.env.scope.kind == .class || (X.env.scope.kind == .module && X.env.locals != X.env.globals)) = false:=by rw [I.ok.kind]; rfl
 have hiσ:i < σ.length:=by rw [I.len]; exact (List.getElem?_eq_some_iff.mp hi).1
 have cne:=I.cne
 have tracked:∀ {a:Addr} {h':Heap},(∃ o,s.heap.get? a = some o ∧ H a = none) → Heap.SameBut a s.heap h' → HOk X.prog X.w H h':=fun {a h'} ha hs b ob e => by
  obtain ⟨_,_,hfree⟩:=ha
  refine (I.hok b ob e).stay (fun c w' hc q => (hs.2 c ?_).trans q) (fun _ q => q) fun _ _ q => q
  rintro rfl
  rcases hc with rfl | hc
  ·rw [hfree] at e; cases e
  ·rw [hfree] at hc; cases hc
 rcases hx with hk | hk
 ·refine wpAny_storeName_local hk hn (fun h' hn' hs => ?_) hcls
  obtain ⟨oL,_,_,hoL,_⟩:=id hn
  refine h _ ⟨I.ok,I.os,I.bare,⟨fun b o e n hb hx => ?_,fun b o e n hb hx => ?_,I.base.free,fun b o e hx => ?_,I.base.tups,I.base.frzs,I.base.tbls⟩,⟨_,hn',fun j y v' e1 e2 e3 => ?_⟩,fun y c e => ?_,I.free,I.freeC,fun p hp => ?_,tracked ⟨oL,hoL,I.free⟩ hs,by simpa using I.len⟩ ⟨_,hs,.inl rfl⟩
  ·exact (hs.2 b (Nat.ne_of_lt (Nat.lt_of_lt_of_le (Heap.lt_size e) I.ok.above))).trans (I.base.keep b o e n hb hx)
  ·obtain ⟨sl,e1⟩:=I.base.slot b o e n hb hx
   exact ⟨sl,(hs.2 b (Nat.ne_of_lt (Nat.lt_of_lt_of_le (Heap.lt_size e) I.ok.above))).trans e1⟩
  ·obtain ⟨o',e1⟩:=I.base.there b o e hx
   exact ⟨o',(hs.2 b (Nat.ne_of_lt (Nat.lt_of_lt_of_le (Heap.lt_size e) I.ok.above))).trans e1⟩
  ·by_cases hj:j = i
   ·subst hj
    rw [hi] at e1; cases e1
    rw [List.getElem?_set_self hiσ] at e2
    cases e2
    exact ⟨u,r,.inl ⟨hk,by simp⟩⟩
   ·rw [List.getElem?_set_ne (Ne.symm hj)] at e2
    obtain ⟨u',r',q⟩:=hl j y v' e1 e2 e3
    refine ⟨u',r',?_⟩
    rcases q with ⟨k,e⟩ | ⟨k,c,e,z⟩
    ·refine .inl ⟨k,?_⟩
     have:y ≠ x:=fun e => hj (nodup_ix hN e1 (e ▸ hi))
     simp [this,e]
    ·exact .inr ⟨k,c,e,z.sameBut hs (cne y c e)⟩
  ·obtain ⟨w',z⟩:=I.cell y c e
   exact ⟨w',z.sameBut hs (cne y c e)⟩
  ·obtain ⟨e,n,ne,nf,d⟩:=I.pin p hp
   exact ⟨(hs.2 p.1 ne).trans e,n,ne,nf,d⟩
 ·have hfn:X.fn x = true:=by
   rcases hf with z | z
   ·exact z
   ·rw [z] at hk; cases hk
  obtain ⟨c,hc⟩:=I.ok.has x (.inl hk)
  obtain ⟨w',z⟩:=I.cell x c hc
  refine wpAny_storeName_cell I.ok.kind hk hc z (fun h' hc' hs => ?_)
  obtain ⟨oc,hoc,hocd⟩:=id z
  refine h { s with heap:=h' } ⟨I.ok,I.os,I.bare,⟨fun b o e n hb hx => ?_,fun b o e n hb hx => ?_,I.base.free,fun b o e hx => ?_,I.base.tups,I.base.frzs,I.base.tbls⟩,⟨m,hn.sameBut hs (Ne.symm (cne x c hc)),fun j y v' e1 e2 e3 => ?_⟩,fun y c' e => ?_,I.free,I.freeC,fun p hp => ?_,tracked ⟨oc,hoc,I.freeC x c hc⟩ hs,by simpa using I.len⟩ ⟨c,hs,.inr hc⟩
  ·exact (hs.2 b (Nat.ne_of_lt (Nat.lt_of_lt_of_le (Heap.lt_size e) (I.ok.cab x c hfn hc)))).trans (I.base.keep b o e n hb hx)
  ·obtain ⟨sl,e1⟩:=I.base.slot b o e n hb hx
   exact ⟨sl,(hs.2 b (Nat.ne_of_lt (Nat.lt_of_lt_of_le (Heap.lt_size e) (I.ok.cab x c hfn hc)))).trans e1⟩
  ·obtain ⟨o',e1⟩:=I.base.there b o e hx
   exact ⟨o',(hs.2 b (Nat.ne_of_lt (Nat.lt_of_lt_of_le (Heap.lt_size e) (I.ok.cab x c hfn hc)))).trans e1⟩
  ·by_cases hj:j = i
   ·subst hj
    rw [hi] at e1; cases e1
    rw [List.getElem?_set_self hiσ] at e2
    cases e2
    exact ⟨u,r,.inr ⟨.inl hk,c,hc,hc'⟩⟩
   ·rw [List.getElem?_set_ne (Ne.symm hj)] at e2
    obtain ⟨u',r',q⟩:=hl j y v' e1 e2 e3
    refine ⟨u',r',?_⟩
    rcases q with q | ⟨k,c',e,z'⟩
    ·exact .inl q
    ·refine .inr ⟨k,c',e,z'.sameBut hs ?_⟩
     rintro rfl
     exact hj (nodup_ix hN e1 (I.ok.inj _ _ _ e hc ▸ hi))
  ·by_cases hcc:c' = c
   ·subst hcc; exact ⟨_,hc'⟩
   ·obtain ⟨w2,z2⟩:=I.cell y c' e
    exact ⟨w2,z2.sameBut hs hcc⟩
  ·obtain ⟨e,n,ne,nf,d⟩:=I.pin p hp
   refine ⟨(hs.2 p.1 ?_).trans e,n,ne,nf,d⟩
   intro q
   rw [q,hoc] at e
   have q':oc = p.2:=Option.some.inj e
   exact d w' (by rw [← q']; exact hocd)
theorem store_ok {M:Model} {A:Around} {E:Value → Shared → Prop} {i:Nat} {x:Str} {v:V} {u:Value} {Q:Unit → Shared → Prop} (I:Inv X pins σ H s) (hN:X.N.Nodup) (hi:X.N[i]? = some x) (hx:Loc X.env.scope x) (r:RelV v u)
  (h:∀ s',Inv X pins (σ.set i (some v)) H s' → Q () s') (hf:X.fn x = true ∨ X.env.scope.names.lookup x = some .local:=by first | exact .inl rfl | exact .inr rfl | assumption):wpAny M A (storeName X.env x u) Q E s :=
 store_ok2 I hN hi hx r (fun s' I' _ => h s' I') hf
theorem Inv.call' {s':Shared} {ch:List Addr} (I:Inv X pins σ H s) (ho:s'.os = s.os) (u:Un (frs X.stack) ch H H' s.heap s'.heap) (hok:HOk X.prog X.w H' s'.heap) (hg:AllBare s'.gens)
  (hch:∀ b ∈ ch,(b ∈ X.ex ∨ X.s₀.heap.objs.size ≤ b) ∧ b ≠ X.env.locals ∧ (∀ x c,X.env.cells.lookup x = some c → c ≠ b) ∧ ∀ p ∈ X.pn ++ pins,p.1 ≠ b):Inv X pins σ H' s':=by
 obtain ⟨h',g',d',t',o'⟩:=s'
 have e:o' = s.os:=ho
 subst e
 exact I.call (g':=g') (t':=t') (d':=d') u hok hg hch
end
noncomputable abbrev XK:=Value → Option Addr → Hp → Prop
noncomputable abbrev St:=List (Option V)
noncomputable abbrev VK:=V → Hp → Prop
noncomputable abbrev TE:=St → Hp → VK → Prop
noncomputable abbrev TT:=St → Hp → (Bool → Hp → Prop) → Prop
noncomputable abbrev TA:=St → Hp → (List V → Hp → Prop) → Prop
structure Ends where
 nx:St → Hp → Prop
 rt:VK
 bk:St → Hp → Prop:=fun _ _ => False
 ct:St → Hp → Prop:=fun _ _ => False
noncomputable abbrev TS:=Ends → St → Hp → Prop
noncomputable def EP (X:Cx) (pins:List (Addr × Obj)) (σ:St) (Q:VK) (u:Value) (s':Shared):Prop:=∃ v H',Inv X pins σ H' s' ∧ RelV v u ∧ Q v H'
noncomputable def TP (X:Cx) (pins:List (Addr × Obj)) (σ:St) (Q:Bool → Hp → Prop) (b:Bool) (s':Shared):Prop:=∃ H',Inv X pins σ H' s' ∧ Q b H'
noncomputable def AP (X:Cx) (pins:List (Addr × Obj)) (σ:St) (Q:List V → Hp → Prop) (us:List Value) (s':Shared):Prop:=∃ vs H',Inv X pins σ H' s' ∧ Vals vs us ∧ Q vs H'
noncomputable def SP (X:Cx) (pins:List (Addr × Obj)) (D:Ends) (f:Flow) (s':Shared):Prop :=
 match f with
 | .next => ∃ σ' H',Inv X pins σ' H' s' ∧ D.nx σ' H'
 | .brk => ∃ σ' H',Inv X pins σ' H' s' ∧ D.bk σ' H'
 | .cont => ∃ σ' H',Inv X pins σ' H' s' ∧ D.ct σ' H'
 | .ret u => ∃ v σ' H',Inv X pins σ' H' s' ∧ RelV v u ∧ D.rt v H'
noncomputable def PE (X:Cx) (e:Expr) (t:TE):Prop :=
 ∀ (pins:List (Addr × Obj)) (s:Shared) (σ:St) (H:Hp) (Q:VK),Inv X pins σ H s → t σ H Q → wpAny (model X.prog X.w) X.A (eval e X.env) (EP X pins σ Q) X.xe s
noncomputable def PT (X:Cx) (e:Expr) (t:TT):Prop :=
 ∀ (pins:List (Addr × Obj)) (s:Shared) (σ:St) (H:Hp) (Q:Bool → Hp → Prop),Inv X pins σ H s → t σ H Q → wpAny (model X.prog X.w) X.A (isTrue e X.env (eval e X.env)) (TP X pins σ Q) X.xe s
noncomputable def PW (X:Cx) (e:Expr) (t:TT):Prop :=
 ∀ (whole:Sem Value) (pins:List (Addr × Obj)) (s:Shared) (σ:St) (H:Hp) (Q:Bool → Hp → Prop),Inv X pins σ H s → t σ H Q → wpAny (model X.prog X.w) X.A (isTrue e X.env whole) (TP X pins σ Q) X.xe s
theorem PW.pt {X:Cx} {e:Expr} {t:TT} (h:PW X e t):PT X e t:=h _
noncomputable def PA (X:Cx) (es:List Expr) (t:TA):Prop :=
 ∀ (pos:Pos) (pins:List (Addr × Obj)) (s:Shared) (σ:St) (H:Hp) (Q:List V → Hp → Prop),Inv X pins σ H s → t σ H Q → wpAny (model X.prog X.w) X.A (spliced (backTo pos (starEach es X.env))) (AP X pins σ Q) X.xe s
noncomputable def PS (X:Cx) (st:Stmt) (t:TS):Prop :=
 ∀ (pins:List (Addr × Obj)) (s:Shared) (σ:St) (H:Hp) (D:Ends),Inv X pins σ H s → t D σ H → wpAny (model X.prog X.w) X.A (exec st X.env) (SP X pins D) X.xe s
noncomputable def PSs (X:Cx) (st:List Stmt) (t:TS):Prop :=
 ∀ (pins:List (Addr × Obj)) (s:Shared) (σ:St) (H:Hp) (D:Ends),Inv X pins σ H s → t D σ H → wpAny (model X.prog X.w) X.A (execs st X.env) (SP X pins D) X.xe s
theorem thn {α:Type} {t:Sem α} {Q Q':α → Shared → Prop} {M:Model} {A:Around} {E:Value → Shared → Prop} {s:Shared} (h:wpAny M A t Q E s) (hQ:∀ a s,Q a s → Q' a s):wpAny M A t Q' E s:=wpAny_mono h hQ fun _ _ x => x
end L2
namespace L2
open PySem PySem.Spec PyProof.Rows
section
variable {X:Cx}
noncomputable def tVar (i:Nat):TE:=fun σ H Q => ∃ v,σ[i]? = some (some v) ∧ Q v H
noncomputable def tC (v:V):TE:=fun _ H Q => Q v H
theorem pe_var {i:Nat} {x:Str} {pos:Pos} (hN:X.N[i]? = some x) (hv:Vis X.env.scope x) (hd:(x == ("__debug__":Str)) = false:=by decide) (hcd:(x == ("__classdict__":Str)) = false:=by decide):PE X (.Name x pos) (tVar i):=by
 intro pins s σ H Q I h
 obtain ⟨v,e,h⟩:=h
 obtain ⟨m,hn,hl⟩:=I.loc
 obtain ⟨u,r,l⟩:=hl i x v hN e hv
 have fin:EP X pins σ Q u s:=⟨v,H,I,r,h⟩
 rcases l with ⟨hk,hm⟩ | ⟨hk,c,hc,hcell⟩
 ·exact wpAny_Name (wpAny_loadName_local I.ok.kind hk hn hm fin) hd
 ·rcases hk with hk | hk
  ·exact wpAny_Name (wpAny_loadName_cell I.ok.kind hk hc hcell fin) hd
  ·exact wpAny_Name (wpAny_loadName_free I.ok.kind hk hc hcell fin hcd) hd
theorem pe_int {i j pos}:PE X (.Constant (.int i) j pos) (tC (.int i)):=fun _ _ _ H _ I h => wpAny_Constant_int ⟨.int i,H,I.tok _,⟨_,rfl⟩,h⟩
theorem pe_bl {b j pos}:PE X (.Constant (.bool b) j pos) (tC (.bl b)):=fun _ _ _ H _ I h => Constant_bool ⟨.bl b,H,I,rfl,h⟩
theorem pe_non {j pos}:PE X (.Constant .none j pos) (tC .non):=fun _ _ _ H _ I h => Constant_none ⟨.non,H,I,rfl,h⟩
theorem pe_str {x j pos}:PE X (.Constant (.str x) j pos) (tC (.str x)):=fun _ _ _ H _ I h => Calls.Constant_str ⟨.str x,H,I.tok _,⟨_,rfl⟩,h⟩
noncomputable def Gl (X:Cx) (x:Str):Prop:=X.env.kindOf x = some .globalImplicit
theorem ld_glob {E:Value → Shared → Prop} {pins:List (Addr × Obj)} {s:Shared} {σ:St} {H:Hp} {x:Str} {u:Value} {pos:Pos} {Q:Value → Shared → Prop} (I:Inv X pins σ H s) (hg:Gl X x) (hm:X.mg x = some u) (h:Q u s)
  (hd:(x == ("__debug__":Str)) = false:=by decide):wpAny (model X.prog X.w) X.A (eval (.Name x pos) X.env) Q E s :=
 Calls.Name_function_global I.ok.kind hg (Calls.loadGlobal_global (by rw [I.ok.glob]; exact I.mod.glob.keeps I.bk) hm h) hd
theorem ld_blt {E:Value → Shared → Prop} {pins:List (Addr × Obj)} {s:Shared} {σ:St} {H:Hp} {x:Str} {u:Value} {pos:Pos} {Q:Value → Shared → Prop} (I:Inv X pins σ H s) (hg:Gl X x) (hm:X.mg x = none) (hv:bootBuiltins x = some u) (h:Q u s)
  (hn:x ≠ "__name__":=by decide) (hd:(x == ("__debug__":Str)) = false:=by decide):wpAny (model X.prog X.w) X.A (eval (.Name x pos) X.env) Q E s:=by
 obtain ⟨mb,h1,h2⟩:=I.mod.blt
 exact Calls.Name_function_global I.ok.kind hg (Calls.loadGlobal_builtin (by rw [I.ok.glob]; exact I.mod.glob.keeps I.bk) hm (by rw [I.ok.blt]; exact h1.keeps I.bk) ((h2 x hn).trans hv) h) hd
theorem pe_glob {x:Str} {v:V} {u:Value} {pos:Pos} (hg:Gl X x) (hm:X.mg x = some u) (r:RelV v u) (hd:(x == ("__debug__":Str)) = false:=by decide):PE X (.Name x pos) (tC v) :=
 fun _ _ _ H _ I h => ld_glob I hg hm ⟨v,H,I,r,h⟩ hd
theorem pe_bltn {x:Str} {v:V} {u:Value} {pos:Pos} (hg:Gl X x) (hm:X.mg x = none) (hv:bootBuiltins x = some u) (r:RelV v u) (hn:x ≠ "__name__":=by decide) (hd:(x == ("__debug__":Str)) = false:=by decide):PE X (.Name x pos) (tC v) :=
 fun _ _ _ H _ I h => ld_blt I hg hm hv ⟨v,H,I,r,h⟩ hn hd
variable {a b:Expr} {ta tb:TE} {pos:Pos}
noncomputable def tB (t:TE):TT:=fun σ H Q => t σ H fun x H1 => ∃ c,x = .bl c ∧ Q c H1
theorem pt_val {e:Expr} {t:TE} (h:PE X e t) (he:∀ whole,isTrue e X.env whole = (do let v ← whole; standAt e.pos; holding [v] (truthy v)):=by intro _; rfl):PT X e (tB t):=by
 intro pins s σ H Q I hw
 refine isTrue_plain (thn (h pins s σ H _ I hw) fun v s1 ⟨x,H1,I1,r1,q1⟩ => ?_) (he _)
 obtain ⟨d,rfl,q⟩:=q1
 cases r1
 exact wpAny_truthy_bool ⟨H1,I1,q⟩
variable {tA tB':TT} {rest:List Expr}
noncomputable def tAnd (t u:TT):TT:=fun σ H Q => t σ H fun c H1 => if c = true then u σ H1 Q else Q false H1
noncomputable def tOr (t u:TT):TT:=fun σ H Q => t σ H fun c H1 => if c = true then Q true H1 else u σ H1 Q
noncomputable def tNot (t:TT):TT:=fun σ H Q => t σ H fun c H1 => Q (!c) H1
theorem pw_and1 (ha:PT X a tA):PW X (.BoolOp .And [a] pos) tA:=by
 intro wh pins s σ H Q I h
 refine isTrue_and (thn (ha pins s σ H Q I h) fun c s1 e => ?_)
 cases c with
 | true => exact isTrue_and_nil e
 | false => exact e
theorem pw_or1 (ha:PT X a tA):PW X (.BoolOp .Or [a] pos) tA:=by
 intro wh pins s σ H Q I h
 refine isTrue_or (thn (ha pins s σ H Q I h) fun c s1 e => ?_)
 cases c with
 | false => exact isTrue_or_nil e
 | true => exact e
theorem pw_and (ha:PT X a tA) (hb:PW X (.BoolOp .And (b :: rest) pos) tB'):PW X (.BoolOp .And (a :: b :: rest) pos) (tAnd tA tB'):=by
 intro wh pins s σ H Q I h
 refine isTrue_and (thn (ha pins s σ H _ I h) fun c s1 ⟨H1,I1,q1⟩ => ?_)
 cases c with
 | true => exact hb wh pins s1 σ H1 Q I1 q1
 | false => exact ⟨H1,I1,q1⟩
theorem pw_or (ha:PT X a tA) (hb:PW X (.BoolOp .Or (b :: rest) pos) tB'):PW X (.BoolOp .Or (a :: b :: rest) pos) (tOr tA tB'):=by
 intro wh pins s σ H Q I h
 refine isTrue_or (thn (ha pins s σ H _ I h) fun c s1 ⟨H1,I1,q1⟩ => ?_)
 cases c with
 | true => exact ⟨H1,I1,q1⟩
 | false => exact hb wh pins s1 σ H1 Q I1 q1
theorem pt_not (ha:PT X a tA):PT X (.UnaryOp .Not a pos) (tNot tA):=by
 intro pins s σ H Q I h
 exact isTrue_not (ha pins s σ H (fun c H1 => Q (!c) H1) I h)
noncomputable def tAndV (ta tb:TE):TE:=fun σ H Q => ta σ H fun x H1 => ∃ c,x = .bl c ∧ if c = true then tb σ H1 Q else Q (.bl false) H1
noncomputable def tOrV (ta tb:TE):TE:=fun σ H Q => ta σ H fun x H1 => ∃ c,x = .bl c ∧ if c = true then Q (.bl true) H1 else tb σ H1 Q
noncomputable def tNotV (ta:TE):TE:=fun σ H Q => ta σ H fun x H1 => ∃ c,x = .bl c ∧ Q (.bl (!c)) H1
theorem pe_one {op} {t:TE} (h:PE X a t):PE X (.BoolOp op [a] pos) t:=fun pins s σ H Q I hw => BoolOp_one (h pins s σ H Q I hw)
theorem pe_and (ha:PE X a ta) (hb:PE X (.BoolOp .And (b :: rest) pos) tb):PE X (.BoolOp .And (a :: b :: rest) pos) (tAndV ta tb):=by
 intro pins s σ H Q I h
 refine BoolOp_and (thn (ha pins s σ H _ I h) fun v s1 ⟨x,H1,I1,r1,q1⟩ => ?_)
 obtain ⟨c,rfl,q1⟩:=q1
 cases r1
 refine wpAny_truthy_bool ?_
 cases c with
 | true => exact hb pins s1 σ H1 Q I1 q1
 | false => exact ⟨.bl false,H1,I1,rfl,q1⟩
theorem pe_or (ha:PE X a ta) (hb:PE X (.BoolOp .Or (b :: rest) pos) tb):PE X (.BoolOp .Or (a :: b :: rest) pos) (tOrV ta tb):=by
 intro pins s σ H Q I h
 refine BoolOp_or (thn (ha pins s σ H _ I h) fun v s1 ⟨x,H1,I1,r1,q1⟩ => ?_)
 obtain ⟨c,rfl,q1⟩:=q1
 cases r1
 refine wpAny_truthy_bool ?_
 cases c with
 | false => exact hb pins s1 σ H1 Q I1 q1
 | true => exact ⟨.bl true,H1,I1,rfl,q1⟩
theorem pe_not (ha:PE X a ta):PE X (.UnaryOp .Not a pos) (tNotV ta):=by
 intro pins s σ H Q I h
 refine UnaryOp_ (thn (ha pins s σ H _ I h) fun v s1 ⟨x,H1,I1,r1,q1⟩ => ?_)
 obtain ⟨c,rfl,q1⟩:=q1
 cases r1
 exact not_of (wpAny_truthy_bool ⟨.bl (!c),H1,I1,rfl,q1⟩)
noncomputable def tIf (t:TT) (ta tb:TE):TE:=fun σ H Q => t σ H fun c H1 => if c = true then ta σ H1 Q else tb σ H1 Q
theorem pe_ifExp {c:Expr} (hc:PT X c tA) (ha:PE X a ta) (hb:PE X b tb):PE X (.IfExp c a b pos) (tIf tA ta tb):=by
 intro pins s σ H Q I h
 refine wpAny_IfExp (thn (hc pins s σ H _ I h) fun d s1 ⟨H1,I1,q1⟩ => ?_)
 cases d with
 | true => exact ha pins s1 σ H1 Q I1 q1
 | false => exact hb pins s1 σ H1 Q I1 q1
end
end L2
namespace L2
open PySem PySem.Spec PyProof.Rows
noncomputable def SqL (K:PySem.W.Frag) (H:Hp) (a:Addr) (xs:List V):Prop :=
 Rd H a (.lst xs) ∨
  ∃ (o:Obj) (its:Array Value) (n:Nat),K.lookup a = some o ∧ o.cls = .type "list" ∧ o.dict = none ∧ o.data = .seq its n ∧ its.size ≤ sizeLine ∧ Vals xs its.toList
noncomputable def SqT (K:PySem.W.Frag) (H:Hp) (a:Addr) (xs:List V):Prop :=
 Rd H a (.tup xs) ∨
  ∃ (o:Obj) (its:Array Value) (n:Nat),K.lookup a = some o ∧ o.cls = .type "tuple" ∧ o.data = .seq its n ∧ its.size ≤ sizeLine ∧ Vals xs its.toList
noncomputable def absV:Value → Option V
 | .none => some .non
 | .bool b => some (.bl b)
 | .int i _ => some (.int i)
 | .str x _ => some (.str x)
 | .bytes b _ => some (.byt b)
 | .float b _ => some (.flt b)
 | .ref a => some (.ref a)
 | .type n => some (.ty n)
 | _ => none
theorem RelV.abs {x:V} {u:Value} (r:RelV x u):absV u = some x:=by
 cases x with
 | non => cases r; rfl
 | bl _ => cases r; rfl
 | int _ => obtain ⟨t,rfl⟩:=r; rfl
 | str _ => obtain ⟨t,rfl⟩:=r; rfl
 | byt _ => obtain ⟨t,rfl⟩:=r; rfl
 | flt _ => obtain ⟨t,rfl⟩:=r; rfl
 | ref _ => cases r; rfl
 | ty _ => cases r; rfl
theorem RelV.inj {x y:V} {u:Value} (r:RelV x u) (q:RelV y u):x = y:=Option.some.inj (r.abs.symm.trans q.abs)
theorem Vals.inj:∀ {xs ys:List V} {us:List Value},Vals xs us → Vals ys us → xs = ys
 | _,_,_,.nil,.nil => rfl
 | _,_,_,.cons r t,.cons r' t' => by rw [r.inj r',Vals.inj t t']
section
variable {X:Cx} {pins:List (Addr × Obj)} {σ:St} {H:Hp} {s:Shared} {a:Addr} {xs ys:List V}
theorem SqL.of {K:PySem.W.Frag} (h:H a = some (.lst xs)):SqL K H a xs:=.inl (.inl h)
theorem SqT.of {K:PySem.W.Frag} (h:H a = some (.tup xs)):SqT K H a xs:=.inl (.inl h)
theorem Inv.list (I:Inv X pins σ H s) (h:SqL X.K H a xs):∃ its:List Value,Vals xs its ∧ PlainL s.heap a its.toArray ∧ xs.length ≤ sizeLine:=by
 rcases h with h | ⟨o,its,n,hk,hc,hd,hs,hz,r⟩
 ·obtain ⟨z,its,n,r,e⟩:=h.ok I.hok
  exact ⟨its,r,⟨_,n,e,rfl,rfl,rfl⟩,z⟩
 ·refine ⟨its.toList,r,⟨o,n,I.kIn a o hk,hc,hd,by simpa using hs⟩,?_⟩
  have e:=r.length
  simp only [Array.length_toList] at e
  omega
theorem Inv.tuple (I:Inv X pins σ H s) (h:SqT X.K H a xs):∃ its:List Value,Vals xs its ∧ IsTup s.heap a its.toArray ∧ xs.length ≤ sizeLine:=by
 rcases h with h | ⟨o,its,n,hk,hc,hs,hz,r⟩
 ·obtain ⟨z,its,r,p⟩:=h.ok I.hok
  exact ⟨its,r,p,z⟩
 ·refine ⟨its.toList,r,⟨o,I.kIn a o hk,hc,n,by simpa using hs⟩,?_⟩
  have e:=r.length
  simp only [Array.length_toList] at e
  omega
theorem Inv.list_inj (I:Inv X pins σ H s) (h:SqL X.K H a xs) (h':SqL X.K H a ys):xs = ys:=by
 obtain ⟨its,r,⟨o,n,e,_,_,d⟩,_⟩:=I.list h
 obtain ⟨its',r',⟨o',n',e',_,_,d'⟩,_⟩:=I.list h'
 rw [e] at e'; cases e'
 rw [d] at d'
 injection d' with d1 _
 have:its = its':=by simpa using congrArg Array.toList d1
 subst this
 exact r.inj r'
theorem Inv.tuple_inj (I:Inv X pins σ H s) (h:SqT X.K H a xs) (h':SqT X.K H a ys):xs = ys:=by
 obtain ⟨its,r,⟨o,e,_,n,d⟩,_⟩:=I.tuple h
 obtain ⟨its',r',⟨o',e',_,n',d'⟩,_⟩:=I.tuple h'
 rw [e] at e'; cases e'
 rw [d] at d'
 injection d' with d1 _
 have:its = its':=by simpa using congrArg Array.toList d1
 subst this
 exact r.inj r'
end
noncomputable abbrev Cx.wish (X:Cx) (E:Value → Shared → Prop):Cx:={ X with xe:=E }
noncomputable abbrev Cx.nox (X:Cx):Cx:=X.wish fun _ _ => False
theorem Cx.Ok.wish {X:Cx} (ok:X.Ok) (E:Value → Shared → Prop):(X.wish E).Ok :=
 ⟨ok.mod,ok.kind,ok.glob,ok.blt,ok.above,ok.inj,ok.has,ok.cab,ok.hd,ok.frames,ok.stk,ok.exf,ok.bs,ok.bsz,ok.noex,ok.exfs,ok.funs,ok.frf⟩
theorem Cx.Ok.unwish {X:Cx} {E:Value → Shared → Prop} (ok:(X.wish E).Ok):X.Ok :=
 ⟨ok.mod,ok.kind,ok.glob,ok.blt,ok.above,ok.inj,ok.has,ok.cab,ok.hd,ok.frames,ok.stk,ok.exf,ok.bs,ok.bsz,ok.noex,ok.exfs,ok.funs,ok.frf⟩
section
variable {X:Cx} {pins:List (Addr × Obj)} {σ:St} {H:Hp} {s:Shared} {E:Value → Shared → Prop}
theorem Inv.wish (I:Inv X pins σ H s) (E:Value → Shared → Prop):Inv (X.wish E) pins σ H s:=⟨I.ok.wish E,I.os,I.bare,I.base,I.loc,I.cell,I.free,I.freeC,I.pin,I.hok,I.len⟩
theorem Inv.unwish (I:Inv (X.wish E) pins σ H s):Inv X pins σ H s:=⟨I.ok.unwish,I.os,I.bare,I.base,I.loc,I.cell,I.free,I.freeC,I.pin,I.hok,I.len⟩
theorem SP.unwish {D:Ends} {f:Flow} {s':Shared} (h:SP (X.wish E) pins D f s'):SP X pins D f s':=by
 cases f with
 | next => obtain ⟨σ',H',I,q⟩:=h; exact ⟨σ',H',I.unwish,q⟩
 | brk => obtain ⟨σ',H',I,q⟩:=h; exact ⟨σ',H',I.unwish,q⟩
 | cont => obtain ⟨σ',H',I,q⟩:=h; exact ⟨σ',H',I.unwish,q⟩
 | ret u => obtain ⟨v,σ',H',I,r,q⟩:=h; exact ⟨v,σ',H',I.unwish,r,q⟩
theorem PE.nox {e:Expr} {t:TE} (h:PE X.nox e t):PE X e t:=fun pins s σ H Q I hw =>
 wpAny_mono (h pins s σ H Q (I.wish _) hw) (fun _ _ ⟨v,H',I',r,q⟩ => ⟨v,H',I'.unwish,r,q⟩) fun _ _ z => False.elim z
theorem PT.nox {e:Expr} {t:TT} (h:PT X.nox e t):PT X e t:=fun pins s σ H Q I hw =>
 wpAny_mono (h pins s σ H Q (I.wish _) hw) (fun _ _ ⟨H',I',q⟩ => ⟨H',I'.unwish,q⟩) fun _ _ z => False.elim z
theorem PSs.nox {st:List Stmt} {t:TS} (h:PSs X.nox st t):PSs X st t:=fun pins s σ H D I hw =>
 wpAny_mono (h pins s σ H D (I.wish _) hw) (fun _ _ q => q.unwish) fun _ _ z => False.elim z
end
section
variable {X:Cx} {st:Stmt} {rest:List Stmt} {t u:TS} {e:Expr} {te:TE} {pos:Pos}
noncomputable def tNext:TS:=fun D σ H => D.nx σ H
noncomputable def tSeq (t u:TS):TS:=fun D σ H => t { D with nx:=u D } σ H
theorem pss_nil:PSs X [] tNext:=fun _ _ σ H _ I h => wpAny_execs_nil ⟨σ,H,I,h⟩
theorem pss_cons (h1:PS X st t) (h2:PSs X rest u):PSs X (st :: rest) (tSeq t u):=by
 intro pins s σ H D I h
 refine wpAny_execs_cons (thn (h1 pins s σ H { D with nx:=u D } I h) fun f s1 q => ?_)
 cases f with
 | next =>
  obtain ⟨σ',H',I',q⟩:=q
  exact h2 pins s1 σ' H' D I' q
 | ret v => exact q
 | brk => exact q
 | cont => exact q
theorem pss_one (h1:PS X st t):PSs X [st] t:=by
 intro pins s σ H D I h
 refine wpAny_execs_cons (thn (h1 pins s σ H D I h) fun f s1 q => ?_)
 cases f with
 | next => exact wpAny_execs_nil q
 | ret v => exact q
 | brk => exact q
 | cont => exact q
theorem Inv.quiet {pins:List (Addr × Obj)} {σ:St} {H:Hp} {s:Shared} (I:Inv X pins σ H s):interactive X.env = false:=by simp [interactive,I.ok.kind]
noncomputable def tDrop (te:TE):TS:=fun D σ H => te σ H fun _ H1 => D.nx σ H1
theorem ps_expr (he:PE X e te) (hs:swapsWith e none pos.line X.env = pure false:=by rfl):PS X (.Expr e pos) (tDrop te):=by
 intro pins s σ H D I h
 exact wpAny_Expr_any (thn (he pins s σ H _ I h) fun v s1 ⟨x,H1,I1,r1,q1⟩ => ⟨σ,H1,I1,q1⟩) I.quiet hs
noncomputable def tRet (te:TE):TS:=fun D σ H => te σ H D.rt
theorem ps_ret (he:PE X e te):PS X (.Return (some e) pos) (tRet te):=by
 intro pins s σ H D I h
 exact wpAny_Return_some (thn (he pins s σ H _ I h) fun v s1 ⟨x,H1,I1,r1,q1⟩ => ⟨x,σ,H1,I1,r1,q1⟩)
noncomputable def tIfS (c:TT) (t u:TS):TS:=fun D σ H => c σ H fun b H1 => if b = true then t D σ H1 else u D σ H1
theorem ps_if {c:Expr} {a b:List Stmt} {tc:TT} (hc:PT X c tc) (ha:PSs X a t) (hb:PSs X b u):PS X (.If c a b pos) (tIfS tc t u):=by
 intro pins s σ H D I h
 refine wpAny_If (thn (hc pins s σ H _ I h) fun d s1 ⟨H1,I1,q1⟩ => ?_)
 cases d with
 | true => exact ha pins s1 σ H1 D I1 q1
 | false => exact hb pins s1 σ H1 D I1 q1
noncomputable def tNever:TS:=fun _ _ _ => False
theorem ps_never:PS X st tNever:=fun _ _ _ _ _ _ h => h.elim
end
noncomputable abbrev TG:=V → St → Hp → (St → Hp → Prop) → Prop
noncomputable abbrev TGs:=List V → St → Hp → (St → Hp → Prop) → Prop
noncomputable def PG (X:Cx) (target:Expr) (t:TG):Prop :=
 ∀ (pins:List (Addr × Obj)) (s:Shared) (σ:St) (H:Hp) (v:V) (u:Value) (Q:St → Hp → Prop),Inv X pins σ H s → RelV v u → t v σ H Q →
  wpAny (model X.prog X.w) X.A (assign target X.env u) (fun _ s' => ∃ σ' H',Inv X pins σ' H' s' ∧ Q σ' H') X.xe s
noncomputable def PGs (X:Cx) (ts:List Expr) (t:TGs):Prop :=
 ∀ (pins:List (Addr × Obj)) (s:Shared) (σ:St) (H:Hp) (vs:List V) (us:List Value) (Q:St → Hp → Prop),Inv X pins σ H s → Vals vs us → t vs σ H Q →
  wpAny (model X.prog X.w) X.A (assignInOrder ((assignEach ts X.env).map (·.2)) us) (fun _ s' => ∃ σ' H',Inv X pins σ' H' s' ∧ Q σ' H') X.xe s
section
variable {X:Cx} {pos:Pos}
noncomputable def gName (i:Nat):TG:=fun v σ H Q => Q (σ.set i (some v)) H
theorem pg_name {i:Nat} {x:Str} (hN:X.N.Nodup) (hi:X.N[i]? = some x) (hx:Loc X.env.scope x) (hf:X.fn x = true ∨ X.env.scope.names.lookup x = some .local:=by first | exact .inl rfl | exact .inr rfl | assumption):PG X (.Name x pos) (gName i):=by
 intro pins s σ H v u Q I r h
 exact wpAny_assign_Name (store_ok I hN hi hx r (fun s' I' => ⟨_,H,I',h⟩) hf)
noncomputable def gNil:TGs:=fun vs σ H Q => vs = [] ∧ Q σ H
noncomputable def gCons (t:TG) (u:TGs):TGs:=fun vs σ H Q => ∃ v r,vs = v :: r ∧ t v σ H fun σ' H' => u r σ' H' Q
theorem pgs_nil:PGs X [] gNil:=by
 intro pins s σ H vs us Q I r h
 obtain ⟨e,h⟩:=h
 subst e
 cases r
 exact assignInOrder_nil ⟨σ,H,I,h⟩
theorem pgs_cons {e:Expr} {es:List Expr} {t:TG} {u:TGs} (h1:PG X e t) (h2:PGs X es u)
  (hs:(assignEach (e :: es) X.env).map (·.2) = assign e X.env :: (assignEach es X.env).map (·.2):=by rfl):PGs X (e :: es) (gCons t u):=by
 intro pins s σ H vs us Q I r h
 obtain ⟨v,vr,e1,h⟩:=h
 subst e1
 cases r with
 | cons r rr =>
  rw [hs]
  refine assignInOrder_cons (thn (h1 pins s σ H _ _ _ I r h) fun _ s1 ⟨σ1,H1,I1,q1⟩ => ?_)
  exact h2 pins s1 σ1 H1 _ _ Q I1 rr q1
noncomputable def gTup (K:PySem.W.Frag) (n:Nat) (t:TGs):TG:=fun v σ H Q => ∃ a xs,v = .ref a ∧ SqT K H a xs ∧ xs.length = n ∧ t xs σ H Q
theorem pg_tup {es:List Expr} {k:Nat} {t:TGs} {n:Nat} (hc:X.calm = true) (h:PGs X es t)
  (hn:(assignEach es X.env).length = n:=by rfl) (hst:(assignEach es X.env).findIdx? (·.1) = none:=by rfl):PG X (.Tuple es k pos) (gTup X.K n t):=by
 intro pins s σ H v u Q I r hw
 obtain ⟨a,xs,e1,hq,hl,hw⟩:=hw
 subst e1
 cases r
 obtain ⟨its,rv,ht,hz⟩:=I.tuple hq
 refine assign_Tuple_tuple (I.ok.hd hc) ht (by simp [hn,← hl,rv.length]) hst fun h' hx => ?_
 have I1:Inv X pins σ H { s with heap:=h' }:=I.kept (t':=s.toks) fun b o e => hx b o (Nat.ne_of_lt (Heap.lt_size e)) e
 exact h pins _ σ H xs _ Q I1 (by simpa using rv) hw
noncomputable def tAsg (te:TE) (g:TG):TS:=fun D σ H => te σ H fun x H1 => g x σ H1 D.nx
theorem ps_set {i:Nat} {x:Str} {e:Expr} {te:TE} {pos':Pos} (hN:X.N.Nodup) (hi:X.N[i]? = some x) (hx:Loc X.env.scope x) (he:PE X e te) (hs:swapsWith e (some (.Name x pos')) pos.line X.env = pure false:=by rfl) (hf:X.fn x = true ∨ X.env.scope.names.lookup x = some .local:=by first | exact .inl rfl | exact .inr rfl | assumption) :
  PS X (.Assign [.Name x pos'] e pos) (tAsg te (gName i)):=by
 intro pins s σ H D I h
 refine wpAny_Assign_Name (thn (he pins s σ H _ I h) fun v s1 ⟨y,H1,I1,r1,q1⟩ => ?_) hs
 exact store_ok I1 hN hi hx r1 (fun s2 I2 => ⟨_,H1,I2,q1⟩) hf
end
section
variable {X:Cx} {pos:Pos}
noncomputable def tWhile (c:TT) (tb:TS):TS:=fun D σ H => ∃ W:Nat → St → Hp → Prop,(∃ m,W m σ H) ∧ ∀ m σ H,W m σ H →
 c σ H fun b H1 => if b = true then ∃ N:St → Hp → Prop,(∀ σ' H',N σ' H' → ∃ m',m' < m ∧ W m' σ' H') ∧ tb { D with nx:=N,ct:=N,bk:=D.nx } σ H1 else D.nx σ H1
theorem ps_while {c:Expr} {body:List Stmt} {tc:TT} {tb:TS} (hp:PassesOwn (model X.prog X.w) X.A X.env X.xe) (hc:PT X c tc) (hb:PSs X body tb):PS X (.While c body [] pos) (tWhile tc tb):=by
 intro pins s σ H D I h
 obtain ⟨W,⟨m0,w0⟩,turn⟩:=h
 refine wpAny_While (codeAny_whileLoop (fun n s' => ∃ σ' H',Inv X pins σ' H' s' ∧ W n σ' H') ?_ m0 ⟨σ,H,I,w0⟩)
 rintro n s1 ⟨σ1,H1,I1,w1⟩
 refine wpAny_passesOwn hp (thn (hc pins s1 σ1 H1 _ I1 (turn n σ1 H1 w1)) fun b s2 ⟨H2,I2,q2⟩ => ?_)
 cases b with
 | true =>
  obtain ⟨N,hN,q2⟩:=q2
  rw [if_pos rfl]
  refine wpAny_passesOwn hp (thn (hb pins s2 σ1 H2 _ I2 q2) fun f s3 q3 => ?_)
  cases f with
  | next =>
   obtain ⟨σ3,H3,I3,n3⟩:=q3
   obtain ⟨m',hm,w3⟩:=hN σ3 H3 n3
   exact ⟨m',hm,σ3,H3,I3,w3⟩
  | cont =>
   obtain ⟨σ3,H3,I3,n3⟩:=q3
   obtain ⟨m',hm,w3⟩:=hN σ3 H3 n3
   exact ⟨m',hm,σ3,H3,I3,w3⟩
  | brk => exact q3
  | ret v => exact q3
 | false =>
  rw [if_neg Bool.false_ne_true]
  exact wpAny_execs_nil ⟨σ1,H2,I2,q2⟩
end
structure It where
 go:Nat → Hp → Prop
 yld:Nat → Hp → V → Hp → Prop
 stop:Nat → Hp → Prop
noncomputable def FpOk (X:Cx) (pins:List (Addr × Obj)) (H:Hp) (b:Addr):Prop :=
 H b = none ∧ b ≠ X.env.locals ∧ b ∉ X.fs ∧ (b ∈ X.ex ∨ X.s₀.heap.objs.size ≤ b) ∧ (∀ x c,X.env.cells.lookup x = some c → c ≠ b) ∧ ∀ p ∈ X.pn ++ pins,p.1 ≠ b
theorem Inv.fpOk {X:Cx} {pins:List (Addr × Obj)} {σ:St} {H H':Hp} {s:Shared} {b:Addr} (I:Inv X pins σ H s) (hb:s.heap.objs.size ≤ b) (hn:H' b = none):FpOk X pins H' b:=by
 refine ⟨hn,Nat.ne_of_gt (Nat.lt_of_lt_of_le I.lt hb),I.nofs hb,.inr (Nat.le_trans I.sz hb),fun x c e z => ?_,fun p hp z => ?_⟩
 ·obtain ⟨v,q⟩:=I.cell x c e
  exact absurd (Nat.lt_of_lt_of_le q.lt (by rw [z]; exact hb)) (Nat.lt_irrefl _)
 ·exact absurd (Nat.lt_of_lt_of_le (Heap.lt_size (I.pin p hp).1) (by rw [z]; exact hb)) (Nat.lt_irrefl _)
structure Turn (P:Program) (w:World) (K:PySem.W.Frag) (tg:Expr) (J:It) (fp:List Addr) (it:Addr) (tn:Nat → Heap → Prop):Prop where
 mem:it ∈ fp
 obj:∀ i h,tn i h → ∀ b ∈ fp,∃ o,h.get? b = some o ∧ ∀ v,o.data ≠ .cell v
 keep:∀ i h h',tn i h → (∀ b ∈ fp,∀ o,h.get? b = some o → h'.get? b = some o) → tn i h'
 item:∀ (X:Cx),X.prog = P → X.w = w → X.K = K → X.calm = true → ∀ (i:Nat) (pins:List (Addr × Obj)) (s:Shared) (σ:St) (H:Hp) (E:Value → Shared → Prop),Inv X pins σ H s → (∀ b ∈ fp,FpOk X pins H b) → tn i s.heap → J.go i H →
  wpAny (model P w) X.A (pyNext (.ref it)) (fun r s1 => ∃ u,r = some u ∧
   wpAny (model P w) X.A (letOwnedTupleGo tg (.ref it) u) (fun _ s2 => ∃ x H',Inv X pins σ H' s2 ∧ RelV x u ∧ J.yld i H x H' ∧ tn (i + 1) s2.heap ∧ ∀ b ∈ fp,H' b = none) E s1) E s
 done:∀ (X:Cx),X.prog = P → X.w = w → X.K = K → X.calm = true → ∀ (i:Nat) (pins:List (Addr × Obj)) (s:Shared) (σ:St) (H:Hp) (E:Value → Shared → Prop),Inv X pins σ H s → (∀ b ∈ fp,FpOk X pins H b) → tn i s.heap → J.stop i H →
  wpAny (model P w) X.A (pyNext (.ref it)) (fun r s1 => r = none ∧ Inv X pins σ H s1) E s
 self:∀ (A:Around) (i:Nat) (s:Shared) (Q:Value → Shared → Prop) (E:Value → Shared → Prop),tn i s.heap → Q (.ref it) s → wpAny (model P w) A (pyIter (.ref it)) Q E s
noncomputable abbrev TI:=St → Hp → (It → Hp → Prop) → Prop
noncomputable def PIE (X:Cx) (pins:List (Addr × Obj)) (σ:St) (tg:Expr) (R:It → Hp → Prop) (itv:Value) (s2:Shared):Prop :=
 ∃ (it:Addr) (fp:List Addr) (tn:Nat → Heap → Prop) (J:It) (H':Hp),itv = .ref it ∧ Inv X pins σ H' s2 ∧ Turn X.prog X.w X.K tg J fp it tn ∧ tn 0 s2.heap ∧ (∀ b ∈ fp,FpOk X pins H' b) ∧ R J H'
noncomputable def PI (X:Cx) (tg iter:Expr) (wi:TI):Prop :=
 ∀ (pins:List (Addr × Obj)) (s:Shared) (σ:St) (H:Hp) (R:It → Hp → Prop),Inv X pins σ H s → wi σ H R →
  wpAny (model X.prog X.w) X.A (eval iter X.env) (fun v s1 => wpAny (model X.prog X.w) X.A (pyIter v) (PIE X pins σ tg R) X.xe s1) X.xe s
theorem go_of {M:Model} {A:Around} {E:Value → Shared → Prop} {s:Shared} {tg:Expr} {it:Addr} {u:Value} {o:Obj} {n:String} {vs:Array Value} {Q:Unit → Shared → Prop} (ho:s.heap.get? it = some o) (hc:o.cls = .type n) (hd:o.data = .fields vs)
  (hn:["enumerate","zip","dict_itemiterator","dict_reverseitemiterator","odict_iterator","itertools.zip_longest","itertools.pairwise"].contains n = false) (hQ:Q () s):wpAny M A (letOwnedTupleGo tg (.ref it) u) Q E s:=by
 unfold letOwnedTupleGo
 cases tg <;> first
  | exact wpAny_pure hQ
  | (cases u <;> first
    | exact wpAny_pure hQ
    | (refine wpAny_bind (wpAny_load ho ?_)
       rw [hc,hd]
       show wpAny M A (if (["enumerate","zip","dict_itemiterator","dict_reverseitemiterator","odict_iterator","itertools.zip_longest","itertools.pairwise"].contains n && vs[0]? == some (rawInt _)) = true then _ else _) Q E s
       rw [if_neg (by intro h; rw [hn,Bool.false_and] at h; cases h)]
       exact wpAny_pure hQ))
noncomputable def Itl (K:PySem.W.Frag) (a:Addr):It :=
 ⟨fun i H => ∃ xs x,SqL K H a xs ∧ xs[i]? = some x,fun i H x H' => H' = H ∧ ∀ xs,SqL K H a xs → xs[i]? = some x,fun i H => ∃ xs,SqL K H a xs ∧ xs.length ≤ i⟩
noncomputable def Itt (K:PySem.W.Frag) (a:Addr):It :=
 ⟨fun i H => ∃ xs x,SqT K H a xs ∧ xs[i]? = some x,fun i H x H' => H' = H ∧ ∀ xs,SqT K H a xs → xs[i]? = some x,fun i H => ∃ xs,SqT K H a xs ∧ xs.length ≤ i⟩
noncomputable def Itr (lo:Int) (n:Nat):It:=⟨fun i _ => i < n,fun i H x H' => H' = H ∧ x = .int (lo + i),fun i _ => n ≤ i⟩
theorem turn_list {P:Program} {w:World} {K:PySem.W.Frag} {tg:Expr} (a it:Addr):Turn P w K tg (Itl K a) [it] it (fun i h => h.IsListIter it a i) where
 mem:=by simp
 obj:=fun i h st b hb => by
  have e:b = it:=by simpa using hb
  subst e
  obtain ⟨o,e,c,d⟩:=st
  exact ⟨o,e,fun v z => by rw [d] at z; cases z⟩
 keep:=fun i h h' st k => st.at fun o e => k it (by simp) o e
 item:=by
  intro X hP hw hK hc i pins s σ H E I hf st hg
  subst hP hw hK
  obtain ⟨xs,x,hq,hx⟩:=hg
  obtain ⟨its,rv,p,hz⟩:=I.list hq
  obtain ⟨u,hu,ru⟩:=rv.get hx
  obtain ⟨f0,f1,f2,f3,f4,f5⟩:=hf it (by simp)
  refine wpAny_pyNext_list_item st p.isList (x:=u) (by simpa using hu) fun h' st' sb => ?_
  have I1:Inv X pins σ H { s with heap:=h' }:=I.turned (t':=s.toks) (fun b o hb e => (sb.2 b hb).trans e) f0 f1 f3 f4 f5
  obtain ⟨o,e,c,d⟩:=id st'
  exact ⟨u,rfl,go_of (s:={ s with heap:=h' }) e c d (by decide) ⟨x,H,I1,ru,⟨rfl,fun ys hy => by rw [I.list_inj hy hq]; exact hx⟩,st',fun b hb => (hf b hb).1⟩⟩
 done:=by
  intro X hP hw hK hc i pins s σ H E I hf st hg
  subst hP hw hK
  obtain ⟨xs,hq,hx⟩:=hg
  obtain ⟨its,rv,p,hz⟩:=I.list hq
  obtain ⟨f0,f1,f2,f3,f4,f5⟩:=hf it (by simp)
  have hl:=rv.length
  exact wpAny_pyNext_list_end (I.ok.hd hc) st p.isList (by simp; omega) fun h' eb => ⟨rfl,I.turned (t':=s.toks) (fun b o hb e => eb b o hb e) f0 f1 f3 f4 f5⟩
 self:=fun _ _ _ _ _ st h => wpAny_pyIter_listiter st h
theorem turn_tuple {P:Program} {w:World} {K:PySem.W.Frag} {tg:Expr} (a it:Addr):Turn P w K tg (Itt K a) [it] it (fun i h => h.IsTupleIter it a i) where
 mem:=by simp
 obj:=fun i h st b hb => by
  have e:b = it:=by simpa using hb
  subst e
  obtain ⟨o,e,c,d⟩:=st
  exact ⟨o,e,fun v z => by rw [d] at z; cases z⟩
 keep:=fun i h h' st k => st.at fun o e => k it (by simp) o e
 item:=by
  intro X hP hw hK hc i pins s σ H E I hf st hg
  subst hP hw hK
  obtain ⟨xs,x,hq,hx⟩:=hg
  obtain ⟨its,rv,p,hz⟩:=I.tuple hq
  obtain ⟨u,hu,ru⟩:=rv.get hx
  obtain ⟨f0,f1,f2,f3,f4,f5⟩:=hf it (by simp)
  refine wpAny_pyNext_tuple_item st (show s.heap.IsTuple a its.toArray from p) (x:=u) (by simpa using hu) fun h' st' sb => ?_
  have I1:Inv X pins σ H { s with heap:=h' }:=I.turned (t':=s.toks) (fun b o hb e => (sb.2 b hb).trans e) f0 f1 f3 f4 f5
  obtain ⟨o,e,c,d⟩:=id st'
  exact ⟨u,rfl,go_of (s:={ s with heap:=h' }) e c d (by decide) ⟨x,H,I1,ru,⟨rfl,fun ys hy => by rw [I.tuple_inj hy hq]; exact hx⟩,st',fun b hb => (hf b hb).1⟩⟩
 done:=by
  intro X hP hw hK hc i pins s σ H E I hf st hg
  subst hP hw hK
  obtain ⟨xs,hq,hx⟩:=hg
  obtain ⟨its,rv,p,hz⟩:=I.tuple hq
  obtain ⟨f0,f1,f2,f3,f4,f5⟩:=hf it (by simp)
  have hl:=rv.length
  exact wpAny_pyNext_tuple_end (I.ok.hd hc) st (show s.heap.IsTuple a its.toArray from p) (by simp; omega) fun h' eb => ⟨rfl,I.turned (t':=s.toks) (fun b o hb e => eb b o hb e) f0 f1 f3 f4 f5⟩
 self:=fun _ _ _ _ _ st h => wpAny_pyIter_tupleiter st h
theorem turn_range {P:Program} {w:World} {K:PySem.W.Frag} {tg:Expr} (it:Addr) (lo:Int) (n:Nat):Turn P w K tg (Itr lo n) [it] it (fun i h => IsRangeIter h it (lo + (i:Nat) * 1) ((n:Int) - (i:Nat)) 1) where
 mem:=by simp
 obj:=fun i h st b hb => by
  have e:b = it:=by simpa using hb
  subst e
  exact ⟨_,st,fun v z => by
   have z':Data.fields _ = Data.cell v:=z
   cases z'⟩
 keep:=fun i h h' st k => k it (by simp) _ st
 item:=by
  intro X hP hw hK hc i pins s σ H E I hf st hg
  subst hP hw hK
  obtain ⟨f0,f1,f2,f3,f4,f5⟩:=hf it (by simp)
  have W:=Walks.range (prog:=X.prog) (w:=X.w) (I.ok.hd hc) it lo 1 n
  refine W.item i s _ _ hg st fun v h' tk hv st' kk => ?_
  obtain ⟨t,rfl⟩:=hv
  have I1:Inv X pins σ H { s with heap:=h',toks:=tk }:=I.turned (fun b o hb e => kk b o (by simpa using hb) e) f0 f1 f3 f4 f5
  refine ⟨_,rfl,go_of (s:={ s with heap:=h',toks:=tk }) (n:="range_iterator") st' rfl rfl (by decide) ⟨.int (lo + i),H,I1,⟨t,?_⟩,⟨rfl,rfl⟩,st',fun b hb => (hf b hb).1⟩⟩
  rw [Int.mul_one]
 done:=by
  intro X hP hw hK hc i pins s σ H E I hf st hg
  subst hP hw hK
  obtain ⟨f0,f1,f2,f3,f4,f5⟩:=hf it (by simp)
  exact wpAny_pyNext_range_end (I.ok.hd hc) st (by have:n ≤ i:=hg; omega) fun h' eb => ⟨rfl,I.turned (t':=s.toks) (fun b o hb e => eb b o hb e) f0 f1 f3 f4 f5⟩
 self:=fun _ _ _ _ _ st h => wpAny_pyIter_rangeiter st h
end L2
namespace L2
open PySem PySem.Spec PyProof.Rows
section
variable {X:Cx} {tg:Expr}
noncomputable def iList (K:PySem.W.Frag) (tl:TE):TI:=fun σ H R => tl σ H fun x H1 => ∃ a,x = .ref a ∧ (∃ xs,SqL K H1 a xs) ∧ R (Itl K a) H1
noncomputable def iTup (K:PySem.W.Frag) (tl:TE):TI:=fun σ H R => tl σ H fun x H1 => ∃ a,x = .ref a ∧ (∃ xs,SqT K H1 a xs) ∧ R (Itt K a) H1
theorem pi_list {l:Expr} {tl:TE} (hl:PE X l tl):PI X tg l (iList X.K tl):=by
 intro pins s σ H R I h
 refine thn (hl pins s σ H _ I h) fun v s1 ⟨x,H1,I1,r1,q1⟩ => ?_
 obtain ⟨a,e,⟨xs,hq⟩,q⟩:=q1
 subst e
 cases r1
 obtain ⟨its,rv,p,hz⟩:=I1.list hq
 refine wpAny_pyIter_list p.isList ?_
 refine ⟨s1.heap.objs.size,[s1.heap.objs.size],_,_,H1,rfl,I1.kept (t':=s1.toks) fun b o e => Heap.get?_push_of_some _ e,turn_list a _,⟨_,Heap.get?_push_size _ rfl,rfl,rfl⟩,fun b hb => ?_,q⟩
 have e:b = s1.heap.objs.size:=by simpa using hb
 subst e
 exact I1.fpOk (Nat.le_refl _) (I1.hok.fresh (Nat.le_refl _))
theorem pi_tup {l:Expr} {tl:TE} (hl:PE X l tl):PI X tg l (iTup X.K tl):=by
 intro pins s σ H R I h
 refine thn (hl pins s σ H _ I h) fun v s1 ⟨x,H1,I1,r1,q1⟩ => ?_
 obtain ⟨a,e,⟨xs,hq⟩,q⟩:=q1
 subst e
 cases r1
 obtain ⟨its,rv,p,hz⟩:=I1.tuple hq
 refine wpAny_pyIter_tuple (show s1.heap.IsTuple a its.toArray from p) ?_
 refine ⟨s1.heap.objs.size,[s1.heap.objs.size],_,_,H1,rfl,I1.kept (t':=s1.toks) fun b o e => Heap.get?_push_of_some _ e,turn_tuple a _,⟨_,Heap.get?_push_size _ rfl,rfl,rfl⟩,fun b hb => ?_,q⟩
 have e:b = s1.heap.objs.size:=by simpa using hb
 subst e
 exact I1.fpOk (Nat.le_refl _) (I1.hok.fresh (Nat.le_refl _))
theorem range_it {pins:List (Addr × Obj)} {σ:St} {H:Hp} {s:Shared} {R:It → Hp → Prop} {E:Value → Shared → Prop} {lo hi:Int} {t u v:Tok} {tk:Nat} (I:Inv X pins σ H s) (h1:-(2 ^ 62) ≤ lo) (h2:lo < 2 ^ 62) (h3:-(2 ^ 62) ≤ hi) (h4:hi < 2 ^ 62)
  (q:R (Itr lo (hi - lo).toNat) H):wpAny (model X.prog X.w) X.A (pyIter (.ref s.heap.objs.size)) (PIE X pins σ tg R) E { s with heap:=s.heap.push { cls:=.type "range",data:=.fields #[.int lo t,.int hi u,.int 1 v] },toks:=tk }:=by
 refine wpAny_pyIter_range (IsRange.new ..) (small_one h1 h2 h3 h4) ?_
 have I1:Inv X pins σ H { s with heap:=s.heap.push { cls:=.type "range",data:=.fields #[.int lo t,.int hi u,.int 1 v] },toks:=tk }:=I.kept fun b o e => Heap.get?_push_of_some _ e
 refine ⟨(s.heap.push { cls:=.type "range",data:=.fields #[.int lo t,.int hi u,.int 1 v] }).objs.size,[(s.heap.push { cls:=.type "range",data:=.fields #[.int lo t,.int hi u,.int 1 v] }).objs.size],_,_,H,rfl,
  I1.kept (t':=tk) fun b o e => Heap.get?_push_of_some _ e,turn_range _ lo (hi - lo).toNat,?_,fun b hb => ?_,q⟩
 ·have e1:lo + ((0:Nat):Int) * 1 = lo:=by simp
  have e2:(((hi - lo).toNat:Nat):Int) - ((0:Nat):Int) = Builtin.Range.rangeSize lo hi 1:=by rw [rangeSize_one]; split <;> omega
  show IsRangeIter _ _ (lo + ((0:Nat):Int) * 1) ((((hi - lo).toNat:Nat):Int) - ((0:Nat):Int)) 1
  rw [e1,e2]
  exact Heap.get?_push_size _ rfl
 ·have e:b = (s.heap.push { cls:=.type "range",data:=.fields #[.int lo t,.int hi u,.int 1 v] }).objs.size:=by simpa using hb
  subst e
  exact I1.fpOk (Nat.le_refl _) (I1.hok.fresh (Nat.le_refl _))
noncomputable def iRng1 (ta:TA):TI:=fun σ H R => ta σ H fun vs H1 => ∃ j:Int,vs = [.int j] ∧ -(2 ^ 62) ≤ j ∧ j < 2 ^ 62 ∧ R (Itr 0 j.toNat) H1
noncomputable def iRng2 (ta:TA):TI:=fun σ H R => ta σ H fun vs H1 => ∃ i j:Int,vs = [.int i,.int j] ∧ (-(2 ^ 62) ≤ i ∧ i < 2 ^ 62 ∧ -(2 ^ 62) ≤ j ∧ j < 2 ^ 62) ∧ R (Itr i (j - i).toNat) H1
theorem pi_range1 {a:Expr} {ta:TA} {p pos:Pos} (hg:Gl X "range") (hm:X.mg "range" = none) (ha:PA X [a] ta) (hs:starEach [a] X.env = [(false,eval a X.env)]:=by rfl):PI X tg (.Call (.Name "range" p) [a] [] pos) (iRng1 ta):=by
 intro pins s σ H R I h
 refine Call_ (ld_blt I hg hm boot_range (PyProof.Rows.callWith_type1 (thn (ha pos pins s σ H _ I h) fun us s1 ⟨vs,H1,I1,r1,q1⟩ => ?_) hs rfl))
 obtain ⟨j,e,q1,q2,q⟩:=q1
 subst e
 cases r1 with
 | cons r rr =>
  cases rr
  obtain ⟨t,rfl⟩:=r
  exact call_range_1 (range_it I1 (by omega) (by omega) q1 q2 (by simpa using q))
theorem pi_range2 {a b:Expr} {ta:TA} {p pos:Pos} (hg:Gl X "range") (hm:X.mg "range" = none) (ha:PA X [a,b] ta) (hs:starEach [a,b] X.env = [(false,eval a X.env),(false,eval b X.env)]:=by rfl) (hs2:starEach [b] X.env = [(false,eval b X.env)]:=by rfl) :
  PI X tg (.Call (.Name "range" p) [a,b] [] pos) (iRng2 ta):=by
 intro pins s σ H R I h
 refine Call_ (ld_blt I hg hm boot_range (PyProof.Rows.callWith_type1 (thn (ha pos pins s σ H _ I h) fun us s1 ⟨vs,H1,I1,r1,q1⟩ => ?_) (by rw [hs,hs2]) (by rw [hs2]; rfl)))
 obtain ⟨i,j,e,⟨q1,q2,q3,q4⟩,q⟩:=q1
 subst e
 cases r1 with
 | cons r rr =>
  cases rr with
  | cons r' rr =>
   cases rr
   obtain ⟨t,rfl⟩:=r
   obtain ⟨t',rfl⟩:=r'
   exact call_range_2 (range_it I1 q1 q2 q3 q4 q)
noncomputable def tFor (wi:TI) (g:TG) (tb:TS):TS:=fun D σ H => wi σ H fun J H1 => ∃ W:Nat → Nat → St → Hp → Prop,(∃ m,W 0 m σ H1) ∧ ∀ i m σ H,W i m σ H →
 (J.stop i H ∧ D.nx σ H) ∨ (J.go i H ∧ ∃ N:St → Hp → Prop,(∀ σ' H',N σ' H' → ∃ m',m' < m ∧ W (i + 1) m' σ' H') ∧ ∀ x H',J.yld i H x H' → g x σ H' fun σ2 H2 => tb { D with nx:=N,ct:=N,bk:=D.nx } σ2 H2)
noncomputable def pinsAt (fp:List Addr) (h:Heap):List (Addr × Obj):=fp.filterMap fun b => (h.get? b).map fun o => (b,o)
theorem mem_pinsAt {fp:List Addr} {h:Heap} {b:Addr} {o:Obj} (hb:b ∈ fp) (e:h.get? b = some o):(b,o) ∈ pinsAt fp h:=List.mem_filterMap.mpr ⟨b,hb,by rw [e]; rfl⟩
theorem of_pinsAt {fp:List Addr} {h:Heap} {p:Addr × Obj} (hp:p ∈ pinsAt fp h):p.1 ∈ fp ∧ h.get? p.1 = some p.2:=by
 obtain ⟨b,hb,e⟩:=List.mem_filterMap.mp hp
 cases q:h.get? b with
 | none => rw [q] at e; cases e
 | some o =>
  rw [q] at e
  have e':(b,o) = p:=Option.some.inj e
  subst e'
  exact ⟨hb,q⟩
theorem Inv.pinned {pins:List (Addr × Obj)} {σ:St} {H:Hp} {s:Shared} {fp:List Addr} (I:Inv X pins σ H s) (hf:∀ b ∈ fp,FpOk X pins H b) (ho:∀ b ∈ fp,∃ o,s.heap.get? b = some o ∧ ∀ v,o.data ≠ .cell v):Inv X (pins ++ pinsAt fp s.heap) σ H s :=
 I.pins_of fun p hp => (List.mem_append.mp hp).elim (fun z => I.pin p (List.mem_append_right _ z)) fun z => by
  obtain ⟨hb,e⟩:=of_pinsAt z
  obtain ⟨f0,f1,f2,_⟩:=hf p.1 hb
  obtain ⟨o,e',d⟩:=ho p.1 hb
  rw [e] at e'; cases e'
  exact ⟨e,f0,f1,f2,d⟩
theorem Inv.unpinned {pins pl:List (Addr × Obj)} {σ:St} {H:Hp} {s:Shared} (I:Inv X (pins ++ pl) σ H s):Inv X pins σ H s:=I.pins_of fun p hp => I.pin p (List.mem_append_right _ (List.mem_append_left _ hp))
theorem ps_for {iter:Expr} {body:List Stmt} {wi:TI} {g:TG} {tb:TS} {pos:Pos} (hp:PassesOwn (model X.prog X.w) X.A X.env X.xe) (hc:X.calm = true) (hi:PI X tg iter wi) (hg:PG X tg g) (hb:PSs X body tb)
  (hs:∀ x,foldedSetIterable iter X.env x = pure x:=by intro _; rfl):PS X (.For tg iter body [] pos) (tFor wi g tb):=by
 intro pins s σ H D I h
 refine wpAny_For (thn (hi pins s σ H _ I h) fun v s1 h1 => thn h1 fun itv s2 h2 => ?_) hs
 obtain ⟨it,fp,tn,J,H2,e,I2,T,st2,f2,W,⟨m0,w0⟩,turn⟩:=h2
 subst e
 -- what stays true of the iterator's objects through the loop
 have stat:∀ {H':Hp},(∀ b ∈ fp,H' b = none) → ∀ b ∈ fp,FpOk X pins H' b:=fun hn b hb => ⟨hn b hb,(f2 b hb).2⟩
 refine codeAny_forLoop_any (fun n s' => ∃ i σ' H',Inv X pins σ' H' s' ∧ tn i s'.heap ∧ (∀ b ∈ fp,H' b = none) ∧ W i n σ' H') ?_ m0 ⟨0,σ,H2,I2,st2,fun b hb => (f2 b hb).1,w0⟩
 rintro n s3 ⟨i,σ3,H3,I3,st3,fr3,w3⟩
 rcases turn i n σ3 H3 w3 with ⟨stop,qn⟩ | ⟨go,N,hN,step⟩
 ·refine wpAny_passesOwn hp (thn (T.done X rfl rfl rfl hc i pins s3 σ3 H3 X.xe I3 (stat fr3) st3 stop) fun r s4 ⟨hr,I4⟩ => ?_)
  subst hr
  exact wpAny_execs_nil ⟨σ3,H3,I4,qn⟩
 ·refine wpAny_passesOwn hp (thn (T.item X rfl rfl rfl hc i pins s3 σ3 H3 X.xe I3 (stat fr3) st3 go) fun r s4 ⟨u,hr,h4⟩ => ?_)
  subst hr
  refine wpAny_passesOwn hp (thn h4 fun _ s5 ⟨x,H5,I5,r5,y5,st5,fr5⟩ => ?_)
  have I5':=I5.pinned (stat fr5) (T.obj _ _ st5)
  refine wpAny_passesOwn hp (thn (hg _ s5 σ3 H5 x u _ I5' r5 (step x H5 y5)) fun _ s6 ⟨σ6,H6,I6,q6⟩ => ?_)
  refine wpAny_passesOwn hp (thn (hb _ s6 σ6 H6 _ I6 q6) fun f s7 q7 => ?_)
  have again:∀ {σ7:St} {H7:Hp},Inv X (pins ++ pinsAt fp s5.heap) σ7 H7 s7 → N σ7 H7 → ∃ m,m < n ∧ ∃ i σ' H',Inv X pins σ' H' s7 ∧ tn i s7.heap ∧ (∀ b ∈ fp,H' b = none) ∧ W i m σ' H':=fun {σ7 H7} I7 n7 => by
   obtain ⟨m',hm,w7⟩:=hN σ7 H7 n7
   refine ⟨m',hm,i + 1,σ7,H7,I7.unpinned,T.keep _ _ _ st5 fun b hb o e => (I7.pin (b,o) (List.mem_append_right _ (List.mem_append_right _ (mem_pinsAt hb e)))).1,fun b hb => ?_,w7⟩
   obtain ⟨o,e,d⟩:=T.obj _ _ st5 b hb
   exact (I7.pin (b,o) (List.mem_append_right _ (List.mem_append_right _ (mem_pinsAt hb e)))).2.1
  cases f with
  | next => obtain ⟨σ7,H7,I7,n7⟩:=q7; exact again I7 n7
  | cont => obtain ⟨σ7,H7,I7,n7⟩:=q7; exact again I7 n7
  | brk => obtain ⟨σ7,H7,I7,q7⟩:=q7; exact ⟨σ7,H7,I7.unpinned,q7⟩
  | ret v => obtain ⟨x7,σ7,H7,I7,r7,q7⟩:=q7; exact ⟨x7,σ7,H7,I7.unpinned,r7,q7⟩
end
end L2
namespace L2
open PySem PySem.Spec PyProof.Rows
noncomputable abbrev R2:=V → V → Hp → VK → Prop
noncomputable def OpR (X:Cx) (f:Value → Value → Sem Value) (r:R2):Prop :=
 ∀ (pins:List (Addr × Obj)) (s:Shared) (σ:St) (H:Hp) (x y:V) (v u:Value) (Q:VK),Inv X pins σ H s → RelV x v → RelV y u → r x y H Q →
  wpAny (model X.prog X.w) X.A (f v u) (EP X pins σ Q) X.xe s
noncomputable def UnR (X:Cx) (f:Value → Sem Value) (r:V → Hp → VK → Prop):Prop :=
 ∀ (pins:List (Addr × Obj)) (s:Shared) (σ:St) (H:Hp) (x:V) (v:Value) (Q:VK),Inv X pins σ H s → RelV x v → r x H Q →
  wpAny (model X.prog X.w) X.A (f v) (EP X pins σ Q) X.xe s
noncomputable def CallR (X:Cx) (f:Value) (r:List V → Hp → VK → Prop):Prop :=
 ∀ (pins:List (Addr × Obj)) (s:Shared) (σ:St) (H:Hp) (xs:List V) (us:List Value) (Q:VK),Inv X pins σ H s → Vals xs us → r xs H Q →
  wpAny (model X.prog X.w) X.A (call f us) (EP X pins σ Q) X.xe s
noncomputable def tOp (r:R2) (ta tb:TE):TE:=fun σ H Q => ta σ H fun x H1 => tb σ H1 fun y H2 => r x y H2 Q
noncomputable def tUn (r:V → Hp → VK → Prop) (ta:TE):TE:=fun σ H Q => ta σ H fun x H1 => r x H1 Q
noncomputable def rI (C:Int → Int → Prop) (g:Int → Int → V):R2:=fun x y H Q => ∃ i j,x = .int i ∧ y = .int j ∧ C i j ∧ Q (g i j) H
noncomputable def rI0 (g:Int → Int → V):R2:=fun x y H Q => ∃ i j,x = .int i ∧ y = .int j ∧ Q (g i j) H
noncomputable def rU (g:Int → V):V → Hp → VK → Prop:=fun x H Q => ∃ i,x = .int i ∧ Q (g i) H
section
variable {X:Cx} {a b c:Expr} {ta tb tc:TE} {pos:Pos}
theorem binT (ha:PE X a ta) (hb:PE X b tb) {pins:List (Addr × Obj)} {s:Shared} {σ:St} {H:Hp} {R:V → V → Hp → Prop} (I:Inv X pins σ H s)
  (h:ta σ H fun x H1 => tb σ H1 fun y H2 => R x y H2) {Q:Value → Shared → Prop} {f:Value → Value → Sem Value}
  (hf:∀ v u s2 x y H2,Inv X pins σ H2 s2 → RelV x v → RelV y u → R x y H2 → wpAny (model X.prog X.w) X.A (f v u) Q X.xe s2) :
  wpAny (model X.prog X.w) X.A (eval a X.env) (fun v s₁ => wpAny (model X.prog X.w) X.A (eval b X.env) (fun u s₂ => wpAny (model X.prog X.w) X.A (f v u) Q X.xe s₂) X.xe s₁) X.xe s:=by
 refine thn (ha pins s σ H _ I h) fun v s1 ⟨x,H1,I1,r1,q1⟩ => ?_
 refine thn (hb pins s1 σ H1 _ I1 q1) fun u s2 ⟨y,H2,I2,r2,q2⟩ => ?_
 exact hf v u s2 x y H2 I2 r1 r2 q2
theorem pe_op {op:Operator} {r:R2} (ho:OpR X (binaryOp op) r) (ha:PE X a ta) (hb:PE X b tb):PE X (.BinOp a op b pos) (tOp r ta tb):=by
 intro pins s σ H Q I h
 exact wpAny_BinOp (binT ha hb I h fun v u s2 x y H2 I2 rx ry q => ho pins s2 σ H2 x y v u Q I2 rx ry q)
theorem pe_un {op:UnaryOp} {r:V → Hp → VK → Prop} (ho:UnR X (unaryOp op) r) (ha:PE X a ta):PE X (.UnaryOp op a pos) (tUn r ta):=by
 intro pins s σ H Q I h
 exact UnaryOp_ (thn (ha pins s σ H _ I h) fun v s1 ⟨x,H1,I1,r1,q1⟩ => ho pins s1 σ H1 x v Q I1 r1 q1)
theorem opI {f:Value → Value → Sem Value} {C:Int → Int → Prop} {g:Int → Int → Int}
  (rule:∀ (i j:Int) (t u:Tok) (s:Shared) (Q:Value → Shared → Prop) (E:Value → Shared → Prop),C i j → Q (.int (g i j) s.toks) { s with toks:=s.toks + 1 } → wpAny (model X.prog X.w) X.A (f (.int i t) (.int j u)) Q E s) :
  OpR X f (rI C fun i j => .int (g i j)):=by
 intro pins s σ H x y v u Q I rx ry h
 obtain ⟨i,j,rfl,rfl,hc,q⟩:=h
 obtain ⟨t,rfl⟩:=rx
 obtain ⟨t',rfl⟩:=ry
 exact rule i j t t' s _ _ hc ⟨.int (g i j),H,I.tok _,⟨_,rfl⟩,q⟩
theorem opI0 {f:Value → Value → Sem Value} {g:Int → Int → Int}
  (rule:∀ (i j:Int) (t u:Tok) (s:Shared) (Q:Value → Shared → Prop) (E:Value → Shared → Prop),Q (.int (g i j) s.toks) { s with toks:=s.toks + 1 } → wpAny (model X.prog X.w) X.A (f (.int i t) (.int j u)) Q E s) :
  OpR X f (rI0 fun i j => .int (g i j)):=by
 intro pins s σ H x y v u Q I rx ry h
 obtain ⟨i,j,rfl,rfl,q⟩:=h
 obtain ⟨t,rfl⟩:=rx
 obtain ⟨t',rfl⟩:=ry
 exact rule i j t t' s _ _ ⟨.int (g i j),H,I.tok _,⟨_,rfl⟩,q⟩
theorem opB0 {f:Value → Value → Sem Value} {g:Int → Int → Bool}
  (rule:∀ (i j:Int) (t u:Tok) (s:Shared) (Q:Value → Shared → Prop) (E:Value → Shared → Prop),Q (.bool (g i j)) s → wpAny (model X.prog X.w) X.A (f (.int i t) (.int j u)) Q E s) :
  OpR X f (rI0 fun i j => .bl (g i j)):=by
 intro pins s σ H x y v u Q I rx ry h
 obtain ⟨i,j,rfl,rfl,q⟩:=h
 obtain ⟨t,rfl⟩:=rx
 obtain ⟨t',rfl⟩:=ry
 exact rule i j t t' s _ _ ⟨.bl (g i j),H,I,rfl,q⟩
noncomputable def CPow (i j:Int):Prop:=0 ≤ j ∧ j ≤ 1000000 ∧ i.natAbs < 2 ^ 64
noncomputable def CMul (i j:Int):Prop:=(-(2 ^ 64) < i ∧ i < 2 ^ 64) ∨ (-(2 ^ 64) < j ∧ j < 2 ^ 64)
theorem CMul.ok {i j:Int} (h:CMul i j):IntMulOk i j:=by
 rcases h with ⟨h1,h2⟩ | ⟨h1,h2⟩
 ·exact .of_left (intBits_le_64 h1 h2)
 ·exact .of_right (intBits_le_64 h1 h2)
theorem op_add:OpR X (binaryOp .Add) (rI0 fun i j => .int (i + j)):=opI0 fun _ _ _ _ _ _ _ q => add_int q
theorem op_mod:OpR X (binaryOp .Mod) (rI (fun _ j => 0 < j) fun i j => .int (i % j)):=opI fun i j _ _ _ _ _ hc q => by
 have h1:(0:Int) < j:=hc
 exact mod_int' (by omega) (by rw [Int.fmod_eq_emod_of_nonneg i (by omega)]; exact q)
theorem op_pow:OpR X (binaryOp .Pow) (rI CPow fun i j => .int (i ^ j.toNat)):=opI fun _ _ _ _ _ _ _ hc q => pow_int_small hc.1 hc.2.1 hc.2.2 q
theorem unI {f:Value → Sem Value} {g:Int → Int}
  (rule:∀ (i:Int) (t:Tok) (s:Shared) (Q:Value → Shared → Prop) (E:Value → Shared → Prop),Q (.int (g i) s.toks) { s with toks:=s.toks + 1 } → wpAny (model X.prog X.w) X.A (f (.int i t)) Q E s) :
  UnR X f (rU fun i => .int (g i)):=by
 intro pins s σ H x v Q I rx h
 obtain ⟨i,rfl,q⟩:=h
 obtain ⟨t,rfl⟩:=rx
 exact rule i t s _ _ ⟨.int (g i),H,I.tok _,⟨_,rfl⟩,q⟩
theorem un_neg:UnR X (unaryOp .USub) (rU fun i => .int (-i)):=unI fun _ _ _ _ _ q => neg_int q
end
noncomputable def scal:V → V → Bool
 | .non,.non => true | .non,.int _ => true | .int _,.non => true | .non,.bl _ => true | .bl _,.non => true | .non,.str _ => true | .str _,.non => true
 | .int _,.int _ => true | .bl _,.bl _ => true | .str _,.str _ => true | .byt _,.byt _ => true
 | .int _,.str _ => true | .str _,.int _ => true | .bl _,.str _ => true | .str _,.bl _ => true
 | _,_ => false
noncomputable def rEq:R2:=fun x y H Q => scal x y = true ∧ Q (.bl (decide (x = y))) H
noncomputable def rNe:R2:=fun x y H Q => scal x y = true ∧ Q (.bl (!decide (x = y))) H
theorem dec_int {i j:Int}:decide (V.int i = V.int j) = (i == j):=by
 rw [Bool.eq_iff_iff]
 simp
theorem dec_bl {i j:Bool}:decide (V.bl i = V.bl j) = (i == j):=by
 rw [Bool.eq_iff_iff]
 simp
theorem dec_str {i j:Str}:decide (V.str i = V.str j) = (i == j):=by
 rw [Bool.eq_iff_iff]
 simp
theorem dec_byt {i j:Array UInt8}:decide (V.byt i = V.byt j) = (i.toList == j.toList):=by
 rw [Bool.eq_iff_iff]
 cases i
 cases j
 simp
section
variable {X:Cx} {a b c:Expr} {ta tb tc:TE} {pos:Pos}
theorem fin_bl {pins:List (Addr × Obj)} {σ:St} {H:Hp} {s:Shared} {Q:VK} {k k':Bool} (I:Inv X pins σ H s) (q:Q (.bl k) H) (e:k = k'):EP X pins σ Q (.bool k') s:=by
 subst e
 exact ⟨.bl k,H,I,rfl,q⟩
theorem op_eq:OpR X (compareOp .Eq) rEq:=by
 intro pins s σ H x y v u Q I rx ry h
 obtain ⟨hs,q⟩:=h
 cases x with
 | non =>
  cases rx
  cases y with
  | non => cases ry; exact PySem.EqNone.eq_none_none (fin_bl I q (by simp))
  | bl j => cases ry; exact PySem.EqNone.eq_none_bool (fin_bl I q (by simp))
  | int j => obtain ⟨t',rfl⟩:=ry; exact PySem.EqNone.eq_none_int (fin_bl I q (by simp))
  | str j => obtain ⟨t',rfl⟩:=ry; exact PySem.EqNone.eq_none_str (fin_bl I q (by simp))
  | _ => exact absurd (show false = true from hs) Bool.false_ne_true
 | bl i =>
  cases rx
  cases y with
  | non => cases ry; exact PySem.EqNone.eq_bool_none (fin_bl I q (by simp))
  | bl j => cases ry; exact eq_bool (fin_bl I q dec_bl)
  | str j => obtain ⟨t',rfl⟩:=ry; exact PySem.EqMixed.eq_bool_str (fin_bl I q (by simp))
  | _ => exact absurd (show false = true from hs) Bool.false_ne_true
 | int i =>
  obtain ⟨t,rfl⟩:=rx
  cases y with
  | non => cases ry; exact PySem.EqNone.eq_int_none (fin_bl I q (by simp))
  | int j => obtain ⟨t',rfl⟩:=ry; exact eq_int (fin_bl I q dec_int)
  | str j => obtain ⟨t',rfl⟩:=ry; exact PySem.EqMixed.eq_int_str (fin_bl I q (by simp))
  | _ => exact absurd (show false = true from hs) Bool.false_ne_true
 | str i =>
  obtain ⟨t,rfl⟩:=rx
  cases y with
  | non => cases ry; exact PySem.EqNone.eq_str_none (fin_bl I q (by simp))
  | bl j => cases ry; exact PySem.EqMixed.eq_str_bool (fin_bl I q (by simp))
  | int j => obtain ⟨t',rfl⟩:=ry; exact PySem.EqMixed.eq_str_int (fin_bl I q (by simp))
  | str j => obtain ⟨t',rfl⟩:=ry; exact eq_str (fin_bl I q dec_str)
  | _ => exact absurd (show false = true from hs) Bool.false_ne_true
 | byt i =>
  obtain ⟨t,rfl⟩:=rx
  cases y with
  | byt j => obtain ⟨t',rfl⟩:=ry; exact PySem.W.eq_bytes (fin_bl I q dec_byt)
  | _ => exact absurd (show false = true from hs) Bool.false_ne_true
 | _ => cases y <;> exact absurd (show false = true from hs) Bool.false_ne_true
theorem op_ne:OpR X (compareOp .NotEq) rNe:=by
 intro pins s σ H x y v u Q I rx ry h
 obtain ⟨hs,q⟩:=h
 cases x with
 | non =>
  cases rx
  cases y with
  | non => cases ry; exact PySem.EqNone.ne_none_none (fin_bl I q (by simp))
  | bl j => cases ry; exact PySem.EqNone.ne_none_bool (fin_bl I q (by simp))
  | int j => obtain ⟨t',rfl⟩:=ry; exact PySem.EqNone.ne_none_int (fin_bl I q (by simp))
  | str j => obtain ⟨t',rfl⟩:=ry; exact PySem.EqNone.ne_none_str (fin_bl I q (by simp))
  | _ => exact absurd (show false = true from hs) Bool.false_ne_true
 | bl i =>
  cases rx
  cases y with
  | non => cases ry; exact PySem.EqNone.ne_bool_none (fin_bl I q (by simp))
  | bl j => cases ry; exact ne_bool (fin_bl I q (congrArg not dec_bl))
  | str j => obtain ⟨t',rfl⟩:=ry; exact PySem.EqMixed.ne_bool_str (fin_bl I q (by simp))
  | _ => exact absurd (show false = true from hs) Bool.false_ne_true
 | int i =>
  obtain ⟨t,rfl⟩:=rx
  cases y with
  | non => cases ry; exact PySem.EqNone.ne_int_none (fin_bl I q (by simp))
  | int j => obtain ⟨t',rfl⟩:=ry; exact ne_int (fin_bl I q (congrArg not dec_int))
  | str j => obtain ⟨t',rfl⟩:=ry; exact PySem.EqMixed.ne_int_str (fin_bl I q (by simp))
  | _ => exact absurd (show false = true from hs) Bool.false_ne_true
 | str i =>
  obtain ⟨t,rfl⟩:=rx
  cases y with
  | non => cases ry; exact PySem.EqNone.ne_str_none (fin_bl I q (by simp))
  | bl j => cases ry; exact PySem.EqMixed.ne_str_bool (fin_bl I q (by simp))
  | int j => obtain ⟨t',rfl⟩:=ry; exact PySem.EqMixed.ne_str_int (fin_bl I q (by simp))
  | str j => obtain ⟨t',rfl⟩:=ry; exact ne_str (fin_bl I q (congrArg not dec_str))
  | _ => exact absurd (show false = true from hs) Bool.false_ne_true
 | byt i =>
  obtain ⟨t,rfl⟩:=rx
  cases y with
  | byt j => obtain ⟨t',rfl⟩:=ry; exact PySem.W.ne_bytes (fin_bl I q (congrArg not dec_byt))
  | _ => exact absurd (show false = true from hs) Bool.false_ne_true
 | _ => cases y <;> exact absurd (show false = true from hs) Bool.false_ne_true
theorem op_lt:OpR X (compareOp .Lt) (rI0 fun i j => .bl (decide (i < j))):=opB0 fun _ _ _ _ _ _ _ q => lt_int q
theorem op_le:OpR X (compareOp .LtE) (rI0 fun i j => .bl (decide (i ≤ j))):=opB0 fun _ _ _ _ _ _ _ q => le_int q
theorem op_gt:OpR X (compareOp .Gt) (rI0 fun i j => .bl (decide (j < i))):=opB0 fun _ _ _ _ _ _ _ q => gt_int q
theorem op_in_str:OpR X (compareOp .In) (fun x y H Q => ∃ i j,x = .str i ∧ y = .str j ∧ Q (.bl (!(Builtin.Str.occurrences j i 0 j.length 1).isEmpty)) H):=by
 intro pins s σ H x y v u Q I rx ry h
 obtain ⟨i,j,rfl,rfl,q⟩:=h
 obtain ⟨t,rfl⟩:=rx
 obtain ⟨t',rfl⟩:=ry
 exact in_str (fin_bl I q rfl)
theorem op_isN:OpR X (compareOp .Is) (fun x y H Q => y = .non ∧ Q (.bl (decide (x = .non))) H):=by
 intro pins s σ H x y v u Q I rx ry h
 obtain ⟨rfl,q⟩:=h
 cases ry
 refine is_none_gen (fin_bl I q ?_)
 cases x <;> first
  | (cases rx; rfl)
  | (obtain ⟨t,rfl⟩:=rx; rfl)
theorem op_notN:OpR X (compareOp .IsNot) (fun x y H Q => y = .non ∧ Q (.bl (!decide (x = .non))) H):=by
 intro pins s σ H x y v u Q I rx ry h
 obtain ⟨rfl,q⟩:=h
 cases ry
 refine isnot_none_gen (fin_bl I q ?_)
 cases x <;> first
  | (cases rx; rfl)
  | (obtain ⟨t,rfl⟩:=rx; rfl)
theorem op_notin_str:OpR X (compareOp .NotIn) (fun x y H Q => ∃ i j,x = .str i ∧ y = .str j ∧ Q (.bl (!(!(Builtin.Str.occurrences j i 0 j.length 1).isEmpty))) H):=by
 intro pins s σ H x y v u Q I rx ry h
 obtain ⟨i,j,rfl,rfl,q⟩:=h
 obtain ⟨t,rfl⟩:=rx
 obtain ⟨t',rfl⟩:=ry
 exact notIn_str (fin_bl I q rfl)
theorem OpR.or {f:Value → Value → Sem Value} {r r':R2} (h:OpR X f r) (h':OpR X f r'):OpR X f (fun x y H Q => r x y H Q ∨ r' x y H Q):=by
 intro pins s σ H x y v u Q I rx ry q
 rcases q with q | q
 ·exact h pins s σ H x y v u Q I rx ry q
 ·exact h' pins s σ H x y v u Q I rx ry q
theorem pe_cmpR {op:CmpOp} {r:R2} (ho:OpR X (compareOp op) r) (ha:PE X a ta) (hb:PE X b tb) (hm:behindInMarks op b = false):PE X (.Compare a [op] [b] pos) (tOp r ta tb):=by
 intro pins s σ H Q I h
 exact wpAny_Compare1 (binT ha hb I h fun v u s2 x y H2 I2 rx ry q => ho pins s2 σ H2 x y v u Q I2 rx ry q) hm
noncomputable def tTest (t:TE):TT:=fun σ H Q => t σ H fun x H' => ∃ k,x = .bl k ∧ Q k H'
theorem pt_cmpR {op:CmpOp} {r:R2} (ho:OpR X (compareOp op) r) (ha:PE X a ta) (hb:PE X b tb) (hm:behindInMarks op b = false):PT X (.Compare a [op] [b] pos) (tTest (tOp r ta tb)):=by
 intro pins s σ H Q I h
 refine wpAny_isTrue_Compare1 (thn (ha pins s σ H _ I h) fun v s1 ⟨x,H1,I1,r1,q1⟩ => thn (hb pins s1 σ H1 _ I1 q1) fun u s2 ⟨y,H2,I2,r2,q2⟩ =>
  thn (ho pins s2 σ H2 x y v u _ I2 r1 r2 q2) fun c s3 ⟨z,H3,I3,r3,k,e,q3⟩ => ?_) hm
 subst e
 cases r3
 exact wpAny_truthy_bool ⟨H3,I3,q3⟩
noncomputable def tChain (r r':R2) (ta tb tc:TE):TE:=fun σ H Q => ta σ H fun x H1 => tb σ H1 fun y H2 => r x y H2 fun z H3 => ∃ k,z = .bl k ∧
 (if k = true then tc σ H3 fun w' H4 => r' y w' H4 Q else Q (.bl false) H3)
theorem pe_chain {op op':CmpOp} {r r':R2} (ho:OpR X (compareOp op) r) (ho':OpR X (compareOp op') r') (ha:PE X a ta) (hb:PE X b tb) (hc:PE X c tc)
  (hm:lastMarks [op,op'] [b,c] = false:=by with_unfolding_all rfl):PE X (.Compare a [op,op'] [b,c] pos) (tChain r r' ta tb tc):=by
 intro pins s σ H Q I h
 refine Compare_chain (thn (ha pins s σ H _ I h) fun v s1 ⟨x,H1,I1,r1,q1⟩ => chain_link (thn (hb pins s1 σ H1 _ I1 q1) fun u s2 ⟨y,H2,I2,r2,q2⟩ =>
  thn (ho pins s2 σ H2 x y v u _ I2 r1 r2 q2) fun d s3 ⟨z,H3,I3,r3,k,e,q3⟩ => ?_)) hm
 subst e
 cases r3
 refine wpAny_truthy_bool ?_
 cases k with
 | false => exact ite_ff ⟨.bl false,H3,I3,rfl,q3⟩
 | true => exact ite_tt (chain_last (thn (hc pins s3 σ H3 _ I3 q3) fun w' s4 ⟨z',H4,I4,r4,q4⟩ => ho' pins s4 σ H4 y z' u w' Q I4 r2 r4 q4))
theorem line63:(sizeLine:Nat) < 2 ^ 63:=by rw [sizeLine_eq]; decide
theorem op_add_str:OpR X (binaryOp .Add) (fun x y H Q => ∃ i j,x = .str i ∧ y = .str j ∧ i.length + j.length ≤ sizeLine ∧ Q (.str (i ++ j)) H):=by
 intro pins s σ H x y v u Q I rx ry h
 obtain ⟨i,j,rfl,rfl,hz,q⟩:=h
 obtain ⟨t,rfl⟩:=rx
 obtain ⟨t',rfl⟩:=ry
 exact add_str (fun t' tk => ⟨.str (i ++ j),H,I.tok _,⟨_,rfl⟩,q⟩) hz
theorem vals1 {x:V} {us:List Value} (r:Vals [x] us):∃ u,us = [u] ∧ RelV x u:=by
 cases r with
 | cons r1 r2 => cases r2; exact ⟨_,rfl,r1⟩
theorem vals2 {x y:V} {us:List Value} (r:Vals [x,y] us):∃ u w',us = [u,w'] ∧ RelV x u ∧ RelV y w':=by
 cases r with
 | cons r1 r2 =>
  cases r2 with
  | cons r3 r4 => cases r4; exact ⟨_,_,rfl,r1,r3⟩
theorem call_max2 (hc:X.calm = true):CallR X (.builtin "max") (fun xs H Q => ∃ i j,xs = [.int i,.int j] ∧ Q (.int (if j > i then j else i)) H):=by
 intro pins s σ H xs us Q I r h
 obtain ⟨i,j,rfl,q⟩:=h
 obtain ⟨u,w',rfl,⟨t,rfl⟩,⟨t',rfl⟩⟩:=vals2 r
 refine max_two_ints (I.ok.hd hc) fun h' tk k => ⟨_,H,I.kept k,?_,q⟩
 by_cases hj:j > i
 ·rw [if_pos hj,if_pos hj]; exact ⟨_,rfl⟩
 ·rw [if_neg hj,if_neg hj]; exact ⟨_,rfl⟩
theorem call_min2 (hc:X.calm = true):CallR X (.builtin "min") (fun xs H Q => ∃ i j,xs = [.int i,.int j] ∧ Q (.int (if j < i then j else i)) H):=by
 intro pins s σ H xs us Q I r h
 obtain ⟨i,j,rfl,q⟩:=h
 obtain ⟨u,w',rfl,⟨t,rfl⟩,⟨t',rfl⟩⟩:=vals2 r
 refine min_two_ints (I.ok.hd hc) fun h' tk k => ⟨_,H,I.kept k,?_,q⟩
 by_cases hj:j < i
 ·rw [if_pos hj,if_pos hj]; exact ⟨_,rfl⟩
 ·rw [if_neg hj,if_neg hj]; exact ⟨_,rfl⟩
theorem call_str_int:CallR X (.type "str") (fun xs H Q => ∃ i,xs = [.int i] ∧ i.natAbs.log2 < 1920 ∧ Q (.str (toString i)) H):=by
 intro pins s σ H xs us Q I r h
 obtain ⟨i,rfl,hz,q⟩:=h
 obtain ⟨u,rfl,t,rfl⟩:=vals1 r
 exact PySem.P.str_of_int hz ⟨.str _,H,I.tok _,⟨_,rfl⟩,q⟩
end
end L2
namespace L2
open PySem PySem.Spec PyProof.Rows
structure ObjM (h:Heap) (x dx C:Addr) (mA:Str → Option Value):Prop where
 obj:h.get? x = some (PySem.W.instObj C dx)
 ns:h.Ns1 dx mA
 ne:dx ≠ x
theorem lookIn_ns {h:Heap} {dx:Addr} {mA:Str → Option Value} (n:h.Ns1 dx mA):∃ od,h.get? dx = some od ∧ ∀ name,PySem.W.lookIn name od = some (mA name):=by
 obtain ⟨o,es,ep,ho,hd,hk,_,hm⟩:=n
 refine ⟨o,ho,fun name => ?_⟩
 have e:=hm name
 unfold nsFind findBy at e
 rw [← Array.find?_toList] at e
 unfold PySem.W.lookIn
 rw [hd]
 dsimp only
 split
 ·rename_i y q
  rw [q] at e
  exact congrArg some e
 ·rename_i q
  rw [q] at e
  have a:es.toList.any (·.refKey) = false:=by
   rw [List.any_eq_false]
   intro y hy
   obtain ⟨z,t,hkey⟩:=hk y (Array.mem_toList_iff.mp hy)
   simp [DictEntry.refKey,hkey]
  have a':¬ es.toList.any (·.refKey) = true:=by rw [a]; exact Bool.false_ne_true
  rw [if_neg a']
  exact congrArg some e
theorem ObjM.look {h:Heap} {x dx C:Addr} {mA:Str → Option Value} (I:ObjM h x dx C mA):∃ od,PySem.W.InstAt h x (PySem.W.instObj C dx) C (some od) ∧ ∀ name,PySem.W.lookIn name od = some (mA name) :=
 let ⟨od,ho,hl⟩:=lookIn_ns I.ns
 ⟨od,⟨I.obj,rfl,rfl,ho⟩,hl⟩
section
variable {prog:Program} {w:World} {A:Around} {E:Value → Shared → Prop} {s:Shared} {K:PySem.W.Frag} {x dx C f:Addr} {mA:Str → Option Value} {name:Str} {v:Value}
theorem get_map {expr:Bool} {Q:Value → Shared → Prop} (X:K.In s.heap) (I:ObjM s.heap x dx C mA) (hg:PySem.W.plainGet K C name = true) (hh:PySem.W.hasDictIn K C = true)
  (ha:PySem.W.findIn K (.ref C) name = some none) (hv:mA name = some v) (hv':PySem.W.handedIn v = true) (h:Q v { s with toks:=s.toks + 1 }) :
  wpAny (model prog w) A (getAttr (.ref x) name expr) Q E s:=by
 obtain ⟨od,J,hl⟩:=I.look
 exact PySem.W.get_value X J (PySem.W.plainGet_of hg).1 (PySem.W.findObj_own hh ha rfl (by rw [hl,hv])) hv' h
theorem get_meth {pl:Sem Bool} {Q:Value × List Value → Shared → Prop} (X:K.In s.heap) (I:ObjM s.heap x dx C mA) (hg:PySem.W.plainGet K C name = true)
  (hf:PySem.W.findIn K (.ref C) name = some (some (.ref f))) (ht:PySem.W.isFn K (.ref f) = true) (hv:mA name = none) (h:Q (.ref f,[.ref x]) s) :
  wpAny (model prog w) A (getMethod (.ref x) name pl) Q E s:=by
 obtain ⟨od,J,hl⟩:=I.look
 exact PySem.W.method_fn X J (PySem.W.plainGet_of hg).1 (PySem.W.plainGet_of hg).2 hf (beq_iff_eq.mp ht) (by show (PySem.W.lookIn name od).map (·.isSome) = some false; rw [hl,hv]; rfl) h
theorem set_map {ns:List Str} {Q:Unit → Shared → Prop} (X:K.In s.heap) (I:ObjM s.heap x dx C mA)
  (hs:PySem.W.findIn K (.ref C) "__setattr__" = some (some (.builtin "object.__setattr__"))) (hp:PySem.W.plainOver K C = true) (ht:PySem.W.takerIn K C name = some none) (hh:PySem.W.hasDictIn K C = true)
  (hw:PySem.Within mA ns) (hsz:ns.length ≤ sizeLine)
  (h:∀ h',ObjM h' x dx C (fun y => if y = name then some v else mA y) → Heap.SameBut dx s.heap h' → Q () { s with heap:=h',toks:=s.toks + 2 }) :
  wpAny (model prog w) A (setAttr (.ref x) name v) Q E s:=by
 obtain ⟨od,J,hl⟩:=I.look
 refine PySem.W.set_plain X J hs (PySem.W.osa_open (s:={ s with toks:=s.toks + 1 }) (r:=none) X J hp ht fun b => ?_)
 obtain ⟨cd,hc,hd'⟩:=PySem.W.any_some hh
 have hx:s.heap.get? x = some ⟨.ref C,some dx,.plain,#[]⟩:=I.obj
 refine wpAny_bind (wpAny_pure (wpAny_bind (wpAny_bind (wpAny_loadPart hx (wpAny_bind (PySem.W.Looks.here (s:={ s with toks:=s.toks + 1 }) (PySem.W.looks_clsIn X hc) ?_))))))
 rw [hd']
 refine wpAny_pure (a:=some dx) (wpAny_bind (wpAny_pure (wpAny_bind ?_)))
 refine wpAny_nsSet1 (s:={ s with toks:=s.toks + 1 }) I.ns fun h' hn2 hs2 => ?_
 obtain ⟨oD,esD,epD,hoD,hdD,hcD⟩:=hn2.count (PySem.Within.cons name v hw)
 refine wpAny_bind (wpAny_lookBehind hoD (by rw [hdD]; exact pastItsLine_dict (Nat.le_trans hcD (by rw [List.length_cons]; omega))) ?_)
 exact wpAny_pure (h _ ⟨(hs2.2 _ (Ne.symm I.ne)).trans I.obj,hn2,I.ne⟩ hs2)
theorem make_map {R:Result → Shared → Prop} {vs:List Value} {kw:List (Str × Value)} (X:K.In s.heap) (hm:PySem.W.makesIn K C = true)
  (hi:PySem.W.findIn K (.ref C) "__init__" = some (some (.ref f))) (hf:PySem.W.typeIn K (.ref f) = some (.type "function"))
  (h:codeAny (model prog w) (A.under (.builtin "type.__call__" ⟨.ref C :: vs,kw⟩)) (.call (.ref f) ⟨.ref (s.heap.objs.size + 1) :: vs,kw⟩) (PySem.W.InitBack (s.heap.objs.size + 1) R)
   { s with heap:=(s.heap.push PySem.W.emptyDict).push (PySem.W.instObj C s.heap.objs.size) }) :
  codeAny (model prog w) A (.call (.ref C) ⟨vs,kw⟩) R s:=by
 obtain ⟨hh,g,d,t,os⟩:=s
 exact PySem.W.make_core (PySem.W.makes_of X hm) (PySem.W.looks_findIn X hi) (fun self => PySem.W.bind_fn X self hf) (.inl rfl) h
end
noncomputable def putF (f:Str) (v:V):List (Str × V) → List (Str × V)
 | [] => [(f,v)]
 | (g,x) :: r => if g = f then (g,v) :: r else (g,x) :: putF f v r
theorem lookup_putF (f g:Str) (v:V):∀ fs:List (Str × V),(putF f v fs).lookup g = if g = f then some v else fs.lookup g
 | [] => by
  show List.lookup g [(f,v)] = _
  by_cases h:g = f
  ·have hb:(g == f) = true:=beq_iff_eq.mpr h
   simp only [List.lookup,hb,if_pos h]
  ·have hb:(g == f) = false:=beq_eq_false_iff_ne.mpr h
   simp only [List.lookup,hb,if_neg h]
 | (k,x) :: r => by
  have ih:=lookup_putF f g v r
  rw [show putF f v ((k,x) :: r) = (if k = f then (k,v) :: r else (k,x) :: putF f v r) from rfl]
  by_cases hk:k = f
  ·rw [if_pos hk]
   by_cases h:g = k
   ·have hb:(g == k) = true:=beq_iff_eq.mpr h
    simp only [List.lookup,hb,if_pos (h.trans hk)]
   ·have hb:(g == k) = false:=beq_eq_false_iff_ne.mpr h
    simp only [List.lookup,hb,if_neg (fun e:g = f => h (e.trans hk.symm))]
  ·rw [if_neg hk]
   by_cases h:g = k
   ·have hb:(g == k) = true:=beq_iff_eq.mpr h
    simp only [List.lookup,hb,if_neg (fun e:g = f => hk (h.symm.trans e))]
   ·have hb:(g == k) = false:=beq_eq_false_iff_ne.mpr h
    simp only [List.lookup,hb]
    exact ih
theorem keys_putF (f:Str) (v:V):∀ fs:List (Str × V),f ∈ (putF f v fs).map (·.1) ∧ ∀ g,g ∈ fs.map (·.1) → g ∈ (putF f v fs).map (·.1)
 | [] => ⟨by simp [putF],fun g h => by simp at h⟩
 | (k,x) :: r => by
  obtain ⟨i1,i2⟩:=keys_putF f v r
  rw [show putF f v ((k,x) :: r) = (if k = f then (k,v) :: r else (k,x) :: putF f v r) from rfl]
  by_cases hk:k = f
  ·rw [if_pos hk]
   subst hk
   exact ⟨by simp,fun g h => by simpa using h⟩
  ·rw [if_neg hk]
   refine ⟨?_,fun g h => ?_⟩
   ·rw [List.map_cons]
    exact List.mem_cons_of_mem _ i1
   ·rw [List.map_cons] at h ⊢
    rcases List.mem_cons.mp h with e | e
    ·exact List.mem_cons.mpr (.inl e)
    ·exact List.mem_cons_of_mem _ (i2 g e)
theorem length_putF (f:Str) (v:V):∀ fs:List (Str × V),(putF f v fs).length ≤ fs.length + 1
 | [] => by simp [putF]
 | (k,x) :: r => by
  have ih:=length_putF f v r
  rw [show putF f v ((k,x) :: r) = (if k = f then (k,v) :: r else (k,x) :: putF f v r) from rfl]
  by_cases hk:k = f
  ·rw [if_pos hk,List.length_cons,List.length_cons]; omega
  ·rw [if_neg hk,List.length_cons,List.length_cons]; omega
theorem RelO.some_of {v:V} {o:Option Value} (r:RelO (some v) o):∃ u,o = some u ∧ RelV v u:=by
 cases o with
 | none => exact (show False from r).elim
 | some u => exact ⟨u,rfl,r⟩
theorem RelO.none_of {o:Option Value} (r:RelO none o):o = none:=by
 cases o with
 | none => rfl
 | some u => exact (show False from r).elim
theorem handed_of {v:V} {u:Value} (r:RelV v u):PySem.W.handedIn u = true:=by
 cases v with
 | non => cases (show u = Value.none from r); rfl
 | bl b => cases (show u = Value.bool b from r); rfl
 | int i => obtain ⟨t,e⟩:=(show ∃ t,u = Value.int i t from r); cases e; rfl
 | str x => obtain ⟨t,e⟩:=(show ∃ t,u = Value.str x t from r); cases e; rfl
 | byt b => obtain ⟨t,e⟩:=(show ∃ t,u = Value.bytes b t from r); cases e; rfl
 | flt b => obtain ⟨t,e⟩:=(show ∃ t,u = Value.float b t from r); cases e; rfl
 | ref a => cases (show u = Value.ref a from r); rfl
 | ty n => cases (show u = Value.type n from r); rfl
section
variable {P:Program} {w:World} {H H':Hp} {h h':Heap} {a C dx:Addr} {fs fs':List (Str × V)}
theorem ins_get (hok:HOk P w H h) (e:H a = some (.ins C dx fs)):∃ mA,ObjM h a dx C mA ∧ (∀ f,RelO (fs.lookup f) (mA f)) ∧ PySem.Within mA (fs.map (·.1)) ∧ fs.length ≤ 1000 ∧ H dx = some (.own a):=by
 obtain ⟨d,z,ne,ob,mA,n,r,q⟩:=(show ObjOk P w H h a (.ins C dx fs) from hok a _ e)
 exact ⟨mA,⟨ob,n,ne⟩,r,q,z,d⟩
end
structure Cls (K:PySem.W.Frag) (C:Addr):Prop where
 pg:PySem.W.plainGet K C Str.empty = true
 hd:PySem.W.hasDictIn K C = true
 po:PySem.W.plainOver K C = true
 sa:PySem.W.findIn K (.ref C) "__setattr__" = some (some (.builtin "object.__setattr__"))
theorem Cls.get {K:PySem.W.Frag} {C:Addr} (c:Cls K C) (f:Str):PySem.W.plainGet K C f = true:=c.pg
noncomputable def NoAttr (K:PySem.W.Frag) (C:Addr) (f:Str):Prop:=PySem.W.findIn K (.ref C) f = some none
theorem NoAttr.taker {K:PySem.W.Frag} {C:Addr} {f:Str} (n:NoAttr K C f):PySem.W.takerIn K C f = some none:=by
 unfold PySem.W.takerIn
 rw [show PySem.W.findIn K (.ref C) f = some none from n]
 rfl
structure Meth (K:PySem.W.Frag) (C:Addr) (m:Str) (f:Addr):Prop where
 at_:PySem.W.findIn K (.ref C) m = some (some (.ref f))
 fn:PySem.W.isFn K (.ref f) = true
 kp:PySem.W.keepIn K (.ref f) = true
section
variable {X:Cx} {pins:List (Addr × Obj)} {σ:St} {H:Hp} {s:Shared} {a C dx:Addr} {fs:List (Str × V)} {f:Str} {v:V} {A:Around} {E:Value → Shared → Prop}
theorem getattr_ok {b:Bool} {Q:Value → Shared → Prop} (I:Inv X pins σ H s) (e:H a = some (.ins C dx fs)) (c:Cls X.K C) (n:NoAttr X.K C f) (l:fs.lookup f = some v)
  (h:∀ u s',Inv X pins σ H s' → RelV v u → Q u s'):wpAny (model X.prog X.w) A (getAttr (.ref a) f b) Q E s:=by
 obtain ⟨mA,O,r,_,_,_⟩:=ins_get I.hok e
 obtain ⟨u,hu,ru⟩:=RelO.some_of (v:=v) (o:=mA f) (by rw [← l]; exact r f)
 exact get_map I.kIn O (c.get f) c.hd n hu (handed_of ru) (h u _ (I.tok _) ru)
theorem getmeth_ok {m:Str} {g:Addr} {pl:Sem Bool} {Q:Value × List Value → Shared → Prop} (I:Inv X pins σ H s) (e:H a = some (.ins C dx fs)) (c:Cls X.K C) (k:Meth X.K C m g) (l:fs.lookup m = none)
  (h:Q (.ref g,[.ref a]) s):wpAny (model X.prog X.w) A (getMethod (.ref a) m pl) Q E s:=by
 obtain ⟨mA,O,r,_,_,_⟩:=ins_get I.hok e
 have hn:mA m = none:=RelO.none_of (by rw [← l]; exact r m)
 exact get_meth I.kIn O (c.get m) k.at_ k.fn hn h
theorem setattr_ok {y:V} {u:Value} {Q:Unit → Shared → Prop} (I:Inv X pins σ H s) (e:H a = some (.ins C dx fs)) (c:Cls X.K C) (n:NoAttr X.K C f) (hl:fs.length < 1000) (ry:RelV y u)
  (h:∀ s',Inv X pins σ (upd H a (.ins C dx (putF f y fs))) s' → Q () s'):wpAny (model X.prog X.w) A (setAttr (.ref a) f u) Q E s:=by
 obtain ⟨mA,O,r,wi,_,ho⟩:=ins_get I.hok e
 have hz:(fs.map (·.1)).length ≤ sizeLine:=by rw [List.length_map,sizeLine_eq]; omega
 refine set_map I.kIn O c.sa c.po n.taker c.hd wi hz fun h' O' sb => h _ ?_
 have hd:∃ o,h'.get? dx = some o:=let ⟨o,_,_,e',_⟩:=O'.ns; ⟨o,e'⟩
 refine I.write (x:=a) (e:=dx) (by rw [e]; exact True.intro) (.inr ho) (fun b q hb z => (sb.2 b hb).trans z) hd ?_
 refine ⟨by rw [upd_ne O.ne]; exact ho,?_,O.ne,O'.obj,_,O'.ns,fun g => ?_,fun g hg => ?_⟩
 ·have:=length_putF f y fs; omega
 ·show RelO ((putF f y fs).lookup g) (if g = f then some u else mA g)
  rw [lookup_putF]
  by_cases q:g = f
  ·rw [if_pos q,if_pos q]; exact ry
  ·rw [if_neg q,if_neg q]; exact r g
 ·by_cases q:g = f
  ·rw [q]; exact (keys_putF f y fs).1
  ·refine (keys_putF f y fs).2 g (wi g fun z => hg ?_)
   show (if g = f then some u else mA g) = none
   rw [if_neg q]; exact z
theorem Inv.made (I:Inv X pins σ H s):Inv X pins σ (upd (upd H s.heap.objs.size (.own (s.heap.objs.size + 1))) (s.heap.objs.size + 1) (.ins C s.heap.objs.size []))
  { s with heap:=(s.heap.push PySem.W.emptyDict).push (PySem.W.instObj C s.heap.objs.size) }:=by
 have e1:(s.heap.push PySem.W.emptyDict).get? s.heap.objs.size = some PySem.W.emptyDict:=Heap.get?_push_size s.heap rfl
 have e2:((s.heap.push PySem.W.emptyDict).push (PySem.W.instObj C s.heap.objs.size)).get? (s.heap.objs.size + 1) = some (PySem.W.instObj C s.heap.objs.size):=by
  have:=Heap.get?_push_size (s.heap.push PySem.W.emptyDict) (o:=PySem.W.instObj C s.heap.objs.size) rfl
  rwa [Heap.size_push] at this
 have e3:(s.heap.push PySem.W.emptyDict).Ns s.heap.objs.size (fun _ => none):=⟨PySem.W.emptyDict,#[],_,e1,rfl,(fun e he => absurd he (by simp)),fun _ => rfl⟩
 have I1:=I.laid (a:=s.heap.objs.size) (o:=.own (s.heap.objs.size + 1)) (h':=s.heap.push PySem.W.emptyDict) (t':=s.toks) (fun b u q => Heap.get?_push_of_some _ q) (Nat.le_refl _) ⟨_,e1⟩
 refine I1.laid (a:=s.heap.objs.size + 1) (o:=.ins C s.heap.objs.size []) (t':=s.toks) (fun b u q => Heap.get?_push_of_some _ q) (Nat.le_of_eq (Heap.size_push _ _)) ?_
 have ne:s.heap.objs.size ≠ s.heap.objs.size + 1:=Nat.ne_of_lt (Nat.lt_succ_self _)
 refine ⟨by rw [upd_ne ne,upd_same],Nat.zero_le _,ne,e2,fun _ => none,(Heap.Ns1.of_empty e3).at fun o q => Heap.get?_push_of_some _ q,fun _ => True.intro,fun y hy => absurd rfl hy⟩
theorem attr_of {prog:Program} {w:World} {env:Env} {e:Expr} {f:Str} {pos:Pos} {s:Shared} {Q:Value → Shared → Prop} (hb:attributeBase e f env (eval e env) = eval e env)
  (h:wpAny (model prog w) A (eval e env) (fun o s₁ => wpAny (model prog w) A (getAttr o f true) Q E s₁) E s):wpAny (model prog w) A (eval (.Attribute e f pos) env) Q E s :=
 Attribute_any_ h (by rw [arm_eval_Attribute,hb])
end
noncomputable def tFld (K:PySem.W.Frag) (ta:TE) (f:Str):TE:=fun σ H Q => ta σ H fun x H1 => ∃ a C dx fs v,x = .ref a ∧ H1 a = some (.ins C dx fs) ∧ Cls K C ∧ NoAttr K C f ∧ fs.lookup f = some v ∧ Q v H1
noncomputable def sFld (K:PySem.W.Frag) (ta tv:TE) (f:Str):TS:=fun D σ H => tv σ H fun y H1 => ta σ H1 fun x H2 => ∃ a C dx fs,x = .ref a ∧ H2 a = some (.ins C dx fs) ∧ Cls K C ∧ NoAttr K C f ∧ fs.length < 1000 ∧
 D.nx σ (upd H2 a (.ins C dx (putF f y fs)))
noncomputable def InOp (X:Cx) (op:Operator) (rd:V → V → Hp → VK → Prop):Prop :=
 ∀ (pins:List (Addr × Obj)) (s:Shared) (σ:St) (H:Hp) (x y:V) (u v:Value) (Q:VK),Inv X pins σ H s → RelV x u → RelV y v → rd x y H Q → wpAny (model X.prog X.w) X.A (inplaceOp op u v) (EP X pins σ Q) X.xe s
noncomputable def sFldAug (K:PySem.W.Frag) (ta tv:TE) (rd:V → V → Hp → VK → Prop) (f:Str):TS:=fun D σ H => ta σ H fun x H1 => ∃ a C dx fs v,x = .ref a ∧ H1 a = some (.ins C dx fs) ∧ Cls K C ∧ NoAttr K C f ∧ fs.lookup f = some v ∧
 tv σ H1 fun y H2 => rd v y H2 fun z H3 => ∃ dx' fs',H3 a = some (.ins C dx' fs') ∧ fs'.length < 1000 ∧ D.nx σ (upd H3 a (.ins C dx' (putF f z fs')))
section
variable {X:Cx} {o e value:Expr} {f:Str} {pos pos' tpos:Pos} {ta tv:TE}
theorem pe_fld (he:PE X e ta) (hb:attributeBase e f X.env (eval e X.env) = eval e X.env):PE X (.Attribute e f pos) (tFld X.K ta f):=by
 intro pins s σ H Q I h
 refine attr_of hb (thn (he pins s σ H _ I h) fun u s1 ⟨x,H1,I1,rx,a,C,dx,fs,v,ex,ea,c,n,l,q⟩ => ?_)
 subst ex
 obtain rfl:u = Value.ref a:=rx
 exact getattr_ok I1 ea c n l fun u' s2 I2 ru => ⟨v,H1,I2,ru,q⟩
theorem ps_fld (ha:PE X o ta) (hv:PE X value tv) (hs:swapsWith value (some (.Attribute o f pos')) pos.line X.env = pure false):PS X (.Assign [.Attribute o f pos'] value pos) (sFld X.K ta tv f):=by
 intro pins s σ H D I h
 refine plainObj_wpAny_Assign_Attribute (thn (hv pins s σ H _ I h) fun u s1 ⟨y,H1,I1,ry,q⟩ => thn (ha pins s1 σ H1 _ I1 q) fun ov s2 ⟨x,H2,I2,rx,a,C,dx,fs,ex,ea,c,n,l,q2⟩ => ?_) hs
 subst ex
 obtain rfl:ov = Value.ref a:=rx
 exact setattr_ok I2 ea c n l ry fun s3 I3 => ⟨σ,_,I3,q2⟩
theorem ps_fldaug {op:Operator} {rd:V → V → Hp → VK → Prop} (ha:PE X o ta) (hv:PE X value tv) (hop:InOp X op rd):PS X (.AugAssign (.Attribute o f tpos) op value pos) (sFldAug X.K ta tv rd f):=by
 intro pins s σ H D I h
 refine wpAny_AugAssign_AttributeAny (thn (ha pins s σ H _ I h) fun ov s1 ⟨x,H1,I1,rx,a,C,dx,fs,v,ex,ea,c,n,l,q⟩ => ?_)
 subst ex
 obtain rfl:ov = Value.ref a:=rx
 refine getattr_ok I1 ea c n l fun u s2 I2 ru => thn (hv pins s2 σ H1 _ I2 q) fun w3 s3 ⟨y,H2,I3,ry,q3⟩ => thn (hop pins s3 σ H2 v y u w3 _ I3 ru ry q3) fun w4 s4 ⟨z,H3,I4,rz,dx',fs',ea',l',q4⟩ => ?_
 exact setattr_ok I4 ea' c n l' rz fun s5 I5 => ⟨σ,_,I5,q4⟩
noncomputable def rAdd:V → V → Hp → VK → Prop:=fun x y H Q => ∃ i j,x = .int i ∧ y = .int j ∧ Q (.int (i + j)) H
theorem in_add:InOp X .Add rAdd:=by
 rintro pins s σ H x y u v Q I rx ry ⟨i,j,rfl,rfl,q⟩
 obtain ⟨t,rfl⟩:=(show ∃ t,u = Value.int i t from rx)
 obtain ⟨t',rfl⟩:=(show ∃ t',v = Value.int j t' from ry)
 exact PyProof.Rows.iadd_int ⟨.int (i + j),H,I.tok _,⟨_,rfl⟩,q⟩
end
section
variable {X:Cx} {pins:List (Addr × Obj)} {σ:St} {H:Hp} {s:Shared} {A:Around} {E:Value → Shared → Prop} {Q:Value → Shared → Prop} {c:Value} {b:Bool}
inductive TyOf (K:PySem.W.Frag) (H:Hp):V → Value → Prop where
 | non:TyOf K H .non (.type "NoneType")
 | bl (x:Bool):TyOf K H (.bl x) (.type "bool")
 | int (i:Int):TyOf K H (.int i) (.type "int")
 | str (x:Str):TyOf K H (.str x) (.type "str")
 | flt (x:UInt64):TyOf K H (.flt x) (.type "float")
 | lst {a:Addr} {xs:List V} (e:H a = some (.lst xs)):TyOf K H (.ref a) (.type "list")
 | frz {a:Addr} {o:Obj} {xs:List V} (e:H a = some (.frz o (.lst xs))):TyOf K H (.ref a) (.type "list")
 | tup {a:Addr} {xs:List V} (e:H a = some (.tup xs)):TyOf K H (.ref a) (.type "tuple")
 | dK {a:Addr} {kvs:List (Key × V)} (e:H a = some (.dK kvs)):TyOf K H (.ref a) (.type "dict")
 | dT {a:Addr} {kvs:List (List Key × V)} (e:H a = some (.dT kvs)):TyOf K H (.ref a) (.type "dict")
 | ins {a C dx:Addr} {fs:List (Str × V)} (e:H a = some (.ins C dx fs)) (cl:Cls K C) (ha:PySem.W.findIn K (.ref C) "__class__" = some (some (.builtin "object.__class__")))
   (hn:PySem.W.specialIn K (.builtin "object.__class__") "__get__" = some (some (.builtin "getset_descriptor.__get__"))) (htk:PySem.W.takesIn K (.builtin "object.__class__") = some true)
   (hm:PySem.W.mroIn K C (.type "object") = some true):TyOf K H (.ref a) (.ref C)
theorem isinst_ok {x:V} {u t:Value} (I:Inv X pins σ H s) (rx:RelV x u) (ty:TyOf X.K H x t) (e:PySem.W.kitOne X.K t c = some b) (h:∀ tk,Q (.bool b) { s with toks:=tk }) :
  wpAny (model X.prog X.w) A (call (.builtin "isinstance") [u,c]) Q E s:=by
 cases ty with
 | non => cases (show u = Value.none from rx); exact PySem.W.kia_one PySem.W.kitx_none I.kIn True.intro e (fun z => nomatch z) h
 | bl y => cases (show u = Value.bool y from rx); exact PySem.W.kia_one PySem.W.kitx_bool I.kIn True.intro e (fun z => nomatch z) h
 | int i => obtain ⟨t,q⟩:=(show ∃ t,u = Value.int i t from rx); cases q; exact PySem.W.kia_one PySem.W.kitx_int I.kIn True.intro e (fun z => nomatch z) h
 | str y => obtain ⟨t,q⟩:=(show ∃ t,u = Value.str y t from rx); cases q; exact PySem.W.kia_one PySem.W.kitx_str I.kIn True.intro e (fun z => nomatch z) h
 | flt y => obtain ⟨t,q⟩:=(show ∃ t,u = Value.float y t from rx); cases q; exact PySem.W.kia_one PySem.W.kitx_float I.kIn True.intro e (fun z => nomatch z) h
 | @lst a xs ea =>
  cases (show u = Value.ref a from rx)
  obtain ⟨_,_,n,_,h1⟩:=(show ObjOk X.prog X.w H s.heap a (.lst xs) from I.hok a _ ea)
  exact PySem.W.kia_one PySem.W.kitx_list I.kIn ⟨_,h1,rfl⟩ e (fun z => nomatch z) h
 | @frz a ob xs ea =>
  cases (show u = Value.ref a from rx)
  obtain ⟨_,_,_,n,_,h1⟩:=(show ObjOk X.prog X.w H s.heap a (.frz ob (.lst xs)) from I.hok a _ ea)
  exact PySem.W.kia_one PySem.W.kitx_list I.kIn ⟨_,h1,rfl⟩ e (fun z => nomatch z) h
 | @tup a xs ea =>
  cases (show u = Value.ref a from rx)
  obtain ⟨_,_,_,p⟩:=(show ObjOk X.prog X.w H s.heap a (.tup xs) from I.hok a _ ea)
  obtain ⟨o,h1,h2,_⟩:=p
  exact PySem.W.kia_one PySem.W.kitx_tuple I.kIn ⟨o,h1,h2⟩ e (fun z => nomatch z) h
 | @dK a kvs ea =>
  cases (show u = Value.ref a from rx)
  obtain ⟨_,_,vs,_,p⟩:=(show ObjOk X.prog X.w H s.heap a (.dK kvs) from I.hok a _ ea)
  obtain ⟨o,es,ep,h1,h2,_⟩:=p
  exact PySem.W.kia_one PySem.W.kitx_dict I.kIn ⟨o,h1,h2.1⟩ e (fun z => nomatch z) h
 | @dT a kvs ea =>
  cases (show u = Value.ref a from rx)
  obtain ⟨_,_,xs,_,o,es,ep,h1,h2,_⟩:=(show ObjOk X.prog X.w H s.heap a (.dT kvs) from I.hok a _ ea)
  exact PySem.W.kia_one PySem.W.kitx_dict I.kIn ⟨o,h1,h2.1⟩ e (fun z => nomatch z) h
 | @ins a C dx fs ea cl ha hn htk hm =>
  cases (show u = Value.ref a from rx)
  obtain ⟨mA,O,_⟩:=ins_get I.hok ea
  obtain ⟨od,J,_⟩:=O.look
  exact PySem.W.kia_one (PySem.W.kitx_own (cl.get _) cl.hd ha hn htk hm) I.kIn J e (fun z => nomatch z) h
end
end L2
namespace L2
open PySem PySem.Spec PyProof.Rows
structure Room (k:Nat) (A:Around):Prop where
 hd:A.handled = none
 dp:A.depth + 3 * k + 5 < recursionLimit
 un:A.units + 16 * k + 200 < cLine
theorem Room.mono {j k:Nat} {A:Around} (r:Room k A) (h:j ≤ k):Room j A:=⟨r.hd,by have:=r.dp; omega,by have:=r.un; omega⟩
theorem Room.deeper {k:Nat} {A:Around} (r:Room (k + 1) A) (env:Env):Room k (A.deeper env) :=
 ⟨r.hd,by have:=r.dp; show A.depth + 1 + 3 * k + 5 < _; omega,by have:=r.un; show A.units + 3 + 16 * k + 200 < _; omega⟩
theorem Room.in1 {k:Nat} {A:Around} (r:Room (k + 1) A):Room k A.in1 :=
 ⟨r.hd,by have:=r.dp; show A.depth + 3 * k + 5 < _; omega,by have:=r.un; show A.units + 1 + 16 * k + 200 < _; omega⟩
theorem make_depth {A:Around} {C:Addr} {us:List Value} {kw:List (Str × Value)}:(A.under (.builtin "type.__call__" ⟨.ref C :: us,kw⟩)).depth = A.depth + 1:=by
 first | rfl | simp [Around.under,Code.weight,Code.isCreation,Code.isGuard,Code.isCaller,Code.frames,Code.isFrame,guardIds]
theorem make_units {A:Around} {C:Addr} {us:List Value} {kw:List (Str × Value)}:(A.under (.builtin "type.__call__" ⟨.ref C :: us,kw⟩)).units = A.units + 1:=by
 first | rfl | simp [Around.under,Code.cUnits,Code.frames,Code.isFrame]
theorem Room.make {k:Nat} {A:Around} (r:Room (k + 1) A) (C:Addr) (us:List Value) (kw:List (Str × Value)):Room k (A.under (.builtin "type.__call__" ⟨.ref C :: us,kw⟩)) :=
 ⟨r.hd,by have:=r.dp; rw [make_depth]; omega,by have:=r.un; rw [make_units]; omega⟩
theorem Room.depth {k:Nat} {A:Around} (r:Room k A):A.depth < recursionLimit:=by have:=r.dp; omega
theorem Room.units {k:Nat} {A:Around} (r:Room k A):A.units + 64 < cLine:=by have:=r.un; omega
noncomputable def tNil:TA:=fun _ H Q => Q [] H
noncomputable def tCons (ta:TE) (tr:TA):TA:=fun σ H Q => ta σ H fun x H1 => tr σ H1 fun xs H2 => Q (x :: xs) H2
section
variable {X:Cx} {e:Expr} {es:List Expr} {te:TE} {t:TA} {pos:Pos}
theorem pa_nil:PA X [] tNil:=fun _ _ _ _ H Q I h => Calls.spliced_nil ⟨[],H,I,.nil,h⟩
theorem pa_cons (ha:PE X e te) (hr:PA X es t) (hs:starEach (e :: es) X.env = (false,eval e X.env) :: starEach es X.env:=by rfl):PA X (e :: es) (tCons te t):=by
 intro pos pins s σ H Q I h
 rw [hs]
 show wpAny _ _ (spliced ((false,eval e X.env) :: backTo pos (starEach es X.env))) _ _ s
 refine Calls.spliced_cons (thn (ha pins s σ H _ I h) fun u s1 ⟨x,H1,I1,r1,q1⟩ => ?_)
 exact thn (hr pos pins s1 σ H1 _ I1 q1) fun us s2 ⟨xs,H2,I2,r2,q2⟩ => ⟨x :: xs,H2,I2,.cons r1 r2,q2⟩
noncomputable def tTup (t:TA):TE:=fun σ H Q => t σ H fun xs H1 => xs.length ≤ sizeLine ∧ ∀ p,H1 p = none → Q (.ref p) (upd H1 p (.tup xs))
noncomputable def tLst (t:TA):TE:=fun σ H Q => t σ H fun xs H1 => xs.length ≤ sizeLine ∧ ∀ p,H1 p = none → Q (.ref p) (upd H1 p (.lst xs))
theorem pe_tup {x1} (h:PA X es t):PE X (.Tuple es x1 pos) (tTup t):=by
 intro pins s σ H Q I hq
 refine wpAny_Tuple_spliced (thn (h pos pins s σ H _ I hq) fun us s1 ⟨xs,H1,I1,r,z,q⟩ => ⟨by rw [← r.length]; exact z,?_⟩)
 have hf:H1 s1.heap.objs.size = none:=I1.hok.fresh (Nat.le_refl _)
 refine ⟨.ref s1.heap.objs.size,upd H1 s1.heap.objs.size (.tup xs),I1.laid (t':=s1.toks) (fun b u e => Heap.get?_push_of_some _ e) (Nat.le_refl _) ?_,rfl,q _ hf⟩
 exact ⟨z,us,r,⟨_,Heap.get?_push_size _ rfl,rfl,_,rfl⟩⟩
theorem pe_lst (h:PA X es t):PE X (.List es pos) (tLst t):=by
 intro pins s σ H Q I hq
 refine wpAny_List_spliced (thn (h pos pins s σ H _ I hq) fun us s1 ⟨xs,H1,I1,r,z,q⟩ => ⟨by rw [← r.length]; exact z,?_⟩)
 have hf:H1 s1.heap.objs.size = none:=I1.hok.fresh (Nat.le_refl _)
 refine ⟨.ref s1.heap.objs.size,upd H1 s1.heap.objs.size (.lst xs),I1.laid (t':=s1.toks) (fun b u e => Heap.get?_push_of_some _ e) (Nat.le_refl _) ?_,rfl,q _ hf⟩
 exact ⟨z,us,0,r,Heap.get?_push_size _ rfl⟩
end
noncomputable abbrev Sp:=List V → Hp → VK → XK → Prop
noncomputable abbrev CXT:=List Env → Hp → Shared → XK → Value → Shared → Prop
structure Env0 (P:Program) (w:World) (K:PySem.W.Frag) (mg:Str → Option Value) (base:Heap) (A:Around) (outer:List Env) (s:Shared) (H:Hp):Prop where
 frames:A.frames = some outer
 mod:Mod K mg base
 bs:∀ b o,base.get? b = some o → s.heap.get? b = some o ∧ H b = none
 bsz:base.objs.size ≤ s.heap.objs.size
 funs:s.heap.FunFrames base outer
 frf:∀ b ∈ frs outer,H b = none
 hok:HOk P w H s.heap
 bare:AllBare s.gens
noncomputable def CE (outer:List Env) (P:Program) (w:World) (H:Hp) (s:Shared) (Q:VK) (u:Value) (s':Shared):Prop :=
 ∃ v H',s'.os = s.os ∧ AllBare s'.gens ∧ Un (frs outer) [] H H' s.heap s'.heap ∧ HOk P w H' s'.heap ∧ RelV v u ∧ Q v H'
noncomputable def CR (CX:CXT) (outer:List Env) (P:Program) (w:World) (H:Hp) (s:Shared) (Q:VK) (E:XK) (r:Result) (s':Shared):Prop :=
 match r with
 | .ok (.ret u) => CE outer P w H s Q u s'
 | .ok _ => False
 | .error e => CX outer H s E e s'
structure FnOk (P:Program) (w:World) (K:PySem.W.Frag) (mg:Str → Option Value) (base:Heap) (CX:CXT) (k:Nat) (f:Addr) (fd:FuncData) (ps:List Str) (sp:Sp):Prop where
 len:∀ vs H Q E,sp vs H Q E → vs.length = ps.length
 run:∀ (A:Around) (outer:List Env) (s:Shared) (H:Hp) (args:Args) (us:List Value) (vs:List V) (Q:VK) (E:XK),Room k A → Env0 P w K mg base A outer s H → BindsTo s fd args (ps.zip us) → Vals vs us → sp vs H Q E →
  codeAny (model P w) A (.call (.ref f) args) (CR CX outer P w H s Q E) s
theorem FnOk.mono {P:Program} {w:World} {K:PySem.W.Frag} {mg:Str → Option Value} {base:Heap} {CX:CXT} {j k:Nat} {f:Addr} {fd:FuncData} {ps:List Str} {sp:Sp} (F:FnOk P w K mg base CX j f fd ps sp) (h:j ≤ k) :
  FnOk P w K mg base CX k f fd ps sp:=⟨F.len,fun A outer s H args us vs Q E hr => F.run A outer s H args us vs Q E (hr.mono h)⟩
theorem Env0.make {P:Program} {w:World} {K:PySem.W.Frag} {mg:Str → Option Value} {base:Heap} {A:Around} {outer:List Env} {s:Shared} {H:Hp} (e:Env0 P w K mg base A outer s H) (C:Addr) (us:List Value) (kw:List (Str × Value)) :
  Env0 P w K mg base (A.under (.builtin "type.__call__" ⟨.ref C :: us,kw⟩)) outer s H:=⟨by first | exact e.frames | (simpa [Around.under,Code.envs,Code.isFrame,pushEnvs] using e.frames),e.mod,e.bs,e.bsz,e.funs,e.frf,e.hok,e.bare⟩
theorem Env0.in1 {P:Program} {w:World} {K:PySem.W.Frag} {mg:Str → Option Value} {base:Heap} {A:Around} {outer:List Env} {s:Shared} {H:Hp} (e:Env0 P w K mg base A outer s H) :
  Env0 P w K mg base A.in1 outer s H:=⟨e.frames,e.mod,e.bs,e.bsz,e.funs,e.frf,e.hok,e.bare⟩
section
variable {X:Cx} {pins:List (Addr × Obj)} {σ:St} {H:Hp} {s s':Shared}
theorem Inv.env0 (I:Inv X pins σ H s):Env0 X.prog X.w X.K X.mg X.base X.A X.stack s H :=
 ⟨I.ok.frames,I.ok.mod,I.bs,Nat.le_trans I.ok.bsz I.sz,I.stack,I.stkFree,I.hok,I.bare⟩
theorem Inv.after {Q:VK} {u:Value} (I:Inv X pins σ H s) (h:CE X.stack X.prog X.w H s Q u s'):EP X pins σ Q u s':=by
 obtain ⟨v,H',os,bare,un,hok,r,q⟩:=h
 obtain ⟨hh,g,d,t,os'⟩:=s'
 obtain rfl:os' = s.os:=os
 exact ⟨v,H',I.call (h':=hh) (g':=g) (d':=d) (t':=t) (ch:=[]) un hok bare (fun b z => absurd z (by simp)),r,q⟩
end
noncomputable def tCall (sp:Sp) (dvs:List V) (E:XK) (t:TA):TE:=fun σ H Q => t σ H fun vs H1 => sp (vs ++ dvs) H1 Q E
noncomputable def tMeth (C:Addr) (m:Str) (sp:Sp) (dvs:List V) (E:XK) (ta:TE) (t:TA):TE:=fun σ H Q => ta σ H fun x H1 => ∃ a dx fs,x = .ref a ∧ H1 a = some (.ins C dx fs) ∧ fs.lookup m = none ∧
 t σ H1 fun vs H2 => sp (x :: (vs ++ dvs)) H2 Q E
noncomputable def tMake (C:Addr) (sp:Sp) (dvs:List V) (E:XK) (t:TA):TE:=fun σ H Q => t σ H fun vs H1 => ∀ x dx,H1 x = none → H1 dx = none → dx ≠ x →
 sp (.ref x :: (vs ++ dvs)) (upd (upd H1 dx (.own x)) x (.ins C dx [])) (fun v H2 => v = .non ∧ Q (.ref x) H2) E
noncomputable def Binds (K:PySem.W.Frag) (fd:FuncData) (ps:List Str) (ds:List Value):Prop :=
 ∀ (s:Shared) (us:List Value),K.In s.heap → (us ++ ds).length = ps.length → BindsTo s fd ⟨us,[]⟩ (ps.zip (us ++ ds))
theorem Binds.all {K:PySem.W.Frag} {fd:FuncData} {ps:List Str} (h:∀ us:List Value,us.length = ps.length → bindArgs fd ⟨us,[]⟩ = pure (ps.zip us)):Binds K fd ps []:=fun s us _ hl => by
 rw [List.append_nil] at hl ⊢
 exact .of_eq (h us hl)
noncomputable def Passes (CX:CXT) (X:Cx) (E:XK):Prop:=∀ (pins:List (Addr × Obj)) (σ:St) (H:Hp) (s:Shared) (e:Value) (s':Shared),Inv X pins σ H s → CX X.stack H s E e s' → X.xe e s'
section
variable {X:Cx} {CX:CXT} {k:Nat} {f C:Addr} {fd:FuncData} {ps:List Str} {sp:Sp} {dvs:List V} {ds:List Value} {E:XK} {x m:Str} {p pos apos:Pos} {e o:Expr} {es:List Expr} {ta:TE} {t:TA}
theorem run_fn {pins:List (Addr × Obj)} {σ:St} {H:Hp} {s:Shared} {Q:VK} {us:List Value} {vs:List V} (F:FnOk X.prog X.w X.K X.mg X.base CX k f fd ps sp) (hr:Room k X.A) (hb:Binds X.K fd ps ds) (hd:Vals dvs ds) (hx:Passes CX X E)
  (I:Inv X pins σ H s) (r:Vals vs us) (h:sp (vs ++ dvs) H Q E):wpAny (model X.prog X.w) X.A (call (.ref f) us) (EP X pins σ Q) X.xe s:=by
 have r2:Vals (vs ++ dvs) (us ++ ds):=r.append hd
 have hl:(us ++ ds).length = ps.length:=by rw [← r2.length]; exact F.len _ _ _ _ h
 refine wpAny_call (codeAny_mono (F.run X.A X.stack s H ⟨us,[]⟩ (us ++ ds) (vs ++ dvs) Q E hr I.env0 (hb s us I.kIn hl) r2 h) fun r s' hq => ?_)
 cases r with
 | error e => exact hx pins σ H s e s' I hq
 | ok fl =>
  cases fl with
  | ret u => exact I.after hq
  | next => exact False.elim hq
  | brk => exact False.elim hq
  | cont => exact False.elim hq
theorem pe_call (F:FnOk X.prog X.w X.K X.mg X.base CX k f fd ps sp) (hr:Room k X.A) (hg:Gl X x) (hm:X.mg x = some (.ref f)) (hk:PySem.W.keepIn X.K (.ref f) = true) (hb:Binds X.K fd ps ds) (hd:Vals dvs ds) (hx:Passes CX X E)
  (ha:PA X (e :: es) t) (hdb:(x == ("__debug__":Str)) = false:=by decide) (he:starEach (e :: es) X.env = (false,eval e X.env) :: starEach es X.env:=by rfl) (hpl:(backTo pos (starEach es X.env)).any (·.1) = false:=by rfl) :
  PE X (.Call (.Name x p) (e :: es) [] pos) (tCall sp dvs E t):=by
 intro pins s σ H Q I h
 refine wpAny_Call_Name_kw (ld_glob I hg hm ?_ hdb)
 refine PySem.W.callWith_K (h₀:=X.base) I.ok.mod.kin hk (thn (ha pos pins s σ H _ I h) fun us s1 ⟨vs,H1,I1,r,q⟩ => ⟨I1.kIn,?_⟩) he hpl
 exact run_fn F hr hb hd hx I1 r q
theorem pe_meth0 {pl:Sem Bool} (he:PE X o ta) (c:Cls X.K C) (hm:Meth X.K C m f) (F:FnOk X.prog X.w X.K X.mg X.base CX k f fd ps sp) (hr:Room k X.A) (hb:Binds X.K fd ps ds) (hd:Vals dvs ds) (hx:Passes CX X E)
  (ht:eval (.Call (.Attribute o m apos) [] [] pos) X.env = (do
   let ov ← eval o X.env
   standAt apos.atName
   let (f,first) ← holding [ov] (getMethod ov m pl)
   callWith pos f first (backTo pos (starEach [] X.env)) (backToKw pos (keywordEach [] X.env))):=by rfl) :
  PE X (.Call (.Attribute o m apos) [] [] pos) (tMeth C m sp dvs E ta tNil):=by
 intro pins s σ H Q I h
 refine PySem.W.methodCall_KW (pl:=pl) (thn (he pins s σ H _ I h) fun u s1 ⟨x,H1,I1,rx,a,dx,fs,ex,ea,l,q⟩ => ?_) ht
 subst ex
 obtain rfl:u = Value.ref a:=rx
 refine getmeth_ok I1 ea c hm l ?_
 exact PySem.W.callWith_K0 (first:=[.ref a]) I1.kIn hm.kp (run_fn (us:=[.ref a]) (vs:=[.ref a]) F hr hb hd hx I1 (.cons rfl .nil) q)
structure Mk (K:PySem.W.Frag) (C f:Addr):Prop where
 makes:PySem.W.makesIn K C = true
 init:PySem.W.findIn K (.ref C) "__init__" = some (some (.ref f))
 fn:PySem.W.isFn K (.ref f) = true
 kp:PySem.W.keepIn K (.ref C) = true
theorem run_make {pins:List (Addr × Obj)} {σ:St} {H:Hp} {s:Shared} {Q:VK} {us:List Value} {vs:List V} (M:Mk X.K C f) (F:FnOk X.prog X.w X.K X.mg X.base CX k f fd ps sp) (hr:Room (k + 1) X.A) (hb:Binds X.K fd ps ds) (hd:Vals dvs ds)
  (hx:Passes CX X E) (I:Inv X pins σ H s) (r:Vals vs us)
  (h:∀ x dx,H x = none → H dx = none → dx ≠ x → sp (.ref x :: (vs ++ dvs)) (upd (upd H dx (.own x)) x (.ins C dx [])) (fun v H2 => v = .non ∧ Q (.ref x) H2) E) :
  wpAny (model X.prog X.w) X.A (call (.ref C) us) (EP X pins σ Q) X.xe s:=by
 have hq:=h (s.heap.objs.size + 1) s.heap.objs.size (I.hok.fresh (Nat.le_succ _)) (I.hok.fresh (Nat.le_refl _)) (Nat.ne_of_lt (Nat.lt_succ_self _))
 have I2:=Inv.made (C:=C) I
 have r2:Vals (V.ref (s.heap.objs.size + 1) :: (vs ++ dvs)) (Value.ref (s.heap.objs.size + 1) :: (us ++ ds)):=.cons rfl (r.append hd)
 have hl:(Value.ref (s.heap.objs.size + 1) :: us ++ ds).length = ps.length:=by
  have e:=r2.length
  rw [F.len _ _ _ _ hq] at e
  exact e.symm
 refine wpAny_call (make_map (f:=f) I.kIn M.makes M.init (beq_iff_eq.mp M.fn) (codeAny_mono (F.run _ X.stack _ _ ⟨Value.ref (s.heap.objs.size + 1) :: us,[]⟩ (Value.ref (s.heap.objs.size + 1) :: (us ++ ds)) _ _ E (hr.make C us [])
  (I2.env0.make C us []) (hb _ (Value.ref (s.heap.objs.size + 1) :: us) I2.kIn hl) r2 hq) fun r s' hq' => ?_))
 cases r with
 | error e => exact hx pins σ _ _ e s' I2 hq'
 | ok fl =>
  cases fl with
  | ret u =>
   obtain ⟨v,H',I3,rv,ev,q3⟩:=I2.after hq'
   subst ev
   exact ⟨rv,⟨V.ref (s.heap.objs.size + 1),H',I3,rfl,q3⟩⟩
  | next => exact False.elim hq'
  | brk => exact False.elim hq'
  | cont => exact False.elim hq'
theorem pe_make (M:Mk X.K C f) (F:FnOk X.prog X.w X.K X.mg X.base CX k f fd ps sp) (hr:Room (k + 1) X.A) (hg:Gl X x) (hm:X.mg x = some (.ref C)) (hb:Binds X.K fd ps ds) (hd:Vals dvs ds) (hx:Passes CX X E)
  (ha:PA X (e :: es) t) (hdb:(x == ("__debug__":Str)) = false:=by decide) (he:starEach (e :: es) X.env = (false,eval e X.env) :: starEach es X.env:=by rfl) (hpl:(backTo pos (starEach es X.env)).any (·.1) = false:=by rfl) :
  PE X (.Call (.Name x p) (e :: es) [] pos) (tMake C sp dvs E t):=by
 intro pins s σ H Q I h
 refine wpAny_Call_Name_kw (ld_glob I hg hm ?_ hdb)
 refine PySem.W.callWith_K (h₀:=X.base) I.ok.mod.kin M.kp (thn (ha pos pins s σ H _ I h) fun us s1 ⟨vs,H1,I1,r,q⟩ => ⟨I1.kIn,?_⟩) he hpl
 exact run_make M F hr hb hd hx I1 r q
end
structure FnScope (N P:List Str) (sc:Scope):Prop where
 kind:sc.kind = .function
 co:sc.isCoroutine = false
 gen:sc.isGenerator = false
 nd:N.Nodup
 pre:N.take P.length = P
 par:∀ x ∈ P,sc.names.lookup x = some .local ∨ sc.names.lookup x = some .cell
 nofree:∀ y ∈ sc.names,y.2 ≠ .free
theorem bindL_out {kindOf:Str → Option NameKind} {x:Str}:∀ {binds:List (Str × Value)} {m:Str → Option Value},(∀ v,(x,v) ∉ binds) → bindL kindOf binds m x = m x
 | [],_,_ => rfl
 | (n,v) :: r,m,h => by
  unfold bindL
  rw [bindL_out fun w hw => h w (List.mem_cons_of_mem _ hw)]
  split
  ·have:x ≠ n:=by rintro rfl; exact h v List.mem_cons_self
   simp [this]
  ·rfl
theorem bindC_out {kindOf:Str → Option NameKind} {x:Str}:∀ {binds:List (Str × Value)} {m:Str → Option Value},(∀ v,(x,v) ∉ binds) → bindC kindOf binds m x = m x
 | [],_,_ => rfl
 | (n,v) :: r,m,h => by
  unfold bindC
  rw [bindC_out fun w hw => h w (List.mem_cons_of_mem _ hw)]
  split
  ·rfl
  ·have:x ≠ n:=by rintro rfl; exact h v List.mem_cons_self
   simp [this]
theorem bindL_get {kindOf:Str → Option NameKind} {x:Str} {v:Value}:∀ {P:List Str} {vs:List Value} {i:Nat} {m:Str → Option Value},P.Nodup → P[i]? = some x → vs[i]? = some v → kindOf x = some .local →
  bindL kindOf (P.zip vs) m x = some v
 | [],_,_,_,_,h,_,_ => by simp at h
 | _ :: _,[],_,_,_,_,h,_ => by simp at h
 | p :: P,w :: vs,0,m,nd,h1,h2,hk => by
  simp at h1 h2; subst h1; subst h2
  show bindL kindOf ((p,w) :: P.zip vs) m p = _
  unfold bindL
  rw [bindL_out fun v hv => (List.nodup_cons.mp nd).1 (List.of_mem_zip hv).1,if_pos hk]
  simp
 | p :: P,w :: vs,i + 1,m,nd,h1,h2,hk => by
  show bindL kindOf ((p,w) :: P.zip vs) m x = _
  unfold bindL
  exact bindL_get (i:=i) (List.nodup_cons.mp nd).2 (by simpa using h1) (by simpa using h2) hk
theorem bindC_get {kindOf:Str → Option NameKind} {x:Str} {v:Value}:∀ {P:List Str} {vs:List Value} {i:Nat} {m:Str → Option Value},P.Nodup → P[i]? = some x → vs[i]? = some v → kindOf x ≠ some .local →
  bindC kindOf (P.zip vs) m x = some v
 | [],_,_,_,_,h,_,_ => by simp at h
 | _ :: _,[],_,_,_,_,h,_ => by simp at h
 | p :: P,w :: vs,0,m,nd,h1,h2,hk => by
  simp at h1 h2; subst h1; subst h2
  show bindC kindOf ((p,w) :: P.zip vs) m p = _
  unfold bindC
  rw [bindC_out fun v hv => (List.nodup_cons.mp nd).1 (List.of_mem_zip hv).1,if_neg hk]
  simp
 | p :: P,w :: vs,i + 1,m,nd,h1,h2,hk => by
  show bindC kindOf ((p,w) :: P.zip vs) m x = _
  unfold bindC
  exact bindC_get (i:=i) (List.nodup_cons.mp nd).2 (by simpa using h1) (by simpa using h2) hk
noncomputable def start (N:List Str) (vs:List V):St:=vs.map some ++ List.replicate (N.length - vs.length) none
noncomputable def cxOf (CX:CXT) (P:Program) (w:World) (K:PySem.W.Frag) (mg:Str → Option Value) (base:Heap) (N:List Str) (qual:Str) (scope:Scope) (f:Addr) (cd:Value) (A:Around) (outer:List Env) (s:Shared) (H:Hp) (E:XK):Cx where
 prog:=P
 w:=w
 K:=K
 mg:=mg
 base:=base
 A:=A.deeper (envOfC qual scope s.heap.objs.size f cd)
 N:=N
 s₀:=s
 H₀:=H
 env:=envOfC qual scope s.heap.objs.size f cd
 outer:=outer
 stack:=envOfC qual scope s.heap.objs.size f cd :: outer
 ex:=[]
 calm:=true
 fn:=fun _ => true
 pn:=[]
 xe:=fun e s' => wpAny (model P w) (A.deeper (envOfC qual scope s.heap.objs.size f cd)) (leaving (envOfC qual scope s.heap.objs.size f cd) e) (fun _ s'' => CX outer H s E e s'') (fun e' s'' => CX outer H s E e' s'') s'
theorem cell_has {sc:Scope} {n:Nat} {x:Str} (h:sc.names.lookup x = some .cell):∃ c,(cellsFrom n sc.names []).lookup x = some c:=by
 have q:=PySem.W.cellsFrom_some sc.names n [] (.inl h)
 exact Option.isSome_iff_exists.mp q
theorem inv_start {CX:CXT} {P:Program} {w:World} {K:PySem.W.Frag} {mg:Str → Option Value} {base:Heap} {N ps:List Str} {qual:Str} {scope:Scope} {f:Addr} {cd:Value} {A:Around} {outer:List Env} {s s1:Shared} {H:Hp} {E:XK} {us:List Value} {vs:List V}
  (S:FnScope N ps scope) (hd:A.handled = none) (e0:Env0 P w K mg base A outer s H) (hl:vs.length = ps.length) (r:Vals vs us)
  (x:InCallC s s.heap.objs.size (bindL (envOfC qual scope s.heap.objs.size f cd).kindOf (ps.zip us) fun _ => none) (cellsFrom (s.heap.objs.size + 1) scope.names []) (bindC (envOfC qual scope s.heap.objs.size f cd).kindOf (ps.zip us) fun _ => none) s1) :
  Inv (cxOf CX P w K mg base N qual scope f cd A outer s H E) [] (start N vs) H s1:=by
 have hpl:ps.length ≤ N.length:=by have:=congrArg List.length S.pre; rw [List.length_take] at this; omega
 obtain ⟨h1,tk,rfl,hk⟩:=x.done
 have noA:∀ b:Addr,b ∉ (cxOf CX P w K mg base N qual scope f cd A outer s H E).ex:=fun b z => absurd (show b ∈ ([]:List Addr) from z) (by simp)
 refine ⟨⟨e0.mod,S.kind,rfl,rfl,Nat.le_refl _,fun y z c h1 h2 => ?_,fun y hy => ?_,fun y c _ h => ?_,fun _ => hd,Around.frames_deeper e0.frames,.inr ⟨rfl,rfl⟩,fun b z => absurd z (noA b),e0.bs,e0.bsz,fun b _ _ => noA b,fun b z => absurd z (noA b),e0.funs,e0.frf⟩,
  rfl,e0.bare,Un.kept hk,⟨_,x.toInCall.ns,fun i y v h1 h2 h3 => ?_⟩,fun y c h => ⟨_,x.cell y c h⟩,e0.hok.fresh (Nat.le_refl _),fun y c h => ?_,fun p hp => absurd (show p ∈ ([]:List (Addr × Obj)) from hp) (by simp),e0.hok.kept hk,?_⟩
 ·exact name_of_addr x.apart (PySem.mem_of_lookup h1) (PySem.mem_of_lookup h2)
 ·have hy:scope.names.lookup y = some .cell ∨ scope.names.lookup y = some .free:=hy
  rcases hy with hy | hy
  ·exact cell_has hy
  ·exact absurd rfl (S.nofree _ (PySem.mem_of_lookup hy))
 ·exact Nat.le_of_lt (x.above y c (PySem.mem_of_lookup h))
 ·have hi:i < vs.length:=by
   unfold start at h2
   by_cases hi:i < vs.length
   ·exact hi
   ·rw [List.getElem?_append_right (by simpa using hi)] at h2
    rw [List.getElem?_replicate] at h2
    split at h2 <;> cases h2
  have ha:vs[i]? = some v:=by
   unfold start at h2
   rw [List.getElem?_append_left (by simpa using hi),List.getElem?_map] at h2
   cases e:vs[i]? with
   | none => rw [e] at h2; cases h2
   | some a => rw [e] at h2; cases h2; rfl
  obtain ⟨u,hu,rv⟩:=r.get ha
  have hp:ps[i]? = some y:=by
   rw [← S.pre,List.getElem?_take_of_lt (by omega)]; exact h1
  have ndP:ps.Nodup:=by rw [← S.pre]; exact S.nd.sublist (List.take_sublist _ _)
  refine ⟨u,rv,?_⟩
  rcases S.par y (List.mem_of_getElem? hp) with k | k
  ·exact .inl ⟨k,bindL_get ndP hp hu k⟩
  ·obtain ⟨c,e⟩:=cell_has (n:=s.heap.objs.size + 1) k
   refine .inr ⟨.inl k,c,e,?_⟩
   have q:=x.cell y c e
   rw [bindC_get ndP hp hu (by show scope.names.lookup y ≠ _; rw [k]; decide)] at q
   exact q
 ·exact e0.hok.fresh (Nat.le_of_lt (x.above y c (PySem.mem_of_lookup h)))
 ·unfold start
  show _ = N.length
  rw [List.length_append,List.length_map,List.length_replicate]
  omega
theorem fn_of {CX:CXT} {P:Program} {w:World} {K:PySem.W.Frag} {mg:Str → Option Value} {base:Heap} {k:Nat} {f:Addr} {name qual:Str} {params:Arguments} {body:List Stmt} {scope:Scope} {dV kV doc pm cdv ct oc:Value} {an od:Option Addr}
  {osl:Array (Option Value)} {N ps:List Str} {sp:Sp} (lk:K.lookup f = some ⟨oc,od,.func (PySem.W.fnOf name qual params body scope dV kV doc pm an cdv ct),osl⟩) (hcd:PySem.W.codeIn K cdv qual = true) (S:FnScope N ps scope)
  (len:∀ vs H Q E,sp vs H Q E → vs.length = ps.length)
  (hbody:∀ (A:Around) (outer:List Env) (s:Shared) (H:Hp) (vs:List V) (Q:VK) (E:XK),Room k (A.deeper (envOfC qual scope s.heap.objs.size f cdv)) → sp vs H Q E →
   ∃ t,PSs (cxOf CX P w K mg base N qual scope f cdv A outer s H E) body t ∧ t { nx:=fun _ H' => Q .non H',rt:=Q } (start N vs) H) :
  FnOk P w K mg base CX (k + 1) f (PySem.W.fnOf name qual params body scope dV kV doc pm an cdv ct) ps sp:=by
 refine ⟨len,fun A outer s H args us vs Q E hr e0 hb r hsp => ?_⟩
 have hl:=len _ _ _ _ hsp
 have KX:K.In s.heap:=e0.mod.kin.keeps fun b o e => (e0.bs b o e).1
 have lim:s.heap.NoLimit:=e0.mod.nolimit.keeps fun b o e => (e0.bs b o e).1
 have hkind:∀ y ∈ ps.zip us,scope.names.lookup y.1 = some .local ∨ (scope.names.lookup y.1 = some .cell ∧ ((cellsFrom (s.heap.objs.size + 1) scope.names []).lookup y.1).isSome = true):=fun ⟨n,v⟩ hy => by
  rcases S.par n (List.of_mem_zip hy).1 with q | q
  ·exact .inl q
  ·exact .inr ⟨q,PySem.W.cellsFrom_some _ _ _ (.inl q)⟩
 refine codeAny_call_function hr.depth (KX _ _ lk) rfl S.co S.gen rfl (PySem.W.codeRec_of KX hcd) (hb _ _ _ _ ?_)
 refine wpAny_newFunctionEnv_cells S.kind hkind fun env he s1 x => ?_
 subst he
 refine ⟨lim.keeps x.toInCall.keep,codeAny_func ?_⟩
 obtain ⟨t,ht,hq⟩:=hbody A outer s H vs Q E (hr.deeper _) hsp
 have I:Inv (cxOf CX P w K mg base N qual scope f cdv A outer s H E) [] (start N vs) H s1:=inv_start S hr.hd e0 hl r x
 refine wpAny_mono (ht [] s1 (start N vs) H _ I hq) (fun fl s' hs => ?_) fun e s' hs => hs
 have fin:∀ {σ':St} {H':Hp} {v:V} {u:Value},Inv (cxOf CX P w K mg base N qual scope f cdv A outer s H E) [] σ' H' s' → RelV v u → Q v H' → CE outer P w H s Q u s' :=
  fun {σ' H' v u} J rv q => ⟨v,H',J.os,J.bare,J.base,J.hok,rv,q⟩
 cases fl with
 | ret u =>
  obtain ⟨v,σ',H',J,rv,q⟩:=hs
  exact fin J rv q
 | next =>
  obtain ⟨σ',H',J,q⟩:=hs
  exact fin (v:=V.non) (u:=Value.none) J rfl q
 | brk =>
  obtain ⟨_,_,_,q⟩:=hs
  exact False.elim q
 | cont =>
  obtain ⟨_,_,_,q⟩:=hs
  exact False.elim q
end L2
namespace L2
open PySem PySem.Spec PyProof.Rows
section
variable {X:Cx} {x:Str} {p pos:Pos} {e:Expr} {es:List Expr} {t:TA} {id T:String} {r:List V → Hp → VK → Prop}
noncomputable def tCB (r:List V → Hp → VK → Prop) (t:TA):TE:=fun σ H Q => t σ H fun vs H1 => r vs H1 Q
theorem pe_callB (hc:CallR X (.builtin id) r) (hg:Gl X x) (hm:X.mg x = none) (hv:bootBuiltins x = some (.builtin id)) (ha:PA X (e :: es) t) (hn:x ≠ "__name__":=by decide) (hdb:(x == ("__debug__":Str)) = false:=by decide)
  (he:starEach (e :: es) X.env = (false,eval e X.env) :: starEach es X.env:=by rfl) (hpl:(backTo pos (starEach es X.env)).any (·.1) = false:=by rfl):PE X (.Call (.Name x p) (e :: es) [] pos) (tCB r t):=by
 intro pins s σ H Q I h
 refine wpAny_Call_Name_kw (ld_blt I hg hm hv ?_ hn hdb)
 exact PyProof.Rows.callWith_builtin1 (thn (ha pos pins s σ H _ I h) fun us s1 ⟨vs,H1,I1,r1,q1⟩ => hc pins s1 σ H1 vs us Q I1 r1 q1) he hpl
theorem pe_callTy (hc:CallR X (.type T) r) (hg:Gl X x) (hm:X.mg x = none) (hv:bootBuiltins x = some (.type T)) (ha:PA X (e :: es) t) (hn:x ≠ "__name__":=by decide) (hdb:(x == ("__debug__":Str)) = false:=by decide)
  (he:starEach (e :: es) X.env = (false,eval e X.env) :: starEach es X.env:=by rfl) (hpl:(backTo pos (starEach es X.env)).any (·.1) = false:=by rfl):PE X (.Call (.Name x p) (e :: es) [] pos) (tCB r t):=by
 intro pins s σ H Q I h
 refine wpAny_Call_Name_kw (ld_blt I hg hm hv ?_ hn hdb)
 exact PyProof.Rows.callWith_type1 (thn (ha pos pins s σ H _ I h) fun us s1 ⟨vs,H1,I1,r1,q1⟩ => hc pins s1 σ H1 vs us Q I1 r1 q1) he hpl
end
end L2
namespace HT
open PySem PyProof.Rows
section
variable {prog:Program} {w:World} {A:Around} {E:Value → Shared → Prop} {s:Shared}
theorem cat_tup {t b:Addr} {vs ws:List Value} {Q:Value → Shared → Prop} (ht:IsTup s.heap t vs.toArray) (hb:IsTup s.heap b ws.toArray) (hv:vs ≠ [])
  (h1:ws = [] → Q (.ref t) s) (h2:ws ≠ [] → Q (.ref s.heap.objs.size) { s with heap:=s.heap.push { cls:=.type "tuple",data:=.seq (vs ++ ws).toArray } })
  (hsz:vs.length + ws.length ≤ sizeLine):wpAny (model prog w) A (binaryOp .Add (.ref t) (.ref b)) Q E s:=by
 obtain ⟨⟨cls,dd,data,sl⟩,ho,hc,n,hd⟩:=id ht
 obtain ⟨⟨cls2,dd2,data2,sl2⟩,ho2,hc2,n2,hd2⟩:=id hb
 simp only at hc hd hc2 hd2
 subst hc hd hc2 hd2
 have e:vs.toArray ++ ws.toArray = (vs ++ ws).toArray:=by simp
 by_cases hw:ws = []
 ·exact concat_meets ⟨_,ho,rfl⟩ ⟨_,ho2,rfl⟩ noFill_tuple_add seq_tuple_add PySem.F.slot_tuple_add PySem.F.entry_tuple_add (PySem.F.args_tuple_add_2 _ _)
   (tuple_addW1 t b vs.toArray ws.toArray n n2 dd dd2 sl sl2 (by simpa using hv) (by simp [hw])) ⟨ho,ho2,h1 hw⟩
 ·refine concat_meets ⟨_,ho,rfl⟩ ⟨_,ho2,rfl⟩ noFill_tuple_add seq_tuple_add PySem.F.slot_tuple_add PySem.F.entry_tuple_add (PySem.F.args_tuple_add_2 _ _)
   (tuple_addW2 t b vs.toArray ws.toArray n n2 dd dd2 sl sl2 (by simpa using hv) (by simpa using hw) (by rw [List.size_toArray,List.size_toArray]; exact hsz)) ⟨ho,ho2,?_⟩
  rw [e]
  exact h2 hw
noncomputable def sIx (n d:Nat):Option Int → Nat
 | none => d
 | some v => if v < 0 then (v + (n:Int)).toNat else min v.toNat n
theorem sIx_none (n d:Nat):sIx n d none = d:=rfl
theorem sIx_nat (n d k:Nat):sIx n d (some (k:Int)) = min k n:=by
 show (if (k:Int) < 0 then ((k:Int) + (n:Int)).toNat else min (k:Int).toNat n) = min k n
 rw [if_neg (by omega),Int.toNat_natCast]
theorem sIx_le (n d:Nat) (hd:d ≤ n) (o:Option Int):sIx n d o ≤ n:=by
 cases o with
 | none => exact hd
 | some v =>
  show (if v < 0 then (v + (n:Int)).toNat else min v.toNat n) ≤ n
  by_cases hv:v < 0
  ·rw [if_pos hv]; omega
  ·rw [if_neg hv]; exact Nat.min_le_right _ _
theorem clip_eq (v:Int) (n d:Nat):(if v < 0 then max (v + (n:Int)) 0 else min v (n:Int)) = ((sIx n d (some v):Nat):Int):=by
 show (if v < 0 then max (v + (n:Int)) 0 else min v (n:Int)) = (((if v < 0 then (v + (n:Int)).toNat else min v.toNat n):Nat):Int)
 by_cases hv:v < 0
 ·simp only [if_pos hv]; omega
 ·simp only [if_neg hv]; omega
theorem adjust_gen (lo hi:Option Int) (n:Nat):Builtin.Slice.sliceAdjust lo hi 1 (n:Int) = (((sIx n 0 lo:Nat):Int),((sIx n n hi:Nat):Int)):=by
 have h1:¬ ((1:Int) < 0):=by omega
 unfold Builtin.Slice.sliceAdjust
 simp only [h1,if_false]
 refine Prod.ext ?_ ?_
 ·cases lo with
  | none => rfl
  | some v => exact clip_eq v n 0
 ·cases hi with
  | none => rfl
  | some v => exact clip_eq v n n
theorem places_gen (i j:Nat):Builtin.Slice.slicePlaces (i:Int) (j:Int) 1 = j - i:=by
 unfold Builtin.Slice.slicePlaces
 have h1:(1:Int) > 0:=by omega
 simp only [h1,if_true,Int.ediv_one]
 split <;> omega
theorem slicePart_ {v:Value} {o:Option Int} {Q:Option Int → Shared → Prop} (p:IsPart v o) (h:Q o s):wpAny (model prog w) A (Builtin.Slice.slicePartIndex v) Q E s:=by
 cases p with
 | none => exact slicePart_none h
 | int i t => exact slicePart_int h
theorem sliceApplied_gen {sl:Addr} {vl vu:Value} {lo hi:Option Int} {n:Nat} {Q:Int × Int × Nat → Shared → Prop} (hs:s.heap.IsSliceOf sl vl vu .none) (pl:IsPart vl lo) (pu:IsPart vu hi)
  (h:Q (((sIx n 0 lo:Nat):Int),1,sIx n n hi - sIx n 0 lo) s):wpAny (model prog w) A (Builtin.Slice.sliceApplied (.ref sl) (pure (n:Int))) Q E s:=by
 obtain ⟨os,hos,hcs,hds⟩:=id hs
 unfold Builtin.Slice.sliceApplied Builtin.Slice.sliceFields
 refine wpAny_bind (wpAny_bind (wpAny_field hos hds (x:=vl) rfl (wpAny_bind (wpAny_field hos hds (x:=vu) rfl (wpAny_bind (wpAny_field hos hds (x:=.none) rfl (wpAny_pure ?_)))))))
 refine wpAny_bind (slicePart_none ?_)
 show wpAny _ _ (if ((1:Int) == 0) = true then _ else _) _ _ s
 rw [if_neg (by decide)]
 refine wpAny_bind (slicePart_ pl (wpAny_bind (slicePart_ pu (wpAny_bind (wpAny_pure ?_)))))
 show wpAny _ _ (match Builtin.Slice.sliceAdjust lo hi 1 (n:Int) with | (lo,hi) => pure (lo,(1:Int),Builtin.Slice.slicePlaces lo hi 1)) _ _ s
 rw [adjust_gen lo hi n]
 show wpAny _ _ (pure (((sIx n 0 lo:Nat):Int),(1:Int),Builtin.Slice.slicePlaces ((sIx n 0 lo:Nat):Int) ((sIx n n hi:Nat):Int) 1)) _ _ s
 rw [places_gen]
 exact wpAny_pure h
theorem pick_gen (xs:Array Value) (i k:Nat):((List.range k).filterMap fun (m:Nat) => xs[((i:Int) + (m:Int) * 1).toNat]?).toArray = ((xs.toList.drop i).take k).toArray:=by
 have e:(fun (m:Nat) => xs[((i:Int) + (m:Int) * 1).toNat]?) = fun m => xs[i + m]?:=by
  funext m
  have:((i:Int) + (m:Int) * 1).toNat = i + m:=by omega
  rw [this]
 rw [e]
 have:=pick_run xs i k
 rw [List.filterMap_map] at this
 have e2:((fun x => xs[x]?) ∘ fun x => i + x) = fun m => xs[i + m]?:=rfl
 rw [e2] at this
 rw [this]
theorem getItem_tuple_cut {t sl:Addr} {items:Array Value} {vl vu:Value} {lo hi:Option Int} {Q:Value → Shared → Prop} (ht:IsTup s.heap t items) (hs:s.heap.IsSliceOf sl vl vu .none) (pl:IsPart vl lo) (pu:IsPart vu hi)
  (hw:¬ (sIx items.size 0 lo = 0 ∧ sIx items.size items.size hi = items.size))
  (h:Q (.ref s.heap.objs.size) { s with heap:=s.heap.push { cls:=.type "tuple",data:=.seq ((items.toList.drop (sIx items.size 0 lo)).take (sIx items.size items.size hi - sIx items.size 0 lo)).toArray } })
  (hsz:items.size ≤ sizeLine):wpAny (model prog w) A (getItem (.ref t) (.ref sl)) Q E s:=by
 have htake:sizeOk (.seq ((items.toList.drop (sIx items.size 0 lo)).take (sIx items.size items.size hi - sIx items.size 0 lo)).toArray):=by
  show ((items.toList.drop (sIx items.size 0 lo)).take (sIx items.size items.size hi - sIx items.size 0 lo)).toArray.size ≤ sizeLine
  rw [List.size_toArray,List.length_take,List.length_drop,Array.length_toList]
  omega
 have hj:sIx items.size items.size hi ≤ items.size:=sIx_le _ _ (Nat.le_refl _) hi
 obtain ⟨os,hos,hcs,hds⟩:=id hs
 have hTs:s.TypeIs (.ref sl) "slice":=⟨os,hos,hcs⟩
 unfold getItem
 try with_reducible refine wpAny_holding ?_
 first | refine wpAny_bind (wpAny_pure ?_) | skip
 refine wpAny_bind (wpAny_sequenceKey ht.typeIs (by decide) ?_)
 refine wpAny_bind (wpAny_callSpecial?_slot (name:=Str.ofString "__getitem__") ht.typeIs PyProof.Rows.slot_tuple_getitem
  (wpAny_call_entry PyProof.Rows.slot_tuple_getitem ht.typeIs entry_tuple_getitem ?_ (args_tuple_getitem _ _)))
 show wpAny _ _ (Builtin.Tuple.tupleItemsOf (.ref t) >>= _) _ _ s
 refine wpAny_bind (tupleItemsOf_ ht ?_)
 refine wpAny_bind (wpAny_typeOf hTs ?_)
 rw [if_pos (by decide)]
 refine wpAny_bind (sliceApplied_gen hs pl pu ?_)
 have hno:¬ ((((sIx items.size 0 lo:Nat):Int) == 0 && (1:Int) == 1 && (sIx items.size items.size hi - sIx items.size 0 lo) == items.size) = true):=by
  intro q
  rw [Bool.and_eq_true,Bool.and_eq_true] at q
  have q1:((sIx items.size 0 lo:Nat):Int) = 0:=eq_of_beq q.1.1
  have q2:sIx items.size items.size hi - sIx items.size 0 lo = items.size:=eq_of_beq q.2
  exact hw ⟨by omega,by omega⟩
 show wpAny _ _ (if (((sIx items.size 0 lo:Nat):Int) == 0 && (1:Int) == 1 && (sIx items.size items.size hi - sIx items.size 0 lo) == items.size) = true then _ else _) _ _ s
 rw [if_neg hno,pick_gen]
 first
  | exact wpAny_bind (m:=Builtin.Tuple.tupleExact _) (wpAny_newObj_type (wpAny_pure ⟨_,rfl,wpAny_pure h⟩) htake)
  | exact wpAny_bind (m:=Builtin.Tuple.tupleExact _) (wpAny_newObj_type (wpAny_bind (wpAny_pure (wpAny_pure ⟨_,rfl,wpAny_pure h⟩))) htake)
  | exact wpAny_bind (wpAny_bind (m:=Builtin.Tuple.tupleExact _) (wpAny_newObj_type (wpAny_pure (wpAny_pure ⟨_,rfl,wpAny_pure h⟩)) htake))
  | exact wpAny_bind (wpAny_bind (m:=Builtin.Tuple.tupleExact _) (wpAny_newObj_type (wpAny_pure ⟨_,rfl,wpAny_pure h⟩) htake))
end
end HT
namespace L2
open PySem PySem.Spec PyProof.Rows
noncomputable abbrev TO:=St → Hp → (Option Int → Hp → Prop) → Prop
noncomputable def PO (X:Cx) (e:Option Expr) (t:TO):Prop :=
 ∀ (pins:List (Addr × Obj)) (s:Shared) (σ:St) (H:Hp) (Q:Option Int → Hp → Prop),Inv X pins σ H s → t σ H Q →
  wpAny (model X.prog X.w) X.A (evalPart e X.env) (fun u s' => ∃ o H',Inv X pins σ H' s' ∧ IsPart u o ∧ Q o H') X.xe s
noncomputable def tNoPart:TO:=fun _ H Q => Q none H
noncomputable def tPart (t:TE):TO:=fun σ H Q => t σ H fun x H1 => ∃ i,x = .int i ∧ Q (some i) H1
section
variable {X:Cx} {e:Expr} {te:TE} {lo hi:Option Expr} {tl th:TO} {pos p2:Pos}
theorem po_none:PO X none tNoPart:=by
 intro pins s σ H Q I h
 rw [evalPart_none]
 exact wpAny_pure ⟨none,H,I,.none,h⟩
theorem po_some (h:PE X e te):PO X (some e) (tPart te):=by
 intro pins s σ H Q I hw
 rw [evalPart_some]
 refine thn (h pins s σ H _ I hw) fun u s1 ⟨x,H1,I1,r1,q1⟩ => ?_
 obtain ⟨i,rfl,q⟩:=q1
 obtain ⟨t,rfl⟩:=r1
 exact ⟨some i,H1,I1,.int i t,q⟩
noncomputable def SlR (X:Cx) (r:V → Option Int → Option Int → Hp → VK → Prop):Prop :=
 ∀ (pins:List (Addr × Obj)) (s:Shared) (σ:St) (H:Hp) (x:V) (v vl vu:Value) (lo hi:Option Int) (sl:Addr) (Q:VK),Inv X pins σ H s → RelV x v → s.heap.IsSliceOf sl vl vu .none → IsPart vl lo → IsPart vu hi → r x lo hi H Q →
  ∃ T id,typeLookup (.type T) "__getitem__" = pure (some (.builtin id)) ∧ s.TypeIs v T ∧ wpAny (model X.prog X.w) X.A (getItem v (.ref sl)) (EP X pins σ Q) X.xe s
theorem SlR.or {r r':V → Option Int → Option Int → Hp → VK → Prop} (h:SlR X r) (h':SlR X r'):SlR X (fun x lo hi H Q => r x lo hi H Q ∨ r' x lo hi H Q):=by
 intro pins s σ H x v vl vu lo hi sl Q I rx hs pl pu q
 rcases q with q | q
 ·exact h pins s σ H x v vl vu lo hi sl Q I rx hs pl pu q
 ·exact h' pins s σ H x v vl vu lo hi sl Q I rx hs pl pu q
noncomputable def tSl (r:V → Option Int → Option Int → Hp → VK → Prop) (te:TE) (tl th:TO):TE:=fun σ H Q => te σ H fun x H1 => tl σ H1 fun l H2 => th σ H2 fun u H3 => r x l u H3 Q
theorem pe_slice {r:V → Option Int → Option Int → Hp → VK → Prop} (hr:SlR X r) (he:PE X e te) (hl:PO X lo tl) (hu:PO X hi th):PE X (.Subscript e (.Slice lo hi none p2) pos) (tSl r te tl th):=by
 intro pins s σ H Q I h
 refine Subscript_ (thn (he pins s σ H _ I h) fun v s1 ⟨x,H1,I1,r1,q1⟩ => ?_)
 refine wpAny_Slice (thn (hl pins s1 σ H1 _ I1 q1) fun vl s2 ⟨l,H2,I2,pl,q2⟩ => thn (hu pins s2 σ H2 _ I2 q2) fun vu s3 ⟨u,H3,I3,pu,q3⟩ => ?_)
 rw [evalPart_none]
 refine wpAny_pure ?_
 have I4:Inv X pins σ H3 { s3 with heap:=s3.heap.push { cls:=.type "slice",data:=.fields #[vl,vu,.none] } }:=I3.kept (t':=s3.toks) fun b ob q => Heap.get?_push_of_some _ q
 obtain ⟨T,id,hT,ht,hg⟩:=hr pins { s3 with heap:=s3.heap.push { cls:=.type "slice",data:=.fields #[vl,vu,.none] } } σ H3 x v vl vu l u s3.heap.objs.size Q I4 r1 (Heap.IsSliceOf.new ..) pl pu q3
 show wpAny (model X.prog X.w) X.A (subscriptTail e (.Slice lo hi none p2) v (.ref s3.heap.objs.size)) (EP X pins σ Q) X.xe { s3 with heap:=s3.heap.push { cls:=.type "slice",data:=.fields #[vl,vu,.none] } }
 exact tail_any (ops:=[.ref s3.heap.objs.size,v]) ht hT hg (by with_unfolding_all rfl)
noncomputable def cutV (xs:List V) (lo hi:Option Int):List V:=(xs.drop (HT.sIx xs.length 0 lo)).take (HT.sIx xs.length xs.length hi - HT.sIx xs.length 0 lo)
theorem cutV_length (xs:List V) (lo hi:Option Int):(cutV xs lo hi).length ≤ xs.length:=by
 unfold cutV
 rw [List.length_take,List.length_drop]
 omega
noncomputable def rSlT (K:PySem.W.Frag):V → Option Int → Option Int → Hp → VK → Prop:=fun x lo hi H Q => ∃ a xs,x = .ref a ∧ SqT K H a xs ∧
 ¬ (HT.sIx xs.length 0 lo = 0 ∧ HT.sIx xs.length xs.length hi = xs.length) ∧ ∀ p,H p = none → Q (.ref p) (upd H p (.tup (cutV xs lo hi)))
theorem sl_tup:SlR X (rSlT X.K):=by
 intro pins s σ H x v vl vu lo hi sl Q I rx hs pl pu h
 obtain ⟨a,xs,rfl,hx,hw,q⟩:=h
 cases rx
 obtain ⟨its,r,ht,hz⟩:=I.tuple hx
 have hlen:its.toArray.size = xs.length:=by rw [List.size_toArray]; exact r.length.symm
 refine ⟨"tuple",_,PyProof.Rows.slot_tuple_getitem.lookup,ht.typeIs,?_⟩
 refine HT.getItem_tuple_cut ht hs pl pu (by rw [hlen]; exact hw) ?_ (by rw [hlen]; exact hz)
 rw [hlen]
 refine ⟨.ref s.heap.objs.size,_,I.laid (t':=s.toks) (o:=.tup (cutV xs lo hi)) (fun b ob q => Heap.get?_push_of_some _ q) (Nat.le_refl _) ?_,rfl,q _ (I.hok.fresh (Nat.le_refl _))⟩
 exact ⟨Nat.le_trans (cutV_length xs lo hi) hz,_,(r.drop (HT.sIx xs.length 0 lo)).take (HT.sIx xs.length xs.length hi - HT.sIx xs.length 0 lo),IsTup.new _ _⟩
noncomputable def rCatT (K:PySem.W.Frag):R2:=fun x y H Q => ∃ a b xs ys,x = .ref a ∧ y = .ref b ∧ SqT K H a xs ∧ SqT K H b ys ∧ xs ≠ [] ∧ xs.length + ys.length ≤ sizeLine ∧
 (ys = [] → Q (.ref a) H) ∧ (ys ≠ [] → ∀ p,H p = none → Q (.ref p) (upd H p (.tup (xs ++ ys))))
theorem Vals.nil_iff {xs:List V} {us:List Value} (r:Vals xs us):us = [] ↔ xs = []:=by
 cases r with
 | nil => simp
 | cons _ _ => simp
theorem op_catT:OpR X (binaryOp .Add) (rCatT X.K):=by
 intro pins s σ H x y v u Q I rx ry h
 obtain ⟨a,b,xs,ys,rfl,rfl,ha,hb,hx,hz,q1,q2⟩:=h
 cases rx
 cases ry
 obtain ⟨its,r1,p1,_⟩:=I.tuple ha
 obtain ⟨its2,r2,p2,_⟩:=I.tuple hb
 refine HT.cat_tup p1 p2 (fun z => hx (r1.nil_iff.mp z)) (fun z => ⟨.ref a,H,I,rfl,q1 (r2.nil_iff.mp z)⟩) (fun z => ?_) (by rw [← r1.length,← r2.length]; exact hz)
 refine ⟨.ref s.heap.objs.size,_,I.laid (t':=s.toks) (o:=.tup (xs ++ ys)) (fun b ob q => Heap.get?_push_of_some _ q) (Nat.le_refl _) ?_,rfl,q2 (fun w => z (r2.nil_iff.mpr w)) _ (I.hok.fresh (Nat.le_refl _))⟩
 exact ⟨by rw [List.length_append]; exact hz,_,r1.append r2,IsTup.new _ _⟩
end
end L2
namespace L2
open PySem PySem.Spec PyProof.Rows
noncomputable def ixN (n:Nat) (i:Int):Option Nat:=if 0 ≤ i then (if i < n then some i.toNat else none) else if -(n:Int) ≤ i then some (i + n).toNat else none
noncomputable def atI {α:Type} (xs:List α) (i:Int):Option α:=(ixN xs.length i).bind fun j => xs[j]?
theorem ixN_seq {n:Nat} {i:Int} {j:Nat} (h:ixN n i = some j):seqIndex? i n = some j ∧ j < n ∧ -(n:Int) ≤ i ∧ i < n:=by
 unfold ixN at h
 by_cases h0:0 ≤ i
 ·rw [if_pos h0] at h
  by_cases h1:i < n
  ·rw [if_pos h1] at h
   have e:i.toNat = j:=Option.some.inj h
   exact ⟨by rw [seqIndex_of h0 h1,e],by omega,by omega,h1⟩
  ·rw [if_neg h1] at h; cases h
 ·rw [if_neg h0] at h
  by_cases h1:-(n:Int) ≤ i
  ·rw [if_pos h1] at h
   have e:(i + n).toNat = j:=Option.some.inj h
   exact ⟨by rw [seqIndex_neg (by omega) h1,e],by omega,h1,by omega⟩
  ·rw [if_neg h1] at h; cases h
theorem atI_get {α:Type} {xs:List α} {i:Int} {v:α} (h:atI xs i = some v):∃ j,seqIndex? i xs.length = some j ∧ xs[j]? = some v ∧ j < xs.length ∧ -(xs.length:Int) ≤ i ∧ i < xs.length:=by
 unfold atI at h
 cases e:ixN xs.length i with
 | none => rw [e] at h; cases h
 | some j =>
  rw [e] at h
  obtain ⟨h1,h2,h3,h4⟩:=ixN_seq e
  exact ⟨j,h1,h,h2,h3,h4⟩
theorem atI_nat {α:Type} {xs:List α} {j:Nat} {v:α} (h:xs[j]? = some v):atI xs (j:Int) = some v:=by
 have hj:j < xs.length:=(List.getElem?_eq_some_iff.mp h).1
 have e:ixN xs.length (j:Int) = some j:=by
  unfold ixN
  rw [if_pos (by omega),if_pos (by omega)]; simp
 unfold atI; rw [e]; exact h
noncomputable def PlainIx (b:Expr):Prop:=∀ o i,subscripted b false o i = operate [o,i] (getItem o i)
noncomputable def IxR (X:Cx) (r:R2):Prop :=
 ∀ (value slice:Expr) (pins:List (Addr × Obj)) (s:Shared) (σ:St) (H:Hp) (x y:V) (v u:Value) (Q:VK),Inv X pins σ H s → RelV x v → RelV y u → r x y H Q →
  subscripted slice false v u = operate [v,u] (getItem v u) → wpAny (model X.prog X.w) X.A (subscriptTail value slice v u) (EP X pins σ Q) X.xe s
noncomputable def MtR (X:Cx) (id:String) (r:V → List V → Hp → VK → Prop):Prop :=
 ∀ (pins:List (Addr × Obj)) (s:Shared) (σ:St) (H:Hp) (x:V) (xs:List V) (v:Value) (us:List Value) (Q:VK),Inv X pins σ H s → RelV x v → Vals xs us → r x xs H Q →
  wpAny (model X.prog X.w) X.A (call (.builtin id) (v :: us)) (EP X pins σ Q) X.xe s
section
variable {X:Cx} {a b:Expr} {ta tb:TE} {pos:Pos}
theorem IxR.or {r r':R2} (h:IxR X r) (h':IxR X r'):IxR X (fun x y H Q => r x y H Q ∨ r' x y H Q):=by
 intro value slice pins s σ H x y v u Q I rx ry q hs
 rcases q with q | q
 ·exact h value slice pins s σ H x y v u Q I rx ry q hs
 ·exact h' value slice pins s σ H x y v u Q I rx ry q hs
theorem MtR.or {id:String} {r r':V → List V → Hp → VK → Prop} (h:MtR X id r) (h':MtR X id r'):MtR X id (fun x xs H Q => r x xs H Q ∨ r' x xs H Q):=by
 intro pins s σ H x xs v us Q I rx rs q
 rcases q with q | q
 ·exact h pins s σ H x xs v us Q I rx rs q
 ·exact h' pins s σ H x xs v us Q I rx rs q
theorem pe_ix {r:R2} (hr:IxR X r) (ha:PE X a ta) (hb:PE X b tb) (hs:PlainIx b):PE X (.Subscript a b pos) (tOp r ta tb):=by
 intro pins s σ H Q I h
 exact Subscript_ (binT ha hb I h fun v u s2 x y H2 I2 rx ry q => hr a b pins s2 σ H2 x y v u Q I2 rx ry q (hs _ _))
noncomputable def rIxL (K:PySem.W.Frag):R2:=fun x y H Q => ∃ p xs i v,x = .ref p ∧ y = .int i ∧ SqL K H p xs ∧ atI xs i = some v ∧ Q v H
noncomputable def rIxT (K:PySem.W.Frag):R2:=fun x y H Q => ∃ p xs i v,x = .ref p ∧ y = .int i ∧ SqT K H p xs ∧ atI xs i = some v ∧ Q v H
noncomputable def rIxS:R2:=fun x y H Q => ∃ z i c,x = .str z ∧ y = .int i ∧ z.length ≤ sizeLine ∧ atI z.cps.toList i = some c ∧ Q (.str ⟨#[c]⟩) H
theorem ix_list:IxR X (rIxL X.K):=by
 intro value slice pins s σ H x y v u Q I rx ry h hs
 obtain ⟨p,xs,i,z,rfl,rfl,hq,he,q⟩:=h
 cases rx
 obtain ⟨t,rfl⟩:=ry
 obtain ⟨its,r,pl,hz⟩:=I.list hq
 obtain ⟨j,h1,h2,h3,h4,h5⟩:=atI_get he
 obtain ⟨w,ew,rw'⟩:=r.get h2
 have hl:=r.length
 have hn:=line63
 have fin:EP X pins σ Q w s:=⟨z,H,I,rw',q⟩
 by_cases h0:0 ≤ i
 ·have hj:i.toNat = j:=by
   rw [seqIndex_of h0 h5] at h1
   exact Option.some.inj h1
  exact item_listR pl.isList h0 (by omega) (by rw [hj]; simpa using ew) fin hs
 ·have hj:(i + (its.toArray.size:Int)).toNat = j:=by
   rw [seqIndex_neg (by omega) h4] at h1
   rw [List.size_toArray,← hl]
   exact Option.some.inj h1
  exact subscriptTail_builtinR (x:=w) pl.isList.typeIs slot_list_getitem.lookup
   (wpAny_getItem_list_neg (Q:=fun r s' => r = w ∧ EP X pins σ Q r s') pl.isList (by omega) (by rw [List.size_toArray] <;> omega) (by omega) (by rw [hj]; simpa using ew) ⟨rfl,fin⟩) hs
theorem ix_tup:IxR X (rIxT X.K):=by
 intro value slice pins s σ H x y v u Q I rx ry h hs
 obtain ⟨p,xs,i,z,rfl,rfl,hq,he,q⟩:=h
 cases rx
 obtain ⟨t,rfl⟩:=ry
 obtain ⟨its,r,pl,hz⟩:=I.tuple hq
 obtain ⟨j,h1,h2,h3,h4,h5⟩:=atI_get he
 obtain ⟨w,ew,rw'⟩:=r.get h2
 have hl:=r.length
 have hn:=line63
 have fin:EP X pins σ Q w s:=⟨z,H,I,rw',q⟩
 exact subscriptTail_builtinR (x:=w) pl.typeIs slot_tuple_getitem.lookup
  (getItem_tuple (j:=j) (Q:=fun r s' => r = w ∧ EP X pins σ Q r s') pl (by omega) (by omega) (by rw [List.size_toArray,← hl]; exact h1) (by simpa using ew) ⟨rfl,fin⟩) hs
theorem ix_str:IxR X rIxS:=by
 intro value slice pins s σ H x y v u Q I rx ry h hs
 obtain ⟨z,i,c,rfl,rfl,hz,he,q⟩:=h
 obtain ⟨t,rfl⟩:=rx
 obtain ⟨t',rfl⟩:=ry
 obtain ⟨j,h1,h2,h3,h4,h5⟩:=atI_get he
 have hl:z.cps.toList.length = z.length:=by simp [Str.length]
 rw [hl] at h1 h4 h5
 have hn:=line63
 exact tail_any (typeIs_str s z t) slot_str_getitem.lookup (getItem_str (c:=c) (by
  have e1:decide (i < -(2 ^ 63:Int)) = false:=decide_eq_false (by omega)
  have e2:decide (i ≥ 2 ^ 63) = false:=decide_eq_false (by omega)
  rw [e1,e2,Bool.or_false]) (by rw [h1]; simpa using h2) ⟨.str ⟨#[c]⟩,H,I.tok _,⟨_,rfl⟩,q⟩) hs
noncomputable def rIx (K:PySem.W.Frag):R2:=fun x y H Q => rIxL K x y H Q ∨ rIxT K x y H Q ∨ rIxS x y H Q
theorem ix_seq:IxR X (rIx X.K):=ix_list.or (ix_tup.or ix_str)
theorem Inv.lst {pins:List (Addr × Obj)} {σ:St} {H:Hp} {s:Shared} {p:Addr} {xs:List V} (I:Inv X pins σ H s) (h:H p = some (.lst xs)) :
  ∃ (its:List Value) (n:Nat),Vals xs its ∧ s.heap.get? p = some { cls:=.type "list",data:=.seq its.toArray n } ∧ xs.length ≤ sizeLine:=by
 obtain ⟨z,its,n,r,e⟩:=I.hok p _ h
 exact ⟨its,n,r,e,z⟩
theorem slice_bounds (lo hi:Option Int) (n:Nat):(sliceBounds lo hi none n).1 = ((HT.sIx n 0 lo:Nat):Int) ∧ (sliceBounds lo hi none n).2.1 = ((HT.sIx n n hi:Nat):Int) ∧ (sliceBounds lo hi none n).2.2 = 1:=by
 refine ⟨?_,?_,rfl⟩
 ·cases lo with
  | none => simp [sliceBounds,HT.sIx]
  | some i =>
   simp only [sliceBounds,HT.sIx,Option.getD_none,show (1:Int) > 0 by decide,if_true]
   by_cases h:i < 0
   ·simp only [h,if_true] <;> omega
   ·simp only [h,if_false] <;> omega
 ·cases hi with
  | none => simp [sliceBounds,HT.sIx]
  | some i =>
   simp only [sliceBounds,HT.sIx,Option.getD_none,show (1:Int) > 0 by decide,if_true]
   by_cases h:i < 0
   ·simp only [h,if_true] <;> omega
   ·simp only [h,if_false] <;> omega
theorem slicePick_cut (its:List Value) (lo hi:Option Int):slicePick its.toArray lo hi none = ((its.drop (HT.sIx its.length 0 lo)).take (HT.sIx its.length its.length hi - HT.sIx its.length 0 lo)).toArray:=by
 obtain ⟨h1,h2,h3⟩:=slice_bounds lo hi its.toArray.size
 unfold slicePick
 rw [h1,h2,h3]
 simp only [sliceRange_one,pick_run,List.size_toArray] <;> rfl
noncomputable def rSlL (K:PySem.W.Frag):V → Option Int → Option Int → Hp → VK → Prop:=fun x lo hi H Q => ∃ a xs,x = .ref a ∧ SqL K H a xs ∧ ∀ p,H p = none → Q (.ref p) (upd H p (.lst (cutV xs lo hi)))
theorem sl_list:SlR X (rSlL X.K):=by
 intro pins s σ H x v vl vu lo hi sl Q I rx hs pl pu h
 obtain ⟨a,xs,rfl,hx,q⟩:=h
 cases rx
 obtain ⟨its,r,ht,hz⟩:=I.list hx
 have hlen:=r.length
 refine ⟨"list",_,slot_list_getitem.lookup,ht.isList.typeIs,?_⟩
 refine wpAny_getItem_list_slice ht.isList hs pl pu .none (by simp) ?_ (by rw [List.size_toArray] <;> omega)
 rw [slicePick_cut,← hlen]
 refine ⟨.ref s.heap.objs.size,_,I.laid (t':=s.toks) (o:=.lst (cutV xs lo hi)) (fun b ob q => Heap.get?_push_of_some _ q) (Nat.le_refl _) ?_,rfl,q _ (I.hok.fresh (Nat.le_refl _))⟩
 exact ⟨Nat.le_trans (cutV_length xs lo hi) hz,_,0,(r.drop (HT.sIx xs.length 0 lo)).take (HT.sIx xs.length xs.length hi - HT.sIx xs.length 0 lo),Heap.get?_push_size _ rfl⟩
noncomputable def flatV:V → Bool
 | .non => true
 | .bl _ => true
 | .int _ => true
 | .str _ => true
 | _ => false
noncomputable def eqV:V → V → Bool
 | .non,.non => true
 | .bl a,.bl b => a == b
 | .bl a,.int b => (if a then 1 else 0) == b
 | .int a,.bl b => a == (if b then 1 else 0)
 | .int a,.int b => a == b
 | .str a,.str b => a == b
 | _,_ => false
theorem eqAt_V {A:Around} {s:Shared} {y x:V} {u v:Value} (ry:RelV y u) (rx:RelV x v) (fy:flatV y = true) (fx:flatV x = true):SeqAt.EqAt A s u v (eqV y x):=by
 cases y with
 | non =>
  cases ry
  cases x with
  | non => cases rx; exact SeqAt.EqAt.same _
  | bl b => cases rx; exact SeqAt.EqAt.none_bool b
  | int b => obtain ⟨t,rfl⟩:=rx; exact SeqAt.EqAt.none_int b t
  | str b => obtain ⟨t,rfl⟩:=rx; exact SeqAt.EqAt.none_str b t
  | _ => exact absurd (show false = true from fx) Bool.false_ne_true
 | bl a =>
  cases ry
  cases x with
  | non => cases rx; exact SeqAt.EqAt.bool_none a
  | bl b => cases rx; exact SeqAt.EqAt.bool_bool a b
  | int b => obtain ⟨t,rfl⟩:=rx; exact SeqAt.EqAt.bool_int a b t
  | str b => obtain ⟨t,rfl⟩:=rx; exact SeqAt.EqAt.bool_str a b t
  | _ => exact absurd (show false = true from fx) Bool.false_ne_true
 | int a =>
  obtain ⟨t',rfl⟩:=ry
  cases x with
  | non => cases rx; exact SeqAt.EqAt.int_none a t'
  | bl b => cases rx; exact SeqAt.EqAt.int_bool a t' b
  | int b => obtain ⟨t,rfl⟩:=rx; exact SeqAt.EqAt.int_int a t' b t
  | str b => obtain ⟨t,rfl⟩:=rx; exact SeqAt.EqAt.int_str a t' b t
  | _ => exact absurd (show false = true from fx) Bool.false_ne_true
 | str a =>
  obtain ⟨t',rfl⟩:=ry
  cases x with
  | non => cases rx; exact SeqAt.EqAt.str_none a t'
  | bl b => cases rx; exact SeqAt.EqAt.str_bool a t' b
  | int b => obtain ⟨t,rfl⟩:=rx; exact SeqAt.EqAt.str_int a t' b t
  | str b => obtain ⟨t,rfl⟩:=rx; exact SeqAt.EqAt.str_str a t' b t
  | _ => exact absurd (show false = true from fx) Bool.false_ne_true
 | _ => exact absurd (show false = true from fy) Bool.false_ne_true
noncomputable def eqU (x:V) (u:Value):Bool:=match u with
 | .none => eqV .non x
 | .bool b => eqV (.bl b) x
 | .int i _ => eqV (.int i) x
 | .str z _ => eqV (.str z) x
 | _ => false
theorem eqU_of {x y:V} {u:Value} (r:RelV y u) (f:flatV y = true):eqU x u = eqV y x:=by
 cases y with
 | non => cases r; rfl
 | bl b => cases r; rfl
 | int i => obtain ⟨t,rfl⟩:=r; rfl
 | str z => obtain ⟨t,rfl⟩:=r; rfl
 | _ => exact absurd (show false = true from f) Bool.false_ne_true
theorem any_eqU {x:V}:∀ {xs:List V} {us:List Value},Vals xs us → xs.all flatV = true → us.any (eqU x) = xs.any fun y => eqV y x
 | _,_,.nil,_ => rfl
 | y :: xs,u :: us,.cons r t,f => by
  rw [List.all_cons,Bool.and_eq_true] at f
  rw [List.any_cons,List.any_cons,eqU_of r f.1,any_eqU t f.2]
theorem mem_eqAt {A:Around} {s:Shared} {x:V} {v:Value} (rx:RelV x v) (fx:flatV x = true):∀ {xs:List V} {us:List Value},Vals xs us → xs.all flatV = true → ∀ u ∈ us,SeqAt.EqAt A s u v (eqU x u)
 | _,_,.nil,_ => fun u hu => by cases hu
 | y :: xs,u :: us,.cons r t,f => fun u' hu => by
  rw [List.all_cons,Bool.and_eq_true] at f
  rcases List.mem_cons.mp hu with rfl | hu
  ·rw [eqU_of r f.1]; exact eqAt_V r rx f.1 fx
  ·exact mem_eqAt rx fx t f.2 u' hu
noncomputable def inV (x:V) (xs:List V):Bool:=xs.any fun y => eqV y x
noncomputable def rIn (K:PySem.W.Frag) (neg:Bool):R2:=fun x y H Q => ∃ p xs,y = .ref p ∧ (SqL K H p xs ∨ SqT K H p xs) ∧ flatV x = true ∧ xs.all flatV = true ∧ Q (.bl (if neg then !inV x xs else inV x xs)) H
theorem op_in_seq:OpR X (compareOp .In) (rIn X.K false):=by
 intro pins s σ H x y v u Q I rx ry h
 obtain ⟨p,xs,rfl,hq,fx,fs,q⟩:=h
 cases ry
 rcases hq with hq | hq
 ·obtain ⟨its,r,pl,hz⟩:=I.list hq
  refine SeqAt.in_listAt (eqU x) pl.isList (fun w hw => mem_eqAt rx fx r fs w (by simpa using hw)) ⟨.bl _,H,I,rfl,?_⟩
  rw [show its.toArray.any (eqU x) = its.any (eqU x) by simp,any_eqU r fs]
  exact q
 ·obtain ⟨its,r,pl,hz⟩:=I.tuple hq
  refine SeqAt.in_tupleAt (eqU x) pl (fun w hw => mem_eqAt rx fx r fs w (by simpa using hw)) ⟨.bl _,H,I,rfl,?_⟩
  rw [show its.toArray.any (eqU x) = its.any (eqU x) by simp,any_eqU r fs]
  exact q
theorem op_notIn_seq:OpR X (compareOp .NotIn) (rIn X.K true):=by
 intro pins s σ H x y v u Q I rx ry h
 obtain ⟨p,xs,rfl,hq,fx,fs,q⟩:=h
 cases ry
 rcases hq with hq | hq
 ·obtain ⟨its,r,pl,hz⟩:=I.list hq
  refine SeqAt.notIn_listAt (eqU x) pl.isList (fun w hw => mem_eqAt rx fx r fs w (by simpa using hw)) ⟨.bl _,H,I,rfl,?_⟩
  rw [show its.toArray.any (eqU x) = its.any (eqU x) by simp,any_eqU r fs]
  exact q
 ·obtain ⟨its,r,pl,hz⟩:=I.tuple hq
  refine SeqAt.notIn_tupleAt (eqU x) pl (fun w hw => mem_eqAt rx fx r fs w (by simpa using hw)) ⟨.bl _,H,I,rfl,?_⟩
  rw [show its.toArray.any (eqU x) = its.any (eqU x) by simp,any_eqU r fs]
  exact q
theorem call_len_seq:CallR X (.builtin "len") (fun xs H Q => ∃ p ys,xs = [.ref p] ∧ (SqL X.K H p ys ∨ SqT X.K H p ys) ∧ Q (.int ys.length) H):=by
 intro pins s σ H xs us Q I r h
 obtain ⟨p,ys,rfl,hq,q⟩:=h
 obtain ⟨u,rfl,rx⟩:=vals1 r
 cases rx
 have hn:=line63
 rcases hq with hq | hq
 ·obtain ⟨its,r',pl,hz⟩:=I.list hq
  have hlen:=r'.length
  exact Calls.call_len_list pl.isList (by simp only [List.size_toArray] <;> omega) ⟨.int ys.length,H,I.tok _,⟨s.toks + 1,by rw [List.size_toArray,hlen]⟩,q⟩
 ·obtain ⟨its,r',pl,hz⟩:=I.tuple hq
  have hlen:=r'.length
  exact len_tuple pl (by simp only [List.size_toArray] <;> omega) ⟨.int ys.length,H,I.tok _,⟨s.toks + 1,by rw [List.size_toArray,hlen]⟩,q⟩
theorem call_len_str:CallR X (.builtin "len") (fun xs H Q => ∃ z,xs = [.str z] ∧ z.length ≤ sizeLine ∧ Q (.int z.length) H):=by
 intro pins s σ H xs us Q I r h
 obtain ⟨z,rfl,hz,q⟩:=h
 obtain ⟨u,rfl,t,rfl⟩:=vals1 r
 have hn:=line63
 exact len_str (by omega) ⟨.int z.length,H,I.tok _,⟨_,rfl⟩,q⟩
theorem CallR.or {f:Value} {r r':List V → Hp → VK → Prop} (h:CallR X f r) (h':CallR X f r'):CallR X f (fun xs H Q => r xs H Q ∨ r' xs H Q):=by
 intro pins s σ H xs us Q I rs q
 rcases q with q | q
 ·exact h pins s σ H xs us Q I rs q
 ·exact h' pins s σ H xs us Q I rs q
theorem call_tuple_of:CallR X (.type "tuple") (fun xs H Q => ∃ p ys,xs = [.ref p] ∧ ((SqL X.K H p ys ∧ ∀ l,H l = none → Q (.ref l) (upd H l (.tup ys))) ∨ (SqT X.K H p ys ∧ Q (.ref p) H))):=by
 intro pins s σ H xs us Q I r h
 obtain ⟨p,ys,rfl,h⟩:=h
 obtain ⟨u,rfl,rx⟩:=vals1 r
 cases rx
 rcases h with ⟨hq,q⟩ | ⟨hq,q⟩
 ·obtain ⟨its,r',pl,hz⟩:=I.list hq
  have hlen:=r'.length
  refine call_tuple_list pl.isList (fun h' kp => ?_) (by simp only [List.size_toArray] <;> omega)
  have I1:Inv X pins σ H { s with heap:=h' }:=I.kept (t':=s.toks) kp
  have I2:Inv X pins σ (upd H h'.objs.size (.tup ys)) { s with heap:=h'.push { cls:=.type "tuple",data:=.seq its.toArray } } :=
   I1.laid (t':=s.toks) (fun b o e => Heap.get?_push_of_some _ e) (Nat.le_refl _) (show ObjOk X.prog X.w _ _ _ (.tup ys) from ⟨hz,its,r',IsTup.new _ _⟩)
  exact ⟨.ref h'.objs.size,_,I2,rfl,q _ (I1.hok.fresh (Nat.le_refl _))⟩
 ·obtain ⟨its,r',pl,hz⟩:=I.tuple hq
  exact call_tuple_same pl ⟨.ref p,H,I,rfl,q⟩
noncomputable def tyV (K:PySem.W.Frag) (T:String) (x:V) (H:Hp):Prop:=match x with
 | .str _ => T = "str"
 | .int _ => T = "int"
 | .ref p => (T = "list" ∧ ∃ xs,SqL K H p xs) ∨ (T = "tuple" ∧ ∃ o,K.lookup p = some o ∧ o.cls = .type "tuple" ∧ o.dict = none) ∨
   (T = "dict" ∧ ((∃ kvs,H p = some (.dK kvs)) ∨ ∃ kvs,H p = some (.dT kvs))) ∨ (T = "set" ∧ ∃ S n,H p = some (.set S n))
 | _ => False
theorem tyV_is {pins:List (Addr × Obj)} {σ:St} {H:Hp} {s:Shared} {T:String} {x:V} {v:Value} (I:Inv X pins σ H s) (r:RelV x v) (ty:tyV X.K T x H) :
  s.TypeIs v T ∧ ∀ a,v = .ref a → ∃ ob,s.heap.get? a = some ob ∧ ob.dict = none:=by
 cases x with
 | str z =>
  obtain ⟨t,rfl⟩:=r
  cases (show T = "str" from ty)
  exact ⟨typeIs_str s z t,fun _ e => nomatch e⟩
 | int i =>
  obtain ⟨t,rfl⟩:=r
  cases (show T = "int" from ty)
  exact ⟨typeIs_int s i t,fun _ e => nomatch e⟩
 | ref p =>
  cases r
  rcases ty with ⟨rfl,xs,hq⟩ | ⟨rfl,o,hk,hc,hd⟩ | ⟨rfl,hk⟩ | ⟨rfl,S,n,hk⟩
  ·obtain ⟨its,_,pl,_⟩:=I.list hq
   refine ⟨pl.isList.typeIs,fun a e => ?_⟩
   cases e
   obtain ⟨o,n,e,c,hd,_⟩:=pl
   exact ⟨o,e,hd⟩
  ·refine ⟨⟨o,I.kIn p o hk,hc⟩,fun a e => ?_⟩
   cases e
   exact ⟨o,I.kIn _ o hk,hd⟩
  ·have z:∃ o,s.heap.get? p = some o ∧ o.ExactDict:=by
    rcases hk with ⟨kvs,hk⟩ | ⟨kvs,hk⟩
    ·obtain ⟨_,_,_,_,o,_,_,e,ex,_⟩:=I.hok p _ hk
     exact ⟨o,e,ex⟩
    ·obtain ⟨_,_,_,_,o,_,_,e,ex,_⟩:=I.hok p _ hk
     exact ⟨o,e,ex⟩
   obtain ⟨o,e,ex⟩:=z
   refine ⟨⟨o,e,ex.1⟩,fun a e2 => ?_⟩
   cases e2
   exact ⟨o,e,ex.2.1⟩
  ·obtain ⟨o,_,_,_,e,ex,_⟩:=I.hok p _ hk
   refine ⟨⟨o,e,ex.1⟩,fun a e2 => ?_⟩
   cases e2
   exact ⟨o,e,ex.2.1⟩
 | _ => exact False.elim ty
noncomputable def tBM0 (K:PySem.W.Frag) (T:String) (r:V → List V → Hp → VK → Prop) (to:TE):TE:=fun σ H Q => to σ H fun x H1 => tyV K T x H1 ∧ r x [] H1 Q
noncomputable def tBM (K:PySem.W.Frag) (T:String) (r:V → List V → Hp → VK → Prop) (to:TE) (t:TA):TE:=fun σ H Q => to σ H fun x H1 => tyV K T x H1 ∧ t σ H1 fun xs H2 => r x xs H2 Q
variable {o e:Expr} {es:List Expr} {to:TE} {t:TA} {name:Str} {apos cpos:Pos} {T id:String} {r:V → List V → Hp → VK → Prop}
theorem pe_bm0 (pa:PlainAttrs T) (slot:Slot T name id) (hty:typeOf (.builtin id) = pure (.type "method_descriptor")) (hm:MtR X id r) (ho:PE X o to)
  (hbase:attributeBase o name X.env (eval o X.env) = eval o X.env:=by rfl) (hline:(apos.endLine == cpos.line) = true:=by rfl):PE X (.Call (.Attribute o name apos) [] [] cpos) (tBM0 X.K T r to):=by
 intro pins s σ H Q I h
 refine wpAny_Call_method0_late hbase hline (thn (ho pins s σ H _ I h) fun v s1 ⟨x,H1,I1,r1,ty,q1⟩ => ?_)
 obtain ⟨h1,h2⟩:=tyV_is I1 r1 ty
 exact ⟨T,id,pa,slot,hty,h1,h2,Calls.callWith_builtin rfl (PySem.evalArgs_none (hm pins s1 σ H1 x [] v [] Q I1 r1 .nil q1))⟩
theorem pe_bm (pa:PlainAttrs T) (slot:Slot T name id) (hty:typeOf (.builtin id) = pure (.type "method_descriptor")) (hm:MtR X id r) (ho:PE X o to) (ha:PA X (e :: es) t)
  (hbase:attributeBase o name X.env (eval o X.env) = eval o X.env:=by rfl)
  (hfew:((backTo cpos (starEach (e :: es) X.env)).all (fun x => !x.1) && (backToKw cpos (keywordEach [] X.env)).all (fun x => x.1.isSome)
   && decide ((e :: es).length + ([]:List Keyword).length + (if ([]:List Keyword).isEmpty then 0 else 1) < 30)) = true:=by rfl)
  (hline:(apos.endLine == cpos.line) = true:=by rfl) (hs:starEach (e :: es) X.env = (false,eval e X.env) :: starEach es X.env:=by rfl) (hplain:(backTo cpos (starEach es X.env)).any (·.1) = false:=by rfl) :
  PE X (.Call (.Attribute o name apos) (e :: es) [] cpos) (tBM X.K T r to t):=by
 intro pins s σ H Q I h
 refine wpAny_Call_method_late hbase hfew hline rfl (thn (ho pins s σ H _ I h) fun v s1 ⟨x,H1,I1,r1,ty,q1⟩ => ?_)
 obtain ⟨h1,h2⟩:=tyV_is I1 r1 ty
 refine ⟨T,id,pa,slot,hty,h1,h2,?_⟩
 have hA:=ha cpos pins s1 σ H1 _ I1 q1
 rw [hs] at hA ⊢
 refine Calls.callWith_builtin (by show (false || (backTo cpos (starEach es X.env)).any (·.1)) = false; rw [hplain] <;> rfl) (Calls.evalArgs_plain ?_)
 exact thn hA fun us s2 ⟨vs,H2,I2,r2,q2⟩ => hm pins s2 σ H2 x vs v us Q I2 r1 r2 q2
end
end L2
namespace L2
open PySem PySem.Spec PyProof.Rows
noncomputable def MtM (X:Cx) (id:String) (r:V → List V → Hp → VK → Prop):Prop :=
 ∀ (pins:List (Addr × Obj)) (s:Shared) (σ:St) (H:Hp) (x:V) (xs:List V) (v:Value) (us:List Value) (Q:VK),Inv X pins σ H s → RelV x v → Vals xs us → r x xs H Q →
  wpAny (model X.prog X.w) X.A (call (.builtin id) (v :: us)) (EP X pins σ Q) X.xe s
theorem Vals.one:∀ {x:V} {us:List Value},Vals [x] us → ∃ u,us = [u] ∧ RelV x u
 | _,_,.cons r .nil => ⟨_,rfl,r⟩
theorem Vals.zero:∀ {us:List Value},Vals [] us → us = []
 | _,.nil => rfl
section
variable {X:Cx} {pins:List (Addr × Obj)} {σ:St} {H:Hp} {s:Shared} {l b:Addr} {xs ys zs:List V}
theorem Inv.lset {its its':List Value} {n:Nat} {f:Array Value → Array Value} {t':Nat} (I:Inv X pins σ H s) (hH:H l = some (.lst xs))
  (e:s.heap.get? l = some { cls:=.type "list",data:=.seq its.toArray n }) (hf:f its.toArray = its'.toArray) (hv:Vals ys its') (hz:ys.length ≤ sizeLine) :
  Inv X pins σ (upd H l (.lst ys)) { s with heap:=s.heap.update l (Obj.mapSeq f),toks:=t' }:=by
 have q:=PySem.IsL.update e f
 rw [hf] at q
 refine I.write (x:=l) (e:=l) (by rw [hH]; exact trivial) (.inl rfl) (fun b' u hb hu => (Heap.get?_update_other s.heap (Obj.mapSeq f) (Ne.symm hb)).trans hu) ⟨_,q⟩ ?_
 exact ⟨hz,its',_,hv,q⟩
theorem Inv.lnew {its:List Value} {t':Nat} (I:Inv X pins σ H s) (hv:Vals ys its) (hz:ys.length ≤ sizeLine) :
  Inv X pins σ (upd H s.heap.objs.size (.lst ys)) { s with heap:=s.heap.push { cls:=.type "list",data:=.seq its.toArray },toks:=t' } :=
 I.laid (fun _ _ q => Heap.get?_push_of_some _ q) (Nat.le_refl _) ⟨hz,its,0,hv,Heap.get?_push_size _ rfl⟩
theorem Inv.fresh (I:Inv X pins σ H s):H s.heap.objs.size = none:=I.hok.fresh (Nat.le_refl _)
theorem Inv.lstM (I:Inv X pins σ H s) (hH:H l = some (.lst xs)):xs.length ≤ sizeLine ∧ ∃ (its:List Value) (n:Nat),Vals xs its ∧ xs.length = its.length ∧ s.heap.get? l = some { cls:=.type "list",data:=.seq its.toArray n }:=by
 obtain ⟨z,its,n,r,e⟩:=I.hok l _ hH
 exact ⟨z,its,n,r,r.length,e⟩
end
section
variable {X:Cx}
noncomputable def rAppend:V → List V → Hp → VK → Prop:=fun x vs H Q => ∃ l xs y,x = .ref l ∧ vs = [y] ∧ H l = some (.lst xs) ∧ xs.length < sizeLine ∧ Q .non (upd H l (.lst (xs ++ [y])))
theorem mt_append:MtM X "list.append" rAppend:=by
 intro pins s σ H x vs v us Q I rx rv h
 obtain ⟨l,xs,y,rfl,rfl,hH,hz,q⟩:=h
 cases rx
 obtain ⟨u,rfl,ru⟩:=rv.one
 obtain ⟨z,its,n,r,hl,e⟩:=I.lstM hH
 refine call_meets F.slot_list_append ⟨_,e,rfl⟩ F.entry_list_append (F.args_list_append_2 _ _) (PySem.list_append l its.toArray n u (by rw [List.size_toArray]; omega)) ⟨e,?_⟩
 refine ⟨.non,_,I.lset (its':=its ++ [u]) hH e (by simp) (r.append (.cons ru .nil)) ?_,rfl,q⟩
 rw [List.length_append,List.length_singleton]
 omega
noncomputable def rCat:R2:=fun x y H Q => ∃ l b xs zs,x = .ref l ∧ y = .ref b ∧ H l = some (.lst xs) ∧ H b = some (.lst zs) ∧ xs.length + zs.length ≤ sizeLine ∧ ∀ p,H p = none → Q (.ref p) (upd H p (.lst (xs ++ zs)))
theorem op_cat:OpR X (binaryOp .Add) rCat:=by
 intro pins s σ H x y v u Q I rx ry h
 obtain ⟨l,b,xs,zs,rfl,rfl,hH,hB,hz,q⟩:=h
 cases rx
 cases ry
 obtain ⟨z,its,n,r,hl,e⟩:=I.lstM hH
 obtain ⟨z2,its2,n2,r2,hl2,e2⟩:=I.lstM hB
 refine PySem.P.add_list e e2 ?_ (by rw [List.size_toArray,List.size_toArray]; omega)
 have ea:its.toArray ++ its2.toArray = (its ++ its2).toArray:=by simp
 rw [ea]
 exact ⟨.ref _,_,I.lnew (t':=s.toks) (r.append r2) (by rw [List.length_append]; omega),rfl,q _ I.fresh⟩
end
section
variable {prog:Program} {w:World} {A:Around} {E:Value → Shared → Prop} {s:Shared}
set_option maxRecDepth 100000 in
end
end L2
namespace Att
open PySem PySem.W PySem.Calls PyProof.Rows
theorem ints_of_wellAll {P:Params} {h:Heap}:∀ (ns:List Int) (vs:List Value),WellAll P h vs (ns.map WData.int) → IntsAre vs ns:=by
 intro ns
 induction ns with
 | nil =>
  intro vs w
  rw [List.map_nil] at w
  cases w
  exact .nil
 | cons n ns ih =>
  intro vs w
  rw [List.map_cons] at w
  cases w with
  | cons a b =>
   cases a
   exact .cons _ _ (ih _ b)
theorem script_of {l:OpenLaw} {n:Nat} (hn:l.most = some n) {P:Params} {h:Heap} {args:List WData} {vals:List Value}
  (hpre:l.row.toRowW.claim.pre args = true) (hwl:WellAll P h vals args) :
  ∃ a vs ns,vals = [Value.ref a] ∧ args = [WData.list (ns.map WData.int)] ∧ h.get? a = some { cls:=.type "list",data:=.seq vs.toArray } ∧ IntsAre vs ns ∧ ns.length ≤ n:=by
 have hsh:WShape.hasAll [] args [.list .int] = true:=(pre_splitW hpre).1
 have hc:l.pre.holds [] { args:=args } = true:=(pre_splitW hpre).2
 obtain ⟨d,r,rfl,h1,h2⟩:=hasAllW_cons hsh
 obtain rfl:=hasAllW_nil h2
 obtain ⟨xs,rfl,h3⟩:=hasW_list h1
 obtain ⟨ns,rfl⟩:=items_int h3
 have hlen:ns.length ≤ n:=by
  unfold OpenLaw.pre at hc
  have h4:(WTm.not (.lt (.lit (.int (n:Int))) (.len (.arg 0)))).holds [] { args:=[.list (ns.map .int)] } = true:=by
   have h4:=(holds_andW hc).1
   rw [hn] at h4
   exact h4
  have h5:=condW_of h4 (w_not (w_lt w_lit (w_len_list (w_arg rfl))))
  rw [List.length_map] at h5
  refine Nat.le_of_not_lt fun q => ?_
  have q':(n:Int) < ((ns.length:Nat):Int):=by omega
  first
   | (rw [decide_eq_true q'] at h5; exact absurd h5 (by decide))
   | (simp at h5; omega)
 cases hwl with
 | cons w1 w2 =>
  cases w2
  cases w1 with
  | list ho hall => exact ⟨_,_,ns,rfl,rfl,ho,ints_of_wellAll ns _ hall,hlen⟩
theorem post_true (l:OpenLaw) (args:List WData):l.row.toRowW.claim.post args (.bool true) args = true :=
 postW_of (r:=l.row.toRowW) (X:=(true == true))
  (show WShape.has [] (.bool true) .bool = true by first | rfl | decide | simp [WShape.has,WShape.arms,WShape.armsAll])
  (show (WTm.eq .res (.lit (.bool true))).value [] { args:=args,res:=some (.bool true),after:=args } = some (.bool (true == true)) from w_eq_bool (w_res rfl) w_lit) rfl
end Att
namespace L2
open PySem PySem.Spec PyProof.Rows
theorem vals_ints:∀ {vs:List Value} {ns:List Int},IntsAre vs ns → Vals (ns.map V.int) vs
 | _,_,.nil => .nil
 | _,_,.cons n t h => .cons ⟨t,rfl⟩ (vals_ints h)
noncomputable def Only (H:Hp):Prop:=∀ b,H b = none ∨ ∃ o xs,H b = some (.frz o (.lst xs))
theorem law_call {P:Program} {w:World} {K:PySem.W.Frag} {mg mb:Str → Option Value} {CX:CXT} {k:Nat} {fa a:Addr} {fd:FuncData} {x:Str} {sp:Sp} {s₁:Shared} {vs:List Value} {ns:List Int}
  (KX:K.In s₁.heap) (hns:s₁.heap.Ns mainGlobals mg) (hb:s₁.heap.Ns builtinsNs mb) (hbb:∀ x:Str,x ≠ "__name__" → mb x = bootBuiltins x) (hlim:s₁.heap.NoLimit) (hg:s₁.gens = #[])
  (ha:s₁.heap.get? a = some { cls:=.type "list",data:=.seq vs.toArray }) (hi:IntsAre vs ns) (hl:ns.length ≤ sizeLine) (hr:Room k callerA)
  (F:∀ base:Heap,K.In base → base.Ns mainGlobals mg → FnOk P w K mg base CX k fa fd [x] sp) (hbind:∀ (s:Shared) (u:Value),BindsTo s fd ⟨[u],[]⟩ [(x,u)])
  (hsp:∀ H:Hp,Only H → SqL K H a (ns.map V.int) → sp [.ref a] H (fun v _ => v = .bl true) fun _ _ _ => False)
  (hCX:∀ H e s',CX [] H s₁ (fun _ _ _ => False) e s' → False) :
  codeAny (model P w) callerA (.call (.ref fa) ⟨[.ref a],[]⟩) (fun r s' => r = .ok (.ret (.bool true)) ∧ OldK s₁.heap s'.heap ∧ s'.os = s₁.os ∧ AllBare s'.gens) s₁:=by
 have rv:=vals_ints hi
 have lenV:=hi.length
 -- from an abstract heap in which nothing but the script may be tracked
 have core:∀ H:Hp,Only H → SqL K H a (ns.map V.int) → HOk P w H s₁.heap → (∀ b,H b ≠ none → b = a) → (H a ≠ none → K.lookup a = none) →
   codeAny (model P w) callerA (.call (.ref fa) ⟨[.ref a],[]⟩) (fun r s' => r = .ok (.ret (.bool true)) ∧ OldK s₁.heap s'.heap ∧ s'.os = s₁.os ∧ AllBare s'.gens) s₁:=by
  intro H hO hS hok hA hK
  have base_of:∀ {b:Addr} {o:Obj},s₁.heap.get? b = some o → H b = none → (hidT s₁.heap H).get? b = some o:=fun e n => hidT_get e n
  have noA:∀ {b:Addr} {o:Obj} {es:Array DictEntry} {ep:Nat},s₁.heap.get? b = some o → o.data = .dict es ep → H b = none:=fun {b o es ep} e d => by
   cases q:H b with
   | none => rfl
   | some u =>
    have e':b = a:=hA b (by rw [q]; simp)
    subst e'
    rw [ha] at e; cases e
    have d':Data.seq vs.toArray _ = Data.dict es ep:=d
    cases d'
  have nsK:∀ {b:Addr} {m:Str → Option Value},s₁.heap.Ns b m → (hidT s₁.heap H).Ns b m:=fun {b m} ⟨o,es,ep,e,d,r⟩ => ⟨o,es,ep,base_of e (noA e d),d,r⟩
  have hKb:K.In (hidT s₁.heap H):=fun b o e => base_of (KX b o e) (by
   cases q:H b with
   | none => rfl
   | some u =>
    have e':b = a:=hA b (by rw [q]; simp)
    subst e'
    rw [hK (by rw [q]; simp)] at e; cases e)
  have hM:Mod K mg (hidT s₁.heap H):=⟨hKb,nsK hns,⟨mb,nsK hb,hbb⟩,let ⟨mc,h1,h2⟩:=hlim; ⟨mc,nsK h1,h2⟩⟩
  have e0:Env0 P w K mg (hidT s₁.heap H) callerA [] s₁ H:=⟨rfl,hM,fun b o e => of_hidT e,Nat.le_of_eq (hidT_size _ _),trivial,fun b hb => absurd (show b ∈ ([]:List Addr) from hb) (by simp),hok,.of_eq hg⟩
  refine codeAny_mono ((F _ hKb (nsK hns)).run callerA [] s₁ H ⟨[.ref a],[]⟩ [.ref a] [.ref a] _ _ hr e0 (hbind s₁ (.ref a)) (.cons rfl .nil) (hsp H hO hS)) fun r s' h => ?_
  cases r with
  | error e => exact (hCX H e s' h).elim
  | ok fl =>
   cases fl with
   | next => exact False.elim h
   | brk => exact False.elim h
   | cont => exact False.elim h
   | ret u =>
    obtain ⟨v,H',os,bare,un,hok',r',q⟩:=h
    have q':v = .bl true:=q
    subst q'
    obtain rfl:u = Value.bool true:=r'
    refine ⟨rfl,OldK.of_keep fun b o e => ?_,os,bare⟩
    cases q:H b with
    | none => exact un.keep b o e q (by intro z; exact absurd (show b ∈ ([]:List Addr) from z) (by simp)) (by simp)
    | some u =>
     rcases hO b with z | ⟨ob,xs,z⟩
     ·rw [q] at z; cases z
     ·have z2:=un.frzs b ob _ z
      obtain ⟨e1,_⟩:=hok b _ z
      obtain ⟨e2,_⟩:=hok' b _ z2
      rw [e] at e1; cases e1
      exact e2
 cases hk:K.lookup a with
 | some o =>
  -- the script is one of the module's own objects
  have e:=KX a o hk
  rw [ha] at e
  cases e
  refine core (fun _ => none) (fun _ => .inl rfl) (.inr ⟨_,vs.toArray,_,hk,rfl,rfl,rfl,by rw [List.size_toArray,lenV]; exact hl,by simpa using rv⟩) (fun b u z => by have z':(none:Option HO) = some u:=z; cases z') (fun b z => absurd rfl z) fun z => absurd rfl z
 | none =>
  refine core (fun b => if b = a then some (.frz { cls:=.type "list",data:=.seq vs.toArray } (.lst (ns.map V.int))) else none) (fun b => ?_) (.inl (.inr ⟨{ cls:=.type "list",data:=.seq vs.toArray },if_pos rfl⟩)) (fun b u z => ?_) (fun b z => ?_) fun _ => hk
  ·by_cases hb:b = a
   ·exact .inr ⟨_,_,if_pos hb⟩
   ·exact .inl (if_neg hb)
  ·by_cases hb:b = a
   ·have z':=(if_pos hb).symm.trans z
    cases z'
    subst hb
    exact ⟨ha,by rw [List.length_map]; exact hl,vs,_,rv,ha⟩
   ·have z':=(if_neg hb).symm.trans z
    cases z'
  ·by_cases hb:b = a
   ·exact hb
   ·exact absurd (if_neg hb) z
end L2
namespace L2
open PySem PySem.Spec PyProof.Rows
end L2
namespace L2
open PySem PySem.Spec PyProof.Rows
noncomputable def defArgs (s:Stmt):Arguments:=match s with
 | .FunctionDef _ a _ _ _ _ _ _ _ _ => a
 | _ => { posonlyargs:=[],args:=[],vararg:=none,kwonlyargs:=[],kw_defaults:=[],kwarg:=none,defaults:=[] }
noncomputable def defBody (s:Stmt):List Stmt:=match s with
 | .FunctionDef _ _ b _ _ _ _ _ _ _ => b
 | _ => []
noncomputable def defScope (s:Stmt):Scope:=match s with
 | .FunctionDef _ _ _ _ _ _ sc _ _ _ => sc
 | _ => { kind:=.function,names:=[],isGenerator:=false,isCoroutine:=false }
noncomputable abbrev CX0:CXT:=fun _ _ _ _ _ _ => False
noncomputable abbrev E0:XK:=fun _ _ _ => False
theorem pass0 {X:Cx}:Passes CX0 X E0:=fun _ _ _ _ _ _ _ h => h.elim
structure Fun (K:PySem.W.Frag) (x qual:Str) (st:Stmt) (f:Addr) (fd:FuncData):Prop where
 ex:∃ (oc:Value) (od:Option Addr) (kV doc pm:Value) (an:Option Addr) (cdv ct:Value) (osl:Array (Option Value)),
  fd = PySem.W.fnOf x qual (defArgs st) (defBody st) (defScope st) .none kV doc pm an cdv ct ∧ K.lookup f = some ⟨oc,od,.func fd,osl⟩ ∧ PySem.W.codeIn K cdv qual = true
 kp:PySem.W.keepIn K (.ref f) = true
section
variable {P:Program} {w:World} {K:PySem.W.Frag} {mg:Str → Option Value} {base:Heap}
theorem Fun.ok {x qual:Str} {st:Stmt} {f:Addr} {fd:FuncData} {N ps:List Str} {k:Nat} {sp:Sp} (F:Fun K x qual st f fd) (S:FnScope N ps (defScope st)) (len:∀ vs H Q E,sp vs H Q E → vs.length = ps.length)
  (hbody:∀ (cdv:Value) (A:Around) (outer:List Env) (s:Shared) (H:Hp) (vs:List V) (Q:VK) (E:XK),Room k (A.deeper (envOfC qual (defScope st) s.heap.objs.size f cdv)) → sp vs H Q E →
   ∃ t,PSs (cxOf CX0 P w K mg base N qual (defScope st) f cdv A outer s H E).nox (defBody st) t ∧ t { nx:=fun _ H' => Q .non H',rt:=Q } (start N vs) H):FnOk P w K mg base CX0 (k + 1) f fd ps sp:=by
 obtain ⟨oc,od,kV,doc,pm,an,cdv,ct,osl,rfl,lk,hcd⟩:=F.ex
 refine fn_of lk hcd S len fun A outer s H vs Q E hr hsp => ?_
 obtain ⟨t,h,q⟩:=hbody cdv A outer s H vs Q E hr hsp
 exact ⟨t,h.nox,q⟩
theorem Fun.binds {x qual:Str} {st:Stmt} {f:Addr} {fd:FuncData} {ps:List Str} (F:Fun K x qual st f fd)
  (h:∀ (kV doc pm:Value) (an:Option Addr) (cdv ct:Value) (us:List Value),us.length = ps.length → bindArgs (PySem.W.fnOf x qual (defArgs st) (defBody st) (defScope st) .none kV doc pm an cdv ct) ⟨us,[]⟩ = pure (ps.zip us)):Binds K fd ps []:=by
 obtain ⟨oc,od,kV,doc,pm,an,cdv,ct,osl,rfl,lk,hcd⟩:=F.ex
 exact .all (h kV doc pm an cdv ct)
theorem fun_mk {x qual:Str} {st:Stmt} {f:Addr} {oc:Value} {od an:Option Addr} {osl:Array (Option Value)} {kV doc pm cdv ct:Value} (l:K.lookup f = some ⟨oc,od,.func (PySem.W.fnOf x qual (defArgs st) (defBody st) (defScope st) .none kV doc pm an cdv ct),osl⟩)
  (c:PySem.W.codeIn K cdv qual = true) (k:PySem.W.keepIn K (.ref f) = true):Fun K x qual st f (PySem.W.fnOf x qual (defArgs st) (defBody st) (defScope st) .none kV doc pm an cdv ct):=⟨⟨oc,od,kV,doc,pm,an,cdv,ct,osl,rfl,l,c⟩,k⟩
end
section
variable {X:Cx}
theorem pv (i:Nat) {x:Str} {pos:Pos} (hN:X.N[i]? = some x:=by rfl) (hv:Vis X.env.scope x:=by first | exact Or.inl rfl | exact Or.inr (Or.inl rfl) | exact Or.inr (Or.inr rfl)) (hd:(x == ("__debug__":Str)) = false:=by decide)
  (hcd:(x == ("__classdict__":Str)) = false:=by decide):PE X (.Name x pos) (tVar i):=pe_var hN hv hd hcd
end
theorem iteF {A B:Prop} (h:B):if false = true then A else B:=by
 rw [if_neg Bool.false_ne_true]
 exact h
theorem iteT {A B:Prop} (h:A):if true = true then A else B:=by
 rw [if_pos rfl]
 exact h
noncomputable def Same (H H':Hp):Prop:=∀ b o,H b = some o → H' b = some o
theorem Same.refl (H:Hp):Same H H:=fun _ _ h => h
theorem Same.trans {H H1 H2:Hp} (a:Same H H1) (b:Same H1 H2):Same H H2:=fun c o h => b c o (a c o h)
theorem Same.free {H H':Hp} (e:Same H H') {l:Addr} (h:H' l = Option.none):H l = Option.none:=by
 cases q:H l with
 | none => rfl
 | some o =>
  rw [e l o q] at h
  cases h
theorem Same.seq {K:PySem.W.Frag} {H H':Hp} {a:Addr} {xs:List V} (e:Same H H') (h:SqL K H a xs):SqL K H' a xs:=by
 rcases h with (h | ⟨o,h⟩) | h
 ·exact .inl (.inl (e _ _ h))
 ·exact .inl (.inr ⟨o,e _ _ h⟩)
 ·exact .inr h
end L2
namespace L2
open PySem PySem.Spec PyProof.Rows
section
variable {κ:Type} [DecidableEq κ]
noncomputable def valV (kvs:List (κ × V)) (k:κ):Option V:=(kvs.find? fun kv => decide (kv.1 = k)).map (·.2)
noncomputable def putK (kvs:List (κ × V)) (k:κ) (v:V):List (κ × V) :=
 if (kvs.any fun kv => decide (kv.1 = k)) = true then kvs.map (fun kv => if kv.1 = k then (kv.1,v) else kv) else kvs ++ [(k,v)]
noncomputable def dropK (kvs:List (κ × V)) (k:κ):List (κ × V):=kvs.filter fun kv => decide (kv.1 ≠ k)
theorem RelO.getD {o:Option V} {u:Option Value} {d:V} {d':Value} (r:RelO o u) (rd:RelV d d'):RelV (o.getD d) (u.getD d'):=by
 cases o with
 | none => cases u with
  | none => exact rd
  | some _ => exact (show False from r).elim
 | some _ => cases u with
  | none => exact (show False from r).elim
  | some _ => exact r
theorem KV.any {kvs:List (κ × V)} {vs:List (κ × Value)} (r:KV kvs vs) (k:κ):(kvs.any fun kv => decide (kv.1 = k)) = vs.any fun kv => decide (kv.1 = k):=by
 unfold KV at r
 induction r with
 | nil => rfl
 | cons h t ih => rw [List.any_cons,List.any_cons,ih,h.1]
theorem KV.drop {kvs:List (κ × V)} {vs:List (κ × Value)} (r:KV kvs vs) (k:κ):KV (dropK kvs k) (without vs k):=by
 unfold KV at r ⊢
 unfold dropK without
 induction r with
 | nil => exact .nil
 | @cons p q ps qs h t ih =>
  obtain ⟨h1,h2⟩:=h
  rw [List.filter_cons,List.filter_cons]
  by_cases e:p.1 = k
  ·have a:¬ decide (p.1 ≠ k) = true:=by simp [e]
   have b:¬ decide (q.1 ≠ k) = true:=by simp [h1.symm.trans e]
   rw [if_neg a,if_neg b]; exact ih
  ·have e':¬ q.1 = k:=fun z => e (h1.trans z)
   have a:decide (p.1 ≠ k) = true:=by simp [e]
   have b:decide (q.1 ≠ k) = true:=by simp [e']
   rw [if_pos a,if_pos b]; exact .cons ⟨h1,h2⟩ ih
theorem KV.keys {kvs:List (κ × V)} {vs:List (κ × Value)} (r:KV kvs vs):kvs.map (·.1) = vs.map (·.1):=by
 unfold KV at r
 induction r with
 | nil => rfl
 | cons h t ih => rw [List.map_cons,List.map_cons,ih,h.1]
theorem KV.length {kvs:List (κ × V)} {vs:List (κ × Value)} (r:KV kvs vs):kvs.length = vs.length:=Paired.length r
end
noncomputable abbrev KT (H:Hp):List (List Key × V) → List (List Key × Addr × Value) → Prop:=Paired fun p q => p.1 = q.1 ∧ H q.2.1 = some (.tup (p.1.map kV)) ∧ RelV p.2 q.2.2
theorem KT.keeps {H H':Hp} {kvs:List (List Key × V)} {xs:List (List Key × Addr × Value)} (r:KT H kvs xs) (ht:∀ b ys,H b = some (.tup ys) → H' b = some (.tup ys)):KT H' kvs xs :=
 Paired.mapP r fun _ _ z => ⟨z.1,ht _ _ z.2.1,z.2.2⟩
noncomputable def DGet (H:Hp) (a:Addr) (y:V) (r:Option V):Prop :=
 (∃ kvs k,Rd H a (.dK kvs) ∧ y = kV k ∧ r = valV kvs k) ∨ ∃ kvs k b,Rd H a (.dT kvs) ∧ y = .ref b ∧ H b = some (.tup (k.map kV)) ∧ r = valV kvs k
noncomputable def DPut (H:Hp) (a:Addr) (y v:V) (H':Hp):Prop :=
 (∃ kvs k,H a = some (.dK kvs) ∧ y = kV k ∧ kvs.length < sizeLine ∧ H' = upd H a (.dK (putK kvs k v))) ∨
 ∃ kvs k b,H a = some (.dT kvs) ∧ y = .ref b ∧ H b = some (.tup (k.map kV)) ∧ kvs.length < sizeLine ∧ H' = upd H a (.dT (putK kvs k v))
theorem DGet.k {H:Hp} {a:Addr} {kvs:List (Key × V)} {k:Key} (e:H a = some (.dK kvs)):DGet H a (kV k) (valV kvs k):=.inl ⟨kvs,k,.inl e,rfl,rfl⟩
theorem DGet.t {H:Hp} {a b:Addr} {kvs:List (List Key × V)} {k:List Key} (e:H a = some (.dT kvs)) (eb:H b = some (.tup (k.map kV))):DGet H a (.ref b) (valV kvs k):=.inr ⟨kvs,k,b,.inl e,rfl,eb,rfl⟩
theorem DPut.k {H:Hp} {a:Addr} {kvs:List (Key × V)} {k:Key} {v:V} (e:H a = some (.dK kvs)) (hl:kvs.length < sizeLine):DPut H a (kV k) v (upd H a (.dK (putK kvs k v))):=.inl ⟨kvs,k,e,rfl,hl,rfl⟩
theorem DPut.t {H:Hp} {a b:Addr} {kvs:List (List Key × V)} {k:List Key} {v:V} (e:H a = some (.dT kvs)) (eb:H b = some (.tup (k.map kV))) (hl:kvs.length < sizeLine) :
  DPut H a (.ref b) v (upd H a (.dT (putK kvs k v))):=.inr ⟨kvs,k,b,e,rfl,eb,hl,rfl⟩
end L2
set_option maxHeartbeats 4000000
namespace L3
open PySem PySem.Spec PyProof.Rows L2
inductive D where
 | non | bl (b:Bool) | int (i:Int) | str (x:Str) | tup (xs:List D) | fz (xs:List D) | ref (k:Nat) | ty (n:String)
mutual
noncomputable def D.beq:D → D → Bool
 | .non,.non => true
 | .bl a,.bl b => a == b
 | .int a,.int b => a == b
 | .str a,.str b => decide (a = b)
 | .tup a,.tup b => D.beqL a b
 | .fz a,.fz b => D.beqL a b
 | .ref a,.ref b => a == b
 | .ty a,.ty b => a == b
 | _,_ => false
noncomputable def D.beqL:List D → List D → Bool
 | [],[] => true
 | a :: as,b :: bs => D.beq a b && D.beqL as bs
 | _,_ => false
end
mutual
theorem D.beq_refl:∀ a:D,D.beq a a = true
 | .non => rfl
 | .bl _ => by simp [D.beq]
 | .int _ => by simp [D.beq]
 | .str _ => by simp [D.beq]
 | .tup xs => by simp only [D.beq]; exact D.beqL_refl xs
 | .fz xs => by simp only [D.beq]; exact D.beqL_refl xs
 | .ref _ => by simp [D.beq]
 | .ty _ => by simp [D.beq]
theorem D.beqL_refl:∀ a:List D,D.beqL a a = true
 | [] => rfl
 | a :: as => by simp only [D.beqL]; rw [D.beq_refl a,D.beqL_refl as]; rfl
end
mutual
theorem D.eq_of_beq:∀ {a b:D},D.beq a b = true → a = b
 | .non,b,h => by cases b <;> first | rfl | (simp [D.beq] at h)
 | .bl _,b,h => by cases b <;> simp_all [D.beq]
 | .int _,b,h => by cases b <;> simp_all [D.beq]
 | .str _,b,h => by cases b <;> simp_all [D.beq]
 | .tup xs,b,h => by
  cases b with
  | tup ys => simp only [D.beq] at h; rw [D.eq_of_beqL h]
  | _ => simp [D.beq] at h
 | .fz xs,b,h => by
  cases b with
  | fz ys => simp only [D.beq] at h; rw [D.eq_of_beqL h]
  | _ => simp [D.beq] at h
 | .ref _,b,h => by cases b <;> simp_all [D.beq]
 | .ty _,b,h => by cases b <;> simp_all [D.beq]
theorem D.eq_of_beqL:∀ {a b:List D},D.beqL a b = true → a = b
 | [],[],_ => rfl
 | [],_ :: _,h => by simp [D.beqL] at h
 | _ :: _,[],h => by simp [D.beqL] at h
 | a :: as,b :: bs,h => by
  simp only [D.beqL,Bool.and_eq_true] at h
  rw [D.eq_of_beq h.1,D.eq_of_beqL h.2]
end
noncomputable instance:DecidableEq D:=fun a b => if h:D.beq a b = true then .isTrue (D.eq_of_beq h) else .isFalse fun e => h (by rw [e]; exact D.beq_refl b)
inductive Ob where
 | lst (xs:List D) | dk (kvs:List (Key × D)) | ins (c:Str) (fs:List (Str × D)) | exn (c:Str)
deriving DecidableEq
noncomputable abbrev Sto:=List Ob
noncomputable abbrev Fm:=List (Option D)
noncomputable def SqF (K:PySem.W.Frag) (H:Hp) (a:Addr) (xs:List V):Prop :=
 (∃ o,H a = some (.frz o (.lst xs))) ∨
  ∃ (o:Obj) (its:Array Value) (n:Nat),K.lookup a = some o ∧ o.cls = .type "list" ∧ o.dict = none ∧ o.data = .seq its n ∧ its.size ≤ sizeLine ∧ Vals xs its.toList
theorem SqF.sql {K:PySem.W.Frag} {H:Hp} {a:Addr} {xs:List V} (h:SqF K H a xs):SqL K H a xs:=by
 rcases h with h | h
 ·exact .inl (.inr h)
 ·exact .inr h
mutual
inductive Is (K:PySem.W.Frag) (H:Hp) (O:List Addr):V → D → Prop
 | non:Is K H O .non .non
 | bl (b:Bool):Is K H O (.bl b) (.bl b)
 | int (i:Int):Is K H O (.int i) (.int i)
 | str (x:Str):x.length ≤ 16777216 → Is K H O (.str x) (.str x)
 | tup {a:Addr} {vs:List V} {ds:List D}:SqT K H a vs → IsL K H O vs ds → Is K H O (.ref a) (.tup ds)
 | fz {a:Addr} {vs:List V} {ds:List D}:SqF K H a vs → IsL K H O vs ds → Is K H O (.ref a) (.fz ds)
 | ref {k:Nat} {a:Addr}:O[k]? = some a → Is K H O (.ref a) (.ref k)
 | ty (n:String):Is K H O (.ty n) (.ty n)
inductive IsL (K:PySem.W.Frag) (H:Hp) (O:List Addr):List V → List D → Prop
 | nil:IsL K H O [] []
 | cons {v:V} {d:D} {vs:List V} {ds:List D}:Is K H O v d → IsL K H O vs ds → IsL K H O (v :: vs) (d :: ds)
end
noncomputable def Fixed:HO → Prop
 | .tup _ => True
 | .frz _ _ => True
 | _ => False
noncomputable def Grow (H H':Hp):Prop:=∀ a o,H a = some o → Fixed o → H' a = some o
noncomputable def Step (H:Hp) (O:List Addr) (H':Hp) (O':List Addr):Prop:=Grow H H' ∧ O <+: O'
theorem Grow.refl (H:Hp):Grow H H:=fun _ _ h _ => h
theorem Grow.trans {H H1 H2:Hp} (a:Grow H H1) (b:Grow H1 H2):Grow H H2:=fun c o h f => b c o (a c o h f) f
theorem Step.refl (H:Hp) (O:List Addr):Step H O H O:=⟨.refl H,List.prefix_refl O⟩
theorem Step.trans {H H1 H2:Hp} {O O1 O2:List Addr} (a:Step H O H1 O1) (b:Step H1 O1 H2 O2):Step H O H2 O2:=⟨a.1.trans b.1,a.2.trans b.2⟩
theorem Grow.ext {H H':Hp} (h:∀ a o,H a = some o → H' a = some o):Grow H H':=fun a o e _ => h a o e
theorem Grow.new {H:Hp} {p:Addr} {o:HO} (h:H p = none):Grow H (upd H p o):=.ext fun a u e => by rw [upd_ne (ne_of_none e h)]; exact e
theorem Grow.write {H:Hp} {p:Addr} {o u:HO} (h:H p = some u) (n:¬ Fixed u):Grow H (upd H p o):=fun a x e f => by
 by_cases z:a = p
 ·subst z; rw [h] at e; cases e; exact absurd f n
 ·rw [upd_ne z]; exact e
section
variable {K:PySem.W.Frag} {H H':Hp} {O O':List Addr}
theorem SqT.grow {a:Addr} {xs:List V} (g:Grow H H') (h:SqT K H a xs):SqT K H' a xs:=by
 rcases h with (h | ⟨o,h⟩) | h
 ·exact .inl (.inl (g _ _ h True.intro))
 ·exact .inl (.inr ⟨o,g _ _ h True.intro⟩)
 ·exact .inr h
theorem SqF.grow {a:Addr} {xs:List V} (g:Grow H H') (h:SqF K H a xs):SqF K H' a xs:=by
 rcases h with ⟨o,h⟩ | h
 ·exact .inl ⟨o,g _ _ h True.intro⟩
 ·exact .inr h
theorem nd_ix {α:Type} {N:List α} (hN:N.Nodup) {i j:Nat} {x:α} (a:N[i]? = some x) (b:N[j]? = some x):i = j:=by
 obtain ⟨h1,g1⟩:=List.getElem?_eq_some_iff.mp a
 obtain ⟨h2,g2⟩:=List.getElem?_eq_some_iff.mp b
 have p:=List.pairwise_iff_getElem.mp hN
 rcases Nat.lt_trichotomy i j with h | h | h
 ·exact absurd (g1.trans g2.symm) (p i j h1 h2 h)
 ·exact h
 ·exact absurd (g2.trans g1.symm) (p j i h2 h1 h)
theorem pref_get {α:Type} {O O':List α} (h:O <+: O') {k:Nat} {a:α} (e:O[k]? = some a):O'[k]? = some a:=by
 obtain ⟨t,rfl⟩:=h
 rw [List.getElem?_append_left (List.getElem?_eq_some_iff.mp e).1]; exact e
mutual
theorem Is.mono (st:Step H O H' O'):∀ {v:V} {d:D},Is K H O v d → Is K H' O' v d
 | _,_,.non => .non
 | _,_,.bl b => .bl b
 | _,_,.int b => .int b
 | _,_,.str b h => .str b h
 | _,_,.tup h r => .tup (SqT.grow st.1 h) (IsL.mono st r)
 | _,_,.fz h r => .fz (SqF.grow st.1 h) (IsL.mono st r)
 | _,_,.ref h => .ref (pref_get st.2 h)
 | _,_,.ty n => .ty n
theorem IsL.mono (st:Step H O H' O'):∀ {v:List V} {d:List D},IsL K H O v d → IsL K H' O' v d
 | _,_,.nil => .nil
 | _,_,.cons a b => .cons (Is.mono st a) (IsL.mono st b)
end
theorem IsL.length:∀ {vs:List V} {ds:List D},IsL K H O vs ds → vs.length = ds.length
 | _,_,.nil => rfl
 | _,_,.cons _ b => by simp [IsL.length b]
theorem IsL.get:∀ {vs:List V} {ds:List D} {i:Nat} {d:D},IsL K H O vs ds → ds[i]? = some d → ∃ v,vs[i]? = some v ∧ Is K H O v d
 | _,_,_,_,.nil,e => by simp at e
 | _,_,0,_,.cons a _,e => by simp at e; subst e; exact ⟨_,rfl,a⟩
 | _,_,i + 1,d,.cons _ b,e => by
  obtain ⟨v,h1,h2⟩:=IsL.get (i:=i) (d:=d) b (by simpa using e)
  exact ⟨v,by simpa using h1,h2⟩
theorem IsL.append:∀ {vs ws:List V} {ds es:List D},IsL K H O vs ds → IsL K H O ws es → IsL K H O (vs ++ ws) (ds ++ es)
 | _,_,_,_,.nil,b => b
 | _,_,_,_,.cons a c,b => .cons a (IsL.append c b)
theorem IsL.take:∀ {vs:List V} {ds:List D} (n:Nat),IsL K H O vs ds → IsL K H O (vs.take n) (ds.take n)
 | _,_,0,_ => .nil
 | _,_,_ + 1,.nil => .nil
 | _,_,n + 1,.cons r t => .cons r (IsL.take n t)
theorem IsL.drop:∀ {vs:List V} {ds:List D} (n:Nat),IsL K H O vs ds → IsL K H O (vs.drop n) (ds.drop n)
 | _,_,0,r => r
 | _,_,_ + 1,.nil => .nil
 | _,_,n + 1,.cons _ t => IsL.drop n t
theorem IsL.set {v:V} {d:D} (r:Is K H O v d):∀ {vs:List V} {ds:List D} (i:Nat),IsL K H O vs ds → IsL K H O (vs.set i v) (ds.set i d)
 | _,_,_,.nil => .nil
 | _,_,0,.cons _ t => .cons r t
 | _,_,i + 1,.cons q t => .cons q (IsL.set r i t)
theorem IsL.one {v:V} {ds:List D} (h:IsL K H O [v] ds):∃ d,ds = [d] ∧ Is K H O v d:=by
 cases h with | cons a b => cases b; exact ⟨_,rfl,a⟩
noncomputable def ClsAt (K:PySem.W.Frag) (c:Str) (C:Addr):Prop:=PySem.W.nsIn K mainGlobals c = some (some (.ref C))
noncomputable def ObIs (K:PySem.W.Frag) (H:Hp) (O:List Addr) (a:Addr):Ob → Prop
 | .exn c => ∃ C:Addr,ClsAt K c C ∧ H a = some (.ext fun h => ∃ o,h.get? a = some o ∧ o.cls = .ref C)
 | .ins c fs => ∃ (C dx:Addr) (us:List (Str × V)),ClsAt K c C ∧ H a = some (.ins C dx us) ∧ us.map (·.1) = fs.map (·.1) ∧ IsL K H O (us.map (·.2)) (fs.map (·.2))
 | .lst ds => ∃ vs,H a = some (.lst vs) ∧ IsL K H O vs ds
 | .dk kvs => ∃ us:List (Key × V),H a = some (.dK us) ∧ us.map (·.1) = kvs.map (·.1) ∧ IsL K H O (us.map (·.2)) (kvs.map (·.2))
structure RepS (K:PySem.W.Frag) (H:Hp) (O:List Addr) (L:Sto):Prop where
 len:O.length = L.length
 nd:O.Nodup
 ob:∀ (k:Nat) (a:Addr) (o:Ob),O[k]? = some a → L[k]? = some o → ObIs K H O a o
theorem ObIs.ho {a:Addr} {o:Ob} (h:ObIs K H O a o):∃ u,H a = some u ∧ ¬ Fixed u:=by
 cases o with
 | lst ds => obtain ⟨vs,e,_⟩:=h; exact ⟨_,e,id⟩
 | dk ds => obtain ⟨vs,e,_⟩:=h; exact ⟨_,e,id⟩
 | ins c fs => obtain ⟨C,dx,us,_,e,_⟩:=h; exact ⟨_,e,id⟩
 | exn c => obtain ⟨C,_,e⟩:=h; exact ⟨_,e,id⟩
theorem ObIs.move {a:Addr} {o:Ob} (h:ObIs K H O a o) (st:Step H O H' O') (e:H' a = H a):ObIs K H' O' a o:=by
 cases o with
 | lst ds => obtain ⟨vs,q,r⟩:=h; exact ⟨vs,by rw [e]; exact q,r.mono st⟩
 | dk ds => obtain ⟨vs,q,r1,r2⟩:=h; exact ⟨vs,by rw [e]; exact q,r1,r2.mono st⟩
 | ins c fs => obtain ⟨C,dx,us,z,q,r1,r2⟩:=h; exact ⟨C,dx,us,z,by rw [e]; exact q,r1,r2.mono st⟩
 | exn c => obtain ⟨C,z,q⟩:=h; exact ⟨C,z,by rw [e]; exact q⟩
theorem RepS.has {L:Sto} (r:RepS K H O L) {k:Nat} {a:Addr} (e:O[k]? = some a):∃ o,L[k]? = some o ∧ ObIs K H O a o:=by
 have h:k < L.length:=by rw [← r.len]; exact (List.getElem?_eq_some_iff.mp e).1
 exact ⟨L[k],by simp [h],r.ob k a _ e (by simp [h])⟩
theorem RepS.at {L:Sto} (r:RepS K H O L) {k:Nat} {o:Ob} (e:L[k]? = some o):∃ a,O[k]? = some a ∧ ObIs K H O a o:=by
 have h:k < O.length:=by rw [r.len]; exact (List.getElem?_eq_some_iff.mp e).1
 exact ⟨O[k],by simp [h],r.ob k _ o (by simp [h]) e⟩
theorem RepS.ext {L:Sto} (r:RepS K H O L) (k:∀ a o,H a = some o → H' a = some o):RepS K H' O L :=
 ⟨r.len,r.nd,fun j a o e1 e2 => by
  have q:=r.ob j a o e1 e2
  obtain ⟨u,hu,_⟩:=q.ho
  exact q.move ⟨.ext k,List.prefix_refl _⟩ (by rw [hu]; exact k a u hu)⟩
theorem RepS.new {L:Sto} {p:Addr} {u:HO} {o:Ob} (r:RepS K H O L) (hp:H p = none) (n:ObIs K (upd H p u) (O ++ [p]) p o):RepS K (upd H p u) (O ++ [p]) (L ++ [o]):=by
 have hm:p ∉ O:=fun hm => by
  obtain ⟨k,hk,e⟩:=List.getElem_of_mem hm
  obtain ⟨o',_,q⟩:=r.has (k:=k) (a:=p) (by rw [← e]; simp [hk])
  obtain ⟨u',hu,_⟩:=q.ho
  rw [hp] at hu; cases hu
 refine ⟨by simp [r.len],by rw [List.nodup_append]; exact ⟨r.nd,by simp,fun a ha b hb => by simp at hb; subst hb; rintro rfl; exact hm ha⟩,fun k a o' e1 e2 => ?_⟩
 by_cases h:k < O.length
 ·rw [List.getElem?_append_left h] at e1
  rw [List.getElem?_append_left (by rw [← r.len]; exact h)] at e2
  have q:=r.ob k a o' e1 e2
  obtain ⟨u',hu,_⟩:=q.ho
  exact q.move ⟨.new hp,List.prefix_append _ _⟩ (by rw [upd_ne (ne_of_none hu hp)])
 ·have hk:k = O.length:=by
   have:=(List.getElem?_eq_some_iff.mp e1).1
   simp at this; omega
  subst hk
  rw [List.getElem?_append_right (Nat.le_refl _)] at e1
  rw [List.getElem?_append_right (by rw [r.len]; exact Nat.le_refl _)] at e2
  simp at e1
  rw [r.len] at e2
  simp at e2
  subst e1 e2
  exact n
theorem RepS.write {L:Sto} {k:Nat} {a:Addr} {u:HO} {o':Ob} (r:RepS K H O L) (e:O[k]? = some a) (n:ObIs K (upd H a u) O a o'):RepS K (upd H a u) O (L.set k o'):=by
 obtain ⟨o,e2,q⟩:=r.has e
 obtain ⟨u0,hu0,nf⟩:=q.ho
 refine ⟨by simp [r.len],r.nd,fun j b o2 f1 f2 => ?_⟩
 by_cases h:j = k
 ·subst h
  rw [e] at f1; cases f1
  rw [List.getElem?_set_self (List.getElem?_eq_some_iff.mp e2).1] at f2; cases f2
  exact n
 ·rw [List.getElem?_set_ne (Ne.symm h)] at f2
  have q2:=r.ob j b o2 f1 f2
  have hb:b ≠ a:=fun z => by
   subst z
   exact h (nd_ix r.nd f1 e)
  exact q2.move ⟨.write hu0 nf,List.prefix_refl _⟩ (by rw [upd_ne hb])
end
structure FmIs (K:PySem.W.Frag) (H:Hp) (O:List Addr) (σ:L2.St) (ρ:Fm):Prop where
 len:σ.length = ρ.length
 at':∀ (i:Nat) (d:D),ρ[i]? = some (some d) → ∃ v,σ[i]? = some (some v) ∧ Is K H O v d
structure Rep (K:PySem.W.Frag) (H:Hp) (O:List Addr) (σ:L2.St) (ρ:Fm) (L:Sto):Prop where
 s:RepS K H O L
 f:FmIs K H O σ ρ
theorem FmIs.mono {K:PySem.W.Frag} {H H':Hp} {O O':List Addr} {σ:L2.St} {ρ:Fm} (st:Step H O H' O') (h:FmIs K H O σ ρ):FmIs K H' O' σ ρ :=
 ⟨h.len,fun i d e => let ⟨v,a,b⟩:=h.at' i d e; ⟨v,a,b.mono st⟩⟩
theorem FmIs.set {K:PySem.W.Frag} {H:Hp} {O:List Addr} {σ:L2.St} {ρ:Fm} {v:V} {d:D} (h:FmIs K H O σ ρ) (r:Is K H O v d) (i:Nat):FmIs K H O (σ.set i (some v)) (ρ.set i (some d)):=by
 refine ⟨by simp [h.len],fun j e q => ?_⟩
 by_cases z:j = i
 ·subst z
  have hj:j < ρ.length:=by
   have:=(List.getElem?_eq_some_iff.mp q).1
   simpa using this
  rw [List.getElem?_set_self hj] at q
  cases q
  exact ⟨v,by rw [List.getElem?_set_self (by rw [h.len]; exact hj)],r⟩
 ·rw [List.getElem?_set_ne (Ne.symm z)] at q
  obtain ⟨v',a,b⟩:=h.at' j e q
  exact ⟨v',by rw [List.getElem?_set_ne (Ne.symm z)]; exact a,b⟩
end L3
set_option maxHeartbeats 4000000
namespace L3
open PySem PySem.Spec PyProof.Rows L2
noncomputable abbrev EF:=Fm → Sto → Option (D × Sto)
noncomputable abbrev TF:=Fm → Sto → Option (Bool × Sto)
noncomputable abbrev AF:=Fm → Sto → Option (List D × Sto)
noncomputable abbrev G1:=D → Sto → Option (D × Sto)
noncomputable abbrev G2:=D → D → Sto → Option (D × Sto)
noncomputable abbrev GL:=List D → Sto → Option (D × Sto)
noncomputable def lift (K:PySem.W.Frag) (f:EF):TE:=fun σ H Q => ∃ O ρ L d L',Rep K H O σ ρ L ∧ f ρ L = some (d,L') ∧
 ∀ v H' O',Step H O H' O' → RepS K H' O' L' → Is K H' O' v d → Q v H'
noncomputable def liftT (K:PySem.W.Frag) (f:TF):TT:=fun σ H Q => ∃ O ρ L b L',Rep K H O σ ρ L ∧ f ρ L = some (b,L') ∧
 ∀ H' O',Step H O H' O' → RepS K H' O' L' → Q b H'
noncomputable def liftA (K:PySem.W.Frag) (f:AF):TA:=fun σ H Q => ∃ O ρ L ds L',Rep K H O σ ρ L ∧ f ρ L = some (ds,L') ∧
 ∀ vs H' O',Step H O H' O' → RepS K H' O' L' → IsL K H' O' vs ds → Q vs H'
noncomputable def PEf (X:Cx) (e:Expr) (f:EF):Prop:=PE X e (lift X.K f)
noncomputable def PTf (X:Cx) (e:Expr) (f:TF):Prop:=PT X e (liftT X.K f)
noncomputable def PWf (X:Cx) (e:Expr) (f:TF):Prop:=PW X e (liftT X.K f)
noncomputable def PAf (X:Cx) (es:List Expr) (f:AF):Prop:=PA X es (liftA X.K f)
theorem PE.weaken {X:Cx} {e:Expr} {t t':TE} (h:PE X e t) (i:∀ σ H Q,t' σ H Q → t σ H Q):PE X e t':=fun pins s σ H Q I q => h pins s σ H Q I (i σ H Q q)
theorem PT.weaken {X:Cx} {e:Expr} {t t':TT} (h:PT X e t) (i:∀ σ H Q,t' σ H Q → t σ H Q):PT X e t':=fun pins s σ H Q I q => h pins s σ H Q I (i σ H Q q)
theorem PW.weaken {X:Cx} {e:Expr} {t t':TT} (h:PW X e t) (i:∀ σ H Q,t' σ H Q → t σ H Q):PW X e t':=fun w pins s σ H Q I q => h w pins s σ H Q I (i σ H Q q)
theorem PA.weaken {X:Cx} {e:List Expr} {t t':TA} (h:PA X e t) (i:∀ σ H Q,t' σ H Q → t σ H Q):PA X e t':=fun p pins s σ H Q I q => h p pins s σ H Q I (i σ H Q q)
theorem Rep.to {K:PySem.W.Frag} {H H':Hp} {O O':List Addr} {σ:L2.St} {ρ:Fm} {L L':Sto} (r:Rep K H O σ ρ L) (st:Step H O H' O') (rs:RepS K H' O' L'):Rep K H' O' σ ρ L':=⟨rs,r.f.mono st⟩
noncomputable def cst (d:D):EF:=fun _ L => some (d,L)
noncomputable def var (i:Nat):EF:=fun ρ L => match ρ[i]? with | some (some d) => some (d,L) | _ => none
noncomputable def bin2 (g:G2) (fa fb:EF):EF:=fun ρ L => (fa ρ L).bind fun x => (fb ρ x.2).bind fun y => g x.1 y.1 y.2
noncomputable def un1 (g:G1) (fa:EF):EF:=fun ρ L => (fa ρ L).bind fun x => g x.1 x.2
section
variable {X:Cx} {a b c:Expr} {fa fb fc:EF} {pos:Pos}
theorem ef_const {v:V} {d:D} (h:PE X a (tC v)) (i:∀ H O,Is X.K H O v d):PEf X a (cst d) :=
 PE.weaken h fun σ H Q z3_ => by
  obtain ⟨O,ρ,L,d',L',r,e,k⟩:=z3_
  cases e
  exact k _ _ _ (.refl _ _) r.s (i _ _)
theorem ef_int {i:Int} {j:Nat} {pos:Pos}:PEf X (.Constant (.int i) j pos) (cst (.int i)):=ef_const pe_int fun _ _ => .int _
theorem ef_bl {i:Bool} {j:Nat} {pos:Pos}:PEf X (.Constant (.bool i) j pos) (cst (.bl i)):=ef_const pe_bl fun _ _ => .bl _
theorem ef_non {j:Nat} {pos:Pos}:PEf X (.Constant .none j pos) (cst .non):=ef_const pe_non fun _ _ => .non
theorem ef_str {x:Str} {j:Nat} {pos:Pos} (h:x.length ≤ 16777216:=by decide):PEf X (.Constant (.str x) j pos) (cst (.str x)):=ef_const pe_str fun _ _ => .str _ h
theorem ef_var {i:Nat} (h:PE X a (tVar i)):PEf X a (var i) :=
 PE.weaken h fun σ H Q z3_ => by
  obtain ⟨O,ρ,L,d',L',r,e,k⟩:=z3_
  unfold var at e
  split at e
  ·rename_i d hd
   cases e
   obtain ⟨v,hv,is⟩:=r.f.at' i _ hd
   exact ⟨v,hv,k _ _ _ (.refl _ _) r.s is⟩
  ·cases e
noncomputable def rD (K:PySem.W.Frag) (g:G2):R2:=fun v u H Q => ∃ O L x y d L',RepS K H O L ∧ Is K H O v x ∧ Is K H O u y ∧ g x y L = some (d,L') ∧
 ∀ w H' O',Step H O H' O' → RepS K H' O' L' → Is K H' O' w d → Q w H'
noncomputable def rC (K:PySem.W.Frag) (g:GL):List V → Hp → VK → Prop:=fun vs H Q => ∃ O L xs d L',RepS K H O L ∧ IsL K H O vs xs ∧ g xs L = some (d,L') ∧
 ∀ w H' O',Step H O H' O' → RepS K H' O' L' → Is K H' O' w d → Q w H'
noncomputable def OpD (X:Cx) (f:Value → Value → Sem Value) (g:G2):Prop:=OpR X f (rD X.K g)
noncomputable def CallD (X:Cx) (f:Value) (g:GL):Prop:=CallR X f (rC X.K g)
noncomputable def IxD (X:Cx) (g:G2):Prop:=IxR X (rD X.K g)
theorem OpR.weaken {f:Value → Value → Sem Value} {r r':R2} (h:OpR X f r) (i:∀ x y H Q,r' x y H Q → r x y H Q):OpR X f r' :=
 fun pins s σ H x y v u Q I rx ry q => h pins s σ H x y v u Q I rx ry (i _ _ _ _ q)
theorem IxR.weaken {r r':R2} (h:IxR X r) (i:∀ x y H Q,r' x y H Q → r x y H Q):IxR X r' :=
 fun a b pins s σ H x y v u Q I rx ry q => h a b pins s σ H x y v u Q I rx ry (i _ _ _ _ q)
theorem CallR.weaken {f:Value} {r r':List V → Hp → VK → Prop} (h:CallR X f r) (i:∀ xs H Q,r' xs H Q → r xs H Q):CallR X f r' :=
 fun pins s σ H xs us Q I rx q => h pins s σ H xs us Q I rx (i _ _ _ q)
theorem two_lift {K:PySem.W.Frag} {g:G2} {σ:L2.St} {H:Hp} {Q:VK} (h:lift K (bin2 g fa fb) σ H Q):tOp (rD K g) (lift K fa) (lift K fb) σ H Q:=by
 obtain ⟨O,ρ,L,d,L',r,e,k⟩:=h
 unfold bin2 at e
 cases e1:fa ρ L with
 | none => rw [e1] at e; cases e
 | some p =>
  rw [e1] at e
  simp only [Option.bind_some] at e
  cases e2:fb ρ p.2 with
  | none => rw [e2] at e; cases e
  | some q =>
   rw [e2] at e
   simp only [Option.bind_some] at e
   refine ⟨O,ρ,L,p.1,p.2,r,e1,fun v H1 O1 st1 rs1 is1 => ?_⟩
   refine ⟨O1,ρ,p.2,q.1,q.2,r.to st1 rs1,e2,fun u H2 O2 st2 rs2 is2 => ?_⟩
   exact ⟨O2,q.2,p.1,q.1,d,L',rs2,is1.mono st2,is2,e,fun w H' O' st rs is => k w H' O' ((st1.trans st2).trans st) rs is⟩
theorem ef_op {op:Operator} {g:G2} (ho:OpD X (binaryOp op) g) (ha:PEf X a fa) (hb:PEf X b fb):PEf X (.BinOp a op b pos) (bin2 g fa fb) :=
 PE.weaken (pe_op ho ha hb) fun _ _ _ h => two_lift h
theorem ef_cmp {op:CmpOp} {g:G2} (ho:OpD X (compareOp op) g) (ha:PEf X a fa) (hb:PEf X b fb) (hm:behindInMarks op b = false):PEf X (.Compare a [op] [b] pos) (bin2 g fa fb) :=
 PE.weaken (pe_cmpR ho ha hb hm) fun _ _ _ h => two_lift h
theorem ef_ix {g:G2} (ho:IxD X g) (ha:PEf X a fa) (hb:PEf X b fb) (hs:PlainIx b):PEf X (.Subscript a b pos) (bin2 g fa fb) :=
 PE.weaken (pe_ix ho ha hb hs) fun _ _ _ h => two_lift h
noncomputable def asT (f:EF):TF:=fun ρ L => (f ρ L).bind fun x => match x.1 with | .bl b => some (b,x.2) | _ => none
theorem asT_lift {K:PySem.W.Frag} {f:EF} {σ:L2.St} {H:Hp} {Q:Bool → Hp → Prop} (h:liftT K (asT f) σ H Q):lift K f σ H fun x H' => ∃ k,x = .bl k ∧ Q k H':=by
 obtain ⟨O,ρ,L,b,L',r,e,k⟩:=h
 unfold asT at e
 cases e1:f ρ L with
 | none => rw [e1] at e; cases e
 | some p =>
  rw [e1] at e
  obtain ⟨d,L1⟩:=p
  cases d <;> simp only [Option.bind_some] at e <;> try (cases e; done)
  cases e
  refine ⟨O,ρ,L,_,_,r,e1,fun v H' O' st rs is => ?_⟩
  cases is
  exact ⟨_,rfl,k H' O' st rs⟩
theorem tf_cmp {op:CmpOp} {g:G2} (ho:OpD X (compareOp op) g) (ha:PEf X a fa) (hb:PEf X b fb) (hm:behindInMarks op b = false):PTf X (.Compare a [op] [b] pos) (asT (bin2 g fa fb)) :=
 PT.weaken (pt_cmpR ho ha hb hm) fun σ H Q h => by
  have q:=asT_lift h
  exact two_lift q
theorem tf_val (ha:PEf X a fa) (he:∀ whole,isTrue a X.env whole = (do let v ← whole; standAt a.pos; holding [v] (truthy v)):=by intro _; rfl):PTf X a (asT fa) :=
 PT.weaken (pt_val ha he) fun σ H Q h => asT_lift h
noncomputable def notT (f:TF):TF:=fun ρ L => (f ρ L).bind fun x => some (!x.1,x.2)
noncomputable def andT (f g:TF):TF:=fun ρ L => (f ρ L).bind fun x => if x.1 = true then g ρ x.2 else some (false,x.2)
noncomputable def orT (f g:TF):TF:=fun ρ L => (f ρ L).bind fun x => if x.1 = true then some (true,x.2) else g ρ x.2
theorem tf_not {f:TF} (ha:PTf X a f):PTf X (.UnaryOp .Not a pos) (notT f) :=
 PT.weaken (pt_not ha) fun σ H Q z3_ => by
  obtain ⟨O,ρ,L,b,L',r,e,k⟩:=z3_
  unfold notT at e
  cases e1:f ρ L with
  | none => rw [e1] at e; cases e
  | some p => rw [e1] at e; cases e; exact ⟨O,ρ,L,p.1,p.2,r,e1,fun H' O' st rs => k H' O' st rs⟩
theorem wf_one_and {f:TF} (ha:PTf X a f):PWf X (.BoolOp .And [a] pos) f:=pw_and1 ha
theorem wf_one_or {f:TF} (ha:PTf X a f):PWf X (.BoolOp .Or [a] pos) f:=pw_or1 ha
theorem wf_and {f g:TF} {rest:List Expr} (ha:PTf X a f) (hb:PWf X (.BoolOp .And (b :: rest) pos) g):PWf X (.BoolOp .And (a :: b :: rest) pos) (andT f g) :=
 PW.weaken (pw_and ha hb) fun σ H Q z3_ => by
  obtain ⟨O,ρ,L,c,L',r,e,k⟩:=z3_
  unfold andT at e
  cases e1:f ρ L with
  | none => rw [e1] at e; cases e
  | some p =>
   rw [e1] at e
   obtain ⟨b1,L1⟩:=p
   refine ⟨O,ρ,L,b1,L1,r,e1,fun H1 O1 st rs => ?_⟩
   cases b1 with
   | true =>
    refine iteT ⟨O1,ρ,L1,c,L',r.to st rs,by simpa using e,fun H' O' st' rs' => k H' O' (st.trans st') rs'⟩
   | false =>
    simp at e
    obtain ⟨rfl,rfl⟩:=e
    exact iteF (k H1 O1 st rs)
theorem wf_or {f g:TF} {rest:List Expr} (ha:PTf X a f) (hb:PWf X (.BoolOp .Or (b :: rest) pos) g):PWf X (.BoolOp .Or (a :: b :: rest) pos) (orT f g) :=
 PW.weaken (pw_or ha hb) fun σ H Q z3_ => by
  obtain ⟨O,ρ,L,c,L',r,e,k⟩:=z3_
  unfold orT at e
  cases e1:f ρ L with
  | none => rw [e1] at e; cases e
  | some p =>
   rw [e1] at e
   obtain ⟨b1,L1⟩:=p
   refine ⟨O,ρ,L,b1,L1,r,e1,fun H1 O1 st rs => ?_⟩
   cases b1 with
   | true =>
    simp at e
    obtain ⟨rfl,rfl⟩:=e
    exact iteT (k H1 O1 st rs)
   | false =>
    refine iteF ⟨O1,ρ,L1,c,L',r.to st rs,by simpa using e,fun H' O' st' rs' => k H' O' (st.trans st') rs'⟩
theorem tf_w {f:TF} (h:PWf X a f):PTf X a f:=PW.pt h
noncomputable def andV (f g:EF):EF:=fun ρ L => (f ρ L).bind fun x => match x.1 with | .bl true => g ρ x.2 | .bl false => some (.bl false,x.2) | _ => none
noncomputable def orV (f g:EF):EF:=fun ρ L => (f ρ L).bind fun x => match x.1 with | .bl true => some (.bl true,x.2) | .bl false => g ρ x.2 | _ => none
noncomputable def notV (f:EF):EF:=fun ρ L => (f ρ L).bind fun x => match x.1 with | .bl b => some (.bl (!b),x.2) | _ => none
theorem ef_one {op:BoolOp} {f:EF} (h:PEf X a f):PEf X (.BoolOp op [a] pos) f:=pe_one h
theorem ef_and {f g:EF} {rest:List Expr} (ha:PEf X a f) (hb:PEf X (.BoolOp .And (b :: rest) pos) g):PEf X (.BoolOp .And (a :: b :: rest) pos) (andV f g) :=
 PE.weaken (pe_and ha hb) fun σ H Q z3_ => by
  obtain ⟨O,ρ,L,c,L',r,e,k⟩:=z3_
  unfold andV at e
  cases e1:f ρ L with
  | none => rw [e1] at e; cases e
  | some p =>
   rw [e1] at e
   obtain ⟨d,L1⟩:=p
   refine ⟨O,ρ,L,d,L1,r,e1,fun v H1 O1 st rs is => ?_⟩
   cases d <;> simp only [Option.bind_some] at e <;> try (cases e; done)
   rename_i b1
   cases is
   refine ⟨b1,rfl,?_⟩
   cases b1 with
   | true => exact iteT ⟨O1,ρ,L1,c,L',r.to st rs,by simpa using e,fun v H' O' st' rs' is' => k v H' O' (st.trans st') rs' is'⟩
   | false =>
    simp at e
    obtain ⟨rfl,rfl⟩:=e
    exact iteF (k _ H1 O1 st rs (.bl _))
theorem ef_or {f g:EF} {rest:List Expr} (ha:PEf X a f) (hb:PEf X (.BoolOp .Or (b :: rest) pos) g):PEf X (.BoolOp .Or (a :: b :: rest) pos) (orV f g) :=
 PE.weaken (pe_or ha hb) fun σ H Q z3_ => by
  obtain ⟨O,ρ,L,c,L',r,e,k⟩:=z3_
  unfold orV at e
  cases e1:f ρ L with
  | none => rw [e1] at e; cases e
  | some p =>
   rw [e1] at e
   obtain ⟨d,L1⟩:=p
   refine ⟨O,ρ,L,d,L1,r,e1,fun v H1 O1 st rs is => ?_⟩
   cases d <;> simp only [Option.bind_some] at e <;> try (cases e; done)
   rename_i b1
   cases is
   refine ⟨b1,rfl,?_⟩
   cases b1 with
   | false => exact iteF ⟨O1,ρ,L1,c,L',r.to st rs,by simpa using e,fun v H' O' st' rs' is' => k v H' O' (st.trans st') rs' is'⟩
   | true =>
    simp at e
    obtain ⟨rfl,rfl⟩:=e
    exact iteT (k _ H1 O1 st rs (.bl _))
theorem ef_not {f:EF} (ha:PEf X a f):PEf X (.UnaryOp .Not a pos) (notV f) :=
 PE.weaken (pe_not ha) fun σ H Q z3_ => by
  obtain ⟨O,ρ,L,c,L',r,e,k⟩:=z3_
  unfold notV at e
  cases e1:f ρ L with
  | none => rw [e1] at e; cases e
  | some p =>
   rw [e1] at e
   obtain ⟨d,L1⟩:=p
   refine ⟨O,ρ,L,d,L1,r,e1,fun v H1 O1 st rs is => ?_⟩
   cases d <;> simp only [Option.bind_some] at e <;> try (cases e; done)
   cases e
   cases is
   exact ⟨_,rfl,k _ H1 O1 st rs (.bl _)⟩
noncomputable def ifV (t:TF) (f g:EF):EF:=fun ρ L => (t ρ L).bind fun x => if x.1 = true then f ρ x.2 else g ρ x.2
theorem ef_if {t:TF} {f g:EF} (hc:PTf X c t) (ha:PEf X a f) (hb:PEf X b g):PEf X (.IfExp c a b pos) (ifV t f g) :=
 PE.weaken (pe_ifExp hc ha hb) fun σ H Q z3_ => by
  obtain ⟨O,ρ,L,d,L',r,e,k⟩:=z3_
  unfold ifV at e
  cases e1:t ρ L with
  | none => rw [e1] at e; cases e
  | some p =>
   rw [e1] at e
   obtain ⟨b1,L1⟩:=p
   refine ⟨O,ρ,L,b1,L1,r,e1,fun H1 O1 st rs => ?_⟩
   cases b1 with
   | true => exact iteT ⟨O1,ρ,L1,d,L',r.to st rs,by simpa using e,fun v H' O' st' rs' is' => k v H' O' (st.trans st') rs' is'⟩
   | false => exact iteF ⟨O1,ρ,L1,d,L',r.to st rs,by simpa using e,fun v H' O' st' rs' is' => k v H' O' (st.trans st') rs' is'⟩
noncomputable def notStar:Expr → Bool
 | .Starred _ _ => false
 | _ => true
theorem starEach_cons {e:Expr} {es:List Expr} {env:Env} (h:notStar e = true):starEach (e :: es) env = (false,eval e env) :: starEach es env:=by
 cases e <;> first | rfl | (cases h)
theorem plain_of:∀ {es:List Expr} {env:Env} {pos:Pos},es.all notStar = true → (backTo pos (starEach es env)).any (·.1) = false
 | [],_,_,_ => rfl
 | e :: es,env,pos,h => by
  rw [List.all_cons,Bool.and_eq_true] at h
  rw [starEach_cons h.1]
  have:=plain_of (env:=env) (pos:=pos) h.2
  unfold backTo at this ⊢
  rw [List.map_cons,List.any_cons,this]
  rfl
theorem plain_all:∀ {es:List Expr} {env:Env} {pos:Pos},es.all notStar = true → (backTo pos (starEach es env)).all (fun x => !x.1) = true
 | [],_,_,_ => rfl
 | e :: es,env,pos,h => by
  rw [List.all_cons,Bool.and_eq_true] at h
  rw [starEach_cons h.1]
  have:=plain_all (env:=env) (pos:=pos) h.2
  unfold backTo at this ⊢
  rw [List.map_cons,List.all_cons,this]
  rfl
noncomputable def nilA:AF:=fun _ L => some ([],L)
noncomputable def consA (f:EF) (g:AF):AF:=fun ρ L => (f ρ L).bind fun x => (g ρ x.2).bind fun y => some (x.1 :: y.1,y.2)
theorem af_nil:PAf X [] nilA:=PA.weaken pa_nil fun σ H Q ⟨O,ρ,L,d,L',r,e,k⟩ => by cases e; exact k _ _ _ (.refl _ _) r.s .nil
theorem af_cons {e:Expr} {es:List Expr} {f:EF} {g:AF} (ha:PEf X e f) (hr:PAf X es g) (hs:notStar e = true:=by rfl):PAf X (e :: es) (consA f g) :=
 PA.weaken (pa_cons ha hr (starEach_cons hs)) fun σ H Q z3_ => by
  obtain ⟨O,ρ,L,d,L',r,e,k⟩:=z3_
  unfold consA at e
  cases e1:f ρ L with
  | none => rw [e1] at e; cases e
  | some p =>
   rw [e1] at e
   simp only [Option.bind_some] at e
   cases e2:g ρ p.2 with
   | none => rw [e2] at e; cases e
   | some q =>
    rw [e2] at e
    cases e
    refine ⟨O,ρ,L,p.1,p.2,r,e1,fun v H1 O1 st1 rs1 is1 => ?_⟩
    refine ⟨O1,ρ,p.2,q.1,q.2,r.to st1 rs1,e2,fun u H2 O2 st2 rs2 is2 => ?_⟩
    exact k _ _ _ (st1.trans st2) rs2 (.cons (is1.mono st2) is2)
noncomputable def tupV (f:AF):EF:=fun ρ L => (f ρ L).bind fun x => if x.1.length ≤ 16777216 then some (.tup x.1,x.2) else none
noncomputable def lstV (f:AF):EF:=fun ρ L => (f ρ L).bind fun x => if x.1.length ≤ 16777216 then some (.ref x.2.length,x.2 ++ [.lst x.1]) else none
theorem ef_tup {es:List Expr} {f:AF} {x1:Nat} (h:PAf X es f):PEf X (.Tuple es x1 pos) (tupV f) :=
 PE.weaken (pe_tup h) fun σ H Q z3_ => by
  obtain ⟨O,ρ,L,d,L',r,e,k⟩:=z3_
  unfold tupV at e
  cases e1:f ρ L with
  | none => rw [e1] at e; cases e
  | some p =>
   rw [e1] at e
   simp only [Option.bind_some] at e
   split at e
   ·rename_i hz
    cases e
    refine ⟨O,ρ,L,p.1,p.2,r,e1,fun vs H1 O1 st rs is => ⟨by rw [is.length,sizeLine_eq]; exact hz,fun q hq => ?_⟩⟩
    have st2:Step H1 O1 (upd H1 q (.tup vs)) O1:=⟨.new hq,List.prefix_refl _⟩
    exact k _ _ _ (st.trans st2) (rs.ext fun a u e => by rw [upd_ne (ne_of_none e hq)]; exact e) (.tup (SqT.of upd_same) (is.mono st2))
   ·cases e
theorem ef_lst {es:List Expr} {f:AF} (h:PAf X es f):PEf X (.List es pos) (lstV f) :=
 PE.weaken (pe_lst h) fun σ H Q z3_ => by
  obtain ⟨O,ρ,L,d,L',r,e,k⟩:=z3_
  unfold lstV at e
  cases e1:f ρ L with
  | none => rw [e1] at e; cases e
  | some p =>
   rw [e1] at e
   simp only [Option.bind_some] at e
   split at e
   ·rename_i hz
    cases e
    refine ⟨O,ρ,L,p.1,p.2,r,e1,fun vs H1 O1 st rs is => ⟨by rw [is.length,sizeLine_eq]; exact hz,fun q hq => ?_⟩⟩
    have st2:Step H1 O1 (upd H1 q (.lst vs)) (O1 ++ [q]):=⟨.new hq,List.prefix_append _ _⟩
    refine k _ _ _ (st.trans st2) (rs.new hq ⟨vs,upd_same,is.mono st2⟩) (.ref ?_)
    rw [← rs.len]; simp
   ·cases e
noncomputable def callB (g:GL) (f:AF):EF:=fun ρ L => (f ρ L).bind fun x => g x.1 x.2
theorem call_lift {K:PySem.W.Frag} {g:GL} {f:AF} {σ:L2.St} {H:Hp} {Q:VK} (h:lift K (callB g f) σ H Q):liftA K f σ H fun vs H1 => rC K g vs H1 Q:=by
 obtain ⟨O,ρ,L,d,L',r,e,k⟩:=h
 unfold callB at e
 cases e1:f ρ L with
 | none => rw [e1] at e; cases e
 | some p =>
  rw [e1] at e
  exact ⟨O,ρ,L,p.1,p.2,r,e1,fun vs H1 O1 st rs is => ⟨O1,p.2,p.1,d,L',rs,is,e,fun w H' O' st' rs' is' => k w H' O' (st.trans st') rs' is'⟩⟩
theorem ef_callB {x:Str} {p:Pos} {e:Expr} {es:List Expr} {id:String} {g:GL} {f:AF} (hc:CallD X (.builtin id) g) (hm:X.mg x = none) (hv:bootBuiltins x = some (.builtin id)) (ha:PAf X (e :: es) f) (hg:Gl X x:=by rfl) (hn:x ≠ "__name__":=by decide) (hdb:(x == ("__debug__":Str)) = false:=by decide)
  (he:notStar e = true:=by rfl) (hpl:es.all notStar = true:=by rfl):PEf X (.Call (.Name x p) (e :: es) [] pos) (callB g f) :=
 PE.weaken (pe_callB hc hg hm hv ha hn hdb (starEach_cons he) (plain_of hpl)) fun σ H Q h => call_lift h
theorem ef_callTy {x:Str} {p:Pos} {e:Expr} {es:List Expr} {T:String} {g:GL} {f:AF} (hc:CallD X (.type T) g) (hm:X.mg x = none) (hv:bootBuiltins x = some (.type T)) (ha:PAf X (e :: es) f) (hg:Gl X x:=by rfl) (hn:x ≠ "__name__":=by decide) (hdb:(x == ("__debug__":Str)) = false:=by decide)
  (he:notStar e = true:=by rfl) (hpl:es.all notStar = true:=by rfl):PEf X (.Call (.Name x p) (e :: es) [] pos) (callB g f) :=
 PE.weaken (pe_callTy hc hg hm hv ha hn hdb (starEach_cons he) (plain_of hpl)) fun σ H Q h => call_lift h
end
end L3
set_option maxHeartbeats 4000000
namespace L3
open PySem PySem.Spec PyProof.Rows L2
inductive Out where
 | next (ρ:Fm) (L:Sto) | ret (d:D) (L:Sto) | brk (ρ:Fm) (L:Sto) | cont (ρ:Fm) (L:Sto)
noncomputable abbrev SF:=Fm → Sto → Option Out
noncomputable def PostS (K:PySem.W.Frag) (H:Hp) (O:List Addr) (E:Ends):Out → Prop
 | .next ρ L => ∀ σ' H' O',Step H O H' O' → Rep K H' O' σ' ρ L → E.nx σ' H'
 | .ret d L => ∀ v H' O',Step H O H' O' → RepS K H' O' L → Is K H' O' v d → E.rt v H'
 | .brk ρ L => ∀ σ' H' O',Step H O H' O' → Rep K H' O' σ' ρ L → E.bk σ' H'
 | .cont ρ L => ∀ σ' H' O',Step H O H' O' → Rep K H' O' σ' ρ L → E.ct σ' H'
theorem PostS.mono {K:PySem.W.Frag} {H H1:Hp} {O O1:List Addr} {E:Ends} {out:Out} (st:Step H O H1 O1) (h:PostS K H O E out):PostS K H1 O1 E out:=by
 cases out with
 | next ρ L => exact fun σ' H' O' st' r => h σ' H' O' (st.trans st') r
 | ret d L => exact fun v H' O' st' r i => h v H' O' (st.trans st') r i
 | brk ρ L => exact fun σ' H' O' st' r => h σ' H' O' (st.trans st') r
 | cont ρ L => exact fun σ' H' O' st' r => h σ' H' O' (st.trans st') r
noncomputable def liftS (K:PySem.W.Frag) (f:SF):TS:=fun E σ H => ∃ O ρ L out,Rep K H O σ ρ L ∧ f ρ L = some out ∧ PostS K H O E out
noncomputable def PSf (X:Cx) (st:Stmt) (f:SF):Prop:=PS X st (liftS X.K f)
noncomputable def PSsf (X:Cx) (st:List Stmt) (f:SF):Prop:=PSs X st (liftS X.K f)
theorem PS.weaken {X:Cx} {e:Stmt} {t t':TS} (h:PS X e t) (i:∀ D σ H,t' D σ H → t D σ H):PS X e t':=fun pins s σ H D I q => h pins s σ H D I (i D σ H q)
theorem PSs.weaken {X:Cx} {e:List Stmt} {t t':TS} (h:PSs X e t) (i:∀ D σ H,t' D σ H → t D σ H):PSs X e t':=fun pins s σ H D I q => h pins s σ H D I (i D σ H q)
noncomputable def nextF:SF:=fun ρ L => some (.next ρ L)
noncomputable def seqF (f g:SF):SF:=fun ρ L => (f ρ L).bind fun out => match out with | .next ρ' L' => g ρ' L' | o => some o
noncomputable def retF (f:EF):SF:=fun ρ L => (f ρ L).bind fun x => some (.ret x.1 x.2)
noncomputable def exprF (f:EF):SF:=fun ρ L => (f ρ L).bind fun x => some (.next ρ x.2)
noncomputable def setF (i:Nat) (f:EF):SF:=fun ρ L => (f ρ L).bind fun x => some (.next (ρ.set i (some x.1)) x.2)
noncomputable def ifF (t:TF) (f g:SF):SF:=fun ρ L => (t ρ L).bind fun x => if x.1 = true then f ρ x.2 else g ρ x.2
section
variable {X:Cx} {st:Stmt} {rest:List Stmt} {f g:SF} {fe:EF} {e:Expr} {pos:Pos}
theorem ssf_nil:PSsf X [] nextF:=PSs.weaken pss_nil fun D σ H ⟨O,ρ,L,out,r,e,k⟩ => by cases e; exact k σ H O (.refl _ _) r
theorem ssf_cons (h1:PSf X st f) (h2:PSsf X rest g):PSsf X (st :: rest) (seqF f g) :=
 PSs.weaken (pss_cons h1 h2) fun D σ H z3_ => by
  obtain ⟨O,ρ,L,out,r,e,k⟩:=z3_
  unfold seqF at e
  cases e1:f ρ L with
  | none => rw [e1] at e; cases e
  | some o1 =>
   rw [e1] at e
   simp only [Option.bind_some] at e
   refine ⟨O,ρ,L,o1,r,e1,?_⟩
   cases o1 with
   | next ρ1 L1 => exact fun σ' H' O' st' r' => ⟨O',ρ1,L1,out,r',e,k.mono st'⟩
   | ret d L1 => cases e; exact k
   | brk ρ1 L1 => cases e; exact k
   | cont ρ1 L1 => cases e; exact k
theorem ssf_one (h1:PSf X st f):PSsf X [st] f:=PSs.weaken (pss_one h1) fun D σ H h => h
theorem sf_expr (he:PEf X e fe) (hs:swapsWith e none pos.line X.env = pure false:=by rfl):PSf X (.Expr e pos) (exprF fe) :=
 PS.weaken (ps_expr he hs) fun D σ H z3_ => by
  obtain ⟨O,ρ,L,out,r,e,k⟩:=z3_
  unfold exprF at e
  cases e1:fe ρ L with
  | none => rw [e1] at e; cases e
  | some p => rw [e1] at e; cases e; exact ⟨O,ρ,L,p.1,p.2,r,e1,fun v H' O' st rs is => k σ H' O' st (r.to st rs)⟩
theorem sf_ret (he:PEf X e fe):PSf X (.Return (some e) pos) (retF fe) :=
 PS.weaken (ps_ret he) fun D σ H z3_ => by
  obtain ⟨O,ρ,L,out,r,e,k⟩:=z3_
  unfold retF at e
  cases e1:fe ρ L with
  | none => rw [e1] at e; cases e
  | some p => rw [e1] at e; cases e; exact ⟨O,ρ,L,p.1,p.2,r,e1,fun v H' O' st rs is => k v H' O' st rs is⟩
theorem sf_set {i:Nat} {x:Str} {pos':Pos} (hN:X.N.Nodup) (he:PEf X e fe) (hi:X.N[i]? = some x:=by rfl) (hx:Loc X.env.scope x:=by first | exact Or.inl rfl | exact Or.inr rfl) (hs:swapsWith e (some (.Name x pos')) pos.line X.env = pure false:=by rfl)
  (hf:X.fn x = true ∨ X.env.scope.names.lookup x = some .local:=by first | exact .inl rfl | exact .inr rfl):PSf X (.Assign [.Name x pos'] e pos) (setF i fe) :=
 PS.weaken (ps_set hN hi hx he hs hf) fun D σ H z3_ => by
  obtain ⟨O,ρ,L,out,r,e,k⟩:=z3_
  unfold setF at e
  cases e1:fe ρ L with
  | none => rw [e1] at e; cases e
  | some p => rw [e1] at e; cases e; exact ⟨O,ρ,L,p.1,p.2,r,e1,fun v H' O' st rs is => k _ H' O' st ⟨rs,(r.f.mono st).set is i⟩⟩
theorem sf_if {c:Expr} {a b:List Stmt} {t:TF} (hc:PTf X c t) (ha:PSsf X a f) (hb:PSsf X b g):PSf X (.If c a b pos) (ifF t f g) :=
 PS.weaken (ps_if hc ha hb) fun D σ H z3_ => by
  obtain ⟨O,ρ,L,out,r,e,k⟩:=z3_
  unfold ifF at e
  cases e1:t ρ L with
  | none => rw [e1] at e; cases e
  | some p =>
   rw [e1] at e
   obtain ⟨b1,L1⟩:=p
   refine ⟨O,ρ,L,b1,L1,r,e1,fun H1 O1 st rs => ?_⟩
   cases b1 with
   | true => exact iteT ⟨O1,ρ,L1,out,r.to st rs,by simpa using e,k.mono st⟩
   | false => exact iteF ⟨O1,ρ,L1,out,r.to st rs,by simpa using e,k.mono st⟩
end
noncomputable abbrev GF:=D → Fm → Option Fm
noncomputable abbrev GsF:=List D → Fm → Option Fm
noncomputable def liftG (K:PySem.W.Frag) (g:GF):TG:=fun v σ H Q => ∃ O ρ L d ρ',Rep K H O σ ρ L ∧ Is K H O v d ∧ g d ρ = some ρ' ∧ ∀ σ',Rep K H O σ' ρ' L → Q σ' H
noncomputable def liftGs (K:PySem.W.Frag) (g:GsF):TGs:=fun v σ H Q => ∃ O ρ L d ρ',Rep K H O σ ρ L ∧ IsL K H O v d ∧ g d ρ = some ρ' ∧ ∀ σ',Rep K H O σ' ρ' L → Q σ' H
noncomputable def PGf (X:Cx) (tg:Expr) (g:GF):Prop:=PG X tg (liftG X.K g)
noncomputable def PGsf (X:Cx) (tg:List Expr) (g:GsF):Prop:=PGs X tg (liftGs X.K g)
theorem PG.weaken {X:Cx} {e:Expr} {t t':TG} (h:PG X e t) (i:∀ v σ H Q,t' v σ H Q → t v σ H Q):PG X e t':=fun pins s σ H v u Q I r q => h pins s σ H v u Q I r (i _ _ _ _ q)
theorem PGs.weaken {X:Cx} {e:List Expr} {t t':TGs} (h:PGs X e t) (i:∀ v σ H Q,t' v σ H Q → t v σ H Q):PGs X e t':=fun pins s σ H v u Q I r q => h pins s σ H v u Q I r (i _ _ _ _ q)
noncomputable def gNameF (i:Nat):GF:=fun d ρ => some (ρ.set i (some d))
noncomputable def gNilF:GsF:=fun ds ρ => match ds with | [] => some ρ | _ => none
noncomputable def gConsF (g:GF) (h:GsF):GsF:=fun ds ρ => match ds with | d :: r => (g d ρ).bind fun ρ' => h r ρ' | [] => none
noncomputable def gTupF (n:Nat) (h:GsF):GF:=fun d ρ => match d with | .tup ds => if ds.length = n then h ds ρ else none | _ => none
section
variable {X:Cx} {pos:Pos}
theorem gf_name {i:Nat} {x:Str} (hN:X.N.Nodup) (hi:X.N[i]? = some x:=by rfl) (hx:Loc X.env.scope x:=by first | exact Or.inl rfl | exact Or.inr rfl) (hf:X.fn x = true ∨ X.env.scope.names.lookup x = some .local:=by first | exact .inl rfl | exact .inr rfl):PGf X (.Name x pos) (gNameF i) :=
 PG.weaken (pg_name hN hi hx hf) fun v σ H Q z4_ => by
  obtain ⟨O,ρ,L,d,ρ',r,is,e,k⟩:=z4_
  cases e
  exact k _ ⟨r.s,r.f.set is i⟩
theorem gsf_nil:PGsf X [] gNilF:=PGs.weaken pgs_nil fun v σ H Q z4_ => by
 obtain ⟨O,ρ,L,d,ρ',r,is,e,k⟩:=z4_
 cases is with
 | nil => cases e; exact ⟨rfl,k _ r⟩
 | cons a b => cases e
end
end L3
set_option maxHeartbeats 4000000
namespace L3
open PySem PySem.Spec PyProof.Rows L2
section
variable {X:Cx} {pos:Pos}
theorem gsf_cons {e:Expr} {es:List Expr} {g:GF} {h:GsF} (h1:PGf X e g) (h2:PGsf X es h)
  (hs:(assignEach (e :: es) X.env).map (·.2) = assign e X.env :: (assignEach es X.env).map (·.2):=by rfl):PGsf X (e :: es) (gConsF g h) :=
 PGs.weaken (pgs_cons h1 h2 hs) fun v σ H Q z4_ => by
  obtain ⟨O,ρ,L,ds,ρ',r,is,e,k⟩:=z4_
  cases is with
  | nil => cases e
  | @cons v d vs ds a b =>
   simp only [gConsF] at e
   cases e1:g d ρ with
   | none => rw [e1] at e; cases e
   | some ρ1 =>
    rw [e1] at e
    exact ⟨v,vs,rfl,O,ρ,L,d,ρ1,r,a,e1,fun σ' r' => ⟨O,ρ1,L,ds,ρ',r',b,e,k⟩⟩
theorem gf_tup {es:List Expr} {k:Nat} {h:GsF} {n:Nat} (hc:X.calm = true) (h1:PGsf X es h)
  (hn:(assignEach es X.env).length = n:=by rfl) (hst:(assignEach es X.env).findIdx? (·.1) = none:=by rfl):PGf X (.Tuple es k pos) (gTupF n h) :=
 PG.weaken (pg_tup hc h1 hn hst) fun v σ H Q z4_ => by
  obtain ⟨O,ρ,L,d,ρ',r,is,e,k⟩:=z4_
  cases is with
  | @tup a vs ds hq il =>
   simp only [gTupF] at e
   split at e
   ·rename_i hl
    exact ⟨a,vs,rfl,hq,by rw [il.length]; exact hl,O,ρ,L,ds,ρ',r,il,e,k⟩
   ·cases e
  | _ => cases e
end
structure ItD where
 items:List D
 ok:Sto → Bool
noncomputable abbrev IF:=Fm → Sto → Option (ItD × Sto)
noncomputable def ItIs (K:PySem.W.Frag) (H0:Hp) (O0:List Addr) (Jt:It) (J:ItD):Prop:=∀ (i:Nat) (H:Hp) (O:List Addr) (L:Sto),Step H0 O0 H O → RepS K H O L → J.ok L = true →
 (∀ d,J.items[i]? = some d → Jt.go i H ∧ ∀ x H',Jt.yld i H x H' → Step H O H' O ∧ RepS K H' O L ∧ Is K H' O x d) ∧ (J.items.length ≤ i → Jt.stop i H)
theorem ItIs.mono {K:PySem.W.Frag} {H0 H1:Hp} {O0 O1:List Addr} {Jt:It} {J:ItD} (st:Step H0 O0 H1 O1) (h:ItIs K H0 O0 Jt J):ItIs K H1 O1 Jt J:=fun i H O L s r o => h i H O L (st.trans s) r o
noncomputable def liftI (K:PySem.W.Frag) (f:IF):TI:=fun σ H R => ∃ O ρ L J L',Rep K H O σ ρ L ∧ f ρ L = some (J,L') ∧ ∀ Jt H' O',Step H O H' O' → RepS K H' O' L' → ItIs K H' O' Jt J → R Jt H'
noncomputable def PIf (X:Cx) (tg iter:Expr) (f:IF):Prop:=PI X tg iter (liftI X.K f)
theorem PI.weaken {X:Cx} {tg e:Expr} {t t':TI} (h:PI X tg e t) (i:∀ σ H R,t' σ H R → t σ H R):PI X tg e t':=fun pins s σ H R I q => h pins s σ H R I (i _ _ _ q)
noncomputable def loopL (ok:Sto → Bool) (g:GF) (body:SF):List D → Fm → Sto → Option Out
 | [],ρ,L => if ok L = true then some (.next ρ L) else none
 | x :: xs,ρ,L => if ok L = true then (g x ρ).bind fun ρ1 => (body ρ1 L).bind fun out => match out with
   | .next ρ2 L2 => loopL ok g body xs ρ2 L2
   | .cont ρ2 L2 => loopL ok g body xs ρ2 L2
   | .brk ρ2 L2 => some (.next ρ2 L2)
   | .ret d L2 => some (.ret d L2)
  else none
noncomputable def forF (fi:IF) (g:GF) (body:SF):SF:=fun ρ L => (fi ρ L).bind fun x => loopL x.1.ok g body x.1.items ρ x.2
theorem sf_for {X:Cx} {tg iter:Expr} {body:List Stmt} {fi:IF} {g:GF} {fb:SF} {pos:Pos} (hp:PassesOwn (model X.prog X.w) X.A X.env X.xe) (hc:X.calm = true) (hi:PIf X tg iter fi) (hg:PGf X tg g) (hb:PSsf X body fb)
  (hs:∀ x,foldedSetIterable iter X.env x = pure x:=by intro _; rfl):PSf X (.For tg iter body [] pos) (forF fi g fb) :=
 PS.weaken (ps_for hp hc hi hg hb hs) fun D σ H z3_ => by
  obtain ⟨O,ρ,L,out,r,e,k⟩:=z3_
  unfold forF at e
  cases e1:fi ρ L with
  | none => rw [e1] at e; cases e
  | some p =>
   rw [e1] at e
   obtain ⟨⟨items,ok⟩,L1⟩:=p
   simp only [Option.bind_some] at e
   refine ⟨O,ρ,L,_,_,r,e1,fun Jt H1 O1 st1 rs1 it => ?_⟩
   refine ⟨fun i m σ H => m = items.length - i ∧ i ≤ items.length ∧ ∃ O ρ L,Step H1 O1 H O ∧ Rep X.K H O σ ρ L ∧ loopL ok g fb (items.drop i) ρ L = some out ∧ PostS X.K H O D out,
    ⟨items.length,rfl,Nat.zero_le _,O1,ρ,L1,.refl _ _,r.to st1 rs1,e,k.mono st1⟩,?_⟩
   rintro i m σ' H' ⟨rfl,hi',O',ρ',L',st',r',el,k'⟩
   by_cases hlt:i < items.length
   ·have ed:items.drop i = items[i] :: items.drop (i + 1):=List.drop_eq_getElem_cons hlt
    rw [ed] at el
    simp only [loopL] at el
    split at el
    ·rename_i hok
     obtain ⟨h1,_⟩:=it i H' O' L' st' r'.s hok
     obtain ⟨go,yl⟩:=h1 items[i] (by simp [hlt])
     refine .inr ⟨go,fun σ2 H2 => ∃ m',m' < items.length - i ∧ m' = items.length - (i + 1) ∧ i + 1 ≤ items.length ∧ ∃ O ρ L,Step H1 O1 H2 O ∧ Rep X.K H2 O σ2 ρ L ∧ loopL ok g fb (items.drop (i + 1)) ρ L = some out ∧ PostS X.K H2 O D out,
      fun σ2 H2 h => h,fun x H2 y => ?_⟩
     obtain ⟨st2,rs2,is2⟩:=yl x H2 y
     cases eg:g items[i] ρ' with
     | none => rw [eg] at el; cases el
     | some ρ1 =>
      rw [eg] at el
      simp only [Option.bind_some] at el
      refine ⟨O',ρ',L',_,ρ1,r'.to st2 rs2,is2,eg,fun σ3 r3 => ?_⟩
      cases eb:fb ρ1 L' with
      | none => rw [eb] at el; cases el
      | some o1 =>
       rw [eb] at el
       simp only [Option.bind_some] at el
       refine ⟨O',ρ1,L',o1,r3,eb,?_⟩
       cases o1 with
       | next ρ2 L2 => exact fun σ4 H4 O4 st4 r4 => ⟨items.length - (i + 1),by omega,rfl,hlt,O4,ρ2,L2,(st'.trans st2).trans st4,r4,el,(k'.mono st2).mono st4⟩
       | cont ρ2 L2 => exact fun σ4 H4 O4 st4 r4 => ⟨items.length - (i + 1),by omega,rfl,hlt,O4,ρ2,L2,(st'.trans st2).trans st4,r4,el,(k'.mono st2).mono st4⟩
       | brk ρ2 L2 => cases el; exact fun σ4 H4 O4 st4 r4 => k' σ4 H4 O4 (st2.trans st4) r4
       | ret d L2 => cases el; exact fun v H4 O4 st4 r4 i4 => k' v H4 O4 (st2.trans st4) r4 i4
    ·cases el
   ·have hi2:i = items.length:=by omega
    subst hi2
    rw [List.drop_length] at el
    simp only [loopL] at el
    split at el
    ·rename_i hok
     cases el
     obtain ⟨_,h2⟩:=it _ H' O' L' st' r'.s hok
     exact .inl ⟨h2 (Nat.le_refl _),k' σ' H' O' (.refl _ _) r'⟩
    ·cases el
noncomputable def iTupF (f:EF):IF:=fun ρ L => (f ρ L).bind fun x => match x.1 with | .tup xs => some (⟨xs,fun _ => true⟩,x.2) | _ => none
noncomputable def iLstF (f:EF):IF:=fun ρ L => (f ρ L).bind fun x => match x.1 with
 | .fz xs => some (⟨xs,fun _ => true⟩,x.2)
 | .ref k => match x.2[k]? with | some (.lst xs) => some (⟨xs,fun L' => decide (L'[k]? = some (.lst xs))⟩,x.2) | _ => none
 | _ => none
noncomputable def rngD (lo:Int) (n:Nat):List D:=(List.range n).map fun (i:Nat) => .int (lo + ((i:Nat):Int))
noncomputable def iRng1F (f:AF):IF:=fun ρ L => (f ρ L).bind fun x => match x.1 with
 | [.int j] => if j ≤ 4611686018427387903 ∧ -4611686018427387904 ≤ j then some (⟨rngD 0 j.toNat,fun _ => true⟩,x.2) else none
 | _ => none
noncomputable def iRng2F (f:AF):IF:=fun ρ L => (f ρ L).bind fun x => match x.1 with
 | [.int i,.int j] => if (i ≤ 4611686018427387903 ∧ -4611686018427387904 ≤ i) ∧ (j ≤ 4611686018427387903 ∧ -4611686018427387904 ≤ j) then some (⟨rngD i (j - i).toNat,fun _ => true⟩,x.2) else none
 | _ => none
section
variable {X:Cx} {tg l:Expr} {f:EF}
theorem rngD_get (lo:Int) (n i:Nat):(rngD lo n)[i]? = if i < n then some (.int (lo + (i:Int))) else none:=by
 unfold rngD
 rw [List.getElem?_map]
 by_cases h:i < n
 ·rw [if_pos h]; simp [List.getElem?_range h]
 ·rw [if_neg h]; simp; omega
theorem rngD_len (lo:Int) (n:Nat):(rngD lo n).length = n:=by simp [rngD]
theorem itis_rng {K:PySem.W.Frag} {H0:Hp} {O0:List Addr} {lo:Int} {n:Nat}:ItIs K H0 O0 (Itr lo n) ⟨rngD lo n,fun _ => true⟩:=by
 intro i H O L st rs _
 refine ⟨fun d hd => ?_,fun h => by rw [rngD_len] at h; exact h⟩
 simp only at hd
 rw [rngD_get] at hd
 split at hd
 ·rename_i hlt
  cases hd
  refine ⟨hlt,fun x H' y => ?_⟩
  obtain ⟨e,y⟩:=y
  subst e y
  exact ⟨.refl _ _,rs,.int _⟩
 ·cases hd
theorem pif_tup (hl:PEf X l f):PIf X tg l (iTupF f):=PI.weaken (pi_tup hl) fun σ H R z3_ => by
 obtain ⟨O,ρ,L,J,L',r,e,k⟩:=z3_
 unfold iTupF at e
 cases e1:f ρ L with
 | none => rw [e1] at e; cases e
 | some p =>
  rw [e1] at e
  obtain ⟨d,L1⟩:=p
  cases d <;> simp only [Option.bind_some] at e <;> try (cases e; done)
  cases e
  refine ⟨O,ρ,L,_,_,r,e1,fun v H1 O1 st rs is => ?_⟩
  cases is with
  | @tup a vs ds hq il =>
   refine ⟨a,rfl,⟨vs,hq⟩,k _ _ _ st rs fun i H2 O2 L2 st2 rs2 _ => ?_⟩
   have hq2:=SqT.grow st2.1 hq
   have il2:=il.mono st2
   refine ⟨fun d hd => ?_,fun h => ⟨vs,hq2,by rw [il.length]; exact h⟩⟩
   obtain ⟨v,hv,iv⟩:=il2.get hd
   refine ⟨⟨vs,v,hq2,hv⟩,fun x H' y => ?_⟩
   obtain ⟨e,y⟩:=y
   subst e
   have:=y vs hq2
   rw [hv] at this; cases this
   exact ⟨.refl _ _,rs2,iv⟩
theorem pif_lst (hl:PEf X l f):PIf X tg l (iLstF f):=PI.weaken (pi_list hl) fun σ H R z3_ => by
 obtain ⟨O,ρ,L,J,L',r,e,k⟩:=z3_
 unfold iLstF at e
 cases e1:f ρ L with
 | none => rw [e1] at e; cases e
 | some p =>
  rw [e1] at e
  obtain ⟨d,L1⟩:=p
  cases d <;> simp only [Option.bind_some] at e <;> try (cases e; done)
  ·cases e
   refine ⟨O,ρ,L,_,_,r,e1,fun v H1 O1 st rs is => ?_⟩
   cases is with
   | @fz a vs ds hq il =>
    refine ⟨a,rfl,⟨vs,hq.sql⟩,k _ _ _ st rs fun i H2 O2 L2 st2 rs2 _ => ?_⟩
    have hq2:=(SqF.grow st2.1 hq).sql
    have il2:=il.mono st2
    refine ⟨fun d hd => ?_,fun h => ⟨vs,hq2,by rw [il.length]; exact h⟩⟩
    obtain ⟨v,hv,iv⟩:=il2.get hd
    refine ⟨⟨vs,v,hq2,hv⟩,fun x H' y => ?_⟩
    obtain ⟨e,y⟩:=y
    subst e
    have:=y vs hq2
    rw [hv] at this; cases this
    exact ⟨.refl _ _,rs2,iv⟩
  ·rename_i kk
   cases e2:L1[kk]? with
   | none => rw [e2] at e; cases e
   | some o =>
    rw [e2] at e
    cases o with
    | dk _ => cases e
    | ins _ _ => cases e
    | exn _ => cases e
    | lst xs =>
     cases e
     refine ⟨O,ρ,L,_,_,r,e1,fun v H1 O1 st rs is => ?_⟩
     cases is with
     | @ref _ a hk =>
      obtain ⟨vs,hv,il⟩:=rs.ob _ _ _ hk e2
      refine ⟨a,rfl,⟨vs,SqL.of hv⟩,k _ _ _ st rs fun i H2 O2 L2 st2 rs2 hok => ?_⟩
      have hk2:=pref_get st2.2 hk
      obtain ⟨ws,hw,iw⟩:=rs2.ob _ _ _ hk2 (of_decide_eq_true hok)
      refine ⟨fun d hd => ?_,fun h => ⟨ws,SqL.of hw,by rw [iw.length]; exact h⟩⟩
      obtain ⟨v,hv',iv⟩:=iw.get hd
      refine ⟨⟨ws,v,SqL.of hw,hv'⟩,fun x H' y => ?_⟩
      obtain ⟨e,y⟩:=y
      subst e
      have:=y ws (SqL.of hw)
      rw [hv'] at this; cases this
      exact ⟨.refl _ _,rs2,iv⟩
theorem pif_range1 {a:Expr} {fa:AF} {p pos:Pos} (hm:X.mg "range" = none) (ha:PAf X [a] fa) (hg:Gl X "range":=by rfl) (hs:starEach [a] X.env = [(false,eval a X.env)]:=by rfl):PIf X tg (.Call (.Name "range" p) [a] [] pos) (iRng1F fa) :=
 PI.weaken (pi_range1 hg hm ha hs) fun σ H R z3_ => by
  obtain ⟨O,ρ,L,J,L',r,e,k⟩:=z3_
  unfold iRng1F at e
  cases e1:fa ρ L with
  | none => rw [e1] at e; cases e
  | some q =>
   rw [e1] at e
   obtain ⟨ds,L1⟩:=q
   simp only [Option.bind_some] at e
   refine ⟨O,ρ,L,ds,L1,r,e1,fun vs H1 O1 st rs is => ?_⟩
   split at e
   ·rename_i j
    split at e
    ·rename_i hj
     cases e
     cases is with
     | cons i1 i2 =>
      cases i1
      cases i2
      exact ⟨j,rfl,by omega,by omega,k _ _ _ st rs itis_rng⟩
    ·cases e
   ·cases e
theorem pif_range2 {a b:Expr} {fa:AF} {p pos:Pos} (hm:X.mg "range" = none) (ha:PAf X [a,b] fa) (hg:Gl X "range":=by rfl) (hs:starEach [a,b] X.env = [(false,eval a X.env),(false,eval b X.env)]:=by rfl) (hs2:starEach [b] X.env = [(false,eval b X.env)]:=by rfl):PIf X tg (.Call (.Name "range" p) [a,b] [] pos) (iRng2F fa) :=
 PI.weaken (pi_range2 hg hm ha hs hs2) fun σ H R z3_ => by
  obtain ⟨O,ρ,L,J,L',r,e,k⟩:=z3_
  unfold iRng2F at e
  cases e1:fa ρ L with
  | none => rw [e1] at e; cases e
  | some q =>
   rw [e1] at e
   obtain ⟨ds,L1⟩:=q
   simp only [Option.bind_some] at e
   refine ⟨O,ρ,L,ds,L1,r,e1,fun vs H1 O1 st rs is => ?_⟩
   split at e
   ·rename_i i j
    split at e
    ·rename_i hj
     cases e
     cases is with
     | cons i1 i2 =>
      cases i1
      cases i2 with
      | cons i3 i4 =>
       cases i3
       cases i4
       exact ⟨i,j,rfl,⟨by omega,by omega,by omega,by omega⟩,k _ _ _ st rs itis_rng⟩
    ·cases e
   ·cases e
end
end L3
set_option maxHeartbeats 4000000
namespace L3
open PySem PySem.Spec PyProof.Rows L2
theorem fold_free {names:List (Str × NameKind)} {env:Env}:∀ (cs:List (Str × Addr)),(∀ y ∈ names,y.2 = .free → ∃ c,env.cells.lookup y.1 = some c) →
  ∃ cl:List (Str × Addr),(forIn names cs (fun (x:Str × NameKind) (r:List (Str × Addr)) => match x with
   | (name,kind) => if (kind == NameKind.free) = true then do let a ← cellOf env name; pure (ForInStep.yield ((name,a) :: r)) else pure (ForInStep.yield r)):Sem (List (Str × Addr))) = pure cl ∧
   (∀ x,(x,NameKind.free) ∈ names → cl.lookup x = env.cells.lookup x) ∧ (∀ x c,cl.lookup x = some c → env.cells.lookup x = some c ∨ cs.lookup x = some c) ∧ (∀ x,(cs.lookup x = env.cells.lookup x) → cl.lookup x = env.cells.lookup x):=by
 induction names with
 | nil => intro cs _; exact ⟨cs,rfl,fun x h => by simp at h,fun x c h => .inr h,fun x h => h⟩
 | cons y r ih =>
  intro cs h
  obtain ⟨n,kd⟩:=y
  rw [List.forIn_cons]
  by_cases hk:kd = .free
  ·subst hk
   obtain ⟨c,hc⟩:=h (n,.free) List.mem_cons_self rfl
   obtain ⟨cl,e1,e2,e3,e4⟩:=ih ((n,c) :: cs) fun y hy => h y (List.mem_cons_of_mem _ hy)
   have here:∀ x,((n,c) :: cs).lookup x = if x == n then some c else cs.lookup x:=fun x => by
    cases hx:x == n <;> simp [List.lookup,hx]
   refine ⟨cl,?_,fun x hx => ?_,fun x c' hx => ?_,fun x hx => e4 x ?_⟩
   ·simp only [cellOf,hc]
    rw [← e1]
    rfl
   ·rcases List.mem_cons.mp hx with z | z
    ·injection z with z1 _
     subst z1
     refine e4 x ?_
     rw [here]
     simp [hc]
    ·exact e2 x z
   ·rcases e3 x c' hx with z | z
    ·exact .inl z
    ·rw [here] at z
     cases hxn:x == n with
     | true =>
      rw [hxn] at z
      simp at z
      subst z
      have:x = n:=by simpa using hxn
      subst this
      exact .inl hc
     | false => rw [hxn] at z; exact .inr z
   ·rw [here]
    cases hxn:x == n with
    | true =>
     have:x = n:=by simpa using hxn
     subst this
     simp [hc]
    | false => simpa using hx
  ·have hb:(kd == NameKind.free) = false:=by simpa using hk
   obtain ⟨cl,e1,e2,e3,e4⟩:=ih cs fun y hy => h y (List.mem_cons_of_mem _ hy)
   refine ⟨cl,?_,fun x hx => ?_,e3,e4⟩
   ·simp only [hb]
    rw [← e1]
    rfl
   ·rcases List.mem_cons.mp hx with z | z
    ·injection z with _ z2
     exact absurd z2.symm hk
    ·exact e2 x z
theorem closure_ok {scope:Scope} {env:Env} (h:∀ y ∈ scope.names,y.2 = .free → ∃ c,env.cells.lookup y.1 = some c) :
  ∃ cl,closureFor scope env = pure cl ∧ (∀ x,(x,NameKind.free) ∈ scope.names → cl.lookup x = env.cells.lookup x) ∧ (∀ x c,cl.lookup x = some c → env.cells.lookup x = some c):=by
 obtain ⟨cl,e1,e2,e3,_⟩:=fold_free (names:=scope.names) (env:=env) [] h
 refine ⟨cl,?_,e2,fun x c hx => ?_⟩
 ·unfold closureFor
  simp only [bind_pure]
  first
   | exact e1
   | (rw [e1]; rfl)
 ·rcases e3 x c hx with z | z
  ·exact z
  ·simp at z
section
variable {prog:Program} {w:World} {A:Around} {R:Result → Shared → Prop} {s:Shared}
theorem comp_loop {elt target iter:Expr} {ifs:List Expr} {scope:Scope} {pos:Pos} {it acc:Value} {env:Env} (I:Nat → Shared → Prop)
  (turn:∀ n s,I n s → wpAny (model prog w) A (pyNext it) (fun r s₁ => match r with
   | none => R (.ok .next) s₁
   | some v => wpAny (model prog w) A (letOwnedTupleGo target it v) (fun _ s₁' => wpAny (model prog w) A (assign target env v) (fun _ s₂ =>
     wpAny (model prog w) A (forIn ifs true fun c r => if r = true then do let ok ← isTrue c env (eval c env); pure (ForInStep.yield ok) else pure (ForInStep.yield r)) (fun ok s₃ =>
      if ok = true then wpAny (model prog w) A (eval elt env) (fun x s₄ =>
       wpAny (model prog w) A (call (.builtin "list.append") [acc,x]) (fun _ s₅ => ∃ m,m < n ∧ I m s₅) (fun _ _ => False) s₄) (fun _ _ => False) s₃
      else ∃ m,m < n ∧ I m s₃) (fun _ _ => False) s₂) (fun _ _ => False) s₁') (fun _ _ => False) s₁) (fun _ _ => False) s)
  (n:Nat) (h:I n s) :
  codeAny (model prog w) A (.compLoop (.ListComp elt [⟨target,iter,ifs,0⟩] scope pos) 0 it acc env) R s:=by
 refine codeAny_loop rfl I (fun n s hI => ?_) n h
 show wpAny _ A ((compTurn (.ListComp elt [⟨target,iter,ifs,0⟩] scope pos) 0 it acc env).onRaise (fun x => do noteFrame x env; theTreesLotGoes x)) _ _ s
 refine wpAny_noted ?_
 rw [compTurn_list]
 refine wpAny_bind (wpAny_standAt (wpAny_bind (wpAny_mono (turn n s hI) (fun r s₁ h₁ => ?_) fun _ _ h' => h'.elim)))
 cases r with
 | none => exact wpAny_pure h₁
 | some v =>
  refine wpAny_bind (wpAny_mono h₁ (fun _ s₁' h₁' => ?_) fun _ _ h' => h'.elim)
  refine wpAny_bind (wpAny_mono h₁' (fun _ s₂ h₂ => wpAny_bind (wpAny_mono h₂ (fun ok s₃ h₃ => ?_) fun _ _ h' => h'.elim)) fun _ _ h' => h'.elim)
  cases ok with
  | false => exact wpAny_pure ⟨rfl,h₃⟩
  | true =>
   exact wpAny_bind (wpAny_bind (wpAny_mono h₃ (fun x s₄ h₄ => wpAny_bind (wpAny_mono h₄ (fun _ s₅ h₅ => wpAny_pure (wpAny_pure ⟨rfl,h₅⟩)) fun _ _ h' => h'.elim)) fun _ _ h' => h'.elim))
end
noncomputable def compCx (X:Cx) (N':List Str) (scope:Scope) (cl:List (Str × Addr)) (C:Addr) (s:Shared) (H:Hp) (fp:List Addr) (pins:List (Addr × Obj)):Cx where
 prog:=X.prog
 w:=X.w
 K:=X.K
 mg:=X.mg
 base:=X.base
 A:=X.A
 N:=N'
 s₀:=s
 H₀:=H
 env:=compEnvC scope cl C X.env
 outer:=X.stack
 stack:=X.stack
 ex:=fp
 fn:=fun _ => false
 calm:=X.calm
 pn:=X.pn ++ pins
 xe:=fun _ _ => False
noncomputable def PQf (X:Cx) (ifs:List Expr) (c:TF):Prop :=
 ∀ (pins:List (Addr × Obj)) (s:Shared) (σ:L2.St) (H:Hp) (Q:Bool → Hp → Prop),Inv X pins σ H s → liftT X.K c σ H Q →
  wpAny (model X.prog X.w) X.A (forIn ifs true fun c r => if r = true then do let ok ← isTrue c X.env (eval c X.env); pure (ForInStep.yield ok) else pure (ForInStep.yield r)) (TP X pins σ Q) X.xe s
noncomputable def trueT:TF:=fun _ L => some (true,L)
theorem qf_nil {X:Cx}:PQf X [] trueT:=fun pins s σ H Q I z6_ => by
 obtain ⟨O,ρ,L,b,L',r,e,k⟩:=z6_
 cases e
 exact wpAny_tests_nil ⟨H,I,k H O (.refl _ _) r.s⟩
theorem qf_one {X:Cx} {c:Expr} {f:TF} (h:PTf X c f):PQf X [c] f:=fun pins s σ H Q I q => wpAny_tests_one (h pins s σ H Q I q)
noncomputable def compL (ok:Sto → Bool) (g:GF) (c:TF) (elt:EF) (k:Nat):List D → Fm → Sto → Option Sto
 | [],ρ,L => if ok L = true then some L else none
 | x :: xs,ρ,L => if ok L = true then (g x ρ).bind fun ρ1 => (c ρ1 L).bind fun p => if p.1 = true then (elt ρ1 p.2).bind fun q => match q.2[k]? with
    | some (.lst ys) => if ys.length < 16777216 then compL ok g c elt k xs ρ1 (q.2.set k (.lst (ys ++ [q.1]))) else none
    | _ => none
   else compL ok g c elt k xs ρ1 p.2
  else none
noncomputable def frC (n:Nat) (idx:List Nat) (ρ:Fm):Fm:=List.replicate n none ++ idx.map fun j => (ρ[j]?).join
noncomputable def compF (fi:IF) (n:Nat) (idx:List Nat) (g:GF) (c:TF) (elt:EF):EF:=fun ρ L => (fi ρ L).bind fun x =>
 (compL x.1.ok g c elt x.2.length x.1.items (frC n idx ρ) (x.2 ++ [.lst []])).bind fun L2 => some (.ref x.2.length,L2)
end L3
set_option maxHeartbeats 4000000
namespace L3
open PySem PySem.Spec PyProof.Rows L2
theorem relabel_mem {env:Env}:∀ {names:List (Str × NameKind)} {x:Str} {k:NameKind},
  (names.map fun (n,k) => if (k == NameKind.free && env.scope.kind == .function && env.kindOf n == some .cell) then (n,NameKind.cell) else (n,k)).lookup x = some k →
  ∃ k',(x,k') ∈ names ∧ (k = k' ∨ (k = .cell ∧ k' = .free))
 | [],_,_,h => by simp at h
 | (n,k0) :: r,x,k,h => by
  rw [List.map_cons] at h
  dsimp only at h
  have ih:=@relabel_mem env r x k
  by_cases hc:(k0 == NameKind.free && env.scope.kind == .function && env.kindOf n == some .cell) = true
  ·rw [if_pos hc] at h
   cases hx:x == n with
   | true =>
    simp only [List.lookup_cons,hx] at h
    cases h
    have e:x = n:=by simpa using hx
    subst e
    have hk:k0 = .free:=by
     simp only [Bool.and_eq_true] at hc
     simpa using hc.1.1
    subst hk
    exact ⟨.free,List.mem_cons_self,.inr ⟨rfl,rfl⟩⟩
   | false =>
    simp only [List.lookup_cons,hx] at h
    obtain ⟨k',a,b⟩:=ih h
    exact ⟨k',List.mem_cons_of_mem _ a,b⟩
  ·rw [if_neg hc] at h
   cases hx:x == n with
   | true =>
    simp only [List.lookup_cons,hx] at h
    cases h
    have e:x = n:=by simpa using hx
    subst e
    exact ⟨_,List.mem_cons_self,.inl rfl⟩
   | false =>
    simp only [List.lookup_cons,hx] at h
    obtain ⟨k',a,b⟩:=ih h
    exact ⟨k',List.mem_cons_of_mem _ a,b⟩
section
variable {X:Cx} {elt tg iter:Expr} {ifs:List Expr} {scope:Scope} {pos pos':Pos} {N':List Str} {n:Nat} {idx:List Nat} {fi:IF} {g:GF} {c:TF} {fe:EF}
structure CompOk (X:Cx) (scope:Scope) (N':List Str) (n:Nat) (idx:List Nat):Prop where
 kind:scope.kind = .function
 cell:∀ y ∈ scope.names,y.2 ≠ .cell
 names:∀ y ∈ scope.names,y.2 = .local → scope.names.lookup y.1 = some .local
 free:∀ y ∈ scope.names,y.2 = .free → X.env.kindOf y.1 = some .cell ∨ X.env.kindOf y.1 = some .free
 len:N'.length = n + idx.length
 idx:∀ (j:Nat) (i:Nat),idx[j]? = some i → ∃ x,N'[n + j]? = some x ∧ X.N[i]? = some x ∧ (x,NameKind.free) ∈ scope.names ∧ ∀ k,(x,k) ∈ scope.names → k = .free
theorem comp_core (hc:X.calm = true) (hi:PIf X tg iter fi) (S:CompOk X scope N' n idx)
  (hbody:∀ cl C s3 H3 fp pins,PGf (compCx X N' scope cl C s3 H3 fp pins) tg g ∧ PQf (compCx X N' scope cl C s3 H3 fp pins) ifs c ∧ PEf (compCx X N' scope cl C s3 H3 fp pins) elt fe)
  (hs:∀ x,foldedSetIterable iter X.env x = pure x)
  {pins:List (Addr × Obj)} {s:Shared} {σ:L2.St} {H:Hp} {use:Option (Value → Sem Unit)} {Q':Value → Shared → Prop} (I:Inv X pins σ H s) {O:List Addr} {ρ:Fm} {L L1 L9:Sto} {items:List D} {ok:Sto → Bool}
  (r:Rep X.K H O σ ρ L) (e1:fi ρ L = some (⟨items,ok⟩,L1)) (e2:compL ok g c fe L1.length items (frC n idx ρ) (L1 ++ [.lst []]) = some L9)
  (fin:∀ (C D:Addr) (s':Shared) (H':Hp) (O':List Addr) (m:Str → Option Value),Inv X pins σ H' s' → s'.heap.Ns C m → H' C = none → C ≠ X.env.locals → X.s₀.heap.objs.size ≤ C → (∀ x c,X.env.cells.lookup x = some c → c ≠ C) → (∀ p ∈ X.pn ++ pins,p.1 ≠ C) →
   Step H O H' O' → RepS X.K H' O' L9 → O'[L1.length]? = some D → compPost (model X.prog X.w) X.A X.xe use Q' (.ref D) C (.ok .next) s') :
  wpAny (model X.prog X.w) X.A (comprehension (.ListComp elt [⟨tg,iter,ifs,0⟩] scope pos) scope X.env pos' (newList []) false (eval iter X.env) use) Q' X.xe s:=by
 obtain ⟨cl,hclos,clget,clsub⟩:=closure_ok (scope:=scope) (env:=X.env) fun y hy hk => I.ok.has _ (S.free y hy hk)
 refine wpAny_comprehension_free rfl hs hclos S.kind S.names ?_
 refine thn (hi pins s σ H (fun Jt H1 => ∃ O1,Step H O H1 O1 ∧ RepS X.K H1 O1 L1 ∧ ItIs X.K H1 O1 Jt ⟨items,ok⟩) I ⟨O,ρ,L,_,_,r,e1,fun Jt H1 O1 st rs it => ⟨O1,st,rs,it⟩⟩) fun v s1 h1 => thn h1 fun itv s2 h2 => ?_
 obtain ⟨it,fp,tn,J,H2,rfl,I2,T,st0,f2,O1,stp,rs1,itis⟩:=h2
 refine wpAny_newObj_type (wpAny_newFunctionEnv S.cell (by intro y hy; simp at hy) (fun h₁ hns₁ hsb₁ => ?_) S.kind)
 dsimp only at hns₁ hsb₁ ⊢
 -- the list
 have I3:Inv X pins σ (upd H2 s2.heap.objs.size (.lst [])) { s2 with heap:=s2.heap.push { cls:=.type "list",dict:=none,data:=.seq ([]:List Value).toArray },toks:=s2.toks } :=
  I2.laid (t':=s2.toks) (fun b o e => Heap.get?_push_of_some _ e) (Nat.le_refl _) ⟨by simp,[],0,.nil,Heap.get?_push_size _ rfl⟩
 have hf2:H2 s2.heap.objs.size = none:=I2.hok.fresh (Nat.le_refl _)
 have rs3:RepS X.K (upd H2 s2.heap.objs.size (.lst [])) (O1 ++ [s2.heap.objs.size]) (L1 ++ [.lst []]):=rs1.new hf2 ⟨[],upd_same,.nil⟩
 have st3:Step H2 O1 (upd H2 s2.heap.objs.size (.lst [])) (O1 ++ [s2.heap.objs.size]):=⟨.new hf2,List.prefix_append _ _⟩
 have fpne:∀ b ∈ fp,b ≠ s2.heap.objs.size:=fun b hb z => by
  obtain ⟨o,e,_⟩:=T.obj 0 _ st0 b hb
  exact absurd (Heap.lt_size e) (by rw [z]; exact Nat.lt_irrefl _)
 have f3:∀ b ∈ fp,FpOk X pins (upd H2 s2.heap.objs.size (.lst [])) b:=fun b hb => ⟨by rw [upd_ne (fpne b hb)]; exact (f2 b hb).1,(f2 b hb).2⟩
 generalize hH2:s2.heap.push { cls:=.type "list",dict:=none,data:=.seq ([]:List Value).toArray } = hp3 at hns₁ hsb₁ I3 ⊢
 have hD0:O1.length = L1.length:=rs1.len
 generalize hDD:s2.heap.objs.size = D at *
 generalize hH3:upd H2 D (.lst []) = H3 at *
 have hDs:(O1 ++ [D])[L1.length]? = some D:=by rw [← hD0]; simp
 have tn3:tn 0 hp3:=T.keep _ _ _ st0 fun b hb o e => by rw [← hH2]; exact Heap.get?_push_of_some _ e
 -- the block's frame
 generalize hC:hp3.objs.size = C at *
 have kept:∀ b o,hp3.get? b = some o → h₁.get? b = some o:=fun b o e => hsb₁.extBut b o (by rw [← hC]; exact Nat.ne_of_lt (Heap.lt_size e)) (Heap.get?_push_of_some _ e)
 have tn4:tn 0 h₁:=T.keep _ _ _ tn3 fun b hb o e => kept b o e
 let s3:Shared:={ s2 with heap:=hp3,toks:=s2.toks }
 have Cfresh:∀ (b:Addr) (o:Obj),hp3.get? b = some o → b ≠ C:=fun b o e => by rw [← hC]; exact Nat.ne_of_lt (Heap.lt_size e)
 have CL:C ≠ X.env.locals:=fun z => by
  have:=I3.lt
  rw [← z,← hC] at this
  exact Nat.lt_irrefl _ this
 have Ccell:∀ x c,X.env.cells.lookup x = some c → c ≠ C:=fun x c e => by
  obtain ⟨v,o,ho,_⟩:=I3.cell x c e
  exact Cfresh c o ho
 have Cpin:∀ p ∈ X.pn ++ pins,p.1 ≠ C:=fun p hp => Cfresh _ _ (I3.pin p hp).1
 have C0:X.s₀.heap.objs.size ≤ C:=by rw [← hC]; exact I3.sz
 have frsub:∀ b ∈ frs X.stack,b = X.env.locals ∨ b ∈ X.fs:=fun b hb => List.mem_cons.mp (I3.stkSub b hb)
 have kindC:∀ x k,(relabel scope X.env).names.lookup x = some k → (k = .cell ∨ k = .free) → (x,NameKind.free) ∈ scope.names:=fun x k e hk => by
  obtain ⟨k',a,b⟩:=relabel_mem e
  rcases b with rfl | ⟨_,rfl⟩
  ·rcases hk with rfl | rfl
   ·exact absurd rfl (S.cell _ a)
   ·exact a
  ·exact a
 have okX:(compCx X N' scope cl C s3 H3 fp pins).Ok:=by
  refine ⟨I3.ok.mod,S.kind,I3.ok.glob,I3.ok.blt,Nat.le_of_eq hC,fun x y d h1 h2 => I3.ok.inj x y d (clsub x d h1) (clsub y d h2),fun x hx => ?_,fun x d h1 => (nomatch h1),I3.ok.hd,I3.ok.frames,.inl rfl,
   fun b hb => ⟨fun z => ?_,fun x d e => (f3 b hb).2.2.2.2.1 x d (clsub x d e)⟩,I3.bs,Nat.le_trans I3.ok.bsz I3.sz,fun b o e hb => ?_,fun b hb hz => ?_,I3.stack,I3.stkFree⟩
  ·have hx':(relabel scope X.env).names.lookup x = some .cell ∨ (relabel scope X.env).names.lookup x = some .free:=hx
   have hm:(x,NameKind.free) ∈ scope.names:=by
    rcases hx' with h | h
    ·exact kindC x _ h (.inl rfl)
    ·exact kindC x _ h (.inr rfl)
   obtain ⟨d,hd⟩:=I3.ok.has x (S.free _ hm rfl)
   exact ⟨d,(clget x hm).trans hd⟩
  ·obtain ⟨o,e,_⟩:=T.obj 0 _ tn3 b hb
   exact Cfresh b o e z
  ·rcases (f3 b hb).2.2.2.1 with z | z
   ·exact I3.ok.noex b o e z
   ·have h1:=Nat.lt_of_lt_of_le (Heap.lt_size e) I3.ok.bsz
    exact absurd (Nat.lt_of_lt_of_le h1 z) (Nat.lt_irrefl _)
  ·rcases frsub b hz with z | z
   ·exact (f3 b hb).2.1 z
   ·exact (f3 b hb).2.2.1 z
 -- its state
 have I4:Inv (compCx X N' scope cl C s3 H3 fp pins) [] (List.replicate n none ++ idx.map fun j => (σ[j]?).join) H3 { s3 with heap:=h₁,toks:=s2.toks + ([]:List (Str × Value)).length }:=by
  refine ⟨okX,rfl,I3.bare,Un.kept kept,⟨_,hns₁,fun i x v h1 h2 h3 => ?_⟩,fun x d e => ?_,?_,fun x d e => I3.freeC x d (clsub x d e),fun p hp => ?_,I3.hok.kept kept,?_⟩
  ·by_cases hin:i < n
   ·rw [List.getElem?_append_left (by simpa using hin)] at h2
    rw [List.getElem?_replicate,if_pos hin] at h2
    cases h2
   ·rw [List.getElem?_append_right (by simpa using hin)] at h2
    simp only [List.length_replicate] at h2
    rw [List.getElem?_map] at h2
    cases e:idx[i - n]? with
    | none => rw [e] at h2; cases h2
    | some j =>
     rw [e] at h2
     have h2':(σ[j]?).join = some v:=Option.some.inj h2
     have hσ:σ[j]? = some (some v):=by
      cases q:σ[j]? with
      | none => rw [q] at h2'; cases h2'
      | some o => rw [q] at h2'; cases o with
       | none => cases h2'
       | some w => cases h2'; rfl
     obtain ⟨y,a1,a2,a3,a4⟩:=S.idx _ _ e
     have hxy:y = x:=by
      have:N'[n + (i - n)]? = some x:=by rw [show n + (i - n) = i from by omega]; exact h1
      rw [a1] at this; exact Option.some.inj this
     subst hxy
     have hk:=S.free _ a3 rfl
     obtain ⟨m,hm,hl⟩:=I3.loc
     have hvis:Vis X.env.scope y:=by
      rcases hk with z | z
      ·exact .inr (.inl z)
      ·exact .inr (.inr z)
     obtain ⟨u,ru,lk⟩:=hl j y v a2 hσ hvis
     refine ⟨u,ru,.inr ⟨?_,?_⟩⟩
     ·rcases h3 with z | z | z
      ·obtain ⟨k',b1,b2⟩:=relabel_mem (show (relabel scope X.env).names.lookup y = some .local from z)
       rcases b2 with b2 | ⟨b2,_⟩
       ·have:=a4 _ b1
        rw [← b2] at this; cases this
       ·cases b2
      ·exact .inl z
      ·exact .inr z
     ·rcases lk with ⟨z,_⟩ | ⟨_,d,hd,⟨o,ho,hdt⟩⟩
      ·rcases hk with q | q <;> rw [q] at z <;> cases z
      ·exact ⟨d,(clget y a3).trans hd,o,kept d o ho,hdt⟩
  ·obtain ⟨v,o,ho,hdt⟩:=I3.cell x d (clsub x d e)
   exact ⟨v,o,kept d o ho,hdt⟩
  ·exact I3.hok.fresh (Nat.le_of_eq hC)
  ·have hp':p ∈ X.pn ++ pins:=by simpa [compCx] using hp
   obtain ⟨q1,q2,q3,q4,q5⟩:=I3.pin p hp'
   refine ⟨kept _ _ q1,q2,Cpin p hp',fun z => ?_,q5⟩
   rcases frsub _ z with y | y
   ·exact q3 y
   ·exact q4 y
  ·show _ = N'.length
   rw [S.len]; simp
 have fp4:∀ {H':Hp} {pl:List (Addr × Obj)},pl = [] → (∀ b ∈ fp,H' b = none) → ∀ b ∈ fp,FpOk (compCx X N' scope cl C s3 H3 fp pins) pl H' b:=fun {H' pl} hpl hn b hb => by
  subst hpl
  refine ⟨hn b hb,fun z => (okX.exf b hb).1 z,okX.exfs b hb,.inl hb,fun x d e => (okX.exf b hb).2 x d e,fun p hp => ?_⟩
  have hp':p ∈ X.pn ++ pins:=by simpa [compCx] using hp
  exact (f3 b hb).2.2.2.2.2 p hp'
 obtain ⟨bg,bq,be⟩:=hbody cl C s3 H3 fp pins
 have fr4:FmIs X.K H3 (O1 ++ [D]) (List.replicate n none ++ idx.map fun j => (σ[j]?).join) (frC n idx ρ):=by
  have fσ:=(r.f.mono stp).mono st3
  refine ⟨by simp [frC],fun i d hd => ?_⟩
  unfold frC at hd
  by_cases hin:i < n
  ·rw [List.getElem?_append_left (by simpa using hin),List.getElem?_replicate,if_pos hin] at hd
   cases hd
  ·rw [List.getElem?_append_right (by simpa using hin)] at hd ⊢
   simp only [List.length_replicate] at hd ⊢
   rw [List.getElem?_map] at hd ⊢
   cases e:idx[i - n]? with
   | none => rw [e] at hd; cases hd
   | some j =>
    rw [e] at hd
    have hd':(ρ[j]?).join = some d:=Option.some.inj hd
    have hρ:ρ[j]? = some (some d):=by
     cases q:ρ[j]? with
     | none => rw [q] at hd'; cases hd'
     | some o => rw [q] at hd'; cases o with
      | none => cases hd'
      | some w => cases hd'; rfl
    obtain ⟨v,hv,iv⟩:=fσ.at' j d hρ
    exact ⟨v,by simp [hv],iv⟩
 have loop:∀ s₃:Shared,s₃ = { s3 with heap:=h₁,toks:=s2.toks + ([]:List (Str × Value)).length } →
   codeAny (model X.prog X.w) X.A (.compLoop (.ListComp elt [⟨tg,iter,ifs,0⟩] scope pos) 0 (.ref it) (.ref D) (compEnvC scope cl C X.env))
    (compPost (model X.prog X.w) X.A X.xe use Q' (.ref D) C) s₃:=by
  rintro s₃ rfl
  refine comp_loop (fun m s' => ∃ i σ' H' O' ρ' L',m = items.length - i ∧ i ≤ items.length ∧ Inv (compCx X N' scope cl C s3 H3 fp pins) [] σ' H' s' ∧ tn i s'.heap ∧ (∀ b ∈ fp,H' b = none) ∧
   Step H3 (O1 ++ [D]) H' O' ∧ Rep X.K H' O' σ' ρ' L' ∧ compL ok g c fe L1.length (items.drop i) ρ' L' = some L9) ?_ items.length
   ⟨0,_,H3,O1 ++ [D],frC n idx ρ,L1 ++ [.lst []],rfl,Nat.zero_le _,I4,tn4,fun b hb => (f3 b hb).1,.refl _ _,⟨rs3,fr4⟩,by rw [List.drop_zero]; exact e2⟩
  rintro m s' ⟨i,σ',H',O',ρ',L',rfl,hi',I',tn',fr',st',r',el⟩
  by_cases hlt:i < items.length
  ·have ed:items.drop i = items[i] :: items.drop (i + 1):=List.drop_eq_getElem_cons hlt
   rw [ed] at el
   simp only [compL] at el
   split at el
   ·rename_i hok
    obtain ⟨q1,_⟩:=itis i H' O' L' (st3.trans st') r'.s hok
    obtain ⟨go,yl⟩:=q1 items[i] (by simp [hlt])
    refine thn (T.item (compCx X N' scope cl C s3 H3 fp pins) rfl rfl rfl hc i [] s' σ' H' (fun _ _ => False) I' (fp4 rfl fr') tn' go) fun rr s4 ⟨u,hr,h4⟩ => ?_
    subst hr
    refine thn h4 fun _ s5 ⟨x,H5,I5,r5,y5,st5,fr5⟩ => ?_
    obtain ⟨stp5,rs5,is5⟩:=yl x H5 y5
    have I5':=I5.pinned (fp4 rfl fr5) (T.obj _ _ st5)
    have back:∀ {s7:Shared} {σ7:L2.St} {H7:Hp},Inv (compCx X N' scope cl C s3 H3 fp pins) ([] ++ pinsAt fp s5.heap) σ7 H7 s7 → tn (i + 1) s7.heap ∧ (∀ b ∈ fp,H7 b = none):=fun {s7 σ7 H7} I7 => by
     refine ⟨T.keep _ _ _ st5 fun b hb o e => (I7.pin (b,o) (List.mem_append_right _ (List.mem_append_right _ (mem_pinsAt hb e)))).1,fun b hb => ?_⟩
     obtain ⟨o,e,d⟩:=T.obj _ _ st5 b hb
     exact (I7.pin (b,o) (List.mem_append_right _ (List.mem_append_right _ (mem_pinsAt hb e)))).2.1
    cases eg:g items[i] ρ' with
    | none => rw [eg] at el; cases el
    | some ρ1 =>
     rw [eg] at el
     simp only [Option.bind_some] at el
     refine thn (bg _ s5 σ' H5 x u (fun σ2 Ha => Ha = H5 ∧ Rep X.K H5 O' σ2 ρ1 L') I5' r5 ⟨O',ρ',L',_,ρ1,r'.to stp5 rs5,is5,eg,fun σ2 r2 => ⟨rfl,r2⟩⟩) fun _ s6 ⟨σ6,H6,I6,q6a,q6⟩ => ?_
     subst q6a
     cases ec:c ρ1 L' with
     | none => rw [ec] at el; cases el
     | some pc =>
      rw [ec] at el
      obtain ⟨b1,L5⟩:=pc
      simp only [Option.bind_some] at el
      refine thn (bq _ s6 σ6 H6 (fun b Hb => b = b1 ∧ ∃ Ob,Step H6 O' Hb Ob ∧ RepS X.K Hb Ob L5) I6 ⟨O',ρ1,L',b1,L5,q6,ec,fun Hb Ob st rs => ⟨rfl,Ob,st,rs⟩⟩) fun okb s7 ⟨H7,I7,hb7,O7,st7,rs7⟩ => ?_
      subst hb7
      cases okb with
      | false =>
       rw [if_neg (by simp)] at el
       rw [if_neg (by simp)]
       obtain ⟨b1,b2⟩:=back I7
       exact ⟨items.length - (i + 1),by omega,i + 1,σ6,H7,O7,ρ1,L5,rfl,hlt,I7.unpinned,b1,b2,(st'.trans stp5).trans st7,q6.to st7 rs7,el⟩
      | true =>
       rw [if_pos rfl] at el
       rw [if_pos rfl]
       cases ee:fe ρ1 L5 with
       | none => rw [ee] at el; cases el
       | some pe =>
        rw [ee] at el
        obtain ⟨de,L6⟩:=pe
        simp only [Option.bind_some] at el
        refine thn (be _ s7 σ6 H7 (fun v Hb => ∃ Ob,Step H7 O7 Hb Ob ∧ RepS X.K Hb Ob L6 ∧ Is X.K Hb Ob v de) I7 ⟨O7,ρ1,L5,de,L6,q6.to st7 rs7,ee,fun v Hb Ob st rs is => ⟨Ob,st,rs,is⟩⟩) fun ue s8 ⟨ve,H8,I8,r8,O8,st8,rs8,is8⟩ => ?_
        cases ek:L6[L1.length]? with
        | none => rw [ek] at el; cases el
        | some oo =>
         rw [ek] at el
         cases oo with
         | dk _ => cases el
         | ins _ _ => cases el
         | exn _ => cases el
         | lst ys =>
          simp only at el
          split at el
          ·rename_i hys
           have stA:Step H3 (O1 ++ [D]) H8 O8:=((st'.trans stp5).trans st7).trans st8
           have hD8:O8[L1.length]? = some D:=pref_get stA.2 hDs
           obtain ⟨vs,hv,il⟩:=rs8.ob _ _ _ hD8 ek
           refine thn (mt_append (X:=compCx X N' scope cl C s3 H3 fp pins) _ s8 σ6 H8 (.ref D) [ve] (.ref D) [ue] (fun v Hb => Hb = upd H8 D (.lst (vs ++ [ve]))) I8 rfl (.cons r8 .nil) ⟨D,vs,ve,rfl,rfl,hv,by rw [il.length,sizeLine_eq]; exact hys,rfl⟩)
            fun _ s9 ⟨_,H9,I9,_,q9⟩ => ?_
           subst q9
           have stw:Step H8 O8 (upd H8 D (.lst (vs ++ [ve]))) O8:=⟨.write hv id,List.prefix_refl _⟩
           obtain ⟨b1,b2⟩:=back I9
           refine ⟨items.length - (i + 1),by omega,i + 1,σ6,_,O8,ρ1,_,rfl,hlt,I9.unpinned,b1,b2,stA.trans stw,⟨rs8.write (o':=.lst (ys ++ [de])) hD8 ⟨_,upd_same,(il.mono stw).append (.cons (is8.mono stw) .nil)⟩,((q6.f.mono st7).mono st8).mono stw⟩,el⟩
          ·cases el
   ·cases el
  ·have hi2:i = items.length:=by omega
   subst hi2
   rw [List.drop_length] at el
   simp only [compL] at el
   split at el
   ·rename_i hok
    cases el
    obtain ⟨_,q2⟩:=itis _ H' O' _ (st3.trans st') r'.s hok
    refine thn (T.done (compCx X N' scope cl C s3 H3 fp pins) rfl rfl rfl hc _ [] s' σ' H' (fun _ _ => False) I' (fp4 rfl fr') tn' (q2 (Nat.le_refl _))) fun rr s4 ⟨hr,I4'⟩ => ?_
    subst hr
    obtain ⟨m,hm,_⟩:=I4'.loc
    have hos:s4.os = s3.os:=I4'.os
    have J:Inv X pins σ H' s4:=I3.call' (s':=s4) (ch:=fp) hos I4'.base I4'.hok I4'.bare fun b hb => ⟨(f3 b hb).2.2.2.1,(f3 b hb).2.1,(f3 b hb).2.2.2.2.1,(f3 b hb).2.2.2.2.2⟩
    exact fin C D s4 H' O' m J hm I4'.free CL C0 Ccell Cpin ((stp.trans st3).trans st') r'.s (pref_get st'.2 hDs)
   ·cases el
 exact codeAny_compStart_list (loop _ rfl) (T.self X.A 0 _ _ _ tn4 (loop _ rfl))
theorem ef_comp (hc:X.calm = true) (hi:PIf X tg iter fi) (S:CompOk X scope N' n idx)
  (hbody:∀ cl C s3 H3 fp pins,PGf (compCx X N' scope cl C s3 H3 fp pins) tg g ∧ PQf (compCx X N' scope cl C s3 H3 fp pins) ifs c ∧ PEf (compCx X N' scope cl C s3 H3 fp pins) elt fe)
  (hs:∀ x,foldedSetIterable iter X.env x = pure x:=by intro _; rfl):PEf X (.ListComp elt [⟨tg,iter,ifs,0⟩] scope pos) (compF fi n idx g c fe):=by
 intro pins s σ H Q I ⟨O,ρ,L,d,L',r,e,k⟩
 unfold compF at e
 cases e1:fi ρ L with
 | none => rw [e1] at e; cases e
 | some p =>
  rw [e1] at e
  obtain ⟨⟨items,ok⟩,L1⟩:=p
  simp only [Option.bind_some] at e
  cases e2:compL ok g c fe L1.length items (frC n idx ρ) (L1 ++ [.lst []]) with
  | none => rw [e2] at e; cases e
  | some L9 =>
   rw [e2] at e
   cases e
   rw [eval_ListComp]
   refine comp_core hc hi S hbody hs I r e1 e2 fun C D s' H' O' m J hn hfree hL h0 hcell hpin st rs hD => ?_
   refine ⟨m,hn,fun h' sb => ?_⟩
   exact ⟨.ref D,H',J.turned (t':=s'.toks) (fun b o hb e => (sb.2 b hb).trans e) hfree hL (.inr h0) hcell hpin,rfl,k _ _ _ st rs (.ref hD)⟩
end
end L3
set_option maxHeartbeats 4000000
namespace L3
open PySem PySem.Spec PyProof.Rows L2
noncomputable def Its (x:Str):It:=⟨fun i _ => i < x.cps.size,fun i H v H' => H' = H ∧ ∃ c,x.cps[i]? = some c ∧ v = .str ⟨#[c]⟩,fun i _ => x.cps.size ≤ i⟩
theorem turn_str {P:Program} {w:World} {K:PySem.W.Frag} {tg:Expr} (x:Str) (t:Tok) (it:Addr) (ty:String) (hty:["enumerate","zip","dict_itemiterator","dict_reverseitemiterator","odict_iterator","itertools.zip_longest","itertools.pairwise"].contains ty = false)
  (W:∀ A':Around,A'.handled = none → Walks P w A' it [it] [it] x.cps.size (SignAt x) (fun i h => h.IsStrIter it ty x t i))
  (hself:∀ (A:Around) (i:Nat) (s:Shared) (Q:Value → Shared → Prop) (E:Value → Shared → Prop),s.heap.IsStrIter it ty x t i → Q (.ref it) s → wpAny (model P w) A (pyIter (.ref it)) Q E s) :
  Turn P w K tg (Its x) [it] it (fun i h => h.IsStrIter it ty x t i ∧ i ≤ x.cps.size) where
 mem:=by simp
 obj:=fun i h st b hb => by
  have e:b = it:=by simpa using hb
  subst e
  obtain ⟨⟨o,e,c,d⟩,_⟩:=st
  exact ⟨o,e,fun v z => by rw [d] at z; cases z⟩
 keep:=fun i h h' st k => ⟨let ⟨o,ho,r⟩:=st.1; ⟨o,k it (by simp) o ho,r⟩,st.2⟩
 item:=by
  intro X hP hw hK hc i pins s σ H E I hf st hg
  subst hP hw hK
  obtain ⟨f0,f1,f2,f3,f4,f5⟩:=hf it (by simp)
  refine (W X.A (I.ok.hd hc)).item i s _ _ hg st.1 fun v h' tk hv st' kk => ?_
  obtain ⟨c,u,hc',rfl⟩:=hv
  have I1:Inv X pins σ H { s with heap:=h',toks:=tk }:=I.turned (fun b o hb e => kk b o (by simpa using hb) e) f0 f1 f3 f4 f5
  obtain ⟨o,e,cc,d⟩:=id st'
  exact ⟨_,rfl,go_of (s:={ s with heap:=h',toks:=tk }) e cc d hty ⟨.str ⟨#[c]⟩,H,I1,⟨u,rfl⟩,⟨rfl,c,hc',rfl⟩,⟨st',hg⟩,fun b hb => (hf b hb).1⟩⟩
 done:=by
  intro X hP hw hK hc i pins s σ H E I hf st hg
  subst hP hw hK
  obtain ⟨f0,f1,f2,f3,f4,f5⟩:=hf it (by simp)
  have hi:i = x.cps.size:=Nat.le_antisymm st.2 hg
  have st1:=st.1
  rw [hi] at st1
  exact (W X.A (I.ok.hd hc)).done s _ _ st1 fun h' tk kk => ⟨rfl,I.turned (fun b o hb e => kk b o (by simpa using hb) e) f0 f1 f3 f4 f5⟩
 self:=fun A i s Q E st h => hself A i s Q E st.1 h
section
variable {X:Cx} {tg l:Expr} {f:EF}
noncomputable def iStr (tl:TE):TI:=fun σ H R => tl σ H fun v H1 => ∃ x,v = .str x ∧ R (Its x) H1
theorem pi_str {tl:TE} (hl:PE X l tl):PI X tg l (iStr tl):=by
 intro pins s σ H R I h
 refine thn (hl pins s σ H _ I h) fun v s1 ⟨y,H1,I1,r1,x,e,q⟩ => ?_
 subst e
 obtain ⟨t,rfl⟩:=r1
 have hb:∀ (o:Obj) (b:Addr),b ∈ [s1.heap.objs.size] → FpOk X pins H1 b:=fun o b hb => by
  have e:b = s1.heap.objs.size:=by simpa using hb
  subst e
  exact I1.fpOk (Nat.le_refl _) (I1.hok.fresh (Nat.le_refl _))
 cases ha:x.cps.all (· < 128)
 ·refine wpAny_pyIter_wide ha ⟨s1.heap.objs.size,[s1.heap.objs.size],_,_,H1,rfl,I1.kept (t':=s1.toks) fun b o e => Heap.get?_push_of_some _ e,turn_str x t _ "str_iterator" (by decide) (fun A' hA => Walks.strWide hA _ x t) (fun _ _ _ _ _ st h => wpAny_pyIter_striter_wide st h),
   ⟨⟨_,Heap.get?_push_size _ rfl,rfl,rfl⟩,Nat.zero_le _⟩,hb default,q⟩
 ·refine wpAny_pyIter_ascii ha ⟨s1.heap.objs.size,[s1.heap.objs.size],_,_,H1,rfl,I1.kept (t':=s1.toks) fun b o e => Heap.get?_push_of_some _ e,turn_str x t _ "str_ascii_iterator" (by decide) (fun A' hA => Walks.strAscii hA _ x t) (fun _ _ _ _ _ st h => wpAny_pyIter_striter_ascii st h),
   ⟨⟨_,Heap.get?_push_size _ rfl,rfl,rfl⟩,Nat.zero_le _⟩,hb default,q⟩
noncomputable def sgs (x:Str):List D:=x.cps.toList.map fun c => .str ⟨#[c]⟩
noncomputable def iStrF (f:EF):IF:=fun ρ L => (f ρ L).bind fun x => match x.1 with | .str y => some (⟨sgs y,fun _ => true⟩,x.2) | _ => none
theorem pif_str (hl:PEf X l f):PIf X tg l (iStrF f):=PI.weaken (pi_str hl) fun σ H R z3_ => by
 obtain ⟨O,ρ,L,J,L',r,e,k⟩:=z3_
 unfold iStrF at e
 cases e1:f ρ L with
 | none => rw [e1] at e; cases e
 | some p =>
  rw [e1] at e
  obtain ⟨d,L1⟩:=p
  cases d <;> simp only [Option.bind_some] at e <;> try (cases e; done)
  rename_i y
  cases e
  refine ⟨O,ρ,L,_,_,r,e1,fun v H1 O1 st rs is => ?_⟩
  cases is
  refine ⟨y,rfl,k _ _ _ st rs fun i H2 O2 L2 st2 rs2 _ => ⟨fun d hd => ?_,fun h => by show y.cps.size ≤ i; simpa [sgs] using h⟩⟩
  simp only [sgs,List.getElem?_map] at hd
  cases ec:y.cps[i]? with
  | none => simp [ec] at hd
  | some c =>
   simp [ec] at hd
   subst hd
   refine ⟨(Array.getElem?_eq_some_iff.mp ec).1,fun x H' y' => ?_⟩
   obtain ⟨e,c',h1,rfl⟩:=y'
   subst e
   rw [ec] at h1; cases h1
   exact ⟨.refl _ _,rs2,.str _ (by simp [Str.length])⟩
end
end L3
set_option maxHeartbeats 4000000
namespace L3
open PySem PySem.Spec PyProof.Rows L2
mutual
noncomputable def D.noRef:D → Bool
 | .tup xs => D.noRefL xs
 | .fz xs => D.noRefL xs
 | .ref _ => false
 | _ => true
noncomputable def D.noRefL:List D → Bool
 | [] => true
 | x :: xs => D.noRef x && D.noRefL xs
end
section
variable {K:PySem.W.Frag} {H H' H0:Hp} {O O':List Addr}
mutual
theorem Is.nr:∀ {v:V} {d:D},Is K H O v d → d.noRef = true → Is K H O' v d
 | _,_,.non,_ => .non
 | _,_,.bl b,_ => .bl b
 | _,_,.int b,_ => .int b
 | _,_,.str b h,_ => .str b h
 | _,_,.tup h r,e => .tup h (IsL.nr r (by simpa [D.noRef] using e))
 | _,_,.fz h r,e => .fz h (IsL.nr r (by simpa [D.noRef] using e))
 | _,_,.ref h,e => by simp [D.noRef] at e
 | _,_,.ty n,_ => .ty n
theorem IsL.nr:∀ {v:List V} {d:List D},IsL K H O v d → D.noRefL d = true → IsL K H O' v d
 | _,_,.nil,_ => .nil
 | _,_,.cons a b,e => by
  simp only [D.noRefL,Bool.and_eq_true] at e
  exact .cons (Is.nr a e.1) (IsL.nr b e.2)
end
mutual
theorem Is.back (p:O <+: O'):∀ {v0:V} {d:D},Is K H0 O v0 d → ∀ {v:V},Is K H' O' v d → Is K H' O v d
 | _,_,.non,_,h => by cases h; exact .non
 | _,_,.bl b,_,h => by cases h; exact .bl b
 | _,_,.int b,_,h => by cases h; exact .int b
 | _,_,.str b _,_,h => by cases h with | str _ q => exact .str b q
 | _,_,.ty n,_,h => by cases h; exact .ty n
 | _,_,.tup _ r,_,h => by cases h with | tup q r' => exact .tup q (IsL.back p r r')
 | _,_,.fz _ r,_,h => by cases h with | fz q r' => exact .fz q (IsL.back p r r')
 | _,_,.ref q,_,h => by
  cases h with
  | ref q' =>
   have:=pref_get p q
   rw [q'] at this
   cases this
   exact .ref q
theorem IsL.back (p:O <+: O'):∀ {v0:List V} {d:List D},IsL K H0 O v0 d → ∀ {v:List V},IsL K H' O' v d → IsL K H' O v d
 | _,_,.nil,_,h => by cases h; exact .nil
 | _,_,.cons a b,_,h => by cases h with | cons a' b' => exact .cons (Is.back p a a') (IsL.back p b b')
end
theorem RepS.back {L M:Sto} (r0:RepS K H O L) (st:Step H O H' O') (r1:RepS K H' O' (L ++ M)):RepS K H' O L:=by
 refine ⟨r0.len,r0.nd,fun k a o e1 e2 => ?_⟩
 have q0:=r0.ob k a o e1 e2
 have q1:=r1.ob k a o (pref_get st.2 e1) (by rw [List.getElem?_append_left (List.getElem?_eq_some_iff.mp e2).1]; exact e2)
 cases o with
 | lst ds =>
  obtain ⟨vs0,_,i0⟩:=q0
  obtain ⟨vs,hv,i1⟩:=q1
  exact ⟨vs,hv,IsL.back st.2 i0 i1⟩
 | dk kvs =>
  obtain ⟨us0,_,_,i0⟩:=q0
  obtain ⟨us,hv,hk,i1⟩:=q1
  exact ⟨us,hv,hk,IsL.back st.2 i0 i1⟩
 | ins c fs =>
  obtain ⟨_,_,us0,_,_,_,i0⟩:=q0
  obtain ⟨C,dx,us,z,hv,hk,i1⟩:=q1
  exact ⟨C,dx,us,z,hv,hk,IsL.back st.2 i0 i1⟩
 | exn c => exact q1
end
noncomputable def startD (N:List Str) (ds:List D):Fm:=ds.map some ++ List.replicate (N.length - ds.length) none
noncomputable def spF (K:PySem.W.Frag) (G:GL):Sp:=fun vs H Q _ => rC K G vs H Q
noncomputable def Runs (B:SF) (N:List Str) (xs:List D) (L:Sto) (d:D) (L':Sto):Prop :=
 ∃ L'',(B (startD N xs) L = some (.ret d L'') ∨ (d = .non ∧ ∃ ρ',B (startD N xs) L = some (.next ρ' L''))) ∧ (L'' = L' ∨ (L' = L ∧ L <+: L'' ∧ d.noRef = true))
structure FnD (P:Program) (w:World) (K:PySem.W.Frag) (mg:Str → Option Value) (base:Heap) (k:Nat) (x:Str) (G:GL):Prop where
 ex:∃ f fd ps,FnOk P w K mg base CX0 k f fd ps (spF K G) ∧ mg x = some (.ref f) ∧ PySem.W.keepIn K (.ref f) = true ∧ Binds K fd ps []
section
variable {P:Program} {w:World} {K:PySem.W.Frag} {mg:Str → Option Value} {base:Heap}
theorem fmis_start {H:Hp} {O:List Addr} {N:List Str} {vs:List V} {ds:List D} (h:IsL K H O vs ds):FmIs K H O (L2.start N vs) (startD N ds):=by
 refine ⟨by simp [L2.start,startD,h.length],fun i d e => ?_⟩
 unfold startD at e
 unfold L2.start
 by_cases hi:i < ds.length
 ·rw [List.getElem?_append_left (by simpa using hi),List.getElem?_map] at e
  rw [List.getElem?_append_left (by simpa [h.length] using hi),List.getElem?_map]
  cases q:ds[i]? with
  | none => rw [q] at e; cases e
  | some d' =>
   rw [q] at e; cases e
   obtain ⟨v,hv,iv⟩:=h.get q
   exact ⟨v,by simp [hv],iv⟩
 ·rw [List.getElem?_append_right (by simpa using hi),List.getElem?_replicate] at e
  split at e <;> cases e
theorem fn_f {x qual:Str} {st:Stmt} {f:Addr} {fd:FuncData} {N ps:List Str} {k:Nat} (F:Fun K x qual st f fd) (S:FnScope N ps (defScope st)) (G:GL) (B:SF) (hlen:∀ xs L r,G xs L = some r → xs.length = ps.length)
  (hb:∀ (cdv:Value) (A:Around) (outer:List Env) (s:Shared) (H:Hp) (E:XK),Room k (A.deeper (envOfC qual (defScope st) s.heap.objs.size f cdv)) →
   PSsf (cxOf CX0 P w K mg base N qual (defScope st) f cdv A outer s H E).nox (defBody st) B)
  (hG:∀ xs L d L',G xs L = some (d,L') → Runs B N xs L d L'):FnOk P w K mg base CX0 (k + 1) f fd ps (spF K G):=by
 refine F.ok S (fun vs H Q E h => ?_) (fun cdv A outer s H vs Q E hr h => ?_)
 ·obtain ⟨O,L,xs,d,L',_,is,e,_⟩:=h
  rw [is.length]
  exact hlen _ _ _ e
 ·obtain ⟨O,L,xs,d,L',rs,is,e,kk⟩:=h
  refine ⟨_,hb cdv A outer s H E hr,?_⟩
  obtain ⟨L'',hB,hd⟩:=hG _ _ _ _ e
  have close:∀ v H' O',Step H O H' O' → RepS K H' O' L'' → Is K H' O' v d → Q v H':=fun v H' O' st' rs' is' => by
   rcases hd with rfl | ⟨rfl,⟨M,rfl⟩,nr⟩
   ·exact kk v H' O' st' rs' is'
   ·exact kk v H' O ⟨st'.1,List.prefix_refl _⟩ (rs.back st' rs') (is'.nr nr)
  rcases hB with hB | ⟨rfl,ρ',hB⟩
  ·exact ⟨O,startD N xs,L,_,⟨rs,fmis_start is⟩,hB,close⟩
  ·exact ⟨O,startD N xs,L,_,⟨rs,fmis_start is⟩,hB,fun σ' H' O' st' r' => close _ H' O' st' r'.s .non⟩
theorem FnD.mono {j k:Nat} {x:Str} {G:GL} (F:FnD P w K mg base j x G) (h:j ≤ k):FnD P w K mg base k x G:=by
 obtain ⟨f,fd,ps,a,b⟩:=F.ex
 exact ⟨f,fd,ps,a.mono h,b⟩
end
section
variable {X:Cx} {k:Nat} {x:Str} {G:GL} {p pos:Pos} {e:Expr} {es:List Expr} {f:AF}
theorem ef_call (F:FnD X.prog X.w X.K X.mg X.base k x G) (hr:Room k X.A) (ha:PAf X (e :: es) f) (hg:Gl X x:=by rfl) (hdb:(x == ("__debug__":Str)) = false:=by decide)
  (he:notStar e = true:=by rfl) (hpl:es.all notStar = true:=by rfl):PEf X (.Call (.Name x p) (e :: es) [] pos) (callB G f):=by
 obtain ⟨fa,fd,ps,a,b,c,d⟩:=F.ex
 exact PE.weaken (pe_call a hr hg b c d .nil pass0 ha hdb (starEach_cons he) (plain_of hpl)) fun σ H Q h => by
  have q:=call_lift h
  obtain ⟨O,ρ,L,ds,L',r,e,k⟩:=q
  exact ⟨O,ρ,L,ds,L',r,e,fun vs H1 O1 st rs is => by show rC X.K G (vs ++ []) H1 Q; rw [List.append_nil]; exact k vs H1 O1 st rs is⟩
end
end L3
set_option maxHeartbeats 4000000
namespace L3
open PySem PySem.Spec PyProof.Rows L2
noncomputable instance decMul (a b:Int):Decidable (IntMulOk a b):=by unfold IntMulOk; infer_instance
section
variable {X:Cx}
theorem opMulB:OpR X (binaryOp .Mult) (rI IntMulOk fun i j => .int (i * j)):=opI fun _ _ _ _ _ _ _ hc q => mul_int q hc
theorem op_catE:OpR X (binaryOp .Add) (fun x y H Q => ∃ a b ys,x = .ref a ∧ y = .ref b ∧ SqT X.K H a [] ∧ SqT X.K H b ys ∧ Q (.ref b) H):=by
 intro pins s σ H x y v u Q I rx ry h
 obtain ⟨a,b,ys,rfl,rfl,ha,hb,q⟩:=h
 cases rx
 cases ry
 obtain ⟨its,r1,p1,_⟩:=I.tuple ha
 obtain ⟨its2,r2,p2,_⟩:=I.tuple hb
 have hi:its = []:=r1.nil_iff.mpr rfl
 subst hi
 obtain ⟨⟨cls,dd,data,sl⟩,ho,hc,n,hd⟩:=p1
 obtain ⟨⟨cls2,dd2,data2,sl2⟩,ho2,hc2,n2,hd2⟩:=p2
 simp only at hc hd hc2 hd2
 subst hc hd hc2 hd2
 exact concat_meets ⟨_,ho,rfl⟩ ⟨_,ho2,rfl⟩ noFill_tuple_add seq_tuple_add PySem.F.slot_tuple_add PySem.F.entry_tuple_add (PySem.F.args_tuple_add_2 _ _)
  (tuple_addW0 a b _ _ n n2 dd dd2 sl sl2 rfl) ⟨ho,ho2,.ref b,H,I,rfl,q⟩
noncomputable def gAdd:G2
 | .int i,.int j,L => some (.int (i + j),L)
 | .str x,.str y,L => if x.length + y.length ≤ 16777216 then some (.str (x ++ y),L) else none
 | .ref a,.ref b,L => match L[a]?,L[b]? with
  | some (.lst xs),some (.lst ys) => if xs.length + ys.length ≤ 16777216 then some (.ref L.length,L ++ [.lst (xs ++ ys)]) else none
  | _,_ => none
 | .tup xs,.tup ys,L => if xs = [] then some (.tup ys,L) else if xs.length + ys.length ≤ 16777216 then some (.tup (xs ++ ys),L) else none
 | _,_,_ => none
theorem od_add:OpD X (binaryOp .Add) gAdd:=OpR.weaken (OpR.or op_add (OpR.or op_add_str (OpR.or op_cat (OpR.or op_catT op_catE)))) fun v u H Q z4_ => by
 obtain ⟨O,L,x,y,d,L',rs,ix,iy,e,k⟩:=z4_
 unfold gAdd at e
 split at e
 ·cases ix; cases iy; cases e
  exact .inl ⟨_,_,rfl,rfl,k _ _ _ (.refl _ _) rs (.int _)⟩
 ·cases ix with | str _ h1 => cases iy with | str _ h2 =>
   split at e
   ·rename_i hz
    cases e
    exact .inr (.inl ⟨_,_,rfl,rfl,by rw [sizeLine_eq]; exact hz,k _ _ _ (.refl _ _) rs (.str _ (by rw [strLen_append]; exact hz))⟩)
   ·cases e
 ·rename_i a b
  cases ix with | ref ha => cases iy with | ref hb =>
   split at e
   ·rename_i xs ys e1 e2
    split at e
    ·rename_i hz
     cases e
     obtain ⟨vs,hv,iv⟩:=rs.ob _ _ _ ha e1
     obtain ⟨ws,hw,iw⟩:=rs.ob _ _ _ hb e2
     refine .inr (.inr (.inl ⟨_,_,vs,ws,rfl,rfl,hv,hw,by rw [iv.length,iw.length,sizeLine_eq]; exact hz,fun p hp => ?_⟩))
     have st:Step H O (upd H p (.lst (vs ++ ws))) (O ++ [p]):=⟨.new hp,List.prefix_append _ _⟩
     exact k _ _ _ st (rs.new hp ⟨_,upd_same,(iv.append iw).mono st⟩) (.ref (by rw [← rs.len]; simp))
    ·cases e
   ·cases e
 ·rename_i xs ys
  split at e
  ·rename_i hx
   subst hx
   cases e
   cases ix with | @tup a vs _ h1 i1 => cases iy with | @tup b ws _ h2 i2 =>
    cases i1
    exact .inr (.inr (.inr (.inr ⟨_,_,ws,rfl,rfl,h1,h2,k _ _ _ (.refl _ _) rs (.tup h2 i2)⟩)))
  ·rename_i hx
   split at e
   ·rename_i hz
    cases e
    cases ix with | @tup a vs _ h1 i1 => cases iy with | @tup b ws _ h2 i2 =>
     refine .inr (.inr (.inr (.inl ⟨_,_,vs,ws,rfl,rfl,h1,h2,?_,by rw [i1.length,i2.length,sizeLine_eq]; exact hz,fun q => ?_,fun q p hp => ?_⟩)))
     ·rintro rfl
      cases i1; exact hx rfl
     ·subst q
      cases i2
      rw [List.append_nil] at k
      exact k _ _ _ (.refl _ _) rs (.tup h1 i1)
     ·have st:Step H O (upd H p (.tup (vs ++ ws))) O:=⟨.new hp,List.prefix_refl _⟩
      exact k _ _ _ st (rs.ext fun a u e => by rw [upd_ne (ne_of_none e hp)]; exact e) (.tup (SqT.of upd_same) ((i1.append i2).mono st))
   ·cases e
 ·cases e
noncomputable def gI (C:Int → Int → Bool) (f:Int → Int → D):G2:=fun x y L => match x,y with | .int i,.int j => if C i j = true then some (f i j,L) else none | _,_ => none
theorem od_int {f:Value → Value → Sem Value} {C:Int → Int → Prop} {Cb:Int → Int → Bool} {g:Int → Int → V} {gd:Int → Int → D} (h:OpR X f (rI C g)) (hc:∀ i j,Cb i j = true → C i j) (hg:∀ K H O i j,Is K H O (g i j) (gd i j)):OpD X f (gI Cb gd) :=
 OpR.weaken h fun v u H Q z4_ => by
  obtain ⟨O,L,x,y,d,L',rs,ix,iy,e,k⟩:=z4_
  unfold gI at e
  split at e
  ·split at e
   ·rename_i hcc
    cases ix; cases iy; cases e
    exact ⟨_,_,rfl,rfl,hc _ _ hcc,k _ _ _ (.refl _ _) rs (hg _ _ _ _ _)⟩
   ·cases e
  ·cases e
theorem rI_of {f:Value → Value → Sem Value} {g:Int → Int → V} (h:OpR X f (rI0 g)):OpR X f (rI (fun _ _ => True) g):=OpR.weaken h fun x y H Q ⟨i,j,a,b,_,q⟩ => ⟨i,j,a,b,q⟩
noncomputable def tt2 (_ _:Int):Bool:=true
noncomputable def cDiv (_ j:Int):Bool:=decide (0 < j) && decide (j < 10000000000000000000000000000000000000000000000000000000000000000000000000000000000000000000000000000)
noncomputable def cMod (_ j:Int):Bool:=decide (0 < j)
noncomputable def cPow (i j:Int):Bool:=decide (0 ≤ j) && decide (j ≤ 1000000) && decide (i.natAbs < 2 ^ 64)
noncomputable def cMul (i j:Int):Bool:=decide (IntMulOk i j)
noncomputable def gFdiv:G2:=gI cDiv fun i j => .int (i / j)
noncomputable def gMod:G2:=gI cMod fun i j => .int (i % j)
noncomputable def gPow:G2:=gI cPow fun i j => .int (i ^ j.toNat)
theorem log2_big {j:Int} (h0:0 < j) (h1:j < 10000000000000000000000000000000000000000000000000000000000000000000000000000000000000000000000000000):j.natAbs.log2 < 340:=by
 have hn:j.natAbs ≠ 0:=by omega
 refine (Nat.log2_lt hn).mpr ?_
 have e:10000000000000000000000000000000000000000000000000000000000000000000000000000000000000000000000000000 < (2:Nat) ^ 340:=by decide +kernel
 omega
theorem op_fdivB:OpR X (binaryOp .FloorDiv) (rI (fun _ j => 0 < j ∧ j < 10000000000000000000000000000000000000000000000000000000000000000000000000000000000000000000000000000) fun i j => .int (i / j)):=opI fun i j _ _ _ _ _ hc q => by
 rw [← Int.fdiv_eq_ediv_of_nonneg i (Int.le_of_lt hc.1)] at q
 exact floordiv_int (by omega) q (.inl (PyProof.noPylong_of_log2 (by have:=log2_big hc.1 hc.2; omega)))
theorem od_fdiv:OpD X (binaryOp .FloorDiv) gFdiv:=od_int op_fdivB (fun i j h => by simp only [cDiv,Bool.and_eq_true,decide_eq_true_eq] at h; exact h) fun _ _ _ _ _ => .int _
theorem od_mod:OpD X (binaryOp .Mod) gMod:=od_int op_mod (fun i j h => by simp [cMod] at h; exact h) fun _ _ _ _ _ => .int _
theorem od_pow:OpD X (binaryOp .Pow) gPow:=od_int op_pow (fun i j h => by simp [cPow] at h; exact ⟨h.1.1,h.1.2,h.2⟩) fun _ _ _ _ _ => .int _
noncomputable def mulSOk (x:Str) (n:Int):Bool:=decide (-1000000 ≤ n) && decide (n ≤ 1000000) && decide (x.length * n.toNat ≤ 16777216)
noncomputable def gMul:G2:=fun x y L => match x,y with
 | .int i,.int j => if cMul i j = true then some (.int (i * j),L) else none
 | .str x,.int n => if mulSOk x n = true then some (.str (Txt.mul x n),L) else none
 | _,_ => none
theorem len_foldl_app:∀ (l:List (Array Nat)) (a:Array Nat),(l.foldl (· ++ ·) a).size = a.size + (l.map (·.size)).sum
 | [],a => by simp
 | b :: r,a => by rw [List.foldl_cons,len_foldl_app r]; simp [Array.size_append]; omega
theorem mul_len (x:Str) (n:Int):(Txt.mul x n).length ≤ x.length * n.toNat:=by
 unfold Txt.mul
 split
 ·exact Nat.zero_le _
 ·split
  ·rename_i h1 h2
   simp only [Bool.or_eq_true,beq_iff_eq] at h2
   rcases h2 with h2 | h2
   ·subst h2; simp
   ·rw [h2]; simp
  ·show ((List.replicate n.toNat x.cps).foldl (· ++ ·) #[]).size ≤ _
   rw [len_foldl_app]
   simp [Str.length,Nat.mul_comm]
theorem op_mul_str:OpR X (binaryOp .Mult) (fun x y H Q => ∃ z n,x = .str z ∧ y = .int n ∧ mulSOk z n = true ∧ Q (.str (Txt.mul z n)) H):=by
 intro pins s σ H x y v u Q I rx ry h
 obtain ⟨z,n,rfl,rfl,hc,q⟩:=h
 obtain ⟨t,rfl⟩:=rx
 obtain ⟨t',rfl⟩:=ry
 simp only [mulSOk,Bool.and_eq_true,decide_eq_true_eq] at hc
 obtain ⟨⟨h1,h2⟩,h3⟩:=hc
 refine SB.mul ⟨?_,fun hn _ hz => ?_,fun _ _ => ?_⟩ fun t' k => ⟨.str _,H,I.tok _,⟨_,rfl⟩,q⟩
 ·have e1:decide (n < -(2 ^ 63:Int)) = false:=decide_eq_false (by omega)
  have e2:decide (n ≥ 2 ^ 63) = false:=decide_eq_false (by omega)
  rw [e1,e2]; rfl
 ·have e1:(z.length:Int) * n ≤ 16777216:=by
   have h4:((z.length * n.toNat:Nat):Int) ≤ ((16777216:Nat):Int):=Int.ofNat_le.mpr h3
   rw [Int.natCast_mul,Int.toNat_of_nonneg (by omega)] at h4
   omega
  have e2:(z.length:Int) ≤ ((2:Int) ^ 63 - 1) / n:=Int.le_ediv_of_mul_le (by omega) (by omega)
  omega
 ·have h5:¬ (z.length * n.toNat > sizeLine):=by rw [sizeLine_eq]; omega
  exact decide_eq_false h5
theorem od_mul:OpD X (binaryOp .Mult) gMul:=OpR.weaken (OpR.or opMulB op_mul_str) fun v u H Q z4_ => by
 obtain ⟨O,L,x,y,d,L',rs,ix,iy,e,k⟩:=z4_
 unfold gMul at e
 split at e
 ·split at e
  ·rename_i hc
   cases ix; cases iy; cases e
   exact .inl ⟨_,_,rfl,rfl,of_decide_eq_true hc,k _ _ _ (.refl _ _) rs (.int _)⟩
  ·cases e
 ·split at e
  ·rename_i hc
   cases ix; cases iy; cases e
   refine .inr ⟨_,_,rfl,rfl,hc,k _ _ _ (.refl _ _) rs (.str _ ?_)⟩
   simp only [mulSOk,Bool.and_eq_true,decide_eq_true_eq] at hc
   exact Nat.le_trans (mul_len _ _) hc.2
  ·cases e
 ·cases e
noncomputable def gLt:G2:=gI tt2 fun i j => .bl (decide (i < j))
noncomputable def gLe:G2:=gI tt2 fun i j => .bl (decide (i ≤ j))
noncomputable def gGt:G2:=gI tt2 fun i j => .bl (decide (j < i))
theorem od_lt:OpD X (compareOp .Lt) gLt:=od_int (rI_of op_lt) (fun _ _ _ => True.intro) fun _ _ _ _ _ => .bl _
theorem od_le:OpD X (compareOp .LtE) gLe:=od_int (rI_of op_le) (fun _ _ _ => True.intro) fun _ _ _ _ _ => .bl _
theorem od_gt:OpD X (compareOp .Gt) gGt:=od_int (rI_of op_gt) (fun _ _ _ => True.intro) fun _ _ _ _ _ => .bl _
noncomputable def toV:D → V
 | .non => .non | .bl b => .bl b | .int i => .int i | .str x => .str x | _ => .non
noncomputable def flatD:D → Bool
 | .non => true | .bl _ => true | .int _ => true | .str _ => true | _ => false
theorem flat_toV {K:PySem.W.Frag} {H:Hp} {O:List Addr} {v:V} {d:D} (h:Is K H O v d) (f:flatD d = true):v = toV d:=by
 cases h <;> first | rfl | (simp [flatD] at f)
theorem flatsL {K:PySem.W.Frag} {H:Hp} {O:List Addr}:∀ {vs:List V} {ds:List D},IsL K H O vs ds → ds.all flatD = true → vs = ds.map toV
 | _,_,.nil,_ => rfl
 | _,_,.cons a b,f => by
  rw [List.all_cons,Bool.and_eq_true] at f
  rw [List.map_cons,flat_toV a f.1,flatsL b f.2]
theorem flatV_toV {d:D} (f:flatD d = true):flatV (toV d) = true:=by cases d <;> simp_all [flatD,toV,flatV]
theorem toV_inj {a b:D} (fa:flatD a = true) (fb:flatD b = true):(toV a = toV b) ↔ a = b:=by
 cases a <;> simp [flatD] at fa <;> cases b <;> simp [flatD] at fb <;> simp [toV]
noncomputable def scalD (a b:D):Bool:=flatD a && flatD b && scal (toV a) (toV b)
noncomputable def gEq:G2:=fun x y L => if scalD x y = true then some (.bl (decide (x = y)),L) else none
noncomputable def gNe:G2:=fun x y L => if scalD x y = true then some (.bl (!decide (x = y)),L) else none
theorem od_eq:OpD X (compareOp .Eq) gEq:=OpR.weaken op_eq fun v u H Q z4_ => by
 obtain ⟨O,L,x,y,d,L',rs,ix,iy,e,k⟩:=z4_
 unfold gEq at e
 split at e
 ·rename_i h
  cases e
  simp only [scalD,Bool.and_eq_true] at h
  obtain ⟨⟨h1,h2⟩,h3⟩:=h
  rw [flat_toV ix h1,flat_toV iy h2]
  refine ⟨h3,?_⟩
  have:decide (toV x = toV y) = decide (x = y):=by simp [toV_inj h1 h2]
  rw [this]
  exact k _ _ _ (.refl _ _) rs (.bl _)
 ·cases e
theorem od_ne:OpD X (compareOp .NotEq) gNe:=OpR.weaken op_ne fun v u H Q z4_ => by
 obtain ⟨O,L,x,y,d,L',rs,ix,iy,e,k⟩:=z4_
 unfold gNe at e
 split at e
 ·rename_i h
  cases e
  simp only [scalD,Bool.and_eq_true] at h
  obtain ⟨⟨h1,h2⟩,h3⟩:=h
  rw [flat_toV ix h1,flat_toV iy h2]
  refine ⟨h3,?_⟩
  have:decide (toV x = toV y) = decide (x = y):=by simp [toV_inj h1 h2]
  rw [this]
  exact k _ _ _ (.refl _ _) rs (.bl _)
 ·cases e
noncomputable def isNon:D → Bool | .non => true | _ => false
theorem isNon_V {K:PySem.W.Frag} {H:Hp} {O:List Addr} {v:V} {d:D} (h:Is K H O v d):decide (v = .non) = isNon d:=by cases h <;> simp [isNon]
noncomputable def isBl (b:Bool):D → Bool | .bl c => c == b | _ => false
theorem op_isB:OpR X (compareOp .Is) (fun x y H Q => ∃ b,y = .bl b ∧ (∀ n,x ≠ .ty n) ∧ Q (.bl (decide (x = .bl b))) H):=by
 intro pins s σ H x y v u Q I rx ry h
 obtain ⟨b,rfl,hn,q⟩:=h
 cases ry
 cases x with
 | non => cases rx; exact wpAny_pure (fin_bl I q rfl)
 | bl c => cases rx; exact wpAny_pure (fin_bl I q (by cases c <;> cases b <;> rfl))
 | int c => obtain ⟨t,rfl⟩:=rx; exact wpAny_pure (fin_bl I q rfl)
 | str c => obtain ⟨t,rfl⟩:=rx; exact wpAny_pure (fin_bl I q rfl)
 | byt c => obtain ⟨t,rfl⟩:=rx; exact wpAny_pure (fin_bl I q rfl)
 | flt c => obtain ⟨t,rfl⟩:=rx; exact wpAny_pure (fin_bl I q rfl)
 | ref c => cases rx; exact wpAny_pure (fin_bl I q rfl)
 | ty c => exact absurd rfl (hn c)
theorem op_notB:OpR X (compareOp .IsNot) (fun x y H Q => ∃ b,y = .bl b ∧ (∀ n,x ≠ .ty n) ∧ Q (.bl (!decide (x = .bl b))) H):=by
 intro pins s σ H x y v u Q I rx ry h
 obtain ⟨b,rfl,hn,q⟩:=h
 cases ry
 cases x with
 | non => cases rx; exact wpAny_pure (fin_bl I q rfl)
 | bl c => cases rx; exact wpAny_pure (fin_bl I q (by cases c <;> cases b <;> rfl))
 | int c => obtain ⟨t,rfl⟩:=rx; exact wpAny_pure (fin_bl I q rfl)
 | str c => obtain ⟨t,rfl⟩:=rx; exact wpAny_pure (fin_bl I q rfl)
 | byt c => obtain ⟨t,rfl⟩:=rx; exact wpAny_pure (fin_bl I q rfl)
 | flt c => obtain ⟨t,rfl⟩:=rx; exact wpAny_pure (fin_bl I q rfl)
 | ref c => cases rx; exact wpAny_pure (fin_bl I q rfl)
 | ty c => exact absurd rfl (hn c)
theorem isBl_V {K:PySem.W.Frag} {H:Hp} {O:List Addr} {v:V} {d:D} {b:Bool} (h:Is K H O v d):decide (v = .bl b) = isBl b d:=by
 cases h <;> simp [isBl]
 rename_i c
 cases c <;> cases b <;> rfl
noncomputable def noTy:D → Bool | .ty _ => false | _ => true
theorem noTy_V {K:PySem.W.Frag} {H:Hp} {O:List Addr} {v:V} {d:D} (h:Is K H O v d) (n:noTy d = true):∀ m,v ≠ .ty m:=by
 intro m z
 cases h <;> first | (cases z; done) | (simp [noTy] at n)
noncomputable def gIs:G2:=fun x y L => match y with | .non => some (.bl (isNon x),L) | .bl b => if noTy x = true then some (.bl (isBl b x),L) else none | _ => none
noncomputable def gIsNot:G2:=fun x y L => match y with | .non => some (.bl (!isNon x),L) | .bl b => if noTy x = true then some (.bl (!isBl b x),L) else none | _ => none
theorem od_is:OpD X (compareOp .Is) gIs:=OpR.weaken (OpR.or op_isN op_isB) fun v u H Q z4_ => by
 obtain ⟨O,L,x,y,d,L',rs,ix,iy,e,k⟩:=z4_
 unfold gIs at e
 split at e
 ·cases e; cases iy
  refine .inl ⟨rfl,?_⟩
  rw [isNon_V ix]
  exact k _ _ _ (.refl _ _) rs (.bl _)
 ·split at e
  ·rename_i hn
   cases e; cases iy
   refine .inr ⟨_,rfl,noTy_V ix hn,?_⟩
   rw [isBl_V ix]
   exact k _ _ _ (.refl _ _) rs (.bl _)
  ·cases e
 ·cases e
theorem od_isnot:OpD X (compareOp .IsNot) gIsNot:=OpR.weaken (OpR.or op_notN op_notB) fun v u H Q z4_ => by
 obtain ⟨O,L,x,y,d,L',rs,ix,iy,e,k⟩:=z4_
 unfold gIsNot at e
 split at e
 ·cases e; cases iy
  refine .inl ⟨rfl,?_⟩
  rw [isNon_V ix]
  exact k _ _ _ (.refl _ _) rs (.bl _)
 ·split at e
  ·rename_i hn
   cases e; cases iy
   refine .inr ⟨_,rfl,noTy_V ix hn,?_⟩
   rw [isBl_V ix]
   exact k _ _ _ (.refl _ _) rs (.bl _)
  ·cases e
 ·cases e
noncomputable def inStr (i j:Str):Bool:=!(Builtin.Str.occurrences j i 0 j.length 1).isEmpty
noncomputable def eqP (a b:D):Bool:=eqV (toV a) (toV b)
noncomputable def inD (x:D) (xs:List D):Bool:=xs.any fun y => eqP y x
noncomputable def seqOf (d:D) (L:Sto):Option (List D):=match d with
 | .tup xs => some xs | .fz xs => some xs
 | .ref k => match L[k]? with | some (.lst xs) => some xs | _ => none
 | _ => none
theorem seqOf_is {K:PySem.W.Frag} {H:Hp} {O:List Addr} {L:Sto} {v:V} {d:D} {xs:List D} (rs:RepS K H O L) (h:Is K H O v d) (e:seqOf d L = some xs):∃ a vs,v = .ref a ∧ (SqL K H a vs ∨ SqT K H a vs) ∧ IsL K H O vs xs:=by
 cases h with
 | tup hq il => cases e; exact ⟨_,_,rfl,.inr hq,il⟩
 | fz hq il => cases e; exact ⟨_,_,rfl,.inl hq.sql,il⟩
 | ref hk =>
  simp only [seqOf] at e
  split at e
  ·rename_i ys e2
   cases e
   obtain ⟨vs,hv,iv⟩:=rs.ob _ _ _ hk e2
   exact ⟨_,vs,rfl,.inl (SqL.of hv),iv⟩
  ·cases e
 | _ => cases e
noncomputable def gInN (neg:Bool):G2:=fun x y L => match x,y with
 | .str i,.str j => some (.bl (if neg then !inStr i j else inStr i j),L)
 | _,_ => match seqOf y L with | some ys => if flatD x && ys.all flatD then some (.bl (if neg then !inD x ys else inD x ys),L) else none | none => none
theorem inD_V {x:D} {xs:List D}:inV (toV x) (xs.map toV) = inD x xs:=by
 unfold inV inD eqP
 rw [List.any_map]; rfl
theorem allV {xs:List D} (h:xs.all flatD = true):(xs.map toV).all flatV = true:=by
 rw [List.all_map]
 rw [List.all_eq_true] at h ⊢
 exact fun d hd => flatV_toV (h d hd)
theorem gIn_seq {K:PySem.W.Frag} {H:Hp} {O:List Addr} {L L':Sto} {v u:V} {x y d:D} {neg:Bool} {Q:VK} (rs:RepS K H O L) (ix:Is K H O v x) (iy:Is K H O u y)
  (e:(match seqOf y L with | some ys => if flatD x && ys.all flatD then some (D.bl (if neg then !inD x ys else inD x ys),L) else none | none => none) = some (d,L'))
  (k:∀ w H' O',Step H O H' O' → RepS K H' O' L' → Is K H' O' w d → Q w H'):rIn K neg v u H Q:=by
 split at e
 ·rename_i ys hy
  split at e
  ·rename_i hf
   cases e
   rw [Bool.and_eq_true] at hf
   obtain ⟨a,vs,rfl,hs,il⟩:=seqOf_is rs iy hy
   have e1:=flat_toV ix hf.1
   have e2:=flatsL il hf.2
   subst e1 e2
   refine ⟨a,_,rfl,hs,flatV_toV hf.1,allV hf.2,?_⟩
   rw [inD_V]
   exact k _ _ _ (.refl _ _) rs (.bl _)
  ·cases e
 ·cases e
theorem od_in:OpD X (compareOp .In) (gInN false):=OpR.weaken (OpR.or op_in_str op_in_seq) fun v u H Q z4_ => by
 obtain ⟨O,L,x,y,d,L',rs,ix,iy,e,k⟩:=z4_
 unfold gInN at e
 split at e
 ·cases e; cases ix; cases iy
  exact .inl ⟨_,_,rfl,rfl,k _ _ _ (.refl _ _) rs (.bl _)⟩
 ·exact .inr (gIn_seq rs ix iy e k)
theorem od_notin:OpD X (compareOp .NotIn) (gInN true):=OpR.weaken (OpR.or op_notin_str op_notIn_seq) fun v u H Q z4_ => by
 obtain ⟨O,L,x,y,d,L',rs,ix,iy,e,k⟩:=z4_
 unfold gInN at e
 split at e
 ·cases e; cases ix; cases iy
  exact .inl ⟨_,_,rfl,rfl,k _ _ _ (.refl _ _) rs (.bl _)⟩
 ·exact .inr (gIn_seq rs ix iy e k)
noncomputable def gIx:G2:=fun x y L => match y with
 | .int i => match x with
  | .str z => (match atI z.cps.toList i with | some c => some (.str ⟨#[c]⟩,L) | none => none)
  | _ => (match seqOf x L with | some xs => (match atI xs i with | some d => some (d,L) | none => none) | none => none)
 | _ => none
theorem atI_is {K:PySem.W.Frag} {H:Hp} {O:List Addr} {vs:List V} {xs:List D} {i:Int} {d:D} (il:IsL K H O vs xs) (e:atI xs i = some d):∃ v,atI vs i = some v ∧ Is K H O v d:=by
 unfold atI at e ⊢
 rw [il.length]
 cases q:ixN xs.length i with
 | none => rw [q] at e; cases e
 | some j => rw [q] at e; exact il.get e
theorem xd_ix:IxD X gIx:=IxR.weaken ix_seq fun v u H Q z4_ => by
 obtain ⟨O,L,x,y,d,L',rs,ix,iy,e,k⟩:=z4_
 unfold gIx at e
 split at e
 ·cases iy
  split at e
  ·split at e
   ·rename_i c hc
    cases e
    cases ix with | str _ hz =>
     exact .inr (.inr ⟨_,_,c,rfl,rfl,by rw [sizeLine_eq]; exact hz,hc,k _ _ _ (.refl _ _) rs (.str _ (by simp [Str.length]))⟩)
   ·cases e
  ·split at e
   ·rename_i xs hx
    split at e
    ·rename_i dd hd
     cases e
     obtain ⟨a,vs,rfl,hs,il⟩:=seqOf_is rs ix hx
     obtain ⟨w,hw,iw⟩:=atI_is il hd
     rcases hs with hs | hs
     ·exact .inl ⟨a,vs,_,w,rfl,rfl,hs,hw,k _ _ _ (.refl _ _) rs iw⟩
     ·exact .inr (.inl ⟨a,vs,_,w,rfl,rfl,hs,hw,k _ _ _ (.refl _ _) rs iw⟩)
    ·cases e
   ·cases e
 ·cases e
end
end L3
set_option maxHeartbeats 4000000
namespace HT
open PySem PySem.Spec PyProof.Rows
section
variable {prog:Program} {w:World} {A:Around} {E:Value → Shared → Prop} {s:Shared}
theorem getItem_tuple_whole {t sl:Addr} {items:Array Value} {vl vu:Value} {lo hi:Option Int} {Q:Value → Shared → Prop} (ht:IsTup s.heap t items) (hs:s.heap.IsSliceOf sl vl vu .none) (pl:IsPart vl lo) (pu:IsPart vu hi)
  (hw:sIx items.size 0 lo = 0 ∧ sIx items.size items.size hi = items.size) (h:Q (.ref t) s) (hsz:items.size ≤ sizeLine):wpAny (model prog w) A (getItem (.ref t) (.ref sl)) Q E s:=by
 obtain ⟨os,hos,hcs,hds⟩:=id hs
 have hTs:s.TypeIs (.ref sl) "slice":=⟨os,hos,hcs⟩
 unfold getItem
 try with_reducible refine wpAny_holding ?_
 first | refine wpAny_bind (wpAny_pure ?_) | skip
 refine wpAny_bind (wpAny_sequenceKey ht.typeIs (by decide) ?_)
 refine wpAny_bind (wpAny_callSpecial?_slot (name:=Str.ofString "__getitem__") ht.typeIs PyProof.Rows.slot_tuple_getitem
  (wpAny_call_entry PyProof.Rows.slot_tuple_getitem ht.typeIs entry_tuple_getitem ?_ (args_tuple_getitem _ _)))
 show wpAny _ _ (Builtin.Tuple.tupleItemsOf (.ref t) >>= _) _ _ s
 refine wpAny_bind (tupleItemsOf_ ht ?_)
 refine wpAny_bind (wpAny_typeOf hTs ?_)
 rw [if_pos (by decide)]
 refine wpAny_bind (sliceApplied_gen hs pl pu ?_)
 have hyes:(((sIx items.size 0 lo:Nat):Int) == 0 && (1:Int) == 1 && (sIx items.size items.size hi - sIx items.size 0 lo) == items.size) = true:=by
  rw [hw.1,hw.2]; simp
 show wpAny _ _ (if (((sIx items.size 0 lo:Nat):Int) == 0 && (1:Int) == 1 && (sIx items.size items.size hi - sIx items.size 0 lo) == items.size) = true then _ else _) _ _ s
 rw [if_pos hyes]
 unfold Builtin.Tuple.tupleIsExact
 refine wpAny_bind (wpAny_bind (wpAny_typeOf ht.typeIs (wpAny_pure ?_)))
 rw [if_pos (by decide)]
 refine wpAny_bind (wpAny_rule ?_)
 exact wpAny_pure ⟨_,rfl,wpAny_pure h⟩
end
end HT
namespace L2
open PySem PySem.Spec PyProof.Rows
section
variable {X:Cx}
theorem sl_tupW:SlR X (fun x lo hi H Q => ∃ a xs,x = .ref a ∧ SqT X.K H a xs ∧ (HT.sIx xs.length 0 lo = 0 ∧ HT.sIx xs.length xs.length hi = xs.length) ∧ Q (.ref a) H):=by
 intro pins s σ H x v vl vu lo hi sl Q I rx hs pl pu h
 obtain ⟨a,xs,rfl,hx,hw,q⟩:=h
 cases rx
 obtain ⟨its,r,ht,hz⟩:=I.tuple hx
 have hlen:its.toArray.size = xs.length:=by rw [List.size_toArray]; exact r.length.symm
 refine ⟨"tuple",_,PyProof.Rows.slot_tuple_getitem.lookup,ht.typeIs,?_⟩
 exact HT.getItem_tuple_whole ht hs pl pu (by rw [hlen]; exact hw) ⟨.ref a,H,I,rfl,q⟩ (by rw [hlen]; exact hz)
theorem call_str_str:CallR X (.type "str") (fun xs H Q => ∃ z,xs = [.str z] ∧ Q (.str z) H):=by
 intro pins s σ H xs us Q I r h
 obtain ⟨i,rfl,q⟩:=h
 obtain ⟨u,rfl,t,rfl⟩:=vals1 r
 exact PySem.P.str_of_str ⟨.str _,H,I,⟨_,rfl⟩,q⟩
end
end L2
set_option maxHeartbeats 4000000
namespace L3
open PySem PySem.Spec PyProof.Rows L2
noncomputable abbrev OF:=Fm → Sto → Option (Option Int × Sto)
noncomputable def liftO (K:PySem.W.Frag) (f:OF):TO:=fun σ H Q => ∃ O ρ L d L',Rep K H O σ ρ L ∧ f ρ L = some (d,L') ∧ ∀ H' O',Step H O H' O' → RepS K H' O' L' → Q d H'
noncomputable def POf (X:Cx) (e:Option Expr) (f:OF):Prop:=PO X e (liftO X.K f)
noncomputable def noO:OF:=fun _ L => some (none,L)
noncomputable def asO (f:EF):OF:=fun ρ L => (f ρ L).bind fun x => match x.1 with | .int i => some (some i,x.2) | _ => none
section
variable {X:Cx} {e:Expr} {f:EF} {lo hi:Option Expr} {fl fh:OF} {pos p2:Pos}
theorem of_none:POf X none noO:=fun pins s σ H Q I z6_ => by
 obtain ⟨O,ρ,L,d,L',r,e,k⟩:=z6_
 cases e
 exact po_none pins s σ H Q I (k H O (.refl _ _) r.s)
theorem of_some (h:PEf X e f):POf X (some e) (asO f):=fun pins s σ H Q I z6_ => by
 obtain ⟨O,ρ,L,d,L',r,ee,k⟩:=z6_
 refine po_some h pins s σ H Q I ?_
 unfold asO at ee
 cases e1:f ρ L with
 | none => rw [e1] at ee; cases ee
 | some p =>
  rw [e1] at ee
  obtain ⟨x,L1⟩:=p
  cases x <;> simp only [Option.bind_some] at ee <;> try (cases ee; done)
  cases ee
  refine ⟨O,ρ,L,_,_,r,e1,fun v H' O' st rs is => ?_⟩
  cases is
  exact ⟨_,rfl,k H' O' st rs⟩
theorem sl_str:SlR X (fun x lo hi H Q => ∃ z,x = .str z ∧ z.length ≤ sizeLine ∧ Q (.str (Txt.slice z lo hi)) H):=by
 intro pins s σ H x v vl vu lo hi sl Q I rx hs pl pu h
 obtain ⟨z,rfl,hz,q⟩:=h
 obtain ⟨t,rfl⟩:=rx
 refine ⟨"str",_,F.slot_str_getitem.lookup,typeIs_str _ _ _,?_⟩
 have fin:∀ t' k,EP X pins σ Q (.str (Txt.slice z lo hi) t') { s with toks:=k }:=fun t' k => ⟨.str _,H,I.tok _,⟨_,rfl⟩,q⟩
 have hl:(Txt.slice z lo hi).length ≤ sizeLine:=Nat.le_trans (Txt.slice_le z _ _) hz
 cases pl with
 | none => cases pu with
  | none => exact wpAny_getItem_str_slice (l:=none) (u:=none) (st:=none) hs rfl (post_val_or_str ⟨hl,fin⟩)
  | int j tj => exact wpAny_getItem_str_slice (l:=none) (u:=some (j,tj)) (st:=none) hs rfl (post_val_or_str ⟨hl,fin⟩)
 | int i ti => cases pu with
  | none => exact wpAny_getItem_str_slice (l:=some (i,ti)) (u:=none) (st:=none) hs rfl (post_val_or_str ⟨hl,fin⟩)
  | int j tj => exact wpAny_getItem_str_slice (l:=some (i,ti)) (u:=some (j,tj)) (st:=none) hs rfl (post_val_or_str ⟨hl,fin⟩)
noncomputable def cutD (xs:List D) (lo hi:Option Int):List D:=(xs.drop (HT.sIx xs.length 0 lo)).take (HT.sIx xs.length xs.length hi - HT.sIx xs.length 0 lo)
noncomputable def gSl (x:D) (lo hi:Option Int) (L:Sto):Option (D × Sto):=match x with
 | .str z => some (.str (Txt.slice z lo hi),L)
 | .fz xs => some (.ref L.length,L ++ [.lst (cutD xs lo hi)])
 | .ref k => (match L[k]? with | some (.lst xs) => some (.ref L.length,L ++ [.lst (cutD xs lo hi)]) | _ => none)
 | .tup xs => some (.tup (cutD xs lo hi),L)
 | _ => none
noncomputable def slF (f:EF) (fl fh:OF):EF:=fun ρ L => (f ρ L).bind fun x => (fl ρ x.2).bind fun l => (fh ρ l.2).bind fun h => gSl x.1 l.1 h.1 h.2
theorem cut_is {K:PySem.W.Frag} {H:Hp} {O:List Addr} {vs:List V} {xs:List D} (il:IsL K H O vs xs) (lo hi:Option Int):IsL K H O (cutV vs lo hi) (cutD xs lo hi):=by
 unfold cutV cutD
 rw [il.length]
 exact (il.drop _).take _
theorem ef_slice (he:PEf X e f) (hl:POf X lo fl) (hh:POf X hi fh):PEf X (.Subscript e (.Slice lo hi none p2) pos) (slF f fl fh) :=
 PE.weaken (pe_slice (SlR.or sl_str (SlR.or sl_list (SlR.or sl_tup sl_tupW))) he hl hh) fun σ H Q z3_ => by
  obtain ⟨O,ρ,L,d,L',r,ee,k⟩:=z3_
  unfold slF at ee
  cases e1:f ρ L with
  | none => rw [e1] at ee; cases ee
  | some p =>
   rw [e1] at ee
   simp only [Option.bind_some] at ee
   cases e2:fl ρ p.2 with
   | none => rw [e2] at ee; cases ee
   | some q =>
    rw [e2] at ee
    simp only [Option.bind_some] at ee
    cases e3:fh ρ q.2 with
    | none => rw [e3] at ee; cases ee
    | some w =>
     rw [e3] at ee
     simp only [Option.bind_some] at ee
     refine ⟨O,ρ,L,p.1,p.2,r,e1,fun v H1 O1 st1 rs1 is1 => ⟨O1,ρ,p.2,q.1,q.2,r.to st1 rs1,e2,fun H2 O2 st2 rs2 => ⟨O2,ρ,q.2,w.1,w.2,r.to (st1.trans st2) rs2,e3,fun H3 O3 st3 rs3 => ?_⟩⟩⟩
     have is3:=(is1.mono st2).mono st3
     have stA:=(st1.trans st2).trans st3
     unfold gSl at ee
     split at ee
     ·rename_i z hz
      rw [hz] at is3
      cases ee
      cases is3 with | str _ hl =>
       exact .inl ⟨_,rfl,by rw [sizeLine_eq]; exact hl,k _ _ _ stA rs3 (.str _ (Nat.le_trans (Txt.slice_le _ _ _) hl))⟩
     ·rename_i xs hx
      rw [hx] at is3
      cases ee
      cases is3 with | @fz a vs ds hq il =>
       refine .inr (.inl ⟨_,_,rfl,hq.sql,fun pa hp => ?_⟩)
       have st4:Step H3 O3 (upd H3 pa (.lst (cutV vs q.1 w.1))) (O3 ++ [pa]):=⟨.new hp,List.prefix_append _ _⟩
       exact k _ _ _ (stA.trans st4) (rs3.new hp ⟨_,upd_same,(cut_is il _ _).mono st4⟩) (.ref (by rw [← rs3.len]; simp))
     ·rename_i kk hx
      rw [hx] at is3
      split at ee
      ·rename_i xs e4
       cases ee
       cases is3 with | ref hk =>
        obtain ⟨vs,hv,il⟩:=rs3.ob _ _ _ hk e4
        refine .inr (.inl ⟨_,_,rfl,SqL.of hv,fun pa hp => ?_⟩)
        have st4:Step H3 O3 (upd H3 pa (.lst (cutV vs q.1 w.1))) (O3 ++ [pa]):=⟨.new hp,List.prefix_append _ _⟩
        exact k _ _ _ (stA.trans st4) (rs3.new hp ⟨_,upd_same,(cut_is il _ _).mono st4⟩) (.ref (by rw [← rs3.len]; simp))
      ·cases ee
     ·rename_i xs hx
      rw [hx] at is3
      cases ee
      cases is3 with | @tup a vs ds hq il =>
       by_cases hw:HT.sIx vs.length 0 q.1 = 0 ∧ HT.sIx vs.length vs.length w.1 = vs.length
       ·refine .inr (.inr (.inr ⟨_,vs,rfl,hq,hw,?_⟩))
        have e5:cutD xs q.1 w.1 = xs:=by
         unfold cutD
         rw [← il.length,hw.1,hw.2,List.drop_zero,Nat.sub_zero,il.length,List.take_length]
        rw [e5] at k
        exact k _ _ _ stA rs3 (.tup hq il)
       ·refine .inr (.inr (.inl ⟨_,vs,rfl,hq,hw,fun pa hp => ?_⟩))
        have st4:Step H3 O3 (upd H3 pa (.tup (cutV vs q.1 w.1))) O3:=⟨.new hp,List.prefix_refl _⟩
        exact k _ _ _ (stA.trans st4) (rs3.ext fun a u e => by rw [upd_ne (ne_of_none e hp)]; exact e) (.tup (SqT.of upd_same) ((cut_is il _ _).mono st4))
     ·cases ee
end
section
variable {X:Cx}
noncomputable def gLen:GL:=fun xs L => match xs with
 | [.str z] => some (.int (z.length:Int),L)
 | [x] => (match seqOf x L with | some ys => some (.int (ys.length:Int),L) | none => none)
 | _ => none
theorem cd_len:CallD X (.builtin "len") gLen:=CallR.weaken (CallR.or call_len_str call_len_seq) fun vs H Q z3_ => by
 obtain ⟨O,L,xs,d,L',rs,is,e,k⟩:=z3_
 unfold gLen at e
 split at e
 ·cases e
  cases is with | cons i1 i2 => cases i2; cases i1 with | str _ hz =>
   exact .inl ⟨_,rfl,by rw [sizeLine_eq]; exact hz,k _ _ _ (.refl _ _) rs (.int _)⟩
 ·split at e
  ·rename_i ys hy
   cases e
   cases is with | cons i1 i2 =>
    cases i2
    obtain ⟨a,vs,rfl,hs,il⟩:=seqOf_is rs i1 hy
    exact .inr ⟨a,vs,rfl,hs,by rw [il.length]; exact k _ _ _ (.refl _ _) rs (.int _)⟩
  ·cases e
 ·cases e
noncomputable def gMax:GL:=fun xs L => match xs with | [.int i,.int j] => some (.int (if j > i then j else i),L) | _ => none
noncomputable def gMin:GL:=fun xs L => match xs with | [.int i,.int j] => some (.int (if j < i then j else i),L) | _ => none
theorem cd_max (hc:X.calm = true):CallD X (.builtin "max") gMax:=CallR.weaken (call_max2 hc) fun vs H Q z3_ => by
 obtain ⟨O,L,xs,d,L',rs,is,e,k⟩:=z3_
 unfold gMax at e
 split at e
 ·cases e
  cases is with | cons i1 i2 => cases i2 with | cons i3 i4 => cases i4; cases i1; cases i3; exact ⟨_,_,rfl,k _ _ _ (.refl _ _) rs (.int _)⟩
 ·cases e
theorem cd_min (hc:X.calm = true):CallD X (.builtin "min") gMin:=CallR.weaken (call_min2 hc) fun vs H Q z3_ => by
 obtain ⟨O,L,xs,d,L',rs,is,e,k⟩:=z3_
 unfold gMin at e
 split at e
 ·cases e
  cases is with | cons i1 i2 => cases i2 with | cons i3 i4 => cases i4; cases i1; cases i3; exact ⟨_,_,rfl,k _ _ _ (.refl _ _) rs (.int _)⟩
 ·cases e
noncomputable def gStrI:GL:=fun xs L => match xs with | [.int i] => if i.natAbs.log2 < 1920 ∧ (toString i:Str).length ≤ 16777216 then some (.str (toString i),L) else none | [.str z] => some (.str z,L) | _ => none
theorem cd_str:CallD X (.type "str") gStrI:=CallR.weaken (CallR.or call_str_int call_str_str) fun vs H Q z3_ => by
 obtain ⟨O,L,xs,d,L',rs,is,e,k⟩:=z3_
 unfold gStrI at e
 split at e
 ·split at e
  ·rename_i h
   cases e
   cases is with | cons i1 i2 => cases i2; cases i1; exact .inl ⟨_,rfl,h.1,k _ _ _ (.refl _ _) rs (.str _ h.2)⟩
  ·cases e
 ·cases e
  cases is with | cons i1 i2 => cases i2; cases i1 with | str _ hz => exact .inr ⟨_,rfl,k _ _ _ (.refl _ _) rs (.str _ hz)⟩
 ·cases e
noncomputable def gTuple:GL:=fun xs L => match xs with
 | [.tup ys] => some (.tup ys,L)
 | [x] => (match seqOf x L with | some ys => some (.tup ys,L) | none => none)
 | _ => none
theorem cd_tuple:CallD X (.type "tuple") gTuple:=CallR.weaken call_tuple_of fun vs H Q z3_ => by
 obtain ⟨O,L,xs,d,L',rs,is,e,k⟩:=z3_
 unfold gTuple at e
 split at e
 ·cases e
  cases is with | cons i1 i2 => cases i2; cases i1 with | tup hq il => exact ⟨_,_,rfl,.inr ⟨hq,k _ _ _ (.refl _ _) rs (.tup hq il)⟩⟩
 ·split at e
  ·rename_i ys hy
   cases e
   cases is with | cons i1 i2 =>
    cases i2
    obtain ⟨a,vs,rfl,hs,il⟩:=seqOf_is rs i1 hy
    rcases hs with hs | hs
    ·refine ⟨a,vs,rfl,.inl ⟨hs,fun l hl => ?_⟩⟩
     have st:Step H O (upd H l (.tup vs)) O:=⟨.new hl,List.prefix_refl _⟩
     exact k _ _ _ st (rs.ext fun b u e => by rw [upd_ne (ne_of_none e hl)]; exact e) (.tup (SqT.of upd_same) (il.mono st))
    ·exact ⟨a,vs,rfl,.inr ⟨hs,k _ _ _ (.refl _ _) rs (.tup hs il)⟩⟩
  ·cases e
 ·cases e
theorem call_all_bls (hc:X.calm = true):CallR X (.builtin "all") (fun xs H Q => ∃ (p:Addr) (bs:List Bool),xs = [.ref p] ∧ SqL X.K H p (bs.map V.bl) ∧ Q (.bl (bs.all id)) H):=by
 intro pins s σ H xs us Q I r h
 obtain ⟨p,bs,rfl,hq,q⟩:=h
 obtain ⟨u,rfl,rx⟩:=vals1 r
 cases rx
 obtain ⟨its,rv,pl,hz⟩:=I.list hq
 have hI:∀ b o,s.heap.get? b = some o → b ≠ s.heap.objs.size:=fun b o e => Nat.ne_of_lt (Heap.lt_size e)
 obtain ⟨ol,hol,hcl,nl,hdl⟩:=pl.isList
 have hbs:bs.length = its.length:=by have:=rv.length; simpa using this
 refine call_all_walk (wpAny_pyIter_list pl.isList ⟨s.heap.objs.size,_,_,_,_,_,fun i => (bs[i]?).getD true,rfl,
  Walks.list (A:=X.A.in1) (show X.A.in1.handled = none from I.ok.hd hc) s.heap.objs.size p (hI p ol hol) its.toArray,⟨⟨_,Heap.get?_push_size _ rfl,rfl,rfl⟩,⟨ol,Heap.get?_push_of_some _ hol,hcl,nl,hdl⟩⟩,?_,?_⟩)
 ·intro i v s' Q' E' hv hQ
  have hv':its[i]? = some v:=by simpa using hv
  have hi:i < its.length:=(List.getElem?_eq_some_iff.mp hv').1
  have hb:bs[i]? = some bs[i]:=by simp [hbs,hi]
  obtain ⟨w',hw,rw'⟩:=rv.get (i:=i) (x:=.bl bs[i]) (by simp [hbs,hi])
  rw [hv'] at hw; cases hw
  cases rw'
  dsimp only at hQ
  rw [hb] at hQ
  exact wpAny_truthy_bool hQ
 ·intro h' tk kk
  have I1:Inv X pins σ H { s with heap:=h',toks:=tk }:=I.kept fun b o e => kk b o (by simpa using hI b o e) (Heap.get?_push_of_some _ e)
  refine ⟨.bl (bs.all id),H,I1,?_,q⟩
  show Value.bool _ = Value.bool _
  congr 1
  rw [List.size_toArray,← hbs]
  rw [Bool.eq_iff_iff,List.all_eq_true,List.all_eq_true]
  constructor
  ·intro h b hb
   obtain ⟨i,hi,rfl⟩:=List.getElem_of_mem hb
   have:=h i (List.mem_range.mpr hi)
   simpa [hi] using this
  ·intro h i hi
   have hi':=List.mem_range.mp hi
   simpa [hi'] using h _ (List.getElem_mem hi')
noncomputable def blsD:List D → Option (List Bool)
 | [] => some []
 | .bl b :: r => (blsD r).map (b :: ·)
 | _ => none
theorem blsD_is {K:PySem.W.Frag} {H:Hp} {O:List Addr}:∀ {vs:List V} {ds:List D} {bs:List Bool},IsL K H O vs ds → blsD ds = some bs → vs = bs.map V.bl
 | _,_,_,.nil,e => by cases e; rfl
 | _,d :: ds,bs,.cons a b,e => by
  cases a <;> simp only [blsD] at e <;> try (cases e; done)
  cases q:blsD ds with
  | none => rw [q] at e; cases e
  | some r =>
   rw [q] at e
   cases e
   rw [blsD_is b q]; rfl
noncomputable def gAll:GL:=fun xs L => match xs with
 | [.ref k] => (match L[k]? with | some (.lst ds) => (match blsD ds with | some bs => some (.bl (bs.all id),L) | none => none) | _ => none)
 | _ => none
theorem cd_all (hc:X.calm = true):CallD X (.builtin "all") gAll:=CallR.weaken (call_all_bls hc) fun vs H Q z3_ => by
 obtain ⟨O,L,xs,d,L',rs,is,e,k⟩:=z3_
 unfold gAll at e
 split at e
 ·split at e
  ·rename_i ds hd
   split at e
   ·rename_i bs hb
    cases e
    cases is with | cons i1 i2 =>
     cases i2
     cases i1 with | ref hk =>
      obtain ⟨vs,hv,il⟩:=rs.ob _ _ _ hk hd
      rw [blsD_is il hb] at hv
      exact ⟨_,bs,rfl,SqL.of hv,k _ _ _ (.refl _ _) rs (.bl _)⟩
   ·cases e
  ·cases e
 ·cases e
end
end L3
set_option maxHeartbeats 4000000
namespace L3
open PySem PySem.Spec PyProof.Rows L2
noncomputable abbrev GM:=D → List D → Sto → Option (D × Sto)
noncomputable def rM (K:PySem.W.Frag) (g:GM):V → List V → Hp → VK → Prop:=fun v vs H Q => ∃ O L x xs d L',RepS K H O L ∧ Is K H O v x ∧ IsL K H O vs xs ∧ g x xs L = some (d,L') ∧
 ∀ w H' O',Step H O H' O' → RepS K H' O' L' → Is K H' O' w d → Q w H'
noncomputable def MtD (X:Cx) (id:String) (g:GM):Prop:=MtR X id (rM X.K g)
theorem MtR.weaken {X:Cx} {id:String} {r r':V → List V → Hp → VK → Prop} (h:MtR X id r) (i:∀ x xs H Q,r' x xs H Q → r x xs H Q):MtR X id r' :=
 fun pins s σ H x xs v us Q I rx rs q => h pins s σ H x xs v us Q I rx rs (i _ _ _ _ q)
noncomputable def tyD (T:String) (x:D) (L:Sto):Bool:=match x with
 | .str _ => T == "str"
 | .fz _ => T == "list"
 | .ref k => match L[k]? with | some (.lst _) => T == "list" | some (.dk _) => T == "dict" | _ => false
 | _ => false
theorem tyD_is {K:PySem.W.Frag} {H:Hp} {O:List Addr} {L:Sto} {T:String} {v:V} {x:D} (rs:RepS K H O L) (i:Is K H O v x) (h:tyD T x L = true):tyV K T v H:=by
 unfold tyD at h
 split at h
 ·cases i
  exact beq_iff_eq.mp h
 ·cases i with | fz hq il => exact .inl ⟨beq_iff_eq.mp h,_,hq.sql⟩
 ·cases i with | ref hk =>
   split at h
   ·rename_i e
    obtain ⟨vs,hv,_⟩:=rs.ob _ _ _ hk e
    exact .inl ⟨beq_iff_eq.mp h,_,SqL.of hv⟩
   ·rename_i e
    obtain ⟨vs,hv,_⟩:=rs.ob _ _ _ hk e
    exact .inr (.inr (.inl ⟨beq_iff_eq.mp h,.inl ⟨_,hv⟩⟩))
   ·cases h
 ·cases h
noncomputable def mthF (T:String) (g:GM) (fo:EF) (fa:AF):EF:=fun ρ L => (fo ρ L).bind fun x => if tyD T x.1 x.2 = true then (fa ρ x.2).bind fun y => g x.1 y.1 y.2 else none
section
variable {X:Cx} {o e:Expr} {es:List Expr} {fo:EF} {fa:AF} {name:Str} {apos cpos:Pos} {T id:String} {g:GM}
theorem ef_bm0 (pa:PlainAttrs T) (slot:Slot T name id) (hty:typeOf (.builtin id) = pure (.type "method_descriptor")) (hm:MtD X id g) (ho:PEf X o fo)
  (hbase:attributeBase o name X.env (eval o X.env) = eval o X.env:=by rfl) (hline:(apos.endLine == cpos.line) = true:=by rfl):PEf X (.Call (.Attribute o name apos) [] [] cpos) (mthF T g fo nilA) :=
 PE.weaken (pe_bm0 pa slot hty hm ho hbase hline) fun σ H Q z3_ => by
  obtain ⟨O,ρ,L,d,L',r,e,k⟩:=z3_
  unfold mthF at e
  cases e1:fo ρ L with
  | none => rw [e1] at e; cases e
  | some p =>
   rw [e1] at e
   simp only [Option.bind_some] at e
   split at e
   ·rename_i ht
    refine ⟨O,ρ,L,p.1,p.2,r,e1,fun v H1 O1 st rs is => ⟨tyD_is rs is ht,O1,p.2,p.1,[],d,L',rs,is,.nil,e,fun w H' O' st' rs' is' => k w H' O' (st.trans st') rs' is'⟩⟩
   ·cases e
theorem ef_bm (pa:PlainAttrs T) (slot:Slot T name id) (hty:typeOf (.builtin id) = pure (.type "method_descriptor")) (hm:MtD X id g) (ho:PEf X o fo) (ha:PAf X (e :: es) fa)
  (hbase:attributeBase o name X.env (eval o X.env) = eval o X.env:=by rfl)
  (hfew:decide ((e :: es).length + ([]:List Keyword).length + (if ([]:List Keyword).isEmpty then 0 else 1) < 30) = true:=by rfl)
  (hline:(apos.endLine == cpos.line) = true:=by rfl) (hs:notStar e = true:=by rfl) (hplain:es.all notStar = true:=by rfl) :
  PEf X (.Call (.Attribute o name apos) (e :: es) [] cpos) (mthF T g fo fa) :=
 PE.weaken (pe_bm pa slot hty hm ho ha hbase (by rw [plain_all (by rw [List.all_cons,hs,hplain]; rfl),hfew]; rfl) hline (starEach_cons hs) (plain_of hplain)) fun σ H Q z3_ => by
  obtain ⟨O,ρ,L,d,L',r,e,k⟩:=z3_
  unfold mthF at e
  cases e1:fo ρ L with
  | none => rw [e1] at e; cases e
  | some p =>
   rw [e1] at e
   simp only [Option.bind_some] at e
   split at e
   ·rename_i ht
    cases e2:fa ρ p.2 with
    | none => rw [e2] at e; cases e
    | some q =>
     rw [e2] at e
     simp only [Option.bind_some] at e
     refine ⟨O,ρ,L,p.1,p.2,r,e1,fun v H1 O1 st rs is => ⟨tyD_is rs is ht,O1,ρ,p.2,q.1,q.2,r.to st rs,e2,fun vs H2 O2 st2 rs2 is2 => ?_⟩⟩
     exact ⟨O2,q.2,p.1,q.1,d,L',rs2,is.mono st2,is2,e,fun w H' O' st' rs' is' => k w H' O' ((st.trans st2).trans st') rs' is'⟩
   ·cases e
noncomputable def gS0b (f:Str → Bool):GM:=fun x xs L => match x,xs with | .str z,[] => some (.bl (f z),L) | _,_ => none
theorem md_b {id:String} {f:Str → Bool} (h:∀ (z:Str) (t:Tok) (s:Shared) (Q E:Value → Shared → Prop),Q (.bool (f z)) s → wpAny (model X.prog X.w) X.A (call (.builtin id) [.str z t]) Q E s):MtD X id (gS0b f) :=
 fun pins s σ H x xs v us Q I rx rs z12_ => by
  obtain ⟨O,L,dx,dxs,d,L',rp,ix,ixs,e,k⟩:=z12_
  unfold gS0b at e
  split at e
  ·cases e; cases ix; cases ixs; cases rs
   obtain ⟨t,rfl⟩:=rx
   exact h _ _ _ _ _ ⟨.bl _,H,I,rfl,k _ _ _ (.refl _ _) rp (.bl _)⟩
  ·cases e
noncomputable def strsD:List D → Option (List Str)
 | [] => some []
 | .str x :: r => (strsD r).map (x :: ·)
 | _ => none
theorem strsD_is {K:PySem.W.Frag} {H:Hp} {O:List Addr}:∀ {vs:List V} {ds:List D} {ys:List Str},IsL K H O vs ds → strsD ds = some ys → vs = ys.map V.str
 | _,_,_,.nil,e => by cases e; rfl
 | _,d :: ds,ys,.cons a b,e => by
  cases a <;> simp only [strsD] at e <;> try (cases e; done)
  cases q:strsD ds with
  | none => rw [q] at e; cases e
  | some r =>
   rw [q] at e
   cases e
   rw [strsD_is b q]; rfl
theorem strsAre_of:∀ {ys:List Str} {us:List Value},Vals (ys.map V.str) us → StrsAre us ys
 | [],_,r => by rw [List.map_nil] at r; cases r; exact .nil
 | y :: ys,_,r => by
  rw [List.map_cons] at r
  cases r with
  | cons r1 r2 => obtain ⟨t,rfl⟩:=r1; exact .cons y t (strsAre_of r2)
noncomputable def gJoin:GM:=fun x xs L => match x,xs with
 | .str sep,[y] => (match seqOf y L with | some ds => (match strsD ds with | some ys => if (ys.map (·.length)).sum + ys.length * sep.length ≤ 16777216 then some (.str (Txt.join sep ys),L) else none | none => none) | none => none)
 | _,_ => none
theorem join_len (sep:Str) (ys:List Str):(Txt.join sep ys).length ≤ (ys.map (·.length)).sum + ys.length * sep.length:=by
 show (Builtin.Str.glued sep ys).length ≤ _
 rw [size_glued]
 exact Nat.add_le_add_left (Nat.mul_le_mul_right _ (Nat.sub_le _ _)) _
theorem md_join:MtD X "str.join" gJoin:=fun pins s σ H x xs v us Q I rx rs z12_ => by
 obtain ⟨O,L,dx,dxs,d,L',rp,ix,ixs,e,k⟩:=z12_
 unfold gJoin at e
 split at e
 ·split at e
  ·rename_i ds hd
   split at e
   ·rename_i ys hy
    split at e
    ·rename_i hz
     cases e
     cases ix
     cases ixs with | cons i1 i2 =>
      cases i2
      obtain ⟨t,rfl⟩:=rx
      obtain ⟨u,rfl,ru⟩:=vals1 rs
      obtain ⟨a,vs,rfl,hs,il⟩:=seqOf_is rp i1 hd
      cases ru
      have e1:=strsD_is il hy
      subst e1
      have fin:∀ t' k',EP X pins σ Q (.str (Txt.join _ ys) t') { s with toks:=k' }:=fun t' k' => ⟨.str _,H,I.tok _,⟨_,rfl⟩,k _ _ _ (.refl _ _) rp (.str _ (Nat.le_trans (join_len _ _) hz))⟩
      rcases hs with hs | hs
      ·obtain ⟨its,rv,pl,_⟩:=I.list hs
       exact join_list pl.isList (by simpa using strsAre_of rv) hz fin
      ·obtain ⟨its,rv,pl,_⟩:=I.tuple hs
       exact join_tuple pl (by simpa using strsAre_of rv) hz fin
    ·cases e
   ·cases e
  ·cases e
 ·cases e
noncomputable def gAppend:GM:=fun x xs L => match x,xs with
 | .ref k,[y] => (match L[k]? with | some (.lst ds) => if ds.length < 16777216 then some (.non,L.set k (.lst (ds ++ [y]))) else none | _ => none)
 | _,_ => none
theorem md_append:MtD X "list.append" gAppend:=MtR.weaken (show MtR X "list.append" rAppend from mt_append) fun v vs H Q z4_ => by
 obtain ⟨O,L,dx,dxs,d,L',rp,ix,ixs,e,k⟩:=z4_
 unfold gAppend at e
 split at e
 ·split at e
  ·rename_i ds hd
   split at e
   ·rename_i hz
    cases e
    cases ix with | @ref kk a hk =>
     cases ixs with | @cons v1 y1 _ _ i1 i2 =>
      cases i2
      obtain ⟨ws,hw,il⟩:=rp.ob _ _ _ hk hd
      refine ⟨_,ws,_,rfl,rfl,hw,by rw [il.length,sizeLine_eq]; exact hz,?_⟩
      have st:Step H O (upd H a (.lst (ws ++ [v1]))) O:=⟨.write hw id,List.prefix_refl _⟩
      exact k _ _ _ st (rp.write (o':=.lst (ds ++ [_])) hk ⟨_,upd_same,(il.mono st).append (.cons (i1.mono st) .nil)⟩) .non
   ·cases e
  ·cases e
 ·cases e
end
noncomputable def tyName (x:D) (L:Sto):Option String:=match x with
 | .non => some "NoneType" | .bl _ => some "bool" | .int _ => some "int" | .str _ => some "str" | .tup _ => some "tuple" | .fz _ => some "list"
 | .ref k => (match L[k]? with | some (.lst _) => some "list" | some (.dk _) => some "dict" | _ => none)
 | .ty _ => none
noncomputable def instOf (t T:String):Bool:=t == T || (t == "bool" && T == "int")
noncomputable def gInst:GL:=fun xs L => match xs with
 | [x,.ty T] => if ["int","str","bool","list","tuple","dict"].contains T then (tyName x L).map fun t => (.bl (instOf t T),L) else none
 | _ => none
section
variable {X:Cx}
theorem kit_tab (K:PySem.W.Frag) {t T:String} (ht:t ∈ ["NoneType","bool","int","str","tuple","list","dict"]) (hT:T ∈ ["int","str","bool","list","tuple","dict"]):PySem.W.kitOne K (.type t) (.type T) = some (instOf t T):=by
 simp only [List.mem_cons,List.not_mem_nil,or_false] at ht hT
 rcases ht with rfl | rfl | rfl | rfl | rfl | rfl | rfl <;> rcases hT with rfl | rfl | rfl | rfl | rfl | rfl <;> first | rfl | decide
theorem cd_inst:CallD X (.builtin "isinstance") gInst:=fun pins s σ H xs us Q I r z9_ => by
 obtain ⟨O,L,ds,d,L',rp,is,e,k⟩:=z9_
 unfold gInst at e
 split at e
 ·rename_i x T
  split at e
  ·rename_i hT
   have hT':T ∈ ["int","str","bool","list","tuple","dict"]:=by simpa using hT
   cases is with | cons i1 i2 => cases i2 with | cons i3 i4 =>
    cases i4
    cases i3
    obtain ⟨u,u2,rfl,r1,r2⟩:=vals2 r
    cases r2
    cases ht:tyName x L with
    | none => rw [ht] at e; cases e
    | some t =>
     rw [ht] at e
     cases e
     have fin:∀ tk,EP X pins σ Q (.bool (instOf t T)) { s with toks:=tk }:=fun tk => ⟨.bl _,H,I.tok _,rfl,k _ _ _ (.refl _ _) rp (.bl _)⟩
     cases i1 with
     | non => cases ht; exact isinst_ok I r1 .non (kit_tab _ (by simp) hT') fin
     | bl b => cases ht; exact isinst_ok I r1 (.bl b) (kit_tab _ (by simp) hT') fin
     | int b => cases ht; exact isinst_ok I r1 (.int b) (kit_tab _ (by simp) hT') fin
     | str b _ => cases ht; exact isinst_ok I r1 (.str b) (kit_tab _ (by simp) hT') fin
     | tup hq il =>
      cases ht
      cases r1
      obtain ⟨its,rv,pl,_⟩:=I.tuple hq
      obtain ⟨o,h1,h2,_⟩:=pl
      exact PySem.W.kia_one PySem.W.kitx_tuple I.kIn ⟨o,h1,h2⟩ (kit_tab _ (by simp) hT') (fun z => nomatch z) fin
     | fz hq il =>
      cases ht
      cases r1
      obtain ⟨its,rv,pl,_⟩:=I.list hq.sql
      obtain ⟨o,h1,h2,_⟩:=pl.isList
      exact PySem.W.kia_one PySem.W.kitx_list I.kIn ⟨o,h1,h2⟩ (kit_tab _ (by simp) hT') (fun z => nomatch z) fin
     | ref hk =>
      simp only [tyName] at ht
      split at ht
      ·rename_i e2
       cases ht
       obtain ⟨vs,hv,_⟩:=rp.ob _ _ _ hk e2
       exact isinst_ok I r1 (.lst hv) (kit_tab _ (by simp) hT') fin
      ·rename_i e2
       cases ht
       obtain ⟨vs,hv,_⟩:=rp.ob _ _ _ hk e2
       exact isinst_ok I r1 (.dK hv) (kit_tab _ (by simp) hT') fin
      ·cases ht
     | ty n => cases ht
  ·cases e
 ·cases e
theorem ef_ty {x:Str} {T:String} {pos:Pos} (hm:X.mg x = none) (hv:bootBuiltins x = some (.type T)) (hg:Gl X x:=by rfl) (hn:x ≠ "__name__":=by decide) (hd:(x == ("__debug__":Str)) = false:=by decide):PEf X (.Name x pos) (cst (.ty T)) :=
 ef_const (pe_bltn hg hm hv (v:=.ty T) rfl hn hd) fun _ _ => .ty T
theorem ef_glob {x:Str} {v:V} {u:Value} {d:D} {pos:Pos} (hm:X.mg x = some u) (r:RelV v u) (i:∀ H O,Is X.K H O v d) (hg:Gl X x:=by rfl) (hd:(x == ("__debug__":Str)) = false:=by decide):PEf X (.Name x pos) (cst d):=ef_const (pe_glob hg hm r hd) i
end
end L3
set_option maxHeartbeats 4000000
namespace L3
open PySem PySem.Spec PyProof.Rows L2
noncomputable def compChk (names fnames:List (Str × NameKind)) (N N':List Str) (n:Nat) (idx:List Nat):Bool :=
 names.all (fun p => !(p.2 == .cell)) && names.all (fun p => !(p.2 == .local) || names.lookup p.1 == some .local) && names.all (fun p => !(p.2 == .free) || fnames.lookup p.1 == some .cell || fnames.lookup p.1 == some .free) &&
 N'.length == n + idx.length && (List.range idx.length).all fun j => match idx[j]? with
  | some i => (match N'[n + j]?,N[i]? with | some x,some y => x == y && names.contains (x,.free) && names.all (fun p => !(p.1 == x) || p.2 == .free) | _,_ => false)
  | none => false
theorem compOk_of {X:Cx} {scope:Scope} {N N':List Str} {n:Nat} {idx:List Nat} {fnames:List (Str × NameKind)} (h1:scope.kind = .function) (hk:∀ x,X.env.kindOf x = fnames.lookup x) (hN:X.N = N) (hc:compChk scope.names fnames N N' n idx = true):CompOk X scope N' n idx:=by
 subst hN
 unfold compChk at hc
 simp only [Bool.and_eq_true] at hc
 obtain ⟨⟨⟨⟨c1,c2⟩,c3⟩,c4⟩,c5⟩:=hc
 rw [List.all_eq_true] at c1 c2 c3 c5
 refine ⟨h1,fun y hy e => ?_,fun y hy e => ?_,fun y hy e => ?_,beq_iff_eq.mp c4,fun j i e => ?_⟩
 ·have:=c1 y hy
  rw [e] at this
  exact absurd this (by decide)
 ·have:=c2 y hy
  rw [e] at this
  simpa using this
 ·have:=c3 y hy
  rw [e] at this
  rw [hk]
  simpa using this
 ·have hj:=(List.getElem?_eq_some_iff.mp e).1
  have:=c5 j (List.mem_range.mpr hj)
  rw [e] at this
  simp only at this
  cases q1:N'[n + j]? with
  | none => simp [q1] at this
  | some x =>
   cases q2:X.N[i]? with
   | none => simp [q1,q2] at this
   | some y =>
    simp only [q1,q2,Bool.and_eq_true] at this
    obtain ⟨⟨a1,a2⟩,a3⟩:=this
    have a1':x = y:=beq_iff_eq.mp a1
    subst a1'
    refine ⟨x,rfl,rfl,by simpa using a2,fun k hk' => ?_⟩
    rw [List.all_eq_true] at a3
    have:=a3 _ hk'
    simpa using this
open PySem.W in
theorem attach_bits {l:OpenLaw} {n:Nat} {q:Program} {loose:List Str} {XP:(Str → Option Value) → Heap → Prop} {YP:World → Heap → Prop} {d:DefRec}
  (hn:l.most = some n) (hdf:d.params.defaults = [])
  (call:∀ (w:World) (s₀ s₁:Shared) (mg mb:Str → Option Value) (fa:Addr) (a:Addr) (vs:List Value) (ns:List Int),
   Ground q loose [] XP w s₀ mg mb s₁.heap → YP w s₁.heap → mg d.name = some (.ref fa) →
   s₁.heap.get? a = some { cls:=.type "list",data:=.seq vs.toArray } → IntsAre vs ns → ns.length ≤ n → (∀ z ∈ ns,Builtin.Int.intBits z ≤ 1048576) → s₁.gens = #[] →
   codeAny (model l.prog w) callerA (.call (.ref fa) ⟨[.ref a],[]⟩) (fun r s' => r = .ok (.ret (.bool true)) ∧ OldK s₁.heap s'.heap ∧ s'.os = s₁.os ∧ AllBare s'.gens) s₁) :
  WalkO q loose XP YP l.row.toRowW d [] (fun f vs => PySem.call f vs):=by
 intro w s₀ s₁ mg mb G Y fa o pm cd doc dV kV ho hd hcd hD hmg hg args vals as hpre hlay hrd hwl hlo
 obtain rfl:dV = .none:=Dflts.none hD hdf
 obtain rfl:kV = .none:=Dflts.noKw hD
 obtain ⟨a,vs,ns,rfl,rfl,hobj,hints,hlen⟩:=Att.script_of hn hpre hwl
 have hb:∀ z ∈ ns,Builtin.Int.intBits z ≤ 1048576:=fun z hz => by
  have h1:=layableW_arg hlay _ List.mem_cons_self
  have h2:=layableW_item h1 (.int z) (List.mem_map.mpr ⟨z,hz,rfl⟩)
  have h3:=(layableW_iff.mp h2).2.2
  simpa only [WData.weight,Builtin.Int.intBits] using h3
 refine enter_call (codeAny_mono (call w s₀ s₁ mg mb fa a vs ns G Y hmg hobj hints hlen hb hg) fun r s' hq => ?_)
 obtain ⟨rfl,h2,h3,h4⟩:=hq
 exact ⟨.inl ⟨.bool true,.bool true,[],rfl,fun _ => rfl,.bool true,Att.post_true l _,fun _ => ⟨List.Pairwise.nil,fun _ hm => (nomatch hm)⟩⟩,h2,h3,h4⟩
theorem isl_ints {K:PySem.W.Frag} {H:Hp} {O:List Addr}:∀ ns:List Int,IsL K H O (ns.map V.int) (ns.map D.int)
 | [] => .nil
 | n :: ns => .cons (.int n) (isl_ints ns)
theorem walk_f {l:PySem.W.OpenLaw} {n k:Nat} {q:Program} {loose:List Str} {XP:(Str → Option Value) → Heap → Prop} {YP:World → Heap → Prop} {d:DefRec} {K:Params → PySem.W.Frag} {x:Str} {G:GL}
  (hn:l.most = some n) (hn2:n ≤ sizeLine) (hdf:d.params.defaults = []) (hr:Room k callerA)
  (hY:∀ (w:World) (h:Heap),YP w h → (K w.params).In h)
  (F:∀ (w:World) (mg:Str → Option Value) (fa:Addr) (h:Heap),(K w.params).In h → h.Ns mainGlobals mg → mg d.name = some (.ref fa) →
   ∃ fd:FuncData,(∀ (s:Shared) (u:Value),BindsTo s fd ⟨[u],[]⟩ [(x,u)]) ∧
    ∀ base:Heap,(K w.params).In base → base.Ns mainGlobals mg → FnOk l.prog w (K w.params) mg base CX0 k fa fd [x] (spF (K w.params) G))
  (hG:∀ ns:List Int,ns.length ≤ n → (∀ z ∈ ns,Builtin.Int.intBits z ≤ 1048576) → ∃ L',G [.fz (ns.map .int)] [] = some (.bl true,L')) :
  PySem.W.WalkO q loose XP YP l.row.toRowW d [] (fun f vs => PySem.call f vs):=by
 refine attach_bits hn hdf fun w s₀ s₁ mg mb fa a vs ns GG Y hmg hobj hints hlen hb hg => ?_
 have KX:=hY w _ Y
 obtain ⟨fd,hbd,hF⟩:=F w mg fa _ KX GG.T.g hmg
 refine law_call KX GG.T.g GG.T.b GG.T.builtins GG.T.nolimit hg hobj hints (Nat.le_trans hlen hn2) hr hF hbd (fun H hO hS => ?_) fun H e s' h => h
 obtain ⟨L',e⟩:=hG ns hlen hb
 have hS':SqF (K w.params) H a (ns.map V.int):=by
  rcases hS with (h | h) | h
  ·rcases hO a with z | ⟨o,xs,z⟩
   ·rw [h] at z; cases z
   ·rw [h] at z; cases z
  ·exact .inl h
  ·exact .inr h
 exact ⟨[],[],[.fz (ns.map .int)],.bl true,L',⟨rfl,List.nodup_nil,fun k a o e => by simp at e⟩,.cons (.fz hS' (isl_ints ns)) .nil,e,fun w' H' O' st rs is => by cases is; rfl⟩
end L3
set_option maxHeartbeats 4000000
namespace L3
open PySem PySem.Spec PyProof.Rows L2
section
variable {X:Cx} {a l tg:Expr} {f:EF} {pos:Pos}
noncomputable def gNeg:G1:=fun x L => match x with | .int i => some (.int (-i),L) | _ => none
theorem ef_neg (ha:PEf X a f):PEf X (.UnaryOp .USub a pos) (un1 gNeg f):=PE.weaken (pe_un un_neg ha) fun σ H Q z3_ => by
 obtain ⟨O,ρ,L,d,L',r,e,k⟩:=z3_
 unfold un1 at e
 cases e1:f ρ L with
 | none => rw [e1] at e; cases e
 | some p =>
  rw [e1] at e
  obtain ⟨x,L1⟩:=p
  cases x <;> simp only [Option.bind_some,gNeg] at e <;> try (cases e; done)
  cases e
  refine ⟨O,ρ,L,_,_,r,e1,fun v H1 O1 st rs is => ?_⟩
  cases is
  exact ⟨_,rfl,k _ _ _ st rs (.int _)⟩
structure GCon (K:PySem.W.Frag) (mg:Str → Option Value) (x:Str) (d:D):Prop where
 ex:∃ v u,mg x = some u ∧ RelV v u ∧ ∀ H O,Is K H O v d
theorem ef_gcon {x:Str} {d:D} (h:GCon X.K X.mg x d) (hg:Gl X x:=by rfl) (hd:(x == ("__debug__":Str)) = false:=by decide):PEf X (.Name x pos) (cst d):=by
 obtain ⟨v,u,a,b,c⟩:=h.ex
 exact ef_glob a b c hg hd
noncomputable def itOf (d:D) (L:Sto):Option ItD:=match d with
 | .tup xs => some ⟨xs,fun _ => true⟩
 | .fz xs => some ⟨xs,fun _ => true⟩
 | .ref k => (match L[k]? with | some (.lst xs) => some ⟨xs,fun L' => decide (L'[k]? = some (.lst xs))⟩ | _ => none)
 | .str y => some ⟨sgs y,fun _ => true⟩
 | _ => none
noncomputable def iAnyF (f:EF):IF:=fun ρ L => (f ρ L).bind fun x => (itOf x.1 x.2).bind fun J => some (J,x.2)
theorem pif_any (hl:PEf X l f):PIf X tg l (iAnyF f):=fun pins s σ H R I z6_ => by
 obtain ⟨O,ρ,L,J,L',r,e,k⟩:=z6_
 unfold iAnyF at e
 cases e1:f ρ L with
 | none => rw [e1] at e; cases e
 | some p =>
  rw [e1] at e
  obtain ⟨d,L1⟩:=p
  simp only [Option.bind_some] at e
  cases d <;> simp only [itOf,Option.bind_some,Option.bind_none] at e <;> try (cases e; done)
  ·exact pif_str hl pins s σ H R I ⟨O,ρ,L,J,L',r,by simp only [iStrF,e1,Option.bind_some]; exact e,k⟩
  ·exact pif_tup hl pins s σ H R I ⟨O,ρ,L,J,L',r,by simp only [iTupF,e1,Option.bind_some]; exact e,k⟩
  ·exact pif_lst hl pins s σ H R I ⟨O,ρ,L,J,L',r,by simp only [iLstF,e1,Option.bind_some]; exact e,k⟩
  ·rename_i kk
   refine pif_lst hl pins s σ H R I ⟨O,ρ,L,J,L',r,?_,k⟩
   simp only [iLstF,e1,Option.bind_some]
   cases e2:L1[kk]? with
   | none => rw [e2] at e; cases e
   | some o => rw [e2] at e; cases o <;> simp at e ⊢ <;> exact e
end
theorem bt_int:bootBuiltins "int" = some (.type "int"):=by decide +kernel
theorem bt_str:bootBuiltins "str" = some (.type "str"):=by decide +kernel
theorem bt_bool:bootBuiltins "bool" = some (.type "bool"):=by decide +kernel
theorem bt_tuple:bootBuiltins "tuple" = some (.type "tuple"):=by decide +kernel
theorem bt_len:bootBuiltins "len" = some (.builtin "len"):=by decide +kernel
theorem bt_min:bootBuiltins "min" = some (.builtin "min"):=by decide +kernel
theorem bt_max:bootBuiltins "max" = some (.builtin "max"):=by decide +kernel
theorem bt_all:bootBuiltins "all" = some (.builtin "all"):=by decide +kernel
theorem bt_isinstance:bootBuiltins "isinstance" = some (.builtin "isinstance"):=by decide +kernel
noncomputable def BlOk (mg:Str → Option Value) (ns:List Str):Prop:=∀ x ∈ ns,mg x = none
theorem BlOk.get {mg:Str → Option Value} {ns:List Str} (h:BlOk mg ns) (x:Str) (hx:x ∈ ns:=by decide):mg x = none:=h x hx
noncomputable def atTop (p:Program) (i:Nat):Stmt:=p.main.body.getD i (.Pass ⟨0,0,0,0⟩)
end L3
set_option maxHeartbeats 4000000
namespace L3
open PySem PySem.Spec PyProof.Rows L2
noncomputable def runG (B:SF) (N:List Str) (n:Nat):GL:=fun xs L => if xs.length = n then
  (match B (startD N xs) L with
   | some (.ret d L2) => some (if d.noRef = true ∧ L2.take L.length = L then (d,L) else (d,L2))
   | some (.next _ L2) => some (if L2.take L.length = L then (.non,L) else (.non,L2))
   | _ => none)
 else none
theorem pre_of_take {L L2:Sto} (h:L2.take L.length = L):L <+: L2:=⟨L2.drop L.length,by have:=List.take_append_drop L.length L2; rw [h] at this; exact this⟩
theorem runG_runs {B:SF} {N:List Str} {n:Nat} {xs:List D} {L:Sto} {d:D} {L':Sto} (h:runG B N n xs L = some (d,L')):Runs B N xs L d L':=by
 unfold runG at h
 split at h
 ·split at h
  ·rename_i d2 L2 e
   split at h
   ·rename_i c
    cases h
    exact ⟨L2,.inl e,.inr ⟨rfl,pre_of_take c.2,c.1⟩⟩
   ·cases h
    exact ⟨_,.inl e,.inl rfl⟩
  ·rename_i ρ L2 e
   split at h
   ·rename_i c
    cases h
    exact ⟨L2,.inr ⟨rfl,ρ,e⟩,.inr ⟨rfl,pre_of_take c,rfl⟩⟩
   ·cases h
    exact ⟨_,.inr ⟨rfl,ρ,e⟩,.inl rfl⟩
  ·cases h
 ·cases h
theorem runG_len {B:SF} {N:List Str} {n:Nat} {xs:List D} {L:Sto} {r:D × Sto} (h:runG B N n xs L = some r):xs.length = n:=by
 unfold runG at h
 split at h
 ·assumption
 ·cases h
section
variable {P:Program} {w:World} {K:PySem.W.Frag} {mg:Str → Option Value} {base:Heap}
theorem fnd_of {x qual:Str} {st:Stmt} {f:Addr} {fd:FuncData} {N ps:List Str} {k:Nat} {B:SF} (Fn:Fun K x qual st f fd) (S:FnScope N ps (defScope st))
  (hb:∀ (cdv:Value) (A:Around) (outer:List Env) (s:Shared) (H:Hp) (E:XK),Room k (A.deeper (envOfC qual (defScope st) s.heap.objs.size f cdv)) →
   PSsf (cxOf CX0 P w K mg base N qual (defScope st) f cdv A outer s H E).nox (defBody st) B)
  (bi:Binds K fd ps []) (m:mg x = some (.ref f)) (kp:PySem.W.keepIn K (.ref f) = true):FnD P w K mg base (k + 1) x (runG B N ps.length) :=
 ⟨f,fd,ps,fn_f Fn S _ B (fun _ _ _ h => runG_len h) hb (fun _ _ _ _ h => runG_runs h),m,kp,bi⟩
structure TupK (K:PySem.W.Frag) (u:Value) (d:D):Prop where
 ex:∃ v,RelV v u ∧ ∀ H O,Is K H O v d
theorem tupk_int {i:Int} {t:Tok}:TupK K (.int i t) (.int i):=⟨.int i,⟨t,rfl⟩,fun _ _ => .int i⟩
theorem tupk_str {x:Str} {t:Tok} (h:x.length ≤ 16777216):TupK K (.str x t) (.str x):=⟨.str x,⟨t,rfl⟩,fun _ _ => .str x h⟩
theorem tupk_non:TupK K .none .non:=⟨.non,rfl,fun _ _ => .non⟩
inductive TupsK (K:PySem.W.Frag):List Value → List D → Prop
 | nil:TupsK K [] []
 | cons {u:Value} {d:D} {us:List Value} {ds:List D}:TupK K u d → TupsK K us ds → TupsK K (u :: us) (d :: ds)
theorem TupsK.get:∀ {us:List Value} {ds:List D},TupsK K us ds → ∃ vs,Vals vs us ∧ ∀ H O,IsL K H O vs ds
 | _,_,.nil => ⟨[],.nil,fun _ _ => .nil⟩
 | _,_,.cons a b => by
  obtain ⟨v,r,i⟩:=a.ex
  obtain ⟨vs,rs,is⟩:=b.get
  exact ⟨v :: vs,.cons r rs,fun H O => .cons (i H O) (is H O)⟩
theorem tupk_tup {a:Addr} {od:Option Addr} {its:List Value} {n:Nat} {sl:Array (Option Value)} {ds:List D} (l:K.lookup a = some ⟨.type "tuple",od,.seq its.toArray n,sl⟩) (hz:its.length ≤ sizeLine) (t:TupsK K its ds):TupK K (.ref a) (.tup ds):=by
 obtain ⟨vs,rv,is⟩:=t.get
 exact ⟨.ref a,rfl,fun H O => .tup (.inr ⟨_,its.toArray,n,l,rfl,rfl,by simpa using hz,by simpa using rv⟩) (is H O)⟩
theorem gcon_of {x:Str} {u:Value} {d:D} (m:mg x = some u) (t:TupK K u d):GCon K mg x d:=by
 obtain ⟨v,r,i⟩:=t.ex
 exact ⟨v,u,m,r,i⟩
end
theorem len1 {α:Type} {us:List α} (h:us.length = 1):∃ a,us = [a]:=List.length_eq_one_iff.mp h
theorem lenS {α:Type} {us:List α} {n:Nat} (h:us.length = n + 1):∃ a vs,us = a :: vs ∧ vs.length = n:=by
 cases us with
 | nil => cases h
 | cons a vs => exact ⟨a,vs,rfl,Nat.succ.inj h⟩
theorem len2 {α:Type} {us:List α} (h:us.length = 2):∃ a b,us = [a,b]:=by
 obtain ⟨a,vs,rfl,h'⟩:=lenS h
 obtain ⟨b,rfl⟩:=len1 h'
 exact ⟨a,b,rfl⟩
theorem len3 {α:Type} {us:List α} (h:us.length = 3):∃ a b c,us = [a,b,c]:=by
 obtain ⟨a,vs,rfl,h'⟩:=lenS h
 obtain ⟨b,c,rfl⟩:=len2 h'
 exact ⟨a,b,c,rfl⟩
end L3
set_option maxHeartbeats 4000000
namespace L3
open PySem PySem.Spec PyProof.Rows L2
noncomputable def shp (x:D) (L:Sto):Option (Bool × List D):=match x with
 | .tup xs => some (true,xs)
 | .fz xs => some (false,xs)
 | .ref k => (match L[k]? with | some (.lst xs) => some (false,xs) | _ => none)
 | _ => none
noncomputable def allO:List (Option Bool) → Option Bool
 | [] => some true
 | none :: _ => none
 | some b :: r => (allO r).map (b && ·)
noncomputable def eqN:Nat → Sto → D → D → Option Bool
 | 0,_,_,_ => none
 | n + 1,L,x,y =>
  if flatD x = true then (if flatD y = true then some (eqP x y) else (shp y L).map fun _ => false)
  else (shp x L).bind fun p => if flatD y = true then some false else (shp y L).bind fun q =>
   if p.1 = q.1 then (allO ((p.2.zip q.2).map fun z => eqN n L z.1 z.2)).map (· && p.2.length == q.2.length) else some false
theorem eqN_succ (n:Nat) (L:Sto) (x y:D):eqN (n + 1) L x y = if flatD x = true then (if flatD y = true then some (eqP x y) else (shp y L).map fun _ => false)
  else (shp x L).bind fun p => if flatD y = true then some false else (shp y L).bind fun q =>
   if p.1 = q.1 then (allO ((p.2.zip q.2).map fun z => eqN n L z.1 z.2)).map (· && p.2.length == q.2.length) else some false:=rfl
theorem allO_get:∀ {os:List (Option Bool)} {b:Bool},allO os = some b → ∃ bs:List Bool,os = bs.map some ∧ b = bs.all id
 | [],b,h => by cases h; exact ⟨[],rfl,rfl⟩
 | none :: _,b,h => by cases h
 | some c :: r,b,h => by
  simp only [allO] at h
  cases e:allO r with
  | none => rw [e] at h; cases h
  | some d =>
   rw [e] at h
   cases h
   obtain ⟨bs,e1,e2⟩:=allO_get e
   exact ⟨c :: bs,by rw [e1]; rfl,by rw [e2]; rfl⟩
section
variable {X:Cx} {pins:List (Addr × Obj)} {σ:L2.St} {H:Hp} {s:Shared} {O:List Addr} {L:Sto}
theorem shp_is (I:Inv X pins σ H s) (rs:RepS X.K H O L) {v:V} {x:D} {t:Bool} {xs:List D} (i:Is X.K H O v x) (e:shp x L = some (t,xs)) :
  ∃ (a:Addr) (vs:List V) (its:List Value),v = .ref a ∧ IsL X.K H O vs xs ∧ Vals vs its ∧ (if t = true then s.heap.IsTuple a its.toArray else s.heap.IsList a its.toArray):=by
 cases i with
 | tup h il =>
  cases e
  obtain ⟨its,r,hp,_⟩:=I.tuple h
  exact ⟨_,_,its,rfl,il,r,hp⟩
 | fz h il =>
  cases e
  obtain ⟨its,r,hp,_⟩:=I.list h.sql
  exact ⟨_,_,its,rfl,il,r,hp.isList⟩
 | ref hk =>
  simp only [shp] at e
  split at e
  ·rename_i ys e2
   cases e
   obtain ⟨vs,hv,iv⟩:=rs.ob _ _ _ hk e2
   obtain ⟨its,r,hp,_⟩:=I.list (SqL.of hv)
   exact ⟨_,vs,its,rfl,iv,r,hp.isList⟩
  ·cases e
 | _ => cases e
theorem seq_inj {a:Addr} {us ws:List Value} {t:Bool} (h1:if t = true then s.heap.IsTuple a us.toArray else s.heap.IsList a us.toArray) (h2:if t = true then s.heap.IsTuple a ws.toArray else s.heap.IsList a ws.toArray):us = ws:=by
 have q:us.toArray = ws.toArray:=by
  cases t
  ·obtain ⟨o,ho,hc,n,hd⟩:=h1
   obtain ⟨o2,ho2,hc2,n2,hd2⟩:=h2
   rw [ho] at ho2; cases ho2
   rw [hd] at hd2; cases hd2; rfl
  ·obtain ⟨o,ho,hc,n,hd⟩:=h1
   obtain ⟨o2,ho2,hc2,n2,hd2⟩:=h2
   rw [ho] at ho2; cases ho2
   rw [hd] at hd2; cases hd2; rfl
 simpa using congrArg Array.toList q
theorem flat_ne_ref {v:V} {x:D} {a:Addr} (i:Is X.K H O v x) (f:flatD x = true):v ≠ .ref a:=by
 cases i <;> first | (intro z; cases z; done) | (simp [flatD] at f)
theorem eqP_self {x:D} (f:flatD x = true):eqP x x = true:=by
 cases x <;> simp [flatD] at f <;> simp [eqP,toV,eqV]
theorem eqN_same (I:Inv X pins σ H s) (rs:RepS X.K H O L):∀ (n:Nat) {v:V} {x y:D} {b:Bool},Is X.K H O v x → Is X.K H O v y → eqN n L x y = some b → b = true
 | 0,_,_,_,_,_,_,e => by cases e
 | n + 1,v,x,y,b,ix,iy,e => by
  simp only [eqN] at e
  by_cases fx:flatD x = true
  ·rw [if_pos fx] at e
   by_cases fy:flatD y = true
   ·rw [if_pos fy] at e
    cases e
    have:x = y:=(toV_inj fx fy).mp ((flat_toV ix fx).symm.trans (flat_toV iy fy))
    subst this
    exact eqP_self fx
   ·rw [if_neg fy] at e
    cases hy:shp y L with
    | none => rw [hy] at e; cases e
    | some q =>
     obtain ⟨a,_,_,hv,_⟩:=shp_is I rs iy hy
     exact absurd hv (flat_ne_ref ix fx)
  ·rw [if_neg fx] at e
   cases hx:shp x L with
   | none => rw [hx] at e; cases e
   | some p =>
    rw [hx] at e
    simp only [Option.bind_some] at e
    obtain ⟨a,vs,its,hv,il,r,hp⟩:=shp_is I rs ix hx
    by_cases fy:flatD y = true
    ·exact absurd hv (flat_ne_ref iy fy)
    ·rw [if_neg fy] at e
     cases hy:shp y L with
     | none => rw [hy] at e; cases e
     | some q =>
      rw [hy] at e
      simp only [Option.bind_some] at e
      obtain ⟨a',vs',its',hv',il',r',hp'⟩:=shp_is I rs iy hy
      rw [hv] at hv'
      cases hv'
      obtain ⟨t,xs⟩:=p
      obtain ⟨t',ys⟩:=q
      simp only at e hp hp' il il'
      by_cases ht:t = t'
      ·subst ht
       rw [if_pos rfl] at e
       have hits:=seq_inj hp hp'
       subst hits
       have hvs:=r.inj r'
       subst hvs
       cases q:allO ((xs.zip ys).map fun z => eqN n L z.1 z.2) with
       | none => rw [q] at e; cases e
       | some c =>
        rw [q] at e
        cases e
        obtain ⟨bs,e1,rfl⟩:=allO_get q
        rw [Bool.and_eq_true]
        refine ⟨?_,beq_iff_eq.mpr (il.length.symm.trans il'.length)⟩
        rw [List.all_eq_true]
        intro c hc
        obtain ⟨j,hj,rfl⟩:=List.getElem_of_mem hc
        have e2:((xs.zip ys).map fun z => eqN n L z.1 z.2)[j]? = some (some bs[j]):=by rw [e1]; simp [hj]
        rw [List.getElem?_map] at e2
        cases e3:(xs.zip ys)[j]? with
        | none => rw [e3] at e2; cases e2
        | some z =>
         rw [e3] at e2
         simp only [Option.map_some,Option.some.injEq] at e2
         rw [List.getElem?_zip_eq_some] at e3
         obtain ⟨v1,h1,i1⟩:=il.get e3.1
         obtain ⟨v2,h2,i2⟩:=il'.get e3.2
         rw [h1] at h2; cases h2
         exact eqN_same I rs n i1 i2 e2
      ·exfalso
       cases t <;> cases t' <;> first | exact ht rfl | skip
       ·exact SeqAt.ne_of_list_tuple hp hp' rfl
       ·exact SeqAt.ne_of_list_tuple hp' hp rfl
theorem flat_seq_eqAt {A:Around} {v u:V} {a:Addr} {w w':Value} {its:List Value} {t:Bool} (hu:A.units < cLine) (f:flatV v = true) (rv:RelV v w) (hp:if t = true then s.heap.IsTuple a its.toArray else s.heap.IsList a its.toArray) :
  SeqAt.EqAt A s w (.ref a) false ∧ SeqAt.EqAt A s (.ref a) w false:=by
 cases v with
 | non => cases rv; cases t; exact ⟨.none_list hp hu,.list_none hp hu⟩; exact ⟨.none_tuple hp hu,.tuple_none hp hu⟩
 | bl b => cases rv; cases t; exact ⟨.bool_list b hp hu,.list_bool b hp hu⟩; exact ⟨.bool_tuple b hp hu,.tuple_bool b hp hu⟩
 | int b => obtain ⟨k,rfl⟩:=rv; cases t; exact ⟨.int_list b k hp hu,.list_int b k hp hu⟩; exact ⟨.int_tuple b k hp hu,.tuple_int b k hp hu⟩
 | str b => obtain ⟨k,rfl⟩:=rv; cases t; exact ⟨.str_list b k hp hu,.list_str b k hp hu⟩; exact ⟨.str_tuple b k hp hu,.tuple_str b k hp hu⟩
 | _ => cases f
theorem all_range (bs:List Bool):(List.range bs.length).all (fun j => bs.getD j false) = bs.all id:=by
 rw [Bool.eq_iff_iff,List.all_eq_true,List.all_eq_true]
 constructor
 ·intro h c hc
  obtain ⟨j,hj,rfl⟩:=List.getElem_of_mem hc
  have:=h j (List.mem_range.mpr hj)
  simpa [hj] using this
 ·intro h j hj
  have hj':=List.mem_range.mp hj
  have:=h bs[j] (List.getElem_mem hj')
  simpa [hj'] using this
theorem pairs_eqAt {A:Around} {xs ys:List D} {vs ws:List V} {us zs:List Value} {n:Nat} {bs:List Bool} (ix:IsL X.K H O vs xs) (iy:IsL X.K H O ws ys) (rx:Vals vs us) (ry:Vals ws zs)
  (e1:(xs.zip ys).map (fun z => eqN n L z.1 z.2) = bs.map some)
  (rec:∀ {v w:V} {x y:D} {u z:Value} {b:Bool},Is X.K H O v x → Is X.K H O w y → RelV v u → RelV w z → eqN n L x y = some b → SeqAt.EqAt A s u z b) :
  ∀ j (h1:j < us.toArray.size) (h2:j < zs.toArray.size),SeqAt.EqAt A s us.toArray[j] zs.toArray[j] (bs.getD j false):=by
 intro j h1 h2
 have h1':j < us.length:=by simpa using h1
 have h2':j < zs.length:=by simpa using h2
 have hx:j < xs.length:=by rw [← ix.length,rx.length]; exact h1'
 have hy:j < ys.length:=by rw [← iy.length,ry.length]; exact h2'
 obtain ⟨v,hv,iv⟩:=ix.get (i:=j) (d:=xs[j]) (by simp [hx])
 obtain ⟨w,hw,iw⟩:=iy.get (i:=j) (d:=ys[j]) (by simp [hy])
 obtain ⟨u,hu,ru⟩:=rx.get hv
 obtain ⟨z,hz,rz⟩:=ry.get hw
 have eu:us.toArray[j] = u:=by
  have:=List.getElem?_eq_some_iff.mp hu
  obtain ⟨_,q⟩:=this; simpa using q
 have ez:zs.toArray[j] = z:=by
  have:=List.getElem?_eq_some_iff.mp hz
  obtain ⟨_,q⟩:=this; simpa using q
 rw [eu,ez]
 have hb:j < bs.length:=by
  have:=congrArg List.length e1
  simp at this
  omega
 have e2:((xs.zip ys).map fun z => eqN n L z.1 z.2)[j]? = some (some bs[j]):=by rw [e1]; simp [hb]
 have e3:(xs.zip ys)[j]? = some (xs[j],ys[j]):=by rw [List.getElem?_zip_eq_some]; exact ⟨by simp [hx],by simp [hy]⟩
 rw [List.getElem?_map,e3] at e2
 simp only [Option.map_some,Option.some.injEq] at e2
 have e4:bs.getD j false = bs[j]:=by simp [hb]
 rw [e4]
 exact rec iv iw ru rz e2
theorem seq_rcAt {A:Around} {a c:Addr} {xs ys:List D} {vs ws:List V} {us zs:List Value} {n:Nat} {t b:Bool} (hu:A.units < cLine) (ix:IsL X.K H O vs xs) (iy:IsL X.K H O ws ys) (rx:Vals vs us) (ry:Vals ws zs)
  (hp:if t = true then s.heap.IsTuple a us.toArray else s.heap.IsList a us.toArray) (hq:if t = true then s.heap.IsTuple c zs.toArray else s.heap.IsList c zs.toArray)
  (e:(allO ((xs.zip ys).map fun z => eqN n L z.1 z.2)).map (· && xs.length == ys.length) = some b)
  (rec:∀ {v w:V} {x y:D} {u z:Value} {b:Bool},Is X.K H O v x → Is X.K H O w y → RelV v u → RelV w z → eqN n L x y = some b → SeqAt.EqAt A.in1 s u z b) :
  SeqAt.RcAt A s (.ref a) (.ref c) b ∧ SeqAt.RcNeAt A s (.ref a) (.ref c) (!b):=by
 cases q:allO ((xs.zip ys).map fun z => eqN n L z.1 z.2) with
 | none => rw [q] at e; cases e
 | some k =>
  rw [q] at e
  cases e
  obtain ⟨bs,e1,rfl⟩:=allO_get q
  have he:=pairs_eqAt ix iy rx ry e1 rec
  have lx:us.toArray.size = xs.length:=by simp [← rx.length,ix.length]
  have ly:zs.toArray.size = ys.length:=by simp [← ry.length,iy.length]
  have lb:bs.length = min xs.length ys.length:=by
   have:=congrArg List.length e1
   simpa using this.symm
  cases t
  ·by_cases hl:xs.length = ys.length
   ·have h1:=SeqAt.RcAt.lists hp hq (by omega) hu he
    have h2:=SeqAt.RcNeAt.lists hp hq (by omega) hu he
    rw [show us.toArray.size = bs.length by omega,all_range] at h1 h2
    have:(xs.length == ys.length) = true:=beq_iff_eq.mpr hl
    rw [this]
    simp only [Bool.and_true]
    exact ⟨h1,h2⟩
   ·have:(xs.length == ys.length) = false:=by simpa using hl
    rw [this]
    simp only [Bool.and_false]
    have hne:(us.toArray.size != zs.toArray.size) = true:=by rw [lx,ly]; simpa using hl
    exact ⟨SeqAt.RcAt.lists_lengths hp hq hne hu,SeqAt.RcNeAt.lists_lengths hp hq hne hu⟩
  ·have h1:=SeqAt.RcAt.tuples hp hq hu he
   have h2:=SeqAt.RcNeAt.tuples hp hq hu he
   rw [lx,ly,← lb,all_range] at h1 h2
   exact ⟨h1,h2⟩
theorem eqN_eqAt (I:Inv X pins σ H s) (rs:RepS X.K H O L):∀ (n:Nat) {A:Around} {v w:V} {x y:D} {u z:Value} {b:Bool},A.units + n < cLine → Is X.K H O v x → Is X.K H O w y → RelV v u → RelV w z → eqN n L x y = some b → SeqAt.EqAt A s u z b
 | 0,_,_,_,_,_,_,_,_,_,_,_,_,_,e => by cases e
 | n + 1,A,v,w,x,y,u,z,b,hu,ix,iy,ru,rz,e => by
  have e0:=e
  simp only [eqN] at e
  by_cases fx:flatD x = true
  ·rw [if_pos fx] at e
   by_cases fy:flatD y = true
   ·rw [if_pos fy] at e
    cases e
    have h1:=flat_toV ix fx
    have h2:=flat_toV iy fy
    subst h1 h2
    exact eqAt_V ru rz (flatV_toV fx) (flatV_toV fy)
   ·rw [if_neg fy] at e
    cases hy:shp y L with
    | none => rw [hy] at e; cases e
    | some q =>
     rw [hy] at e
     cases e
     obtain ⟨a,_,its,rfl,_,_,hp⟩:=shp_is I rs iy hy
     cases rz
     have h1:=flat_toV ix fx
     subst h1
     exact (flat_seq_eqAt (u:=.non) (w':=.none) (by omega) (flatV_toV fx) ru hp).1
  ·rw [if_neg fx] at e
   cases hx:shp x L with
   | none => rw [hx] at e; cases e
   | some p =>
    rw [hx] at e
    simp only [Option.bind_some] at e
    obtain ⟨a,vs,its,rfl,il,r,hp⟩:=shp_is I rs ix hx
    cases ru
    by_cases fy:flatD y = true
    ·rw [if_pos fy] at e
     cases e
     have h1:=flat_toV iy fy
     subst h1
     exact (flat_seq_eqAt (u:=.non) (w':=.none) (by omega) (flatV_toV fy) rz hp).2
    ·rw [if_neg fy] at e
     cases hy:shp y L with
     | none => rw [hy] at e; cases e
     | some q =>
      rw [hy] at e
      simp only [Option.bind_some] at e
      obtain ⟨c,ws,zs,rfl,il',r',hp'⟩:=shp_is I rs iy hy
      cases rz
      obtain ⟨t,xs⟩:=p
      obtain ⟨t',ys⟩:=q
      simp only at e hp hp' il il'
      by_cases ht:t = t'
      ·subst ht
       rw [if_pos rfl] at e
       by_cases hac:a = c
       ·subst hac
        have:=eqN_same I rs (n + 1) ix iy e0
        subst this
        exact .same _
       ·refine .of_refs hac (seq_rcAt (by omega) il il' r r' hp hp' e fun a1 a2 a3 a4 a5 => eqN_eqAt I rs n ?_ a1 a2 a3 a4 a5).1
        rw [Around.in1_units]; omega
      ·rw [if_neg ht] at e
       cases e
       cases t <;> cases t' <;> first | exact absurd rfl ht | skip
       ·exact .list_tuple hp hp' (by omega)
       ·exact .tuple_list hp hp' (by omega)
end
noncomputable def seqD (x:D) (L:Sto):Bool:=(shp x L).isSome
noncomputable def gEqD:G2:=fun x y L => if scalD x y = true then some (.bl (decide (x = y)),L) else if (seqD x L && seqD y L) = true then (eqN 30 L x y).map fun b => (.bl b,L) else none
noncomputable def gNeD:G2:=fun x y L => if scalD x y = true then some (.bl (!decide (x = y)),L) else if (seqD x L && seqD y L) = true then (match shp x L,shp y L with
  | some (t,_),some (t',_) => if t = t' then (eqN 30 L x y).map fun b => (.bl (!b),L) else none
  | _,_ => none) else none
section
variable {X:Cx}
theorem shp_flat {x:D} {L:Sto} {p:Bool × List D} (h:shp x L = some p):flatD x = false:=by cases x <;> first | rfl | (simp [shp] at h)
theorem eq_deep (hu:X.A.units + 64 < cLine):OpR X (compareOp .Eq) (fun v u H Q => ∃ O L x y b,RepS X.K H O L ∧ Is X.K H O v x ∧ Is X.K H O u y ∧ seqD x L = true ∧ seqD y L = true ∧ eqN 30 L x y = some b ∧ Q (.bl b) H):=by
 intro pins s σ H v u w z Q I rv ru h
 obtain ⟨O,L,x,y,b,rs,ix,iy,sx,sy,e,q⟩:=h
 unfold seqD at sx sy
 obtain ⟨⟨t,xs⟩,hx⟩:=Option.isSome_iff_exists.mp sx
 obtain ⟨⟨t',ys⟩,hy⟩:=Option.isSome_iff_exists.mp sy
 have fx:=shp_flat hx
 have fy:=shp_flat hy
 rw [show (30:Nat) = 29 + 1 from rfl,eqN_succ,if_neg (by rw [fx]; exact Bool.false_ne_true),hx,Option.bind_some,if_neg (by rw [fy]; exact Bool.false_ne_true),hy,Option.bind_some] at e
 obtain ⟨a,vs,its,rfl,il,r,hp⟩:=shp_is I rs ix hx
 obtain ⟨c,ws,zs,rfl,il',r',hp'⟩:=shp_is I rs iy hy
 cases rv
 cases ru
 simp only at e
 by_cases ht:t = t'
 ·subst ht
  rw [if_pos rfl] at e
  exact (seq_rcAt (by omega) il il' r r' hp hp' e fun a1 a2 a3 a4 a5 => eqN_eqAt I rs 29 (by rw [Around.in1_units]; omega) a1 a2 a3 a4 a5).1 _ _ _ _ ⟨.bl b,H,I,rfl,q⟩
 ·rw [if_neg ht] at e
  cases e
  cases t <;> cases t' <;> first | exact absurd rfl ht | skip
  ·exact SeqAt.RcAt.list_tuple hp hp' (by omega) _ _ _ _ ⟨.bl _,H,I,rfl,q⟩
  ·exact SeqAt.RcAt.tuple_list hp hp' (by omega) _ _ _ _ ⟨.bl _,H,I,rfl,q⟩
theorem ne_deep (hu:X.A.units + 64 < cLine):OpR X (compareOp .NotEq) (fun v u H Q => ∃ O L x y b t xs ys,RepS X.K H O L ∧ Is X.K H O v x ∧ Is X.K H O u y ∧ shp x L = some (t,xs) ∧ shp y L = some (t,ys) ∧ eqN 30 L x y = some b ∧ Q (.bl (!b)) H):=by
 intro pins s σ H v u w z Q I rv ru h
 obtain ⟨O,L,x,y,b,t,xs,ys,rs,ix,iy,hx,hy,e,q⟩:=h
 have fx:=shp_flat hx
 have fy:=shp_flat hy
 rw [show (30:Nat) = 29 + 1 from rfl,eqN_succ,if_neg (by rw [fx]; exact Bool.false_ne_true),hx,Option.bind_some,if_neg (by rw [fy]; exact Bool.false_ne_true),hy,Option.bind_some] at e
 obtain ⟨a,vs,its,rfl,il,r,hp⟩:=shp_is I rs ix hx
 obtain ⟨c,ws,zs,rfl,il',r',hp'⟩:=shp_is I rs iy hy
 cases rv
 cases ru
 rw [if_pos rfl] at e
 exact (seq_rcAt (by omega) il il' r r' hp hp' e fun a1 a2 a3 a4 a5 => eqN_eqAt I rs 29 (by rw [Around.in1_units]; omega) a1 a2 a3 a4 a5).2 _ _ _ _ ⟨.bl _,H,I,rfl,q⟩
theorem od_eqD (hu:X.A.units + 64 < cLine):OpD X (compareOp .Eq) gEqD:=OpR.weaken (OpR.or op_eq (eq_deep hu)) fun v u H Q z4_ => by
 obtain ⟨O,L,x,y,d,L',rs,ix,iy,e,k⟩:=z4_
 unfold gEqD at e
 split at e
 ·rename_i hs
  cases e
  have hs':=hs
  simp only [scalD,Bool.and_eq_true] at hs
  have h1:=flat_toV ix hs.1.1
  have h2:=flat_toV iy hs.1.2
  subst h1 h2
  refine .inl ⟨hs.2,?_⟩
  have:=k (.bl (decide (x = y))) _ _ (.refl _ _) rs (.bl _)
  have e:decide (toV x = toV y) = decide (x = y):=by
   by_cases h:x = y
   ·rw [decide_eq_true h,decide_eq_true ((toV_inj hs.1.1 hs.1.2).mpr h)]
   ·rw [decide_eq_false h,decide_eq_false (fun z => h ((toV_inj hs.1.1 hs.1.2).mp z))]
  rw [e]; exact this
 ·split at e
  ·rename_i hq
   rw [Bool.and_eq_true] at hq
   cases q:eqN 30 L x y with
   | none => rw [q] at e; cases e
   | some b =>
    rw [q] at e
    cases e
    exact .inr ⟨O,L,x,y,b,rs,ix,iy,hq.1,hq.2,q,k _ _ _ (.refl _ _) rs (.bl _)⟩
  ·cases e
theorem od_neD (hu:X.A.units + 64 < cLine):OpD X (compareOp .NotEq) gNeD:=OpR.weaken (OpR.or op_ne (ne_deep hu)) fun v u H Q z4_ => by
 obtain ⟨O,L,x,y,d,L',rs,ix,iy,e,k⟩:=z4_
 unfold gNeD at e
 split at e
 ·rename_i hs
  cases e
  simp only [scalD,Bool.and_eq_true] at hs
  have h1:=flat_toV ix hs.1.1
  have h2:=flat_toV iy hs.1.2
  subst h1 h2
  refine .inl ⟨hs.2,?_⟩
  have:=k (.bl (!decide (x = y))) _ _ (.refl _ _) rs (.bl _)
  have e:decide (toV x = toV y) = decide (x = y):=by
   by_cases h:x = y
   ·rw [decide_eq_true h,decide_eq_true ((toV_inj hs.1.1 hs.1.2).mpr h)]
   ·rw [decide_eq_false h,decide_eq_false (fun z => h ((toV_inj hs.1.1 hs.1.2).mp z))]
  rw [e]; exact this
 ·split at e
  ·split at e
   ·rename_i t xs t' ys hx hy
    split at e
    ·rename_i ht
     subst ht
     cases q:eqN 30 L x y with
     | none => rw [q] at e; cases e
     | some b =>
      rw [q] at e
      cases e
      exact .inr ⟨O,L,x,y,b,t,xs,ys,rs,ix,iy,hx,hy,q,k _ _ _ (.refl _ _) rs (.bl _)⟩
    ·cases e
   ·cases e
  ·cases e
end
end L3
set_option maxHeartbeats 4000000
namespace L3
open PySem PySem.Spec PyProof.Rows L2
noncomputable def neverF:SF:=fun _ _ => none
theorem sf_never {X:Cx} {st:Stmt}:PSf X st neverF:=PS.weaken ps_never fun D σ H ⟨O,ρ,L,out,r,e,k⟩ => by cases e
theorem fnd_none {P:Program} {w:World} {K:PySem.W.Frag} {mg:Str → Option Value} {base:Heap} {k:Nat} {x:Str} {f:Addr} {fd:FuncData} {ps:List Str} (bi:Binds K fd ps []) (m:mg x = some (.ref f)) (kp:PySem.W.keepIn K (.ref f) = true):FnD P w K mg base k x (fun _ _ => none) :=
 ⟨f,fd,ps,⟨(fun vs H Q E h => by obtain ⟨_,_,_,_,_,_,_,e,_⟩:=h; cases e),(fun A outer s H args us vs Q E _ _ _ _ h => by obtain ⟨_,_,_,_,_,_,_,e,_⟩:=h; cases e)⟩,m,kp,bi⟩
noncomputable def gPut (o i v:D) (L:Sto):Option Sto:=match o,i with
 | .ref k,.int j => (match L[k]? with | some (.lst xs) => (match ixN xs.length j with | some n => some (L.set k (.lst (xs.set n v))) | none => none) | _ => none)
 | _,_ => none
noncomputable def putF (fo fi fv:EF):SF:=fun ρ L => (fv ρ L).bind fun v => (fo ρ v.2).bind fun o => (fi ρ o.2).bind fun i => (gPut o.1 i.1 v.1 i.2).bind fun L' => some (.next ρ L')
section
variable {X:Cx} {a b c o i e:Expr} {fa fb fc fo fi fv:EF} {pos:Pos}
noncomputable def chainV (g g':G2) (fa fb fc:EF):EF:=fun ρ L => (fa ρ L).bind fun x => (fb ρ x.2).bind fun y => (g x.1 y.1 y.2).bind fun z => match z.1 with
 | .bl true => (fc ρ z.2).bind fun w => g' y.1 w.1 w.2
 | .bl false => some (.bl false,z.2)
 | _ => none
theorem chain_lift {K:PySem.W.Frag} {g g':G2} {σ:L2.St} {H:Hp} {Q:VK} (h:lift K (chainV g g' fa fb fc) σ H Q):tChain (rD K g) (rD K g') (lift K fa) (lift K fb) (lift K fc) σ H Q:=by
 obtain ⟨O,ρ,L,d,L',r,e,k⟩:=h
 unfold chainV at e
 cases e1:fa ρ L with
 | none => rw [e1] at e; cases e
 | some p =>
  rw [e1] at e
  simp only [Option.bind_some] at e
  cases e2:fb ρ p.2 with
  | none => rw [e2] at e; cases e
  | some q =>
   rw [e2] at e
   simp only [Option.bind_some] at e
   cases e3:g p.1 q.1 q.2 with
   | none => rw [e3] at e; cases e
   | some z =>
    rw [e3] at e
    simp only [Option.bind_some] at e
    refine ⟨O,ρ,L,p.1,p.2,r,e1,fun v H1 O1 st1 rs1 is1 => ⟨O1,ρ,p.2,q.1,q.2,r.to st1 rs1,e2,fun u H2 O2 st2 rs2 is2 => ?_⟩⟩
    refine ⟨O2,q.2,p.1,q.1,z.1,z.2,rs2,is1.mono st2,is2,e3,fun w H3 O3 st3 rs3 is3 => ?_⟩
    have stA:=(st1.trans st2).trans st3
    obtain ⟨zd,zL⟩:=z
    cases zd <;> try (cases e; done)
    rename_i bb
    cases is3
    refine ⟨bb,rfl,?_⟩
    cases bb with
    | false => cases e; exact iteF (k _ _ _ stA rs3 (.bl _))
    | true =>
     simp only at e
     cases e4:fc ρ zL with
     | none => rw [e4] at e; cases e
     | some w =>
      rw [e4] at e
      simp only [Option.bind_some] at e
      refine iteT ⟨O3,ρ,zL,w.1,w.2,r.to stA rs3,e4,fun u4 H4 O4 st4 rs4 is4 => ?_⟩
      exact ⟨O4,w.2,q.1,w.1,d,L',rs4,(is2.mono st3).mono st4,is4,e,fun y H5 O5 st5 rs5 is5 => k _ _ _ ((stA.trans st4).trans st5) rs5 is5⟩
theorem ef_chain {op op':CmpOp} {g g':G2} (ho:OpD X (compareOp op) g) (ho':OpD X (compareOp op') g') (ha:PEf X a fa) (hb:PEf X b fb) (hc:PEf X c fc)
  (hm:lastMarks [op,op'] [b,c] = false:=by with_unfolding_all rfl):PEf X (.Compare a [op,op'] [b,c] pos) (chainV g g' fa fb fc) :=
 PE.weaken (pe_chain ho ho' ha hb hc hm) fun _ _ _ h => chain_lift h
end
end L3
set_option maxHeartbeats 4000000
namespace HT
open PySem PySem.Spec PyProof.Rows
end HT
namespace L2
open PySem PySem.Spec PyProof.Rows
section
variable {X:Cx} {pos:Pos}
theorem PG.or {tg:Expr} {t t':TG} (h:PG X tg t) (h':PG X tg t'):PG X tg (fun v σ H Q => t v σ H Q ∨ t' v σ H Q):=by
 intro pins s σ H v u Q I r q
 rcases q with q | q
 ·exact h pins s σ H v u Q I r q
 ·exact h' pins s σ H v u Q I r q
end
end L2
namespace L3
open PySem PySem.Spec PyProof.Rows L2
end L3
set_option maxHeartbeats 4000000
namespace L3
open PySem PySem.Spec PyProof.Rows L2
noncomputable def putD (f:Str) (v:D):List (Str × D) → List (Str × D)
 | [] => [(f,v)]
 | (g,x) :: r => if g = f then (g,v) :: r else (g,x) :: putD f v r
section
variable {K:PySem.W.Frag} {H:Hp} {O:List Addr}
theorem lookup_is {f:Str} {d:D}:∀ {us:List (Str × V)} {fs:List (Str × D)},us.map (·.1) = fs.map (·.1) → IsL K H O (us.map (·.2)) (fs.map (·.2)) → fs.lookup f = some d → ∃ v,us.lookup f = some v ∧ Is K H O v d
 | [],[],_,_,h => by cases h
 | [],_ :: _,h,_,_ => by cases h
 | _ :: _,[],h,_,_ => by cases h
 | (g,u) :: us,(g',x) :: fs,hk,hi,hl => by
  simp only [List.map_cons,List.cons.injEq] at hk
  obtain ⟨rfl,hk⟩:=hk
  cases hi with
  | cons a b =>
   by_cases e:f = g
   ·subst e
    simp only [List.lookup,beq_self_eq_true,Option.some.injEq] at hl
    subst hl
    exact ⟨u,by simp [List.lookup],a⟩
   ·have hb:(f == g) = false:=beq_eq_false_iff_ne.mpr e
    simp only [List.lookup,hb] at hl
    obtain ⟨v,h1,h2⟩:=lookup_is hk b hl
    exact ⟨v,by simp only [List.lookup,hb]; exact h1,h2⟩
theorem lookup_no {f:Str}:∀ {us:List (Str × V)} {fs:List (Str × D)},us.map (·.1) = fs.map (·.1) → fs.lookup f = none → us.lookup f = none
 | [],[],_,_ => rfl
 | [],_ :: _,h,_ => by cases h
 | _ :: _,[],h,_ => by cases h
 | (g,u) :: us,(g',x) :: fs,hk,hl => by
  simp only [List.map_cons,List.cons.injEq] at hk
  obtain ⟨rfl,hk⟩:=hk
  by_cases e:f = g
  ·subst e
   simp [List.lookup] at hl
  ·have hb:(f == g) = false:=beq_eq_false_iff_ne.mpr e
   simp only [List.lookup,hb] at hl ⊢
   exact lookup_no hk hl
theorem put_is {f:Str} {v:V} {d:D} (iv:Is K H O v d):∀ {us:List (Str × V)} {fs:List (Str × D)},us.map (·.1) = fs.map (·.1) → IsL K H O (us.map (·.2)) (fs.map (·.2)) →
  (L2.putF f v us).map (·.1) = (putD f d fs).map (·.1) ∧ IsL K H O ((L2.putF f v us).map (·.2)) ((putD f d fs).map (·.2))
 | [],[],_,_ => ⟨rfl,.cons iv .nil⟩
 | [],_ :: _,h,_ => by cases h
 | _ :: _,[],h,_ => by cases h
 | (g,u) :: us,(g',x) :: fs,hk,hi => by
  simp only [List.map_cons,List.cons.injEq] at hk
  obtain ⟨rfl,hk⟩:=hk
  cases hi with
  | cons a b =>
   obtain ⟨h1,h2⟩:=put_is iv hk b
   unfold L2.putF putD
   by_cases e:g = f
   ·rw [if_pos e,if_pos e]
    exact ⟨by simp [hk],.cons iv b⟩
   ·rw [if_neg e,if_neg e]
    exact ⟨by simp [h1],.cons a h2⟩
end
structure FldOk (K:PySem.W.Frag) (c f:Str):Prop where
 ok:∀ C,ClsAt K c C → Cls K C ∧ NoAttr K C f
noncomputable def gFld (cs:List Str) (f:Str):G1:=fun x L => match x with
 | .ref k => (match L[k]? with | some (.ins c fs) => if c ∈ cs then (fs.lookup f).bind fun d => some (d,L) else none | _ => none)
 | _ => none
section
variable {X:Cx} {o e:Expr} {fo fe:EF} {f:Str} {cs:List Str} {pos pos':Pos}
theorem ef_fld (he:PEf X o fo) (hc:∀ c ∈ cs,FldOk X.K c f) (hb:attributeBase o f X.env (eval o X.env) = eval o X.env:=by rfl):PEf X (.Attribute o f pos) (un1 (gFld cs f) fo) :=
 PE.weaken (pe_fld he hb) fun σ H Q z3_ => by
  obtain ⟨O,ρ,L,d,L',r,e,k⟩:=z3_
  unfold un1 at e
  cases e1:fo ρ L with
  | none => rw [e1] at e; cases e
  | some p =>
   rw [e1] at e
   obtain ⟨x,L1⟩:=p
   simp only [Option.bind_some,gFld] at e
   refine ⟨O,ρ,L,x,L1,r,e1,fun v H1 O1 st rs is => ?_⟩
   cases is <;> try (cases e; done)
   rename_i kk a hk
   simp only at e
   cases e2:L1[kk]? with
   | none => rw [e2] at e; cases e
   | some ob =>
    rw [e2] at e
    cases ob with
    | lst _ => cases e
    | dk _ => cases e
    | exn _ => cases e
    | ins c fs =>
     simp only at e
     split at e
     ·rename_i hcm
      obtain ⟨C,dx,us,hC,hH,hk1,hi⟩:=rs.ob _ _ _ hk e2
      cases e3:fs.lookup f with
      | none => rw [e3] at e; cases e
      | some d0 =>
       rw [e3] at e
       cases e
       obtain ⟨v',hv',iv⟩:=lookup_is hk1 hi e3
       obtain ⟨h1,h2⟩:=(hc c hcm).ok C hC
       exact ⟨a,C,dx,us,v',rfl,hH,h1,h2,hv',k _ _ _ st rs iv⟩
     ·cases e
noncomputable def putO (cs:List Str) (f:Str) (x v:D) (L:Sto):Option Sto:=match x with
 | .ref k => (match L[k]? with | some (.ins c fs) => if c ∈ cs ∧ fs.length < 1000 then some (L.set k (.ins c (putD f v fs))) else none | _ => none)
 | _ => none
noncomputable def putOF (cs:List Str) (f:Str) (fo fv:EF):SF:=fun ρ L => (fv ρ L).bind fun v => (fo ρ v.2).bind fun x => (putO cs f x.1 v.1 x.2).bind fun L' => some (.next ρ L')
theorem sf_putO (ho:PEf X o fo) (he:PEf X e fe) (hc:∀ c ∈ cs,FldOk X.K c f) (hs:swapsWith e (some (.Attribute o f pos')) pos.line X.env = pure false:=by rfl):PSf X (.Assign [.Attribute o f pos'] e pos) (putOF cs f fo fe) :=
 PS.weaken (ps_fld ho he hs) fun D σ H z3_ => by
  obtain ⟨O,ρ,L,out,r,e,k⟩:=z3_
  unfold putOF at e
  cases e1:fe ρ L with
  | none => rw [e1] at e; cases e
  | some p =>
   rw [e1] at e
   simp only [Option.bind_some] at e
   cases e2:fo ρ p.2 with
   | none => rw [e2] at e; cases e
   | some q =>
    rw [e2] at e
    simp only [Option.bind_some] at e
    obtain ⟨x,L2⟩:=q
    refine ⟨O,ρ,L,p.1,p.2,r,e1,fun y H1 O1 st1 rs1 is1 => ?_⟩
    refine ⟨O1,ρ,p.2,x,L2,r.to st1 rs1,e2,fun v H2 O2 st2 rs2 is2 => ?_⟩
    cases is2 <;> try (cases e; done)
    rename_i kk a hk
    simp only [putO] at e
    cases e3:L2[kk]? with
    | none => rw [e3] at e; cases e
    | some ob =>
     rw [e3] at e
     cases ob with
     | lst _ => cases e
     | dk _ => cases e
     | exn _ => cases e
     | ins c fs =>
      simp only at e
      split at e
      ·rename_i hcm
       simp only [Option.bind_some] at e
       cases e
       obtain ⟨C,dx,us,hC,hH,hk1,hi⟩:=rs2.ob _ _ _ hk e3
       obtain ⟨h1,h2⟩:=(hc c hcm.1).ok C hC
       have hlen:us.length < 1000:=by
        have:=congrArg List.length hk1
        simp at this
        rw [this]; exact hcm.2
       refine ⟨a,C,dx,us,rfl,hH,h1,h2,hlen,?_⟩
       have st3:Step H2 O2 (upd H2 a (.ins C dx (_root_.L2.putF f y us))) O2:=⟨.write hH id,List.prefix_refl _⟩
       obtain ⟨g1,g2⟩:=put_is ((is1.mono st2).mono st3) hk1 (hi.mono st3)
       exact k σ _ O2 ((st1.trans st2).trans st3) (r.to ((st1.trans st2).trans st3) (rs2.write hk ⟨C,dx,_,hC,upd_same,g1,g2⟩))
      ·cases e
noncomputable def augO (cs:List Str) (f:Str) (g:Int → Int → Int) (fo fv:EF):SF:=fun ρ L => (fo ρ L).bind fun x => match x.1 with
 | .ref k => (match x.2[k]? with
  | some (.ins c fs) => if c ∈ cs then (match fs.lookup f with
   | some (.int i) => (fv ρ x.2).bind fun y => (match y.1 with
    | .int j => (match y.2[k]? with
     | some (.ins c' fs') => if c' = c ∧ fs'.length < 1000 then some (.next ρ (y.2.set k (.ins c (putD f (.int (g i j)) fs')))) else none
     | _ => none)
    | _ => none)
   | _ => none) else none
  | _ => none)
 | _ => none
theorem sf_augO {op:Operator} {g:Int → Int → Int} (ho:PEf X o fo) (he:PEf X e fe) (hc:∀ c ∈ cs,FldOk X.K c f) (hop:InOp X op fun x y H Q => ∃ i j,x = .int i ∧ y = .int j ∧ Q (.int (g i j)) H):PSf X (.AugAssign (.Attribute o f pos') op e pos) (augO cs f g fo fe) :=
 PS.weaken (ps_fldaug ho he hop) fun D σ H z3_ => by
  obtain ⟨O,ρ,L,out,r,e,k⟩:=z3_
  unfold augO at e
  cases e1:fo ρ L with
  | none => rw [e1] at e; cases e
  | some p =>
   rw [e1] at e
   obtain ⟨x,L1⟩:=p
   simp only [Option.bind_some] at e
   refine ⟨O,ρ,L,x,L1,r,e1,fun v H1 O1 st rs is => ?_⟩
   cases is <;> try (cases e; done)
   rename_i kk a hk
   simp only at e
   cases e2:L1[kk]? with
   | none => rw [e2] at e; cases e
   | some ob =>
    rw [e2] at e
    cases ob with
    | lst _ => cases e
    | dk _ => cases e
    | exn _ => cases e
    | ins c fs =>
     simp only at e
     split at e
     ·rename_i hcm
      obtain ⟨C,dx,us,hC,hH,hk1,hi⟩:=rs.ob _ _ _ hk e2
      cases e3:fs.lookup f with
      | none => rw [e3] at e; cases e
      | some d0 =>
       rw [e3] at e
       cases d0 <;> try (cases e; done)
       rename_i i
       simp only at e
       obtain ⟨v',hv',iv⟩:=lookup_is hk1 hi e3
       obtain ⟨h1,h2⟩:=(hc c hcm).ok C hC
       refine ⟨a,C,dx,us,v',rfl,hH,h1,h2,hv',?_⟩
       cases e4:fe ρ L1 with
       | none => rw [e4] at e; cases e
       | some q =>
        rw [e4] at e
        obtain ⟨y,L2⟩:=q
        simp only [Option.bind_some] at e
        refine ⟨O1,ρ,L1,y,L2,r.to st rs,e4,fun w H2 O2 st2 rs2 is2 => ?_⟩
        cases y <;> try (cases e; done)
        rename_i j
        cases iv
        cases is2
        refine ⟨i,j,rfl,rfl,?_⟩
        simp only at e
        cases e5:L2[kk]? with
        | none => rw [e5] at e; cases e
        | some ob =>
         rw [e5] at e
         cases ob with
         | lst _ => cases e
         | dk _ => cases e
         | exn _ => cases e
         | ins c' fs' =>
          simp only at e
          split at e
          ·rename_i hcm'
           cases e
           obtain ⟨rfl,hl⟩:=hcm'
           have hk':=pref_get st2.2 hk
           obtain ⟨C',dx',us',hC',hH',hk1',hi'⟩:=rs2.ob _ _ _ hk' e5
           have hCC:C' = C:=by
            unfold ClsAt at hC hC'
            rw [hC] at hC'
            cases hC'; rfl
           subst hCC
           have hlen:us'.length < 1000:=by
            have:=congrArg List.length hk1'
            simp at this
            rw [this]; exact hl
           refine ⟨dx',us',hH',hlen,?_⟩
           have st3:Step H2 O2 (upd H2 a (.ins C' dx' (_root_.L2.putF f (.int (g i j)) us'))) O2:=⟨.write hH' id,List.prefix_refl _⟩
           obtain ⟨g1,g2⟩:=put_is (Is.int (g i j)) hk1' (hi'.mono st3)
           exact k σ _ O2 ((st.trans st2).trans st3) (r.to ((st.trans st2).trans st3) (rs2.write hk' ⟨C',dx',_,hC',upd_same,g1,g2⟩))
          ·cases e
     ·cases e
theorem inop_add:InOp X .Add fun x y H Q => ∃ i j,x = .int i ∧ y = .int j ∧ Q (.int (i + j)) H:=in_add
end
structure FnM (P:Program) (w:World) (K:PySem.W.Frag) (mg:Str → Option Value) (base:Heap) (k:Nat) (c m:Str) (G:GL):Prop where
 ex:∃ C f fd ps,FnOk P w K mg base CX0 k f fd ps (spF K G) ∧ ClsAt K c C ∧ Cls K C ∧ Meth K C m f ∧ Binds K fd ps []
structure FnK (P:Program) (w:World) (K:PySem.W.Frag) (mg:Str → Option Value) (base:Heap) (k:Nat) (c:Str) (G:GL):Prop where
 ex:∃ C f fd ps j,FnOk P w K mg base CX0 j f fd ps (spF K G) ∧ j + 1 ≤ k ∧ mg c = some (.ref C) ∧ ClsAt K c C ∧ Mk K C f ∧ Binds K fd ps []
theorem FnM.mono {P:Program} {w:World} {K:PySem.W.Frag} {mg:Str → Option Value} {base:Heap} {j k:Nat} {c m:Str} {G:GL} (F:FnM P w K mg base j c m G) (h:j ≤ k):FnM P w K mg base k c m G:=by
 obtain ⟨C,f,fd,ps,a,b⟩:=F.ex
 exact ⟨C,f,fd,ps,a.mono h,b⟩
theorem FnK.mono {P:Program} {w:World} {K:PySem.W.Frag} {mg:Str → Option Value} {base:Heap} {j k:Nat} {c:Str} {G:GL} (F:FnK P w K mg base j c G) (h:j ≤ k):FnK P w K mg base k c G:=by
 obtain ⟨C,f,fd,ps,i,a,b,c⟩:=F.ex
 exact ⟨C,f,fd,ps,i,a,by omega,c⟩
noncomputable def mthO (c m:Str) (G:GL) (f:EF) (a:AF):EF:=fun ρ L => (f ρ L).bind fun x => match x.1 with
 | .ref k => (match x.2[k]? with
  | some (.ins c' fs) => if c' = c ∧ fs.lookup m = none then (a ρ x.2).bind fun y => G (.ref k :: y.1) y.2 else none
  | _ => none)
 | _ => none
noncomputable def mkO (c:Str) (G:GL) (a:AF):EF:=fun ρ L => (a ρ L).bind fun y => (G (.ref y.2.length :: y.1) (y.2 ++ [.ins c []])).bind fun z => match z.1 with
 | .non => some (.ref y.2.length,z.2)
 | _ => none
section
variable {X:Cx} {k:Nat} {c m x:Str} {G:GL} {p pos apos:Pos} {o e:Expr} {es:List Expr} {fo:EF} {f:AF}
theorem meth_lift {C:Addr} (hC:ClsAt X.K c C) {t:TA} (ht:∀ σ H Q,liftA X.K f σ H Q → t σ H Q) {σ:L2.St} {H:Hp} {Q:VK} (h:lift X.K (mthO c m G fo f) σ H Q):tMeth C m (spF X.K G) [] E0 (lift X.K fo) t σ H Q:=by
 obtain ⟨O,ρ,L,d,L',r,e,k⟩:=h
 unfold mthO at e
 cases e1:fo ρ L with
 | none => rw [e1] at e; cases e
 | some p =>
  rw [e1] at e
  obtain ⟨x,L1⟩:=p
  simp only [Option.bind_some] at e
  refine ⟨O,ρ,L,x,L1,r,e1,fun v H1 O1 st rs is => ?_⟩
  cases is <;> try (cases e; done)
  rename_i kk a hk
  simp only at e
  cases e2:L1[kk]? with
  | none => rw [e2] at e; cases e
  | some ob =>
   rw [e2] at e
   cases ob with
   | lst _ => cases e
   | dk _ => cases e
   | exn _ => cases e
   | ins c' fs =>
    simp only at e
    split at e
    ·rename_i hcm
     obtain ⟨rfl,hl⟩:=hcm
     obtain ⟨C',dx,us,hC',hH,hk1,hi⟩:=rs.ob _ _ _ hk e2
     have hCC:C' = C:=by
      unfold ClsAt at hC hC'
      rw [hC] at hC'
      cases hC'; rfl
     subst hCC
     refine ⟨a,dx,us,rfl,hH,lookup_no hk1 hl,?_⟩
     cases e3:f ρ L1 with
     | none => rw [e3] at e; cases e
     | some q =>
      rw [e3] at e
      obtain ⟨ys,L2⟩:=q
      simp only [Option.bind_some] at e
      refine ht _ _ _ ⟨O1,ρ,L1,ys,L2,r.to st rs,e3,fun vs H2 O2 st2 rs2 is2 => ?_⟩
      show rC X.K G (V.ref a :: (vs ++ [])) H2 Q
      rw [List.append_nil]
      exact ⟨O2,L2,_,d,L',rs2,.cons (.ref (pref_get st2.2 hk)) is2,e,fun w H' O' st' rs' is' => k w H' O' ((st.trans st2).trans st') rs' is'⟩
    ·cases e
theorem ef_meth0 {pl:Sem Bool} (F:FnM X.prog X.w X.K X.mg X.base k c m G) (hr:Room k X.A) (ho:PEf X o fo)
  (ht:eval (.Call (.Attribute o m apos) [] [] pos) X.env = (do
   let ov ← eval o X.env
   standAt apos.atName
   let (f,first) ← holding [ov] (getMethod ov m pl)
   callWith pos f first (backTo pos (starEach [] X.env)) (backToKw pos (keywordEach [] X.env))):=by rfl):PEf X (.Call (.Attribute o m apos) [] [] pos) (mthO c m G fo nilA):=by
 obtain ⟨C,fa,fd,ps,a,hC,hcl,hm,bi⟩:=F.ex
 exact PE.weaken (pe_meth0 (E:=E0) ho hcl hm a hr bi .nil pass0 ht) fun σ H Q h => meth_lift (f:=nilA) hC (fun σ H Q ⟨O,ρ,L,ds,L',r,e,k⟩ => by cases e; exact k _ _ _ (.refl _ _) r.s .nil) h
theorem make_lift {C:Addr} (hC:ClsAt X.K c C) {t:TA} (ht:∀ σ H Q,liftA X.K f σ H Q → t σ H Q) {σ:L2.St} {H:Hp} {Q:VK} (h:lift X.K (mkO c G f) σ H Q):tMake C (spF X.K G) [] E0 t σ H Q:=by
 obtain ⟨O,ρ,L,d,L',r,e,k⟩:=h
 unfold mkO at e
 cases e1:f ρ L with
 | none => rw [e1] at e; cases e
 | some p =>
  rw [e1] at e
  obtain ⟨ys,L1⟩:=p
  simp only [Option.bind_some] at e
  cases e2:G (.ref L1.length :: ys) (L1 ++ [.ins c []]) with
  | none => rw [e2] at e; cases e
  | some z =>
   rw [e2] at e
   obtain ⟨zd,L2⟩:=z
   cases zd <;> simp only [Option.bind_some] at e <;> try (cases e; done)
   cases e
   refine ht _ _ _ ⟨O,ρ,L,ys,L1,r,e1,fun vs H1 O1 st rs is x dx hx hdx hne => ?_⟩
   show rC X.K G (V.ref x :: (vs ++ [])) _ _
   rw [List.append_nil]
   have s1:Step H1 O1 (upd H1 dx (.own x)) O1:=⟨.new hdx,List.prefix_refl _⟩
   have rs1:RepS X.K (upd H1 dx (.own x)) O1 L1:=rs.ext fun a u e => by rw [upd_ne (ne_of_none e hdx)]; exact e
   have hx1:upd H1 dx (.own x) x = none:=by rw [upd_ne (Ne.symm hne)]; exact hx
   have s2:Step (upd H1 dx (.own x)) O1 (upd (upd H1 dx (.own x)) x (.ins C dx [])) (O1 ++ [x]):=⟨.new hx1,List.prefix_append _ _⟩
   have rs2:RepS X.K (upd (upd H1 dx (.own x)) x (.ins C dx [])) (O1 ++ [x]) (L1 ++ [.ins c []]):=rs1.new hx1 ⟨C,dx,[],hC,upd_same,rfl,.nil⟩
   have hk:(O1 ++ [x])[L1.length]? = some x:=by rw [← rs.len]; simp
   refine ⟨O1 ++ [x],L1 ++ [.ins c []],_,.non,_,rs2,.cons (.ref hk) (is.mono (s1.trans s2)),e2,fun w H' O' st' rs' is' => ?_⟩
   cases is'
   exact ⟨rfl,k _ H' O' ((st.trans (s1.trans s2)).trans st') rs' (.ref (pref_get st'.2 hk))⟩
theorem ef_make (F:FnK X.prog X.w X.K X.mg X.base k c G) (hr:Room k X.A) (ha:PAf X (e :: es) f) (hg:Gl X c:=by rfl) (hdb:(c == ("__debug__":Str)) = false:=by decide)
  (he:notStar e = true:=by rfl) (hpl:es.all notStar = true:=by rfl):PEf X (.Call (.Name c p) (e :: es) [] pos) (mkO c G f):=by
 obtain ⟨C,fa,fd,ps,j,a,hj,hm,hC,hM,bi⟩:=F.ex
 exact PE.weaken (pe_make (E:=E0) hM a (hr.mono hj) hg hm bi .nil pass0 ha hdb (starEach_cons he) (plain_of hpl)) fun σ H Q h => make_lift hC (fun _ _ _ h => h) h
end
theorem fld_nil {K:PySem.W.Frag} {f:Str}:∀ c ∈ ([]:List Str),FldOk K c f:=fun _ h => by cases h
theorem fld_cons {K:PySem.W.Frag} {f c:Str} {cs:List Str} (a:FldOk K c f) (b:∀ c ∈ cs,FldOk K c f):∀ x ∈ c :: cs,FldOk K x f:=fun x h => by
 rcases List.mem_cons.mp h with rfl | h
 ·exact a
 ·exact b x h
theorem fldok_of {K:PySem.W.Frag} {c f:Str} {C:Addr} (hC:ClsAt K c C) (cl:Cls K C) (n:PySem.W.findIn K (.ref C) f = some none):FldOk K c f:=⟨fun C' h => by
 have:C' = C:=by
  unfold ClsAt at hC h
  rw [hC] at h
  cases h; rfl
 subst this
 exact ⟨cl,n⟩⟩
section
variable {P:Program} {w:World} {K:PySem.W.Frag} {mg:Str → Option Value} {base:Heap}
theorem fnm_of {x qual c m:Str} {C:Addr} {st:Stmt} {f:Addr} {fd:FuncData} {N ps:List Str} {k:Nat} {B:SF} (Fn:Fun K x qual st f fd) (S:FnScope N ps (defScope st))
  (hb:∀ (cdv:Value) (A:Around) (outer:List Env) (s:Shared) (H:Hp) (E:XK),Room k (A.deeper (envOfC qual (defScope st) s.heap.objs.size f cdv)) →
   PSsf (cxOf CX0 P w K mg base N qual (defScope st) f cdv A outer s H E).nox (defBody st) B)
  (bi:Binds K fd ps []) (hC:ClsAt K c C) (cl:Cls K C) (me:Meth K C m f):FnM P w K mg base (k + 1) c m (runG B N ps.length) :=
 ⟨C,f,fd,ps,fn_f Fn S _ B (fun _ _ _ h => runG_len h) hb (fun _ _ _ _ h => runG_runs h),hC,cl,me,bi⟩
theorem fnk_of {x qual c:Str} {C:Addr} {st:Stmt} {f:Addr} {fd:FuncData} {N ps:List Str} {k:Nat} {B:SF} (Fn:Fun K x qual st f fd) (S:FnScope N ps (defScope st))
  (hb:∀ (cdv:Value) (A:Around) (outer:List Env) (s:Shared) (H:Hp) (E:XK),Room k (A.deeper (envOfC qual (defScope st) s.heap.objs.size f cdv)) →
   PSsf (cxOf CX0 P w K mg base N qual (defScope st) f cdv A outer s H E).nox (defBody st) B)
  (bi:Binds K fd ps []) (mc:mg c = some (.ref C)) (hC:ClsAt K c C) (M:Mk K C f):FnK P w K mg base (k + 2) c (runG B N ps.length) :=
 ⟨C,f,fd,ps,k + 1,fn_f Fn S _ B (fun _ _ _ h => runG_len h) hb (fun _ _ _ _ h => runG_runs h),Nat.le_refl _,mc,hC,M,bi⟩
end
noncomputable def inCls (p:Program) (i j:Nat):Stmt:=match atTop p i with
 | .ClassDef _ _ _ body _ _ _ _ _ _ _ => body.getD j (.Pass ⟨0,0,0,0⟩)
 | s => s
noncomputable def whileN (t:TF) (b:SF):Nat → SF
 | 0 => fun _ _ => none
 | n + 1 => fun ρ L => (t ρ L).bind fun x => if x.1 = true then (b ρ x.2).bind fun out => (match out with
   | .next ρ2 L2 => whileN t b n ρ2 L2
   | .cont ρ2 L2 => whileN t b n ρ2 L2
   | .brk ρ2 L2 => some (.next ρ2 L2)
   | .ret d L2 => some (.ret d L2)) else some (.next ρ x.2)
noncomputable def whileF (t:TF) (b:SF):SF:=whileN t b 1000000
theorem sf_while {X:Cx} {c:Expr} {body:List Stmt} {t:TF} {b:SF} {pos:Pos} (hp:PassesOwn (model X.prog X.w) X.A X.env X.xe) (hc:PTf X c t) (hb:PSsf X body b):PSf X (.While c body [] pos) (whileF t b) :=
 PS.weaken (ps_while hp hc hb) fun D σ H z3_ => by
  obtain ⟨O,ρ,L,out,r,e,k⟩:=z3_
  refine ⟨fun n σ H => ∃ O ρ L,Rep X.K H O σ ρ L ∧ whileN t b n ρ L = some out ∧ PostS X.K H O D out,⟨1000000,O,ρ,L,r,e,k⟩,?_⟩
  rintro n σ1 H1 ⟨O1,ρ1,L1,r1,e1,k1⟩
  cases n with
  | zero => cases e1
  | succ n =>
   simp only [whileN] at e1
   cases e2:t ρ1 L1 with
   | none => rw [e2] at e1; cases e1
   | some p =>
    rw [e2] at e1
    obtain ⟨bb,L2⟩:=p
    simp only [Option.bind_some] at e1
    refine ⟨O1,ρ1,L1,bb,L2,r1,e2,fun H2 O2 st2 rs2 => ?_⟩
    cases bb with
    | false =>
     simp only [Bool.false_eq_true,if_false] at e1 ⊢
     cases e1
     exact k1 _ _ _ st2 (r1.to st2 rs2)
    | true =>
     simp only [if_true] at e1 ⊢
     refine ⟨fun σ' H' => ∃ O ρ L,Rep X.K H' O σ' ρ L ∧ whileN t b n ρ L = some out ∧ PostS X.K H' O D out,fun σ' H' h => ⟨n,Nat.lt_succ_self _,h⟩,?_⟩
     cases e3:b ρ1 L2 with
     | none => rw [e3] at e1; cases e1
     | some o1 =>
      rw [e3] at e1
      simp only [Option.bind_some] at e1
      refine ⟨O2,ρ1,L2,o1,r1.to st2 rs2,e3,?_⟩
      cases o1 with
      | next ρ2 L3 => exact fun σ' H' O' st' r' => ⟨O',ρ2,L3,r',e1,(k1.mono st2).mono st'⟩
      | cont ρ2 L3 => exact fun σ' H' O' st' r' => ⟨O',ρ2,L3,r',e1,(k1.mono st2).mono st'⟩
      | brk ρ2 L3 => cases e1; exact fun σ' H' O' st' r' => k1 _ _ _ (st2.trans st') r'
      | ret d L3 => cases e1; exact fun v H' O' st' r' i' => k1 _ _ _ (st2.trans st') r' i'
end L3
set_option maxHeartbeats 4000000
namespace L3
open PySem PySem.Spec PyProof.Rows L2
end L3
set_option maxHeartbeats 4000000
namespace L3
open PySem PySem.Spec PyProof.Rows L2 Builtin Builtin.Str
section
variable {prog:Program} {w:World} {A:Around} {E:Value → Shared → Prop} {s:Shared} {x y:Str} {t u:Tok} {Q:Value → Shared → Prop}
theorem split_call (hy:(y.length == 0) = false) (hsz:x.length ≤ sizeLine) (hsz2:(Txt.split x y).length ≤ sizeLine)
  (hq:∀ l k,l.map (·.1) = Txt.split x y → Q (.ref s.heap.objs.size) { s with heap:=s.heap.push { cls:=.type "list",data:=.seq (strValues l).toArray },toks:=k }) :
  wpAny (model prog w) A (call (.builtin "str.split") [.str x t,.str y u]) Q E s:=by
 cases h1:(decide (x.length < y.length) || decide (strKind x < strKind y))
 ·cases hf:(occurrences x y 0 x.length (x.length + 1)).isEmpty
  ·have e:Txt.split x y = partsBetween x (occurrences x y 0 x.length (x.length + 1)) y.length:=(if_neg (ne_true_of_eq_false h1)).trans (if_neg (ne_true_of_eq_false hf))
   refine call_meets F.slot_str_split (typeIs_str _ _ _) F.entry_str_split (F.args_str_split_2 _ _) (meets_str_split_sep x y t u h1 hy hf hsz (by rw [← e]; exact hsz2)) ?_
   show wants Q E _ { s with toks:=_,heap:=s.heap.push { cls:=.type "list",data:=.seq (strsFrom s.toks (partsBetween x (occurrences x y 0 x.length (x.length + 1)) y.length)).toArray } }
   rw [strsFrom_eq]
   exact hq (numbered s.toks _) _ ((numbered_texts _ _).trans e.symm)
  ·exact call_meets F.slot_str_split (typeIs_str _ _ _) F.entry_str_split (F.args_str_split_2 _ _) (meets_str_split_not_found x y t u h1 hy hf)
    (hq [(x,t)] s.toks ((if_neg (ne_true_of_eq_false h1)).trans (if_pos hf)).symm)
 ·exact call_meets F.slot_str_split (typeIs_str _ _ _) F.entry_str_split (F.args_str_split_2 _ _) (meets_str_split_cannot_occur x y t u h1)
   (hq [(x,t)] s.toks (if_pos h1).symm)
end
theorem vals_strs:∀ (l:List (Str × Tok)),Vals ((l.map (·.1)).map V.str) (strValues l)
 | [] => .nil
 | (a,t) :: r => .cons ⟨t,rfl⟩ (vals_strs r)
noncomputable def gSplit:GM:=fun x xs L => match x,xs with
 | .str z,[.str y] => if y.length ≠ 0 ∧ z.length ≤ 16777216 ∧ (Txt.split z y).length ≤ 16777216 ∧ (Txt.split z y).all (fun p => decide (p.length ≤ 16777216)) = true then some (.ref L.length,L ++ [.lst ((Txt.split z y).map .str)]) else none
 | _,_ => none
theorem is_strs {K:PySem.W.Frag} {H:Hp} {O:List Addr}:∀ {ys:List Str},ys.all (fun p => decide (p.length ≤ 16777216)) = true → IsL K H O (ys.map V.str) (ys.map D.str)
 | [],_ => .nil
 | y :: r,h => by
  rw [List.all_cons,Bool.and_eq_true] at h
  exact .cons (.str _ (of_decide_eq_true h.1)) (is_strs h.2)
section
variable {X:Cx}
theorem md_split:MtD X "str.split" gSplit:=fun pins s σ H x xs v us Q I rx rs z12_ => by
 obtain ⟨O,L,dx,dxs,d,L',rp,ix,ixs,e,k⟩:=z12_
 unfold gSplit at e
 split at e
 ·rename_i z y
  split at e
  ·rename_i hz
   cases e
   cases ix
   cases ixs with | cons i1 i2 =>
   cases i2
   cases i1
   obtain ⟨t,rfl⟩:=(show ∃ t,v = Value.str z t from rx)
   obtain ⟨u,rfl,ry⟩:=vals1 rs
   obtain ⟨t',rfl⟩:=(show ∃ t',u = Value.str y t' from ry)
   refine split_call (by simpa using hz.1) (by rw [sizeLine_eq]; exact hz.2.1) (by rw [sizeLine_eq]; exact hz.2.2.1) fun l kk el => ?_
   have hf:H s.heap.objs.size = none:=I.hok.fresh (Nat.le_refl _)
   have st:Step H O (upd H s.heap.objs.size (.lst ((Txt.split z y).map V.str))) (O ++ [s.heap.objs.size]):=⟨.new hf,List.prefix_append _ _⟩
   refine ⟨.ref s.heap.objs.size,upd H s.heap.objs.size (.lst ((Txt.split z y).map V.str)),I.laid (t':=kk) (fun b u e => Heap.get?_push_of_some _ e) (Nat.le_refl _) ?_,rfl,?_⟩
   ·refine ⟨by rw [List.length_map,sizeLine_eq]; exact hz.2.2.1,strValues l,0,?_,Heap.get?_push_size _ rfl⟩
    rw [← el]
    exact vals_strs l
   ·refine k _ _ _ st (rp.new hf ⟨_,upd_same,is_strs hz.2.2.2⟩) (.ref ?_)
    rw [← rp.len]; simp
  ·cases e
 ·cases e
end
noncomputable def PEfp (X:Cx) (e:Expr) (f:EF):Prop:=∀ (pins:List (Addr × Obj)) (s:Shared) (σ:L2.St) (H:Hp) (Q:VK),Inv X pins σ H s → 0 < s.toks → lift X.K f σ H Q → wpAny (model X.prog X.w) X.A (eval e X.env) (EP X pins σ Q) X.xe s
noncomputable def gRepl (y z:Str):G1:=fun x L => match x with
 | .str t => if t.length + (t.length + 1) * z.length ≤ 16777216 ∧ (Txt.replace t y z).length ≤ 16777216 then some (.str (Txt.replace t y z),L) else none
 | _ => none
section
variable {X:Cx} {o e:Expr} {fo fe:EF} {y z c:Str} {j j1 j2:Nat} {p p1 p2 apos cpos pos:Pos}
theorem ef_replP (hyz:(y == z) = false) (ho:PEf X o fo)
  (hbase:attributeBase o "replace" X.env (eval o X.env) = eval o X.env:=by rfl) (hline:(apos.endLine == cpos.line) = true:=by rfl)
  (hfew:((backTo cpos (starEach [.Constant (.str y) j1 p1,.Constant (.str z) j2 p2] X.env)).all (fun x => !x.1) && (backToKw cpos (keywordEach [] X.env)).all (fun x => x.1.isSome)
   && decide (([.Constant (.str y) j1 p1,.Constant (.str z) j2 p2]:List Expr).length + ([]:List Keyword).length + (if ([]:List Keyword).isEmpty then 0 else 1) < 30)) = true:=by rfl) :
  PEfp X (.Call (.Attribute o "replace" apos) [.Constant (.str y) j1 p1,.Constant (.str z) j2 p2] [] cpos) (un1 (gRepl y z) fo):=by
 intro pins s σ H Q I hpos ⟨O,ρ,L,d,L',r,e,k⟩
 unfold un1 at e
 cases e1:fo ρ L with
 | none => rw [e1] at e; cases e
 | some q =>
  rw [e1] at e
  obtain ⟨x,L1⟩:=q
  cases x <;> simp only [Option.bind_some,gRepl] at e <;> try (cases e; done)
  rename_i t
  split at e
  ·rename_i hz
   cases e
   refine wpAny_Call_method_late hbase hfew hline rfl ?_
   refine wpAny_with_toks (n:=1) hpos (wpAny_mono (ho pins s σ H (fun v H1 => ∃ O1,Step H O H1 O1 ∧ RepS X.K H1 O1 L' ∧ Is X.K H1 O1 v (.str t)) I ⟨O,ρ,L,_,_,r,e1,fun v H1 O1 st rs is => ⟨O1,st,rs,is⟩⟩) (fun v s1 hv hn => ?_) fun e s' he _ => he)
   obtain ⟨v0,H1,I1,rv,O1,st1,rs1,is1⟩:=hv
   cases is1
   obtain ⟨tk,rfl⟩:=(show ∃ tk,v = Value.str t tk from rv)
   obtain ⟨h1,h2⟩:=tyV_is (T:="str") I1 rv rfl
   refine ⟨"str","str.replace",PySem.F.plainAttrs_str,PySem.F.slot_str_replace,PySem.F.type_str_replace,h1,h2,?_⟩
   refine Calls.callWith_builtin rfl (Calls.evalArgs_plain ?_)
   show wpAny _ _ (spliced [(false,eval (.Constant (.str y) j1 p1) X.env),(false,eval (.Constant (.str z) j2 p2) X.env)]) _ _ s1
   refine Calls.spliced_cons (Calls.Constant_str (k:=j1) (pos:=p1) (Calls.spliced_cons (Calls.Constant_str (k:=j2) (pos:=p2) (Calls.spliced_nil ?_))))
   refine SC.replace (show s1.toks ≠ 0 by omega) (show s1.toks + 1 ≠ 0 by omega) (show s1.toks ≠ s1.toks + 1 by omega) hyz hz.1 fun t' kk => ?_
   exact ⟨.str (Txt.replace t y z),H1,I1.tok _,⟨_,rfl⟩,k _ _ _ st1 rs1 (.str _ hz.2)⟩
  ·cases e
theorem af_consP (he:PEfp X e fe) (hs:notStar e = true:=by rfl) (hc:c.length ≤ 16777216:=by decide):PAf X [.Constant (.str c) j p,e] (consA (cst (.str c)) (consA fe nilA)):=by
 intro pos pins s σ H Q I h
 show wpAny _ _ (spliced (backTo pos (starEach [.Constant (.str c) j p,e] X.env))) _ _ s
 rw [starEach_cons rfl,starEach_cons hs]
 show wpAny _ _ (spliced ((false,eval (.Constant (.str c) j p) X.env) :: (false,eval e X.env) :: [])) _ _ s
 refine Calls.spliced_cons (Calls.Constant_str ?_)
 obtain ⟨O,ρ,L,ds,L',r,e0,k⟩:=h
 unfold consA at e0
 simp only [cst,Option.bind_some] at e0
 cases e1:fe ρ L with
 | none => rw [e1] at e0; cases e0
 | some q =>
  rw [e1] at e0
  simp only [nilA,Option.bind_some] at e0
  cases e0
  refine Calls.spliced_cons (thn (he pins _ σ H (fun v H1 => ∃ O1,Step H O H1 O1 ∧ RepS X.K H1 O1 q.2 ∧ Is X.K H1 O1 v q.1) (I.tok _) (Nat.succ_pos _) ⟨O,ρ,L,_,_,r,e1,fun v H1 O1 st rs is => ⟨O1,st,rs,is⟩⟩) fun u s2 ⟨v,H1,I1,rv,O1,st1,rs1,is1⟩ => Calls.spliced_nil ?_)
  exact ⟨[.str c,v],H1,I1,.cons ⟨_,rfl⟩ (.cons rv .nil),k _ _ _ st1 rs1 (.cons (.str _ hc) (.cons is1 .nil))⟩
theorem ef_addP (he:PEfp X e fe) (hc:c.length ≤ 16777216:=by decide):PEf X (.BinOp (.Constant (.str c) j p) .Add e pos) (bin2 gAdd (cst (.str c)) fe):=by
 intro pins s σ H Q I h
 refine wpAny_BinOp (Calls.Constant_str ?_)
 obtain ⟨O,ρ,L,d,L',r,e0,k⟩:=h
 unfold bin2 at e0
 simp only [cst,Option.bind_some] at e0
 cases e1:fe ρ L with
 | none => rw [e1] at e0; cases e0
 | some q =>
  rw [e1] at e0
  simp only [Option.bind_some] at e0
  refine thn (he pins _ σ H (fun v H1 => ∃ O1,Step H O H1 O1 ∧ RepS X.K H1 O1 q.2 ∧ Is X.K H1 O1 v q.1) (I.tok _) (Nat.succ_pos _) ⟨O,ρ,L,_,_,r,e1,fun v H1 O1 st rs is => ⟨O1,st,rs,is⟩⟩) fun u s2 ⟨v,H1,I1,rv,O1,st1,rs1,is1⟩ => ?_
  exact od_add pins s2 σ H1 (.str c) v _ u Q I1 ⟨_,rfl⟩ rv ⟨O1,q.2,_,_,d,L',rs1,.str _ hc,is1,e0,fun w H' O' st' rs' is' => k w H' O' (st1.trans st') rs' is'⟩
end
structure GTab (K:PySem.W.Frag) (mg:Str → Option Value) (w:World) (x:Str) (tab:List (Str × D)):Prop where
 ex:∃ a es n,mg x = some (.ref a) ∧ K.lookup a = some ⟨.type "dict",none,.dict es n,#[]⟩ ∧ PySem.W.KeysLit w.params es.toList ∧ (a == sysModules) = false ∧
  ∀ z:Str,TupK K ((PySem.findBy Value.isStrOf es z).getD .none) ((tab.lookup z).getD .non)
inductive EntsK (K:PySem.W.Frag):List DictEntry → List (Str × D) → Prop
 | nil:EntsK K [] []
 | cons {h:Int} {x:Str} {t:Tok} {u:Value} {d:D} {es:List DictEntry} {ds:List (Str × D)}:TupK K u d → EntsK K es ds → EntsK K (⟨h,.str x t,u⟩ :: es) ((x,d) :: ds)
theorem gt_nil {K:PySem.W.Frag}:EntsK K [] []:=.nil
theorem gt_cons {K:PySem.W.Frag} {h:Int} {x:Str} {t:Tok} {u:Value} {d:D} {es:List DictEntry} {ds:List (Str × D)} (a:TupK K u d) (b:EntsK K es ds):EntsK K (⟨h,.str x t,u⟩ :: es) ((x,d) :: ds):=.cons a b
theorem EntsK.at {K:PySem.W.Frag} (z:Str):∀ {es:List DictEntry} {ds:List (Str × D)},EntsK K es ds → TupK K ((findBy Value.isStrOf es.toArray z).getD .none) ((ds.lookup z).getD .non)
 | _,_,.nil => tupk_non
 | _,_,.cons (x:=x) (t:=t) (u:=u) (d:=d) (es:=es) (ds:=ds) a b => by
  have ih:=EntsK.at z b
  unfold findBy at ih ⊢
  rw [List.find?_toArray] at ih ⊢
  rw [List.find?_cons]
  by_cases h:z = x
  ·subst h
   have e1:Value.isStrOf z (.str z t) = true:=by simp [Value.isStrOf]
   simp only [e1,List.lookup,beq_self_eq_true]
   exact a
  ·have e1:Value.isStrOf z (.str x t) = false:=by
    have:¬ x = z:=fun q => h q.symm
    simp [Value.isStrOf,this]
   have e2:(z == x) = false:=beq_eq_false_iff_ne.mpr h
   simp only [e1,List.lookup,e2]
   exact ih
theorem gtab_of {K:PySem.W.Frag} {mg:Str → Option Value} {w:World} {x:Str} {tab:List (Str × D)} {a:Addr} {es:List DictEntry} {n:Nat} (m:mg x = some (.ref a)) (l:K.lookup a = some ⟨.type "dict",none,.dict es.toArray n,#[]⟩) (k:PySem.W.KeysLit w.params es) (sm:(a == sysModules) = false) (t:EntsK K es tab):GTab K mg w x tab :=
 ⟨a,es.toArray,n,m,l,by simpa using k,sm,fun z => t.at z⟩
noncomputable def kgetF (tab:List (Str × D)) (fe:EF):EF:=fun ρ L => (fe ρ L).bind fun x => match x.1 with
 | .str z => some ((tab.lookup z).getD .non,x.2)
 | _ => none
section
variable {X:Cx} {e:Expr} {fe:EF} {x:Str} {tab:List (Str × D)} {p apos cpos:Pos}
theorem ef_kget (T:GTab X.K X.mg X.w x tab) (he:PEf X e fe) (hg:Gl X x:=by rfl) (hdb:(x == ("__debug__":Str)) = false:=by decide)
  (hbase:attributeBase (.Name x p) "get" X.env (eval (.Name x p) X.env) = eval (.Name x p) X.env:=by rfl) (hline:(apos.endLine == cpos.line) = true:=by rfl)
  (hfew:decide (([e]:List Expr).length + ([]:List Keyword).length + (if ([]:List Keyword).isEmpty then 0 else 1) < 30) = true:=by rfl) (hs:notStar e = true:=by rfl) :
  PEf X (.Call (.Attribute (.Name x p) "get" apos) [e] [] cpos) (kgetF tab fe):=by
 intro pins s σ H Q I ⟨O,ρ,L,d,L',r,e0,k⟩
 obtain ⟨a,es,n,hm,hl,hk,hsm,ht⟩:=T.ex
 unfold kgetF at e0
 cases e1:fe ρ L with
 | none => rw [e1] at e0; cases e0
 | some q =>
  rw [e1] at e0
  obtain ⟨y,L1⟩:=q
  cases y <;> simp only [Option.bind_some] at e0 <;> try (cases e0; done)
  rename_i z
  cases e0
  have hfew':((backTo cpos (starEach [e] X.env)).all (fun x => !x.1) && (backToKw cpos (keywordEach [] X.env)).all (fun x => x.1.isSome)
   && decide (([e]:List Expr).length + ([]:List Keyword).length + (if ([]:List Keyword).isEmpty then 0 else 1) < 30)) = true:=by
   rw [plain_all (by rw [List.all_cons,hs]; rfl),hfew]; rfl
  refine wpAny_Call_method hbase hfew' hline PySem.F.plainAttrs_dict PySem.F.slot_dict_get PySem.F.type_dict_get (ld_glob I hg hm ?_ hdb)
  have hmap:∀ {h:Heap},X.K.In h → h.MapOf (strKind X.prog X.w) a (fun k => findBy Value.isStrOf es k):=fun KI => PySem.W.mapOf_K (prog:=X.prog) KI hl hk
  refine ⟨(hmap I.kIn).typeIs,fun b hb => ?_,?_⟩
  ·cases hb
   exact ⟨_,I.kIn _ _ hl,rfl⟩
  rw [starEach_cons hs]
  refine Calls.callWith_builtin rfl (Calls.evalArgs_plain (Calls.spliced_cons (thn (he pins s σ H (fun v H1 => ∃ O1,Step H O H1 O1 ∧ RepS X.K H1 O1 L' ∧ Is X.K H1 O1 v (.str z)) I ⟨O,ρ,L,_,_,r,e1,fun v H1 O1 st rs is => ⟨O1,st,rs,is⟩⟩) fun u s2 ⟨v,H1,I1,rv,O1,st1,rs1,is1⟩ => Calls.spliced_nil ?_)))
  cases is1
  obtain ⟨tk,rfl⟩:=(show ∃ tk,u = Value.str z tk from rv)
  obtain ⟨v',rv',iv'⟩:=(ht z).ex
  refine call_meetsIn PySem.F.slot_dict_get (hmap I1.kIn).typeIs PySem.F.entry_dict_get (PySem.F.args_dict_get_2 _ _) (meets_dict_get (strKind X.prog X.w) a (strKind_is X.prog X.w z tk) hsm) ⟨_,hmap I1.kIn,?_⟩
  exact ⟨v',H1,I1.tok _,rv',k _ _ _ st1 rs1 (iv' _ _)⟩
end
end L3
set_option maxHeartbeats 4000000
namespace L3
open PySem PySem.Spec PyProof.Rows L2
theorem obj_has {P:Program} {w:World} {H:Hp} {h:Heap} {a:Addr} {o:HO} (x:ObjOk P w H h a o):∃ u,h.get? a = some u:=by
 cases o with
 | lst xs => obtain ⟨_,_,_,_,e⟩:=x; exact ⟨_,e⟩
 | tup xs => obtain ⟨_,_,_,o,e,_⟩:=x; exact ⟨_,e⟩
 | dK kvs => obtain ⟨_,_,_,_,o,_,_,e,_⟩:=x; exact ⟨_,e⟩
 | dT kvs => obtain ⟨_,_,_,_,o,_,_,e,_⟩:=x; exact ⟨_,e⟩
 | set S n => obtain ⟨o,_,_,_,e,_⟩:=x; exact ⟨_,e⟩
 | ins C dx fs => obtain ⟨_,_,_,e,_⟩:=x; exact ⟨_,e⟩
 | own y => exact x
 | xd fs => obtain ⟨_,⟨_,_,_,e,_⟩,_⟩:=x; exact ⟨_,e⟩
 | rng lo hi => obtain ⟨_,_,_,e⟩:=x; exact ⟨_,e⟩
 | frz ob u => obtain ⟨e,_⟩:=x; exact ⟨_,e⟩
 | tbl ps => exact ⟨_,(show h.get? a = some _ from x)⟩
 | met f y => exact ⟨_,(show h.get? a = some _ from x)⟩
 | ext φ => obtain ⟨_,e,_⟩:=x; exact e
noncomputable def Cov (B:Heap) (l:List Env) (h0:Heap) (H:Hp):Prop:=(∀ b o,h0.get? b = some o → b ∉ frs l → ∃ u,B.get? b = some u) ∧ ∀ b u,H b = some u → ∃ o,B.get? b = some o
noncomputable def CXX (P:Program) (w:World):CXT:=fun outer H s E e s' => ∃ (ea:Addr) (cv a0:Value) (H':Hp) (B:Heap),e = .ref ea ∧ s'.os = s.os ∧ AllBare s'.gens ∧ Un (frs outer) [] H H' s.heap s'.heap ∧ HOk P w H' s'.heap ∧
 Heap.FlyingW B outer ea cv a0 s'.heap ∧ Cov B outer s.heap H' ∧ E cv none H'
noncomputable def XS (X:Cx) (cv:Value) (e:Value) (H:Hp) (s':Shared):Prop:=∃ (pins:List (Addr × Obj)) (σ:L2.St) (ea:Addr),e = .ref ea ∧
 ((∃ s2 vs,Inv X pins σ H s2 ∧ Heap.MadeExcOf s2.heap s'.heap ea cv vs ∧ s'.os = s2.os ∧ s'.gens = s2.gens) ∨
  ∃ (B:Heap) (a0:Value) (s2:Shared) (H2:Hp),Inv X pins σ H2 s2 ∧ s'.os = s2.os ∧ AllBare s'.gens ∧ Un (frs X.stack) [] H2 H s2.heap s'.heap ∧ HOk X.prog X.w H s'.heap ∧ Heap.FlyingW B X.stack ea cv a0 s'.heap ∧ Cov B X.stack s2.heap H)
section
variable {X:Cx} {pins:List (Addr × Obj)} {σ:L2.St} {H H2:Hp} {s2:Shared} {h h' B:Heap}
theorem un_after (I:Inv X pins σ H2 s2) (U:Un (frs X.stack) [] H2 H s2.heap h) (hok:HOk X.prog X.w H h) (hB:B.StaysIn h) (hC:Cov B X.stack s2.heap H) (kB:B.StaysIn h') (up:h.UpToSlots h') :
  Un (frs X.stack) [] H2 H s2.heap h' ∧ HOk X.prog X.w H h':=by
 have kept:∀ b u o,B.get? b = some u → h.get? b = some o → h'.get? b = some o:=fun b u o e q => by
  have:=hB b u e
  rw [q] at this; cases this
  exact kB b _ e
 refine ⟨⟨fun b o q n hb hx => ?_,fun b o q n hb hx => ?_,U.free,fun b o q hx => ?_,U.tups,U.frzs,U.tbls⟩,fun a o e => ?_⟩
 ·obtain ⟨u,e⟩:=hC.1 b o q hb
  exact kept b u o e (U.keep b o q n hb hx)
 ·obtain ⟨sl,e⟩:=U.slot b o q n hb hx
  obtain ⟨_,o',ho',hd⟩:=I.stack.mem hb
  rw [q] at ho'; cases ho'
  obtain ⟨sl',e'⟩:=up b _ e hd
  exact ⟨sl',e'⟩
 ·obtain ⟨o',e⟩:=U.there b o q hx
  by_cases hb:b ∈ frs X.stack
  ·obtain ⟨sl,e2⟩:=U.slot b o q (I.stkFree b hb) hb hx
   obtain ⟨_,o2,ho2,hd⟩:=I.stack.mem hb
   rw [q] at ho2; cases ho2
   obtain ⟨sl',e'⟩:=up b _ e2 hd
   exact ⟨_,e'⟩
  ·obtain ⟨u,eu⟩:=hC.1 b o q hb
   exact ⟨_,kept b u o' eu e⟩
 ·refine (hok a o e).stay (fun b u hb q => ?_) (fun _ z => z) fun _ _ z => z
  have:∃ x,H b = some x:=by
   rcases hb with rfl | hb
   ·exact ⟨_,e⟩
   ·exact ⟨_,hb⟩
  obtain ⟨x,hx⟩:=this
  obtain ⟨u',eu⟩:=hC.2 b x hx
  exact kept b u' u eu q
theorem cov_made (I:Inv X pins σ H s2):Cov (PySem.W.hideAll s2.heap (frs X.stack)) X.stack s2.heap H :=
 ⟨fun b o q hb => ⟨o,PySem.W.hideAll_get _ q hb⟩,fun b u e => by
  obtain ⟨o,q⟩:=obj_has (I.hok b u e)
  exact ⟨o,PySem.W.hideAll_get _ q fun hb => by rw [I.stkFree b hb] at e; cases e⟩⟩
theorem frames_made (I:Inv X pins σ H s2):s2.heap.FunFrames (PySem.W.hideAll s2.heap (frs X.stack)) X.stack :=
 PySem.W.funFrames_hide I.stack fun env he a ha => List.mem_filterMap.mpr ⟨env,he,ha⟩
end
section
variable {P:Program} {w:World} {K:PySem.W.Frag} {mg:Str → Option Value} {base:Heap} {N:List Str} {qual:Str} {scope:Scope} {f:Addr} {cdv:Value} {A:Around} {outer:List Env} {s0:Shared} {H0:Hp} {E:XK}
theorem leave_un {pins:List (Addr × Obj)} {σ:L2.St} {H H2:Hp} {s2:Shared} {h':Heap} (I:Inv (cxOf (CXX P w) P w K mg base N qual scope f cdv A outer s0 H0 E) pins σ H2 s2)
  (U:Un (frs (cxOf (CXX P w) P w K mg base N qual scope f cdv A outer s0 H0 E).stack) [] H2 H s2.heap h'):Un (frs outer) [] H0 H s0.heap h':=by
 have hfr:frs (cxOf (CXX P w) P w K mg base N qual scope f cdv A outer s0 H0 E).stack = s0.heap.objs.size :: frs outer:=rfl
 rw [hfr] at U
 have hb:Un (frs outer) [] H0 H2 s0.heap s2.heap:=I.base
 have nn:∀ b o,s0.heap.get? b = some o → b ∉ frs outer → b ∉ s0.heap.objs.size :: frs outer:=fun b o q h z => by
  rcases List.mem_cons.mp z with rfl | z
  ·exact absurd (Heap.lt_size q) (Nat.lt_irrefl _)
  ·exact h z
 refine ⟨fun b o q n hf hx => U.keep b o (hb.keep b o q n hf hx) (hb.free b o q n hx) (nn b o q hf) hx,fun b o q n hf hx => ?_,fun b o q n hx => ?_,fun b o q hx => ?_,fun b xs q => U.tups b xs (hb.tups b xs q),fun b o u q => U.frzs b o u (hb.frzs b o u q),fun b ps q => ?_⟩
 ·obtain ⟨sl,e⟩:=hb.slot b o q n hf hx
  obtain ⟨sl',e'⟩:=U.slot b _ e (hb.free b o q n hx) (List.mem_cons_of_mem _ hf) hx
  exact ⟨sl',e'⟩
 ·obtain ⟨o',e⟩:=hb.there b o q hx
  exact U.free b o' e (hb.free b o q n hx) hx
 ·obtain ⟨o',e⟩:=hb.there b o q hx
  exact U.there b o' e hx
 ·obtain ⟨m1,e1⟩:=hb.tbls b ps q
  obtain ⟨m2,e2⟩:=U.tbls b _ e1
  exact ⟨m1 ++ m2,by rw [e2,Array.append_assoc]⟩
theorem cov_leave {pins:List (Addr × Obj)} {σ:L2.St} {H H2:Hp} {s2:Shared} {B:Heap} (I:Inv (cxOf (CXX P w) P w K mg base N qual scope f cdv A outer s0 H0 E) pins σ H2 s2)
  (C:Cov B (cxOf (CXX P w) P w K mg base N qual scope f cdv A outer s0 H0 E).stack s2.heap H):Cov B outer s0.heap H:=by
 refine ⟨fun b o q hf => ?_,C.2⟩
 obtain ⟨o',e⟩:=I.base.there b o q (by simp [cxOf])
 refine C.1 b o' e fun z => ?_
 have z':b ∈ s0.heap.objs.size :: frs outer:=z
 rcases List.mem_cons.mp z' with rfl | z'
 ·exact absurd (Heap.lt_size q) (Nat.lt_irrefl _)
 ·exact hf z'
theorem xs_leave {cv e:Value} {H:Hp} {s':Shared} (hE:E cv none H) (x:XS (cxOf (CXX P w) P w K mg base N qual scope f cdv A outer s0 H0 E) cv e H s'):(cxOf (CXX P w) P w K mg base N qual scope f cdv A outer s0 H0 E).xe e s':=by
 obtain ⟨pins,σ,ea,rfl,x⟩:=x
 show wpAny (model P w) (A.deeper (envOfC qual scope s0.heap.objs.size f cdv)) (leaving (envOfC qual scope s0.heap.objs.size f cdv) (.ref ea)) (fun _ s'' => CXX P w outer H0 s0 E (.ref ea) s'') (fun e' s'' => CXX P w outer H0 s0 E e' s'') s'
 rcases x with ⟨s2,vs,I,hx,ho,hg⟩ | ⟨B,a0,s2,H2,I,ho,hg,U,hok,fly,C⟩
 ·refine wpAny_leaves_madeW (base:=PySem.W.hideAll s2.heap (frs (envOfC qual scope s0.heap.objs.size f cdv :: outer))) (h:=s2.heap) I.ok.frames rfl (fun b o q => PySem.W.of_hideAll _ q) (frames_made I) hx fun h' t fly _ _ up => ?_
  have C:=cov_made I
  have U0:Un (frs (cxOf (CXX P w) P w K mg base N qual scope f cdv A outer s0 H0 E).stack) [] H H s2.heap s2.heap:=Un.refl
  obtain ⟨U,hok⟩:=un_after I U0 I.hok (fun b o q => PySem.W.of_hideAll _ q) C fly.1 ((Heap.UpToSlots.of_keeps hx.keeps).trans up)
  exact ⟨ea,cv,.ref t,H,_,rfl,ho.trans I.os,by show AllBare s'.gens; rw [hg]; exact I.bare,leave_un I U,hok,fly,cov_leave I C,hE⟩
 ·refine wpAny_leaves_onW (base:=B) I.ok.frames rfl fly fun h' fly' up => ?_
  obtain ⟨U',hok'⟩:=un_after I U hok fly.1 C fly'.1 up
  exact ⟨ea,cv,a0,H,B,rfl,ho.trans I.os,hg,leave_un I U',hok',fly',cov_leave I C,hE⟩
end
noncomputable def EX (X:Cx):XK:=fun cv _ H' => ∀ e s',XS X cv e H' s' → X.xe e s'
theorem passX {X:Cx}:Passes (CXX X.prog X.w) X (EX X):=fun pins σ H s e s' I h => by
 obtain ⟨ea,cv,a0,H',B,rfl,ho,hg,U,hok,fly,C,hE⟩:=h
 exact hE _ _ ⟨pins,σ,ea,rfl,.inr ⟨B,a0,s,H,I,ho,hg,U,hok,fly,C⟩⟩
noncomputable abbrev SX:=Fm → Sto → Option (Str × Sto)
noncomputable abbrev GXL:=List D → Sto → Option (Str × Sto)
noncomputable def liftX (X:Cx) (fx:SX):L2.St → Hp → Prop:=fun σ H => ∃ O ρ L c L' C,Rep X.K H O σ ρ L ∧ fx ρ L = some (c,L') ∧ ClsAt X.K c C ∧
 ∀ H' O' e s',Step H O H' O' → RepS X.K H' O' L' → XS X (.ref C) e H' s' → X.xe e s'
noncomputable def PSx (X:Cx) (st:Stmt) (f:SF) (fx:SX):Prop:=PS X st fun E σ H => liftS X.K f E σ H ∨ liftX X fx σ H
noncomputable def PSsx (X:Cx) (st:List Stmt) (f:SF) (fx:SX):Prop:=PSs X st fun E σ H => liftS X.K f E σ H ∨ liftX X fx σ H
noncomputable def PEx (X:Cx) (e:Expr) (f:EF) (fx:SX):Prop:=PE X e fun σ H Q => lift X.K f σ H Q ∨ liftX X fx σ H
noncomputable def noX:SX:=fun _ _ => none
noncomputable def seqX (f:SF) (fx gx:SX):SX:=fun ρ L => match fx ρ L with
 | some r => some r
 | none => (match f ρ L with | some (.next ρ' L') => gx ρ' L' | _ => none)
noncomputable def ifX (t:TF) (fx gx:SX):SX:=fun ρ L => (t ρ L).bind fun x => if x.1 = true then fx ρ x.2 else gx ρ x.2
noncomputable def raiseX (c:Str):SX:=fun _ L => some (c,L)
noncomputable def callXf (G:GXL) (a:AF):SX:=fun ρ L => (a ρ L).bind fun y => G y.1 y.2
section
variable {X:Cx} {st:Stmt} {rest:List Stmt} {f g:SF} {fx gx:SX} {e:Expr} {fe:EF} {pos:Pos}
theorem ps_nox {t:TS} (h:PS X.nox st t):PS X st t:=fun pins s σ H D I hw => wpAny_mono (h pins s σ H D (I.wish _) hw) (fun _ _ q => q.unwish) fun _ _ z => False.elim z
theorem sx_of (h:PSf X.nox st f):PSx X st f noX:=PS.weaken (ps_nox h) fun D σ H q => by
 rcases q with q | ⟨O,ρ,L,c,L',C,r,e,_⟩
 ·exact q
 ·cases e
theorem ssx_nil:PSsx X [] nextF noX:=PSs.weaken pss_nil fun D σ H q => by
 rcases q with ⟨O,ρ,L,out,r,e,k⟩ | ⟨O,ρ,L,c,L',C,r,e,_⟩
 ·cases e; exact k σ H O (.refl _ _) r
 ·cases e
theorem ssx_one (h1:PSx X st f fx):PSsx X [st] f fx:=PSs.weaken (pss_one h1) fun D σ H h => h
theorem ssx_cons (h1:PSx X st f fx) (h2:PSsx X rest g gx):PSsx X (st :: rest) (seqF f g) (seqX f fx gx) :=
 PSs.weaken (pss_cons h1 h2) fun D σ H q => by
  rcases q with ⟨O,ρ,L,out,r,e,k⟩ | ⟨O,ρ,L,c,L',C,r,e,hC,k⟩
  ·unfold seqF at e
   cases e1:f ρ L with
   | none => rw [e1] at e; cases e
   | some o1 =>
    rw [e1] at e
    simp only [Option.bind_some] at e
    refine .inl ⟨O,ρ,L,o1,r,e1,?_⟩
    cases o1 with
    | next ρ1 L1 => exact fun σ' H' O' st' r' => .inl ⟨O',ρ1,L1,out,r',e,k.mono st'⟩
    | ret d L1 => cases e; exact k
    | brk ρ1 L1 => cases e; exact k
    | cont ρ1 L1 => cases e; exact k
  ·unfold seqX at e
   cases e1:fx ρ L with
   | some p =>
    rw [e1] at e
    cases e
    exact .inr ⟨O,ρ,L,c,L',C,r,e1,hC,k⟩
   | none =>
    rw [e1] at e
    cases e2:f ρ L with
    | none => rw [e2] at e; cases e
    | some o1 =>
     rw [e2] at e
     cases o1 with
     | next ρ1 L1 =>
      refine .inl ⟨O,ρ,L,_,r,e2,fun σ' H' O' st' r' => .inr ⟨O',ρ1,L1,c,L',C,r',e,hC,fun H2 O2 ev s2 st2 rs2 x => k H2 O2 ev s2 (st'.trans st2) rs2 x⟩⟩
     | ret d L1 => cases e
     | brk ρ1 L1 => cases e
     | cont ρ1 L1 => cases e
theorem sx_if {c:Expr} {a b:List Stmt} {t:TF} (hc:PTf X c t) (ha:PSsx X a f fx) (hb:PSsx X b g gx):PSx X (.If c a b pos) (ifF t f g) (ifX t fx gx) :=
 PS.weaken (ps_if hc ha hb) fun D σ H q => by
  rcases q with ⟨O,ρ,L,out,r,e,k⟩ | ⟨O,ρ,L,cn,L',C,r,e,hC,k⟩
  ·unfold ifF at e
   cases e1:t ρ L with
   | none => rw [e1] at e; cases e
   | some p =>
    rw [e1] at e
    obtain ⟨b1,L1⟩:=p
    refine ⟨O,ρ,L,b1,L1,r,e1,fun H1 O1 st rs => ?_⟩
    cases b1 with
    | true => exact iteT (.inl ⟨O1,ρ,L1,out,r.to st rs,by simpa using e,k.mono st⟩)
    | false => exact iteF (.inl ⟨O1,ρ,L1,out,r.to st rs,by simpa using e,k.mono st⟩)
  ·unfold ifX at e
   cases e1:t ρ L with
   | none => rw [e1] at e; cases e
   | some p =>
    rw [e1] at e
    obtain ⟨b1,L1⟩:=p
    refine ⟨O,ρ,L,b1,L1,r,e1,fun H1 O1 st rs => ?_⟩
    cases b1 with
    | true => exact iteT (.inr ⟨O1,ρ,L1,cn,L',C,r.to st rs,by simpa using e,hC,fun H2 O2 ev s2 st2 rs2 x => k H2 O2 ev s2 (st.trans st2) rs2 x⟩)
    | false => exact iteF (.inr ⟨O1,ρ,L1,cn,L',C,r.to st rs,by simpa using e,hC,fun H2 O2 ev s2 st2 rs2 x => k H2 O2 ev s2 (st.trans st2) rs2 x⟩)
theorem sx_expr (he:PEx X e fe fx) (hs:swapsWith e none pos.line X.env = pure false:=by rfl):PSx X (.Expr e pos) (exprF fe) fx :=
 PS.weaken (ps_expr he hs) fun D σ H q => by
  rcases q with ⟨O,ρ,L,out,r,e,k⟩ | q
  ·unfold exprF at e
   cases e1:fe ρ L with
   | none => rw [e1] at e; cases e
   | some p => rw [e1] at e; cases e; exact .inl ⟨O,ρ,L,p.1,p.2,r,e1,fun v H' O' st rs is => k σ H' O' st (r.to st rs)⟩
  ·exact .inr q
end
noncomputable def spX (K:PySem.W.Frag) (G:GL) (GX:GXL):Sp:=fun vs H Q E => rC K G vs H Q ∨ ∃ O L xs c L' C,RepS K H O L ∧ IsL K H O vs xs ∧ GX xs L = some (c,L') ∧ ClsAt K c C ∧ ∀ H' O',Step H O H' O' → RepS K H' O' L' → E (.ref C) none H'
structure FnX (P:Program) (w:World) (K:PySem.W.Frag) (mg:Str → Option Value) (base:Heap) (k:Nat) (x:Str) (G:GL) (GX:GXL):Prop where
 ex:∃ f fd ps,FnOk P w K mg base (CXX P w) k f fd ps (spX K G GX) ∧ mg x = some (.ref f) ∧ PySem.W.keepIn K (.ref f) = true ∧ Binds K fd ps []
theorem FnX.mono {P:Program} {w:World} {K:PySem.W.Frag} {mg:Str → Option Value} {base:Heap} {j k:Nat} {x:Str} {G:GL} {GX:GXL} (F:FnX P w K mg base j x G GX) (h:j ≤ k):FnX P w K mg base k x G GX:=by
 obtain ⟨f,fd,ps,a,b⟩:=F.ex
 exact ⟨f,fd,ps,a.mono h,b⟩
noncomputable def runX (B:SX) (N:List Str) (n:Nat):GXL:=fun xs L => if xs.length = n then B (startD N xs) L else none
theorem fnx_of {P:Program} {w:World} {K:PySem.W.Frag} {mg:Str → Option Value} {base:Heap} {x qual:Str} {st:Stmt} {f:Addr} {fd:FuncData} {N ps:List Str} {k:Nat} {B:SF} {BX:SX} (Fn:Fun K x qual st f fd) (S:FnScope N ps (defScope st))
  (hb:∀ (cdv:Value) (A:Around) (outer:List Env) (s:Shared) (H:Hp) (E:XK),Room k (A.deeper (envOfC qual (defScope st) s.heap.objs.size f cdv)) →
   PSsx (cxOf (CXX P w) P w K mg base N qual (defScope st) f cdv A outer s H E) (defBody st) B BX)
  (bi:Binds K fd ps []) (m:mg x = some (.ref f)) (kp:PySem.W.keepIn K (.ref f) = true):FnX P w K mg base (k + 1) x (runG B N ps.length) (runX BX N ps.length):=by
 refine ⟨f,fd,ps,?_,m,kp,bi⟩
 obtain ⟨oc,od,kV,doc,pm,an,cdv,ct,osl,rfl,lk,hcd⟩:=Fn.ex
 refine fn_of lk hcd S (fun vs H Q E h => ?_) fun A outer s H vs Q E hr hsp => ⟨_,hb cdv A outer s H E hr,?_⟩
 ·rcases h with ⟨O,L,xs,d,L',_,is,e,_⟩ | ⟨O,L,xs,c,L',C,_,is,e,_⟩
  ·rw [is.length]; exact runG_len e
  ·rw [is.length]
   unfold runX at e
   split at e
   ·assumption
   ·cases e
 ·rcases hsp with ⟨O,L,xs,d,L',rs,is,e,kk⟩ | ⟨O,L,xs,c,L',C,rs,is,e,hC,kk⟩
  ·obtain ⟨L'',hB,hd⟩:=runG_runs e
   have close:∀ v H' O',Step H O H' O' → RepS K H' O' L'' → Is K H' O' v d → Q v H':=fun v H' O' st' rs' is' => by
    rcases hd with rfl | ⟨rfl,⟨M,rfl⟩,nr⟩
    ·exact kk v H' O' st' rs' is'
    ·exact kk v H' O ⟨st'.1,List.prefix_refl _⟩ (rs.back st' rs') (is'.nr nr)
   rcases hB with hB | ⟨rfl,ρ',hB⟩
   ·exact .inl ⟨O,startD N xs,L,_,⟨rs,fmis_start is⟩,hB,close⟩
   ·exact .inl ⟨O,startD N xs,L,_,⟨rs,fmis_start is⟩,hB,fun σ' H' O' st' r' => close _ H' O' st' r'.s .non⟩
  ·unfold runX at e
   split at e
   ·exact .inr ⟨O,startD N xs,L,c,L',C,⟨rs,fmis_start is⟩,e,hC,fun H' O' ev s' st' rs' x => xs_leave (kk H' O' st' rs') x⟩
   ·cases e
section
variable {X:Cx} {k:Nat} {x:Str} {G:GL} {GX:GXL} {p pos:Pos} {e:Expr} {es:List Expr} {f:AF}
theorem ef_callX (F:FnX X.prog X.w X.K X.mg X.base k x G GX) (hr:Room k X.A) (ha:PAf X (e :: es) f) (hg:Gl X x:=by rfl) (hdb:(x == ("__debug__":Str)) = false:=by decide)
  (he:notStar e = true:=by rfl) (hpl:es.all notStar = true:=by rfl):PEx X (.Call (.Name x p) (e :: es) [] pos) (callB G f) (callXf GX f):=by
 obtain ⟨fa,fd,ps,a,b,c,d⟩:=F.ex
 exact PE.weaken (pe_call a hr hg b c d .nil passX ha hdb (starEach_cons he) (plain_of hpl)) fun σ H Q q => by
  rcases q with h | ⟨O,ρ,L,cn,L',C,r,e,hC,k⟩
  ·obtain ⟨O,ρ,L,ds,L',r,e,k⟩:=call_lift h
   exact ⟨O,ρ,L,ds,L',r,e,fun vs H1 O1 st rs is => by show spX X.K G GX (vs ++ []) H1 Q (EX X); rw [List.append_nil]; exact .inl (k vs H1 O1 st rs is)⟩
  ·unfold callXf at e
   cases e1:f ρ L with
   | none => rw [e1] at e; cases e
   | some y =>
    rw [e1] at e
    exact ⟨O,ρ,L,y.1,y.2,r,e1,fun vs H1 O1 st rs is => by
     show spX X.K G GX (vs ++ []) H1 Q (EX X)
     rw [List.append_nil]
     exact .inr ⟨O1,y.2,y.1,cn,L',C,rs,is,e,hC,fun H' O' st' rs' ev s' xs => k H' O' ev s' (st.trans st') rs' xs⟩⟩
end
abbrev bmV:List Value:=[.type "ValueError",.type "Exception",.type "BaseException",.type "object"]
structure ExcK (K:PySem.W.Frag) (c:Str) (C:Addr):Prop where
 ns:PySem.W.nsIn K mainGlobals c = some (some (.ref C))
 ok:PySem.W.excIn K C bmV "ValueError.__new__" = true
noncomputable def ExcObj (h:Heap) (C:Addr):Prop:=∃ (bm:List Value) (N:Addr) (nm qn:Str) (bs:List Value) (hd:Bool) (sn:List Str) (sub:List Value) (ab:Bool) (col:Option Bool) (dd:Option Addr) (k0 k1 k2 k3 k5:Option Value) (mN:Str → Option Value),
 h.get? C = some (excClassObj nm qn C N bs bm hd sn sub ab col dd k0 k1 k2 k3 k5 "ValueError.__new__") ∧ h.Ns N mN ∧ mN "__init__" = none ∧ OwnTail h bmV bm
theorem exc_at {K:PySem.W.Frag} {h:Heap} {c:Str} {C:Addr} (KI:K.In h) (z:ExcK K c C):ExcObj h C:=by
 have q:=z.ok
 unfold PySem.W.excIn at q
 split at q
 ·rename_i od cdat slots look
  split at q
  ·rename_i Cx mr s0 s1 s2 s3 nw s5 hmro hslots
   simp only [Bool.and_eq_true,beq_iff_eq,Bool.not_eq_true'] at q
   obtain ⟨⟨⟨⟨⟨e1,e2⟩,e3⟩,tl⟩,nsk⟩,nini⟩:=q
   subst e1 e2
   cases cdat with
   | mk nm bs mro ns qn hd sn sub ab col del =>
    dsimp only at hmro e3 nsk nini
    subst hmro e3
    cases slots with
    | mk sl =>
     dsimp only at hslots
     subst hslots
     exact ⟨mr,ns,nm,qn,bs,hd,sn,sub,ab,col,od,s0,s1,s2,s3,s5,h.nsMap ns,KI _ _ look,.of_isNs (PySem.W.isNs_of_in KI nsk),PySem.W.nsMap_none_of_in KI nsk nini,PySem.W.tail_of_in KI tl⟩
  ·cases q
 ·cases q
section
variable {X:Cx} {c:Str} {C:Addr} {y:Str} {j:Nat} {p np cpos pos:Pos}
theorem sx_raise (z:ExcK X.K c C) (hcalm:X.calm = true) (hg:Gl X c:=by rfl) (hdb:(c == ("__debug__":Str)) = false:=by decide) :
  PSx X (.Raise (some (.Call (.Name c np) [.Constant (.str y) j p] [] cpos)) none pos) neverF (raiseX c):=by
 intro pins s σ H D I h
 rcases h with ⟨O,ρ,L,out,r,e,k⟩ | ⟨O,ρ,L,c',L',C',r,e,hC,k⟩
 ·cases e
 ·cases e
  have hCC:C' = C:=by
   have:=z.ns
   unfold ClsAt at hC
   rw [hC] at this
   cases this; rfl
  subst hCC
  have hm:X.mg c = some (.ref C'):=PySem.W.mg_of I.mod.kin I.mod.glob z.ns
  obtain ⟨bm,N,nm,qn,bs,hd,sn,sub,ab,col,dd,k0,k1,k2,k3,k5,mN,hobj,hns,hni,T⟩:=exc_at (I.tok (s.toks + 1)).kIn z
  refine wpAny_Raise_call_subU (k5:=k5) (k3:=k3) (k2:=k2) (k1:=k1) (k0:=k0) (dd:=dd) (col:=col) (ab:=ab) (sub:=sub) (sn:=sn) (hdct:=hd) (bs:=bs) (N:=N) (q:=qn) (nm:=nm) (C:=C') PySem.F.excBase_ValueError rfl PySem.F.excBase_ValueError (mN:=mN) (T.hasType rfl) (I.ok.hd hcalm) rfl hni (ld_glob I hg hm ⟨rfl,?_⟩ hdb)
  refine Calls.evalArgs_plain ?_
  show wpAny _ _ (spliced [(false,eval (.Constant (.str y) j p) X.env)]) _ _ s
  refine Calls.spliced_cons (Calls.Constant_str (k:=j) (pos:=p) (Calls.spliced_nil ?_))
  refine ⟨rfl,by simp [sizeLine_eq],hobj,hns,T,fun h' ev hx => ?_⟩
  exact k H O (.ref ev) _ (.refl _ _) r.s ⟨pins,σ,ev,rfl,.inl ⟨_,_,I.tok _,hx,rfl,rfl⟩⟩
end
end L3
set_option maxHeartbeats 4000000
namespace L3
open PySem PySem.Spec PyProof.Rows L2
section
variable {M:Model} {A:Around} {E:Value → Shared → Prop}
theorem exc_match {h:Heap} {g:Array GenState} {d:Drawn} {t:Nat} {os:OsState} {ev C C2:Addr} {oe:Obj} {Q:Bool → Shared → Prop} (z:ExcObj h C2) (he:h.get? ev = some oe) (hcls:oe.cls = .ref C)
  {nm qn:Str} {N:Addr} {bs bm:List Value} {hd:Bool} {sn:List Str} {sub:List Value} {ab:Bool} {col:Option Bool} {dd:Option Addr} {k0 k1 k2 k3 k5:Option Value} {nw:String}
  (hC:h.get? C = some (excClassObj nm qn C N bs bm hd sn sub ab col dd k0 k1 k2 k3 k5 nw)) (hm:(Value.ref C :: bm).contains (.ref C2) = true)
  (hq:Q true ⟨h,g,d,t,os⟩):wpAny M A (excMatches (.ref ev) (.ref C2)) Q E ⟨h,g,d,t,os⟩:=by
 obtain ⟨bm2,N2,nm2,qn2,bs2,hd2,sn2,sub2,ab2,col2,dd2,j0,j1,j2,j3,j5,mN2,hC2,_,_,T2⟩:=z
 have hB:(Value.ref C2 :: bm2).contains (.type "BaseException") = true:=by
  have h1:bm2.contains (.type "BaseException") = true:=T2.hasType rfl
  rw [List.contains_cons,h1,Bool.or_true]
 have f:=tc_notTuple
 unfold excMatches
 repeat (first
  | (with_reducible refine wpAny_loadPart_at he ?_; rw [hcls])
  | with_reducible refine wpAny_loadPart_at hC2 ?_
  | (with_reducible refine wpAny_isSubtype_exc hC2 ?_; rw [hB])
  | (with_reducible refine wpAny_isSubtype_exc hC ?_; rw [hm])
  | wp_step)
 exact hq
end
noncomputable def ExcIs (x C:Addr) (h:Heap):Prop:=∃ o,h.get? x = some o ∧ o.cls = .ref C
theorem ExcIs.ty {x C:Addr} {h:Heap} (p:ExcIs x C h) (M:Model):PySem.W.Looks M h (typeOf (.ref x)) (.ref C):=by
 obtain ⟨o,h1,h2⟩:=p
 rw [← h2]
 exact (PySem.W.Looks.ld h1).andThen .now
structure ExcC (K:PySem.W.Frag) (C:Addr):Prop where
 ga:PySem.W.findIn K (.ref C) "__getattribute__" = some (some (.builtin "BaseException.__getattribute__"))
 gh:PySem.W.findIn K (.ref C) "__getattr__" = some none
 ha:PySem.W.findIn K (.ref C) "__class__" = some (some (.builtin "object.__class__"))
 hn:PySem.W.specialIn K (.builtin "object.__class__") "__get__" = some (some (.builtin "getset_descriptor.__get__"))
 tk:PySem.W.takesIn K (.builtin "object.__class__") = some true
 mr:PySem.W.mroIn K C (.type "object") = some true
section
open PySem.W Builtin Builtin.ObjectAttr Builtin.Getset_descriptor
variable {prog:Program} {w:World} {A:Around} {E:Value → Shared → Prop} {s:Shared} {K:Frag} {x C:Addr}
theorem exc_find {M:Model} {h:Heap} (KI:K.In h) (c:ExcC K C):Looks M h (find (.ref x) (.ref C) "__class__") (.bind (.builtin "getset_descriptor.__get__") (.builtin "object.__class__")) :=
 (looks_findIn KI c.ha).andThen ((looks_specialIn KI c.hn).andThen (((looks_takesIn KI c.tk).andThen .now:Looks M h (dataDescriptor? (some (.builtin "object.__class__")) (some (.builtin "getset_descriptor.__get__"))) (some (.builtin "getset_descriptor.__get__",.builtin "object.__class__"))).andThen (Looks.tag .now)))
theorem exc_clsget {R:Result → Shared → Prop} {tp:Value} (KI:K.In s.heap) (p:ExcIs x C s.heap) (c:ExcC K C) (h:R (.ok (.ret (.ref C))) s) :
  codeAny (model prog w) A (.call (.builtin "getset_descriptor.__get__") ⟨[.builtin "object.__class__",.ref x,tp],[]⟩) R s:=by
 cases s with
 | mk hh g dr t os =>
  have T0:=p.ty (model prog w)
  have T1:=looks_mroIn (M:=model prog w) KI c.mr
  refine codeAny_call_builtin KF.slot_gs.plain KF.entry_gs (KF.slot_gs.check _ _ _ _ _ _ _ _ KF.type_class (KF.args_gs _ _ _) ?_)
  unfold Builtin.«getset_descriptor.__get__» descrGet; rw [dga_obj]
  refine wpAny_bind (wpAny_pure ?_)
  unfold descrGetter descrCheckInstance descrNameAndClass isInstance; simp only [KF.owner_class]
  repeat lk
  refine ⟨Code.quiet_builtin _ (by decide +kernel),codeAny_builtin KF.entry_class ?_⟩
  unfold Builtin.«object.__class__» shownTypeOf; repeat lk
  exact h
theorem exc_check {M:Model} {nameV:Value} {Q:Unit → Shared → Prop} {c:Str} (z:ExcK K c C) (KI:K.In s.heap) (p:ExcIs x C s.heap) (hq:Q () s):wpAny M A (checkBuiltinCall "BaseException.__getattribute__" ⟨[.ref x,nameV],[]⟩) Q E s:=by
 obtain ⟨o,hx,hc⟩:=p
 obtain ⟨bm,N,nm,qn,bs,hd,sn,sub,ab,col,dd,k0,k1,k2,k3,k5,mN,hC,_,_,T⟩:=exc_at KI z
 obtain ⟨h,g,d,t,os⟩:=s
 have hk:builtinKind "BaseException.__getattribute__" = some .slot:=by decide +kernel
 have hsplit:splitId "BaseException.__getattribute__" = some ("BaseException","__getattribute__"):=by decide +kernel
 have hcB:(Value.ref C :: bm).contains (.type "BaseException") = true:=by rw [List.contains_cons,T.hasType rfl]; rfl
 have ha:=F.args_bexc_ga (.ref x) nameV
 simp only [checkBuiltinCall,hk,hsplit]
 refine wpAny_bind ?_
 ·unfold isInstance
  repeat (first | (with_reducible refine wpAny_loadPart_at hx ?_; rw [hc]) | (with_reducible refine wpAny_isSubtype_exc hC ?_; rw [hcB]) | wp_step)
  exact hq
theorem exc_class {c:Str} {Q:Option Value → Shared → Prop} (z:ExcK K c C) (KI:K.In s.heap) (p:ExcIs x C s.heap) (ec:ExcC K C) (h:Q (some (.ref C)) { s with toks:=s.toks + 1 }):wpAny (model prog w) A (getAttr? (.ref x) "__class__") Q E s:=by
 have T0:=p.ty (model prog w)
 have T1:=exc_find (x:=x) (M:=model prog w) KI ec
 have TG:=looks_findIn (M:=model prog w) KI ec.ga
 have TH:=looks_findIn (M:=model prog w) KI ec.gh
 have key:∀ {A:Around} {E:Value → Shared → Prop} {R:Fin → Shared → Prop} {t:Nat} {tk:Tok},R (.done (.ret (.ref C))) { s with toks:=t } → wpAny (model prog w) A (Builtin.«object.__getattribute__» ⟨[.ref x,.str "__class__" tk],[]⟩) R E { s with toks:=t }:=fun {A E R t tk} hR => by
  refine wpAny_bind (wpAny_pure (wpAny_bind (wpAny_pure (wpAny_bind (T0.at (wpAny_bind (T1.at ?_)))))))
  show wpAny _ _ (holding [.builtin "object.__class__"] (call (.builtin "getset_descriptor.__get__") [.builtin "object.__class__",.ref x,.ref C]) >>= ret) _ _ _
  exact wpAny_bind (wpAny_holding (wpAny_call (exc_clsget KI p ec (wpAny_pure hR))))
 have f3:=PySem.F.excAttr_ValueError.ga.bind (.ref x)
 unfold getAttr? getAttrBy? getAttrBy
 refine wpAny_bind (wpAny_mkText (wpAny_bind (wpAny_attempt (wpAny_holding (wpAny_bind (T0.at (wpAny_bind (TG.at ?_))))))))
 show wpAny _ _ (getAttrByItsOwn _ _ _ _ _ _) _ _ _
 unfold getAttrByItsOwn callGetattribute boundAndCalled
 refine wpAny_bind (TH.at (wpAny_bind (wpAny_attempt (wpAny_holding ?_))))
 show wpAny _ _ (bindSpecial (.builtin "BaseException.__getattribute__") (.ref x) >>= _) _ _ _
 rw [f3]
 refine wpAny_bind (wpAny_pure (wpAny_call (codeAny_call_builtin PySem.F.excAttr_ValueError.ga.plain F.entry_bexc_ga (exc_check z KI p (key ?_)))))
 exact handed_on rfl (wpAny_pure h)
theorem kitx_exc {c:Str} (z:ExcK K c C) (ec:ExcC K C):KitX K (.ref x) (.ref C) (ExcIs x C) where
 ty:=fun M h _ p => p.ty M
 it:=fun M h KI _ => by
  obtain ⟨bm,N,nm,qn,bs,hd,sn,sub,ab,col,dd,k0,k1,k2,k3,k5,mN,ho,_⟩:=exc_at KI z
  intro A' Q' E' s' k q
  unfold isType loadHead
  exact wpAny_bind (wpAny_loadPart (k _ _ ho) (wpAny_pure q))
 ne:=fun h tp dd its n sl KI htp => by
  obtain ⟨bm,N,nm,qn,bs,hd,sn,sub,ab,col,dd,k0,k1,k2,k3,k5,mN,ho,_⟩:=exc_at KI z
  refine Bool.eq_false_iff.mpr fun q => ?_
  have e:C = tp:=Value.ref.inj (beq_iff_eq.mp q)
  subst e
  rw [ho] at htp
  have q2:=congrArg Obj.cls (Option.some.inj htp)
  simp [excClassObj] at q2
 ca:=fun KI p k => exc_class z KI p ec k
end
end L3
set_option maxHeartbeats 4000000
namespace L3
open PySem PySem.Spec PyProof.Rows L2
noncomputable def Xh (X:Cx) (ev:Value):Cx:={ X with A:=X.A.mark (some ev),calm:=false }
theorem ok_mark {X:Cx} (ok:X.Ok) (ev:Value):(Xh X ev).Ok :=
 ⟨ok.mod,ok.kind,ok.glob,ok.blt,ok.above,ok.inj,ok.has,ok.cab,(fun h => by cases h),ok.frames,ok.stk,ok.exf,ok.bs,ok.bsz,ok.noex,ok.exfs,ok.funs,ok.frf⟩
section
variable {X:Cx} {pins:List (Addr × Obj)} {σ:L2.St} {H:Hp} {s:Shared} {ev:Value}
theorem inv_mark (I:Inv X pins σ H s) (ev:Value):Inv (Xh X ev) pins σ H s:=⟨ok_mark I.ok ev,I.os,I.bare,I.base,I.loc,I.cell,I.free,I.freeC,I.pin,I.hok,I.len⟩
theorem inv_unmark (ok:X.Ok) (I:Inv (Xh X ev) pins σ H s):Inv X pins σ H s:=⟨ok,I.os,I.bare,I.base,I.loc,I.cell,I.free,I.freeC,I.pin,I.hok,I.len⟩
theorem sp_unmark {D:Ends} {f:Flow} {s':Shared} (ok:X.Ok) (h:SP (Xh X ev) pins D f s'):SP X pins D f s':=by
 cases f with
 | next => obtain ⟨σ',H',I,q⟩:=h; exact ⟨σ',H',inv_unmark ok I,q⟩
 | brk => obtain ⟨σ',H',I,q⟩:=h; exact ⟨σ',H',inv_unmark ok I,q⟩
 | cont => obtain ⟨σ',H',I,q⟩:=h; exact ⟨σ',H',inv_unmark ok I,q⟩
 | ret u => obtain ⟨v,σ',H',I,r,q⟩:=h; exact ⟨v,σ',H',inv_unmark ok I,r,q⟩
end
structure SubK (K:PySem.W.Frag) (c:Str) (C0:Addr):Prop where
 ex:∃ C,ExcK K c C ∧ PySem.W.mroIn K C (.ref C0) = some true
theorem mro_at {K:PySem.W.Frag} {h:Heap} {C:Addr} {v:Value} (KI:K.In h) (m:PySem.W.mroIn K C v = some true) {nm qn:Str} {N:Addr} {bs bm:List Value} {hd:Bool} {sn:List Str} {sub:List Value} {ab:Bool} {col:Option Bool} {dd:Option Addr} {k0 k1 k2 k3 k5:Option Value} {nw:String}
  (hC:h.get? C = some (excClassObj nm qn C N bs bm hd sn sub ab col dd k0 k1 k2 k3 k5 nw)):(Value.ref C :: bm).contains v = true:=by
 unfold PySem.W.mroIn at m
 obtain ⟨cd,hcd,m⟩:=Option.bind_eq_some_iff.mp m
 unfold PySem.W.clsIn at hcd
 split at hcd
 ·rename_i ho
  have e:=KI _ _ ho
  rw [hC] at e
  have e2:=congrArg Obj.data (Option.some.inj e)
  simp only [excClassObj] at e2
  cases hcd
  injection e2 with e2
  subst e2
  split at m
  ·cases m
  ·exact Option.some.inj m
 ·cases hcd
end L3
set_option maxHeartbeats 4000000
namespace L3
open PySem PySem.Spec PyProof.Rows L2
noncomputable def tryF (G:GL) (GX:GXL) (a:AF) (subs:Str → Bool) (fh:SF):SF:=fun ρ L => (a ρ L).bind fun y => match G y.1 y.2 with
 | some r => some (.next ρ r.2)
 | none => (GX y.1 y.2).bind fun z => if subs z.1 = true then fh ρ z.2 else none
section
variable {X:Cx} {k:Nat} {x c0:Str} {C0:Addr} {G:GL} {GX:GXL} {a:AF} {subs:Str → Bool} {fh:SF} {p pos pe pc ph pt:Pos} {e:Expr} {es:List Expr} {b0:Stmt} {body:List Stmt}
theorem sf_try0 (F:FnX X.prog X.w X.K X.mg X.base k x G GX) (hr:Room k X.A) (ha:PAf X.nox (e :: es) a) (hC:ExcK X.K c0 C0) (hsub:∀ c,subs c = true → SubK X.K c C0)
  (hs:∀ ev,PSsf (Xh X ev).nox (b0 :: body) fh) (hstk:X.stack = X.env :: X.outer) (hfr:X.env.frame = some X.env.locals)
  (hg:Gl X x:=by rfl) (hgc:Gl X c0:=by rfl) (hdb:(x == ("__debug__":Str)) = false:=by decide) (hdc:(c0 == ("__debug__":Str)) = false:=by decide)
  (he:notStar e = true:=by rfl) (hpl:es.all notStar = true:=by rfl) (hsw:swapsWith (.Call (.Name x p) (e :: es) [] pos) none pe.line X.env = pure false:=by rfl) :
  PSf X (.Try [.Expr (.Call (.Name x p) (e :: es) [] pos) pe] [.ExceptHandler (some (.Name c0 pc)) none (b0 :: body) ph] [] [] pt) (tryF G GX a subs fh):=by
 intro pins s σ H D I h
 obtain ⟨O,ρ,L,out,r,e0,k0⟩:=h
 unfold tryF at e0
 obtain ⟨y,e1,e0⟩:=Option.bind_eq_some_iff.mp e0
 obtain ⟨fa,fd,ps,Fk,hm,hk,bi⟩:=F.ex
 refine wpAny_Try_except (wpAny_execs_cons (wpAny_Expr_any ?_ I.quiet hsw))
 refine wpAny_Call_Name_kw (ld_glob I hg hm ?_ hdb)
 refine PySem.W.callWith_K (h₀:=X.base) I.ok.mod.kin hk (wpAny_mono (ha pos pins s σ H (fun vs H1 => ∃ O1,Step H O H1 O1 ∧ RepS X.K H1 O1 y.2 ∧ IsL X.K H1 O1 vs y.1) (I.wish _) ⟨O,ρ,L,y.1,y.2,r,e1,fun vs H1 O1 st rs is => ⟨O1,st,rs,is⟩⟩)
  (fun us s1 q => ?_) fun _ _ z => False.elim z) (starEach_cons he) (plain_of hpl)
 obtain ⟨vs,H1,I1w,rv,O1,st1,rs1,is1⟩:=q
 have I1:Inv X pins σ H1 s1:=I1w.unwish
 refine ⟨I1.kIn,?_⟩
 have hl:∀ {Q E},spX X.K G GX vs H1 Q E → (us ++ []).length = ps.length:=fun h => by rw [List.append_nil,← rv.length]; exact Fk.len _ _ _ _ h
 cases eG:G y.1 y.2 with
 | some z =>
  rw [eG] at e0
  cases e0
  have hsp:spX X.K G GX vs H1 (fun v H' => ∃ O',Step H1 O1 H' O' ∧ RepS X.K H' O' z.2) (fun _ _ _ => False):=.inl ⟨O1,y.2,y.1,z.1,z.2,rs1,is1,eG,fun v H' O' st rs is => ⟨O',st,rs⟩⟩
  refine wpAny_call (codeAny_mono (Fk.run X.A X.stack s1 H1 ⟨us,[]⟩ us vs _ _ hr I1.env0 (by have:=bi s1 us I1.kIn (hl hsp); rwa [List.append_nil] at this) rv hsp) fun rr s' hq => ?_)
  cases rr with
  | error ev => obtain ⟨ea,cv,a0,H',B,_,_,_,_,_,_,_,z⟩:=hq; exact z.elim
  | ok fl =>
   cases fl with
   | ret u =>
    obtain ⟨v,H',I',_,O',st,rs⟩:=I1.after hq
    exact wpAny_execs_nil (wpAny_execs_nil ⟨σ,H',I',k0 σ H' O' (st1.trans st) ⟨rs,r.f.mono (st1.trans st)⟩⟩)
   | next => exact False.elim hq
   | brk => exact False.elim hq
   | cont => exact False.elim hq
 | none =>
  rw [eG] at e0
  obtain ⟨z,eX,e0⟩:=Option.bind_eq_some_iff.mp e0
  have hz:subs z.1 = true:=by
   by_cases hz:subs z.1 = true
   ·exact hz
   ·rw [if_neg hz] at e0; cases e0
  rw [if_pos hz] at e0
  obtain ⟨C,zC,hmro⟩:=(hsub _ hz).ex
  have hsp:spX X.K G GX vs H1 (fun _ _ => False) (fun cv _ H' => cv = .ref C ∧ ∃ O',Step H1 O1 H' O' ∧ RepS X.K H' O' z.2):=.inr ⟨O1,y.2,y.1,z.1,z.2,C,rs1,is1,eX,zC.ns,fun H' O' st rs => ⟨rfl,O',st,rs⟩⟩
  refine wpAny_call (codeAny_mono (Fk.run X.A X.stack s1 H1 ⟨us,[]⟩ us vs _ _ hr I1.env0 (by have:=bi s1 us I1.kIn (hl hsp); rwa [List.append_nil] at this) rv hsp) fun rr s' hq => ?_)
  cases rr with
  | ok fl =>
   cases fl with
   | ret u => obtain ⟨v,H',_,_,z⟩:=I1.after hq; exact z.elim
   | next => exact False.elim hq
   | brk => exact False.elim hq
   | cont => exact False.elim hq
  | error ev =>
   obtain ⟨ea,cv,a0,H',B,rfl,ho,hg',U,hok,fly,Cv,rfl,O',st2,rs2⟩:=hq
   have fly0:Heap.FlyingW B (X.env :: X.outer) ea (.ref C) a0 s'.heap:=by rw [← hstk]; exact fly
   refine wpAny_looks_onW (by rw [I1.ok.frames,hstk]) hfr fly0 fun h1 held up1 => ?_
   refine wpAny_landsW held fun h2 fly2 up2 => ?_
   have un2:=un_after I1 U hok fly.1 Cv fly2.1 (up1.trans up2)
   have II:Inv X pins σ H' { s' with heap:=h2 }:=I1.call' ho un2.1 un2.2 hg' (fun b z => absurd z (by simp))
   have hm0:X.mg c0 = some (.ref C0):=PySem.W.mg_of II.mod.kin II.mod.glob hC.ns
   refine wpAny_handleBy_cons (codeAny_handlers_test ?_) (by intro q; cases q)
   refine ld_glob (inv_mark II (.ref ea)) hgc hm0 ?_ hdc
   obtain ⟨ob,hob,hcls⟩:=fly2.there
   obtain ⟨bm,N,nm,qn,bs,hd,sn,sub,ab,col,dd,k1,k2,k3,k4,k5,mN,hobj,_⟩:=exc_at II.kIn zC
   refine exc_match (exc_at II.kIn hC) hob hcls hobj (mro_at II.kIn hmro hobj) ?_
   show codeAny _ _ _ _ _
   refine codeAny_handlers_suite (lands_againW fly2 fun h3 fly3 up3 => ?_)
   have un3:=un_after I1 U hok fly.1 Cv fly3.1 ((up1.trans up2).trans up3)
   have III:Inv X pins σ H' { s' with heap:=h3 }:=I1.call' ho un3.1 un3.2 hg' (fun b z => absurd z (by simp))
   exact wpAny_mono (hs (.ref ea) pins _ σ H' D ((inv_mark III _).wish _) ⟨O',ρ,z.2,out,⟨rs2,r.f.mono (st1.trans st2)⟩,e0,k0.mono (st1.trans st2)⟩) (fun f s q => sp_unmark III.ok q.unwish) fun _ _ z => False.elim z
end
end L3
set_option maxHeartbeats 4000000
namespace L3
open PySem PySem.Spec PyProof.Rows L2
section
variable {X:Cx} {pins:List (Addr × Obj)} {σ:L2.St} {H H1 H':Hp} {s s1:Shared} {h:Heap}
theorem goes_ok {M:Model} {A:Around} {E:Value → Shared → Prop} {i:Nat} {x:Str} {pos:Pos} {Q:Unit → Shared → Prop} (I:Inv X pins σ H s) (hN:X.N.Nodup) (hi:X.N[i]? = some x) (hk:X.env.scope.names.lookup x = some .local)
  (h:∀ s',Inv X pins (σ.set i none) H s' → Q () s'):wpAny M A (do bindName X.env x .none; unbindBehindTheSuite X.env x pos) Q E s:=by
 obtain ⟨m,hn,hl⟩:=id I.loc
 have hcls:(X.env.scope.kind == .class || (X.env.scope.kind == .module && X.env.locals != X.env.globals)) = false:=by rw [I.ok.kind]; rfl
 have hiσ:i < σ.length:=by rw [I.len]; exact (List.getElem?_eq_some_iff.mp hi).1
 have cne:=I.cne
 refine wpAny_nameGoes_keeps hk hn hcls fun h' v hn' hs => ?_
 obtain ⟨oL,_,_,hoL,_⟩:=id hn
 refine h _ ⟨I.ok,I.os,I.bare,⟨fun b o e n hb hx => ?_,fun b o e n hb hx => ?_,I.base.free,fun b o e hx => ?_,I.base.tups,I.base.frzs,I.base.tbls⟩,⟨_,hn',fun j y v' e1 e2 e3 => ?_⟩,fun y c e => ?_,I.free,I.freeC,fun p hp => ?_,fun b ob e => ?_,by simpa using I.len⟩
 ·exact (hs.2 b (Nat.ne_of_lt (Nat.lt_of_lt_of_le (Heap.lt_size e) I.ok.above))).trans (I.base.keep b o e n hb hx)
 ·obtain ⟨sl,e1⟩:=I.base.slot b o e n hb hx
  exact ⟨sl,(hs.2 b (Nat.ne_of_lt (Nat.lt_of_lt_of_le (Heap.lt_size e) I.ok.above))).trans e1⟩
 ·obtain ⟨o',e1⟩:=I.base.there b o e hx
  exact ⟨o',(hs.2 b (Nat.ne_of_lt (Nat.lt_of_lt_of_le (Heap.lt_size e) I.ok.above))).trans e1⟩
 ·by_cases hj:j = i
  ·subst hj
   rw [List.getElem?_set_self hiσ] at e2
   cases e2
  ·rw [List.getElem?_set_ne (Ne.symm hj)] at e2
   obtain ⟨u',r',q⟩:=hl j y v' e1 e2 e3
   refine ⟨u',r',?_⟩
   rcases q with ⟨k,e⟩ | ⟨k,c,e,z⟩
   ·refine .inl ⟨k,?_⟩
    have:y ≠ x:=fun e => hj (nodup_ix hN e1 (e ▸ hi))
    simp [this,e]
   ·exact .inr ⟨k,c,e,z.sameBut hs (cne y c e)⟩
 ·obtain ⟨w',z⟩:=I.cell y c e
  exact ⟨w',z.sameBut hs (cne y c e)⟩
 ·obtain ⟨e,n,ne,nf,d⟩:=I.pin p hp
  exact ⟨(hs.2 p.1 ne).trans e,n,ne,nf,d⟩
 ·refine (I.hok b ob e).stay (fun c w' hc q => (hs.2 c ?_).trans q) (fun _ q => q) fun _ _ q => q
  rintro rfl
  have hfree:=I.free
  rcases hc with rfl | hc
  ·rw [hfree] at e; cases e
  ·rw [hfree] at hc; cases hc
theorem track_exc {B:Heap} {ea C:Addr} {a0:Value} (I1:Inv X pins σ H1 s1) (U:Un (frs X.stack) [] H1 H' s1.heap h) (hok:HOk X.prog X.w H' h) (fly:Heap.FlyingW B X.stack ea (.ref C) a0 h) (Cv:Cov B X.stack s1.heap H') :
  H' ea = none ∧ Un (frs X.stack) [] H1 (upd H' ea (.ext fun h => ∃ o,h.get? ea = some o ∧ o.cls = .ref C)) s1.heap h ∧ HOk X.prog X.w (upd H' ea (.ext fun h => ∃ o,h.get? ea = some o ∧ o.cls = .ref C)) h:=by
 have f0:H' ea = none:=by
  cases z:H' ea with
  | none => rfl
  | some u =>
   obtain ⟨o,e⟩:=Cv.2 ea u z
   have:=fly.2.1
   rw [this] at e; cases e
 have fresh:s1.heap.get? ea = none:=by
  cases z:s1.heap.get? ea with
  | none => rfl
  | some o =>
   by_cases hb:ea ∈ frs X.stack
   ·obtain ⟨_,o',ho',hd⟩:=I1.stack.mem hb
    rw [z] at ho'; cases ho'
    obtain ⟨sl,e⟩:=U.slot ea o z (I1.stkFree ea hb) hb (by simp)
    obtain ⟨oe,vs,e2,_,e3,_⟩:=fly.first
    rw [e] at e2; cases e2
    exact absurd e3 (hd vs)
   ·obtain ⟨u,e⟩:=Cv.1 ea o z hb
    have:=fly.2.1
    rw [this] at e; cases e
 have ne:∀ b o,s1.heap.get? b = some o → b ≠ ea:=fun b o e z => by subst z; rw [fresh] at e; cases e
 have neH:∀ b u,H1 b = some u → b ≠ ea:=fun b u e => by
  obtain ⟨o,q⟩:=obj_has (I1.hok b u e)
  exact ne b o q
 refine ⟨f0,⟨U.keep,U.slot,fun b o q n hx => ?_,U.there,fun b xs q => ?_,fun b o u q => ?_,fun b ps q => ?_⟩,fun a o e => ?_⟩
 ·rw [upd_ne (ne b o q)]; exact U.free b o q n hx
 ·rw [upd_ne (neH b _ q)]; exact U.tups b xs q
 ·rw [upd_ne (neH b _ q)]; exact U.frzs b o u q
 ·rw [upd_ne (neH b _ q)]; exact U.tbls b ps q
 ·by_cases z:a = ea
  ·subst z
   rw [upd_same] at e
   cases e
   obtain ⟨o,e1,e2⟩:=fly.there
   exact ⟨⟨o,e1,e2⟩,⟨o,e1⟩,fun h1 h2 ⟨o,q,c⟩ k => ⟨o,k o q,c⟩⟩
  ·rw [upd_ne z] at e
   exact (hok a o e).stay (fun _ _ _ q => q) (fun b q => by rw [upd_ne (ne_of_none q f0)]; exact q) fun b xs q => by rw [upd_ne (ne_of_none q f0)]; exact q
end
theorem FmIs.unset {K:PySem.W.Frag} {H:Hp} {O:List Addr} {σ:L2.St} {ρ:Fm} (h:FmIs K H O σ ρ) (i:Nat):FmIs K H O (σ.set i none) (ρ.set i none):=by
 refine ⟨by simp [h.len],fun j e q => ?_⟩
 by_cases z:j = i
 ·subst z
  have hj:j < ρ.length:=by
   have:=(List.getElem?_eq_some_iff.mp q).1
   simpa using this
  rw [List.getElem?_set_self hj] at q
  cases q
 ·rw [List.getElem?_set_ne (Ne.symm z)] at q
  obtain ⟨v',a,b⟩:=h.at' j e q
  exact ⟨v',by rw [List.getElem?_set_ne (Ne.symm z)]; exact a,b⟩
noncomputable def goesF (i:Nat) (o:Out):Option Out:=match o with
 | .next ρ L => some (.next (ρ.set i none) L)
 | .ret d L => some (.ret d L)
 | _ => none
noncomputable def tryAF (G:GL) (GX:GXL) (a:AF) (subs:Str → Bool) (i:Nat) (fh:SF):SF:=fun ρ L => (a ρ L).bind fun y => match G y.1 y.2 with
 | some r => some (.next ρ r.2)
 | none => (GX y.1 y.2).bind fun z => if subs z.1 = true then (fh (ρ.set i (some (.ref z.2.length))) (z.2 ++ [.exn z.1])).bind (goesF i) else none
section
variable {X:Cx} {k i:Nat} {x c0 n:Str} {C0:Addr} {G:GL} {GX:GXL} {a:AF} {subs:Str → Bool} {fh:SF} {p pos pe pc ph pt:Pos} {e:Expr} {es:List Expr} {b0:Stmt} {body:List Stmt}
theorem sf_tryA (F:FnX X.prog X.w X.K X.mg X.base k x G GX) (hr:Room k X.A) (ha:PAf X.nox (e :: es) a) (hC:ExcK X.K c0 C0) (hsub:∀ c,subs c = true → SubK X.K c C0) (hN:X.N.Nodup)
  (hs:∀ ev,PSsf (Xh X ev).nox (b0 :: body) fh) (hstk:X.stack = X.env :: X.outer) (hfr:X.env.frame = some X.env.locals)
  (hi:X.N[i]? = some n:=by rfl) (hx:X.env.scope.names.lookup n = some .local:=by rfl)
  (hg:Gl X x:=by rfl) (hgc:Gl X c0:=by rfl) (hdb:(x == ("__debug__":Str)) = false:=by decide) (hdc:(c0 == ("__debug__":Str)) = false:=by decide)
  (he:notStar e = true:=by rfl) (hpl:es.all notStar = true:=by rfl) (hsw:swapsWith (.Call (.Name x p) (e :: es) [] pos) none pe.line X.env = pure false:=by rfl) :
  PSf X (.Try [.Expr (.Call (.Name x p) (e :: es) [] pos) pe] [.ExceptHandler (some (.Name c0 pc)) (some n) (b0 :: body) ph] [] [] pt) (tryAF G GX a subs i fh):=by
 intro pins s σ H D I h
 obtain ⟨O,ρ,L,out,r,e0,k0⟩:=h
 unfold tryAF at e0
 obtain ⟨y,e1,e0⟩:=Option.bind_eq_some_iff.mp e0
 obtain ⟨fa,fd,ps,Fk,hm,hk,bi⟩:=F.ex
 refine wpAny_Try_except (wpAny_execs_cons (wpAny_Expr_any ?_ I.quiet hsw))
 refine wpAny_Call_Name_kw (ld_glob I hg hm ?_ hdb)
 refine PySem.W.callWith_K (h₀:=X.base) I.ok.mod.kin hk (wpAny_mono (ha pos pins s σ H (fun vs H1 => ∃ O1,Step H O H1 O1 ∧ RepS X.K H1 O1 y.2 ∧ IsL X.K H1 O1 vs y.1) (I.wish _) ⟨O,ρ,L,y.1,y.2,r,e1,fun vs H1 O1 st rs is => ⟨O1,st,rs,is⟩⟩)
  (fun us s1 q => ?_) fun _ _ z => False.elim z) (starEach_cons he) (plain_of hpl)
 obtain ⟨vs,H1,I1w,rv,O1,st1,rs1,is1⟩:=q
 have I1:Inv X pins σ H1 s1:=I1w.unwish
 refine ⟨I1.kIn,?_⟩
 have hl:∀ {Q E},spX X.K G GX vs H1 Q E → (us ++ []).length = ps.length:=fun h => by rw [List.append_nil,← rv.length]; exact Fk.len _ _ _ _ h
 cases eG:G y.1 y.2 with
 | some z =>
  rw [eG] at e0
  cases e0
  have hsp:spX X.K G GX vs H1 (fun v H' => ∃ O',Step H1 O1 H' O' ∧ RepS X.K H' O' z.2) (fun _ _ _ => False):=.inl ⟨O1,y.2,y.1,z.1,z.2,rs1,is1,eG,fun v H' O' st rs is => ⟨O',st,rs⟩⟩
  refine wpAny_call (codeAny_mono (Fk.run X.A X.stack s1 H1 ⟨us,[]⟩ us vs _ _ hr I1.env0 (by have:=bi s1 us I1.kIn (hl hsp); rwa [List.append_nil] at this) rv hsp) fun rr s' hq => ?_)
  cases rr with
  | error ev => obtain ⟨ea,cv,a0,H',B,_,_,_,_,_,_,_,z⟩:=hq; exact z.elim
  | ok fl =>
   cases fl with
   | ret u =>
    obtain ⟨v,H',I',_,O',st,rs⟩:=I1.after hq
    exact wpAny_execs_nil (wpAny_execs_nil ⟨σ,H',I',k0 σ H' O' (st1.trans st) ⟨rs,r.f.mono (st1.trans st)⟩⟩)
   | next => exact False.elim hq
   | brk => exact False.elim hq
   | cont => exact False.elim hq
 | none =>
  rw [eG] at e0
  obtain ⟨z,eX,e0⟩:=Option.bind_eq_some_iff.mp e0
  have hz:subs z.1 = true:=by
   by_cases hz:subs z.1 = true
   ·exact hz
   ·rw [if_neg hz] at e0; cases e0
  rw [if_pos hz] at e0
  obtain ⟨o1,e2,e3⟩:=Option.bind_eq_some_iff.mp e0
  obtain ⟨C,zC,hmro⟩:=(hsub _ hz).ex
  have hsp:spX X.K G GX vs H1 (fun _ _ => False) (fun cv _ H' => cv = .ref C ∧ ∃ O',Step H1 O1 H' O' ∧ RepS X.K H' O' z.2):=.inr ⟨O1,y.2,y.1,z.1,z.2,C,rs1,is1,eX,zC.ns,fun H' O' st rs => ⟨rfl,O',st,rs⟩⟩
  refine wpAny_call (codeAny_mono (Fk.run X.A X.stack s1 H1 ⟨us,[]⟩ us vs _ _ hr I1.env0 (by have:=bi s1 us I1.kIn (hl hsp); rwa [List.append_nil] at this) rv hsp) fun rr s' hq => ?_)
  cases rr with
  | ok fl =>
   cases fl with
   | ret u => obtain ⟨v,H',_,_,z⟩:=I1.after hq; exact z.elim
   | next => exact False.elim hq
   | brk => exact False.elim hq
   | cont => exact False.elim hq
  | error ev =>
   obtain ⟨ea,cv,a0,H',B,rfl,ho,hg',U,hok,fly,Cv,rfl,O',st2,rs2⟩:=hq
   have fly0:Heap.FlyingW B (X.env :: X.outer) ea (.ref C) a0 s'.heap:=by rw [← hstk]; exact fly
   refine wpAny_looks_onW (by rw [I1.ok.frames,hstk]) hfr fly0 fun h1 held up1 => ?_
   refine wpAny_landsW held fun h2 fly2 up2 => ?_
   have un2:=un_after I1 U hok fly.1 Cv fly2.1 (up1.trans up2)
   have II:Inv X pins σ H' { s' with heap:=h2 }:=I1.call' ho un2.1 un2.2 hg' (fun b z => absurd z (by simp))
   have hm0:X.mg c0 = some (.ref C0):=PySem.W.mg_of II.mod.kin II.mod.glob hC.ns
   refine wpAny_handleBy_cons (codeAny_handlers_test ?_) (by intro q; cases q)
   refine ld_glob (inv_mark II (.ref ea)) hgc hm0 ?_ hdc
   obtain ⟨ob,hob,hcls⟩:=fly2.there
   obtain ⟨bm,N,nm,qn,bs,hd,sn,sub,ab,col,dd,k1,k2,k3,k4,k5,mN,hobj,_⟩:=exc_at II.kIn zC
   refine exc_match (exc_at II.kIn hC) hob hcls hobj (mro_at II.kIn hmro hobj) ?_
   show codeAny _ _ _ _ _
   refine codeAny_handlers_suite_as (lands_againW fly2 fun h3 fly3 up3 => ?_)
   have un3:=un_after I1 U hok fly.1 Cv fly3.1 ((up1.trans up2).trans up3)
   obtain ⟨f0,un4,hok4⟩:=track_exc I1 un3.1 un3.2 (by rw [hstk]; exact fly3) Cv
   have III:Inv X pins σ _ { s' with heap:=h3 }:=I1.call' ho un4 hok4 hg' (fun b z => absurd z (by simp))
   have rs3:=rs2.new (o:=.exn z.1) f0 ⟨C,zC.ns,upd_same⟩
   have st3:Step H' O' (upd H' ea (.ext fun h => ∃ o,h.get? ea = some o ∧ o.cls = .ref C)) (O' ++ [ea]):=⟨.new f0,List.prefix_append _ _⟩
   have st4:=(st1.trans st2).trans st3
   have is3:Is X.K (upd H' ea (.ext fun h => ∃ o,h.get? ea = some o ∧ o.cls = .ref C)) (O' ++ [ea]) (.ref ea) (.ref z.2.length):=.ref (by rw [← rs2.len]; simp)
   refine store_ok (v:=.ref ea) III hN hi (.inl hx) rfl (fun s4 I4 => ?_) (.inr hx)
   refine wpAny_mono (hs (.ref ea) pins s4 _ _ { nx:=fun σ' H' => D.nx (σ'.set i none) H',rt:=D.rt } ((inv_mark I4 _).wish _) ⟨O' ++ [ea],_,_,o1,⟨rs3,(r.f.mono st4).set is3 i⟩,e2,?_⟩) (fun f s5 q => ?_) fun _ _ z => False.elim z
   ·cases o1 with
    | next ρ' L' =>
     cases e3
     exact fun σ' H2 O2 st rr => k0 _ H2 O2 (st4.trans st) ⟨rr.s,rr.f.unset i⟩
    | ret d L' =>
     cases e3
     exact fun v H2 O2 st rr is => k0 v H2 O2 (st4.trans st) rr is
    | brk ρ' L' => cases e3
    | cont ρ' L' => cases e3
   ·have q2:=sp_unmark III.ok q.unwish
    cases f with
    | next =>
     obtain ⟨σ',H2,I5,q3⟩:=q2
     exact goes_ok I5 hN hi hx fun s6 I6 => ⟨_,H2,I6,q3⟩
    | ret u =>
     obtain ⟨v,σ',H2,I5,rr,q3⟩:=q2
     exact goes_ok I5 hN hi hx fun s6 I6 => ⟨v,_,H2,I6,rr,q3⟩
    | brk => obtain ⟨σ',H2,I5,q3⟩:=q2; exact False.elim q3
    | cont => obtain ⟨σ',H2,I5,q3⟩:=q2; exact False.elim q3
end
end L3
set_option maxHeartbeats 4000000
namespace L3
open PySem PySem.Spec PyProof.Rows L2
section
variable {X:Cx} {c:Str} {C:Addr} {pos:Pos}
theorem pe_gref (hm:ClsAt X.K c C) (hg:Gl X c:=by rfl) (hdb:(c == ("__debug__":Str)) = false:=by decide):PE X (.Name c pos) (tC (.ref C)) :=
 fun pins s σ H Q I h => ld_glob I hg (PySem.W.mg_of I.mod.kin I.mod.glob hm) ⟨.ref C,H,I,rfl,h⟩ hdb
noncomputable def tVals (vs:List V):TA:=fun _ H Q => Q vs H
theorem pa_gnil:PA X [] (tVals []):=pa_nil
theorem pa_gcons {ts:List Expr} {vs:List V} (hr:PA X ts (tVals vs)) (hm:ClsAt X.K c C) (hg:Gl X c:=by rfl) (hdb:(c == ("__debug__":Str)) = false:=by decide):PA X (.Name c pos :: ts) (tVals (.ref C :: vs)) :=
 pa_cons (pe_gref hm hg hdb) hr
end
noncomputable def excR (K:PySem.W.Frag):List V → Hp → VK → Prop:=fun vs H Q => ∃ (ea C:Addr) (c:Str) (v:V) (b:Bool),vs = [.ref ea,v] ∧ H ea = some (.ext fun h => ∃ o,h.get? ea = some o ∧ o.cls = .ref C) ∧ ExcK K c C ∧ ExcC K C ∧
 ((∃ n,v = .ty n ∧ PySem.W.kitOne K (.ref C) (.type n) = some b) ∨ ∃ (tp:Addr) (Cs:List Addr),v = .ref tp ∧ H tp = some (.tup (Cs.map .ref)) ∧ PySem.W.kitAny K (.ref C) (Cs.map Value.ref) = some b) ∧ Q (.bl b) H
theorem vals_refs:∀ {Cs:List Addr} {us:List Value},Vals (Cs.map .ref) us → us = Cs.map Value.ref
 | [],_,r => by cases r; rfl
 | a :: l,us,r => by
  cases r with
  | cons r1 r2 =>
   have e:_ = Value.ref a:=r1
   rw [e,vals_refs r2]; rfl
theorem cr_exc {X:Cx}:CallR X (.builtin "isinstance") (excR X.K):=by
 intro pins s σ H xs us Q I r h
 obtain ⟨ea,C,c,v,b,rfl,hH,z,ec,hv,q⟩:=h
 obtain ⟨px,_,_⟩:=I.hok ea _ hH
 cases r with
 | cons r1 r2 =>
  cases r2 with
  | cons r2 r3 =>
   cases r3
   have e1:_ = Value.ref ea:=r1
   subst e1
   rcases hv with ⟨n,rfl,hk⟩ | ⟨tp,Cs,rfl,hT,hk⟩
   ·have e2:_ = Value.type n:=r2
    subst e2
    exact PySem.W.kia_one (kitx_exc z ec) I.kIn px hk (by intro q; cases q) fun tk => ⟨.bl b,H,I.tok tk,rfl,q⟩
   ·have e2:_ = Value.ref tp:=r2
    subst e2
    obtain ⟨_,its,rv,o,ho,hc,nn,hd⟩:=I.hok tp _ hT
    have ei:=vals_refs rv
    subst ei
    obtain ⟨oc,od,oo,os⟩:=o
    dsimp only at hc hd
    subst hc hd
    exact PySem.W.kia_tup (kitx_exc z ec) I.kIn px ho hk (by intro q; cases q) fun tk => ⟨.bl b,H,I.tok tk,rfl,q⟩
noncomputable def isEF (i:Nat) (f:Str → Option Bool):EF:=fun ρ L => match ρ[i]? with
 | some (some (.ref k)) => (match L[k]? with | some (.exn c) => (f c).bind fun b => some (.bl b,L) | _ => none)
 | _ => none
theorem isEF_at {i:Nat} {f:Str → Option Bool} {ρ:Fm} {L L':Sto} {d:D} (e:isEF i f ρ L = some (d,L')):∃ k c b,ρ[i]? = some (some (.ref k)) ∧ L[k]? = some (.exn c) ∧ f c = some b ∧ d = .bl b ∧ L' = L:=by
 unfold isEF at e
 split at e
 ·rename_i k hk
  split at e
  ·rename_i c hc
   obtain ⟨b,e1,e2⟩:=Option.bind_eq_some_iff.mp e
   cases e2
   exact ⟨k,c,b,hk,hc,e1,rfl,rfl⟩
  ·cases e
 ·cases e
theorem bt_VE:bootBuiltins "ValueError" = some (.type "ValueError"):=by decide +kernel
section
variable {X:Cx} {i:Nat} {n:Str} {f:Str → Option Bool} {p p1 p2 pos:Pos} {ts:List Expr} {Cs:List Addr}
theorem ef_isTup {cx:Nat} (hp:PA X ts (tVals (Cs.map V.ref))) (hlen:Cs.length ≤ sizeLine) (hf:∀ c b,f c = some b → ∃ C,ExcK X.K c C ∧ ExcC X.K C ∧ PySem.W.kitAny X.K (.ref C) (Cs.map Value.ref) = some b) (hm:X.mg "isinstance" = none)
  (hN:X.N[i]? = some n:=by rfl) (hv:Vis X.env.scope n:=by first | exact Or.inl rfl | exact Or.inr (Or.inl rfl)) (hd:(n == ("__debug__":Str)) = false:=by decide) (hcd:(n == ("__classdict__":Str)) = false:=by decide) (hg:Gl X "isinstance":=by rfl) :
  PEf X (.Call (.Name "isinstance" p) [.Name n p1,.Tuple ts cx p2] [] pos) (isEF i f) :=
 PE.weaken (pe_callB cr_exc hg hm bt_isinstance (pa_cons (pe_var hN hv hd hcd) (pa_cons (pe_tup hp) pa_nil))) fun σ H Q z3_ => by
  obtain ⟨O,ρ,L,d,L',r,e,k⟩:=z3_
  obtain ⟨k0,c,b,e1,e2,e3,rfl,rfl⟩:=isEF_at e
  obtain ⟨v,e4,e5⟩:=r.f.at' i _ e1
  cases e5 with
  | ref e6 =>
   rename_i a
   obtain ⟨C',hC',hH⟩:=r.s.ob k0 a _ e6 e2
   obtain ⟨C,z,ec,hk⟩:=hf c b e3
   have hCC:C' = C:=by
    have:=z.ns
    unfold ClsAt at hC'
    rw [hC'] at this
    cases this; rfl
   subst hCC
   refine ⟨.ref a,e4,?_⟩
   refine ⟨by simpa using hlen,fun q hq => ?_⟩
   exact ⟨a,C',c,.ref q,b,rfl,by rw [upd_ne (ne_of_none hH hq)]; exact hH,z,ec,.inr ⟨q,Cs,rfl,upd_same,hk⟩,k _ _ O ⟨.new hq,List.prefix_refl _⟩ (r.s.ext fun b u e => by rw [upd_ne (ne_of_none e hq)]; exact e) (.bl b)⟩
theorem ef_isVE (hf:∀ c b,f c = some b → ∃ C,ExcK X.K c C ∧ ExcC X.K C ∧ PySem.W.kitOne X.K (.ref C) (.type "ValueError") = some b) (hm:X.mg "isinstance" = none) (hmV:X.mg "ValueError" = none)
  (hN:X.N[i]? = some n:=by rfl) (hv:Vis X.env.scope n:=by first | exact Or.inl rfl | exact Or.inr (Or.inl rfl)) (hd:(n == ("__debug__":Str)) = false:=by decide) (hcd:(n == ("__classdict__":Str)) = false:=by decide) (hg:Gl X "isinstance":=by rfl) (hgV:Gl X "ValueError":=by rfl) :
  PEf X (.Call (.Name "isinstance" p) [.Name n p1,.Name "ValueError" p2] [] pos) (isEF i f) :=
 PE.weaken (pe_callB cr_exc hg hm bt_isinstance (pa_cons (pe_var hN hv hd hcd) (pa_cons (show PE X (.Name "ValueError" p2) (tC (.ty "ValueError")) from fun pins s σ H Q I h => ld_blt I hgV hmV bt_VE ⟨.ty "ValueError",H,I,rfl,h⟩ (by decide) (by decide)) pa_nil))) fun σ H Q z3_ => by
  obtain ⟨O,ρ,L,d,L',r,e,k⟩:=z3_
  obtain ⟨k0,c,b,e1,e2,e3,rfl,rfl⟩:=isEF_at e
  obtain ⟨v,e4,e5⟩:=r.f.at' i _ e1
  cases e5 with
  | ref e6 =>
   rename_i a
   obtain ⟨C',hC',hH⟩:=r.s.ob k0 a _ e6 e2
   obtain ⟨C,z,ec,hk⟩:=hf c b e3
   have hCC:C' = C:=by
    have:=z.ns
    unfold ClsAt at hC'
    rw [hC'] at this
    cases this; rfl
   subst hCC
   exact ⟨.ref a,e4,a,C',c,.ty "ValueError",b,rfl,hH,z,ec,.inl ⟨"ValueError",rfl,hk⟩,k _ _ O (.refl _ _) r.s (.bl b)⟩
end
noncomputable def only (c0:Str):Str → Bool:=fun c => c == c0
noncomputable def only1 (c0:Str) (b:Bool):Str → Option Bool:=fun c => if (c == c0) = true then some b else none
theorem sub_one {K:PySem.W.Frag} {c0:Str} {C0:Addr} (h:SubK K c0 C0):∀ c,only c0 c = true → SubK K c C0:=fun c e => by
 unfold only at e
 rw [eq_of_beq e]; exact h
theorem is_any {K:PySem.W.Frag} {c0:Str} {C:Addr} {vs:List Value} {b:Bool} (z:ExcK K c0 C) (ec:ExcC K C) (k:PySem.W.kitAny K (.ref C) vs = some b) :
  ∀ c b',only1 c0 b c = some b' → ∃ C,ExcK K c C ∧ ExcC K C ∧ PySem.W.kitAny K (.ref C) vs = some b':=fun c b' e => by
 unfold only1 at e
 split at e
 ·rename_i h
  cases e
  rw [eq_of_beq h]
  exact ⟨C,z,ec,k⟩
 ·cases e
theorem is_VE {K:PySem.W.Frag} {c0:Str} {C:Addr} {v:Value} {b:Bool} (z:ExcK K c0 C) (ec:ExcC K C) (k:PySem.W.kitOne K (.ref C) v = some b) :
  ∀ c b',only1 c0 b c = some b' → ∃ C,ExcK K c C ∧ ExcC K C ∧ PySem.W.kitOne K (.ref C) v = some b':=fun c b' e => by
 unfold only1 at e
 split at e
 ·rename_i h
  cases e
  rw [eq_of_beq h]
  exact ⟨C,z,ec,k⟩
 ·cases e
end L3
set_option maxHeartbeats 4000000
namespace L3
open PySem PySem.Spec PyProof.Rows L2
section
variable {X:Cx}
noncomputable def gIntT:GL:=fun xs L => match xs with | [.str z] => if z.length ≤ 640 then (PySem.intText? z).map fun n => (.int n,L) else none | _ => none
theorem cd_intT:CallD X (.type "int") gIntT:=fun pins s σ H vs us Q I r z9_ => by
 obtain ⟨O,L,xs,d,L',rs,is,e,k⟩:=z9_
 unfold gIntT at e
 split at e
 ·split at e
  ·rename_i z hz
   cases e1:PySem.intText? z with
   | none => rw [e1] at e; cases e
   | some n =>
    rw [e1] at e
    cases e
    cases is with | cons i1 i2 => cases i2; cases i1; exact (by
     obtain ⟨u,rfl,t,rfl⟩:=vals1 r
     exact PySem.W.KIN.call_text e1 hz ⟨.int n,H,I.tok _,⟨_,rfl⟩,k _ _ _ (.refl _ _) rs (.int _)⟩)
  ·cases e
 ·cases e
theorem md_isalnum:MtD X "str.isalnum" (gS0b Txt.isalnum):=md_b fun _ _ _ _ _ h => SC.isalnum h
end
section
variable {X:Cx} {a b c e:Expr} {fa fb fe:EF} {x:Str} {pos:Pos}
noncomputable def PE1 (X:Cx) (e:Expr) (f:EF):Prop:=∀ (pins:List (Addr × Obj)) (s:Shared) (σ:L2.St) (H:Hp) (Q:VK),Inv X pins σ H s → lift X.K f σ H Q → wpAny (model X.prog X.w) X.A (eval e X.env) (fun u s' => 1 ≤ s'.toks ∧ EP X pins σ Q u s') X.xe s
noncomputable def PT1 (X:Cx) (e:Expr) (f:TF):Prop:=∀ (pins:List (Addr × Obj)) (s:Shared) (σ:L2.St) (H:Hp) (Q:Bool → Hp → Prop),Inv X pins σ H s → liftT X.K f σ H Q → wpAny (model X.prog X.w) X.A (isTrue e X.env (eval e X.env)) (fun u s' => 1 ≤ s'.toks ∧ TP X pins σ Q u s') X.xe s
noncomputable def PSp (X:Cx) (sts:List Stmt) (f:SF):Prop:=∀ (pins:List (Addr × Obj)) (s:Shared) (σ:L2.St) (H:Hp) (D:Ends),Inv X pins σ H s → 0 < s.toks → liftS X.K f D σ H → wpAny (model X.prog X.w) X.A (execs sts X.env) (SP X pins D) X.xe s
theorem e1_lst {z:Str} {j:Nat} {p pl:Pos} (hc:z.length ≤ 16777216:=by decide):PE1 X (.List [.Constant (.str z) j p] pl) (lstV (consA (cst (.str z)) nilA)):=by
 intro pins s σ H Q I ⟨O,ρ,L,d,L',r,e,k⟩
 have e':some (D.ref L.length,L ++ [Ob.lst [.str z]]) = some (d,L'):=e
 cases e'
 refine wpAny_List_spliced ?_
 show wpAny _ _ (spliced (backTo pl (starEach [.Constant (.str z) j p] X.env))) _ _ s
 rw [starEach_cons rfl]
 show wpAny _ _ (spliced ((false,eval (.Constant (.str z) j p) X.env) :: [])) _ _ s
 refine Calls.spliced_cons (Calls.Constant_str (Calls.spliced_nil ⟨(by show 1 ≤ sizeLine; decide),Nat.succ_pos _,?_⟩))
 have I1:=I.tok (s.toks + 1)
 have hf:H s.heap.objs.size = none:=I.hok.fresh (Nat.le_refl _)
 have st2:Step H O (upd H s.heap.objs.size (.lst [V.str z])) (O ++ [s.heap.objs.size]):=⟨.new hf,List.prefix_append _ _⟩
 have is0:IsL X.K H O [V.str z] [D.str z]:=.cons (.str _ hc) .nil
 have rv:Vals [V.str z] [Value.str z s.toks]:=.cons ⟨_,rfl⟩ .nil
 refine ⟨.ref s.heap.objs.size,upd H s.heap.objs.size (.lst [V.str z]),I1.laid (t':=s.toks + 1) (fun b u e => Heap.get?_push_of_some _ e) (Nat.le_refl _) ⟨(by show 1 ≤ sizeLine; decide),_,0,rv,Heap.get?_push_size _ rfl⟩,rfl,?_⟩
 refine k _ _ _ st2 (r.s.new hf ⟨_,upd_same,is0.mono st2⟩) (.ref ?_)
 rw [← r.s.len]; simp
theorem t1_cmp {op:CmpOp} {g:G2} (ho:OpD X (compareOp op) g) (ha:PEf X a fa) (hb:PE1 X b fb) (hm:behindInMarks op b = false):PT1 X (.Compare a [op] [b] pos) (asT (bin2 g fa fb)):=by
 intro pins s σ H Q I h
 have h':=two_lift (asT_lift h)
 refine wpAny_isTrue_Compare1 (thn (ha pins s σ H _ I h') fun v s1 ⟨x,H1,I1,r1,q1⟩ => thn (hb pins s1 σ H1 _ I1 q1) fun u s2 ⟨t2,y,H2,I2,r2,q2⟩ =>
  wpAny_with_toks (n:=1) t2 (wpAny_mono (ho pins s2 σ H2 x y v u _ I2 r1 r2 q2) (fun c s3 ⟨z,H3,I3,r3,k,e,q3⟩ t3 => ?_) fun _ _ he _ => he)) hm
 subst e
 cases r3
 exact wpAny_truthy_bool ⟨t3,H3,I3,q3⟩
theorem t1_and {f g:TF} {rest:List Expr} (ha:PT1 X a f) (hb:PWf X (.BoolOp .And (b :: rest) pos) g):PT1 X (.BoolOp .And (a :: b :: rest) pos) (andT f g):=by
 intro pins s σ H Q I ⟨O,ρ,L,c,L',r,e,k⟩
 unfold andT at e
 cases e1:f ρ L with
 | none => rw [e1] at e; cases e
 | some p =>
  rw [e1] at e
  obtain ⟨b1,L1⟩:=p
  refine isTrue_and (thn (ha pins s σ H (fun d H1 => d = b1 ∧ ∃ O1,Step H O H1 O1 ∧ RepS X.K H1 O1 L1) I ⟨O,ρ,L,b1,L1,r,e1,fun H1 O1 st rs => ⟨rfl,O1,st,rs⟩⟩) fun d s1 ⟨t1,H1,I1,hd,O1,st1,rs1⟩ => ?_)
  subst hd
  cases d with
  | true => exact wpAny_with_toks (n:=1) t1 (wpAny_mono (hb _ pins s1 σ H1 Q I1 ⟨O1,ρ,L1,c,L',r.to st1 rs1,by simpa using e,fun H' O' st' rs' => k H' O' (st1.trans st') rs'⟩) (fun _ _ q t => ⟨t,q⟩) fun _ _ he _ => he)
  | false =>
   simp at e
   obtain ⟨rfl,rfl⟩:=e
   exact ⟨t1,H1,I1,k _ _ st1 rs1⟩
theorem sf_ifR {c:Expr} {sa sb:List Stmt} {t:TF} {f g:SF} (hc:PT1 X c t) (ha:PSp X sa f) (hb:PSsf X sb g):PSf X (.If c sa sb pos) (ifF t f g):=by
 intro pins s σ H D I ⟨O,ρ,L,out,r,e,k⟩
 unfold ifF at e
 cases e1:t ρ L with
 | none => rw [e1] at e; cases e
 | some p =>
  rw [e1] at e
  obtain ⟨b1,L1⟩:=p
  refine wpAny_If (thn (hc pins s σ H (fun d H1 => d = b1 ∧ ∃ O1,Step H O H1 O1 ∧ RepS X.K H1 O1 L1) I ⟨O,ρ,L,b1,L1,r,e1,fun H1 O1 st rs => ⟨rfl,O1,st,rs⟩⟩) fun d s1 ⟨t1,H1,I1,hd,O1,st1,rs1⟩ => ?_)
  subst hd
  cases d with
  | true => exact ha pins s1 σ H1 D I1 t1 ⟨O1,ρ,L1,out,r.to st1 rs1,by simpa using e,k.mono st1⟩
  | false => exact hb pins s1 σ H1 D I1 ⟨O1,ρ,L1,out,r.to st1 rs1,by simpa using e,k.mono st1⟩
theorem ssp_set {i:Nat} {pos':Pos} {rest:List Stmt} {f:SF} (hN:X.N.Nodup) (he:PEfp X e fe) (hr:PSsf X rest f) (hi:X.N[i]? = some x:=by rfl) (hx:Loc X.env.scope x:=by first | exact Or.inl rfl | exact Or.inr rfl) (hs:swapsWith e (some (.Name x pos')) pos.line X.env = pure false:=by rfl)
  (hf:X.fn x = true ∨ X.env.scope.names.lookup x = some .local:=by first | exact .inl rfl | exact .inr rfl):PSp X (.Assign [.Name x pos'] e pos :: rest) (seqF (setF i fe) f):=by
 intro pins s σ H D I hpos ⟨O,ρ,L,out,r,e0,k⟩
 unfold seqF setF at e0
 cases e1:fe ρ L with
 | none => rw [e1] at e0; cases e0
 | some p =>
  rw [e1] at e0
  simp only [Option.bind_some] at e0
  refine wpAny_execs_cons (wpAny_Assign_Name (thn (he pins s σ H (fun v H1 => ∃ O1,Step H O H1 O1 ∧ RepS X.K H1 O1 p.2 ∧ Is X.K H1 O1 v p.1) I hpos ⟨O,ρ,L,_,_,r,e1,fun v H1 O1 st rs is => ⟨O1,st,rs,is⟩⟩) fun v s1 ⟨y,H1,I1,r1,O1,st1,rs1,is1⟩ => ?_) hs)
  refine store_ok I1 hN hi hx r1 (fun s2 I2 => ?_) hf
  exact hr pins s2 _ H1 D I2 ⟨O1,_,p.2,out,⟨rs1,(r.f.mono st1).set is1 i⟩,e0,k.mono st1⟩
end
end L3
set_option maxHeartbeats 4000000
namespace L3
open PySem PySem.Spec PyProof.Rows L2
noncomputable def W2 {α:Type} (o:Option (α × Sto)) (Q:α → Sto → Prop):Prop:=∃ a L,o = some (a,L) ∧ Q a L
noncomputable def W1 {α:Type} (o:Option α) (Q:α → Prop):Prop:=∃ a,o = some a ∧ Q a
noncomputable def WI (o:Option (ItD × Sto)) (Q:List D → (Sto → Bool) → Sto → Prop):Prop:=∃ a k L,o = some (⟨a,k⟩,L) ∧ Q a k L
structure EndP where
 nx:Fm → Sto → Prop
 rt:D → Sto → Prop
 bk:Fm → Sto → Prop
 ct:Fm → Sto → Prop
noncomputable def EndP.of (E:EndP):Out → Prop
 | .next ρ L => E.nx ρ L
 | .ret d L => E.rt d L
 | .brk ρ L => E.bk ρ L
 | .cont ρ L => E.ct ρ L
noncomputable def WS (o:Option Out) (nx:Fm → Sto → Prop) (rt:D → Sto → Prop) (bk ct:Fm → Sto → Prop):Prop:=∃ x,o = some x ∧ EndP.of ⟨nx,rt,bk,ct⟩ x
noncomputable def Br (b:Bool) (p q:Prop):Prop:=if b = true then p else q
noncomputable def IsB (d:D) (Q:Bool → Prop):Prop:=∃ b,d = .bl b ∧ Q b
noncomputable def IsI (d:D) (Q:Int → Prop):Prop:=∃ b,d = .int b ∧ Q b
noncomputable def Le16 (n:Nat) (p:Prop):Prop:=n ≤ 16777216 ∧ p
noncomputable def TyIs (T:String) (x:D) (L:Sto) (p:Prop):Prop:=tyD T x L = true ∧ p
section
variable {α β:Type} {ρ:Fm} {L:Sto} {p q:Prop} {b:Bool} {c:Prop}
theorem br_t (h:p):Br true p q:=h
theorem br_f (h:q):Br false p q:=h
theorem br_not (h:Br b q p):Br (!b) p q:=by cases b <;> exact h
theorem br_dec [Decidable c] (h1:c → p) (h2:¬ c → q):Br (decide c) p q:=by
 by_cases h:c
 ·rw [decide_eq_true h]; exact h1 h
 ·rw [decide_eq_false h]; exact h2 h
theorem br_decT [Decidable c] (h:c) (h1:p):Br (decide c) p q:=br_dec (fun _ => h1) (fun n => absurd h n)
theorem br_decF [Decidable c] (h:¬ c) (h1:q):Br (decide c) p q:=br_dec (fun n => absurd n h) (fun _ => h1)
theorem br_both (h1:b = true → p) (h2:b = false → q):Br b p q:=by
 cases b
 ·exact h2 rfl
 ·exact h1 rfl
theorem isB_mk {Q:Bool → Prop} (h:Q b):IsB (.bl b) Q:=⟨_,rfl,h⟩
theorem isI_mk {i:Int} {Q:Int → Prop} (h:Q i):IsI (.int i) Q:=⟨_,rfl,h⟩
theorem ty_str {z:Str} (h:p):TyIs "str" (.str z) L p:=⟨rfl,h⟩
theorem ty_lst {k:Nat} {xs:List D} (e:L[k]? = some (.lst xs)) (h:p):TyIs "list" (.ref k) L p:=⟨by simp [tyD,e],h⟩
theorem W2.mono {o:Option (α × Sto)} {Q Q':α → Sto → Prop} (h:W2 o Q) (i:∀ a L,Q a L → Q' a L):W2 o Q':=let ⟨a,L,e,q⟩:=h; ⟨a,L,e,i a L q⟩
theorem W2.mk {o:Option (α × Sto)} {Q:α → Sto → Prop} {a:α} (e:o = some (a,L)) (h:Q a L):W2 o Q:=⟨a,L,e,h⟩
theorem W2.get {o:Option (α × Sto)} {a:α} (h:W2 o fun a' L' => a' = a ∧ L' = L):o = some (a,L):=by obtain ⟨a',L',e,rfl,rfl⟩:=h; exact e
theorem W1.mk {o:Option α} {Q:α → Prop} {a:α} (e:o = some a) (h:Q a):W1 o Q:=⟨a,e,h⟩
theorem WS.mono {o:Option Out} {nx nx':Fm → Sto → Prop} {rt rt':D → Sto → Prop} {bk bk' ct ct':Fm → Sto → Prop} (h:WS o nx rt bk ct) (i1:∀ a L,nx a L → nx' a L) (i2:∀ a L,rt a L → rt' a L) (i3:∀ a L,bk a L → bk' a L) (i4:∀ a L,ct a L → ct' a L):WS o nx' rt' bk' ct':=by
 obtain ⟨x,e,h⟩:=h
 refine ⟨x,e,?_⟩
 cases x
 ·exact i1 _ _ h
 ·exact i2 _ _ h
 ·exact i3 _ _ h
 ·exact i4 _ _ h
section
variable {Q:D → Sto → Prop} {QT:Bool → Sto → Prop} {QA:List D → Sto → Prop} {QO:Option Int → Sto → Prop} {f g h:EF} {t u:TF} {a:AF}
theorem w_cst {d:D} (h:Q d L):W2 (cst d ρ L) Q:=⟨d,L,rfl,h⟩
theorem w_var {i:Nat} {d:D} (e:ρ[i]? = some (some d)) (h:Q d L):W2 (var i ρ L) Q:=⟨d,L,by unfold var; rw [e],h⟩
theorem w_bin {o:G2} (h:W2 (f ρ L) fun x L1 => W2 (g ρ L1) fun y L2 => W2 (o x y L2) Q):W2 (bin2 o f g ρ L) Q:=by
 obtain ⟨x,L1,e1,y,L2,e2,z,L3,e3,q⟩:=h
 exact ⟨z,L3,by unfold bin2; rw [e1,Option.bind_some,e2,Option.bind_some]; exact e3,q⟩
theorem w_un {o:G1} (h:W2 (f ρ L) fun x L1 => W2 (o x L1) Q):W2 (un1 o f ρ L) Q:=by
 obtain ⟨x,L1,e1,z,L3,e3,q⟩:=h
 exact ⟨z,L3,by unfold un1; rw [e1,Option.bind_some]; exact e3,q⟩
theorem w_asT (h:W2 (f ρ L) fun d L1 => IsB d fun b => QT b L1):W2 (asT f ρ L) QT:=by
 obtain ⟨x,L1,e1,b,rfl,q⟩:=h
 exact ⟨b,L1,by unfold asT; rw [e1]; rfl,q⟩
theorem w_notT (h:W2 (t ρ L) fun b L1 => QT (!b) L1):W2 (notT t ρ L) QT:=by
 obtain ⟨x,L1,e1,q⟩:=h
 exact ⟨_,L1,by unfold notT; rw [e1]; rfl,q⟩
theorem w_andT (h:W2 (t ρ L) fun b L1 => Br b (W2 (u ρ L1) QT) (QT false L1)):W2 (andT t u ρ L) QT:=by
 obtain ⟨x,L1,e1,q⟩:=h
 cases x
 ·exact ⟨false,L1,by unfold andT; rw [e1]; rfl,q⟩
 ·obtain ⟨y,L2,e2,q⟩:=q
  exact ⟨y,L2,by unfold andT; rw [e1]; exact e2,q⟩
theorem w_orT (h:W2 (t ρ L) fun b L1 => Br b (QT true L1) (W2 (u ρ L1) QT)):W2 (orT t u ρ L) QT:=by
 obtain ⟨x,L1,e1,q⟩:=h
 cases x
 ·obtain ⟨y,L2,e2,q⟩:=q
  exact ⟨y,L2,by unfold orT; rw [e1]; exact e2,q⟩
 ·exact ⟨true,L1,by unfold orT; rw [e1]; rfl,q⟩
theorem w_trueT (h:QT true L):W2 (trueT ρ L) QT:=⟨_,_,rfl,h⟩
theorem w_andV (h:W2 (f ρ L) fun d L1 => IsB d fun b => Br b (W2 (g ρ L1) Q) (Q (.bl false) L1)):W2 (andV f g ρ L) Q:=by
 obtain ⟨x,L1,e1,b,rfl,q⟩:=h
 cases b
 ·exact ⟨_,L1,by unfold andV; rw [e1]; rfl,q⟩
 ·obtain ⟨y,L2,e2,q⟩:=q
  exact ⟨y,L2,by unfold andV; rw [e1]; exact e2,q⟩
theorem w_orV (h:W2 (f ρ L) fun d L1 => IsB d fun b => Br b (Q (.bl true) L1) (W2 (g ρ L1) Q)):W2 (orV f g ρ L) Q:=by
 obtain ⟨x,L1,e1,b,rfl,q⟩:=h
 cases b
 ·obtain ⟨y,L2,e2,q⟩:=q
  exact ⟨y,L2,by unfold orV; rw [e1]; exact e2,q⟩
 ·exact ⟨_,L1,by unfold orV; rw [e1]; rfl,q⟩
theorem w_notV (h:W2 (f ρ L) fun d L1 => IsB d fun b => Q (.bl (!b)) L1):W2 (notV f ρ L) Q:=by
 obtain ⟨x,L1,e1,b,rfl,q⟩:=h
 exact ⟨_,L1,by unfold notV; rw [e1]; rfl,q⟩
theorem w_ifV (h:W2 (t ρ L) fun b L1 => Br b (W2 (f ρ L1) Q) (W2 (g ρ L1) Q)):W2 (ifV t f g ρ L) Q:=by
 obtain ⟨x,L1,e1,q⟩:=h
 cases x
 ·obtain ⟨y,L2,e2,q⟩:=q
  exact ⟨y,L2,by unfold ifV; rw [e1]; exact e2,q⟩
 ·obtain ⟨y,L2,e2,q⟩:=q
  exact ⟨y,L2,by unfold ifV; rw [e1]; exact e2,q⟩
theorem w_nilA (h:QA [] L):W2 (nilA ρ L) QA:=⟨_,_,rfl,h⟩
theorem w_consA (h:W2 (f ρ L) fun d L1 => W2 (a ρ L1) fun ds L2 => QA (d :: ds) L2):W2 (consA f a ρ L) QA:=by
 obtain ⟨x,L1,e1,y,L2,e2,q⟩:=h
 exact ⟨_,L2,by unfold consA; rw [e1,Option.bind_some,e2]; rfl,q⟩
theorem w_tupV (h:W2 (a ρ L) fun ds L1 => Le16 ds.length (Q (.tup ds) L1)):W2 (tupV a ρ L) Q:=by
 obtain ⟨x,L1,e1,hz,q⟩:=h
 exact ⟨_,L1,by unfold tupV; rw [e1,Option.bind_some]; simp only; rw [if_pos hz],q⟩
theorem w_lstV (h:W2 (a ρ L) fun ds L1 => Le16 ds.length (Q (.ref L1.length) (L1 ++ [.lst ds]))):W2 (lstV a ρ L) Q:=by
 obtain ⟨x,L1,e1,hz,q⟩:=h
 exact ⟨_,_,by unfold lstV; rw [e1,Option.bind_some]; simp only; rw [if_pos hz],q⟩
theorem w_callB {o:GL} (h:W2 (a ρ L) fun ds L1 => W2 (o ds L1) Q):W2 (callB o a ρ L) Q:=by
 obtain ⟨x,L1,e1,y,L2,e2,q⟩:=h
 exact ⟨_,L2,by unfold callB; rw [e1,Option.bind_some]; exact e2,q⟩
theorem w_mthF {T:String} {o:GM} (h:W2 (f ρ L) fun x L1 => TyIs T x L1 (W2 (a ρ L1) fun ys L2 => W2 (o x ys L2) Q)):W2 (mthF T o f a ρ L) Q:=by
 obtain ⟨x,L1,e1,ty,y,L2,e2,z,L3,e3,q⟩:=h
 exact ⟨_,L3,by unfold mthF; rw [e1,Option.bind_some]; simp only; rw [if_pos ty,e2,Option.bind_some]; exact e3,q⟩
theorem w_noO (h:QO none L):W2 (noO ρ L) QO:=⟨_,_,rfl,h⟩
theorem w_asO (h:W2 (f ρ L) fun d L1 => IsI d fun i => QO (some i) L1):W2 (asO f ρ L) QO:=by
 obtain ⟨x,L1,e1,b,rfl,q⟩:=h
 exact ⟨_,L1,by unfold asO; rw [e1]; rfl,q⟩
theorem w_slF {fl fh:OF} (h:W2 (f ρ L) fun x L1 => W2 (fl ρ L1) fun lo L2 => W2 (fh ρ L2) fun hi L3 => W2 (gSl x lo hi L3) Q):W2 (slF f fl fh ρ L) Q:=by
 obtain ⟨x,L1,e1,y,L2,e2,z,L3,e3,v,L4,e4,q⟩:=h
 exact ⟨_,L4,by unfold slF; rw [e1,Option.bind_some,e2,Option.bind_some,e3,Option.bind_some]; exact e4,q⟩
theorem w_comp {fi:IF} {n:Nat} {idx:List Nat} {gf:GF} {c:TF} {elt:EF} (h:WI (fi ρ L) fun items ok L1 => W1 (compL ok gf c elt L1.length items (frC n idx ρ) (L1 ++ [.lst []])) fun L2 => Q (.ref L1.length) L2):W2 (compF fi n idx gf c elt ρ L) Q:=by
 obtain ⟨x,k,L1,e1,L2,e2,q⟩:=h
 exact ⟨_,_,by unfold compF; rw [e1,Option.bind_some]; simp only; rw [e2]; rfl,q⟩
end
section
variable {Q:List D → (Sto → Bool) → Sto → Prop} {f:EF} {a:AF}
theorem wi_any (h:W2 (f ρ L) fun d L1 => WI ((itOf d L1).bind fun J => some (J,L1)) Q):WI (iAnyF f ρ L) Q:=by
 obtain ⟨x,L1,e1,y,k,L2,e2,q⟩:=h
 exact ⟨y,k,L2,by unfold iAnyF; rw [e1,Option.bind_some]; exact e2,q⟩
theorem wi_tup {xs:List D} (h:Q xs (fun _ => true) L):WI ((itOf (.tup xs) L).bind fun J => some (J,L)) Q:=⟨_,_,_,rfl,h⟩
theorem wi_str {y:Str} (h:Q (sgs y) (fun _ => true) L):WI ((itOf (.str y) L).bind fun J => some (J,L)) Q:=⟨_,_,_,rfl,h⟩
theorem wi_ref {k:Nat} {xs:List D} (e:L[k]? = some (.lst xs)) (h:Q xs (fun L' => decide (L'[k]? = some (.lst xs))) L):WI ((itOf (.ref k) L).bind fun J => some (J,L)) Q:=⟨_,_,_,by simp only [itOf,e]; rfl,h⟩
theorem wi_rng1 (h:W2 (a ρ L) fun ds L1 => ∃ j:Int,ds = [.int j] ∧ (j ≤ 4611686018427387903 ∧ -4611686018427387904 ≤ j) ∧ Q (rngD 0 j.toNat) (fun _ => true) L1):WI (iRng1F a ρ L) Q:=by
 obtain ⟨x,L1,e1,j,rfl,hj,q⟩:=h
 exact ⟨_,_,L1,by unfold iRng1F; rw [e1,Option.bind_some]; simp only; rw [if_pos hj],q⟩
theorem wi_rng2 (h:W2 (a ρ L) fun ds L1 => ∃ i j:Int,ds = [.int i,.int j] ∧ ((i ≤ 4611686018427387903 ∧ -4611686018427387904 ≤ i) ∧ (j ≤ 4611686018427387903 ∧ -4611686018427387904 ≤ j)) ∧ Q (rngD i (j - i).toNat) (fun _ => true) L1):WI (iRng2F a ρ L) Q:=by
 obtain ⟨x,L1,e1,i,j,rfl,hj,q⟩:=h
 exact ⟨_,_,L1,by unfold iRng2F; rw [e1,Option.bind_some]; simp only; rw [if_pos hj],q⟩
end
theorem WS.inx {o:Option Out} {nx:Fm → Sto → Prop} {rt:D → Sto → Prop} {bk ct:Fm → Sto → Prop} {ρ':Fm} {L':Sto} (e:o = some (.next ρ' L')) (q:nx ρ' L'):WS o nx rt bk ct:=⟨_,e,q⟩
theorem WS.irt {o:Option Out} {nx:Fm → Sto → Prop} {rt:D → Sto → Prop} {bk ct:Fm → Sto → Prop} {d:D} {L':Sto} (e:o = some (.ret d L')) (q:rt d L'):WS o nx rt bk ct:=⟨_,e,q⟩
theorem WS.ibk {o:Option Out} {nx:Fm → Sto → Prop} {rt:D → Sto → Prop} {bk ct:Fm → Sto → Prop} {ρ':Fm} {L':Sto} (e:o = some (.brk ρ' L')) (q:bk ρ' L'):WS o nx rt bk ct:=⟨_,e,q⟩
theorem WS.ict {o:Option Out} {nx:Fm → Sto → Prop} {rt:D → Sto → Prop} {bk ct:Fm → Sto → Prop} {ρ':Fm} {L':Sto} (e:o = some (.cont ρ' L')) (q:ct ρ' L'):WS o nx rt bk ct:=⟨_,e,q⟩
section
variable {nx:Fm → Sto → Prop} {rt:D → Sto → Prop} {bk ct:Fm → Sto → Prop} {f g:SF} {t:TF} {e:EF}
theorem ws_next (h:nx ρ L):WS (nextF ρ L) nx rt bk ct:=⟨_,rfl,h⟩
theorem ws_seq (h:WS (f ρ L) (fun ρ' L' => WS (g ρ' L') nx rt bk ct) rt bk ct):WS (seqF f g ρ L) nx rt bk ct:=by
 obtain ⟨x,e1,q⟩:=h
 cases x with
 | next ρ' L' => obtain ⟨y,e2,q⟩:=q; exact ⟨y,by unfold seqF; rw [e1]; exact e2,q⟩
 | ret d L' => exact WS.irt (by unfold seqF; rw [e1]; rfl) q
 | brk d L' => exact WS.ibk (by unfold seqF; rw [e1]; rfl) q
 | cont d L' => exact WS.ict (by unfold seqF; rw [e1]; rfl) q
theorem ws_set {i:Nat} (h:W2 (e ρ L) fun d L' => nx (ρ.set i (some d)) L'):WS (setF i e ρ L) nx rt bk ct:=by
 obtain ⟨x,L1,e1,q⟩:=h
 exact WS.inx (by unfold setF; rw [e1]; rfl) q
theorem ws_ret (h:W2 (e ρ L) rt):WS (retF e ρ L) nx rt bk ct:=by
 obtain ⟨x,L1,e1,q⟩:=h
 exact WS.irt (by unfold retF; rw [e1]; rfl) q
theorem ws_expr (h:W2 (e ρ L) fun _ L' => nx ρ L'):WS (exprF e ρ L) nx rt bk ct:=by
 obtain ⟨x,L1,e1,q⟩:=h
 exact WS.inx (by unfold exprF; rw [e1]; rfl) q
theorem ws_if (h:W2 (t ρ L) fun b L' => Br b (WS (f ρ L') nx rt bk ct) (WS (g ρ L') nx rt bk ct)):WS (ifF t f g ρ L) nx rt bk ct:=by
 obtain ⟨x,L1,e1,q⟩:=h
 cases x
 ·obtain ⟨y,e2,q⟩:=q
  exact ⟨y,by unfold ifF; rw [e1]; exact e2,q⟩
 ·obtain ⟨y,e2,q⟩:=q
  exact ⟨y,by unfold ifF; rw [e1]; exact e2,q⟩
theorem ws_for {fi:IF} {gf:GF} {body:SF} (h:WI (fi ρ L) fun items ok L1 => WS (loopL ok gf body items ρ L1) nx rt bk ct):WS (forF fi gf body ρ L) nx rt bk ct:=by
 obtain ⟨x,k,L1,e1,y,e2,q⟩:=h
 exact ⟨y,by unfold forF; rw [e1,Option.bind_some]; exact e2,q⟩
theorem ws_loop_nil {ok:Sto → Bool} {gf:GF} {body:SF} (hk:ok L = true) (h:nx ρ L):WS (loopL ok gf body [] ρ L) nx rt bk ct:=WS.inx (by unfold loopL; rw [if_pos hk]) h
theorem ws_loop_cons {ok:Sto → Bool} {gf:GF} {body:SF} {x:D} {xs:List D} (hk:ok L = true) (h:W1 (gf x ρ) fun ρ1 => WS (body ρ1 L) (fun ρ2 L2 => WS (loopL ok gf body xs ρ2 L2) nx rt bk ct) rt nx (fun ρ2 L2 => WS (loopL ok gf body xs ρ2 L2) nx rt bk ct)):WS (loopL ok gf body (x :: xs) ρ L) nx rt bk ct:=by
 obtain ⟨ρ1,e1,y,e2,q⟩:=h
 cases y with
 | next ρ2 L2 => obtain ⟨z,e3,q⟩:=q; exact ⟨z,by unfold loopL; rw [if_pos hk,e1,Option.bind_some,e2]; exact e3,q⟩
 | cont ρ2 L2 => obtain ⟨z,e3,q⟩:=q; exact ⟨z,by unfold loopL; rw [if_pos hk,e1,Option.bind_some,e2]; exact e3,q⟩
 | ret d L2 => exact WS.irt (by unfold loopL; rw [if_pos hk,e1,Option.bind_some,e2]; rfl) q
 | brk ρ2 L2 => exact WS.inx (by unfold loopL; rw [if_pos hk,e1,Option.bind_some,e2]; rfl) q
theorem ws_loop {ok:Sto → Bool} {gf:GF} {body:SF} (I:Nat → Fm → Sto → Prop):∀ (items:List D) (j:Nat) (ρ:Fm) (L:Sto),I j ρ L →
  (∀ i x ρ L,items[i]? = some x → I (j + i) ρ L → ok L = true ∧ W1 (gf x ρ) fun ρ1 => WS (body ρ1 L) (I (j + i + 1)) rt nx (I (j + i + 1))) →
  (∀ ρ L,I (j + items.length) ρ L → ok L = true ∧ nx ρ L) → WS (loopL ok gf body items ρ L) nx rt bk ct
 | [],j,ρ,L,h0,_,fin => ws_loop_nil (fin ρ L h0).1 (fin ρ L h0).2
 | x :: xs,j,ρ,L,h0,st,fin => by
  obtain ⟨hk,hw⟩:=st 0 x ρ L rfl h0
  have go:∀ ρ2 L2,I (j + 1) ρ2 L2 → WS (loopL ok gf body xs ρ2 L2) nx rt bk ct:=fun ρ2 L2 h2 => ws_loop I xs (j + 1) ρ2 L2 h2
   (fun i y ρ L e h => by
    have e':j + (i + 1) = j + 1 + i:=by omega
    have:=st (i + 1) y ρ L (by simpa using e) (by rw [e']; exact h)
    rw [e'] at this
    exact this)
   (fun ρ L h => fin ρ L (by have e':j + (x :: xs).length = j + 1 + xs.length:=by simp; omega
                             rw [e']; exact h))
  refine ws_loop_cons hk ?_
  obtain ⟨ρ1,e1,hb⟩:=hw
  exact ⟨ρ1,e1,hb.mono go (fun _ _ h => h) (fun _ _ h => h) go⟩
end
section
variable {Q:Fm → Prop} {gf:GF} {gs:GsF}
theorem wg_name {i:Nat} {d:D} (h:Q (ρ.set i (some d))):W1 (gNameF i d ρ) Q:=⟨_,rfl,h⟩
theorem wg_tup {n:Nat} {ds:List D} (e:ds.length = n) (h:W1 (gs ds ρ) Q):W1 (gTupF n gs (.tup ds) ρ) Q:=by
 obtain ⟨ρ',e1,q⟩:=h
 exact ⟨ρ',by unfold gTupF; simp only; rw [if_pos e]; exact e1,q⟩
theorem wg_nil (h:Q ρ):W1 (gNilF [] ρ) Q:=⟨_,rfl,h⟩
theorem wg_cons {d:D} {ds:List D} (h:W1 (gf d ρ) fun ρ' => W1 (gs ds ρ') Q):W1 (gConsF gf gs (d :: ds) ρ) Q:=by
 obtain ⟨ρ1,e1,ρ2,e2,q⟩:=h
 exact ⟨ρ2,by unfold gConsF; simp only; rw [e1]; exact e2,q⟩
end
theorem wc_nil {ok:Sto → Bool} {g:GF} {c:TF} {elt:EF} {k:Nat} {Q:Sto → Prop} (hk:ok L = true) (h:Q L):W1 (compL ok g c elt k [] ρ L) Q:=⟨_,by unfold compL; rw [if_pos hk],h⟩
theorem wc_cons {ok:Sto → Bool} {g:GF} {c:TF} {elt:EF} {k:Nat} {x:D} {xs:List D} {Q:Sto → Prop} (hk:ok L = true)
  (h:W1 (g x ρ) fun ρ1 => W2 (c ρ1 L) fun b L1 => Br b (W2 (elt ρ1 L1) fun d L2 => ∃ ys,L2[k]? = some (.lst ys) ∧ ys.length < 16777216 ∧ W1 (compL ok g c elt k xs ρ1 (L2.set k (.lst (ys ++ [d])))) Q) (W1 (compL ok g c elt k xs ρ1 L1) Q)) :
  W1 (compL ok g c elt k (x :: xs) ρ L) Q:=by
 obtain ⟨ρ1,e1,b,L1,e2,q⟩:=h
 cases b
 ·obtain ⟨z,e3,q⟩:=q
  exact ⟨z,by unfold compL; rw [if_pos hk,e1,Option.bind_some,e2,Option.bind_some]; exact e3,q⟩
 ·obtain ⟨d,L2,e3,ys,e4,hz,z,e5,q⟩:=q
  refine ⟨z,?_,q⟩
  unfold compL
  rw [if_pos hk,e1,Option.bind_some,e2,Option.bind_some]
  simp only [if_true]
  rw [e3,Option.bind_some]
  simp only
  rw [e4]
  simp only
  rw [if_pos hz]
  exact e5
theorem wc_inv {ok:Sto → Bool} {g:GF} {c:TF} {elt:EF} {k:Nat} {Q:Sto → Prop} (I:Nat → Fm → Sto → Prop):∀ (items:List D) (j:Nat) (ρ:Fm) (L:Sto),I j ρ L →
  (∀ i x ρ L,items[i]? = some x → I (j + i) ρ L → ok L = true ∧ W1 (g x ρ) fun ρ1 => W2 (c ρ1 L) fun b L1 => Br b (W2 (elt ρ1 L1) fun d L2 => ∃ ys,L2[k]? = some (.lst ys) ∧ ys.length < 16777216 ∧ I (j + i + 1) ρ1 (L2.set k (.lst (ys ++ [d])))) (I (j + i + 1) ρ1 L1)) →
  (∀ ρ L,I (j + items.length) ρ L → ok L = true ∧ Q L) → W1 (compL ok g c elt k items ρ L) Q
 | [],j,ρ,L,h0,_,fin => wc_nil (fin ρ L h0).1 (fin ρ L h0).2
 | x :: xs,j,ρ,L,h0,st,fin => by
  obtain ⟨hk,ρ1,e1,b,L1,e2,q⟩:=st 0 x ρ L rfl h0
  have go:∀ ρ2 L2,I (j + 1) ρ2 L2 → W1 (compL ok g c elt k xs ρ2 L2) Q:=fun ρ2 L2 h2 => wc_inv I xs (j + 1) ρ2 L2 h2
   (fun i y ρ L e h => by
    have e':j + (i + 1) = j + 1 + i:=by omega
    have:=st (i + 1) y ρ L (by simpa using e) (by rw [e']; exact h)
    rw [e'] at this
    exact this)
   (fun ρ L h => fin ρ L (by have e':j + (x :: xs).length = j + 1 + xs.length:=by simp; omega
                             rw [e']; exact h))
  refine wc_cons hk ⟨ρ1,e1,b,L1,e2,?_⟩
  cases b
  ·exact go _ _ q
  ·obtain ⟨d,L2,e3,ys,e4,hz,q⟩:=q
   exact ⟨d,L2,e3,ys,e4,hz,go _ _ q⟩
theorem wc_pure {g:GF} {c:TF} {elt:EF} {L0:Sto} {Q:Sto → Prop} (P:Fm → Prop) (f:D → Option D) (items:List D) (ρ:Fm)
  (hp:P ρ) (hz:items.length ≤ 16777216)
  (h:∀ x ∈ items,∀ ρ,P ρ → W1 (g x ρ) fun ρ1 => P ρ1 ∧ ∀ acc,W2 (c ρ1 (L0 ++ [.lst acc])) fun b L1 => L1 = L0 ++ [.lst acc] ∧ Br b (W2 (elt ρ1 (L0 ++ [.lst acc])) fun d L2 => L2 = L0 ++ [.lst acc] ∧ f x = some d) (f x = none))
  (q:Q (L0 ++ [.lst (items.filterMap f)])):W1 (compL (fun _ => true) g c elt L0.length items ρ (L0 ++ [.lst []])) Q:=by
 refine wc_inv (I:=fun j ρ L => P ρ ∧ L = L0 ++ [.lst ((items.take j).filterMap f)]) items 0 ρ _ ⟨hp,by simp⟩ ?_ ?_
 ·rintro i x ρ L e ⟨hp,rfl⟩
  refine ⟨rfl,?_⟩
  have hi:i < items.length:=(List.getElem?_eq_some_iff.mp e).1
  have hx:x ∈ items:=List.mem_of_getElem? e
  obtain ⟨ρ1,e1,hp1,h2⟩:=h x hx ρ hp
  obtain ⟨b,L1,e2,rfl,q⟩:=h2 ((items.take (0 + i)).filterMap f)
  refine ⟨ρ1,e1,b,_,e2,?_⟩
  have ht:items.take (0 + i + 1) = items.take (0 + i) ++ [x]:=by
   rw [Nat.zero_add,List.take_add_one,e]; rfl
  cases b
  ·have q':f x = none:=q
   refine ⟨hp1,?_⟩
   rw [ht,List.filterMap_append]
   simp [q']
  ·obtain ⟨d,L2,e3,rfl,q⟩:=q
   refine ⟨d,_,e3,(items.take (0 + i)).filterMap f,by simp,?_,hp1,?_⟩
   ·refine Nat.lt_of_le_of_lt (List.length_filterMap_le _ _) ?_
    simp; omega
   ·rw [ht,List.filterMap_append]
    simp [q]
 ·rintro ρ L ⟨_,rfl⟩
  exact ⟨rfl,by simpa using q⟩
section
variable {Q:D → Sto → Prop} {B:SF} {N:List Str} {n:Nat} {xs:List D}
theorem w_run (hn:xs.length = n) (h:WS (B (startD N xs) L) (fun _ L2 => L <+: L2 ∧ Q .non L) (fun d L2 => d.noRef = true ∧ L <+: L2 ∧ Q d L) (fun _ _ => False) (fun _ _ => False)):W2 (runG B N n xs L) Q:=by
 obtain ⟨x,e,q⟩:=h
 have tk:∀ L2:Sto,L <+: L2 → L2.take L.length = L:=fun L2 hp => by obtain ⟨M,rfl⟩:=hp; simp
 cases x with
 | next ρ L2 => exact ⟨_,_,by unfold runG; rw [if_pos hn,e]; simp only; rw [if_pos (tk _ q.1)],q.2⟩
 | ret d L2 => exact ⟨_,_,by unfold runG; rw [if_pos hn,e]; simp only; rw [if_pos ⟨q.1,tk _ q.2.1⟩],q.2.2⟩
 | brk ρ L2 => exact q.elim
 | cont ρ L2 => exact q.elim
end
section
variable {Q:D → Sto → Prop} {i j:Int} {x y:Str}
theorem g_addI (h:Q (.int (i + j)) L):W2 (gAdd (.int i) (.int j) L) Q:=⟨_,_,rfl,h⟩
theorem g_addS (hz:x.length + y.length ≤ 16777216) (h:Q (.str (x ++ y)) L):W2 (gAdd (.str x) (.str y) L) Q:=⟨_,_,by unfold gAdd; simp only; rw [if_pos hz],h⟩
theorem g_addL {a b:Nat} {xs ys:List D} (e1:L[a]? = some (.lst xs)) (e2:L[b]? = some (.lst ys)) (hz:xs.length + ys.length ≤ 16777216) (h:Q (.ref L.length) (L ++ [.lst (xs ++ ys)])):W2 (gAdd (.ref a) (.ref b) L) Q:=⟨_,_,by unfold gAdd; simp only; rw [e1,e2]; simp only; rw [if_pos hz],h⟩
theorem g_mulI (hc:cMul i j = true) (h:Q (.int (i * j)) L):W2 (gMul (.int i) (.int j) L) Q:=⟨_,_,by unfold gMul; simp only; rw [if_pos hc],h⟩
theorem g_fdiv (hc:cDiv i j = true) (h:Q (.int (i / j)) L):W2 (gFdiv (.int i) (.int j) L) Q:=⟨_,_,by unfold gFdiv gI; simp only; rw [if_pos hc],h⟩
theorem g_mod (hc:cMod i j = true) (h:Q (.int (i % j)) L):W2 (gMod (.int i) (.int j) L) Q:=⟨_,_,by unfold gMod gI; simp only; rw [if_pos hc],h⟩
theorem g_pow (hc:cPow i j = true) (h:Q (.int (i ^ j.toNat)) L):W2 (gPow (.int i) (.int j) L) Q:=⟨_,_,by unfold gPow gI; simp only; rw [if_pos hc],h⟩
theorem g_neg (h:Q (.int (-i)) L):W2 (gNeg (.int i) L) Q:=⟨_,_,rfl,h⟩
theorem g_lt (h:Q (.bl (decide (i < j))) L):W2 (gLt (.int i) (.int j) L) Q:=⟨_,_,rfl,h⟩
theorem g_le (h:Q (.bl (decide (i ≤ j))) L):W2 (gLe (.int i) (.int j) L) Q:=⟨_,_,rfl,h⟩
theorem g_gt (h:Q (.bl (decide (j < i))) L):W2 (gGt (.int i) (.int j) L) Q:=⟨_,_,rfl,h⟩
theorem dec_congr {p q:Prop} [Decidable p] [Decidable q] (h:p ↔ q):decide p = decide q:=by
 by_cases a:p
 ·rw [decide_eq_true a,decide_eq_true (h.mp a)]
 ·rw [decide_eq_false a,decide_eq_false (fun b => a (h.mpr b))]
theorem gEq_is {a b:D} (hs:scalD a b = true) (h:Q (.bl (decide (a = b))) L):W2 (gEq a b L) Q:=⟨_,_,by unfold gEq; rw [if_pos hs],h⟩
theorem gNe_is {a b:D} (hs:scalD a b = true) (h:Q (.bl (!decide (a = b))) L):W2 (gNe a b L) Q:=⟨_,_,by unfold gNe; rw [if_pos hs],h⟩
theorem g_eqI (h:Q (.bl (decide (i = j))) L):W2 (gEq (.int i) (.int j) L) Q:=gEq_is rfl (by rw [dec_congr (show D.int i = D.int j ↔ i = j by simp)]; exact h)
theorem g_eqS (h:Q (.bl (decide (x = y))) L):W2 (gEq (.str x) (.str y) L) Q:=gEq_is rfl (by rw [dec_congr (show D.str x = D.str y ↔ x = y by simp)]; exact h)
theorem g_neI (h:Q (.bl (!decide (i = j))) L):W2 (gNe (.int i) (.int j) L) Q:=gNe_is rfl (by rw [dec_congr (show D.int i = D.int j ↔ i = j by simp)]; exact h)
theorem g_neS (h:Q (.bl (!decide (x = y))) L):W2 (gNe (.str x) (.str y) L) Q:=gNe_is rfl (by rw [dec_congr (show D.str x = D.str y ↔ x = y by simp)]; exact h)
theorem g_is {a:D} (h:Q (.bl (isNon a)) L):W2 (gIs a .non L) Q:=⟨_,_,rfl,h⟩
theorem g_isnot {a:D} (h:Q (.bl (!isNon a)) L):W2 (gIsNot a .non L) Q:=⟨_,_,rfl,h⟩
theorem g_inS (h:Q (.bl (inStr x y)) L):W2 (gInN false (.str x) (.str y) L) Q:=⟨_,_,rfl,h⟩
theorem gIn_is {neg:Bool} {d e:D} {ys:List D} (h0:∀ i j,d = .str i → e = .str j → False) (e1:seqOf e L = some ys) (hf:(flatD d && ys.all flatD) = true) (h:Q (.bl (if neg then !inD d ys else inD d ys)) L):W2 (gInN neg d e L) Q:=by
 refine ⟨_,_,?_,h⟩
 unfold gInN
 split
 ·exact (h0 _ _ rfl rfl).elim
 ·rw [e1]
  simp only
  rw [if_pos hf]
theorem g_inT {d:D} {ys:List D} (hf:(flatD d && ys.all flatD) = true) (h:Q (.bl (inD d ys)) L):W2 (gInN false d (.tup ys) L) Q:=gIn_is (fun _ _ _ z => by cases z) rfl hf h
theorem g_notinT {d:D} {ys:List D} (hf:(flatD d && ys.all flatD) = true) (h:Q (.bl (!inD d ys)) L):W2 (gInN true d (.tup ys) L) Q:=gIn_is (fun _ _ _ z => by cases z) rfl hf h
theorem g_ixS {c:Nat} (e:atI x.cps.toList i = some c) (h:Q (.str ⟨#[c]⟩) L):W2 (gIx (.str x) (.int i) L) Q:=⟨_,_,by unfold gIx; simp only; rw [e],h⟩
theorem g_ixT {xs:List D} {d:D} (e:atI xs i = some d) (h:Q d L):W2 (gIx (.tup xs) (.int i) L) Q:=⟨_,_,by unfold gIx; simp only [seqOf]; rw [e],h⟩
theorem g_ixF {xs:List D} {d:D} (e:atI xs i = some d) (h:Q d L):W2 (gIx (.fz xs) (.int i) L) Q:=⟨_,_,by unfold gIx; simp only [seqOf]; rw [e],h⟩
theorem g_ixR {k:Nat} {xs:List D} {d:D} (e1:L[k]? = some (.lst xs)) (e:atI xs i = some d) (h:Q d L):W2 (gIx (.ref k) (.int i) L) Q:=⟨_,_,by unfold gIx; simp only [seqOf,e1]; rw [e],h⟩
theorem g_slS {lo hi:Option Int} (h:Q (.str (Txt.slice x lo hi)) L):W2 (gSl (.str x) lo hi L) Q:=⟨_,_,rfl,h⟩
theorem g_slR {lo hi:Option Int} {k:Nat} {xs:List D} (e:L[k]? = some (.lst xs)) (h:Q (.ref L.length) (L ++ [.lst (cutD xs lo hi)])):W2 (gSl (.ref k) lo hi L) Q:=⟨_,_,by unfold gSl; simp only [e],h⟩
theorem g_lenS (h:Q (.int (x.length:Int)) L):W2 (gLen [.str x] L) Q:=⟨_,_,rfl,h⟩
theorem g_lenT {xs:List D} (h:Q (.int (xs.length:Int)) L):W2 (gLen [.tup xs] L) Q:=⟨_,_,rfl,h⟩
theorem g_lenF {xs:List D} (h:Q (.int (xs.length:Int)) L):W2 (gLen [.fz xs] L) Q:=⟨_,_,rfl,h⟩
theorem g_lenR {k:Nat} {xs:List D} (e:L[k]? = some (.lst xs)) (h:Q (.int (xs.length:Int)) L):W2 (gLen [.ref k] L) Q:=⟨_,_,by simp only [gLen,seqOf,e],h⟩
theorem g_max (h:Q (.int (if j > i then j else i)) L):W2 (gMax [.int i,.int j] L) Q:=⟨_,_,rfl,h⟩
theorem g_min (h:Q (.int (if j < i then j else i)) L):W2 (gMin [.int i,.int j] L) Q:=⟨_,_,rfl,h⟩
theorem g_tupR {k:Nat} {xs:List D} (e:L[k]? = some (.lst xs)) (h:Q (.tup xs) L):W2 (gTuple [.ref k] L) Q:=⟨_,_,by simp only [gTuple,seqOf,e],h⟩
theorem g_inst {d:D} {t T:String} {b:Bool} (hT:["int","str","bool","list","tuple","dict"].contains T = true) (e:tyName d L = some t) (eb:instOf t T = b) (h:Q (.bl b) L):W2 (gInst [d,.ty T] L) Q:=⟨_,_,by simp only [gInst]; rw [if_pos hT,e,← eb]; rfl,h⟩
theorem g_all {k:Nat} {ds:List D} {bs:List Bool} (e:L[k]? = some (.lst ds)) (e2:blsD ds = some bs) (h:Q (.bl (bs.all id)) L):W2 (gAll [.ref k] L) Q:=⟨_,_,by simp only [gAll,e,e2],h⟩
theorem g_join {k:Nat} {ds:List D} {ys:List Str} (e:L[k]? = some (.lst ds)) (e2:strsD ds = some ys) (hz:(ys.map (·.length)).sum + ys.length * x.length ≤ 16777216) (h:Q (.str (Txt.join x ys)) L):W2 (gJoin (.str x) [.ref k] L) Q:=⟨_,_,by simp only [gJoin,seqOf,e,e2]; rw [if_pos hz],h⟩
theorem g_append {k:Nat} {ds:List D} {d:D} (e:L[k]? = some (.lst ds)) (hz:ds.length < 16777216) (h:Q .non (L.set k (.lst (ds ++ [d])))):W2 (gAppend (.ref k) [d] L) Q:=⟨_,_,by simp only [gAppend,e]; rw [if_pos hz],h⟩
theorem g_s0b {f:Str → Bool} (h:Q (.bl (f x)) L):W2 (gS0b f (.str x) [] L) Q:=⟨_,_,rfl,h⟩
end
end
theorem le16c {n:Nat} {p:Prop} (h:Nat.ble n 16777216 = true) (hp:p):Le16 n p:=⟨Nat.le_of_ble_eq_true h,hp⟩
end L3
set_option maxHeartbeats 4000000
namespace L3
open PySem PySem.Spec PyProof.Rows L2
theorem get_last {α:Type} {L:List α} {a:α}:(L ++ [a])[L.length]? = some a:=by simp
theorem get_app {α:Type} {L M:List α} {k:Nat} {a:α} (h:L[k]? = some a):(L ++ M)[k]? = some a:=by
 rw [List.getElem?_append_left (List.getElem?_eq_some_iff.mp h).1]; exact h
theorem get_setS {α:Type} {L:List α} {k:Nat} {a b:α} (h:L[k]? = some b):(L.set k a)[k]? = some a:=by
 rw [List.getElem?_set_self (List.getElem?_eq_some_iff.mp h).1]
theorem get_setN {α:Type} {L:List α} {k j:Nat} {a b:α} (n:j ≠ k) (h:L[k]? = some b):(L.set j a)[k]? = some b:=by
 rw [List.getElem?_set_ne n]; exact h
theorem pre_set {α:Type} {L L2:List α} {k:Nat} {a:α} (h:L <+: L2) (hk:L.length ≤ k):L <+: L2.set k a:=by
 obtain ⟨M,rfl⟩:=h
 rw [List.set_append,if_neg (by omega)]
 exact List.prefix_append _ _
section
variable {Q:D → Sto → Prop} {L:Sto}
theorem g_pow40 (h:Q (.int 10000000000000000000000000000000000000000) L):W2 (gPow (.int 10) (.int 40) L) Q:=g_pow (by decide) (by have e:(10:Int) ^ (40:Int).toNat = 10000000000000000000000000000000000000000:=(by decide); (rw [e]; exact h))
end
section
variable {p q:Prop}
theorem br_nN (h:p):Br (isNon .non) p q:=h
theorem br_nI {i:Int} (h:q):Br (isNon (.int i)) p q:=h
theorem br_nS {i:Str} (h:q):Br (isNon (.str i)) p q:=h
theorem br_nT {i:List D} (h:q):Br (isNon (.tup i)) p q:=h
theorem br_nR {i:Nat} (h:q):Br (isNon (.ref i)) p q:=h
end
theorem g_instT {Q:D → Sto → Prop} {L:Sto} {d:D} {t T:String} (hT:["int","str","bool","list","tuple","dict"].contains T = true) (e:tyName d L = some t) (eb:instOf t T = true) (h:Q (.bl true) L):W2 (gInst [d,.ty T] L) Q:=g_inst hT e eb h
theorem g_instF {Q:D → Sto → Prop} {L:Sto} {d:D} {t T:String} (hT:["int","str","bool","list","tuple","dict"].contains T = true) (e:tyName d L = some t) (eb:instOf t T = false) (h:Q (.bl false) L):W2 (gInst [d,.ty T] L) Q:=g_inst hT e eb h
theorem w_runX {Q:D → Sto → Prop} {B:SF} {N:List Str} {n:Nat} {xs:List D} {L:Sto} (hn:xs.length = n) (h:WS (B (startD N xs) L) (fun _ _ => False) (fun d L2 => L <+: L2 ∧ (d.noRef = true → Q d L) ∧ (d.noRef = false → Q d L2)) (fun _ _ => False) (fun _ _ => False)):W2 (runG B N n xs L) Q:=by
 obtain ⟨x,e,q⟩:=h
 have tk:∀ L2:Sto,L <+: L2 → L2.take L.length = L:=fun L2 hp => by obtain ⟨M,rfl⟩:=hp; simp
 cases x with
 | next ρ L2 => exact q.elim
 | ret d L2 =>
  cases hd:d.noRef with
  | true => exact ⟨_,_,by unfold runG; rw [if_pos hn,e]; simp only; rw [if_pos ⟨hd,tk _ q.1⟩],q.2.1 hd⟩
  | false => exact ⟨_,_,by unfold runG; rw [if_pos hn,e]; simp only; rw [if_neg (fun h => by rw [hd] at h; cases h.1)],q.2.2 hd⟩
 | brk ρ L2 => exact q.elim
 | cont ρ L2 => exact q.elim
theorem g_strI {Q:D → Sto → Prop} {L:Sto} {i:Int} (hc:i.natAbs.log2 < 1920 ∧ (toString i:Str).length ≤ 16777216) (h:Q (.str (toString i)) L):W2 (gStrI [.int i] L) Q:=⟨_,_,by simp only [gStrI]; rw [if_pos hc],h⟩
theorem rng1_mk {j0:Int} {Q:Int → Prop} (hb:j0 ≤ 4611686018427387903 ∧ -4611686018427387904 ≤ j0) (h:Q j0):∃ j:Int,[D.int j0] = [.int j] ∧ (j ≤ 4611686018427387903 ∧ -4611686018427387904 ≤ j) ∧ Q j:=⟨j0,rfl,hb,h⟩
theorem rng2_mk {i0 j0:Int} {Q:Int → Int → Prop} (hb:(i0 ≤ 4611686018427387903 ∧ -4611686018427387904 ≤ i0) ∧ (j0 ≤ 4611686018427387903 ∧ -4611686018427387904 ≤ j0)) (h:Q i0 j0) :
  ∃ i j:Int,[D.int i0,.int j0] = [.int i,.int j] ∧ ((i ≤ 4611686018427387903 ∧ -4611686018427387904 ≤ i) ∧ (j ≤ 4611686018427387903 ∧ -4611686018427387904 ≤ j)) ∧ Q i j:=⟨i0,j0,rfl,hb,h⟩
end L3
set_option maxHeartbeats 4000000
namespace L3
open PySem PySem.Spec PyProof.Rows L2
theorem atI_some {α:Type} {xs:List α} {i:Int} (h:-(xs.length:Int) ≤ i ∧ i < xs.length):∃ v,atI xs i = some v:=by
 unfold atI ixN
 by_cases h0:0 ≤ i
 ·rw [if_pos h0,if_pos h.2]
  have:i.toNat < xs.length:=by omega
  exact ⟨xs[i.toNat],by simp [this]⟩
 ·rw [if_neg h0,if_pos h.1]
  have:(i + xs.length).toNat < xs.length:=by omega
  exact ⟨xs[(i + xs.length).toNat],by simp [this]⟩
theorem atI_mem {α:Type} {xs:List α} {i:Int} {v:α} (h:atI xs i = some v):v ∈ xs:=by
 obtain ⟨j,_,hj,_⟩:=atI_get h
 exact List.mem_of_getElem? hj
theorem atI_mod {α:Type} {xs:List α} {n:Int} (c:Int) (h0:0 < n) (h:n ≤ xs.length):∃ v ∈ xs,atI xs (c % n) = some v:=by
 have h1:=Int.emod_nonneg c (b:=n) (by omega)
 have h2:=Int.emod_lt_of_pos c h0
 obtain ⟨v,hv⟩:=atI_some (xs:=xs) (i:=c % n) ⟨by omega,by omega⟩
 exact ⟨v,atI_mem hv,hv⟩
theorem rngD_mem {lo:Int} {n:Nat} {d:D} (h:d ∈ rngD lo n):∃ i:Nat,i < n ∧ d = .int (lo + (i:Int)):=by
 unfold rngD at h
 rw [List.mem_map] at h
 obtain ⟨i,hi,rfl⟩:=h
 exact ⟨i,List.mem_range.mp hi,rfl⟩
theorem rngD_at {lo:Int} {n i:Nat} {d:D} (h:(rngD lo n)[i]? = some d):i < n ∧ d = .int (lo + (i:Int)):=by
 rw [rngD_get] at h
 split at h
 ·rename_i hi; cases h; exact ⟨hi,rfl⟩
 ·cases h
open Builtin.Int in
theorem mulOk_le {a b:Int} {m n:Nat} (ha:intBits a ≤ m) (hb:intBits b ≤ n) (h:m + n ≤ 134217728):cMul a b = true:=decide_eq_true (PySem.IntMulOk.of_le ha hb h)
theorem bits_of_lt {a:Int} {n:Nat} (h:a.natAbs < 2 ^ n):Builtin.Int.intBits a ≤ n:=PySem.intBits_le_iff.mpr h
theorem mulOk_l {a b:Int} (h:-18446744073709551616 < a ∧ a < 18446744073709551616):cMul a b = true:=decide_eq_true (.of_left (intBits_le_64 (by omega) (by omega)))
theorem mulOk_r {a b:Int} (h:-18446744073709551616 < b ∧ b < 18446744073709551616):cMul a b = true:=decide_eq_true (.of_right (intBits_le_64 (by omega) (by omega)))
theorem atI_ints {ns:List Int} {k:Int} (h0:0 ≤ k) (h1:k < ns.length):∃ z ∈ ns,atI (ns.map D.int) k = some (.int z):=by
 have hk:k.toNat < ns.length:=by omega
 refine ⟨ns[k.toNat],List.getElem_mem _,?_⟩
 have e:((k.toNat:Nat):Int) = k:=by omega
 have q:=atI_nat (xs:=ns.map D.int) (j:=k.toNat) (v:=.int ns[k.toNat]) (by simp [hk])
 rw [e] at q
 exact q
noncomputable def codes:List Nat:=[97,98,99,100,101,102,103,104,105,106,107,108,109,110,111,112,113,114,115,116,117,118,119,120,121,122,65,66,67,68,69,70,71,72,73,74,75,76,77,78,79,80,81,82,83,84,85,86,87,88,89,90,48,49,50,51,52,53,54,55,56,57,32,45,46,44,47]
noncomputable def SgOk (y:Str):Prop:=∀ c ∈ y.cps.toList,c ∈ codes
noncomputable instance (y:Str):Decidable (SgOk y):=by unfold SgOk; infer_instance
theorem SgOk.at {y:Str} (h:SgOk y) {i:Nat} (hi:i < y.cps.size):y.cps.getD i 0 ∈ codes:=by
 have:y.cps.getD i 0 = y.cps[i]:=by simp [Array.getD,hi]
 rw [this]
 exact h _ (by simp)
theorem SgOk.one {c:Nat} (h:c ∈ codes):SgOk ⟨#[c]⟩:=fun z hz => by
 have:z = c:=by simpa using hz
 rw [this]; exact h
theorem app_toList (x y:Str):(x ++ y).cps.toList = x.cps.toList ++ y.cps.toList:=by show (x.cps ++ y.cps).toList = _; simp
theorem app_size (x y:Str):(x ++ y).cps.size = x.cps.size + y.cps.size:=by show (x.cps ++ y.cps).size = _; simp
theorem app_length (x y:Str):(x ++ y).length = x.length + y.length:=app_size x y
theorem SgOk.app {x y:Str} (hx:SgOk x) (hy:SgOk y):SgOk (x ++ y):=fun c hc => by
 rw [app_toList,List.mem_append] at hc
 rcases hc with h | h
 ·exact hx c h
 ·exact hy c h
theorem slice_mem {x:Str} {l u:Option Int} {c:Nat} (h:c ∈ (Txt.slice x l u).cps.toList):c ∈ x.cps.toList:=by
 unfold Txt.slice at h
 split at h
 ·exact h
 ·simp only [List.mem_filterMap] at h
  obtain ⟨j,_,hj⟩:=h
  have:=Array.getElem?_eq_some_iff.mp hj
  obtain ⟨h1,rfl⟩:=this; simp
theorem SgOk.slice {x:Str} (h:SgOk x) (l u:Option Int):SgOk (Txt.slice x l u):=fun c hc => h c (slice_mem hc)
theorem SgOk.join:∀ {ys:List Str},(∀ y ∈ ys,SgOk y) → SgOk (Txt.join "" ys):=fun {ys} h => by
 show SgOk (Builtin.Str.glued "" ys)
 rw [StrLaws.glued_eq_join]
 induction ys with
 | nil => exact (by decide)
 | cons x r ih =>
  cases r with
  | nil => exact h x List.mem_cons_self
  | cons y r =>
   show SgOk (x ++ ("":Str) ++ Str.join "" (y :: r))
   exact ((h x List.mem_cons_self).app (by decide)).app (ih fun z hz => h z (List.mem_cons_of_mem _ hz))
theorem mem_foldl_app {c:Nat}:∀ (l:List (Array Nat)) (a:Array Nat),c ∈ (l.foldl (· ++ ·) a).toList → c ∈ a.toList ∨ ∃ b ∈ l,c ∈ b.toList
 | [],a,h => .inl h
 | b :: r,a,h => by
  rw [List.foldl_cons] at h
  rcases mem_foldl_app r _ h with h | ⟨b',h1,h2⟩
  ·rw [Array.toList_append,List.mem_append] at h
   rcases h with h | h
   ·exact .inl h
   ·exact .inr ⟨b,List.mem_cons_self,h⟩
  ·exact .inr ⟨b',List.mem_cons_of_mem _ h1,h2⟩
theorem mul_mem {x:Str} {n:Int} {c:Nat} (h:c ∈ (Txt.mul x n).cps.toList):c ∈ x.cps.toList:=by
 unfold Txt.mul at h
 split at h
 ·simp [Str.empty] at h
 ·split at h
  ·exact h
  ·rcases mem_foldl_app _ _ h with h | ⟨b,h1,h2⟩
   ·simp at h
   ·rw [List.eq_of_mem_replicate h1] at h2; exact h2
theorem SgOk.mul {x:Str} (h:SgOk x) (n:Int):SgOk (Txt.mul x n):=fun c hc => h c (mul_mem hc)
theorem strsD_map (ys:List Str):strsD (ys.map D.str) = some ys:=by
 induction ys with
 | nil => rfl
 | cons y r ih => simp [strsD,ih]
theorem sum_le {ys:List Str} {n:Nat} (h:∀ y ∈ ys,y.length ≤ n):(ys.map (·.length)).sum ≤ ys.length * n:=by
 induction ys with
 | nil => simp
 | cons y r ih =>
  have h1:=h y List.mem_cons_self
  have h2:=ih fun z hz => h z (List.mem_cons_of_mem _ hz)
  simp only [List.map_cons,List.sum_cons,List.length_cons,Nat.add_mul]
  omega
end L3
set_option maxHeartbeats 4000000
namespace L3
open PySem PySem.Spec PyProof.Rows L2
section
variable {Q:D → Sto → Prop} {L:Sto}
noncomputable def Keep (k:Nat) (L L':Sto):Prop:=L.length ≤ L'.length ∧ ∀ j,j ≠ k → j < L.length → L'[j]? = L[j]?
theorem Keep.refl (k:Nat) (L:Sto):Keep k L L:=⟨Nat.le_refl _,fun _ _ _ => rfl⟩
theorem Keep.trans {k:Nat} {L L1 L2:Sto} (a:Keep k L L1) (b:Keep k L1 L2):Keep k L L2:=⟨Nat.le_trans a.1 b.1,fun j h1 h2 => by rw [b.2 j h1 (by have:=a.1; omega),a.2 j h1 h2]⟩
theorem Keep.app (k:Nat) (L M:Sto):Keep k L (L ++ M):=⟨by simp,fun j _ h => by rw [List.getElem?_append_left h]⟩
theorem Keep.set (k:Nat) (L:Sto) (o:Ob):Keep k L (L.set k o):=⟨by simp,fun j h _ => by rw [List.getElem?_set_ne (Ne.symm h)]⟩
theorem Keep.get {k j:Nat} {L L':Sto} {o:Ob} (h:Keep k L L') (n:j ≠ k) (e:L[j]? = some o):L'[j]? = some o:=by
 rw [h.2 j n (List.getElem?_eq_some_iff.mp e).1]; exact e
theorem g_addLc {a b:Nat} {xs ys:List D} (e1:L[a]? = some (.lst xs)) (e2:L[b]? = some (.lst ys)) (hz:Nat.ble (xs.length + ys.length) 16777216 = true) (h:Q (.ref L.length) (L ++ [.lst (xs ++ ys)])):W2 (gAdd (.ref a) (.ref b) L) Q:=g_addL e1 e2 (Nat.le_of_ble_eq_true hz) h
theorem gEqD_S {x y:Str} (h:Q (.bl (decide (x = y))) L):W2 (gEqD (.str x) (.str y) L) Q:=⟨_,_,by unfold gEqD; rw [if_pos (show scalD (D.str x) (D.str y) = true from rfl),dec_congr (show D.str x = D.str y ↔ x = y by simp)],h⟩
theorem gEqD_I {x y:Int} (h:Q (.bl (decide (x = y))) L):W2 (gEqD (.int x) (.int y) L) Q:=⟨_,_,by unfold gEqD; rw [if_pos (show scalD (D.int x) (D.int y) = true from rfl),dec_congr (show D.int x = D.int y ↔ x = y by simp)],h⟩
theorem gNeD_S {x y:Str} (h:Q (.bl (!decide (x = y))) L):W2 (gNeD (.str x) (.str y) L) Q:=⟨_,_,by unfold gNeD; rw [if_pos (show scalD (D.str x) (D.str y) = true from rfl),dec_congr (show D.str x = D.str y ↔ x = y by simp)],h⟩
end
end L3
set_option maxHeartbeats 4000000
namespace L3
open PySem PySem.Spec PyProof.Rows L2
section
variable {ρ:Fm} {L:Sto} {Q:D → Sto → Prop} {nx:Fm → Sto → Prop} {rt:D → Sto → Prop} {bk ct:Fm → Sto → Prop}
theorem ws_cut {f g:SF} (P:Fm → Sto → Prop) (h1:WS (f ρ L) P rt bk ct) (h2:∀ ρ' L',P ρ' L' → WS (g ρ' L') nx rt bk ct):WS (seqF f g ρ L) nx rt bk ct:=ws_seq (h1.mono h2 (fun _ _ h => h) (fun _ _ h => h) (fun _ _ h => h))
theorem w_chain {g g':G2} {fa fb fc:EF} (h:W2 (fa ρ L) fun x L1 => W2 (fb ρ L1) fun y L2 => W2 (g x y L2) fun z L3 => IsB z fun b => Br b (W2 (fc ρ L3) fun w L4 => W2 (g' y w L4) Q) (Q (.bl false) L3)):W2 (chainV g g' fa fb fc ρ L) Q:=by
 obtain ⟨x,L1,e1,y,L2,e2,z,L3,e3,b,rfl,q⟩:=h
 cases b with
 | false => exact ⟨_,_,by unfold chainV; rw [e1,Option.bind_some,e2,Option.bind_some,e3]; rfl,q⟩
 | true =>
  obtain ⟨w,L4,e4,d,L5,e5,q⟩:=q
  exact ⟨_,_,by unfold chainV; rw [e1,Option.bind_some,e2,Option.bind_some,e3,Option.bind_some]; simp only; rw [e4]; exact e5,q⟩
theorem g_addT {xs ys:List D} (h0:xs ≠ []) (hz:xs.length + ys.length ≤ 16777216) (h:Q (.tup (xs ++ ys)) L):W2 (gAdd (.tup xs) (.tup ys) L) Q:=⟨_,_,by unfold gAdd; simp only; rw [if_neg h0,if_pos hz],h⟩
theorem g_addTc {x:D} {xs ys:List D} (hz:Nat.ble ((x :: xs).length + ys.length) 16777216 = true) (h:Q (.tup (x :: xs ++ ys)) L):W2 (gAdd (.tup (x :: xs)) (.tup ys) L) Q:=g_addT (by simp) (Nat.le_of_ble_eq_true hz) h
theorem g_strS {z:Str} (h:Q (.str z) L):W2 (gStrI [.str z] L) Q:=⟨_,_,rfl,h⟩
end
end L3
set_option maxHeartbeats 4000000
namespace L3
open PySem PySem.Spec PyProof.Rows L2
section
variable {Q:D → Sto → Prop} {ρ:Fm} {L:Sto} {nx:Fm → Sto → Prop} {rt:D → Sto → Prop} {bk ct:Fm → Sto → Prop} {fo fv fe:EF} {af:AF} {cs:List Str} {f c m:Str}
theorem g_fld {k:Nat} {fs:List (Str × D)} {d:D} (e:L[k]? = some (.ins c fs)) (hc:cs.contains c = true) (hl:fs.lookup f = some d) (h:Q d L):W2 (gFld cs f (.ref k) L) Q :=
 ⟨d,L,by simp only [gFld,e]; rw [if_pos (by simpa using hc),hl]; rfl,h⟩
theorem ws_putO (h:W2 (fv ρ L) fun v L1 => W2 (fo ρ L1) fun x L2 => W1 (putO cs f x v L2) fun L3 => nx ρ L3):WS (putOF cs f fo fv ρ L) nx rt bk ct:=by
 obtain ⟨v,L1,e1,x,L2,e2,L3,e3,q⟩:=h
 exact WS.inx (by unfold putOF; rw [e1]; simp only [Option.bind_some]; rw [e2]; simp only [Option.bind_some]; rw [e3]; rfl) q
theorem g_putO {k:Nat} {fs:List (Str × D)} {v:D} {P:Sto → Prop} (e:L[k]? = some (.ins c fs)) (hc:cs.contains c = true) (hl:Nat.blt fs.length 1000 = true) (h:P (L.set k (.ins c (putD f v fs)))):W1 (putO cs f (.ref k) v L) P:=by
 have h1:fs.length ≤ 999:=by simpa [Nat.blt] using hl
 exact ⟨_,by simp only [putO,e]; rw [if_pos ⟨by simpa using hc,by omega⟩],h⟩
noncomputable def MthP (c m:Str) (G:GL) (af:AF) (ρ:Fm) (Q:D → Sto → Prop) (x:D) (L:Sto):Prop:=∃ k fs,x = .ref k ∧ L[k]? = some (.ins c fs) ∧ fs.lookup m = none ∧ W2 (af ρ L) fun ys L2 => W2 (G (.ref k :: ys) L2) Q
theorem mth_mk {G:GL} {k:Nat} {fs:List (Str × D)} (e:L[k]? = some (.ins c fs)) (hl:fs.lookup m = none) (h:W2 (af ρ L) fun ys L2 => W2 (G (.ref k :: ys) L2) Q):MthP c m G af ρ Q (.ref k) L:=⟨k,fs,rfl,e,hl,h⟩
theorem w_mthO {G:GL} (h:W2 (fo ρ L) fun x L1 => MthP c m G af ρ Q x L1):W2 (mthO c m G fo af ρ L) Q:=by
 obtain ⟨x,L1,e1,k,fs,rfl,e2,e3,ys,L2,e4,d,L3,e5,q⟩:=h
 exact ⟨d,L3,by unfold mthO; rw [e1]; simp only [Option.bind_some]; rw [e2]; dsimp only; rw [if_pos ⟨rfl,e3⟩,e4]; simp only [Option.bind_some]; exact e5,q⟩
theorem w_mkO {G:GL} (h:W2 (af ρ L) fun ys L1 => W2 (G (.ref L1.length :: ys) (L1 ++ [.ins c []])) fun z L2 => z = .non ∧ Q (.ref L1.length) L2):W2 (mkO c G af ρ L) Q:=by
 obtain ⟨ys,L1,e1,z,L2,e2,rfl,q⟩:=h
 exact ⟨_,L2,by unfold mkO; rw [e1]; simp only [Option.bind_some]; rw [e2]; rfl,q⟩
noncomputable def AugP (cs:List Str) (f:Str) (g:Int → Int → Int) (fv:EF) (ρ:Fm) (nx:Fm → Sto → Prop) (x:D) (L:Sto):Prop:=∃ k c fs i,x = .ref k ∧ L[k]? = some (.ins c fs) ∧ c ∈ cs ∧ fs.lookup f = some (.int i) ∧
 W2 (fv ρ L) fun y L2 => ∃ j fs',y = .int j ∧ L2[k]? = some (.ins c fs') ∧ fs'.length < 1000 ∧ nx ρ (L2.set k (.ins c (putD f (.int (g i j)) fs')))
theorem ws_augO {g:Int → Int → Int} (h:W2 (fo ρ L) fun x L1 => AugP cs f g fv ρ nx x L1):WS (augO cs f g fo fv ρ L) nx rt bk ct:=by
 obtain ⟨x,L1,e1,k,c,fs,i,rfl,e2,hc,e3,y,L2,e4,j,fs',rfl,e5,hl,q⟩:=h
 exact WS.inx (by unfold augO; rw [e1]; simp only [Option.bind_some]; rw [e2]; simp only; rw [if_pos hc,e3]; simp only; rw [e4]; simp only [Option.bind_some]; rw [e5]; dsimp only; rw [if_pos ⟨rfl,hl⟩]) q
theorem ws_whileN {t:TF} {b:SF} (I:Nat → Fm → Sto → Prop) (st:∀ n ρ L,I n ρ L → W2 (t ρ L) fun x L1 => Br x (WS (b ρ L1) (fun ρ2 L2 => ∃ m,m < n ∧ I m ρ2 L2) rt nx (fun ρ2 L2 => ∃ m,m < n ∧ I m ρ2 L2)) (nx ρ L1)) :
  ∀ (N n:Nat) (ρ:Fm) (L:Sto),n < N → I n ρ L → WS (whileN t b N ρ L) nx rt bk ct
 | 0,n,ρ,L,h,_ => absurd h (Nat.not_lt_zero _)
 | N + 1,n,ρ,L,h,hI => by
  obtain ⟨x,L1,e1,hb⟩:=st n ρ L hI
  cases x with
  | false => exact WS.inx (by unfold whileN; rw [e1]; rfl) hb
  | true =>
   obtain ⟨out,e2,q⟩:=(show WS (b ρ L1) _ _ _ _ from hb)
   cases out with
   | next ρ2 L2 =>
    obtain ⟨m,hm,hI2⟩:=(show ∃ m,m < n ∧ I m ρ2 L2 from q)
    obtain ⟨o,e3,q3⟩:=ws_whileN I st N m ρ2 L2 (by omega) hI2
    exact ⟨o,by unfold whileN; rw [e1]; simp only [Option.bind_some,if_true]; rw [e2]; exact e3,q3⟩
   | cont ρ2 L2 =>
    obtain ⟨m,hm,hI2⟩:=(show ∃ m,m < n ∧ I m ρ2 L2 from q)
    obtain ⟨o,e3,q3⟩:=ws_whileN I st N m ρ2 L2 (by omega) hI2
    exact ⟨o,by unfold whileN; rw [e1]; simp only [Option.bind_some,if_true]; rw [e2]; exact e3,q3⟩
   | brk ρ2 L2 => exact WS.inx (by unfold whileN; rw [e1]; simp only [Option.bind_some,if_true]; rw [e2]; rfl) q
   | ret d L2 => exact WS.irt (by unfold whileN; rw [e1]; simp only [Option.bind_some,if_true]; rw [e2]; rfl) q
theorem ws_while {t:TF} {b:SF} (I:Nat → Fm → Sto → Prop) {n:Nat} (hn:n < 1000000) (h0:I n ρ L)
  (st:∀ n ρ L,I n ρ L → W2 (t ρ L) fun x L1 => Br x (WS (b ρ L1) (fun ρ2 L2 => ∃ m,m < n ∧ I m ρ2 L2) rt nx (fun ρ2 L2 => ∃ m,m < n ∧ I m ρ2 L2)) (nx ρ L1)):WS (whileF t b ρ L) nx rt bk ct:=ws_whileN I st 1000000 n ρ L hn h0
theorem w_runB {B:SF} {N:List Str} {n:Nat} {xs:List D} (hn:xs.length = n) (h:WS (B (startD N xs) L) (fun _ L2 => (L <+: L2 → Q .non L) ∧ Q .non L2) (fun d L2 => (L <+: L2 → d.noRef = true → Q d L) ∧ Q d L2) (fun _ _ => False) (fun _ _ => False)):W2 (runG B N n xs L) Q:=by
 obtain ⟨o,e,q⟩:=h
 cases o with
 | next ρ L2 =>
  by_cases c:L2.take L.length = L
  ·exact ⟨_,_,by unfold runG; rw [if_pos hn,e]; simp only; rw [if_pos c],q.1 (pre_of_take c)⟩
  ·exact ⟨_,_,by unfold runG; rw [if_pos hn,e]; simp only; rw [if_neg c],q.2⟩
 | ret d L2 =>
  by_cases c:d.noRef = true ∧ L2.take L.length = L
  ·exact ⟨_,_,by unfold runG; rw [if_pos hn,e]; simp only; rw [if_pos c],q.1 (pre_of_take c.2) c.1⟩
  ·exact ⟨_,_,by unfold runG; rw [if_pos hn,e]; simp only; rw [if_neg c],q.2⟩
 | brk _ _ => exact q.elim
 | cont _ _ => exact q.elim
end
end L3
set_option maxHeartbeats 8000000
namespace L3
open PySem PySem.Spec PyProof.Rows L2
noncomputable def c_KINDS:D:=D.tup [D.str "small",D.str "great",D.str "figure",D.str "mark",D.str "any"]
noncomputable def c_SIGNS_BY_KIND:D:=D.tup [D.tup [D.str "small",D.str "abcdefghijklmnopqrstuvwxyz"],D.tup [D.str "great",D.str "ABCDEFGHIJKLMNOPQRSTUVWXYZ"],D.tup [D.str "figure",D.str "0123456789"],D.tup [D.str "mark",D.str " -.,/"]]
noncomputable def c_LONGEST_TEXT:D:=D.int (24)
noncomputable def c_NTHS:D:=D.tup [D.int (1),D.int (2),D.int (-1),D.int (-2)]
noncomputable def c_EDGES:D:=D.tup [D.str "ahead",D.str "behind"]
noncomputable def c_DEEDS:D:=D.tup [D.str "copy",D.str "raise",D.str "sink"]
noncomputable def c_LONGEST_WORD:D:=D.int (8)
noncomputable def c_ROW_LENGTHS:D:=D.tup [D.int (1),D.int (2),D.int (3)]
noncomputable def c_NTH_BY_PART:List (Str × D):=[("1",D.int (1)),("2",D.int (2)),("-1",D.int (-1)),("-2",D.int (-2))]
noncomputable def N_lw_shown_row:List Str:=["_law_row_here","_law_parts","_law_piece_here"]
noncomputable def B_lw_shown_row:SF :=
 (seqF (setF 1 (lstV nilA))
 (seqF (forF (iAnyF (var 0)) (gNameF 2) (ifF (asT (bin2 gEq (bin2 gIx (var 2) (cst (.int 0))) (cst (.str "word")))) (exprF (mthF "list" gAppend (var 1) (consA (bin2 gAdd (cst (.str "word ")) (mthF "str" gJoin (cst (.str "_")) (consA (mthF "str" gSplit (bin2 gIx (var 2) (cst (.int 1))) (consA (cst (.str " ")) nilA)) nilA))) nilA))) (exprF (mthF "list" gAppend (var 1) (consA (mthF "str" gJoin (cst (.str " ")) (consA (bin2 gAdd (lstV (consA (bin2 gIx (var 2) (cst (.int 0))) nilA)) (compF (iAnyF (bin2 gAdd (bin2 gIx (var 2) (cst (.int 1))) (bin2 gIx (var 2) (cst (.int 2))))) 1 [] (gNameF 0) trueT (callB gStrI (consA (var 0) nilA)))) nilA)) nilA)))))
 (retF (bin2 gAdd (cst (.str "do ")) (mthF "str" gJoin (cst (.str " + ")) (consA (var 1) nilA))))))
noncomputable def G_lw_shown_row:GL:=runG (B_lw_shown_row) N_lw_shown_row 1
noncomputable def N_lw_shown:List Str:=["_law_program_here","_law_rows"]
noncomputable def B_lw_shown (G_lw_shown_row:GL):SF :=
 (seqF (ifF (asT (bin2 gEq (bin2 gIx (var 0) (cst (.int 0))) (cst (.str "do")))) (retF (callB G_lw_shown_row (consA (bin2 gIx (var 0) (cst (.int 1))) nilA))) nextF)
 (seqF (setF 1 (bin2 gAdd (bin2 gAdd (callB G_lw_shown_row (consA (bin2 gIx (var 0) (cst (.int 2))) nilA)) (cst (.str " else "))) (callB G_lw_shown_row (consA (bin2 gIx (var 0) (cst (.int 3))) nilA))))
 (retF (bin2 gAdd (bin2 gAdd (bin2 gAdd (bin2 gAdd (bin2 gAdd (cst (.str "if ")) (bin2 gIx (bin2 gIx (var 0) (cst (.int 1))) (cst (.int 0)))) (cst (.str " "))) (bin2 gIx (bin2 gIx (var 0) (cst (.int 1))) (cst (.int 1)))) (cst (.str " "))) (var 1)))))
noncomputable def G_lw_shown:GL:=runG (B_lw_shown G_lw_shown_row) N_lw_shown 1
noncomputable def N_lw_read_place:List Str:=["_law_words"]
noncomputable def B_lw_read_place:SF :=
 (seqF (ifF (orT (asT (bin2 (gInN true) (bin2 gIx (var 0) (cst (.int 0))) (tupV (consA (cst (.str "small")) (consA (cst (.str "great")) (consA (cst (.str "figure")) (consA (cst (.str "mark")) (consA (cst (.str "any")) nilA)))))))) (asT (bin2 (gInN true) (bin2 gIx (var 0) (cst (.int 2))) (tupV (consA (cst (.str "ahead")) (consA (cst (.str "behind")) nilA)))))) (retF (cst .non)) nextF)
 (seqF (ifF (asT (bin2 (gInN true) (bin2 gIx (var 0) (cst (.int 1))) (tupV (consA (cst (.str "1")) (consA (cst (.str "2")) (consA (cst (.str "-1")) (consA (cst (.str "-2")) nilA))))))) (retF (cst .non)) nextF)
 (retF (tupV (consA (bin2 gIx (var 0) (cst (.int 0))) (consA (callB gIntT (consA (bin2 gIx (var 0) (cst (.int 1))) nilA)) (consA (bin2 gIx (var 0) (cst (.int 2))) nilA)))))))
noncomputable def G_lw_read_place:GL:=runG (B_lw_read_place) N_lw_read_place 1
noncomputable def N_lw_is_word:List Str:=["_law_word_here","_law_sign"]
noncomputable def B_lw_is_word:SF :=
 (seqF (forF (iAnyF (var 0)) (gNameF 1) (ifF (andT (notT (asT (mthF "str" (gS0b Txt.isalnum) (var 1) nilA))) (asT (bin2 (gInN true) (var 1) (cst (.str " -.,/"))))) (retF (cst (.bl false))) nextF))
 (retF (chainV gLe gLe (cst (.int 1)) (callB gLen (consA (var 0) nilA)) (cst (.int 8)))))
noncomputable def G_lw_is_word:GL:=runG (B_lw_is_word) N_lw_is_word 1
noncomputable def N_lw_read_piece:List Str:=["_law_words","_law_word_here","_law_start","_law_end"]
noncomputable def B_lw_read_piece (G_lw_read_place:GL) (G_lw_is_word:GL):SF :=
 (seqF (ifF (andT (asT (bin2 gEqD (slF (var 0) noO (asO (cst (.int 1)))) (lstV (consA (cst (.str "word")) nilA)))) (asT (bin2 gGt (callB gLen (consA (var 0) nilA)) (cst (.int 1))))) (seqF (setF 1 (un1 (gRepl "_" " ") (bin2 gIx (var 0) (cst (.int 1))))) (seqF (ifF (notT (asT (callB G_lw_is_word (consA (var 1) nilA)))) (retF (cst .non)) nextF)
 (retF (lstV (consA (tupV (consA (cst (.str "word")) (consA (var 1) nilA))) (consA (slF (var 0) (asO (cst (.int 2))) noO) nilA)))))) nextF)
 (seqF (ifF (orT (asT (bin2 gLt (callB gLen (consA (var 0) nilA)) (cst (.int 7)))) (asT (bin2 (gInN true) (bin2 gIx (var 0) (cst (.int 0))) (tupV (consA (cst (.str "copy")) (consA (cst (.str "raise")) (consA (cst (.str "sink")) nilA))))))) (retF (cst .non)) nextF)
 (seqF (setF 2 (callB G_lw_read_place (consA (slF (var 0) (asO (cst (.int 1))) (asO (cst (.int 4)))) nilA)))
 (seqF (setF 3 (callB G_lw_read_place (consA (slF (var 0) (asO (cst (.int 4))) (asO (cst (.int 7)))) nilA)))
 (seqF (ifF (orT (asT (bin2 gIs (var 2) (cst .non))) (asT (bin2 gIs (var 3) (cst .non)))) (retF (cst .non)) nextF)
 (retF (lstV (consA (tupV (consA (bin2 gIx (var 0) (cst (.int 0))) (consA (var 2) (consA (var 3) nilA)))) (consA (slF (var 0) (asO (cst (.int 7))) noO) nilA)))))))))
noncomputable def G_lw_read_piece:GL:=runG (B_lw_read_piece G_lw_read_place G_lw_is_word) N_lw_read_piece 1
noncomputable def N_lw_read_row:List Str:=["_law_words","_law_row_here","_law_found"]
noncomputable def B_lw_read_row (G_lw_read_piece:GL):SF :=
 (seqF (setF 1 (lstV nilA))
 (seqF (setF 0 (bin2 gAdd (lstV (consA (cst (.str "+")) nilA)) (var 0)))
 (seqF (whileF (asT (bin2 gEqD (slF (var 0) noO (asO (cst (.int 1)))) (lstV (consA (cst (.str "+")) nilA)))) (seqF (setF 2 (callB G_lw_read_piece (consA (slF (var 0) (asO (cst (.int 1))) noO) nilA)))
 (seqF (ifF (orT (asT (bin2 gIs (var 2) (cst .non))) (asT (bin2 gEqD (callB gLen (consA (var 1) nilA)) (cst (.int 3))))) (retF (cst .non)) nextF)
 (seqF (exprF (mthF "list" gAppend (var 1) (consA (bin2 gIx (var 2) (cst (.int 0))) nilA)))
 (setF 0 (bin2 gIx (var 2) (cst (.int 1))))))))
 (retF (lstV (consA (callB gTuple (consA (var 1) nilA)) (consA (var 0) nilA)))))))
noncomputable def G_lw_read_row:GL:=runG (B_lw_read_row G_lw_read_piece) N_lw_read_row 1
noncomputable def N_lw_is_look:List Str:=["_law_words"]
noncomputable def B_lw_is_look:SF :=
 (retF (andV (bin2 (gInN false) (bin2 gIx (var 0) (cst (.int 0))) (tupV (consA (cst (.str "has")) (consA (cst (.str "begins")) nilA)))) (bin2 (gInN false) (bin2 gIx (var 0) (cst (.int 1))) (tupV (consA (cst (.str "small")) (consA (cst (.str "great")) (consA (cst (.str "figure")) (consA (cst (.str "mark")) (consA (cst (.str "any")) nilA)))))))))
noncomputable def G_lw_is_look:GL:=runG (B_lw_is_look) N_lw_is_look 1
noncomputable def N_lw_read:List Str:=["_law_text_here","_law_words","_law_found","_law_other_here"]
noncomputable def B_lw_read (G_lw_read_row:GL) (G_lw_is_look:GL):SF :=
 (seqF (setF 1 (mthF "str" gSplit (var 0) (consA (cst (.str " ")) nilA)))
 (seqF (ifF (asT (bin2 gEqD (bin2 gIx (var 1) (cst (.int 0))) (cst (.str "do")))) (seqF (setF 2 (callB G_lw_read_row (consA (slF (var 1) (asO (cst (.int 1))) noO) nilA)))
 (seqF (ifF (orT (asT (bin2 gIs (var 2) (cst .non))) (asT (bin2 gNeD (bin2 gIx (var 2) (cst (.int 1))) (lstV nilA)))) (retF (cst .non)) nextF)
 (retF (tupV (consA (cst (.str "do")) (consA (bin2 gIx (var 2) (cst (.int 0))) nilA)))))) nextF)
 (seqF (ifF (orT (asT (bin2 gNeD (bin2 gIx (var 1) (cst (.int 0))) (cst (.str "if")))) (orT (asT (bin2 gLt (callB gLen (consA (var 1) nilA)) (cst (.int 4)))) (orT (notT (asT (callB G_lw_is_look (consA (slF (var 1) (asO (cst (.int 1))) (asO (cst (.int 3)))) nilA)))) (asT (bin2 gNeD (bin2 gIx (var 1) (cst (.int 3))) (cst (.str "do"))))))) (retF (cst .non)) nextF)
 (seqF (setF 2 (callB G_lw_read_row (consA (slF (var 1) (asO (cst (.int 4))) noO) nilA)))
 (seqF (ifF (orT (asT (bin2 gIs (var 2) (cst .non))) (asT (bin2 gNeD (slF (bin2 gIx (var 2) (cst (.int 1))) noO (asO (cst (.int 2)))) (lstV (consA (cst (.str "else")) (consA (cst (.str "do")) nilA)))))) (retF (cst .non)) nextF)
 (seqF (setF 3 (callB G_lw_read_row (consA (slF (bin2 gIx (var 2) (cst (.int 1))) (asO (cst (.int 2))) noO) nilA)))
 (seqF (ifF (orT (asT (bin2 gIs (var 3) (cst .non))) (asT (bin2 gNeD (bin2 gIx (var 3) (cst (.int 1))) (lstV nilA)))) (retF (cst .non)) nextF)
 (retF (tupV (consA (cst (.str "if")) (consA (tupV (consA (bin2 gIx (var 1) (cst (.int 1))) (consA (bin2 gIx (var 1) (cst (.int 2))) nilA))) (consA (bin2 gIx (var 2) (cst (.int 0))) (consA (bin2 gIx (var 3) (cst (.int 0))) nilA)))))))))))))
noncomputable def G_lw_read:GL:=runG (B_lw_read G_lw_read_row G_lw_is_look) N_lw_read 1
noncomputable def N_lw_alike:List Str:=["_law_found","_law_due"]
noncomputable def B_lw_alike (G_lw_alike:GL):SF :=
 (seqF (ifF (asT (callB gInst (consA (var 1) (consA (cst (.ty "tuple")) nilA)))) (seqF (ifF (orT (notT (asT (callB gInst (consA (var 0) (consA (cst (.ty "tuple")) nilA))))) (asT (bin2 gNe (callB gLen (consA (var 0) nilA)) (callB gLen (consA (var 1) nilA))))) (retF (cst (.bl false))) nextF)
 (retF (bin2 gEq (callB gLen (consA (compF (iRng1F (consA (callB gLen (consA (var 1) nilA)) nilA)) 1 [0,1] (gNameF 0) (asT (callB G_lw_alike (consA (bin2 gIx (var 1) (var 0)) (consA (bin2 gIx (var 2) (var 0)) nilA)))) (var 0)) nilA)) (callB gLen (consA (var 1) nilA))))) nextF)
 (seqF (ifF (asT (bin2 gIs (var 1) (cst .non))) (retF (bin2 gIs (var 0) (cst .non))) nextF)
 (seqF (ifF (asT (callB gInst (consA (var 1) (consA (cst (.ty "str")) nilA)))) (retF (andV (callB gInst (consA (var 0) (consA (cst (.ty "str")) nilA))) (bin2 gEq (var 0) (var 1)))) nextF)
 (retF (andV (callB gInst (consA (var 0) (consA (cst (.ty "int")) nilA))) (andV (notV (callB gInst (consA (var 0) (consA (cst (.ty "bool")) nilA)))) (bin2 gEq (var 0) (var 1))))))))
noncomputable def GN_lw_alike:Nat → GL
 | 0 => fun _ _ => none
 | n + 1 => runG (B_lw_alike (GN_lw_alike n)) N_lw_alike 2
noncomputable def G_lw_alike:GL:=GN_lw_alike 12
noncomputable def N_Parts_take:List Str:=["self","part"]
noncomputable def B_Parts_take:SF :=
 (seqF (setF 1 (ifV (asT (bin2 gLt (un1 (gFld ["Parts"] "taken") (var 0)) (callB gLen (consA (un1 (gFld ["Parts"] "parts") (var 0)) nilA)))) (bin2 gIx (un1 (gFld ["Parts"] "parts") (var 0)) (un1 (gFld ["Parts"] "taken") (var 0))) (cst (.str ""))))
 (seqF (augO ["Parts"] "taken" (fun i j => i + j) (var 0) (cst (.int 1)))
 (retF (var 1))))
noncomputable def G_Parts_take:GL:=runG (B_Parts_take) N_Parts_take 1
noncomputable def N_take_place:List Str:=["parts","kind","nth","edge"]
noncomputable def B_take_place (G_Parts_take:GL):SF :=
 (seqF (setF 1 (mthO "Parts" "take" G_Parts_take (var 0) nilA))
 (seqF (setF 2 (kgetF c_NTH_BY_PART (mthO "Parts" "take" G_Parts_take (var 0) nilA)))
 (seqF (setF 3 (mthO "Parts" "take" G_Parts_take (var 0) nilA))
 (retF (tupV (consA (var 1) (consA (var 2) (consA (var 3) nilA))))))))
noncomputable def G_take_place:GL:=runG (B_take_place G_Parts_take) N_take_place 1
noncomputable def N_take_piece:List Str:=["parts","deed","start","end"]
noncomputable def B_take_piece (G_Parts_take:GL) (G_take_place:GL):SF :=
 (seqF (setF 1 (mthO "Parts" "take" G_Parts_take (var 0) nilA))
 (seqF (ifF (asT (bin2 gEq (var 1) (cst (.str "word")))) (retF (tupV (consA (cst (.str "word")) (consA (un1 (gRepl "_" " ") (mthO "Parts" "take" G_Parts_take (var 0) nilA)) nilA)))) nextF)
 (seqF (setF 2 (callB G_take_place (consA (var 0) nilA)))
 (seqF (setF 3 (callB G_take_place (consA (var 0) nilA)))
 (retF (tupV (consA (var 1) (consA (var 2) (consA (var 3) nilA)))))))))
noncomputable def G_take_piece:GL:=runG (B_take_piece G_Parts_take G_take_place) N_take_piece 1
noncomputable def N_take_row:List Str:=["parts","pieces"]
noncomputable def B_take_row (G_Parts_take:GL) (G_take_piece:GL):SF :=
 (seqF (exprF (mthO "Parts" "take" G_Parts_take (var 0) nilA))
 (seqF (setF 1 (lstV (consA (callB G_take_piece (consA (var 0) nilA)) nilA)))
 (seqF (whileF (asT (bin2 gEq (mthO "Parts" "take" G_Parts_take (var 0) nilA) (cst (.str "+")))) (exprF (mthF "list" gAppend (var 1) (consA (callB G_take_piece (consA (var 0) nilA)) nilA))))
 (retF (callB gTuple (consA (var 1) nilA))))))
noncomputable def G_take_row:GL:=runG (B_take_row G_Parts_take G_take_piece) N_take_row 1
noncomputable def N_take_program:List Str:=["parts","condition","kind","row","other_row"]
noncomputable def B_take_program (G_Parts_take:GL) (G_take_row:GL):SF :=
 (seqF (ifF (asT (bin2 gNe (bin2 gIx (un1 (gFld ["Parts"] "parts") (var 0)) (cst (.int 0))) (cst (.str "if")))) (retF (tupV (consA (cst (.str "do")) (consA (callB G_take_row (consA (var 0) nilA)) nilA)))) nextF)
 (seqF (exprF (mthO "Parts" "take" G_Parts_take (var 0) nilA))
 (seqF (setF 1 (mthO "Parts" "take" G_Parts_take (var 0) nilA))
 (seqF (setF 2 (mthO "Parts" "take" G_Parts_take (var 0) nilA))
 (seqF (setF 3 (callB G_take_row (consA (var 0) nilA)))
 (seqF (setF 4 (callB G_take_row (consA (var 0) nilA)))
 (retF (tupV (consA (cst (.str "if")) (consA (tupV (consA (var 1) (consA (var 2) nilA))) (consA (var 3) (consA (var 4) nilA))))))))))))
noncomputable def G_take_program:GL:=runG (B_take_program G_Parts_take G_take_row) N_take_program 1
noncomputable def N_is_tuple_of:List Str:=["length","thing"]
noncomputable def B_is_tuple_of:SF :=
 (retF (andV (callB gInst (consA (var 1) (consA (cst (.ty "tuple")) nilA))) (bin2 gEq (callB gLen (consA (var 1) nilA)) (var 0))))
noncomputable def G_is_tuple_of:GL:=runG (B_is_tuple_of) N_is_tuple_of 2
noncomputable def N_is_word_among:List Str:=["thing","words"]
noncomputable def B_is_word_among:SF :=
 (retF (andV (callB gInst (consA (var 0) (consA (cst (.ty "str")) nilA))) (bin2 (gInN false) (var 0) (var 1))))
noncomputable def G_is_word_among:GL:=runG (B_is_word_among) N_is_word_among 2
noncomputable def N_kind_of:List Str:=["sign","kind","signs"]
noncomputable def B_kind_of:SF :=
 (seqF (forF (iAnyF (cst c_SIGNS_BY_KIND)) (gTupF 2 (gConsF (gNameF 1) (gConsF (gNameF 2) gNilF))) (ifF (asT (bin2 (gInN false) (var 0) (var 2))) (retF (var 1)) nextF))
 (retF (cst .non)))
noncomputable def G_kind_of:GL:=runG (B_kind_of) N_kind_of 1
noncomputable def N_is_text:List Str:=["thing"]
noncomputable def B_is_text (G_kind_of:GL):SF :=
 (seqF (ifF (orT (notT (asT (callB gInst (consA (var 0) (consA (cst (.ty "str")) nilA))))) (asT (bin2 gGt (callB gLen (consA (var 0) nilA)) (cst c_LONGEST_TEXT)))) (retF (cst (.bl false))) nextF)
 (retF (callB gAll (consA (compF (iAnyF (var 0)) 1 [] (gNameF 0) trueT (bin2 gIsNot (callB G_kind_of (consA (var 0) nilA)) (cst .non))) nilA))))
noncomputable def G_is_text:GL:=runG (B_is_text G_kind_of) N_is_text 1
noncomputable def N_is_word:List Str:=["thing"]
noncomputable def B_is_word (G_is_text:GL):SF :=
 (retF (andV (callB G_is_text (consA (var 0) nilA)) (chainV gLe gLe (cst (.int 1)) (callB gLen (consA (var 0) nilA)) (cst c_LONGEST_WORD))))
noncomputable def G_is_word:GL:=runG (B_is_word G_is_text) N_is_word 1
noncomputable def N_is_word_piece:List Str:=["thing"]
noncomputable def B_is_word_piece (G_is_tuple_of:GL) (G_is_word_among:GL) (G_is_word:GL):SF :=
 (retF (andV (callB G_is_tuple_of (consA (cst (.int 2)) (consA (var 0) nilA))) (andV (callB G_is_word_among (consA (bin2 gIx (var 0) (cst (.int 0))) (consA (tupV (consA (cst (.str "word")) nilA)) nilA))) (callB G_is_word (consA (bin2 gIx (var 0) (cst (.int 1))) nilA)))))
noncomputable def G_is_word_piece:GL:=runG (B_is_word_piece G_is_tuple_of G_is_word_among G_is_word) N_is_word_piece 1
noncomputable def N_is_nth:List Str:=["thing"]
noncomputable def B_is_nth:SF :=
 (retF (andV (callB gInst (consA (var 0) (consA (cst (.ty "int")) nilA))) (andV (notV (callB gInst (consA (var 0) (consA (cst (.ty "bool")) nilA)))) (bin2 (gInN false) (var 0) (cst c_NTHS)))))
noncomputable def G_is_nth:GL:=runG (B_is_nth) N_is_nth 1
noncomputable def N_is_place:List Str:=["thing"]
noncomputable def B_is_place (G_is_word_among:GL) (G_is_nth:GL):SF :=
 (seqF (ifF (orT (notT (asT (callB gInst (consA (var 0) (consA (cst (.ty "tuple")) nilA))))) (asT (bin2 gNe (callB gLen (consA (var 0) nilA)) (cst (.int 3))))) (retF (cst (.bl false))) nextF)
 (retF (andV (callB G_is_word_among (consA (bin2 gIx (var 0) (cst (.int 0))) (consA (cst c_KINDS) nilA))) (andV (callB G_is_nth (consA (bin2 gIx (var 0) (cst (.int 1))) nilA)) (callB G_is_word_among (consA (bin2 gIx (var 0) (cst (.int 2))) (consA (cst c_EDGES) nilA)))))))
noncomputable def G_is_place:GL:=runG (B_is_place G_is_word_among G_is_nth) N_is_place 1
noncomputable def N_is_stretch:List Str:=["thing"]
noncomputable def B_is_stretch (G_is_tuple_of:GL) (G_is_word_among:GL) (G_is_place:GL):SF :=
 (retF (andV (callB G_is_tuple_of (consA (cst (.int 3)) (consA (var 0) nilA))) (andV (callB G_is_word_among (consA (bin2 gIx (var 0) (cst (.int 0))) (consA (cst c_DEEDS) nilA))) (andV (callB G_is_place (consA (bin2 gIx (var 0) (cst (.int 1))) nilA)) (callB G_is_place (consA (bin2 gIx (var 0) (cst (.int 2))) nilA))))))
noncomputable def G_is_stretch:GL:=runG (B_is_stretch G_is_tuple_of G_is_word_among G_is_place) N_is_stretch 1
noncomputable def N_is_row:List Str:=["thing"]
noncomputable def B_is_row (G_is_word_piece:GL) (G_is_stretch:GL):SF :=
 (seqF (ifF (orT (notT (asT (callB gInst (consA (var 0) (consA (cst (.ty "tuple")) nilA))))) (asT (bin2 (gInN true) (callB gLen (consA (var 0) nilA)) (cst c_ROW_LENGTHS)))) (retF (cst (.bl false))) nextF)
 (retF (callB gAll (consA (compF (iAnyF (var 0)) 1 [] (gNameF 0) trueT (orV (callB G_is_word_piece (consA (var 0) nilA)) (callB G_is_stretch (consA (var 0) nilA)))) nilA))))
noncomputable def G_is_row:GL:=runG (B_is_row G_is_word_piece G_is_stretch) N_is_row 1
noncomputable def N_is_look:List Str:=["thing"]
noncomputable def B_is_look (G_is_tuple_of:GL) (G_is_word_among:GL):SF :=
 (retF (andV (callB G_is_tuple_of (consA (cst (.int 2)) (consA (var 0) nilA))) (andV (callB G_is_word_among (consA (bin2 gIx (var 0) (cst (.int 0))) (consA (tupV (consA (cst (.str "has")) (consA (cst (.str "begins")) nilA))) nilA))) (callB G_is_word_among (consA (bin2 gIx (var 0) (cst (.int 1))) (consA (cst c_KINDS) nilA))))))
noncomputable def G_is_look:GL:=runG (B_is_look G_is_tuple_of G_is_word_among) N_is_look 1
noncomputable def N_is_program:List Str:=["thing"]
noncomputable def B_is_program (G_is_tuple_of:GL) (G_is_word_among:GL) (G_is_row:GL) (G_is_look:GL):SF :=
 (seqF (ifF (asT (callB G_is_tuple_of (consA (cst (.int 2)) (consA (var 0) nilA)))) (retF (andV (callB G_is_word_among (consA (bin2 gIx (var 0) (cst (.int 0))) (consA (tupV (consA (cst (.str "do")) nilA)) nilA))) (callB G_is_row (consA (bin2 gIx (var 0) (cst (.int 1))) nilA)))) nextF)
 (seqF (ifF (asT (callB G_is_tuple_of (consA (cst (.int 4)) (consA (var 0) nilA)))) (retF (andV (callB G_is_word_among (consA (bin2 gIx (var 0) (cst (.int 0))) (consA (tupV (consA (cst (.str "if")) nilA)) nilA))) (andV (callB G_is_look (consA (bin2 gIx (var 0) (cst (.int 1))) nilA)) (andV (callB G_is_row (consA (bin2 gIx (var 0) (cst (.int 2))) nilA)) (callB G_is_row (consA (bin2 gIx (var 0) (cst (.int 3))) nilA)))))) nextF)
 (retF (cst (.bl false)))))
noncomputable def G_is_program:GL:=runG (B_is_program G_is_tuple_of G_is_word_among G_is_row G_is_look) N_is_program 1
noncomputable def N_check:List Str:=["thing"]
noncomputable def B_check (G_is_program:GL):SF :=
 (seqF (ifF (notT (asT (callB G_is_program (consA (var 0) nilA)))) neverF nextF)
 (retF (cst (.bl true))))
noncomputable def G_check:GL:=runG (B_check G_is_program) N_check 1
noncomputable def BX_check (G_is_program:GL):SX :=
 (seqX (ifF (notT (asT (callB G_is_program (consA (var 0) nilA)))) neverF nextF) (ifX (notT (asT (callB G_is_program (consA (var 0) nilA)))) (raiseX "NoProgram") noX)
 noX)
noncomputable def GX_check:GXL:=runX (BX_check G_is_program) N_check 1
noncomputable def N_Parts_init:List Str:=["self","text"]
noncomputable def B_Parts_init:SF :=
 (seqF (putOF ["Parts"] "parts" (var 0) (mthF "str" gSplit (var 1) (consA (cst (.str " ")) nilA)))
 (putOF ["Parts"] "taken" (var 0) (cst (.int 0))))
noncomputable def G_Parts_init:GL:=runG (B_Parts_init) N_Parts_init 2
noncomputable def N_shown_place:List Str:=["place"]
noncomputable def B_shown_place:SF :=
 (retF (mthF "str" gJoin (cst (.str " ")) (consA (lstV (consA (bin2 gIx (var 0) (cst (.int 0))) (consA (callB gStrI (consA (bin2 gIx (var 0) (cst (.int 1))) nilA)) (consA (bin2 gIx (var 0) (cst (.int 2))) nilA)))) nilA)))
noncomputable def G_shown_place:GL:=runG (B_shown_place) N_shown_place 1
noncomputable def N_shown_piece:List Str:=["piece"]
noncomputable def B_shown_piece (G_shown_place:GL):SF :=
 (seqF (ifF (asT (bin2 gEq (bin2 gIx (var 0) (cst (.int 0))) (cst (.str "word")))) (retF (bin2 gAdd (cst (.str "word ")) (un1 (gRepl " " "_") (bin2 gIx (var 0) (cst (.int 1)))))) nextF)
 (retF (mthF "str" gJoin (cst (.str " ")) (consA (lstV (consA (bin2 gIx (var 0) (cst (.int 0))) (consA (callB G_shown_place (consA (bin2 gIx (var 0) (cst (.int 1))) nilA)) (consA (callB G_shown_place (consA (bin2 gIx (var 0) (cst (.int 2))) nilA)) nilA)))) nilA))))
noncomputable def G_shown_piece:GL:=runG (B_shown_piece G_shown_place) N_shown_piece 1
noncomputable def N_shown_row:List Str:=["row"]
noncomputable def B_shown_row (G_shown_piece:GL):SF :=
 (retF (bin2 gAdd (cst (.str "do ")) (mthF "str" gJoin (cst (.str " + ")) (consA (compF (iAnyF (var 0)) 1 [] (gNameF 0) trueT (callB G_shown_piece (consA (var 0) nilA))) nilA))))
noncomputable def G_shown_row:GL:=runG (B_shown_row G_shown_piece) N_shown_row 1
noncomputable def N_shown:List Str:=["program","look"]
noncomputable def B_shown (G_shown_row:GL):SF :=
 (seqF (ifF (asT (bin2 gEq (bin2 gIx (var 0) (cst (.int 0))) (cst (.str "do")))) (retF (callB G_shown_row (consA (bin2 gIx (var 0) (cst (.int 1))) nilA))) nextF)
 (seqF (setF 1 (mthF "str" gJoin (cst (.str " ")) (consA (bin2 gIx (var 0) (cst (.int 1))) nilA)))
 (retF (mthF "str" gJoin (cst (.str " ")) (consA (lstV (consA (cst (.str "if")) (consA (var 1) (consA (callB G_shown_row (consA (bin2 gIx (var 0) (cst (.int 2))) nilA)) (consA (cst (.str "else")) (consA (callB G_shown_row (consA (bin2 gIx (var 0) (cst (.int 3))) nilA)) nilA)))))) nilA)))))
noncomputable def G_shown:GL:=runG (B_shown G_shown_row) N_shown 1
noncomputable def N_read:List Str:=["text","program"]
noncomputable def B_read (G_take_program:GL) (G_check:GL) (G_Parts_init:GL) (G_shown:GL):SF :=
 (seqF (setF 1 (callB G_take_program (consA (mkO "Parts" G_Parts_init (consA (var 0) nilA)) nilA)))
 (seqF (exprF (callB G_check (consA (var 1) nilA)))
 (seqF (ifF (asT (bin2 gNe (callB G_shown (consA (var 1) nilA)) (var 0))) neverF nextF)
 (retF (var 1)))))
noncomputable def G_read:GL:=runG (B_read G_take_program G_check G_Parts_init G_shown) N_read 1
noncomputable def BX_read (G_take_program:GL) (G_check:GL) (G_Parts_init:GL) (G_shown:GL) (GX_check:GXL):SX :=
 (seqX (setF 1 (callB G_take_program (consA (mkO "Parts" G_Parts_init (consA (var 0) nilA)) nilA))) noX
 (seqX (exprF (callB G_check (consA (var 1) nilA))) (callXf GX_check (consA (var 1) nilA))
 (seqX (ifF (asT (bin2 gNe (callB G_shown (consA (var 1) nilA)) (var 0))) neverF nextF) (ifX (asT (bin2 gNe (callB G_shown (consA (var 1) nilA)) (var 0))) (raiseX "NoProgram") noX)
 noX)))
noncomputable def GX_read:GXL:=runX (BX_read G_take_program G_check G_Parts_init G_shown GX_check) N_read 1
noncomputable def N_lw_refused:List Str:=["_law_text_here","_law_caught","error"]
noncomputable def B_lw_refused (G_read:GL) (GX_read:GXL):SF :=
 (seqF (setF 1 (cst (.bl false)))
 (seqF (tryF G_read GX_read (consA (var 0) nilA) (only "NoProgram") (setF 1 (cst (.bl true))))
 (seqF (tryAF G_read GX_read (consA (var 0) nilA) (only "NoProgram") 2 (seqF (ifF (asT (isEF 2 (only1 "NoProgram" false))) (retF (cst (.bl false))) nextF)
 (retF (andV (var 1) (isEF 2 (only1 "NoProgram" true))))))
 (retF (cst (.bl false))))))
noncomputable def G_lw_refused:GL:=runG (B_lw_refused G_read GX_read) N_lw_refused 1
noncomputable def N_lw_right:List Str:=["_law_text_here","_law_due"]
noncomputable def B_lw_right (G_lw_read:GL) (G_lw_alike:GL) (G_read:GL) (G_lw_refused:GL):SF :=
 (seqF (setF 1 (callB G_lw_read (consA (var 0) nilA)))
 (seqF (ifF (asT (bin2 gIs (var 1) (cst .non))) (retF (callB G_lw_refused (consA (var 0) nilA))) nextF)
 (retF (callB G_lw_alike (consA (callB G_read (consA (var 0) nilA)) (consA (var 1) nilA))))))
noncomputable def G_lw_right:GL:=runG (B_lw_right G_lw_read G_lw_alike G_read G_lw_refused) N_lw_right 1
noncomputable def N_lw_look:List Str:=["_law_cell_here"]
noncomputable def B_lw_look:SF :=
 (retF (tupV (consA (bin2 gIx (lstV (consA (cst (.str "has")) (consA (cst (.str "begins")) nilA))) (bin2 gMod (var 0) (cst (.int 2)))) (consA (bin2 gIx (lstV (consA (cst (.str "small")) (consA (cst (.str "great")) (consA (cst (.str "figure")) (consA (cst (.str "mark")) (consA (cst (.str "any")) nilA)))))) (bin2 gMod (bin2 gFdiv (var 0) (cst (.int 2))) (cst (.int 5)))) nilA))))
noncomputable def G_lw_look:GL:=runG (B_lw_look) N_lw_look 1
noncomputable def N_lw_place:List Str:=["_law_cell_here","_law_kind"]
noncomputable def B_lw_place:SF :=
 (seqF (setF 1 (bin2 gIx (lstV (consA (cst (.str "small")) (consA (cst (.str "great")) (consA (cst (.str "figure")) (consA (cst (.str "mark")) (consA (cst (.str "any")) nilA)))))) (bin2 gMod (var 0) (cst (.int 5)))))
 (retF (tupV (consA (var 1) (consA (bin2 gIx (lstV (consA (cst (.int 1)) (consA (cst (.int 2)) (consA (un1 gNeg (cst (.int 1))) (consA (un1 gNeg (cst (.int 2))) nilA))))) (bin2 gMod (bin2 gFdiv (var 0) (cst (.int 5))) (cst (.int 4)))) (consA (bin2 gIx (lstV (consA (cst (.str "ahead")) (consA (cst (.str "behind")) nilA))) (bin2 gMod (bin2 gFdiv (var 0) (cst (.int 20))) (cst (.int 2)))) nilA))))))
noncomputable def G_lw_place:GL:=runG (B_lw_place) N_lw_place 1
noncomputable def N_lw_text:List Str:=["_law_cell_here","_law_most","_law_some","_law_size","_law_text_here","_law_k","_law_signs"]
noncomputable def B_lw_text:SF :=
 (seqF (setF 2 (lstV (consA (cst (.str "abcdefghijklmnopqrstuvwxyz")) (consA (cst (.str "ABCDEFGHIJKLMNOPQRSTUVWXYZ")) (consA (cst (.str "0123456789")) (consA (cst (.str " -.,/")) nilA))))))
 (seqF (setF 3 (bin2 gMod (var 0) (bin2 gAdd (var 1) (cst (.int 1)))))
 (seqF (setF 0 (bin2 gMod (bin2 gFdiv (var 0) (cst (.int 25))) (cst (.int 2147483647))))
 (seqF (setF 4 (cst (.str "")))
 (seqF (forF (iRng1F (consA (var 3) nilA)) (gNameF 5) (seqF (setF 0 (bin2 gMod (bin2 gAdd (bin2 gAdd (bin2 gMul (var 0) (cst (.int 48271))) (bin2 gMul (cst (.int 11)) (var 5))) (cst (.int 7))) (cst (.int 2147483647))))
 (seqF (setF 6 (bin2 gIx (var 2) (bin2 gMod (bin2 gFdiv (var 0) (cst (.int 16))) (cst (.int 4)))))
 (setF 4 (bin2 gAdd (var 4) (bin2 gIx (var 6) (bin2 gMod (bin2 gFdiv (var 0) (cst (.int 64))) (callB gLen (consA (var 6) nilA)))))))))
 (retF (var 4)))))))
noncomputable def G_lw_text:GL:=runG (B_lw_text) N_lw_text 2
noncomputable def N_lw_word:List Str:=["_law_cell_here","_law_most","_law_some","_law_word_here"]
noncomputable def B_lw_word (G_lw_text:GL):SF :=
 (seqF (setF 2 (lstV (consA (cst (.str "else")) (consA (cst (.str "do")) (consA (cst (.str "word")) (consA (cst (.str "if")) (consA (cst (.str "copy")) (consA (cst (.str "has")) (consA (cst (.str "any 1")) (consA (cst (.str " ")) (consA (cst (.str "a ")) (consA (cst (.str " 7")) (consA (cst (.str "sink")) (consA (cst (.str "ahead")) nilA))))))))))))))
 (seqF (ifF (asT (bin2 gEq (bin2 gMod (var 0) (cst (.int 3))) (cst (.int 0)))) (retF (slF (bin2 gIx (var 2) (bin2 gMod (bin2 gFdiv (var 0) (cst (.int 3))) (cst (.int 12)))) noO (asO (var 1)))) nextF)
 (seqF (setF 3 (callB G_lw_text (consA (bin2 gFdiv (var 0) (cst (.int 3))) (consA (var 1) nilA))))
 (seqF (ifF (asT (bin2 gEq (var 3) (cst (.str "")))) (retF (bin2 gIx (lstV (consA (cst (.str "a")) (consA (cst (.str "Z")) (consA (cst (.str "4")) (consA (cst (.str ",")) (consA (cst (.str " ")) nilA)))))) (bin2 gMod (bin2 gFdiv (var 0) (cst (.int 75))) (cst (.int 5))))) nextF)
 (retF (var 3))))))
noncomputable def G_lw_word:GL:=runG (B_lw_word G_lw_text) N_lw_word 2
noncomputable def N_lw_piece:List Str:=["_law_cell_here","_law_most","_law_deed"]
noncomputable def B_lw_piece (G_lw_place:GL) (G_lw_word:GL):SF :=
 (seqF (ifF (asT (bin2 gEq (bin2 gMod (var 0) (cst (.int 4))) (cst (.int 0)))) (retF (tupV (consA (cst (.str "word")) (consA (callB G_lw_word (consA (bin2 gFdiv (var 0) (cst (.int 4))) (consA (var 1) nilA))) nilA)))) nextF)
 (seqF (setF 2 (bin2 gIx (lstV (consA (cst (.str "copy")) (consA (cst (.str "copy")) (consA (cst (.str "raise")) (consA (cst (.str "sink")) nilA))))) (bin2 gMod (bin2 gFdiv (var 0) (cst (.int 4))) (cst (.int 4)))))
 (retF (tupV (consA (var 2) (consA (callB G_lw_place (consA (bin2 gFdiv (var 0) (cst (.int 16))) nilA)) (consA (callB G_lw_place (consA (bin2 gFdiv (var 0) (cst (.int 640))) nilA)) nilA)))))))
noncomputable def G_lw_piece:GL:=runG (B_lw_piece G_lw_place G_lw_word) N_lw_piece 2
noncomputable def N_lw_row:List Str:=["_law_cell_here","_law_most","_law_row_here","_law_part"]
noncomputable def B_lw_row (G_lw_piece:GL):SF :=
 (seqF (setF 2 (lstV nilA))
 (seqF (forF (iAnyF (slF (lstV (consA (bin2 gFdiv (var 0) (cst (.int 3))) (consA (bin2 gFdiv (var 0) (cst (.int 96000))) (consA (bin2 gFdiv (var 0) (cst (.int 3072000000))) nilA)))) noO (asO (bin2 gAdd (cst (.int 1)) (bin2 gMod (var 0) (cst (.int 3))))))) (gNameF 3) (exprF (mthF "list" gAppend (var 2) (consA (callB G_lw_piece (consA (var 3) (consA (var 1) nilA))) nilA))))
 (retF (callB gTuple (consA (var 2) nilA)))))
noncomputable def G_lw_row:GL:=runG (B_lw_row G_lw_piece) N_lw_row 2
noncomputable def N_lw_program:List Str:=["_law_cell_here","_law_other_here","_law_most"]
noncomputable def B_lw_program (G_lw_look:GL) (G_lw_row:GL):SF :=
 (seqF (ifF (asT (bin2 gEq (bin2 gMod (var 0) (cst (.int 2))) (cst (.int 0)))) (retF (tupV (consA (cst (.str "do")) (consA (callB G_lw_row (consA (bin2 gFdiv (var 0) (cst (.int 2))) (consA (var 2) nilA))) nilA)))) nextF)
 (retF (tupV (consA (cst (.str "if")) (consA (callB G_lw_look (consA (bin2 gFdiv (var 0) (cst (.int 2))) nilA)) (consA (callB G_lw_row (consA (bin2 gFdiv (var 0) (cst (.int 20))) (consA (var 2) nilA))) (consA (callB G_lw_row (consA (var 1) (consA (var 2) nilA))) nilA)))))))
noncomputable def G_lw_program:GL:=runG (B_lw_program G_lw_look G_lw_row) N_lw_program 3
noncomputable def N_lw_odd:List Str:=["_law_cell_here","_law_some"]
noncomputable def B_lw_odd:SF :=
 (seqF (setF 1 (lstV (consA (cst (.str "")) (consA (cst (.str " ")) (consA (cst (.str "do")) (consA (cst (.str "do ")) (consA (cst (.str "word a")) (consA (cst (.str "copy any 1 ahead any 1 behind")) (consA (cst (.str "do word")) (consA (cst (.str "do word ")) (consA (cst (.str "do word  a")) nilA)))))))))))
 (seqF (setF 1 (bin2 gAdd (var 1) (lstV (consA (cst (.str " do word a")) (consA (cst (.str "do word a ")) (consA (cst (.str "do  word a")) (consA (cst (.str "do word a+word b")) (consA (cst (.str "do word a + + word b")) nilA))))))))
 (seqF (setF 1 (bin2 gAdd (var 1) (lstV (consA (cst (.str "do word else + word do")) (consA (cst (.str "do word + + word word")) (consA (cst (.str "do word a else do word b")) (consA (cst (.str "do word a else")) nilA)))))))
 (seqF (setF 1 (bin2 gAdd (var 1) (lstV (consA (cst (.str "do word a + word b + word c + word d")) (consA (cst (.str "if has any do word else else do word else")) nilA)))))
 (seqF (setF 1 (bin2 gAdd (var 1) (lstV (consA (cst (.str "do copy any 1 ahead")) (consA (cst (.str "do word a + word b + word c")) (consA (cst (.str "if has any word a else word b")) nilA))))))
 (seqF (setF 1 (bin2 gAdd (var 1) (lstV (consA (cst (.str "if any has do word a else do word b")) (consA (cst (.str "if has figure do word a else do")) (consA (cst (.str "if has any do word a")) nilA))))))
 (retF (bin2 gIx (var 1) (bin2 gMod (var 0) (cst (.int 26)))))))))))
noncomputable def G_lw_odd:GL:=runG (B_lw_odd) N_lw_odd 1
noncomputable def N_lw_cell:List Str:=["_law_script","_law_k","_law_number"]
noncomputable def B_lw_cell:SF :=
 (seqF (ifF (asT (bin2 gLt (var 1) (callB gLen (consA (var 0) nilA)))) (retF (bin2 gMod (bin2 gMul (bin2 gAdd (bin2 gIx (var 0) (var 1)) (cst (.int 7919))) (cst (.int 2718281828459045235360287471352662497757))) (bin2 gPow (cst (.int 10)) (cst (.int 40))))) nextF)
 (seqF (setF 2 (bin2 gAdd (bin2 gMul (bin2 gMul (var 1) (var 1)) (cst (.int 7919))) (cst (.int 5))))
 (seqF (ifF (asT (bin2 gGt (callB gLen (consA (var 0) nilA)) (cst (.int 0)))) (setF 2 (bin2 gAdd (var 2) (bin2 gMul (bin2 gMod (bin2 gIx (var 0) (bin2 gMod (bin2 gMul (var 1) (cst (.int 7))) (callB gLen (consA (var 0) nilA)))) (bin2 gPow (cst (.int 10)) (cst (.int 40)))) (cst (.int 48271))))) nextF)
 (retF (bin2 gMod (bin2 gMul (bin2 gMod (bin2 gMul (var 2) (var 2)) (cst (.int 2147483629))) (cst (.int 2718281828459045235360287471352662497757))) (bin2 gPow (cst (.int 10)) (cst (.int 40))))))))
noncomputable def G_lw_cell:GL:=runG (B_lw_cell) N_lw_cell 2
noncomputable def N_lw_other:List Str:=["_law_cell_here","_law_some"]
noncomputable def B_lw_other:SF :=
 (seqF (setF 1 (lstV (consA (cst (.str "do")) (consA (cst (.str "if")) (consA (cst (.str "else")) (consA (cst (.str "word")) (consA (cst (.str "copy")) (consA (cst (.str "raise")) (consA (cst (.str "sink")) (consA (cst (.str "+")) (consA (cst (.str "has")) (consA (cst (.str "begins")) (consA (cst (.str "small")) (consA (cst (.str "great")) (consA (cst (.str "figure")) nilA)))))))))))))))
 (seqF (setF 1 (bin2 gAdd (var 1) (lstV (consA (cst (.str "mark")) (consA (cst (.str "any")) (consA (cst (.str "1")) (consA (cst (.str "2")) (consA (cst (.str "-1")) (consA (cst (.str "-2")) (consA (cst (.str "0")) (consA (cst (.str "3")) (consA (cst (.str "-3")) (consA (cst (.str "01")) (consA (cst (.str "+1")) (consA (cst (.str "one")) (consA (cst (.str "ahead")) (consA (cst (.str "behind")) (consA (cst (.str "before")) nilA))))))))))))))))))
 (seqF (setF 1 (bin2 gAdd (var 1) (lstV (consA (cst (.str "")) (consA (cst (.str "_")) (consA (cst (.str "a_")) (consA (cst (.str "Do")) (consA (cst (.str "ANY")) (consA (cst (.str "a_b")) (consA (cst (.str "abcdefgh")) (consA (cst (.str "abcdefghi")) (consA (cst (.str "a+b")) (consA (cst (.str "then")) (consA (cst (.str "+ do")) (consA (cst (.str "True")) nilA)))))))))))))))
 (retF (bin2 gIx (var 1) (bin2 gMod (var 0) (cst (.int 40))))))))
noncomputable def G_lw_other:GL:=runG (B_lw_other) N_lw_other 1
noncomputable def N_lw_spoiled:List Str:=["_law_text_here","_law_cell_here","_law_words","_law_at","_law_other_here","_law_way","_law_some","_law_more"]
noncomputable def B_lw_spoiled (G_lw_other:GL):SF :=
 (seqF (setF 2 (mthF "str" gSplit (var 0) (consA (cst (.str " ")) nilA)))
 (seqF (setF 3 (bin2 gMod (bin2 gFdiv (var 1) (cst (.int 8))) (callB gLen (consA (var 2) nilA))))
 (seqF (setF 4 (callB G_lw_other (consA (bin2 gFdiv (var 1) (cst (.int 8000))) nilA)))
 (seqF (setF 5 (bin2 gMod (var 1) (cst (.int 8))))
 (seqF (ifF (asT (bin2 gEq (var 5) (cst (.int 0)))) (setF 2 (bin2 gAdd (slF (var 2) noO (asO (var 3))) (slF (var 2) (asO (bin2 gAdd (var 3) (cst (.int 1)))) noO))) nextF)
 (seqF (ifF (asT (bin2 gEq (var 5) (cst (.int 1)))) (setF 2 (bin2 gAdd (slF (var 2) noO (asO (bin2 gAdd (var 3) (cst (.int 1))))) (slF (var 2) (asO (var 3)) noO))) nextF)
 (seqF (ifF (asT (bin2 gEq (var 5) (cst (.int 2)))) (seqF (setF 6 (bin2 gAdd (slF (var 2) (asO (bin2 gAdd (var 3) (cst (.int 1)))) (asO (bin2 gAdd (var 3) (cst (.int 2))))) (slF (var 2) (asO (var 3)) (asO (bin2 gAdd (var 3) (cst (.int 1)))))))
 (setF 2 (bin2 gAdd (bin2 gAdd (slF (var 2) noO (asO (var 3))) (var 6)) (slF (var 2) (asO (bin2 gAdd (var 3) (cst (.int 2)))) noO)))) nextF)
 (seqF (ifF (orT (asT (bin2 gEq (var 5) (cst (.int 3)))) (asT (bin2 gEq (var 5) (cst (.int 4))))) (setF 2 (bin2 gAdd (bin2 gAdd (slF (var 2) noO (asO (var 3))) (lstV (consA (var 4) nilA))) (slF (var 2) (asO (bin2 gAdd (var 3) (cst (.int 1)))) noO))) nextF)
 (seqF (ifF (asT (bin2 gEq (var 5) (cst (.int 5)))) (setF 2 (bin2 gAdd (bin2 gAdd (slF (var 2) noO (asO (var 3))) (lstV (consA (var 4) nilA))) (slF (var 2) (asO (var 3)) noO))) nextF)
 (seqF (ifF (asT (bin2 gEq (var 5) (cst (.int 6)))) (setF 2 (slF (var 2) noO (asO (bin2 gAdd (var 3) (cst (.int 1)))))) nextF)
 (seqF (ifF (asT (bin2 gEq (var 5) (cst (.int 7)))) (seqF (setF 7 (lstV (consA (cst (.str "+ word a")) (consA (cst (.str "+ copy any 1 ahead any -1 behind")) (consA (cst (.str "+")) (consA (cst (.str "else do word a")) nilA))))))
 (setF 2 (bin2 gAdd (var 2) (lstV (consA (bin2 gIx (var 7) (bin2 gMod (bin2 gFdiv (var 1) (cst (.int 8))) (cst (.int 4)))) nilA))))) nextF)
 (retF (mthF "str" gJoin (cst (.str " ")) (consA (var 2) nilA))))))))))))))
noncomputable def G_lw_spoiled:GL:=runG (B_lw_spoiled G_lw_other) N_lw_spoiled 2
noncomputable def N_law:List Str:=["_law_script","_law_text_here","_law_k"]
noncomputable def B_law (G_lw_shown:GL) (G_lw_right:GL) (G_lw_program:GL) (G_lw_odd:GL) (G_lw_cell:GL) (G_lw_spoiled:GL):SF :=
 (seqF (setF 1 (callB G_lw_shown (consA (callB G_lw_program (consA (callB G_lw_cell (consA (var 0) (consA (cst (.int 0)) nilA))) (consA (callB G_lw_cell (consA (var 0) (consA (cst (.int 1)) nilA))) (consA (cst (.int 8)) nilA)))) nilA)))
 (seqF (forF (iRng2F (consA (cst (.int 3)) (consA (callB gMax (consA (cst (.int 4)) (consA (callB gMin (consA (cst (.int 13)) (consA (callB gLen (consA (var 0) nilA)) nilA))) nilA))) nilA))) (gNameF 2) (ifF (notT (asT (callB G_lw_right (consA (callB G_lw_spoiled (consA (var 1) (consA (callB G_lw_cell (consA (var 0) (consA (var 2) nilA))) nilA))) nilA)))) (retF (cst (.bl false))) nextF))
 (retF (callB G_lw_right (consA (callB G_lw_odd (consA (callB G_lw_cell (consA (var 0) (consA (cst (.int 2)) nilA))) nilA)) nilA)))))
noncomputable def G_law:GL:=runG (B_law G_lw_shown G_lw_right G_lw_program G_lw_odd G_lw_cell G_lw_spoiled) N_law 1
end L3
set_option maxHeartbeats 4000000
--BEGIN WPT
local macro_rules | `(tactic| wtm_at "z_lk") => `(tactic| first | (with_reducible assumption) | (with_reducible exact L3.get_last) | ((with_reducible refine L3.get_app ?_); wtm_at "z_lk") | ((with_reducible refine L3.get_setS ?_); wtm_at "z_lk") | fail)
local macro_rules | `(tactic| wtm_at "z_pf") => `(tactic| first | exact List.prefix_refl _ | assumption | ((with_reducible refine List.IsPrefix.trans ?_ (List.prefix_append _ _)); wtm_at "z_pf") | ((with_reducible refine L3.pre_set ?_ ?_); (focus wtm_at "z_pf"); (focus (first | exact Nat.le_refl _ | simp))) | fail)
local macro_rules | `(tactic| wtm_at "z_u") => `(tactic| fail)
local macro_rules | `(tactic| wtm_at "z_1") => `(tactic| first | wtm_at "z_u" | (with_reducible refine L3.ws_seq ?_) | (with_reducible refine L3.ws_set ?_) | (with_reducible refine L3.ws_if ?_) | (with_reducible refine L3.ws_ret ?_) | (with_reducible refine L3.ws_next ?_) | (with_reducible refine L3.ws_expr ?_) | (with_reducible refine L3.ws_asg ?_) | (with_reducible refine L3.ws_for ?_) | (with_reducible refine L3.ws_brk ?_) | (with_reducible refine L3.ws_cont ?_) | (with_reducible refine L3.ws_retN ?_) | ((with_reducible refine' L3.w_var ?k1 ?_); (case k1 => with_unfolding_all rfl)) | (with_reducible refine L3.w_cst ?_) | (with_reducible refine L3.w_bin ?_) | (with_reducible refine L3.w_callB ?_) | (with_reducible refine L3.w_consA ?_) | (with_reducible refine L3.w_nilA ?_) | (with_reducible refine L3.w_asT ?_) | (with_reducible refine L3.w_notT ?_) | (with_reducible refine L3.w_andT ?_) | (with_reducible refine L3.w_orT ?_) | (with_reducible refine L3.w_trueT ?_) | (with_reducible refine L3.w_tupV ?_) | (with_reducible refine L3.w_lstV ?_) | (with_reducible refine L3.w_mthF ?_) | (with_reducible refine L3.w_ifV ?_) | (with_reducible refine L3.w_andV ?_) | (with_reducible refine L3.w_orV ?_) | (with_reducible refine L3.w_notV ?_) | (with_reducible refine L3.w_slF ?_) | (with_reducible refine L3.w_noO ?_) | (with_reducible refine L3.w_asO ?_) | (with_reducible refine L3.w_un ?_) | (with_reducible refine L3.w_comp ?_) | (with_reducible refine L3.w_dNew ?_) | (with_reducible refine L3.w_dOne ?_) | (with_reducible refine L3.wi_any ?_) | (with_reducible refine L3.wi_tup ?_) | (with_reducible refine L3.wi_fz ?_) | (with_reducible refine L3.wi_str ?_) | (with_reducible refine L3.wi_rng1 ?_) | (with_reducible refine L3.wi_rng2 ?_) | (with_reducible refine L3.wi_enum ?_) | (with_reducible refine L3.enum_mk ?_) | (with_reducible refine L3.br_t ?_) | (with_reducible refine L3.br_f ?_) | (with_reducible refine L3.br_not ?_) | (with_reducible refine L3.br_nN ?_) | (with_reducible refine L3.br_nI ?_) | (with_reducible refine L3.br_nS ?_) | (with_reducible refine L3.br_nT ?_) | (with_reducible refine L3.br_nB ?_) | (with_reducible refine L3.br_nR ?_) | (with_reducible refine L3.isB_mk ?_) | (with_reducible refine L3.isI_mk ?_) | (with_reducible refine L3.ty_str ?_) | (with_reducible refine L3.ty_fz ?_) | (with_reducible refine L3.wg_name ?_) | (with_reducible refine L3.wg_nil ?_) | (with_reducible refine L3.wg_cons ?_) | (with_reducible refine L3.g_addI ?_) | (with_reducible refine L3.g_sub ?_) | (with_reducible refine L3.g_neg ?_) | (with_reducible refine L3.g_lt ?_) | (with_reducible refine L3.g_le ?_) | (with_reducible refine L3.g_gt ?_) | (with_reducible refine L3.g_ge ?_) | (with_reducible refine L3.g_eqI ?_) | (with_reducible refine L3.g_eqS ?_) | (with_reducible refine L3.g_eqB ?_) | (with_reducible refine L3.g_neI ?_) | (with_reducible refine L3.g_neS ?_) | (with_reducible refine L3.g_eqNS ?_) | (with_reducible refine L3.g_is ?_) | (with_reducible refine L3.g_isnot ?_) | (with_reducible refine L3.g_inS ?_) | (with_reducible refine L3.g_slS ?_) | (with_reducible refine L3.g_lenS ?_) | (with_reducible refine L3.g_lenT ?_) | (with_reducible refine L3.g_lenF ?_) | (with_reducible refine L3.g_abs ?_) | (with_reducible refine L3.g_max ?_) | (with_reducible refine L3.g_min ?_) | (with_reducible refine L3.g_intI ?_) | (with_reducible refine L3.g_intB ?_) | (with_reducible refine L3.g_tupT ?_) | (with_reducible refine L3.g_listT ?_) | (with_reducible refine L3.g_s0b ?_) | ((with_reducible refine' L3.wg_tup ?k1 ?_); (case k1 => with_unfolding_all rfl)) | ((with_reducible refine' L3.le16c ?k1 ?_); (case k1 => with_unfolding_all rfl)) | ((with_reducible refine' L3.g_mod ?k1 ?_); (case k1 => first | rfl | (unfold L3.cMod; refine decide_eq_true ?_; omega))) | ((with_reducible refine' L3.g_fdiv ?k1 ?_); (case k1 => first | rfl | (unfold L3.cDiv; rw [Bool.and_eq_true]; constructor <;> refine decide_eq_true ?_ <;> omega))) | (with_reducible refine L3.g_pow40 ?_) | (with_reducible refine L3.g_pow30 ?_) | (with_reducible refine L3.g_pow6 ?_) | (with_reducible refine L3.g_pow60 ?_) | ((with_reducible refine' L3.g_ixT ?k1 ?_); (case k1 => with_unfolding_all rfl)) | ((with_reducible refine' L3.g_ixS ?k1 ?_); (case k1 => with_unfolding_all rfl)) | ((with_reducible refine' L3.g_lenR ?k1 ?_); (case k1 => wtm_at "z_lk")) | ((with_reducible refine' L3.ty_lst ?k1 ?_); (case k1 => wtm_at "z_lk")) | ((with_reducible refine' L3.wi_ref ?k1 ?_); (case k1 => wtm_at "z_lk")) | ((with_reducible refine' L3.g_tupR ?k1 ?_); (case k1 => wtm_at "z_lk")) | ((with_reducible refine' L3.g_listR ?k1 ?_); (case k1 => wtm_at "z_lk")) | ((with_reducible refine' L3.g_slR ?k1 ?_); (case k1 => wtm_at "z_lk")) | ((with_reducible refine' L3.g_instT ?k1 ?k2 ?k3 ?_); (case k1 => with_unfolding_all rfl); (case k2 => (first | with_unfolding_all rfl | (refine L3.ty_of_lst (xs := ?y1) ?y2; (case y2 => wtm_at "z_lk")) | (refine L3.ty_of_dk (xs := ?y1) ?y2; (case y2 => wtm_at "z_lk")))); (case k3 => with_unfolding_all rfl)) | ((with_reducible refine' L3.g_instF ?k1 ?k2 ?k3 ?_); (case k1 => with_unfolding_all rfl); (case k2 => (first | with_unfolding_all rfl | (refine L3.ty_of_lst (xs := ?y1) ?y2; (case y2 => wtm_at "z_lk")) | (refine L3.ty_of_dk (xs := ?y1) ?y2; (case y2 => wtm_at "z_lk")))); (case k3 => with_unfolding_all rfl)) | (with_reducible refine L3.ws_put ?_) | (with_reducible refine L3.ws_asgL ?_) | (with_reducible refine L3.w_chain ?_) | (with_reducible refine L3.g_slT ?_) | (with_reducible refine L3.g_strS ?_) | (with_reducible refine L3.br_isT ?_) | (with_reducible refine L3.br_isF ?_) | ((with_reducible refine' L3.g_addTc ?k1 ?_); (case k1 => with_unfolding_all rfl)) | ((with_reducible refine' L3.unp_tup ?k1 ?_); (case k1 => with_unfolding_all rfl)) | ((with_reducible refine' L3.unp_ref ?k1 ?k2 ?_); (case k1 => wtm_at "z_lk"); (case k2 => with_unfolding_all rfl)) | ((with_reducible refine' L3.g_isB ?k1 ?_); (case k1 => with_unfolding_all rfl)) | ((with_reducible refine' L3.g_isnotB ?k1 ?_); (case k1 => with_unfolding_all rfl)) | (with_reducible refine L3.ws_putO ?_) | (with_reducible refine L3.w_mthO ?_) | (with_reducible refine L3.w_mkO ?_) | (with_reducible refine L3.ws_augO ?_) | ((with_reducible refine' L3.ws_augN ?k1 ?_); (case k1 => with_unfolding_all rfl)) | ((with_reducible refine' L3.g_fld ?k1 ?k2 ?k3 ?_); (case k1 => wtm_at "z_lk"); (case k2 => with_unfolding_all rfl); (case k3 => with_unfolding_all rfl)) | ((with_reducible refine' L3.g_putO ?k1 ?k2 ?k3 ?_); (case k1 => wtm_at "z_lk"); (case k2 => with_unfolding_all rfl); (case k3 => with_unfolding_all rfl)) | ((with_reducible refine' L3.mth_mk ?k1 ?k2 ?_); (case k1 => wtm_at "z_lk"); (case k2 => with_unfolding_all rfl)) | ((with_reducible refine' L3.g_addLc ?k1 ?k2 ?k3 ?_); (case k1 => wtm_at "z_lk"); (case k2 => wtm_at "z_lk"); (case k3 => with_unfolding_all rfl)) | (with_reducible refine L3.gEqD_S ?_) | (with_reducible refine L3.gEqD_I ?_) | (with_reducible refine L3.gEqD_B ?_) | (with_reducible refine L3.gNeD_S ?_) | (with_reducible refine L3.gNeD_I ?_) | ((with_reducible refine' L3.rng1_mk ?k1 ?_); (case k1 => first | decide | omega)) | ((with_reducible refine' L3.rng2_mk ?k1 ?_); (case k1 => first | decide | omega)) | ((with_reducible refine' L3.br_decT ?k1 ?_); (case k1 => first | rfl | assumption | decide | omega | (simp only [List.length_cons, List.length_nil]; omega))) | ((with_reducible refine' L3.br_decF ?k1 ?_); (case k1 => first | rfl | assumption | decide | omega | (simp only [List.length_cons, List.length_nil]; omega))) | fail)
local macro_rules | `(tactic| wtm_at "z") => `(tactic| repeat' (wtm_at "z_1"))
--END WPT
namespace L3
open PySem PySem.Spec PyProof.Rows L2
noncomputable def NthOk (n:Int):Prop:=n = 1 ∨ n = 2 ∨ n = -1 ∨ n = -2
noncomputable def IsPlace (d:D):Prop:=∃ (kind:Str) (nth:Int) (edge:Str),d = .tup [.str kind,.int nth,.str edge] ∧ NthOk nth ∧ (edge = "ahead" ∨ edge = "behind") ∧ kind ∈ ([("small":Str),"great","figure","mark","any"]:List Str)
theorem cell_w {Q:D → Sto → Prop} {L:Sto} {ns:List Int} (hb:∀ z ∈ ns,Builtin.Int.intBits z ≤ 1048576) (hn:ns.length ≤ 63) {k:Int} (h0:0 ≤ k) (h1:k < 1000) (q:∀ v:Int,0 ≤ v → v < 10000000000000000000000000000000000000000 → Q (.int v) L):W2 (G_lw_cell [.fz (ns.map .int),.int k] L) Q:=by
 have hC:Builtin.Int.intBits 2718281828459045235360287471352662497757 ≤ 132:=by decide
 have hlen:((ns.map D.int).length:Int) = ns.length:=by simp
 unfold G_lw_cell
 refine w_run rfl ?_
 unfold B_lw_cell
 have fin:∀ x:Int,0 ≤ x % 10000000000000000000000000000000000000000 ∧ x % 10000000000000000000000000000000000000000 < 10000000000000000000000000000000000000000:=fun x => ⟨Int.emod_nonneg _ (by decide),Int.emod_lt_of_pos _ (by decide)⟩
 wtm_at "z"
 refine br_dec (fun hk => ?_) (fun hk => ?_)
 ·obtain ⟨z,hz,ez⟩:=atI_ints h0 (hlen ▸ hk)
  wtm_at "z"
  refine g_ixF ez ?_
  wtm_at "z"
  refine g_mulI (mulOk_le (m:=1048577) (PySem.intBits_add_le (m:=1048576) (n:=13) (hb z hz) (by decide)) hC (by decide)) ?_
  wtm_at "z"
  exact ⟨rfl,List.prefix_refl _,q _ (fin _).1 (fin _).2⟩
 ·wtm_at "z"
  have hkk:0 ≤ k * k ∧ k * k ≤ 1000000:=by
   have a1:k * k ≤ 1000 * 1000:=Int.mul_le_mul (by omega) (by omega) h0 (by omega)
   exact ⟨Int.mul_nonneg h0 h0,by omega⟩
  refine g_mulI (mulOk_l (by omega)) ?_
  wtm_at "z"
  refine g_mulI (mulOk_r (by omega)) ?_
  wtm_at "z"
  have rest:∀ v:Int,0 ≤ v → v < 100000000000000000000000000000000000000000000000 → cMul v v = true ∧ ∀ x:Int,cMul (x % 2147483629) 2718281828459045235360287471352662497757 = true:=fun v a b => by
   have hv:Builtin.Int.intBits v ≤ 160:=bits_of_lt (by
    have:(v.natAbs:Int) < ((2 ^ 160:Nat):Int):=by
     have e:((2 ^ 160:Nat):Int) = 1461501637330902918203684832716283019655932542976:=by decide
     rw [e]
     omega
    exact Int.ofNat_lt.mp this)
   refine ⟨mulOk_le hv hv (by decide),fun x => mulOk_l ?_⟩
   have:=Int.emod_nonneg x (b:=2147483629) (by decide)
   have:=Int.emod_lt_of_pos x (b:=2147483629) (by decide)
   omega
  refine br_dec (fun hl => ?_) (fun hl => ?_)
  ·have hpos:0 < (ns.length:Int):=by omega
   wtm_at "z"
   refine g_mulI (mulOk_r (by omega)) ?_
   wtm_at "z"
   obtain ⟨z,hz,ez⟩:=atI_ints (ns:=ns) (k:=k * 7 % ((ns.map D.int).length:Int)) (Int.emod_nonneg _ (by omega)) (by have:=Int.emod_lt_of_pos (k * 7) (b:=((ns.map D.int).length:Int)) (by omega); omega)
   refine g_ixF ez ?_
   wtm_at "z"
   refine g_mulI (mulOk_r (by omega)) ?_
   have hr:=fin z
   wtm_at "z"
   obtain ⟨f1,f2⟩:=rest (k * k * 7919 + 5 + z % 10000000000000000000000000000000000000000 * 48271) (by omega) (by omega)
   refine g_mulI f1 ?_
   wtm_at "z"
   refine g_mulI (f2 _) ?_
   wtm_at "z"
   exact ⟨rfl,List.prefix_refl _,q _ (fin _).1 (fin _).2⟩
  ·wtm_at "z"
   obtain ⟨f1,f2⟩:=rest (k * k * 7919 + 5) (by omega) (by omega)
   refine g_mulI f1 ?_
   wtm_at "z"
   refine g_mulI (f2 _) ?_
   wtm_at "z"
   exact ⟨rfl,List.prefix_refl _,q _ (fin _).1 (fin _).2⟩
theorem menu_mem {L:Sto} {Q:D → Sto → Prop} {k:Nat} {xs:List D} {n:Int} (c:Int) (e:L[k]? = some (.lst xs)) (h0:0 < n) (h:n ≤ xs.length) (q:∀ d ∈ xs,Q d L):W2 (gIx (.ref k) (.int (c % n)) L) Q:=by
 obtain ⟨d,hd,e2⟩:=atI_mod (xs:=xs) c h0 h
 exact g_ixR e e2 (q d hd)
theorem lw_place_w {Q:D → Sto → Prop} {L:Sto} (c:Int) (q:∀ p,IsPlace p → Q p L):W2 (G_lw_place [.int c] L) Q:=by
 unfold G_lw_place
 refine w_run rfl ?_
 unfold B_lw_place
 wtm_at "z"
 refine menu_mem c get_last (by decide) (by decide) fun d hd => ?_
 wtm_at "z"
 refine menu_mem (c / 5) get_last (by decide) (by decide) fun d2 hd2 => ?_
 wtm_at "z"
 refine menu_mem (c / 20) get_last (by decide) (by decide) fun d3 hd3 => ?_
 wtm_at "z"
 simp only [List.mem_cons,List.not_mem_nil,or_false] at hd hd2 hd3
 have hk:∃ kind:Str,d = .str kind ∧ kind ∈ ([("small":Str),"great","figure","mark","any"]:List Str):=by
  rcases hd with rfl | rfl | rfl | rfl | rfl
  ·exact ⟨_,rfl,by decide⟩
  ·exact ⟨_,rfl,by decide⟩
  ·exact ⟨_,rfl,by decide⟩
  ·exact ⟨_,rfl,by decide⟩
  ·exact ⟨_,rfl,by decide⟩
 have hn:∃ n:Int,d2 = .int n ∧ NthOk n:=by
  rcases hd2 with rfl | rfl | rfl | rfl
  ·exact ⟨_,rfl,.inl rfl⟩
  ·exact ⟨_,rfl,.inr (.inl rfl)⟩
  ·exact ⟨_,rfl,.inr (.inr (.inl rfl))⟩
  ·exact ⟨_,rfl,.inr (.inr (.inr rfl))⟩
 have he:∃ e:Str,d3 = .str e ∧ (e = "ahead" ∨ e = "behind"):=by
  rcases hd3 with rfl | rfl
  ·exact ⟨_,rfl,.inl rfl⟩
  ·exact ⟨_,rfl,.inr rfl⟩
 obtain ⟨kind,rfl,hk⟩:=hk
 obtain ⟨n,rfl,hn⟩:=hn
 obtain ⟨e,rfl,he⟩:=he
 exact ⟨rfl,by wtm_at "z_pf",q _ ⟨kind,n,e,rfl,hn,he,hk⟩⟩
theorem lw_text_w {Q:D → Sto → Prop} {L:Sto} (c most:Int) (h0:0 ≤ most) (h1:most ≤ 100) (q:∀ t:Str,SgOk t → (t.length:Int) ≤ most → Q (.str t) L):W2 (G_lw_text [.int c,.int most] L) Q:=by
 unfold G_lw_text
 refine w_run rfl ?_
 unfold B_lw_text
 have hz1:0 ≤ c % (most + 1):=Int.emod_nonneg _ (by omega)
 have hz2:c % (most + 1) < most + 1:=Int.emod_lt_of_pos _ (by omega)
 wtm_at "z"
 generalize hL:L ++ [Ob.lst [D.str "abcdefghijklmnopqrstuvwxyz",D.str "ABCDEFGHIJKLMNOPQRSTUVWXYZ",D.str "0123456789",D.str " -.,/"]] = L1
 have hg:L1[L.length]? = some (Ob.lst [D.str "abcdefghijklmnopqrstuvwxyz",D.str "ABCDEFGHIJKLMNOPQRSTUVWXYZ",D.str "0123456789",D.str " -.,/"]):=by rw [← hL]; exact get_last
 have hpre:L <+: L1:=by rw [← hL]; exact List.prefix_append _ _
 refine ws_loop (fun j ρ L' => L' = L1 ∧ ∃ (c':Int) (t:Str) (a b:Option D),ρ = [some (.int c'),some (.int most),some (.ref L.length),some (.int (c % (most + 1))),some (.str t),a,b] ∧ SgOk t ∧ t.length ≤ j) _ 0 _ _ ⟨rfl,_,_,_,_,rfl,by decide,by decide⟩ ?_ ?_
 ·rintro i x ρ L' hx ⟨rfl,c',t,a,b,rfl,ht1,ht2⟩
  obtain ⟨hi,rfl⟩:=rngD_at hx
  refine ⟨rfl,?_⟩
  wtm_at "z"
  refine g_mulI (mulOk_r (by omega)) ?_
  wtm_at "z"
  refine g_mulI (mulOk_l (by omega)) ?_
  wtm_at "z"
  refine menu_mem _ hg (by decide) (by decide) fun d hd => ?_
  have hd':∃ m:Str,d = .str m ∧ SgOk m ∧ 0 < m.length ∧ m.length ≤ 26:=by
   simp only [List.mem_cons,List.not_mem_nil,or_false] at hd
   rcases hd with rfl | rfl | rfl | rfl <;> exact ⟨_,rfl,by decide +kernel,by decide +kernel,by decide +kernel⟩
  obtain ⟨m,rfl,hm1,hm2,hm3⟩:=hd'
  wtm_at "z"
  obtain ⟨k,hk1,hk2⟩:=atI_mod (xs:=m.cps.toList) (n:=(m.length:Int)) _ (by omega) (by simp [Str.length])
  refine g_ixS hk2 ?_
  have hone:(⟨#[k]⟩:Str).length = 1:=rfl
  refine g_addS (by rw [hone]; omega) ?_
  refine ⟨rfl,_,_,_,_,rfl,ht1.app (.one (hm1 _ hk1)),?_⟩
  rw [app_length,hone]
  omega
 ·rintro ρ L' ⟨rfl,c',t,a,b,rfl,ht1,ht2⟩
  refine ⟨rfl,?_⟩
  wtm_at "z"
  rw [rngD_len] at ht2
  exact ⟨rfl,hpre,q t ht1 (by omega)⟩
theorem lw_word_w {Q:D → Sto → Prop} {L:Sto} (c:Int) (q:∀ t:Str,SgOk t → t.length ≤ 8 → 0 < t.length → Q (.str t) L):W2 (G_lw_word [.int c,.int 8] L) Q:=by
 unfold G_lw_word
 refine w_run rfl ?_
 unfold B_lw_word
 wtm_at "z"
 refine br_dec (fun h => ?_) (fun h => ?_)
 ·wtm_at "z"
  refine menu_mem _ get_last (by decide) (by decide) fun d hd => ?_
  have hd':∃ m:Str,d = .str m ∧ SgOk (Txt.slice m none (some 8)) ∧ (Txt.slice m none (some 8)).length ≤ 8 ∧ 0 < (Txt.slice m none (some 8)).length:=by
   simp only [List.mem_cons,List.not_mem_nil,or_false] at hd
   rcases hd with rfl | rfl | rfl | rfl | rfl | rfl | rfl | rfl | rfl | rfl | rfl | rfl <;> exact ⟨_,rfl,by decide +kernel,by decide +kernel,by decide +kernel⟩
  obtain ⟨m,rfl,hm1,hm2,hm3⟩:=hd'
  wtm_at "z"
  exact ⟨rfl,by wtm_at "z_pf",q _ hm1 hm2 hm3⟩
 ·wtm_at "z"
  refine lw_text_w _ _ (by decide) (by decide) fun t ht1 ht2 => ?_
  wtm_at "z"
  refine br_dec (fun h => ?_) (fun h => ?_)
  ·wtm_at "z"
   refine menu_mem _ get_last (by decide) (by decide) fun d hd => ?_
   have hd':∃ m:Str,d = .str m ∧ SgOk m ∧ m.length ≤ 8 ∧ 0 < m.length:=by
    simp only [List.mem_cons,List.not_mem_nil,or_false] at hd
    rcases hd with rfl | rfl | rfl | rfl | rfl <;> exact ⟨_,rfl,by decide +kernel,by decide +kernel,by decide +kernel⟩
   obtain ⟨m,rfl,hm1,hm2,hm3⟩:=hd'
   exact ⟨rfl,by wtm_at "z_pf",q _ hm1 hm2 hm3⟩
  ·wtm_at "z"
   refine ⟨rfl,by wtm_at "z_pf",q _ ht1 (by omega) ?_⟩
   rcases Nat.eq_zero_or_pos t.length with h0 | h0
   ·exfalso
    apply h
    obtain ⟨a⟩:=t
    have:a = #[]:=Array.eq_empty_of_size_eq_zero h0
    subst this; rfl
   ·exact h0
noncomputable def IsDeed (s:Str):Prop:=s = "copy" ∨ s = "raise" ∨ s = "sink"
noncomputable def IsPiece (d:D):Prop:=(∃ w:Str,d = .tup [.str "word",.str w] ∧ SgOk w ∧ w.length ≤ 8 ∧ 0 < w.length) ∨ (∃ (deed:Str) (p q:D),d = .tup [.str deed,p,q] ∧ IsDeed deed ∧ IsPlace p ∧ IsPlace q)
theorem IsPlace.noRef {p:D} (h:IsPlace p):p.noRef = true:=by obtain ⟨_,_,_,rfl,_⟩:=h; rfl
theorem IsPiece.noRef {p:D} (h:IsPiece p):p.noRef = true:=by
 rcases h with ⟨w,rfl,_⟩ | ⟨deed,p,q,rfl,_,hp,hq⟩
 ·rfl
 ·simp [D.noRef,D.noRefL,hp.noRef,hq.noRef]
theorem lw_piece_w {Q:D → Sto → Prop} {L:Sto} (c:Int) (q:∀ p,IsPiece p → Q p L):W2 (G_lw_piece [.int c,.int 8] L) Q:=by
 unfold G_lw_piece
 refine w_run rfl ?_
 unfold B_lw_piece
 wtm_at "z"
 refine br_dec (fun h => ?_) (fun h => ?_)
 ·wtm_at "z"
  refine lw_word_w _ fun t h1 h2 h3 => ?_
  wtm_at "z"
  exact ⟨rfl,List.prefix_refl _,q _ (.inl ⟨t,rfl,h1,h2,h3⟩)⟩
 ·wtm_at "z"
  refine menu_mem _ get_last (by decide) (by decide) fun d hd => ?_
  have hd':∃ m:Str,d = .str m ∧ IsDeed m:=by
   simp only [List.mem_cons,List.not_mem_nil,or_false] at hd
   rcases hd with rfl | rfl | rfl | rfl
   ·exact ⟨_,rfl,.inl rfl⟩
   ·exact ⟨_,rfl,.inl rfl⟩
   ·exact ⟨_,rfl,.inr (.inl rfl)⟩
   ·exact ⟨_,rfl,.inr (.inr rfl)⟩
  obtain ⟨m,rfl,hm⟩:=hd'
  wtm_at "z"
  refine lw_place_w _ fun p1 hp1 => ?_
  wtm_at "z"
  refine lw_place_w _ fun p2 hp2 => ?_
  wtm_at "z"
  have hP:IsPiece (.tup [.str m,p1,p2]):=.inr ⟨m,p1,p2,rfl,hm,hp1,hp2⟩
  exact ⟨hP.noRef,by wtm_at "z_pf",q _ hP⟩
noncomputable def IsRow (d:D):Prop:=∃ ps:List D,d = .tup ps ∧ (∀ p ∈ ps,IsPiece p) ∧ 0 < ps.length ∧ ps.length ≤ 3
noncomputable def IsLook (d:D):Prop:=∃ w k:Str,d = .tup [.str w,.str k] ∧ (w = "has" ∨ w = "begins") ∧ k ∈ ([("small":Str),"great","figure","mark","any"]:List Str)
noncomputable def IsProg (d:D):Prop:=(∃ r,d = .tup [.str "do",r] ∧ IsRow r) ∨ (∃ l r q,d = .tup [.str "if",l,r,q] ∧ IsLook l ∧ IsRow r ∧ IsRow q)
theorem noRefL_of:∀ {ps:List D},(∀ p ∈ ps,p.noRef = true) → D.noRefL ps = true
 | [],_ => rfl
 | p :: ps,h => by rw [D.noRefL,h p List.mem_cons_self,noRefL_of fun q hq => h q (List.mem_cons_of_mem _ hq)]; rfl
theorem IsRow.noRef {d:D} (h:IsRow d):d.noRef = true:=by
 obtain ⟨ps,rfl,hp,_⟩:=h
 rw [D.noRef]
 exact noRefL_of fun p hp' => (hp p hp').noRef
theorem IsLook.noRef {d:D} (h:IsLook d):d.noRef = true:=by obtain ⟨_,_,rfl,_⟩:=h; rfl
theorem IsProg.noRef {d:D} (h:IsProg d):d.noRef = true:=by
 rcases h with ⟨r,rfl,hr⟩ | ⟨l,r,q,rfl,hl,hr,hq⟩
 ·simp [D.noRef,D.noRefL,hr.noRef]
 ·simp [D.noRef,D.noRefL,hl.noRef,hr.noRef,hq.noRef]
theorem cut_mem {xs:List D} {lo hi:Option Int} {d:D} (h:d ∈ cutD xs lo hi):d ∈ xs:=List.mem_of_mem_drop (List.mem_of_mem_take h)
theorem cut_len {xs:List D} {lo hi:Option Int}:(cutD xs lo hi).length ≤ xs.length:=by
 unfold cutD
 rw [List.length_take,List.length_drop]
 omega
theorem cut_to {x:D} {xs:List D} {k:Int} (h:1 ≤ k):0 < (cutD (x :: xs) none (some k)).length:=by
 unfold cutD
 have e:HT.sIx (x :: xs).length 0 none = 0:=rfl
 rw [e,List.drop_zero,List.length_take,Nat.sub_zero]
 have:((k.toNat:Nat):Int) = k:=by omega
 rw [← this,HT.sIx_nat]
 simp
 omega
theorem lw_row_w {Q:D → Sto → Prop} {L:Sto} (c:Int) (q:∀ r,IsRow r → Q r L):W2 (G_lw_row [.int c,.int 8] L) Q:=by
 unfold G_lw_row
 refine w_run rfl ?_
 unfold B_lw_row
 wtm_at "z"
 generalize hL0:L ++ [Ob.lst []] ++ [Ob.lst [D.int (c / 3),.int (c / 96000),.int (c / 3072000000)]] = L0
 have hk0:L0[L.length]? = some (.lst []):=by rw [← hL0]; exact get_app get_last
 have hpre0:L <+: L0:=by rw [← hL0]; wtm_at "z_pf"
 have hl0:L.length < L0.length:=(List.getElem?_eq_some_iff.mp hk0).1
 have hm:=Int.emod_nonneg c (b:=3) (by decide)
 generalize hcs:cutD [D.int (c / 3),.int (c / 96000),.int (c / 3072000000)] none (some (1 + c % 3)) = cs
 have hc1:∀ d ∈ cs,∃ v:Int,d = .int v:=fun d hd => by
  rw [← hcs] at hd
  have:=cut_mem hd
  simp only [List.mem_cons,List.not_mem_nil,or_false] at this
  rcases this with rfl | rfl | rfl <;> exact ⟨_,rfl⟩
 have hc2:0 < cs.length:=by rw [← hcs]; exact cut_to (by omega)
 have hc3:cs.length ≤ 3:=by rw [← hcs]; exact Nat.le_trans cut_len (by simp)
 refine ws_loop (fun j ρ L' => ∃ (ps:List D) (a:Option D),ρ = [some (.int c),some (.int 8),some (.ref L.length),a] ∧ Keep L.length (L0 ++ [Ob.lst cs]) L' ∧ L'[L.length]? = some (.lst ps) ∧ (∀ p ∈ ps,IsPiece p) ∧ ps.length = j) _ 0 _ _ ⟨[],none,rfl,.refl _ _,get_app hk0,fun _ h => (nomatch h),rfl⟩ ?_ ?_
 ·rintro i x ρ L' hx ⟨ps,a,rfl,hkp,hg,hps,hpl⟩
  obtain ⟨v,rfl⟩:=hc1 x (List.mem_of_getElem? hx)
  have hi:i < cs.length:=(List.getElem?_eq_some_iff.mp hx).1
  refine ⟨decide_eq_true (hkp.get (by omega) get_last),?_⟩
  wtm_at "z"
  refine lw_piece_w _ fun p hp => ?_
  wtm_at "z"
  refine g_append hg (by omega) ?_
  refine ⟨ps ++ [p],_,rfl,hkp.trans (.set _ _ _),get_setS hg,fun r hr => ?_,by simp; omega⟩
  rcases List.mem_append.mp hr with h | h
  ·exact hps r h
  ·have:r = p:=by simpa using h
   rw [this]; exact hp
 ·rintro ρ L' ⟨ps,a,rfl,hkp,hg,hps,hpl⟩
  refine ⟨decide_eq_true (hkp.get (by omega) get_last),?_⟩
  wtm_at "z"
  have hR:IsRow (.tup ps):=⟨ps,rfl,hps,by omega,by omega⟩
  refine ⟨hR.noRef,?_,q _ hR⟩
  rw [List.prefix_iff_getElem?]
  intro j hj
  rw [hkp.2 j (by omega) (by simp; omega),List.getElem?_append_left (by omega),(List.prefix_iff_getElem?.mp hpre0) j hj]
theorem lw_look_w {Q:D → Sto → Prop} {L:Sto} (c:Int) (q:∀ r,IsLook r → Q r L):W2 (G_lw_look [.int c] L) Q:=by
 unfold G_lw_look
 refine w_run rfl ?_
 unfold B_lw_look
 wtm_at "z"
 refine menu_mem _ get_last (by decide) (by decide) fun d hd => ?_
 wtm_at "z"
 refine menu_mem _ get_last (by decide) (by decide) fun d2 hd2 => ?_
 wtm_at "z"
 simp only [List.mem_cons,List.not_mem_nil,or_false] at hd hd2
 have h1:∃ s:Str,d = .str s ∧ (s = "has" ∨ s = "begins"):=by
  rcases hd with rfl | rfl
  ·exact ⟨_,rfl,.inl rfl⟩
  ·exact ⟨_,rfl,.inr rfl⟩
 have h2:∃ s:Str,d2 = .str s ∧ s ∈ ([("small":Str),"great","figure","mark","any"]:List Str):=by
  rcases hd2 with rfl | rfl | rfl | rfl | rfl <;> exact ⟨_,rfl,by decide +kernel⟩
 obtain ⟨s,rfl,hs⟩:=h1
 obtain ⟨k,rfl,hk⟩:=h2
 exact ⟨rfl,by wtm_at "z_pf",q _ ⟨s,k,rfl,hs,hk⟩⟩
theorem lw_program_w {Q:D → Sto → Prop} {L:Sto} (c o:Int) (q:∀ r,IsProg r → Q r L):W2 (G_lw_program [.int c,.int o,.int 8] L) Q:=by
 unfold G_lw_program
 refine w_run rfl ?_
 unfold B_lw_program
 wtm_at "z"
 refine br_dec (fun h => ?_) (fun h => ?_)
 ·wtm_at "z"
  refine lw_row_w _ fun r hr => ?_
  wtm_at "z"
  have hP:IsProg (.tup [.str "do",r]):=.inl ⟨r,rfl,hr⟩
  exact ⟨hP.noRef,by wtm_at "z_pf",q _ hP⟩
 ·wtm_at "z"
  refine lw_look_w _ fun l hl => ?_
  wtm_at "z"
  refine lw_row_w _ fun r hr => ?_
  wtm_at "z"
  refine lw_row_w _ fun r2 hr2 => ?_
  wtm_at "z"
  have hP:IsProg (.tup [.str "if",l,r,r2]):=.inr ⟨l,r,r2,rfl,hl,hr,hr2⟩
  exact ⟨hP.noRef,by wtm_at "z_pf",q _ hP⟩
noncomputable def inL (d:D) (ws:List D):Bool:=match d with | .str _ => inD d ws | _ => false
noncomputable def nthB (d:D):Bool:=match d with | .int i => inD (.int i) [.int 1,.int 2,.int (-1),.int (-2)] | _ => false
noncomputable def kindsL:List D:=[.str "small",.str "great",.str "figure",.str "mark",.str "any"]
noncomputable def edgesL:List D:=[.str "ahead",.str "behind"]
theorem among_w {Q:D → Sto → Prop} {L:Sto} {d:D} {ws:List D} {t:String} (ht:tyName d L = some t) (hw:ws.all flatD = true) (h:Q (.bl (inL d ws)) L):W2 (G_is_word_among [d,.tup ws] L) Q:=by
 unfold G_is_word_among
 refine w_run rfl ?_
 unfold B_is_word_among
 wtm_at "z"
 cases d with
 | str s =>
  refine g_instT rfl rfl rfl ?_
  wtm_at "z"
  refine g_inT (by rw [hw]; rfl) ?_
  exact ⟨rfl,List.prefix_refl _,h⟩
 | non => refine g_instF rfl rfl rfl ?_; wtm_at "z"; exact ⟨rfl,List.prefix_refl _,h⟩
 | bl b => refine g_instF rfl rfl rfl ?_; wtm_at "z"; exact ⟨rfl,List.prefix_refl _,h⟩
 | int b => refine g_instF rfl rfl rfl ?_; wtm_at "z"; exact ⟨rfl,List.prefix_refl _,h⟩
 | tup b => refine g_instF rfl rfl rfl ?_; wtm_at "z"; exact ⟨rfl,List.prefix_refl _,h⟩
 | fz b => refine g_instF rfl rfl rfl ?_; wtm_at "z"; exact ⟨rfl,List.prefix_refl _,h⟩
 | ty b => cases ht
 | ref k =>
  have:t = "list" ∨ t = "dict":=by
   simp only [tyName] at ht
   split at ht
   ·cases ht; exact .inl rfl
   ·cases ht; exact .inr rfl
   ·cases ht
  rcases this with rfl | rfl
  ·refine g_instF rfl ht rfl ?_; wtm_at "z"; exact ⟨rfl,List.prefix_refl _,h⟩
  ·refine g_instF rfl ht rfl ?_; wtm_at "z"; exact ⟨rfl,List.prefix_refl _,h⟩
theorem nth_w {Q:D → Sto → Prop} {L:Sto} {d:D} {t:String} (ht:tyName d L = some t) (h:Q (.bl (nthB d)) L):W2 (G_is_nth [d] L) Q:=by
 unfold G_is_nth
 refine w_run rfl ?_
 simp only [B_is_nth,c_NTHS]
 wtm_at "z"
 cases d with
 | int i =>
  refine g_instT rfl rfl rfl ?_
  wtm_at "z"
  refine g_inT rfl ?_
  exact ⟨rfl,List.prefix_refl _,h⟩
 | non => refine g_instF rfl rfl rfl ?_; wtm_at "z"; exact ⟨rfl,List.prefix_refl _,h⟩
 | bl b => refine g_instT rfl rfl rfl ?_; wtm_at "z"; exact ⟨rfl,List.prefix_refl _,h⟩
 | str b => refine g_instF rfl rfl rfl ?_; wtm_at "z"; exact ⟨rfl,List.prefix_refl _,h⟩
 | tup b => refine g_instF rfl rfl rfl ?_; wtm_at "z"; exact ⟨rfl,List.prefix_refl _,h⟩
 | fz b => refine g_instF rfl rfl rfl ?_; wtm_at "z"; exact ⟨rfl,List.prefix_refl _,h⟩
 | ty b => cases ht
 | ref k =>
  have:t = "list" ∨ t = "dict":=by
   simp only [tyName] at ht
   split at ht
   ·cases ht; exact .inl rfl
   ·cases ht; exact .inr rfl
   ·cases ht
  rcases this with rfl | rfl
  ·refine g_instF rfl ht rfl ?_; wtm_at "z"; exact ⟨rfl,List.prefix_refl _,h⟩
  ·refine g_instF rfl ht rfl ?_; wtm_at "z"; exact ⟨rfl,List.prefix_refl _,h⟩
theorem place3_w {Q:D → Sto → Prop} {L:Sto} {a b c:D} {ta tb tc:String} (ha:tyName a L = some ta) (hb:tyName b L = some tb) (hc:tyName c L = some tc) (h:Q (.bl (inL a kindsL && (nthB b && inL c edgesL))) L):W2 (G_is_place [.tup [a,b,c]] L) Q:=by
 unfold G_is_place
 refine w_run rfl ?_
 simp only [B_is_place,c_KINDS,c_EDGES]
 wtm_at "z"
 refine among_w ha rfl ?_
 wtm_at "z"
 have ea:inL a [.str "small",.str "great",.str "figure",.str "mark",.str "any"] = inL a kindsL:=rfl
 have ec:inL c [.str "ahead",.str "behind"] = inL c edgesL:=rfl
 rw [ea]
 cases h1:inL a kindsL with
 | false => rw [h1] at h; wtm_at "z"; exact ⟨rfl,List.prefix_refl _,h⟩
 | true =>
  rw [h1,Bool.true_and] at h
  wtm_at "z"
  refine nth_w hb ?_
  wtm_at "z"
  cases h2:nthB b with
  | false => rw [h2] at h; wtm_at "z"; exact ⟨rfl,List.prefix_refl _,h⟩
  | true =>
   rw [h2,Bool.true_and] at h
   wtm_at "z"
   refine among_w hc rfl ?_
   rw [ec]
   exact ⟨rfl,List.prefix_refl _,h⟩
theorem placeLen_w {Q:D → Sto → Prop} {L:Sto} {xs:List D} (hl:xs.length ≠ 3) (h:Q (.bl false) L):W2 (G_is_place [.tup xs] L) Q:=by
 unfold G_is_place
 refine w_run rfl ?_
 unfold B_is_place
 have hl':¬ ((xs.length:Int) = 3):=by omega
 wtm_at "z"
 exact ⟨rfl,List.prefix_refl _,h⟩
theorem placeOth_w {Q:D → Sto → Prop} {L:Sto} {d:D} {t:String} (ht:tyName d L = some t) (n:instOf t "tuple" = false) (h:Q (.bl false) L):W2 (G_is_place [d] L) Q:=by
 unfold G_is_place
 refine w_run rfl ?_
 unfold B_is_place
 wtm_at "z"
 refine g_instF rfl ht n ?_
 wtm_at "z"
 exact ⟨rfl,List.prefix_refl _,h⟩
theorem kind_in {kind:Str} (h:kind ∈ ([("small":Str),"great","figure","mark","any"]:List Str)):inL (.str kind) kindsL = true:=by
 simp only [List.mem_cons,List.not_mem_nil,or_false] at h
 rcases h with rfl | rfl | rfl | rfl | rfl <;> decide +kernel
theorem edge_in {edge:Str} (h:edge = "ahead" ∨ edge = "behind"):inL (.str edge) edgesL = true:=by rcases h with rfl | rfl <;> decide +kernel
theorem nth_in {n:Int} (h:NthOk n):nthB (.int n) = true:=by rcases h with rfl | rfl | rfl | rfl <;> decide +kernel
noncomputable def kindD (s:Str):D:=if inStr s "abcdefghijklmnopqrstuvwxyz" = true then .str "small" else if inStr s "ABCDEFGHIJKLMNOPQRSTUVWXYZ" = true then .str "great" else if inStr s "0123456789" = true then .str "figure" else if inStr s " -.,/" = true then .str "mark" else .non
theorem kind_w {Q:D → Sto → Prop} {L:Sto} (s:Str) (h:Q (kindD s) L):W2 (G_kind_of [.str s] L) Q:=by
 unfold G_kind_of
 refine w_run rfl ?_
 unfold kindD at h
 simp only [B_kind_of,c_SIGNS_BY_KIND]
 wtm_at "z"
 refine ws_loop_cons rfl ?_
 wtm_at "z"
 refine br_both (fun h1 => ?_) (fun h1 => ?_)
 ·rw [if_pos h1] at h; wtm_at "z"; exact ⟨rfl,List.prefix_refl _,h⟩
 rw [if_neg (by simp [h1])] at h
 wtm_at "z"
 refine ws_loop_cons rfl ?_
 wtm_at "z"
 refine br_both (fun h1 => ?_) (fun h1 => ?_)
 ·rw [if_pos h1] at h; wtm_at "z"; exact ⟨rfl,List.prefix_refl _,h⟩
 rw [if_neg (by simp [h1])] at h
 wtm_at "z"
 refine ws_loop_cons rfl ?_
 wtm_at "z"
 refine br_both (fun h1 => ?_) (fun h1 => ?_)
 ·rw [if_pos h1] at h; wtm_at "z"; exact ⟨rfl,List.prefix_refl _,h⟩
 rw [if_neg (by simp [h1])] at h
 wtm_at "z"
 refine ws_loop_cons rfl ?_
 wtm_at "z"
 refine br_both (fun h1 => ?_) (fun h1 => ?_)
 ·rw [if_pos h1] at h; wtm_at "z"; exact ⟨rfl,List.prefix_refl _,h⟩
 rw [if_neg (by simp [h1])] at h
 wtm_at "z"
 refine ws_loop_nil rfl ?_
 wtm_at "z"
 exact ⟨rfl,List.prefix_refl _,h⟩
noncomputable def txtB (t:Str):Bool:=decide (t.length ≤ 24) && t.cps.toList.all fun c => !isNon (kindD ⟨#[c]⟩)
theorem blsD_map (bs:List Bool):blsD (bs.map D.bl) = some bs:=by
 induction bs with
 | nil => rfl
 | cons y r ih => simp [blsD,ih]
theorem is_text_w {Q:D → Sto → Prop} {L:Sto} (t:Str) (ht:t.length ≤ 16777216) (h:Q (.bl (txtB t)) L):W2 (G_is_text [.str t] L) Q:=by
 unfold G_is_text
 refine w_run rfl ?_
 simp only [B_is_text,c_LONGEST_TEXT]
 wtm_at "z"
 refine br_dec (fun hl => ?_) (fun hl => ?_)
 ·wtm_at "z"
  refine ⟨rfl,List.prefix_refl _,?_⟩
  have e:txtB t = false:=by unfold txtB; rw [decide_eq_false (by omega)]; rfl
  rw [e] at h; exact h
 ·wtm_at "z"
  refine wc_pure (fun ρ => ∃ a,ρ = [a]) (fun x => match x with | .str s => some (.bl (!isNon (kindD s))) | _ => none) _ _ ⟨none,rfl⟩ (by simp only [sgs,List.length_map]; exact ht) ?_ ?_
  ·rintro x hx ρ ⟨a,rfl⟩
   unfold sgs at hx
   rw [List.mem_map] at hx
   obtain ⟨c,_,rfl⟩:=hx
   wtm_at "z"
   refine ⟨⟨_,rfl⟩,fun acc => ?_⟩
   wtm_at "z"
   refine ⟨rfl,?_⟩
   wtm_at "z"
   refine kind_w _ ?_
   wtm_at "z"
   exact ⟨rfl,rfl⟩
  ·have e:List.filterMap (fun x => match x with | D.str s => some (D.bl (!isNon (kindD s))) | _ => none) (sgs t) = (t.cps.toList.map fun c => !isNon (kindD ⟨#[c]⟩)).map D.bl:=by
    unfold sgs
    rw [List.filterMap_map,List.map_map,← List.filterMap_eq_map]
    rfl
   rw [e]
   wtm_at "z"
   refine g_all get_last (blsD_map _) ?_
   refine ⟨rfl,List.prefix_append _ _,?_⟩
   have e:txtB t = (t.cps.toList.map fun c => !isNon (kindD ⟨#[c]⟩)).all id:=by
    unfold txtB
    rw [decide_eq_true (by omega),Bool.true_and,List.all_map]; rfl
   rw [e] at h; exact h
theorem is_text_no {Q:D → Sto → Prop} {L:Sto} {d:D} {ty:String} (e:tyName d L = some ty) (n:instOf ty "str" = false) (h:Q (.bl false) L):W2 (G_is_text [d] L) Q:=by
 unfold G_is_text
 refine w_run rfl ?_
 simp only [B_is_text,c_LONGEST_TEXT]
 wtm_at "z"
 refine g_inst rfl e n ?_
 wtm_at "z"
 exact ⟨rfl,List.prefix_refl _,h⟩
theorem kinds_some:∀ c ∈ codes,isNon (kindD ⟨#[c]⟩) = false:=by decide +kernel
theorem txtB_ok {t:Str} (h:SgOk t) (hl:t.length ≤ 24):txtB t = true:=by
 unfold txtB
 rw [decide_eq_true hl,Bool.true_and,List.all_eq_true]
 intro c hc
 rw [kinds_some c (h c hc)]; rfl
end L3
set_option maxHeartbeats 4000000
--BEGIN WPT
--END WPT
namespace L3
open PySem PySem.Spec PyProof.Rows L2
mutual
noncomputable def tyB (L:Sto):D → Bool
 | .tup xs => tyBL L xs && decide (xs.length ≤ 16777216)
 | .ref k => match L[k]? with | some (.lst _) => true | some (.dk _) => true | _ => false
 | .ty _ => false
 | .str t => decide (t.length ≤ 16777216)
 | _ => true
noncomputable def tyBL (L:Sto):List D → Bool
 | [] => true
 | x :: xs => tyB L x && tyBL L xs
end
theorem tyB_name {L:Sto} {d:D} (h:tyB L d = true):∃ t,tyName d L = some t:=by
 cases d with
 | ref k =>
  simp only [tyB] at h
  cases e:L[k]? with
  | none => simp [e] at h
  | some o =>
   cases o with
   | lst xs => exact ⟨"list",by simp [tyName,e]⟩
   | dk xs => exact ⟨"dict",by simp [tyName,e]⟩
   | ins c fs => simp [e] at h
   | exn c => simp [e] at h
 | ty b => simp [tyB] at h
 | non => exact ⟨_,rfl⟩
 | bl b => exact ⟨_,rfl⟩
 | int b => exact ⟨_,rfl⟩
 | str b => exact ⟨_,rfl⟩
 | tup b => exact ⟨_,rfl⟩
 | fz b => exact ⟨_,rfl⟩
theorem tyBL_mem {L:Sto}:∀ {xs:List D},tyBL L xs = true → ∀ x ∈ xs,tyB L x = true
 | [],_,_,h => (nomatch h)
 | y :: ys,h,x,hx => by
  rw [tyBL,Bool.and_eq_true] at h
  rcases List.mem_cons.mp hx with rfl | hx
  ·exact h.1
  ·exact tyBL_mem h.2 x hx
theorem tyB_tup {L:Sto} {xs:List D} (h:tyB L (.tup xs) = true):(∀ x ∈ xs,tyB L x = true) ∧ xs.length ≤ 16777216:=by
 rw [tyB,Bool.and_eq_true] at h
 exact ⟨tyBL_mem h.1,of_decide_eq_true h.2⟩
mutual
theorem tyB_app {L M:Sto}:∀ {d:D},tyB L d = true → tyB (L ++ M) d = true
 | .tup xs,h => by
  rw [tyB,Bool.and_eq_true] at h ⊢
  exact ⟨tyBL_app h.1,h.2⟩
 | .ref k,h => by
  simp only [tyB] at h ⊢
  cases e:L[k]? with
  | none => simp [e] at h
  | some o =>
   rw [get_app e]
   rw [e] at h
   exact h
 | .ty _,h => by simp [tyB] at h
 | .str _,h => by rw [tyB] at h ⊢; exact h
 | .non,_ => by rw [tyB]; all_goals simp
 | .bl _,_ => by rw [tyB]; all_goals simp
 | .int _,_ => by rw [tyB]; all_goals simp
 | .fz _,_ => by rw [tyB]; all_goals simp
theorem tyBL_app {L M:Sto}:∀ {xs:List D},tyBL L xs = true → tyBL (L ++ M) xs = true
 | [],_ => by rw [tyBL]
 | x :: xs,h => by
  rw [tyBL,Bool.and_eq_true] at h ⊢
  exact ⟨tyB_app h.1,tyBL_app h.2⟩
end
theorem tyN_ref {L:Sto} {k:Nat} {t:String} (h:tyName (.ref k) L = some t):t = "list" ∨ t = "dict":=by
 simp only [tyName] at h
 cases e:L[k]? with
 | none => simp [e] at h
 | some o =>
  cases o with
  | lst xs => simp [e] at h; exact .inl h.symm
  | dk xs => simp [e] at h; exact .inr h.symm
  | ins c fs => simp [e] at h
  | exn c => simp [e] at h
theorem not_str {L:Sto} {d:D} {t:String} (e:tyName d L = some t) (h:∀ s,d ≠ .str s):instOf t "str" = false:=by
 cases d with
 | str s => exact absurd rfl (h s)
 | ref k => rcases tyN_ref e with rfl | rfl <;> rfl
 | ty b => cases e
 | non => cases e; rfl
 | bl b => cases e; rfl
 | int b => cases e; rfl
 | tup b => cases e; rfl
 | fz b => cases e; rfl
theorem not_tup {L:Sto} {d:D} {t:String} (e:tyName d L = some t) (h:∀ s,d ≠ .tup s):instOf t "tuple" = false:=by
 cases d with
 | tup s => exact absurd rfl (h s)
 | ref k => rcases tyN_ref e with rfl | rfl <;> rfl
 | ty b => cases e
 | non => cases e; rfl
 | bl b => cases e; rfl
 | int b => cases e; rfl
 | str b => cases e; rfl
 | fz b => cases e; rfl
theorem is_strD (d:D):(∃ s,d = .str s) ∨ ∀ s,d ≠ .str s:=by
 cases d <;> first | exact .inl ⟨_,rfl⟩ | exact .inr fun s h => nomatch h
theorem is_tupD (d:D):(∃ s,d = .tup s) ∨ ∀ s,d ≠ .tup s:=by
 cases d <;> first | exact .inl ⟨_,rfl⟩ | exact .inr fun s h => nomatch h
noncomputable def txtD:D → Bool | .str t => txtB t | _ => false
theorem is_textD_w {Q:D → Sto → Prop} {L:Sto} {d:D} (hd:tyB L d = true) (h:Q (.bl (txtD d)) L):W2 (G_is_text [d] L) Q:=by
 rcases is_strD d with ⟨s,rfl⟩ | hn
 ·rw [tyB] at hd
  exact is_text_w s (of_decide_eq_true hd) h
 ·obtain ⟨t,e⟩:=tyB_name hd
  have e2:txtD d = false:=by cases d <;> first | rfl | exact absurd rfl (hn _)
  rw [e2] at h
  exact is_text_no e (not_str e hn) h
noncomputable def tupB (n:Nat):D → Bool | .tup xs => decide (xs.length = n) | _ => false
theorem tup_of_w {Q:D → Sto → Prop} {L:Sto} {d:D} {t:String} (n:Nat) (e:tyName d L = some t) (h:Q (.bl (tupB n d)) L):W2 (G_is_tuple_of [.int (n:Int),d] L) Q:=by
 unfold G_is_tuple_of
 refine w_run rfl ?_
 unfold B_is_tuple_of
 wtm_at "z"
 rcases is_tupD d with ⟨xs,rfl⟩ | hn
 ·refine g_instT rfl rfl rfl ?_
  wtm_at "z"
  have:decide ((xs.length:Int) = (n:Int)) = decide (xs.length = n):=dec_congr (by omega)
  rw [this]
  exact ⟨rfl,List.prefix_refl _,h⟩
 ·refine g_instF rfl e (not_tup e hn) ?_
  wtm_at "z"
  have e2:tupB n d = false:=by cases d <;> first | rfl | exact absurd rfl (hn _)
  rw [e2] at h
  exact ⟨rfl,List.prefix_refl _,h⟩
noncomputable def wordB:D → Bool | .str t => txtB t && (decide (1 ≤ t.length) && decide (t.length ≤ 8)) | _ => false
theorem is_word_w {Q:D → Sto → Prop} {L:Sto} {d:D} (hd:tyB L d = true) (h:Q (.bl (wordB d)) L):W2 (G_is_word [d] L) Q:=by
 unfold G_is_word
 refine w_run rfl ?_
 simp only [B_is_word,c_LONGEST_WORD]
 wtm_at "z"
 refine is_textD_w hd ?_
 wtm_at "z"
 rcases is_strD d with ⟨s,rfl⟩ | hn
 ·unfold wordB at h
  dsimp only at h
  simp only [txtD]
  cases ht:txtB s with
  | false => rw [ht] at h; wtm_at "z"; exact ⟨rfl,List.prefix_refl _,h⟩
  | true =>
   rw [ht,Bool.true_and] at h
   wtm_at "z"
   refine br_dec (fun h1 => ?_) (fun h1 => ?_)
   ·rw [decide_eq_true (by omega),Bool.true_and] at h
    wtm_at "z"
    have:decide ((s.length:Int) ≤ 8) = decide (s.length ≤ 8):=dec_congr (by omega)
    rw [this]
    exact ⟨rfl,List.prefix_refl _,h⟩
   ·rw [decide_eq_false (by omega),Bool.false_and] at h
    exact ⟨rfl,List.prefix_refl _,h⟩
 ·have e2:txtD d = false:=by cases d <;> first | rfl | exact absurd rfl (hn _)
  have e3:wordB d = false:=by cases d <;> first | rfl | exact absurd rfl (hn _)
  rw [e3] at h
  rw [e2]
  wtm_at "z"
  exact ⟨rfl,List.prefix_refl _,h⟩
noncomputable def placeB:D → Bool | .tup [a,b,c] => inL a kindsL && (nthB b && inL c edgesL) | _ => false
theorem is_place_w {Q:D → Sto → Prop} {L:Sto} {d:D} (hd:tyB L d = true) (h:Q (.bl (placeB d)) L):W2 (G_is_place [d] L) Q:=by
 obtain ⟨t,e⟩:=tyB_name hd
 rcases is_tupD d with ⟨xs,rfl⟩ | hn
 ·obtain ⟨hm,_⟩:=tyB_tup hd
  clear hd
  match xs,hm,h with
  | [a,b,c],hm,h =>
   obtain ⟨_,ea⟩:=tyB_name (hm a (by simp))
   obtain ⟨_,eb⟩:=tyB_name (hm b (by simp))
   obtain ⟨_,ec⟩:=tyB_name (hm c (by simp))
   exact place3_w ea eb ec h
  | [],_,h => exact placeLen_w (by simp) h
  | [_],_,h => exact placeLen_w (by simp) h
  | [_,_],_,h => exact placeLen_w (by simp) h
  | _ :: _ :: _ :: _ :: _,_,h => exact placeLen_w (by simp) h
 ·refine placeOth_w e (not_tup e hn) ?_
  cases d <;> first | exact h | exact absurd rfl (hn _)
noncomputable def wpieceB:D → Bool | .tup [a,b] => inL a [.str "word"] && wordB b | _ => false
noncomputable def deedsL:List D:=[.str "copy",.str "raise",.str "sink"]
noncomputable def strB:D → Bool | .tup [a,b,c] => inL a deedsL && (placeB b && placeB c) | _ => false
theorem tup2 {xs:List D}:(∃ a b,xs = [a,b]) ∨ xs.length ≠ 2:=by
 match xs with
 | [a,b] => exact .inl ⟨a,b,rfl⟩
 | [] => exact .inr (by simp)
 | [_] => exact .inr (by simp)
 | _ :: _ :: _ :: _ => exact .inr (by simp)
theorem tup3 {xs:List D}:(∃ a b c,xs = [a,b,c]) ∨ xs.length ≠ 3:=by
 match xs with
 | [a,b,c] => exact .inl ⟨a,b,c,rfl⟩
 | [] => exact .inr (by simp)
 | [_] => exact .inr (by simp)
 | [_,_] => exact .inr (by simp)
 | _ :: _ :: _ :: _ :: _ => exact .inr (by simp)
theorem tup4 {xs:List D}:(∃ a b c d,xs = [a,b,c,d]) ∨ xs.length ≠ 4:=by
 match xs with
 | [a,b,c,d] => exact .inl ⟨a,b,c,d,rfl⟩
 | [] => exact .inr (by simp)
 | [_] => exact .inr (by simp)
 | [_,_] => exact .inr (by simp)
 | [_,_,_] => exact .inr (by simp)
 | _ :: _ :: _ :: _ :: _ :: _ => exact .inr (by simp)
theorem tupB_2 (d:D):(∃ a b,d = .tup [a,b]) ∨ tupB 2 d = false:=by
 rcases is_tupD d with ⟨xs,rfl⟩ | hn
 ·rcases tup2 (xs:=xs) with ⟨a,b,rfl⟩ | h
  ·exact .inl ⟨a,b,rfl⟩
  ·exact .inr (decide_eq_false h)
 ·exact .inr (by cases d <;> first | rfl | exact absurd rfl (hn _))
theorem tupB_3 (d:D):(∃ a b c,d = .tup [a,b,c]) ∨ tupB 3 d = false:=by
 rcases is_tupD d with ⟨xs,rfl⟩ | hn
 ·rcases tup3 (xs:=xs) with ⟨a,b,c,rfl⟩ | h
  ·exact .inl ⟨a,b,c,rfl⟩
  ·exact .inr (decide_eq_false h)
 ·exact .inr (by cases d <;> first | rfl | exact absurd rfl (hn _))
theorem tupB_4 (d:D):(∃ a b c e,d = .tup [a,b,c,e]) ∨ tupB 4 d = false:=by
 rcases is_tupD d with ⟨xs,rfl⟩ | hn
 ·rcases tup4 (xs:=xs) with ⟨a,b,c,e,rfl⟩ | h
  ·exact .inl ⟨a,b,c,e,rfl⟩
  ·exact .inr (decide_eq_false h)
 ·exact .inr (by cases d <;> first | rfl | exact absurd rfl (hn _))
theorem wpieceB_no {d:D} (h:tupB 2 d = false):wpieceB d = false:=by
 unfold wpieceB
 split
 ·simp [tupB] at h
 ·rfl
theorem strB_no {d:D} (h:tupB 3 d = false):strB d = false:=by
 unfold strB
 split
 ·simp [tupB] at h
 ·rfl
theorem word_piece_w {Q:D → Sto → Prop} {L:Sto} {d:D} (hd:tyB L d = true) (h:Q (.bl (wpieceB d)) L):W2 (G_is_word_piece [d] L) Q:=by
 obtain ⟨t,e⟩:=tyB_name hd
 unfold G_is_word_piece
 refine w_run rfl ?_
 unfold B_is_word_piece
 wtm_at "z"
 refine tup_of_w 2 e ?_
 rcases tupB_2 d with ⟨a,b,rfl⟩ | h2
 ·have hm:=(tyB_tup hd).1
  obtain ⟨_,ea⟩:=tyB_name (hm a (by simp))
  have hb:=hm b (by simp)
  rw [show tupB 2 (.tup [a,b]) = true from rfl]
  unfold wpieceB at h
  dsimp only at h
  wtm_at "z"
  refine among_w ea rfl ?_
  cases h1:inL a [.str "word"] with
  | false => rw [h1] at h; wtm_at "z"; exact ⟨rfl,List.prefix_refl _,h⟩
  | true =>
   rw [h1,Bool.true_and] at h
   wtm_at "z"
   refine is_word_w hb ?_
   exact ⟨rfl,List.prefix_refl _,h⟩
 ·rw [wpieceB_no h2] at h
  rw [h2]
  wtm_at "z"
  exact ⟨rfl,List.prefix_refl _,h⟩
theorem stretchB_w {Q:D → Sto → Prop} {L:Sto} {d:D} (hd:tyB L d = true) (h:Q (.bl (strB d)) L):W2 (G_is_stretch [d] L) Q:=by
 obtain ⟨t,e⟩:=tyB_name hd
 unfold G_is_stretch
 refine w_run rfl ?_
 simp only [B_is_stretch,c_DEEDS]
 wtm_at "z"
 refine tup_of_w 3 e ?_
 rcases tupB_3 d with ⟨a,b,c,rfl⟩ | h2
 ·have hm:=(tyB_tup hd).1
  obtain ⟨_,ea⟩:=tyB_name (hm a (by simp))
  have hb:=hm b (by simp)
  have hc:=hm c (by simp)
  rw [show tupB 3 (.tup [a,b,c]) = true from rfl]
  unfold strB deedsL at h
  dsimp only at h
  wtm_at "z"
  refine among_w ea rfl ?_
  cases h1:inL a [.str "copy",.str "raise",.str "sink"] with
  | false => rw [h1] at h; wtm_at "z"; exact ⟨rfl,List.prefix_refl _,h⟩
  | true =>
   rw [h1,Bool.true_and] at h
   wtm_at "z"
   refine is_place_w hb ?_
   cases h3:placeB b with
   | false => rw [h3] at h; wtm_at "z"; exact ⟨rfl,List.prefix_refl _,h⟩
   | true =>
    rw [h3,Bool.true_and] at h
    wtm_at "z"
    refine is_place_w hc ?_
    exact ⟨rfl,List.prefix_refl _,h⟩
 ·rw [strB_no h2] at h
  rw [h2]
  wtm_at "z"
  exact ⟨rfl,List.prefix_refl _,h⟩
noncomputable def pieceB (d:D):Bool:=wpieceB d || strB d
noncomputable def rowB:D → Bool | .tup ps => (decide (1 ≤ ps.length) && decide (ps.length ≤ 3)) && ps.all pieceB | _ => false
theorem len_in {n:Nat}:inD (.int (n:Int)) [.int 1,.int 2,.int 3] = (decide (1 ≤ n) && decide (n ≤ 3)):=by
 by_cases h1:n = 1
 ·subst h1; decide
 by_cases h2:n = 2
 ·subst h2; decide
 by_cases h3:n = 3
 ·subst h3; decide
 have:(decide (1 ≤ n) && decide (n ≤ 3)) = false:=by
  rw [Bool.and_eq_false_iff,decide_eq_false_iff_not,decide_eq_false_iff_not]
  omega
 rw [this]
 have g1:¬ ((n:Int) = 1):=by omega
 have g2:¬ ((n:Int) = 2):=by omega
 have g3:¬ ((n:Int) = 3):=by omega
 have f1:¬ ((1:Int) = n):=by omega
 have f2:¬ ((2:Int) = n):=by omega
 have f3:¬ ((3:Int) = n):=by omega
 simp [inD,eqP,toV,eqV,f1,f2,f3]
theorem is_row_w {Q:D → Sto → Prop} {L:Sto} {d:D} (hd:tyB L d = true) (h:Q (.bl (rowB d)) L):W2 (G_is_row [d] L) Q:=by
 obtain ⟨t,e⟩:=tyB_name hd
 unfold G_is_row
 refine w_run rfl ?_
 simp only [B_is_row,c_ROW_LENGTHS]
 wtm_at "z"
 rcases is_tupD d with ⟨xs,rfl⟩ | hn
 ·obtain ⟨hm,hl⟩:=tyB_tup hd
  unfold rowB at h
  dsimp only at h
  refine g_instT rfl rfl rfl ?_
  wtm_at "z"
  refine g_notinT rfl ?_
  rw [len_in]
  cases hln:(decide (1 ≤ xs.length) && decide (xs.length ≤ 3)) with
  | false =>
   rw [hln] at h
   wtm_at "z"
   exact ⟨rfl,List.prefix_refl _,h⟩
  | true =>
   rw [hln,Bool.true_and] at h
   wtm_at "z"
   refine wc_pure (fun ρ => ∃ a,ρ = [a]) (fun x => some (.bl (pieceB x))) _ _ ⟨none,rfl⟩ hl ?_ ?_
   ·rintro x hx ρ ⟨a,rfl⟩
    have hx':=hm x hx
    wtm_at "z"
    refine ⟨⟨_,rfl⟩,fun acc => ?_⟩
    wtm_at "z"
    refine ⟨rfl,?_⟩
    wtm_at "z"
    refine word_piece_w (tyB_app hx') ?_
    unfold pieceB
    cases wpieceB x with
    | true => wtm_at "z"; exact ⟨rfl,rfl⟩
    | false =>
     wtm_at "z"
     refine stretchB_w (tyB_app hx') ?_
     exact ⟨rfl,by simp⟩
   ·have e:List.filterMap (fun x => some (D.bl (pieceB x))) xs = (xs.map pieceB).map D.bl:=by
     rw [List.map_map,← List.filterMap_eq_map]
     rfl
    rw [e]
    wtm_at "z"
    refine g_all get_last (blsD_map _) ?_
    refine ⟨rfl,List.prefix_append _ _,?_⟩
    have e:xs.all pieceB = (xs.map pieceB).all id:=by rw [List.all_map]; rfl
    rw [e] at h; exact h
 ·refine g_instF rfl e (not_tup e hn) ?_
  wtm_at "z"
  have e2:rowB d = false:=by cases d <;> first | rfl | exact absurd rfl (hn _)
  rw [e2] at h
  exact ⟨rfl,List.prefix_refl _,h⟩
noncomputable def looksL:List D:=[.str "has",.str "begins"]
noncomputable def lookB:D → Bool | .tup [a,b] => inL a looksL && inL b kindsL | _ => false
theorem lookB_no {d:D} (h:tupB 2 d = false):lookB d = false:=by
 unfold lookB
 split
 ·simp [tupB] at h
 ·rfl
theorem is_look_w {Q:D → Sto → Prop} {L:Sto} {d:D} (hd:tyB L d = true) (h:Q (.bl (lookB d)) L):W2 (G_is_look [d] L) Q:=by
 obtain ⟨t,e⟩:=tyB_name hd
 unfold G_is_look
 refine w_run rfl ?_
 simp only [B_is_look,c_KINDS]
 wtm_at "z"
 refine tup_of_w 2 e ?_
 rcases tupB_2 d with ⟨a,b,rfl⟩ | h2
 ·have hm:=(tyB_tup hd).1
  obtain ⟨_,ea⟩:=tyB_name (hm a (by simp))
  obtain ⟨_,eb⟩:=tyB_name (hm b (by simp))
  rw [show tupB 2 (.tup [a,b]) = true from rfl]
  unfold lookB looksL kindsL at h
  dsimp only at h
  wtm_at "z"
  refine among_w ea rfl ?_
  cases h1:inL a [.str "has",.str "begins"] with
  | false => rw [h1] at h; wtm_at "z"; exact ⟨rfl,List.prefix_refl _,h⟩
  | true =>
   rw [h1,Bool.true_and] at h
   wtm_at "z"
   refine among_w eb rfl ?_
   exact ⟨rfl,List.prefix_refl _,h⟩
 ·rw [lookB_no h2] at h
  rw [h2]
  wtm_at "z"
  exact ⟨rfl,List.prefix_refl _,h⟩
noncomputable def progB:D → Bool
 | .tup [a,b] => inL a [.str "do"] && rowB b
 | .tup [a,b,c,d] => inL a [.str "if"] && (lookB b && (rowB c && rowB d))
 | _ => false
theorem progB_no {d:D} (h:tupB 2 d = false) (h':tupB 4 d = false):progB d = false:=by
 unfold progB
 split
 ·simp [tupB] at h
 ·simp [tupB] at h'
 ·rfl
theorem is_program_w {Q:D → Sto → Prop} {L:Sto} {d:D} (hd:tyB L d = true) (h:Q (.bl (progB d)) L):W2 (G_is_program [d] L) Q:=by
 obtain ⟨t,e⟩:=tyB_name hd
 unfold G_is_program
 refine w_run rfl ?_
 unfold B_is_program
 wtm_at "z"
 refine tup_of_w 2 e ?_
 rcases tupB_2 d with ⟨a,b,rfl⟩ | h2
 ·have hm:=(tyB_tup hd).1
  obtain ⟨_,ea⟩:=tyB_name (hm a (by simp))
  have hb:=hm b (by simp)
  rw [show tupB 2 (.tup [a,b]) = true from rfl]
  unfold progB at h
  dsimp only at h
  wtm_at "z"
  refine among_w ea rfl ?_
  cases h1:inL a [.str "do"] with
  | false => rw [h1] at h; wtm_at "z"; exact ⟨rfl,List.prefix_refl _,h⟩
  | true =>
   rw [h1,Bool.true_and] at h
   wtm_at "z"
   refine is_row_w hb ?_
   exact ⟨rfl,List.prefix_refl _,h⟩
 ·rw [h2]
  wtm_at "z"
  refine tup_of_w 4 e ?_
  rcases tupB_4 d with ⟨a,b,c,x,rfl⟩ | h4
  ·have hm:=(tyB_tup hd).1
   obtain ⟨_,ea⟩:=tyB_name (hm a (by simp))
   have hb:=hm b (by simp)
   have hc:=hm c (by simp)
   have hx:=hm x (by simp)
   rw [show tupB 4 (.tup [a,b,c,x]) = true from rfl]
   unfold progB at h
   dsimp only at h
   wtm_at "z"
   refine among_w ea rfl ?_
   cases h1:inL a [.str "if"] with
   | false => rw [h1] at h; wtm_at "z"; exact ⟨rfl,List.prefix_refl _,h⟩
   | true =>
    rw [h1,Bool.true_and] at h
    wtm_at "z"
    refine is_look_w hb ?_
    cases h3:lookB b with
    | false => rw [h3] at h; wtm_at "z"; exact ⟨rfl,List.prefix_refl _,h⟩
    | true =>
     rw [h3,Bool.true_and] at h
     wtm_at "z"
     refine is_row_w hc ?_
     cases h5:rowB c with
     | false => rw [h5] at h; wtm_at "z"; exact ⟨rfl,List.prefix_refl _,h⟩
     | true =>
      rw [h5,Bool.true_and] at h
      wtm_at "z"
      refine is_row_w hx ?_
      exact ⟨rfl,List.prefix_refl _,h⟩
  ·rw [progB_no h2 h4] at h
   rw [h4]
   wtm_at "z"
   exact ⟨rfl,List.prefix_refl _,h⟩
theorem check_w {Q:D → Sto → Prop} {L:Sto} {d:D} (hd:tyB L d = true) (hp:progB d = true) (h:Q (.bl true) L):W2 (G_check [d] L) Q:=by
 unfold G_check
 refine w_run rfl ?_
 unfold B_check
 wtm_at "z"
 refine is_program_w hd ?_
 rw [hp]
 wtm_at "z"
 exact ⟨rfl,List.prefix_refl _,h⟩
theorem kind_len {k:Str} (h:k ∈ ([("small":Str),"great","figure","mark","any"]:List Str)):k.length ≤ 16777216:=by
 simp only [List.mem_cons,List.not_mem_nil,or_false] at h
 rcases h with rfl | rfl | rfl | rfl | rfl <;> decide +kernel
theorem tyB_place {L:Sto} {d:D} (h:IsPlace d):tyB L d = true:=by
 obtain ⟨kind,n,e,rfl,hn,he,hk⟩:=h
 have h1:=kind_len hk
 have h2:e.length ≤ 16777216:=by rcases he with rfl | rfl <;> decide +kernel
 simp [tyB,tyBL,h1,h2]
theorem tyB_piece {L:Sto} {d:D} (h:IsPiece d):tyB L d = true:=by
 rcases h with ⟨w,rfl,_,h2,_⟩ | ⟨deed,p,q,rfl,hd,hp,hq⟩
 ·have h1:w.length ≤ 16777216:=by omega
  have h3:("word":Str).length ≤ 16777216:=by decide +kernel
  simp [tyB,tyBL,h1,h3]
 ·have h1:deed.length ≤ 16777216:=by rcases hd with rfl | rfl | rfl <;> decide +kernel
  have h2:=tyB_place (L:=L) hp
  have h3:=tyB_place (L:=L) hq
  simp [tyB,tyBL,h1,h2,h3]
theorem tyBL_of {L:Sto}:∀ {xs:List D},(∀ x ∈ xs,tyB L x = true) → tyBL L xs = true
 | [],_ => by rw [tyBL]
 | x :: xs,h => by rw [tyBL,h x List.mem_cons_self,tyBL_of fun y hy => h y (List.mem_cons_of_mem _ hy)]; rfl
theorem tyB_row {L:Sto} {d:D} (h:IsRow d):tyB L d = true:=by
 obtain ⟨ps,rfl,hp,h0,h3⟩:=h
 rw [tyB,tyBL_of fun x hx => tyB_piece (hp x hx),decide_eq_true (by omega)]; rfl
theorem tyB_look {L:Sto} {d:D} (h:IsLook d):tyB L d = true:=by
 obtain ⟨w,k,rfl,hw,hk⟩:=h
 have h1:=kind_len hk
 have h2:w.length ≤ 16777216:=by rcases hw with rfl | rfl <;> decide +kernel
 simp [tyB,tyBL,h1,h2]
theorem tyB_prog {L:Sto} {d:D} (h:IsProg d):tyB L d = true:=by
 have e1:("do":Str).length ≤ 16777216:=by decide +kernel
 have e2:("if":Str).length ≤ 16777216:=by decide +kernel
 rcases h with ⟨r,rfl,hr⟩ | ⟨l,r,q,rfl,hl,hr,hq⟩
 ·have:=tyB_row (L:=L) hr
  simp [tyB,tyBL,e1,this]
 ·have h1:=tyB_row (L:=L) hr
  have h2:=tyB_row (L:=L) hq
  have h3:=tyB_look (L:=L) hl
  simp [tyB,tyBL,e2,h1,h2,h3]
theorem placeB_ok {d:D} (h:IsPlace d):placeB d = true:=by
 obtain ⟨kind,n,e,rfl,hn,he,hk⟩:=h
 unfold placeB
 dsimp only
 rw [kind_in hk,nth_in hn,edge_in he]; rfl
theorem wordB_ok {w:Str} (h:SgOk w) (h1:w.length ≤ 8) (h2:0 < w.length):wordB (.str w) = true:=by
 unfold wordB
 dsimp only
 rw [txtB_ok h (by omega),decide_eq_true (by omega),decide_eq_true h1]; rfl
theorem pieceB_ok {d:D} (h:IsPiece d):pieceB d = true:=by
 rcases h with ⟨w,rfl,h1,h2,h3⟩ | ⟨deed,p,q,rfl,hd,hp,hq⟩
 ·unfold pieceB wpieceB
  dsimp only
  rw [wordB_ok h1 h2 h3]
  rw [show inL (.str "word") [.str "word"] = true by decide +kernel]; rfl
 ·unfold pieceB strB
  dsimp only
  have:inL (.str deed) deedsL = true:=by rcases hd with rfl | rfl | rfl <;> decide +kernel
  rw [this,placeB_ok hp,placeB_ok hq]
  simp
theorem rowB_ok {d:D} (h:IsRow d):rowB d = true:=by
 obtain ⟨ps,rfl,hp,h0,h3⟩:=h
 unfold rowB
 dsimp only
 rw [decide_eq_true (by omega),decide_eq_true h3,Bool.true_and,Bool.true_and,List.all_eq_true]
 exact fun x hx => pieceB_ok (hp x hx)
theorem lookB_ok {d:D} (h:IsLook d):lookB d = true:=by
 obtain ⟨w,k,rfl,hw,hk⟩:=h
 unfold lookB
 dsimp only
 have:inL (.str w) looksL = true:=by rcases hw with rfl | rfl <;> decide +kernel
 rw [this,kind_in hk]; rfl
theorem progB_ok {d:D} (h:IsProg d):progB d = true:=by
 rcases h with ⟨r,rfl,hr⟩ | ⟨l,r,q,rfl,hl,hr,hq⟩
 ·unfold progB
  dsimp only
  rw [show inL (.str "do") [.str "do"] = true by decide +kernel,rowB_ok hr]; rfl
 ·unfold progB
  dsimp only
  rw [show inL (.str "if") [.str "if"] = true by decide +kernel,lookB_ok hl,rowB_ok hr,rowB_ok hq]; rfl
end L3
set_option maxHeartbeats 4000000
--BEGIN WPT
--END WPT
namespace L3
open PySem PySem.Spec PyProof.Rows L2
noncomputable abbrev bk1:Str:=⟨#[32]⟩
noncomputable def jB (ws:List Str):Str:=Str.join bk1 ws
theorem tjoin (x:Str) (ys:List Str):Txt.join x ys = Str.join x ys:=StrLaws.glued_eq_join x ys
theorem jn_cons {s x:Str} {r:List Str} (h:r ≠ []):Str.join s (x :: r) = x ++ s ++ Str.join s r:=by
 cases r with
 | nil => exact absurd rfl h
 | cons y r => rfl
theorem jn_app {s:Str}:∀ {xs ys:List Str},xs ≠ [] → ys ≠ [] → Str.join s (xs ++ ys) = Str.join s xs ++ s ++ Str.join s ys
 | [],_,h,_ => absurd rfl h
 | [x],ys,_,hy => by rw [List.singleton_append,jn_cons hy]; rfl
 | x :: y :: r,ys,_,hy => by
  rw [List.cons_append,jn_cons (by simp),jn_app (xs:=y :: r) (by simp) hy,jn_cons (r:=y :: r) (by simp)]
  simp only [Str.append_assoc]
theorem jB_app {xs ys:List Str} (hx:xs ≠ []) (hy:ys ≠ []):jB (xs ++ ys) = jB xs ++ bk1 ++ jB ys:=jn_app hx hy
theorem jB_one (x:Str):jB [x] = x:=rfl
theorem jB_cons {x:Str} {r:List Str} (h:r ≠ []):jB (x :: r) = x ++ bk1 ++ jB r:=jn_cons h
noncomputable def Free (c:Nat) (x:Str):Prop:=c ∉ x.cps.toList
theorem join_cps {c:Nat} {x:Str} {r:List Str} (h:r ≠ []):(Str.join ⟨#[c]⟩ (x :: r)).cps.toList = x.cps.toList ++ c :: (Str.join ⟨#[c]⟩ r).cps.toList:=by
 rw [jn_cons h,app_toList,app_toList]
 simp
theorem app_inj {c:Nat}:∀ {a b x y:List Nat},c ∉ a → c ∉ b → a ++ c :: x = b ++ c :: y → a = b ∧ x = y
 | [],[],x,y,_,_,h => by simpa using h
 | [],q :: b,x,y,_,hb,h => by
  simp at h
  exact absurd (by rw [h.1]; simp) hb
 | p :: a,[],x,y,ha,_,h => by
  simp at h
  exact absurd (by rw [← h.1]; simp) ha
 | p :: a,q :: b,x,y,ha,hb,h => by
  simp only [List.cons_append,List.cons.injEq] at h
  obtain ⟨h1,h2⟩:=app_inj (fun z => ha (List.mem_cons_of_mem _ z)) (fun z => hb (List.mem_cons_of_mem _ z)) h.2
  exact ⟨by rw [h.1,h1],h2⟩
theorem str_ext {a b:Str} (h:a.cps.toList = b.cps.toList):a = b:=by
 obtain ⟨x⟩:=a
 obtain ⟨y⟩:=b
 have:x = y:=Array.toList_inj.mp h
 rw [this]
theorem join_inj {c:Nat}:∀ {as bs:List Str},as ≠ [] → bs ≠ [] → (∀ a ∈ as,Free c a) → (∀ b ∈ bs,Free c b) → Str.join ⟨#[c]⟩ as = Str.join ⟨#[c]⟩ bs → as = bs
 | [],_,h,_,_,_,_ => absurd rfl h
 | _,[],_,h,_,_,_ => absurd rfl h
 | [a],[b],_,_,_,_,h => by rw [show a = b from h]
 | [a],b :: b2 :: r,_,_,ha,_,h => by
  have e:(Str.join ⟨#[c]⟩ [a]).cps.toList = (Str.join ⟨#[c]⟩ (b :: b2 :: r)).cps.toList:=congrArg (fun z:Str => z.cps.toList) h
  rw [join_cps (x:=b) (by simp)] at e
  exact absurd (show c ∈ a.cps.toList by rw [show a.cps.toList = (Str.join ⟨#[c]⟩ [a]).cps.toList from rfl,e]; simp) (ha a List.mem_cons_self)
 | a :: a2 :: r,[b],_,_,_,hb,h => by
  have e:(Str.join ⟨#[c]⟩ (a :: a2 :: r)).cps.toList = (Str.join ⟨#[c]⟩ [b]).cps.toList:=congrArg (fun z:Str => z.cps.toList) h
  rw [join_cps (x:=a) (by simp)] at e
  exact absurd (show c ∈ b.cps.toList by rw [show b.cps.toList = (Str.join ⟨#[c]⟩ [b]).cps.toList from rfl,← e]; simp) (hb b List.mem_cons_self)
 | a :: a2 :: r,b :: b2 :: q,_,_,ha,hb,h => by
  have e:(Str.join ⟨#[c]⟩ (a :: a2 :: r)).cps.toList = (Str.join ⟨#[c]⟩ (b :: b2 :: q)).cps.toList:=congrArg (fun z:Str => z.cps.toList) h
  rw [join_cps (x:=a) (by simp),join_cps (x:=b) (by simp)] at e
  obtain ⟨h1,h2⟩:=app_inj (ha a List.mem_cons_self) (hb b List.mem_cons_self) e
  rw [str_ext h1,join_inj (as:=a2 :: r) (bs:=b2 :: q) (by simp) (by simp) (fun z hz => ha z (List.mem_cons_of_mem _ hz)) (fun z hz => hb z (List.mem_cons_of_mem _ hz)) (str_ext h2)]
theorem split_ne (x:Str) (c:Nat):Txt.split x ⟨#[c]⟩ ≠ []:=fun h => by
 have:=StrLaws.join_split x ⟨#[c]⟩
 rw [h] at this
 have hx:x = ⟨#[]⟩:=this.symm
 rw [hx] at h
 unfold Txt.split at h
 rw [if_pos (by rfl)] at h
 cases h
theorem split_join {c:Nat} {ws:List Str} (h:ws ≠ []) (hf:∀ w ∈ ws,Free c w):Txt.split (Str.join ⟨#[c]⟩ ws) ⟨#[c]⟩ = ws :=
 join_inj (split_ne _ c) h (fun p hp => StrLaws.split_free _ c p hp) hf (StrLaws.join_split _ _)
theorem join_free {c d:Nat} (hcd:c ≠ d):∀ {ws:List Str},(∀ w ∈ ws,Free c w) → Free c (Str.join ⟨#[d]⟩ ws)
 | [],_ => fun h => by
  have:c ∈ (Str.empty).cps.toList:=h
  simp [Str.empty] at this
 | [w],h => h w List.mem_cons_self
 | w :: v :: r,h => fun hc => by
  rw [join_cps (by simp)] at hc
  rcases List.mem_append.mp hc with hc | hc
  ·exact h w List.mem_cons_self hc
  ·rcases List.mem_cons.mp hc with hc | hc
   ·exact hcd hc
   ·exact join_free hcd (ws:=v :: r) (fun z hz => h z (List.mem_cons_of_mem _ hz)) hc
theorem repl_free {x:Str} {c d:Nat} (hcd:c ≠ d):Free c (Txt.replace x ⟨#[c]⟩ ⟨#[d]⟩):=by
 rw [StrLaws.replace_one]
 exact join_free hcd fun p hp => StrLaws.split_free x c p hp
theorem repl_back {x:Str} {c d:Nat} (hd:Free d x):Txt.replace (Txt.replace x ⟨#[c]⟩ ⟨#[d]⟩) ⟨#[d]⟩ ⟨#[c]⟩ = x:=by
 rw [StrLaws.replace_one (Txt.replace x ⟨#[c]⟩ ⟨#[d]⟩) ⟨#[c]⟩ d,StrLaws.replace_one x ⟨#[d]⟩ c]
 have hp:∀ p ∈ Txt.split x ⟨#[c]⟩,Free d p:=fun p hp h => hd (by
  rw [← StrLaws.join_split x ⟨#[c]⟩]
  exact mem_join hp h)
 rw [split_join (split_ne x c) hp,StrLaws.join_split]
where
 mem_join {c e:Nat}:∀ {ws:List Str} {p:Str},p ∈ ws → e ∈ p.cps.toList → e ∈ (Str.join ⟨#[c]⟩ ws).cps.toList
  | [w],p,hp,h => by
   have:p = w:=by simpa using hp
   subst this; exact h
  | w :: v :: r,p,hp,h => by
   rw [join_cps (by simp)]
   rcases List.mem_cons.mp hp with rfl | hp
   ·exact List.mem_append_left _ h
   ·exact List.mem_append_right _ (List.mem_cons_of_mem _ (mem_join (ws:=v :: r) hp h))
theorem joinC_len (c:Nat):∀ ws:List Str,(Str.join ⟨#[c]⟩ ws).length ≤ (ws.map (·.length)).sum + ws.length:=fun ws => by
 have:=StrLaws.join_length_le ⟨#[c]⟩ ws
 have h1:(⟨#[c]⟩:Str).length = 1:=rfl
 rw [h1,Nat.mul_one] at this
 exact this
theorem split_lens (x:Str) (c:Nat):∀ p ∈ Txt.split x ⟨#[c]⟩,p.length ≤ x.length:=fun p hp => by
 have:∀ {ws:List Str} {p:Str},p ∈ ws → p.length ≤ (Str.join ⟨#[c]⟩ ws).length:=fun {ws} => by
  induction ws with
  | nil => intro p hp; cases hp
  | cons w r ih =>
   intro p hp
   cases r with
   | nil =>
    have:p = w:=by simpa using hp
    subst this; exact Nat.le_refl _
   | cons v r =>
    rw [jn_cons (by simp),app_length,app_length]
    rcases List.mem_cons.mp hp with rfl | hp
    ·omega
    ·have:=ih hp; omega
 have h:=this hp
 rw [StrLaws.join_split] at h
 exact h
theorem split_len (x:Str) (c:Nat):(Txt.split x ⟨#[c]⟩).length ≤ x.length + 1:=by
 have:∀ {ws:List Str},ws ≠ [] → ws.length ≤ (Str.join ⟨#[c]⟩ ws).length + 1:=fun {ws} => by
  induction ws with
  | nil => intro h; exact absurd rfl h
  | cons w r ih =>
   intro _
   cases r with
   | nil => simp
   | cons v r =>
    rw [jn_cons (by simp),app_length,app_length]
    have:=ih (by simp)
    have h1:(⟨#[c]⟩:Str).length = 1:=rfl
    simp only [List.length_cons] at this ⊢
    omega
 have h:=this (split_ne x c)
 rw [StrLaws.join_split] at h
 exact h
noncomputable def wP (p:D):List Str:=match p with | .tup [.str k,.int n,.str e] => [k,toString n,e] | _ => []
noncomputable def wPc (pc:D):List Str:=match pc with
 | .tup [_,.str w] => ["word",Txt.replace w bk1 ⟨#[95]⟩]
 | .tup [.str deed,p,q] => deed :: (wP p ++ wP q)
 | _ => []
noncomputable def wPs:List D → List Str
 | [] => []
 | [p] => wPc p
 | p :: q :: r => wPc p ++ ("+":Str) :: wPs (q :: r)
noncomputable def wR (r:D):List Str:=match r with | .tup ps => "do" :: wPs ps | _ => []
noncomputable def wG (d:D):List Str:=match d with
 | .tup [_,r] => wR r
 | .tup [_,.tup [.str w,.str k],r,q] => "if" :: w :: k :: (wR r ++ ("else":Str) :: wR q)
 | _ => []
theorem g_joinT {Q:D → Sto → Prop} {L:Sto} {x:Str} {ds:List D} {ys:List Str} (e2:strsD ds = some ys) (hz:(ys.map (·.length)).sum + ys.length * x.length ≤ 16777216) (h:Q (.str (Txt.join x ys)) L):W2 (gJoin (.str x) [.tup ds] L) Q:=⟨_,_,by simp only [gJoin,seqOf,e2]; rw [if_pos hz],h⟩
theorem g_repl {Q:D → Sto → Prop} {L:Sto} {y z t:Str} (h1:t.length + (t.length + 1) * z.length ≤ 16777216) (h2:(Txt.replace t y z).length ≤ 16777216) (h:Q (.str (Txt.replace t y z)) L):W2 (gRepl y z (.str t) L) Q:=⟨_,_,by simp only [gRepl]; rw [if_pos ⟨h1,h2⟩],h⟩
theorem g_split {Q:D → Sto → Prop} {L:Sto} {y z:Str} (h1:y.length ≠ 0) (h2:z.length ≤ 16777216) (h3:(Txt.split z y).length ≤ 16777216) (h4:∀ p ∈ Txt.split z y,p.length ≤ 16777216) (h:Q (.ref L.length) (L ++ [.lst ((Txt.split z y).map .str)])):W2 (gSplit (.str z) [.str y] L) Q :=
 ⟨_,_,by simp only [gSplit]; rw [if_pos ⟨h1,h2,h3,by rw [List.all_eq_true]; exact fun p hp => decide_eq_true (h4 p hp)⟩],h⟩
theorem repl_len {w:Str} {c d:Nat} (h:w.length ≤ 8):(Txt.replace w ⟨#[c]⟩ ⟨#[d]⟩).length ≤ 100:=by
 rw [StrLaws.replace_one]
 have h1:=joinC_len d (Txt.split w ⟨#[c]⟩)
 have h2:=split_len w c
 have h3:((Txt.split w ⟨#[c]⟩).map (·.length)).sum ≤ (Txt.split w ⟨#[c]⟩).length * 8:=sum_le fun p hp => Nat.le_trans (split_lens w c p hp) h
 omega
theorem strNth {n:Int} (h:NthOk n):(n.natAbs.log2 < 1920 ∧ (toString n:Str).length ≤ 16777216) ∧ (toString n:Str).length ≤ 2:=by
 rcases h with rfl | rfl | rfl | rfl <;> exact ⟨⟨by decide +kernel,by decide +kernel⟩,by decide +kernel⟩
theorem kind_len6 {k:Str} (h:k ∈ ([("small":Str),"great","figure","mark","any"]:List Str)):k.length ≤ 6:=by
 simp only [List.mem_cons,List.not_mem_nil,or_false] at h
 rcases h with rfl | rfl | rfl | rfl | rfl <;> decide +kernel
theorem edge_len6 {k:Str} (h:k = "ahead" ∨ k = "behind"):k.length ≤ 6:=by rcases h with rfl | rfl <;> decide +kernel
theorem deed_len6 {k:Str} (h:IsDeed k):k.length ≤ 6:=by rcases h with rfl | rfl | rfl <;> decide +kernel
theorem spc:(" ":Str) = bk1:=by decide +kernel
theorem wPc_str {d:Str} {p q:D} (h:IsPlace p):wPc (.tup [.str d,p,q]) = d :: (wP p ++ wP q):=by obtain ⟨_,_,_,rfl,_⟩:=h; rfl
theorem wP_ne {p:D} (h:IsPlace p):wP p ≠ []:=by obtain ⟨k,n,e,rfl,_⟩:=h; simp [wP]
theorem wPc_ne {p:D} (h:IsPiece p):wPc p ≠ []:=by
 rcases h with ⟨w,rfl,_⟩ | ⟨d,p,q,rfl,_,hp,_⟩
 ·simp [wPc]
 ·rw [wPc_str hp]; simp
theorem wPs_ne {ps:List D} (h:∀ p ∈ ps,IsPiece p) (h0:0 < ps.length):wPs ps ≠ []:=by
 match ps,h with
 | [p],h => exact wPc_ne (h p List.mem_cons_self)
 | p :: q :: r,h => simp [wPs]
theorem jlen3 {a b c:Str} {n:Nat} (h:a.length + b.length + c.length + 2 ≤ n):(jB [a,b,c]).length ≤ n:=by
 show (a ++ bk1 ++ (b ++ bk1 ++ c)).length ≤ n
 simp only [app_length]
 have:bk1.length = 1:=rfl
 omega
theorem wP_len {p:D} (h:IsPlace p):(jB (wP p)).length ≤ 20:=by
 obtain ⟨k,n,e,rfl,hn,he,hk⟩:=h
 have:=(strNth hn).2
 have:=kind_len6 hk
 have:=edge_len6 he
 exact jlen3 (by omega)
theorem wPc_len {p:D} (h:IsPiece p):(jB (wPc p)).length ≤ 110:=by
 rcases h with ⟨w,rfl,_,h2,_⟩ | ⟨d,p,q,rfl,hd,hp,hq⟩
 ·show (("word":Str) ++ bk1 ++ Txt.replace w bk1 ⟨#[95]⟩).length ≤ 110
  have h1:(Txt.replace w bk1 ⟨#[95]⟩).length ≤ 100:=repl_len (w:=w) (c:=32) (d:=95) h2
  have h3:("word":Str).length = 4:=by decide +kernel
  have h4:bk1.length = 1:=rfl
  rw [app_length,app_length]
  omega
 ·rw [wPc_str hp,jB_cons (by simp [wP_ne hp]),jB_app (wP_ne hp) (wP_ne hq)]
  simp only [app_length]
  have:=wP_len hp
  have:=wP_len hq
  have:=deed_len6 hd
  have h4:bk1.length = 1:=rfl
  omega
theorem wPs_len:∀ {ps:List D},(∀ p ∈ ps,IsPiece p) → (jB (wPs ps)).length ≤ ps.length * 120
 | [],_ => by decide
 | [p],h => by have:=wPc_len (h p List.mem_cons_self); simp only [wPs,List.length_cons,List.length_nil]; omega
 | p :: q :: r,h => by
  have h1:=wPc_len (h p List.mem_cons_self)
  have h2:=wPs_len (ps:=q :: r) fun z hz => h z (List.mem_cons_of_mem _ hz)
  have hne:=wPs_ne (ps:=q :: r) (fun z hz => h z (List.mem_cons_of_mem _ hz)) (by simp)
  show (jB (wPc p ++ ("+":Str) :: wPs (q :: r))).length ≤ _
  rw [jB_app (wPc_ne (h p List.mem_cons_self)) (by simp),jB_cons hne]
  simp only [app_length,List.length_cons] at h2 ⊢
  have h3:("+":Str).length = 1:=by decide +kernel
  have h4:bk1.length = 1:=rfl
  omega
theorem wR_len {r:D} (h:IsRow r):(jB (wR r)).length ≤ 400:=by
 obtain ⟨ps,rfl,hp,h0,h3⟩:=h
 have h1:=wPs_len hp
 show (jB ("do" :: wPs ps)).length ≤ 400
 rw [jB_cons (wPs_ne hp h0)]
 simp only [app_length]
 have h4:("do":Str).length = 2:=by decide +kernel
 have h5:bk1.length = 1:=rfl
 omega
theorem wR_ne {r:D} (h:IsRow r):wR r ≠ []:=by obtain ⟨ps,rfl,_⟩:=h; simp [wR]
theorem rows_join:∀ {ps:List D},(∀ p ∈ ps,IsPiece p) → 0 < ps.length → Str.join " + " (ps.map fun p => jB (wPc p)) = jB (wPs ps)
 | [],_,h => absurd h (by simp)
 | [p],_,_ => rfl
 | p :: q :: r,h,_ => by
  have hne:=wPs_ne (ps:=q :: r) (fun z hz => h z (List.mem_cons_of_mem _ hz)) (by simp)
  have ih:=rows_join (ps:=q :: r) (fun z hz => h z (List.mem_cons_of_mem _ hz)) (by simp)
  rw [List.map_cons,jn_cons (by simp),ih]
  show _ = jB (wPc p ++ ("+":Str) :: wPs (q :: r))
  rw [jB_app (wPc_ne (h p List.mem_cons_self)) (by simp),jB_cons hne]
  have e:(" + ":Str) = bk1 ++ ("+" ++ bk1):=by decide +kernel
  rw [e]
  simp only [Str.append_assoc]
theorem strsD_texts {α:Type} (f:α → Str):∀ (xs:List α),strsD (xs.map fun x => D.str (f x)) = some (xs.map f)
 | [] => rfl
 | x :: r => by rw [List.map_cons,strsD,strsD_texts f r]; rfl
theorem shown_place_w {Q:D → Sto → Prop} {L:Sto} {p:D} (h:IsPlace p) (q:Q (.str (jB (wP p))) L):W2 (G_shown_place [p] L) Q:=by
 have hl:=wP_len h
 obtain ⟨k,n,e,rfl,hn,he,hk⟩:=h
 unfold G_shown_place
 refine w_run rfl ?_
 unfold B_shown_place
 wtm_at "z"
 refine g_strI (strNth hn).1 ?_
 wtm_at "z"
 refine g_join get_last rfl ?_ ?_
 ·have:=(strNth hn).2
  have:=kind_len6 hk
  have:=edge_len6 he
  have h1:(" ":Str).length = 1:=by decide +kernel
  simp only [List.map_cons,List.map_nil,List.sum_cons,List.sum_nil,List.length_cons,List.length_nil,h1]
  omega
 ·refine ⟨rfl,List.prefix_append _ _,?_⟩
  rw [tjoin]
  exact q
theorem jB_flat:∀ {xss:List (List Str)},xss ≠ [] → (∀ xs ∈ xss,xs ≠ []) → jB (xss.map jB) = jB xss.flatten
 | [],h,_ => absurd rfl h
 | [xs],_,_ => by simp [jB_one]
 | xs :: ys :: r,_,h => by
  have ih:=jB_flat (xss:=ys :: r) (by simp) fun z hz => h z (List.mem_cons_of_mem _ hz)
  have hne:(ys :: r).flatten ≠ []:=by
   have:=h ys (by simp)
   simp [this]
  have e:(xs :: ys :: r).flatten = xs ++ (ys :: r).flatten:=rfl
  rw [List.map_cons,jB_cons (by simp),ih,e,jB_app (h xs List.mem_cons_self) hne]
theorem shown_piece_w {Q:D → Sto → Prop} {L:Sto} {p:D} (h:IsPiece p) (q:Q (.str (jB (wPc p))) L):W2 (G_shown_piece [p] L) Q:=by
 have hl:=wPc_len h
 unfold G_shown_piece
 refine w_run rfl ?_
 unfold B_shown_piece
 rcases h with ⟨w,rfl,h1,h2,h3⟩ | ⟨d,p1,p2,rfl,hd,hp,hq⟩
 ·have hr:=repl_len (w:=w) (c:=32) (d:=95) h2
  have hus:("_":Str).length = 1:=by decide +kernel
  wtm_at "z"
  refine g_repl (by rw [hus]; omega) (Nat.le_trans hr (by decide)) ?_
  refine g_addS ?_ ?_
  ·have h5:("word ":Str).length = 5:=by decide +kernel
   have:(Txt.replace w " " "_").length ≤ 100:=hr
   omega
  ·refine ⟨rfl,List.prefix_refl _,?_⟩
   have e:("word ":Str) ++ Txt.replace w " " "_" = jB (wPc (.tup [.str "word",.str w])):=by
    show _ = ("word":Str) ++ bk1 ++ Txt.replace w bk1 ⟨#[95]⟩
    have e1:("word ":Str) = ("word":Str) ++ bk1:=by decide +kernel
    rw [e1]; rfl
   rw [e]; exact q
 ·have hnw:d ≠ "word":=by rcases hd with rfl | rfl | rfl <;> decide
  wtm_at "z"
  refine shown_place_w hp ?_
  wtm_at "z"
  refine shown_place_w hq ?_
  wtm_at "z"
  have:=wP_len hp
  have:=wP_len hq
  have:=deed_len6 hd
  refine g_join get_last rfl ?_ ?_
  ·have h1:(" ":Str).length = 1:=by decide +kernel
   simp only [List.map_cons,List.map_nil,List.sum_cons,List.sum_nil,List.length_cons,List.length_nil,h1]
   omega
  ·refine ⟨rfl,List.prefix_append _ _,?_⟩
   rw [tjoin]
   have e:Str.join " " [d,jB (wP p1),jB (wP p2)] = jB (wPc (.tup [.str d,p1,p2])):=by
    have:=jB_flat (xss:=[[d],wP p1,wP p2]) (by simp) (fun xs hx => by
     simp only [List.mem_cons,List.not_mem_nil,or_false] at hx
     rcases hx with rfl | rfl | rfl
     ·simp
     ·exact wP_ne hp
     ·exact wP_ne hq)
    simp only [List.map_cons,List.map_nil,jB_one,List.flatten_cons,List.flatten_nil,List.append_nil] at this
    rw [wPc_str hp,spc]
    exact this
   rw [e]; exact q
theorem shown_row_w {Q:D → Sto → Prop} {L:Sto} {r:D} (h:IsRow r) (q:Q (.str (jB (wR r))) L):W2 (G_shown_row [r] L) Q:=by
 obtain ⟨ps,rfl,hp,h0,h3⟩:=h
 unfold G_shown_row
 refine w_run rfl ?_
 unfold B_shown_row
 wtm_at "z"
 refine wc_pure (fun ρ => ∃ a,ρ = [a]) (fun x => some (.str (jB (wPc x)))) _ _ ⟨none,rfl⟩ (by omega) ?_ ?_
 ·rintro x hx ρ ⟨a,rfl⟩
  have hx':=hp x hx
  wtm_at "z"
  refine ⟨⟨_,rfl⟩,fun acc => ?_⟩
  wtm_at "z"
  refine ⟨rfl,?_⟩
  wtm_at "z"
  refine shown_piece_w hx' ?_
  exact ⟨rfl,rfl⟩
 ·have e:List.filterMap (fun x => some (D.str (jB (wPc x)))) ps = ps.map fun x => D.str (jB (wPc x)):=by
   rw [← List.filterMap_eq_map]
   rfl
  rw [e]
  have h5:(" + ":Str).length = 3:=by decide +kernel
  have h6:("do ":Str).length = 3:=by decide +kernel
  have hs:((ps.map fun x => jB (wPc x)).map (·.length)).sum ≤ (ps.map fun x => jB (wPc x)).length * 110:=sum_le fun y hy => by
   rw [List.mem_map] at hy
   obtain ⟨x,hx,rfl⟩:=hy
   exact wPc_len (hp x hx)
  wtm_at "z"
  refine g_join get_last (strsD_texts (fun x => jB (wPc x)) ps) ?_ ?_
  ·rw [h5]
   rw [List.length_map] at hs ⊢
   omega
  ·rw [tjoin,rows_join hp h0]
   have hl:=wPs_len hp
   refine g_addS (by omega) ?_
   refine ⟨rfl,List.prefix_append _ _,?_⟩
   have e2:("do ":Str) ++ jB (wPs ps) = jB (wR (.tup ps)):=by
    show _ = jB ("do" :: wPs ps)
    rw [jB_cons (wPs_ne hp h0)]
    have e1:("do ":Str) = ("do":Str) ++ bk1:=by decide +kernel
    rw [e1]
   rw [e2]; exact q
theorem shown_w {Q:D → Sto → Prop} {L:Sto} {d:D} (h:IsProg d) (q:Q (.str (jB (wG d))) L):W2 (G_shown [d] L) Q:=by
 unfold G_shown
 refine w_run rfl ?_
 unfold B_shown
 rcases h with ⟨r,rfl,hr⟩ | ⟨l,r,r2,rfl,⟨w,k,rfl,hw,hk⟩,hr,hr2⟩
 ·wtm_at "z"
  refine shown_row_w hr ?_
  exact ⟨rfl,List.prefix_refl _,q⟩
 ·have hwl:w.length ≤ 6:=by rcases hw with rfl | rfl <;> decide +kernel
  have hkl:=kind_len6 hk
  have h1:(" ":Str).length = 1:=by decide +kernel
  have h2:("if":Str).length = 2:=by decide +kernel
  have h3:("else":Str).length = 4:=by decide +kernel
  wtm_at "z"
  refine g_joinT rfl ?_ ?_
  ·simp only [List.map_cons,List.map_nil,List.sum_cons,List.sum_nil,List.length_cons,List.length_nil,h1]
   omega
  wtm_at "z"
  refine shown_row_w hr ?_
  wtm_at "z"
  refine shown_row_w hr2 ?_
  wtm_at "z"
  have hb1:=wR_len hr
  have hb2:=wR_len hr2
  have hb3:(Txt.join " " [w,k]).length ≤ 20:=by
   rw [tjoin]
   show (w ++ bk1 ++ k).length ≤ 20
   rw [app_length,app_length]
   have h4:bk1.length = 1:=rfl
   omega
  refine g_join get_last rfl ?_ ?_
  ·simp only [List.map_cons,List.map_nil,List.sum_cons,List.sum_nil,List.length_cons,List.length_nil,h1,h2,h3]
   omega
  ·refine ⟨rfl,List.prefix_append _ _,?_⟩
   rw [tjoin,tjoin]
   have e:Str.join " " ["if",Str.join " " [w,k],jB (wR r),"else",jB (wR r2)] = jB (wG (.tup [.str "if",.tup [.str w,.str k],r,r2])):=by
    have:=jB_flat (xss:=[["if"],[w,k],wR r,["else"],wR r2]) (by simp) (fun xs hx => by
     simp only [List.mem_cons,List.not_mem_nil,or_false] at hx
     rcases hx with rfl | rfl | rfl | rfl | rfl
     ·simp
     ·simp
     ·exact wR_ne hr
     ·simp
     ·exact wR_ne hr2)
    simp only [List.map_cons,List.map_nil,jB_one,List.flatten_cons,List.flatten_nil,List.append_nil] at this
    rw [spc]
    exact this
   rw [e]; exact q
end L3
set_option maxHeartbeats 4000000
--BEGIN WPT
--END WPT
namespace L3
open PySem PySem.Spec PyProof.Rows L2
noncomputable def insP (j:Nat) (t:Nat):Ob:=.ins "Parts" [("parts",.ref j),("taken",.int (t:Int))]
noncomputable def wAt (ws:List Str) (t:Nat):Str:=(ws[t]?).getD ""
theorem w_runK {Q:D → Sto → Prop} {L:Sto} {B:SF} {N:List Str} {n k:Nat} {xs:List D} {d:D} {o0 o':Ob} (hn:xs.length = n) (hk:L[k]? = some o0) (q:∀ L',Keep k L L' → L'[k]? = some o' → Q d L')
  (h:WS (B (startD N xs) L) (fun _ L2 => .non = d ∧ Keep k L L2 ∧ L2[k]? = some o') (fun d' L2 => d' = d ∧ Keep k L L2 ∧ L2[k]? = some o') (fun _ _ => False) (fun _ _ => False)):W2 (runG B N n xs L) Q:=by
 have hlt:k < L.length:=(List.getElem?_eq_some_iff.mp hk).1
 have back:∀ L2:Sto,L <+: L2 → L2[k]? = some o' → L[k]? = some o':=fun L2 ⟨M,e⟩ e2 => by
  rw [← e,List.getElem?_append_left hlt] at e2; exact e2
 refine w_runB hn (h.mono ?_ ?_ (fun _ _ h => h) (fun _ _ h => h))
 ·rintro _ L2 ⟨rfl,h1,h2⟩
  exact ⟨fun p => q L (.refl _ _) (back L2 p h2),q L2 h1 h2⟩
 ·rintro _ L2 ⟨rfl,h1,h2⟩
  exact ⟨fun p _ => q L (.refl _ _) (back L2 p h2),q L2 h1 h2⟩
theorem take_w {Q:D → Sto → Prop} {L:Sto} {k j t:Nat} {ws:List Str} (h1:L[k]? = some (insP j t)) (h2:L[j]? = some (.lst (ws.map .str))) (q:∀ L',Keep k L L' → L'[k]? = some (insP j (t + 1)) → Q (.str (wAt ws t)) L'):W2 (G_Parts_take [.ref k] L) Q:=by
 unfold insP at h1
 unfold G_Parts_take
 refine w_runK rfl h1 q ?_
 unfold B_Parts_take
 have fin:∀ (d:D) (L':Sto),d = .str (wAt ws t) → L' = L.set k (.ins "Parts" (putD "taken" (.int ((t:Int) + 1)) [("parts",.ref j),("taken",.int (t:Int))])) → d = .str (wAt ws t) ∧ Keep k L L' ∧ L'[k]? = some (insP j (t + 1)):=by
  rintro _ _ rfl rfl
  refine ⟨rfl,.set _ _ _,?_⟩
  rw [get_setS h1]
  rfl
 have aug:∀ {d:D},d = .str (wAt ws t) → WS (seqF (augO ["Parts"] "taken" (fun i j => i + j) (var 0) (cst (.int 1))) (retF (var 1)) [some (.ref k),some d] L) (fun _ L2 => .non = D.str (wAt ws t) ∧ Keep k L L2 ∧ L2[k]? = some (insP j (t + 1))) (fun d' L2 => d' = .str (wAt ws t) ∧ Keep k L L2 ∧ L2[k]? = some (insP j (t + 1))) (fun _ _ => False) (fun _ _ => False):=by
  rintro d hd
  refine ws_seq (ws_augO ?_)
  wtm_at "z"
  refine ⟨k,"Parts",_,(t:Int),rfl,h1,by simp,rfl,?_⟩
  wtm_at "z"
  refine ⟨1,_,rfl,h1,by simp,?_⟩
  wtm_at "z"
  exact fin _ _ hd rfl
 have hlen:((ws.map D.str).length:Int) = ws.length:=by simp
 refine ws_seq (ws_set ?_)
 wtm_at "z"
 refine br_dec (fun hlt => ?_) (fun hlt => ?_)
 ·rw [hlen] at hlt
  have hlt':t < ws.length:=by omega
  wtm_at "z"
  refine g_ixR h2 (d:=.str (wAt ws t)) (atI_nat ?_) ?_
  ·simp [wAt,hlt']
  ·exact aug rfl
 ·rw [hlen] at hlt
  refine w_cst ?_
  refine aug ?_
  have:ws[t]? = none:=by simp; omega
  simp [wAt,this]
theorem wAt_drop {ws:List Str} {t i:Nat}:wAt ws (t + i) = wAt (ws.drop t) i:=by
 unfold wAt
 rw [List.getElem?_drop]
theorem w_kget {Q:D → Sto → Prop} {ρ:Fm} {L:Sto} {tab:List (Str × D)} {fe:EF} (h:W2 (fe ρ L) fun x L1 => ∃ z,x = .str z ∧ Q ((tab.lookup z).getD .non) L1):W2 (kgetF tab fe ρ L) Q:=by
 obtain ⟨x,L1,e,z,rfl,q⟩:=h
 exact ⟨_,L1,by unfold kgetF; rw [e]; rfl,q⟩
theorem nth_back {n:Int} (h:NthOk n):(c_NTH_BY_PART.lookup (toString n:Str)).getD .non = .int n:=by
 rcases h with rfl | rfl | rfl | rfl <;> decide +kernel
theorem Keep.setNew {k m:Nat} {L L':Sto} {o:Ob} (h:Keep k L L') (hm:L.length ≤ m):Keep k L (L'.set m o):=⟨by simp; exact h.1,fun j h1 h2 => by rw [List.getElem?_set_ne (by omega)]; exact h.2 j h1 h2⟩
theorem Keep.pre {k:Nat} {L L0 L':Sto} (h:Keep k L0 L') (p:L <+: L0) (hk:L.length ≤ k):L <+: L':=by
 rw [List.prefix_iff_getElem?]
 intro j hj
 obtain ⟨M,rfl⟩:=p
 rw [h.2 j (by omega) (by simp; omega),List.getElem?_append_left hj]
 simp
theorem Keep.lt {k m:Nat} {L L':Sto} (h:Keep k L L') (hm:m < L.length):m < L'.length:=Nat.lt_of_lt_of_le hm h.1
theorem take_place_w {Q:D → Sto → Prop} {L:Sto} {k j t:Nat} {ws rest:List Str} {p:D} (h1:L[k]? = some (insP j t)) (h2:L[j]? = some (.lst (ws.map .str))) (hjk:j ≠ k) (hp:IsPlace p) (hd:ws.drop t = wP p ++ rest)
  (q:∀ L',Keep k L L' → L'[k]? = some (insP j (t + 3)) → Q p L'):W2 (G_take_place [.ref k] L) Q:=by
 obtain ⟨kd,n,e,rfl,hn,he,hk⟩:=hp
 have w0:wAt ws t = kd:=by have:=wAt_drop (ws:=ws) (t:=t) (i:=0); rw [hd] at this; exact this
 have w1:wAt ws (t + 1) = toString n:=by rw [wAt_drop,hd]; rfl
 have w2:wAt ws (t + 1 + 1) = e:=by rw [Nat.add_assoc,wAt_drop,hd]; rfl
 unfold G_take_place
 refine w_runK rfl h1 q ?_
 unfold B_take_place
 have h1':=h1
 unfold insP at h1'
 refine ws_seq (ws_set ?_)
 refine w_mthO ?_
 wtm_at "z"
 refine take_w h1 h2 fun La ka ea => ?_
 have ha2:=ka.get hjk h2
 have ea':=ea
 unfold insP at ea'
 refine ws_seq (ws_set ?_)
 refine w_kget (w_mthO ?_)
 wtm_at "z"
 refine take_w ea ha2 fun Lb kb eb => ⟨_,rfl,?_⟩
 have hb2:=kb.get hjk ha2
 have eb':=eb
 unfold insP at eb'
 refine ws_seq (ws_set ?_)
 refine w_mthO ?_
 wtm_at "z"
 refine take_w eb hb2 fun Lc kc ec => ?_
 wtm_at "z"
 rw [w0,w1,w2,nth_back hn]
 exact ⟨rfl,(ka.trans kb).trans kc,ec⟩
theorem not95:95 ∉ codes:=by decide
theorem SgOk.free {w:Str} (h:SgOk w):Free 95 w:=fun hc => not95 (h 95 hc)
theorem take_piece_w {Q:D → Sto → Prop} {L:Sto} {k j t:Nat} {ws rest:List Str} {p:D} (h1:L[k]? = some (insP j t)) (h2:L[j]? = some (.lst (ws.map .str))) (hjk:j ≠ k) (hp:IsPiece p) (hd:ws.drop t = wPc p ++ rest)
  (q:∀ L',Keep k L L' → L'[k]? = some (insP j (t + (wPc p).length)) → Q p L'):W2 (G_take_piece [.ref k] L) Q:=by
 unfold G_take_piece
 refine w_runK rfl h1 q ?_
 unfold B_take_piece
 have h1':=h1
 unfold insP at h1'
 refine ws_seq (ws_set ?_)
 refine w_mthO ?_
 wtm_at "z"
 refine take_w h1 h2 fun La ka ea => ?_
 have ha2:=ka.get hjk h2
 have ea':=ea
 unfold insP at ea'
 have w0:=wAt_drop (ws:=ws) (t:=t) (i:=0)
 rw [hd] at w0
 rcases hp with ⟨w,rfl,hw1,hw2,hw3⟩ | ⟨d,p1,p2,rfl,hdd,hp1,hp2⟩
 ·have w1:wAt ws (t + 1) = Txt.replace w bk1 ⟨#[95]⟩:=by rw [wAt_drop,hd]; rfl
  have w0':wAt ws t = "word":=w0
  rw [w0']
  wtm_at "z"
  refine take_w ea ha2 fun Lb kb eb => ?_
  rw [w1]
  have hr:=repl_len (w:=w) (c:=32) (d:=95) hw2
  have hbk:Txt.replace (Txt.replace w bk1 ⟨#[95]⟩) "_" " " = w:=repl_back hw1.free
  have h1l:(" ":Str).length = 1:=by decide +kernel
  refine g_repl (by rw [h1l]; have:(Txt.replace w bk1 ⟨#[95]⟩).length ≤ 100:=hr; omega) (by rw [hbk]; omega) ?_
  rw [hbk]
  wtm_at "z"
  exact ⟨rfl,ka.trans kb,eb⟩
 ·have hnw:d ≠ "word":=by rcases hdd with rfl | rfl | rfl <;> decide
  rw [wPc_str hp1] at hd w0
  have w0':wAt ws t = d:=w0
  rw [w0']
  have hd1:ws.drop (t + 1) = wP p1 ++ (wP p2 ++ rest):=by
   rw [← List.drop_drop,hd]
   simp
  have hl1:(wP p1).length = 3:=by obtain ⟨_,_,_,rfl,_⟩:=hp1; rfl
  have hl2:(wP p2).length = 3:=by obtain ⟨_,_,_,rfl,_⟩:=hp2; rfl
  have hd2:ws.drop (t + 1 + 3) = wP p2 ++ rest:=by
   rw [← List.drop_drop,hd1,← hl1]
   simp
  wtm_at "z"
  refine take_place_w ea ha2 hjk hp1 hd1 fun Lb kb eb => ?_
  have hb2:=kb.get hjk ha2
  wtm_at "z"
  refine take_place_w eb hb2 hjk hp2 hd2 fun Lc kc ec => ?_
  wtm_at "z"
  refine ⟨rfl,(ka.trans kb).trans kc,?_⟩
  rw [ec]
  rw [wPc_str hp1]
  congr 2
  simp [hl1,hl2]
noncomputable def wT (todo:List D):List Str:=match todo with | [] => [] | _ => ("+":Str) :: wPs todo
theorem wPs_cons (p:D) (r:List D):wPs (p :: r) = wPc p ++ wT r:=by cases r <;> simp [wPs,wT]
theorem take_row_w {Q:D → Sto → Prop} {L:Sto} {k j t:Nat} {ws rest:List Str} {r:D} (h1:L[k]? = some (insP j t)) (h2:L[j]? = some (.lst (ws.map .str))) (hjk:j ≠ k) (hr:IsRow r) (hd:ws.drop t = wR r ++ rest) (hrest:wAt rest 0 ≠ "+")
  (q:∀ L',Keep k L L' → L'[k]? = some (insP j (t + (wR r).length + 1)) → Q r L'):W2 (G_take_row [.ref k] L) Q:=by
 obtain ⟨ps,rfl,hps,hp0,hp3⟩:=hr
 have hkl:k < L.length:=(List.getElem?_eq_some_iff.mp h1).1
 have hjl:j < L.length:=(List.getElem?_eq_some_iff.mp h2).1
 unfold G_take_row
 refine w_runK rfl h1 q ?_
 unfold B_take_row
 have h1':=h1
 unfold insP at h1'
 refine ws_cut (fun ρ L' => ρ = [some (.ref k),none] ∧ Keep k L L' ∧ L'[k]? = some (insP j (t + 1))) ?_ ?_
 ·wtm_at "z"
  refine take_w h1 h2 fun La ka ea => ?_
  exact ⟨rfl,ka,ea⟩
 rintro _ La ⟨rfl,ka,ea⟩
 have ha2:=ka.get hjk h2
 match ps,hps,hp0,hp3,hd with
 | p :: todo0,hps,hp0,hp3,hd =>
  have hw:wR (.tup (p :: todo0)) = ("do":Str) :: (wPc p ++ wT todo0):=by show ("do":Str) :: wPs (p :: todo0) = _; rw [wPs_cons]
  rw [hw] at hd ⊢
  have hd1:ws.drop (t + 1) = wPc p ++ (wT todo0 ++ rest):=by
   rw [← List.drop_drop,hd]
   simp
  have hd2:ws.drop (t + 1 + (wPc p).length) = wT todo0 ++ rest:=by
   rw [← List.drop_drop,hd1]
   simp
  refine ws_cut (fun ρ L' => ∃ m,ρ = [some (.ref k),some (.ref m)] ∧ Keep k L L' ∧ L'[k]? = some (insP j (t + 1 + (wPc p).length)) ∧ L.length ≤ m ∧ L'[m]? = some (.lst [p])) ?_ ?_
  ·wtm_at "z"
   refine take_piece_w ea ha2 hjk (hps p List.mem_cons_self) hd1 fun Lb kb eb => ?_
   wtm_at "z"
   exact ⟨_,rfl,(ka.trans kb).trans (.app _ _ _),get_app eb,(ka.trans kb).1,get_last⟩
  rintro _ Lb ⟨m,rfl,kb,eb,hm,gm⟩
  refine ws_cut (fun ρ L' => ρ = [some (.ref k),some (.ref m)] ∧ Keep k L L' ∧ L'[k]? = some (insP j (t + (("do":Str) :: (wPc p ++ wT todo0)).length + 1)) ∧ L'[m]? = some (.lst (p :: todo0))) ?_ ?_
  ·refine ws_while (fun n ρ L' => ∃ (done todo:List D) (t':Nat),p :: todo0 = done ++ todo ∧ n = todo.length ∧ ρ = [some (.ref k),some (.ref m)] ∧ Keep k L L' ∧ L'[k]? = some (insP j t') ∧ L'[m]? = some (.lst done) ∧ ws.drop t' = wT todo ++ rest ∧ t' + (wT todo).length = t + (("do":Str) :: (wPc p ++ wT todo0)).length) (n:=todo0.length) (by simp at hp3; omega)
    ⟨[p],todo0,_,rfl,rfl,rfl,kb,eb,gm,hd2,by simp; omega⟩ ?_
   rintro n ρ L' ⟨done,todo,t',hsplit,rfl,rfl,kk,ek,em,hdr,hpos⟩
   have hj2:=kk.get hjk h2
   have ek':=ek
   unfold insP at ek'
   wtm_at "z"
   refine take_w ek hj2 fun Lc kc ec => ?_
   have hmk:m ≠ k:=by omega
   have hml:m < L'.length:=(List.getElem?_eq_some_iff.mp em).1
   have em2:=kc.get hmk em
   have hj3:=kc.get hjk hj2
   have w0:wAt ws t' = wAt (wT todo ++ rest) 0:=by rw [← hdr]; exact wAt_drop (i:=0)
   wtm_at "z"
   match todo,hsplit,hdr,hpos,w0 with
   | [],hsplit,hdr,hpos,w0 =>
    have w0':wAt ws t' ≠ "+":=by rw [w0]; exact hrest
    wtm_at "z"
    rw [List.append_nil] at hsplit
    refine ⟨rfl,kk.trans kc,?_,by rw [hsplit]; exact em2⟩
    rw [ec,← hpos]
    simp [wT]
   | p2 :: todo,hsplit,hdr,hpos,w0 =>
    have w0':wAt ws t' = "+":=by rw [w0]; rfl
    rw [w0']
    wtm_at "z"
    have hd3:ws.drop (t' + 1) = wPc p2 ++ (wT todo ++ rest):=by
     rw [← List.drop_drop,hdr]
     simp [wT,wPs_cons]
    have hp2:IsPiece p2:=hps p2 (by rw [hsplit]; simp)
    refine take_piece_w ec hj3 hjk hp2 hd3 fun Ld kd ed => ?_
    have em3:=kd.get hmk em2
    have hdl:done.length ≤ 3:=by
     have:=congrArg List.length hsplit
     simp at this hp3
     omega
    wtm_at "z"
    refine g_append em3 (by omega) ?_
    refine ⟨todo.length,by simp,done ++ [p2],todo,_,by rw [hsplit]; simp,rfl,rfl,((kk.trans kc).trans kd).setNew hm,get_setN hmk ed,get_setS em3,?_,?_⟩
    ·rw [← List.drop_drop,hd3]
     simp
    ·rw [← hpos]
     simp [wT,wPs_cons]
     omega
  rintro _ Lc ⟨rfl,kc,ec,gc⟩
  wtm_at "z"
  exact ⟨rfl,kc,ec⟩
theorem free_kind {k:Str} (h:k ∈ ([("small":Str),"great","figure","mark","any"]:List Str)):Free 32 k:=by
 simp only [List.mem_cons,List.not_mem_nil,or_false] at h
 rcases h with rfl | rfl | rfl | rfl | rfl <;> (unfold Free; decide +kernel)
theorem free_place {p:D} (h:IsPlace p):∀ w ∈ wP p,Free 32 w:=by
 obtain ⟨k,n,e,rfl,hn,he,hk⟩:=h
 intro w hw
 simp only [wP,List.mem_cons,List.not_mem_nil,or_false] at hw
 rcases hw with rfl | rfl | rfl
 ·exact free_kind hk
 ·rcases hn with rfl | rfl | rfl | rfl <;> (unfold Free; decide +kernel)
 ·rcases he with rfl | rfl <;> (unfold Free; decide +kernel)
theorem free_piece {p:D} (h:IsPiece p):∀ w ∈ wPc p,Free 32 w:=by
 rcases h with ⟨x,rfl,h1,h2,h3⟩ | ⟨d,p1,p2,rfl,hd,hp,hq⟩
 ·intro w hw
  simp only [wPc,List.mem_cons,List.not_mem_nil,or_false] at hw
  rcases hw with rfl | rfl
  ·unfold Free; decide +kernel
  ·exact repl_free (by decide)
 ·intro w hw
  rw [wPc_str hp] at hw
  simp only [List.mem_cons,List.mem_append] at hw
  rcases hw with rfl | hw | hw
  ·rcases hd with rfl | rfl | rfl <;> (unfold Free; decide +kernel)
  ·exact free_place hp w hw
  ·exact free_place hq w hw
theorem free_pieces:∀ {ps:List D},(∀ p ∈ ps,IsPiece p) → ∀ w ∈ wPs ps,Free 32 w
 | [],_,w,hw => by cases hw
 | [p],h,w,hw => free_piece (h p List.mem_cons_self) w hw
 | p :: q :: r,h,w,hw => by
  simp only [wPs,List.mem_append,List.mem_cons] at hw
  rcases hw with hw | rfl | hw
  ·exact free_piece (h p List.mem_cons_self) w hw
  ·unfold Free; decide +kernel
  ·exact free_pieces (ps:=q :: r) (fun z hz => h z (List.mem_cons_of_mem _ hz)) w hw
theorem free_row {r:D} (h:IsRow r):∀ w ∈ wR r,Free 32 w:=by
 obtain ⟨ps,rfl,hp,h0,h3⟩:=h
 intro w hw
 simp only [wR,List.mem_cons] at hw
 rcases hw with rfl | hw
 ·unfold Free; decide +kernel
 ·exact free_pieces hp w hw
theorem free_prog {d:D} (h:IsProg d):∀ w ∈ wG d,Free 32 w:=by
 rcases h with ⟨r,rfl,hr⟩ | ⟨l,r,r2,rfl,⟨x,k,rfl,hx,hk⟩,hr,hr2⟩
 ·exact free_row hr
 ·intro w hw
  simp only [wG,List.mem_cons,List.mem_append] at hw
  rcases hw with rfl | rfl | rfl | hw | rfl | hw
  ·unfold Free; decide +kernel
  ·rcases hx with rfl | rfl <;> (unfold Free; decide +kernel)
  ·exact free_kind hk
  ·exact free_row hr w hw
  ·unfold Free; decide +kernel
  ·exact free_row hr2 w hw
theorem wG_ne {d:D} (h:IsProg d):wG d ≠ []:=by
 rcases h with ⟨r,rfl,hr⟩ | ⟨l,r,r2,rfl,⟨x,k,rfl,hx,hk⟩,hr,hr2⟩
 ·exact wR_ne hr
 ·simp [wG]
theorem split_prog {d:D} (h:IsProg d):Txt.split (jB (wG d)) bk1 = wG d:=split_join (wG_ne h) (free_prog h)
theorem wG_len {d:D} (h:IsProg d):(jB (wG d)).length ≤ 1000:=by
 rcases h with ⟨r,rfl,hr⟩ | ⟨l,r,r2,rfl,⟨x,k,rfl,hx,hk⟩,hr,hr2⟩
 ·have:=wR_len hr
  show (jB (wR r)).length ≤ 1000
  omega
 ·show (jB (([("if":Str),x,k]:List Str) ++ (wR r ++ (([("else":Str)]:List Str) ++ wR r2)))).length ≤ 1000
  rw [jB_app (by simp) (by simp [wR_ne hr]),jB_app (wR_ne hr) (by simp),jB_app (by simp) (wR_ne hr2)]
  have h1:=wR_len hr
  have h2:=wR_len hr2
  have h3:x.length ≤ 6:=by rcases hx with rfl | rfl <;> decide +kernel
  have h4:=kind_len6 hk
  have h5:("if":Str).length = 2:=by decide +kernel
  have h6:("else":Str).length = 4:=by decide +kernel
  have h7:(jB [("if":Str),x,k]).length ≤ 20:=jlen3 (by omega)
  have h8:bk1.length = 1:=rfl
  simp only [app_length,jB_one]
  omega
theorem take_program_w {Q:D → Sto → Prop} {L:Sto} {k j:Nat} {d:D} (hp:IsProg d) (h1:L[k]? = some (insP j 0)) (h2:L[j]? = some (.lst ((wG d).map .str))) (hjk:j ≠ k)
  (q:∀ L' o,Keep k L L' → L'[k]? = some o → Q d L'):W2 (G_take_program [.ref k] L) Q:=by
 have h1':=h1
 unfold insP at h1'
 unfold G_take_program
 rcases hp with ⟨r,rfl,hr⟩ | ⟨l,r,r2,rfl,⟨x,kd,rfl,hx,hk⟩,hr,hr2⟩
 ·have hd:(wG (.tup [.str "do",r])).drop 0 = wR r ++ []:=by simp [wG]
  refine w_runK rfl h1 (o':=insP j (0 + (wR r).length + 1)) (fun L' kk e => q L' _ kk e) ?_
  unfold B_take_program
  have e0:atI ((wG (.tup [.str "do",r])).map D.str) 0 = some (.str "do"):=by
   obtain ⟨ps,rfl,_⟩:=hr
   exact atI_nat (j:=0) rfl
  refine ws_seq (ws_if ?_)
  wtm_at "z"
  refine g_ixR h2 e0 ?_
  wtm_at "z"
  refine take_row_w h1 h2 hjk hr hd (by decide) fun La ka ea => ?_
  wtm_at "z"
  exact ⟨rfl,ka,ea⟩
 ·have hwg:wG (.tup [.str "if",.tup [.str x,.str kd],r,r2]) = ("if":Str) :: x :: kd :: (wR r ++ ("else":Str) :: wR r2):=rfl
  rw [hwg] at h2
  have e0:atI ((("if":Str) :: x :: kd :: (wR r ++ ("else":Str) :: wR r2)).map D.str) 0 = some (.str "if"):=atI_nat (j:=0) rfl
  have hd1:(("if":Str) :: x :: kd :: (wR r ++ ("else":Str) :: wR r2)).drop (0 + 1 + 1 + 1) = wR r ++ (("else":Str) :: wR r2):=rfl
  have hd2:(("if":Str) :: x :: kd :: (wR r ++ ("else":Str) :: wR r2)).drop (0 + 1 + 1 + 1 + (wR r).length + 1) = wR r2 ++ []:=by
   rw [← List.drop_drop,← List.drop_drop,hd1]
   simp
  refine w_runK rfl h1 (o':=insP j (0 + 1 + 1 + 1 + (wR r).length + 1 + (wR r2).length + 1)) (fun L' kk e => q L' _ kk e) ?_
  unfold B_take_program
  refine ws_seq (ws_if ?_)
  wtm_at "z"
  refine g_ixR h2 e0 ?_
  wtm_at "z"
  refine take_w h1 h2 fun La ka ea => ?_
  have ha2:=ka.get hjk h2
  have ea':=ea
  unfold insP at ea'
  wtm_at "z"
  refine take_w ea ha2 fun Lb kb eb => ?_
  have hb2:=kb.get hjk ha2
  have eb':=eb
  unfold insP at eb'
  wtm_at "z"
  refine take_w eb hb2 fun Lc kc ec => ?_
  have hc2:=kc.get hjk hb2
  wtm_at "z"
  refine take_row_w ec hc2 hjk hr hd1 (by show ("else":Str) ≠ "+"; decide) fun Ld kd' ed => ?_
  have hd2':=kd'.get hjk hc2
  wtm_at "z"
  refine take_row_w ed hd2' hjk hr2 hd2 (by decide) fun Le ke ee => ?_
  wtm_at "z"
  exact ⟨rfl,(((ka.trans kb).trans kc).trans kd').trans ke,ee⟩
theorem init_w {Q:D → Sto → Prop} {L:Sto} {k:Nat} {y:Str} (hk:L[k]? = some (.ins "Parts" [])) (hy:y.length ≤ 4000) (q:∀ L',Keep k L L' → L'[k]? = some (insP L.length 0) → L'[L.length]? = some (.lst ((Txt.split y bk1).map .str)) → Q .non L'):W2 (G_Parts_init [.ref k,.str y] L) Q:=by
 have hlt:k < L.length:=(List.getElem?_eq_some_iff.mp hk).1
 unfold G_Parts_init
 have hs:=split_len y 32
 have hs2:=split_lens y 32
 refine w_runB rfl ?_
 unfold B_Parts_init
 wtm_at "z"
 refine g_split (by decide) (by omega) (by show (Txt.split y ⟨#[32]⟩).length ≤ _; omega) (fun p hp => by have:=hs2 p hp; omega) ?_
 wtm_at "z"
 refine g_putO (fs:=putD "parts" (.ref L.length) []) (get_setS (get_app hk)) rfl rfl ?_
 wtm_at "z"
 have e1:(((L ++ [Ob.lst ((Txt.split y " ").map .str)]).set k (.ins "Parts" (putD "parts" (.ref L.length) []))).set k (.ins "Parts" (putD "taken" (.int 0) (putD "parts" (.ref L.length) []))))[k]? = some (insP L.length 0):=by
  rw [get_setS (get_setS (get_app hk))]; rfl
 have e2:(((L ++ [Ob.lst ((Txt.split y " ").map .str)]).set k (.ins "Parts" (putD "parts" (.ref L.length) []))).set k (.ins "Parts" (putD "taken" (.int 0) (putD "parts" (.ref L.length) []))))[L.length]? = some (.lst ((Txt.split y bk1).map .str)):=by
  rw [List.getElem?_set_ne (by omega),List.getElem?_set_ne (by omega)]
  exact get_last
 refine ⟨fun p => ?_,q _ (((Keep.app _ _ _).trans (.set _ _ _)).trans (.set _ _ _)) e1 e2⟩
 exfalso
 obtain ⟨M,e⟩:=p
 have e3:=e1
 rw [← e,List.getElem?_append_left hlt,hk] at e3
 unfold insP at e3
 simp at e3
theorem read_w {Q:D → Sto → Prop} {L:Sto} {d:D} (hp:IsProg d) (q:Q d L):W2 (G_read [.str (jB (wG d))] L) Q:=by
 have hl:=wG_len hp
 unfold G_read
 refine w_run rfl ?_
 unfold B_read
 refine ws_seq (ws_set ?_)
 refine w_callB (w_consA (w_mkO ?_))
 wtm_at "z"
 refine init_w get_last (by omega) fun L1 k1 e1 e2 => ⟨rfl,?_⟩
 rw [split_prog hp] at e2
 wtm_at "z"
 refine take_program_w hp e1 e2 (by simp) fun L2 o k2 _ => ?_
 have hpre:L <+: L2:=(k1.trans k2).pre (List.prefix_append _ _) (Nat.le_refl _)
 wtm_at "z"
 refine check_w (tyB_prog hp) (progB_ok hp) ?_
 wtm_at "z"
 refine shown_w hp ?_
 wtm_at "z"
 exact ⟨hp.noRef,hpre,q⟩
end L3
set_option maxHeartbeats 4000000
--BEGIN WPT
--END WPT
namespace L3
open PySem PySem.Spec PyProof.Rows L2
noncomputable def Asc (x:Str):Prop:=∀ c ∈ x.cps.toList,c < 128
theorem eqP_str {x y:Str}:eqP (.str x) (.str y) = decide (x = y):=by
 by_cases h:x = y
 ·subst h; rw [eqP_self rfl]; simp
 ·rw [decide_eq_false h]
  simp [eqP,toV,eqV,h]
theorem inD_strs {a:Str} {xs:List Str}:inD (.str a) (xs.map .str) = decide (a ∈ xs):=by
 unfold inD
 induction xs with
 | nil => simp
 | cons x r ih =>
  rw [List.map_cons,List.any_cons,ih,eqP_str]
  by_cases h:x = a
  ·simp [h]
  ·have h':¬ a = x:=fun z => h z.symm
   simp [h,h']
theorem eqN_str {n:Nat} {L:Sto} {x y:Str}:eqN (n + 1) L (.str x) (.str y) = some (decide (x = y)):=by
 rw [eqN_succ]
 simp only [flatD,if_true]
 rw [eqP_str]
theorem strs_zip {L:Sto}:∀ (xs ys:List Str),∃ b,allO (((xs.map D.str).zip (ys.map D.str)).map fun z => eqN 29 L z.1 z.2) = some b ∧ (b && xs.length == ys.length) = decide (xs = ys)
 | [],[] => ⟨true,rfl,by simp⟩
 | [],y :: ys => ⟨true,rfl,by simp⟩
 | x :: xs,[] => ⟨true,rfl,by simp⟩
 | x :: xs,y :: ys => by
  obtain ⟨b,e,h⟩:=strs_zip xs ys
  refine ⟨decide (x = y) && b,?_,?_⟩
  ·rw [List.map_cons,List.map_cons,List.zip_cons_cons,List.map_cons,allO_cons,e]
   rfl
  ·rw [Bool.and_assoc]
   have e2:((x :: xs).length == (y :: ys).length) = (xs.length == ys.length):=by simp
   rw [e2,h]
   by_cases hxy:x = y
   ·subst hxy; by_cases h2:xs = ys <;> simp [h2]
   ·simp [hxy]
where
 allO_cons {x y:Str} {r:List (Option Bool)}:allO (eqN 29 L (.str x) (.str y) :: r) = (allO r).map (decide (x = y) && ·):=by
  rw [show (29:Nat) = 28 + 1 from rfl,eqN_str]; rfl
section
variable {Q:D → Sto → Prop} {L:Sto} {a b:Nat} {xs ys:List Str}
theorem eqN_strs (e1:L[a]? = some (.lst (xs.map .str))) (e2:L[b]? = some (.lst (ys.map .str))):eqN 30 L (.ref a) (.ref b) = some (decide (xs = ys)):=by
 obtain ⟨c,h1,h2⟩:=strs_zip (L:=L) xs ys
 rw [show (30:Nat) = 29 + 1 from rfl,eqN_succ]
 simp only [flatD,shp,e1,e2,Option.bind_some]
 simp only [Bool.false_eq_true,if_false,if_true]
 rw [h1,Option.map_some,List.length_map,List.length_map,h2]
theorem g_eqL (e1:L[a]? = some (.lst (xs.map .str))) (e2:L[b]? = some (.lst (ys.map .str))) (h:Q (.bl (decide (xs = ys))) L):W2 (gEqD (.ref a) (.ref b) L) Q:=by
 refine ⟨_,_,?_,h⟩
 unfold gEqD
 rw [if_neg (by simp [scalD,flatD]),if_pos (by simp [seqD,shp,e1,e2]),eqN_strs e1 e2]
 rfl
theorem g_neL (e1:L[a]? = some (.lst (xs.map .str))) (e2:L[b]? = some (.lst (ys.map .str))) (h:Q (.bl (!decide (xs = ys))) L):W2 (gNeD (.ref a) (.ref b) L) Q:=by
 refine ⟨_,_,?_,h⟩
 unfold gNeD
 rw [if_neg (by simp [scalD,flatD]),if_pos (by simp [seqD,shp,e1,e2])]
 simp only [shp,e1,e2,if_true]
 rw [eqN_strs e1 e2]
 rfl
end
theorem cutTo {xs:List D} {n:Nat}:cutD xs none (some (n:Int)) = xs.take n:=by
 unfold cutD
 rw [HT.sIx_nat,HT.sIx_none,List.drop_zero,Nat.sub_zero,List.take_eq_take_iff]
 omega
theorem cutFrom {xs:List D} {n:Nat}:cutD xs (some (n:Int)) none = xs.drop n:=by
 unfold cutD
 rw [HT.sIx_nat,HT.sIx_none]
 by_cases h:n ≤ xs.length
 ·rw [Nat.min_eq_left h,List.take_of_length_le (by simp)]
 ·rw [Nat.min_eq_right (by omega),List.drop_eq_nil_of_le (Nat.le_refl _),List.drop_eq_nil_of_le (by omega),List.take_nil]
theorem cutMid {xs:List D} {n m:Nat} (hn:n ≤ xs.length) (hm:m ≤ xs.length):cutD xs (some (n:Int)) (some (m:Int)) = (xs.drop n).take (m - n):=by
 unfold cutD
 rw [HT.sIx_nat,HT.sIx_nat,Nat.min_eq_left hn,Nat.min_eq_left hm]
theorem nth_text {b:Str} (h:b ∈ ([("1":Str),"2","-1","-2"]:List Str)):∃ n,NthOk n ∧ (toString n:Str) = b ∧ PySem.intText? b = some n ∧ b.length ≤ 640:=by
 simp only [List.mem_cons,List.not_mem_nil,or_false] at h
 rcases h with rfl | rfl | rfl | rfl
 ·exact ⟨1,.inl rfl,by decide +kernel,by decide +kernel,by decide +kernel⟩
 ·exact ⟨2,.inr (.inl rfl),by decide +kernel,by decide +kernel,by decide +kernel⟩
 ·exact ⟨-1,.inr (.inr (.inl rfl)),by decide +kernel,by decide +kernel,by decide +kernel⟩
 ·exact ⟨-2,.inr (.inr (.inr rfl)),by decide +kernel,by decide +kernel,by decide +kernel⟩
theorem nth_inT {n:Int} (h:NthOk n):(toString n:Str) ∈ ([("1":Str),"2","-1","-2"]:List Str):=by
 rcases h with rfl | rfl | rfl | rfl <;> decide +kernel
theorem g_intT {Q:D → Sto → Prop} {L:Sto} {z:Str} {n:Int} (e:PySem.intText? z = some n) (hz:z.length ≤ 640) (h:Q (.int n) L):W2 (gIntT [.str z] L) Q:=⟨_,_,by simp only [gIntT]; rw [if_pos hz,e]; rfl,h⟩
theorem g_notinS {Q:D → Sto → Prop} {L:Sto} {a:Str} (xs:List Str) (h:Q (.bl (!decide (a ∈ xs))) L):W2 (gInN true (.str a) (.tup (xs.map .str)) L) Q :=
 g_notinT (by simp [flatD]) (by rw [inD_strs]; exact h)
theorem g_inSs {Q:D → Sto → Prop} {L:Sto} {a:Str} (xs:List Str) (h:Q (.bl (decide (a ∈ xs))) L):W2 (gInN false (.str a) (.tup (xs.map .str)) L) Q :=
 g_inT (by simp [flatD]) (by rw [inD_strs]; exact h)
noncomputable abbrev ks5:List Str:=["small","great","figure","mark","any"]
noncomputable abbrev es2:List Str:=["ahead","behind"]
noncomputable abbrev ns4:List Str:=["1","2","-1","-2"]
noncomputable abbrev ds3:List Str:=["copy","raise","sink"]
theorem rplace_w {Q:D → Sto → Prop} {L:Sto} {k:Nat} {a b c:Str} (hk:L[k]? = some (.lst [.str a,.str b,.str c])) (h1:∀ p,IsPlace p → wP p = [a,b,c] → Q p L) (h0:(∀ p,IsPlace p → wP p ≠ [a,b,c]) → Q .non L):W2 (G_lw_read_place [.ref k] L) Q:=by
 unfold G_lw_read_place
 refine w_run rfl ?_
 unfold B_lw_read_place
 wtm_at "z"
 refine g_ixR hk rfl ?_
 wtm_at "z"
 refine g_notinS ks5 ?_
 wtm_at "z"
 refine br_dec (fun ha => ?_) (fun ha => ?_)
 ·wtm_at "z"
  refine g_ixR hk rfl ?_
  wtm_at "z"
  refine g_notinS es2 ?_
  wtm_at "z"
  refine br_dec (fun hc => ?_) (fun hc => ?_)
  ·wtm_at "z"
   refine g_ixR hk rfl ?_
   wtm_at "z"
   refine g_notinS ns4 ?_
   wtm_at "z"
   refine br_dec (fun hb => ?_) (fun hb => ?_)
   ·obtain ⟨n,hn,rfl,hi,hl⟩:=nth_text hb
    wtm_at "z"
    refine g_ixR hk rfl ?_
    wtm_at "z"
    refine g_ixR hk rfl ?_
    wtm_at "z"
    refine g_intT hi hl ?_
    wtm_at "z"
    refine g_ixR hk rfl ?_
    wtm_at "z"
    refine ⟨rfl,List.prefix_refl _,h1 _ ⟨a,n,c,rfl,hn,by simpa using hc,ha⟩ rfl⟩
   ·wtm_at "z"
    refine ⟨rfl,List.prefix_refl _,h0 ?_⟩
    rintro p ⟨k',n,e,rfl,hn,he,hk'⟩ hw
    simp only [wP,List.cons.injEq] at hw
    exact hb (by rw [← hw.2.1]; exact nth_inT hn)
  ·wtm_at "z"
   refine ⟨rfl,List.prefix_refl _,h0 ?_⟩
   rintro p ⟨k',n,e,rfl,hn,he,hk'⟩ hw
   simp only [wP,List.cons.injEq] at hw
   exact hc (by rw [← hw.2.2.1]; simpa using he)
 ·wtm_at "z"
  refine ⟨rfl,List.prefix_refl _,h0 ?_⟩
  rintro p ⟨k',n,e,rfl,hn,he,hk'⟩ hw
  simp only [wP,List.cons.injEq] at hw
  exact ha (by rw [← hw.1]; exact hk')
end L3
set_option maxHeartbeats 4000000
--BEGIN WPT
--END WPT
namespace L3
open PySem PySem.Spec PyProof.Rows L2
theorem sign_ok:∀ c:Nat,c < 128 → (Txt.isalnum ⟨#[c]⟩ || inStr ⟨#[c]⟩ " -.,/") = decide (c ∈ codes):=by decide +kernel
theorem g_ninS {Q:D → Sto → Prop} {L:Sto} {x y:Str} (h:Q (.bl (!inStr x y)) L):W2 (gInN true (.str x) (.str y) L) Q:=⟨_,_,rfl,h⟩
noncomputable def wdB (w:Str):Bool:=decide (∀ c ∈ w.cps.toList,c ∈ codes) && (decide (1 ≤ w.length) && decide (w.length ≤ 8))
theorem lw_is_word_w {Q:D → Sto → Prop} {L:Sto} {w:Str} (ha:Asc w) (h:Q (.bl (wdB w)) L):W2 (G_lw_is_word [.str w] L) Q:=by
 unfold G_lw_is_word
 refine w_run rfl ?_
 unfold B_lw_is_word
 wtm_at "z"
 refine ws_loop (fun j ρ L' => ∃ a,ρ = [some (.str w),a] ∧ L' = L ∧ ∀ c ∈ w.cps.toList.take j,c ∈ codes) _ 0 _ _ ⟨none,rfl,rfl,by simp⟩ ?_ ?_
 ·rintro i x ρ L' hx ⟨a,rfl,rfl,hc⟩
  refine ⟨rfl,?_⟩
  unfold sgs at hx
  rw [List.getElem?_map] at hx
  obtain ⟨c,hci,rfl⟩:=Option.map_eq_some_iff.mp hx
  have hcm:c ∈ w.cps.toList:=List.mem_of_getElem? hci
  have hs:=sign_ok c (ha c hcm)
  have more:c ∈ codes → ∀ d ∈ w.cps.toList.take (0 + i + 1),d ∈ codes:=fun hcc d hd => by
   rw [List.take_succ,Nat.zero_add,hci] at hd
   rcases List.mem_append.mp hd with hd | hd
   ·exact hc d (by rw [Nat.zero_add]; exact hd)
   ·rw [show d = c by simpa using hd]; exact hcc
  wtm_at "z"
  refine br_both (fun e1 => ?_) (fun e1 => ?_)
  ·rw [e1,Bool.true_or] at hs
   wtm_at "z"
   exact ⟨_,rfl,rfl,more (of_decide_eq_true hs.symm)⟩
  ·rw [e1,Bool.false_or] at hs
   wtm_at "z"
   refine g_ninS ?_
   wtm_at "z"
   rw [hs]
   refine br_dec (fun h2 => ?_) (fun h2 => ?_)
   ·wtm_at "z"
    exact ⟨_,rfl,rfl,more h2⟩
   ·wtm_at "z"
    have e:wdB w = false:=by unfold wdB; rw [decide_eq_false fun z => h2 (z c hcm)]; rfl
    rw [e] at h
    exact ⟨rfl,List.prefix_refl _,h⟩
 ·rintro ρ L' ⟨a,rfl,rfl,hc⟩
  refine ⟨rfl,?_⟩
  have hl:(sgs w).length = w.cps.toList.length:=by unfold sgs; simp
  rw [Nat.zero_add,hl,List.take_length] at hc
  have e0:wdB w = (decide (1 ≤ w.length) && decide (w.length ≤ 8)):=by unfold wdB; rw [decide_eq_true hc]; rfl
  rw [e0] at h
  wtm_at "z"
  refine br_dec (fun h1 => ?_) (fun h1 => ?_)
  ·wtm_at "z"
   refine ⟨rfl,List.prefix_refl _,?_⟩
   rw [decide_eq_true (show 1 ≤ w.length by omega),Bool.true_and] at h
   rw [show decide ((w.length:Int) ≤ 8) = decide (w.length ≤ 8) from decide_eq_decide.mpr (by omega)]
   exact h
  ·rw [decide_eq_false (show ¬ 1 ≤ w.length by omega),Bool.false_and] at h
   exact ⟨rfl,List.prefix_refl _,h⟩
theorem wdB_ok {w:Str} (h:wdB w = true):SgOk w ∧ w.length ≤ 8 ∧ 0 < w.length:=by
 unfold wdB at h
 rw [Bool.and_eq_true,Bool.and_eq_true,decide_eq_true_iff,decide_eq_true_iff,decide_eq_true_iff] at h
 exact ⟨h.1,h.2.2,h.2.1⟩
theorem wdB_of {w:Str} (h1:SgOk w) (h2:w.length ≤ 8) (h3:0 < w.length):wdB w = true:=by
 unfold wdB
 rw [decide_eq_true (show ∀ c ∈ w.cps.toList,c ∈ codes from h1),decide_eq_true (show 1 ≤ w.length from h3),decide_eq_true h2]; rfl
end L3
set_option maxHeartbeats 4000000
--BEGIN WPT
--END WPT
namespace L3
open PySem PySem.Spec PyProof.Rows L2
theorem mem_joinC {c d:Nat}:∀ {ws:List Str},c ∈ (Str.join ⟨#[d]⟩ ws).cps.toList → c = d ∨ ∃ w ∈ ws,c ∈ w.cps.toList
 | [],h => by
  have:c ∈ (Str.empty).cps.toList:=h
  simp [Str.empty] at this
 | [w],h => .inr ⟨w,List.mem_cons_self,h⟩
 | w :: v :: r,h => by
  rw [join_cps (by simp)] at h
  rcases List.mem_append.mp h with h | h
  ·exact .inr ⟨w,List.mem_cons_self,h⟩
  ·rcases List.mem_cons.mp h with h | h
   ·exact .inl h
   ·rcases mem_joinC (ws:=v :: r) h with h | ⟨u,hu,h⟩
    ·exact .inl h
    ·exact .inr ⟨u,List.mem_cons_of_mem _ hu,h⟩
theorem split_mem {x:Str} {c d:Nat} {p:Str} (hp:p ∈ Txt.split x ⟨#[c]⟩) (h:d ∈ p.cps.toList):d ∈ x.cps.toList:=by
 rw [← StrLaws.join_split x ⟨#[c]⟩]
 exact repl_back.mem_join hp h
theorem repl_asc {x:Str} {c d:Nat} (hd:d < 128) (h:Asc x):Asc (Txt.replace x ⟨#[c]⟩ ⟨#[d]⟩):=fun e he => by
 rw [StrLaws.replace_one] at he
 rcases mem_joinC he with rfl | ⟨w,hw,hc⟩
 ·exact hd
 ·exact h e (split_mem hw hc)
theorem repl_lenN {x:Str} {c d:Nat} (h:x.length ≤ 4000):(Txt.replace x ⟨#[c]⟩ ⟨#[d]⟩).length ≤ 16100000:=by
 rw [StrLaws.replace_one]
 have h1:=joinC_len d (Txt.split x ⟨#[c]⟩)
 have h2:=split_len x c
 have h3:((Txt.split x ⟨#[c]⟩).map (·.length)).sum ≤ (Txt.split x ⟨#[c]⟩).length * 4000:=sum_le fun p hp => Nat.le_trans (split_lens x c p hp) h
 omega
theorem piece_word {p:D} {x:Str} {rest r:List Str} (h:IsPiece p) (e:("word":Str) :: x :: r = wPc p ++ rest):∃ w,p = .tup [.str "word",.str w] ∧ (SgOk w ∧ w.length ≤ 8 ∧ 0 < w.length) ∧ x = Txt.replace w bk1 ⟨#[95]⟩ ∧ r = rest:=by
 rcases h with ⟨w,rfl,h1,h2,h3⟩ | ⟨d,p1,p2,rfl,hd,hp,hq⟩
 ·simp only [wPc,List.cons_append,List.nil_append,List.cons.injEq,true_and] at e
  exact ⟨w,rfl,⟨h1,h2,h3⟩,e.1,e.2⟩
 ·rw [wPc_str hp] at e
  simp only [List.cons_append,List.cons.injEq] at e
  exact absurd e.1.symm (by rcases hd with rfl | rfl | rfl <;> decide)
theorem piece_len {p:D} {ws rest:List Str} (h:IsPiece p) (hw:∀ x r,ws ≠ ("word":Str) :: x :: r) (e:ws = wPc p ++ rest):∃ d p1 p2,p = .tup [.str d,p1,p2] ∧ IsDeed d ∧ IsPlace p1 ∧ IsPlace p2 ∧ ws = d :: (wP p1 ++ (wP p2 ++ rest)):=by
 rcases h with ⟨w,rfl,h1,h2,h3⟩ | ⟨d,p1,p2,rfl,hd,hp,hq⟩
 ·exact absurd e (hw _ _)
 ·rw [wPc_str hp] at e
  exact ⟨d,p1,p2,rfl,hd,hp,hq,by rw [e]; simp⟩
theorem wP3 {p:D} (h:IsPlace p):(wP p).length = 3:=by obtain ⟨_,_,_,rfl,_⟩:=h; rfl
theorem g_len7 {ws:List Str} (h:¬ ws.length < 7):∃ d a b c a' b' c' r,ws = d :: a :: b :: c :: a' :: b' :: c' :: r:=by
 match ws,h with
 | d :: a :: b :: c :: a' :: b' :: c' :: r,_ => exact ⟨d,a,b,c,a',b',c',r,rfl⟩
 | [],h => simp at h
 | [_],h => simp at h
 | [_,_],h => simp at h
 | [_,_,_],h => simp at h
 | [_,_,_,_],h => simp at h
 | [_,_,_,_,_],h => simp at h
 | [_,_,_,_,_,_],h => simp at h
theorem rpiece_w {Q:D → Sto → Prop} {L:Sto} {k:Nat} {ws:List Str} (hk:L[k]? = some (.lst (ws.map .str))) (hA:∀ w ∈ ws,Asc w) (hF:∀ w ∈ ws,Free 32 w) (hl:∀ w ∈ ws,w.length ≤ 4000)
  (h1:∀ (L':Sto) (m m2:Nat) (p:D) (rest:List Str),L.length ≤ m → L.length ≤ m2 → L <+: L' → L'[m]? = some (.lst [p,.ref m2]) → L'[m2]? = some (.lst (rest.map .str)) → IsPiece p → ws = wPc p ++ rest → Q (.ref m) L')
  (h0:(∀ p rest,IsPiece p → ws ≠ wPc p ++ rest) → Q .non L):W2 (G_lw_read_piece [.ref k] L) Q:=by
 unfold G_lw_read_piece
 refine w_runX rfl ?_
 unfold B_lw_read_piece
 have c1:cutD (ws.map D.str) none (some 1) = (ws.take 1).map .str:=by rw [List.map_take]; exact cutTo (n:=1)
 have hlen:((ws.map D.str).length:Int) = (ws.length:Int):=by simp
 refine ws_cut (fun ρ L' => ρ = [some (.ref k),none,none,none] ∧ L <+: L' ∧ ∀ x r,ws ≠ ("word":Str) :: x :: r) ?_ ?_
 ·wtm_at "z"
  rw [c1]
  refine g_eqL (xs:=ws.take 1) (ys:=["word"]) (by simp) get_last ?_
  have hk2:(L ++ [Ob.lst (List.map D.str (List.take 1 ws))] ++ [Ob.lst [D.str "word"]])[k]? = some (.lst (ws.map .str)):=get_app (get_app hk)
  wtm_at "z"
  refine br_dec (fun hw => ?_) (fun hw => ?_)
  ·wtm_at "z"
   rw [hlen]
   refine br_dec (fun hw2 => ?_) (fun hw2 => ?_)
   ·obtain ⟨x,r,rfl⟩:∃ x r,ws = ("word":Str) :: x :: r:=by
     match ws,hw,hw2 with
     | [],hw,_ => cases hw
     | [a],hw,hw2 => simp at hw2
     | a :: x :: r,hw,_ => exact ⟨x,r,by simp at hw; rw [hw]⟩
    have hx1:=hl x (by simp)
    have hx2:=hF x (by simp)
    have hx3:=hA x (by simp)
    have hr:=repl_lenN (x:=x) (c:=95) (d:=32) hx1
    have hus:(" ":Str).length = 1:=by decide +kernel
    have hbk:Txt.replace (Txt.replace x ⟨#[95]⟩ ⟨#[32]⟩) bk1 ⟨#[95]⟩ = x:=repl_back hx2
    wtm_at "z"
    refine g_ixR hk2 (d:=.str x) (atI_nat (j:=1) rfl) ?_
    wtm_at "z"
    refine g_repl (by rw [hus]; omega) (Nat.le_trans hr (by decide)) ?_
    wtm_at "z"
    refine lw_is_word_w (repl_asc (by decide) hx3) ?_
    wtm_at "z"
    have c2:cutD (List.map D.str (("word":Str) :: x :: r)) (some 2) none = r.map .str:=cutFrom (n:=2)
    refine br_both (fun e => ?_) (fun e => ?_)
    ·obtain ⟨hs1,hs2,hs3⟩:=wdB_ok e
     wtm_at "z"
     rw [c2]
     refine ⟨by wtm_at "z_pf",fun z => (nomatch z),fun _ => h1 _ _ _ (.tup [.str "word",.str (Txt.replace x ⟨#[95]⟩ ⟨#[32]⟩)]) r (by simp) (by simp) (by wtm_at "z_pf") get_last (get_app get_last) (.inl ⟨_,rfl,hs1,hs2,hs3⟩) ?_⟩
     show ("word":Str) :: x :: r = ("word":Str) :: Txt.replace (Txt.replace x ⟨#[95]⟩ ⟨#[32]⟩) bk1 ⟨#[95]⟩ :: r
     rw [hbk]
    ·wtm_at "z"
     refine ⟨by wtm_at "z_pf",fun _ => h0 fun p rest hp e2 => ?_,fun z => (nomatch z)⟩
     obtain ⟨w,rfl,⟨hw1,hw2',hw3⟩,hxw,rfl⟩:=piece_word hp e2
     have:Txt.replace x ⟨#[95]⟩ ⟨#[32]⟩ = w:=by rw [hxw]; exact repl_back hw1.free
     have e':wdB (Txt.replace x ⟨#[95]⟩ ⟨#[32]⟩) = false:=e
     rw [this,wdB_of hw1 hw2' hw3] at e'
     cases e'
   ·wtm_at "z"
    refine ⟨rfl,(List.prefix_append _ _).trans (List.prefix_append _ _),?_⟩
    rintro x r rfl
    simp at hw2
    omega
  ·wtm_at "z"
   refine ⟨rfl,(List.prefix_append _ _).trans (List.prefix_append _ _),?_⟩
   rintro x r rfl
   exact hw rfl
 ·rintro _ L' ⟨rfl,hpre,hnw⟩
  have hk':L'[k]? = some (.lst (ws.map .str)):=by
   obtain ⟨M,rfl⟩:=hpre
   exact get_app hk
  have non:(∀ p rest,IsPiece p → ws ≠ wPc p ++ rest) → ∀ {L2:Sto},L <+: L2 → (L <+: L2 ∧ (D.non.noRef = true → Q .non L) ∧ (D.non.noRef = false → Q .non L2)):=fun hh L2 hp => ⟨hp,fun _ => h0 hh,fun z => (nomatch z)⟩
  wtm_at "z"
  rw [hlen]
  refine br_dec (fun hlt => ?_) (fun hlt => ?_)
  ·wtm_at "z"
   refine non (fun p rest hp e => ?_) hpre
   obtain ⟨d,p1,p2,_,_,hp1,hp2,e⟩:=piece_len hp hnw e
   have:=congrArg List.length e
   simp [wP3 hp1,wP3 hp2] at this
   omega
  ·obtain ⟨d,a,b,c,a',b',c',r,rfl⟩:=g_len7 (ws:=ws) (by omega)
   wtm_at "z"
   refine g_ixR hk' (d:=.str d) (atI_nat (j:=0) rfl) ?_
   wtm_at "z"
   refine g_notinS ds3 ?_
   wtm_at "z"
   refine br_dec (fun hd => ?_) (fun hd => ?_)
   ·have c14:cutD (List.map D.str (d :: a :: b :: c :: a' :: b' :: c' :: r)) (some 1) (some 4) = [.str a,.str b,.str c]:=cutMid (n:=1) (m:=4) (by simp) (by simp)
    have c47:cutD (List.map D.str (d :: a :: b :: c :: a' :: b' :: c' :: r)) (some 4) (some 7) = [.str a',.str b',.str c']:=cutMid (n:=4) (m:=7) (by simp) (by simp)
    have c7:cutD (List.map D.str (d :: a :: b :: c :: a' :: b' :: c' :: r)) (some 7) none = r.map .str:=cutFrom (n:=7)
    have hdd:IsDeed d:=by simpa [IsDeed] using hd
    have no1:(∀ p,IsPlace p → wP p ≠ [a,b,c]) → ∀ p rest,IsPiece p → d :: a :: b :: c :: a' :: b' :: c' :: r ≠ wPc p ++ rest:=fun hh p rest hp e => by
     obtain ⟨d',p1,p2,_,_,hp1,hp2,e⟩:=piece_len hp hnw e
     obtain ⟨x,n,y,rfl,hn,hy,hx⟩:=hp1
     simp only [wP,List.cons_append,List.nil_append,List.cons.injEq] at e
     exact hh _ ⟨x,n,y,rfl,hn,hy,hx⟩ (by simp only [wP]; rw [e.2.1,e.2.2.1,e.2.2.2.1])
    have no2:(∀ p,IsPlace p → wP p ≠ [a',b',c']) → ∀ p rest,IsPiece p → d :: a :: b :: c :: a' :: b' :: c' :: r ≠ wPc p ++ rest:=fun hh p rest hp e => by
     obtain ⟨d',p1,p2,_,_,hp1,hp2,e⟩:=piece_len hp hnw e
     obtain ⟨x,n,y,rfl,hn,hy,hx⟩:=hp1
     obtain ⟨x2,n2,y2,rfl,hn2,hy2,hx2⟩:=hp2
     simp only [wP,List.cons_append,List.nil_append,List.cons.injEq] at e
     exact hh _ ⟨x2,n2,y2,rfl,hn2,hy2,hx2⟩ (by simp only [wP]; rw [e.2.2.2.2.1,e.2.2.2.2.2.1,e.2.2.2.2.2.2.1])
    wtm_at "z"
    rw [c14]
    refine rplace_w get_last (fun p1 hp1 hw1 => ?_) (fun hno => ?_)
    ·obtain ⟨x1,n1,y1,rfl,hn1,hy1,hx1⟩:=hp1
     have hp1:IsPlace (.tup [.str x1,.int n1,.str y1]):=⟨x1,n1,y1,rfl,hn1,hy1,hx1⟩
     wtm_at "z"
     rw [c47]
     refine rplace_w get_last (fun p2 hp2 hw2 => ?_) (fun hno => ?_)
     ·obtain ⟨x2,n2,y2,rfl,hn2,hy2,hx2⟩:=hp2
      have hp2:IsPlace (.tup [.str x2,.int n2,.str y2]):=⟨x2,n2,y2,rfl,hn2,hy2,hx2⟩
      wtm_at "z"
      refine g_ixR (get_app (get_app hk')) (d:=.str d) (atI_nat (j:=0) rfl) ?_
      wtm_at "z"
      rw [c7]
      have hpre2:∀ {A B C E:List Ob},L <+: L' ++ A ++ B ++ C ++ E:=fun {A B C E} => (((hpre.trans (List.prefix_append _ _)).trans (List.prefix_append _ _)).trans (List.prefix_append _ _)).trans (List.prefix_append _ _)
      refine ⟨hpre2,fun z => (nomatch z),fun _ => h1 _ _ _ (.tup [.str d,.tup [.str x1,.int n1,.str y1],.tup [.str x2,.int n2,.str y2]]) r (by have:=hpre.length_le; simp; omega) (by have:=hpre.length_le; simp; omega) hpre2 get_last (get_app get_last) (.inr ⟨d,_,_,rfl,hdd,hp1,hp2⟩) ?_⟩
      rw [wPc_str hp1,hw1,hw2]
      rfl
     ·wtm_at "z"
      exact non (no2 hno) ((hpre.trans (List.prefix_append _ _)).trans (List.prefix_append _ _))
    ·wtm_at "z"
     rw [c47]
     refine rplace_w get_last (fun p2 hp2 hw2 => ?_) (fun hno2 => ?_)
     ·wtm_at "z"
      exact non (no1 hno) ((hpre.trans (List.prefix_append _ _)).trans (List.prefix_append _ _))
     ·wtm_at "z"
      exact non (no1 hno) ((hpre.trans (List.prefix_append _ _)).trans (List.prefix_append _ _))
   ·wtm_at "z"
    refine non (fun p rest hp e => ?_) hpre
    obtain ⟨d',p1,p2,_,hd',hp1,hp2,e⟩:=piece_len hp hnw e
    simp only [List.cons.injEq] at e
    rw [e.1] at hd
    exact hd (by rcases hd' with rfl | rfl | rfl <;> decide)
end L3
set_option maxHeartbeats 4000000
--BEGIN WPT
--END WPT
namespace L3
open PySem PySem.Spec PyProof.Rows L2
noncomputable def wL:List D → List Str
 | [] => []
 | p :: r => ("+":Str) :: (wPc p ++ wL r)
noncomputable def noPlus (rest:List Str):Prop:=∀ r,rest ≠ ("+":Str) :: r
theorem wL_wPs:∀ {ps:List D},0 < ps.length → ("+":Str) :: wPs ps = wL ps
 | [],h => by simp at h
 | [p],_ => by simp [wPs,wL]
 | p :: q :: r,_ => by
  have:=wL_wPs (ps:=q :: r) (by simp)
  show ("+":Str) :: (wPc p ++ ("+":Str) :: wPs (q :: r)) = _
  rw [this]; rfl
theorem wL_app:∀ {ps qs:List D},wL (ps ++ qs) = wL ps ++ wL qs
 | [],_ => rfl
 | p :: r,qs => by simp [wL,wL_app (ps:=r)]
theorem place_uniq {p q:D} (hp:IsPlace p) (hq:IsPlace q) (e:wP p = wP q):p = q:=by
 obtain ⟨a,n,b,rfl,hn,_,_⟩:=hp
 obtain ⟨a',n',b',rfl,hn',_,_⟩:=hq
 simp only [wP,List.cons.injEq,and_true] at e
 have h1:=nth_back hn
 rw [e.2.1,nth_back hn'] at h1
 rw [e.1,e.2.2,h1]
theorem piece_uniq {p q:D} {r r':List Str} (hp:IsPiece p) (hq:IsPiece q) (e:wPc p ++ r = wPc q ++ r'):p = q ∧ r = r':=by
 rcases hp with ⟨w,rfl,h1,h2,h3⟩ | ⟨d,p1,p2,rfl,hd,hp1,hp2⟩
 ·obtain ⟨w',rfl,⟨g1,_,_⟩,hx,hr⟩:=piece_word (x:=Txt.replace w bk1 ⟨#[95]⟩) (r:=r) hq e
  have e1:Txt.replace (Txt.replace w bk1 ⟨#[95]⟩) ⟨#[95]⟩ bk1 = w:=repl_back h1.free
  have e2:Txt.replace (Txt.replace w' bk1 ⟨#[95]⟩) ⟨#[95]⟩ bk1 = w':=repl_back g1.free
  rw [hx,e2] at e1
  exact ⟨by rw [e1],hr⟩
 ·rw [wPc_str hp1] at e
  have hnw:∀ x s,d :: (wP p1 ++ wP p2) ++ r ≠ ("word":Str) :: x :: s:=fun x s z => by
   simp only [List.cons_append,List.cons.injEq] at z
   rcases hd with rfl | rfl | rfl <;> exact absurd z.1 (by decide)
  obtain ⟨d',q1,q2,rfl,_,hq1,hq2,e'⟩:=piece_len hq hnw e
  simp only [List.cons_append,List.append_assoc,List.cons.injEq] at e'
  obtain ⟨e1,e2⟩:=List.append_inj e'.2 (by rw [wP3 hp1,wP3 hq1])
  obtain ⟨e3,e4⟩:=List.append_inj e2 (by rw [wP3 hp2,wP3 hq2])
  exact ⟨by rw [e'.1,place_uniq hp1 hq1 e1,place_uniq hp2 hq2 e3],e4⟩
theorem greedy:∀ {ps qs:List D} {cur rest:List Str},(∀ p ∈ ps,IsPiece p) → (∀ p ∈ qs,IsPiece p) → noPlus rest → wL ps ++ cur = wL qs ++ rest → ∃ rs,qs = ps ++ rs ∧ cur = wL rs ++ rest
 | [],qs,cur,rest,_,_,_,e => ⟨qs,rfl,e⟩
 | p :: ps,[],cur,rest,_,_,hn,e => absurd e.symm (hn _)
 | p :: ps,q :: qs,cur,rest,hp,hq,hn,e => by
  simp only [wL,List.cons_append,List.append_assoc,List.cons.injEq,true_and] at e
  obtain ⟨rfl,e2⟩:=piece_uniq (hp p List.mem_cons_self) (hq q List.mem_cons_self) e
  obtain ⟨rs,rfl,e3⟩:=greedy (fun z hz => hp z (List.mem_cons_of_mem _ hz)) (fun z hz => hq z (List.mem_cons_of_mem _ hz)) hn e2
  exact ⟨rs,rfl,e3⟩
theorem row_uniq {ps qs:List D} {r r':List Str} (hp:∀ p ∈ ps,IsPiece p) (hq:∀ p ∈ qs,IsPiece p) (hp0:0 < ps.length) (hq0:0 < qs.length) (hr:noPlus r) (hr':noPlus r') (e:wPs ps ++ r = wPs qs ++ r'):ps = qs ∧ r = r':=by
 have e':wL ps ++ r = wL qs ++ r':=by rw [← wL_wPs hp0,← wL_wPs hq0,List.cons_append,List.cons_append,e]
 obtain ⟨rs,rfl,e1⟩:=greedy hp hq hr' e'
 obtain ⟨ss,h1,e2⟩:=greedy hq hp hr e'.symm
 have hl:=congrArg List.length h1
 rw [List.length_append,List.length_append] at hl
 have z1:rs = []:=List.eq_nil_of_length_eq_zero (by omega)
 subst z1
 exact ⟨by simp,e1⟩
theorem pget {A B:Sto} {i:Nat} {x:Ob} (h:A <+: B) (e:A[i]? = some x):B[i]? = some x:=by
 obtain ⟨M,rfl⟩:=h
 exact get_app e
theorem rrow_w {Q:D → Sto → Prop} {L:Sto} {k:Nat} {ws:List Str} (hk:L[k]? = some (.lst (ws.map .str))) (hA:∀ w ∈ ws,Asc w) (hF:∀ w ∈ ws,Free 32 w) (hl:∀ w ∈ ws,w.length ≤ 4000) (hn:ws.length ≤ 5000)
  (h1:∀ (L':Sto) (m m2:Nat) (ps:List D) (rest:List Str),L <+: L' → L'[m]? = some (.lst [.tup ps,.ref m2]) → L'[m2]? = some (.lst (rest.map .str)) → (∀ p ∈ ps,IsPiece p) → 0 < ps.length → ps.length ≤ 3 → noPlus rest → ws = wPs ps ++ rest → Q (.ref m) L')
  (h0:(∀ ps rest,(∀ p ∈ ps,IsPiece p) → 0 < ps.length → ps.length ≤ 3 → noPlus rest → ws ≠ wPs ps ++ rest) → Q .non L):W2 (G_lw_read_row [.ref k] L) Q:=by
 have hkl:k < L.length:=(List.getElem?_eq_some_iff.mp hk).1
 unfold G_lw_read_row
 refine w_runX rfl ?_
 unfold B_lw_read_row
 have pA:Asc ("+":Str):=by unfold Asc; decide +kernel
 have pF:Free 32 ("+":Str):=by unfold Free; decide +kernel
 have pl:("+":Str).length ≤ 4000:=by decide +kernel
 have sub:∀ {ps:List D} {cur:List Str},("+":Str) :: ws = wL ps ++ cur → ∀ w ∈ cur,w = "+" ∨ w ∈ ws:=fun {ps cur} e w hw => by
  have:w ∈ ("+":Str) :: ws:=by rw [e]; exact List.mem_append_right _ hw
  exact List.mem_cons.mp this
 wtm_at "z"
 refine g_addL get_last (get_app (get_app hk)) (by simp; omega) ?_
 refine ws_cut (fun ρ L' => ∃ (ps:List D) (cur:List Str) (j:Nat) (fnd:Option D),ρ = [some (.ref j),some (.ref L.length),fnd] ∧ L <+: L' ∧ L'[L.length]? = some (.lst ps) ∧ L'[j]? = some (.lst (cur.map .str)) ∧ ("+":Str) :: ws = wL ps ++ cur ∧ (∀ p ∈ ps,IsPiece p) ∧ ps.length ≤ 3 ∧ noPlus cur) ?_ ?_
 ·refine ws_while (fun n ρ L' => ∃ (ps:List D) (cur:List Str) (j:Nat) (fnd:Option D),n = 4 - ps.length ∧ ρ = [some (.ref j),some (.ref L.length),fnd] ∧ L <+: L' ∧ L'[L.length]? = some (.lst ps) ∧ L'[j]? = some (.lst (cur.map .str)) ∧ ("+":Str) :: ws = wL ps ++ cur ∧ (∀ p ∈ ps,IsPiece p) ∧ ps.length ≤ 3) (n:=4) (by decide)
   ⟨[],("+":Str) :: ws,_,none,rfl,rfl,by wtm_at "z_pf",by simp,get_last,rfl,fun _ h => (nomatch h),by simp⟩ ?_
  rintro n ρ L' ⟨ps,cur,j,fnd,rfl,rfl,hpre,hrow,hj,hdec,hps,hp3⟩
  have hll:=hpre.length_le
  have c1:cutD (cur.map D.str) none (some 1) = (cur.take 1).map .str:=by rw [List.map_take]; exact cutTo (n:=1)
  have c2:cutD (cur.map D.str) (some 1) none = (cur.drop 1).map .str:=by rw [List.map_drop]; exact cutFrom (n:=1)
  wtm_at "z"
  rw [c1]
  refine g_eqL (xs:=cur.take 1) (ys:=["+"]) (by simp) get_last ?_
  have hj2:(L' ++ [Ob.lst (List.map D.str (List.take 1 cur))] ++ [Ob.lst [D.str "+"]])[j]? = some (.lst (cur.map .str)):=get_app (get_app hj)
  wtm_at "z"
  refine br_dec (fun hw => ?_) (fun hw => ?_)
  ·obtain ⟨tl,rfl⟩:∃ tl,cur = ("+":Str) :: tl:=by
    match cur,hw with
    | [],hw => cases hw
    | a :: r,hw => exact ⟨r,by simp at hw; rw [hw]⟩
   wtm_at "z"
   rw [c2,show List.drop 1 (("+":Str) :: tl) = tl from rfl]
   have hsub:∀ w ∈ tl,w = "+" ∨ w ∈ ws:=fun w hw => sub hdec w (List.mem_cons_of_mem _ hw)
   have no:(∀ p rest,IsPiece p → tl ≠ wPc p ++ rest) ∨ ps.length = 3 → ∀ qs rest,(∀ p ∈ qs,IsPiece p) → 0 < qs.length → qs.length ≤ 3 → noPlus rest → ws ≠ wPs qs ++ rest:=fun hh qs rest hq hq0 hq3 hnp e => by
    have e2:wL ps ++ ("+":Str) :: tl = wL qs ++ rest:=by rw [← hdec,e,← wL_wPs hq0]; rfl
    obtain ⟨rs,e3,e4⟩:=greedy hps hq hnp e2
    match rs,e3,e4 with
    | [],_,e4 => exact hnp _ e4.symm
    | q :: rs,e3,e4 =>
     rcases hh with hh | hh
     ·simp only [wL,List.cons_append,List.append_assoc,List.cons.injEq,true_and] at e4
      exact hh q _ (hq q (by rw [e3]; simp)) e4
     ·have:=congrArg List.length e3
      simp at this
      omega
   refine rpiece_w get_last (fun w hw => (hsub w hw).elim (fun z => z ▸ pA) (hA w)) (fun w hw => (hsub w hw).elim (fun z => z ▸ pF) (hF w)) (fun w hw => (hsub w hw).elim (fun z => z ▸ pl) (hl w)) (fun L2 m m2 p rest hml hm2l hpre2 hm hm2 hp hd => ?_) (fun hno => ?_)
   ·have hml':L.length < m:=by simp at hml; omega
    have hm2l':L.length < m2:=by simp at hm2l; omega
    have hrow2:L2[L.length]? = some (.lst ps):=pget hpre2 (get_app (get_app (get_app hrow)))
    have hpre3:L <+: L2:=(((hpre.trans (List.prefix_append _ _)).trans (List.prefix_append _ _)).trans (List.prefix_append _ _)).trans hpre2
    wtm_at "z"
    refine br_dec (fun h3 => ?_) (fun h3 => ?_)
    ·wtm_at "z"
     exact ⟨hpre3,fun _ => h0 (no (.inr (by omega))),fun z => (nomatch z)⟩
    ·wtm_at "z"
     refine g_ixR hm rfl ?_
     wtm_at "z"
     refine g_append hrow2 (by omega) ?_
     wtm_at "z"
     refine g_ixR (get_setN (by omega) hm) rfl ?_
     refine ⟨4 - (ps ++ [p]).length,by simp; omega,ps ++ [p],rest,m2,_,rfl,rfl,pre_set hpre3 (Nat.le_refl _),get_setS hrow2,get_setN (by omega) hm2,?_,?_,by simp; omega⟩
     ·rw [hdec,wL_app,hd]
      simp [wL]
     ·intro q hq
      rcases List.mem_append.mp hq with hq | hq
      ·exact hps q hq
      ·rw [show q = p by simpa using hq]; exact hp
   ·wtm_at "z"
    exact ⟨(((hpre.trans (List.prefix_append _ _)).trans (List.prefix_append _ _)).trans (List.prefix_append _ _)),fun _ => h0 (no (.inl hno)),fun z => (nomatch z)⟩
  ·wtm_at "z"
   exact ⟨ps,cur,j,fnd,rfl,(hpre.trans (List.prefix_append _ _)).trans (List.prefix_append _ _),get_app (get_app hrow),hj2,hdec,hps,hp3,fun r hr => hw (by rw [hr]; rfl)⟩
 ·rintro _ L' ⟨ps,cur,j,fnd,rfl,hpre,hrow,hj,hdec,hps,hp3,hnp⟩
  have hp0:0 < ps.length:=by
   match ps,hdec with
   | [],hdec => exact absurd hdec.symm (hnp _)
   | _ :: _,_ => simp
  have hws:ws = wPs ps ++ cur:=by
   rw [← wL_wPs hp0,List.cons_append,List.cons.injEq] at hdec
   exact hdec.2
  wtm_at "z"
  exact ⟨hpre.trans (List.prefix_append _ _),fun z => (nomatch z),fun _ => h1 _ _ _ ps cur (hpre.trans (List.prefix_append _ _)) get_last (get_app hj) hps hp0 hp3 hnp hws⟩
end L3
set_option maxHeartbeats 4000000
--BEGIN WPT
--END WPT
namespace L3
open PySem PySem.Spec PyProof.Rows L2
noncomputable abbrev hb2:List Str:=["has","begins"]
theorem rlook_w {Q:D → Sto → Prop} {L:Sto} {k:Nat} {a b:Str} (hk:L[k]? = some (.lst [.str a,.str b])) (h:Q (.bl (decide (a ∈ hb2) && decide (b ∈ ks5))) L):W2 (G_lw_is_look [.ref k] L) Q:=by
 unfold G_lw_is_look
 refine w_run rfl ?_
 unfold B_lw_is_look
 wtm_at "z"
 refine g_ixR hk rfl ?_
 wtm_at "z"
 refine g_inSs hb2 ?_
 wtm_at "z"
 refine br_dec (fun ha => ?_) (fun ha => ?_)
 ·rw [decide_eq_true ha,Bool.true_and] at h
  wtm_at "z"
  refine g_ixR hk rfl ?_
  wtm_at "z"
  refine g_inSs ks5 ?_
  exact ⟨rfl,List.prefix_refl _,h⟩
 ·rw [decide_eq_false ha,Bool.false_and] at h
  exact ⟨rfl,List.prefix_refl _,h⟩
theorem prog_do {d:D} {r:List Str} (h:IsProg d) (e:("do":Str) :: r = wG d):∃ qs,d = .tup [.str "do",.tup qs] ∧ (∀ p ∈ qs,IsPiece p) ∧ 0 < qs.length ∧ qs.length ≤ 3 ∧ r = wPs qs:=by
 rcases h with ⟨_,rfl,qs,rfl,h1,h2,h3⟩ | ⟨l,a,b,rfl,⟨w,k,rfl,_⟩,_,_⟩
 ·simp only [wG,wR,List.cons.injEq,true_and] at e
  exact ⟨qs,rfl,h1,h2,h3,e⟩
 ·simp only [wG,List.cons.injEq] at e
  exact absurd e.1 (by decide)
theorem prog_if {d:D} {w0:Str} {r:List Str} (h:IsProg d) (hw:w0 ≠ "do") (e:w0 :: r = wG d):∃ w k ps qs,d = .tup [.str "if",.tup [.str w,.str k],.tup ps,.tup qs] ∧ (w ∈ hb2 ∧ k ∈ ks5) ∧ ((∀ p ∈ ps,IsPiece p) ∧ 0 < ps.length ∧ ps.length ≤ 3) ∧ ((∀ p ∈ qs,IsPiece p) ∧ 0 < qs.length ∧ qs.length ≤ 3) ∧
  w0 = "if" ∧ r = w :: k :: ("do":Str) :: (wPs ps ++ ("else":Str) :: ("do":Str) :: wPs qs):=by
 rcases h with ⟨_,rfl,qs,rfl,h1,h2,h3⟩ | ⟨l,a,b,rfl,⟨w,k,rfl,hw',hk⟩,⟨ps,rfl,hp⟩,qs,rfl,hq⟩
 ·simp only [wG,wR,List.cons.injEq] at e
  exact absurd e.1 hw
 ·simp only [wG,wR,List.cons_append,List.cons.injEq] at e
  exact ⟨w,k,ps,qs,rfl,⟨by simpa using hw',hk⟩,hp,hq,e.1,e.2⟩
theorem np_nil:noPlus []:=fun r h => by cases h
theorem np_else {r:List Str}:noPlus (("else":Str) :: r):=fun s h => by
 simp only [List.cons.injEq] at h
 exact absurd h.1 (by decide)
theorem lw_read_w {Q:D → Sto → Prop} {L:Sto} {y:Str} (hy:y.length ≤ 4000) (hA:Asc y) (h1:∀ d,IsProg d → jB (wG d) = y → Q d L) (h0:(∀ d,IsProg d → jB (wG d) ≠ y) → Q .non L):W2 (G_lw_read [.str y] L) Q:=by
 have hs:=split_len y 32
 have hs2:=split_lens y 32
 have hne:=split_ne y 32
 have hjoin:jB (Txt.split y ⟨#[32]⟩) = y:=StrLaws.join_split _ _
 have wF:∀ w ∈ Txt.split y ⟨#[32]⟩,Free 32 w:=fun p hp => StrLaws.split_free y 32 p hp
 have wA:∀ w ∈ Txt.split y ⟨#[32]⟩,Asc w:=fun p hp c hc => hA c (split_mem hp hc)
 have wl:∀ w ∈ Txt.split y ⟨#[32]⟩,w.length ≤ 4000:=fun p hp => Nat.le_trans (hs2 p hp) hy
 have g1:∀ d,IsProg d → Txt.split y ⟨#[32]⟩ = wG d → Q d L:=fun d hd e => h1 d hd (by rw [← e]; exact hjoin)
 have g0:(∀ d,IsProg d → Txt.split y ⟨#[32]⟩ ≠ wG d) → Q .non L:=fun hh => h0 fun d hd e => hh d hd (by rw [← e]; exact split_prog hd)
 unfold G_lw_read
 refine w_run rfl ?_
 unfold B_lw_read
 wtm_at "z"
 refine g_split (by decide) (by omega) (by show (Txt.split y ⟨#[32]⟩).length ≤ _; omega) (fun p hp => by have:=hs2 p hp; omega) ?_
 have esp:Txt.split y " " = Txt.split y ⟨#[32]⟩:=rfl
 rw [esp]
 clear h1 h0
 generalize Txt.split y ⟨#[32]⟩ = ws at *
 obtain ⟨w0,r,rfl⟩:∃ w0 r,ws = w0 :: r:=by
  cases ws with
  | nil => exact absurd rfl hne
  | cons a b => exact ⟨a,b,rfl⟩
 have hk:(L ++ [Ob.lst (List.map D.str (w0 :: r))])[L.length]? = some (.lst ((w0 :: r).map .str)):=get_last
 have non:(∀ d,IsProg d → w0 :: r ≠ wG d) → ∀ {L2:Sto},L <+: L2 → (D.non.noRef = true ∧ L <+: L2 ∧ Q .non L):=fun hh L2 hp => ⟨rfl,hp,g0 hh⟩
 have hrl:r.length ≤ 5000:=by simp at hs; omega
 wtm_at "z"
 refine g_ixR hk (d:=.str w0) (atI_nat (j:=0) rfl) ?_
 wtm_at "z"
 refine br_dec (fun hdo => ?_) (fun hdo => ?_)
 ·subst hdo
  have c1:cutD (List.map D.str (("do":Str) :: r)) (some 1) none = r.map .str:=cutFrom (n:=1)
  wtm_at "z"
  rw [c1]
  refine rrow_w get_last (fun w hw => wA w (List.mem_cons_of_mem _ hw)) (fun w hw => wF w (List.mem_cons_of_mem _ hw)) (fun w hw => wl w (List.mem_cons_of_mem _ hw)) hrl (fun L2 m m2 ps rest hpre hm hm2 hps hp0 hp3 hnp hd => ?_) (fun hno => ?_)
  ·wtm_at "z"
   refine g_ixR hm rfl ?_
   wtm_at "z"
   refine g_neL (xs:=rest) (ys:=[]) (get_app hm2) get_last ?_
   wtm_at "z"
   have hpreL:L <+: L2 ++ [Ob.lst []]:=(((List.prefix_append _ _).trans (List.prefix_append _ _)).trans hpre).trans (List.prefix_append _ _)
   refine br_dec (fun hr => ?_) (fun hr => ?_)
   ·subst hr
    wtm_at "z"
    refine g_ixR (get_app hm) rfl ?_
    have hP:IsProg (.tup [.str "do",.tup ps]):=.inl ⟨_,rfl,ps,rfl,hps,hp0,hp3⟩
    wtm_at "z"
    exact ⟨hP.noRef,hpreL,g1 _ hP (by rw [hd]; simp [wG,wR])⟩
   ·wtm_at "z"
    refine non (fun d hdd e => ?_) hpreL
    obtain ⟨qs,_,hq,hq0,hq3,e⟩:=prog_do hdd e
    exact hr (row_uniq hps hq hp0 hq0 hnp np_nil (by rw [← hd,e]; simp)).2
  ·wtm_at "z"
   refine non (fun d hd e => ?_) ((List.prefix_append _ _).trans (List.prefix_append _ _))
   obtain ⟨qs,_,hq,hq0,hq3,e⟩:=prog_do hd e
   exact hno qs [] hq hq0 hq3 np_nil (by rw [e]; simp)
 ·wtm_at "z"
  refine g_ixR hk (d:=.str w0) (atI_nat (j:=0) rfl) ?_
  wtm_at "z"
  refine br_dec (fun hif => ?_) (fun hif => ?_)
  ·subst hif
   wtm_at "z"
   refine br_dec (fun hlt => ?_) (fun hlt => ?_)
   ·wtm_at "z"
    refine non (fun d hd e => ?_) (List.prefix_append _ _)
    obtain ⟨w,k,ps,qs,_,_,_,_,_,rfl⟩:=prog_if hd hdo e
    simp at hlt
    omega
   obtain ⟨a,b,c,t,rfl⟩:∃ a b c t,r = a :: b :: c :: t:=by
    match r,hlt with
    | a :: b :: c :: t,_ => exact ⟨a,b,c,t,rfl⟩
    | [],h => simp at h
    | [_],h => simp at h
    | [_,_],h => simp at h
   have c13:cutD (List.map D.str (("if":Str) :: a :: b :: c :: t)) (some 1) (some 3) = [.str a,.str b]:=cutMid (n:=1) (m:=3) (by simp) (by simp)
   have c4:cutD (List.map D.str (("if":Str) :: a :: b :: c :: t)) (some 4) none = t.map .str:=cutFrom (n:=4)
   wtm_at "z"
   rw [c13]
   refine rlook_w get_last ?_
   wtm_at "z"
   refine br_both (fun hab => ?_) (fun hab => ?_)
   ·rw [Bool.and_eq_true,decide_eq_true_iff,decide_eq_true_iff] at hab
    wtm_at "z"
    refine g_ixR (get_app hk) (d:=.str c) (atI_nat (j:=3) rfl) ?_
    wtm_at "z"
    refine br_dec (fun hc => ?_) (fun hc => ?_)
    ·subst hc
     have m4:∀ {w:Str},w ∈ t → w ∈ ("if":Str) :: a :: b :: ("do":Str) :: t:=fun {w} hw => by simp [hw]
     wtm_at "z"
     rw [c4]
     refine rrow_w get_last (fun w hw => wA w (m4 hw)) (fun w hw => wF w (m4 hw)) (fun w hw => wl w (m4 hw)) (by simp at hrl; omega) (fun L2 m m2 ps rest hpre hm hm2 hps hp0 hp3 hnp hd => ?_) (fun hno => ?_)
     ·have hpreL:L <+: L2:=((((List.prefix_append _ _).trans (List.prefix_append _ _)).trans (List.prefix_append _ _))).trans hpre
      have hkL:L2[L.length]? = some (.lst ((("if":Str) :: a :: b :: ("do":Str) :: t).map .str)):=pget hpre (get_app (get_app hk))
      have d1:cutD (rest.map D.str) none (some 2) = (rest.take 2).map .str:=by rw [List.map_take]; exact cutTo (n:=2)
      have d2:cutD (rest.map D.str) (some 2) none = (rest.drop 2).map .str:=by rw [List.map_drop]; exact cutFrom (n:=2)
      wtm_at "z"
      refine g_ixR hm rfl ?_
      wtm_at "z"
      rw [d1]
      refine g_neL (xs:=rest.take 2) (ys:=["else","do"]) (by simp) get_last ?_
      wtm_at "z"
      refine br_dec (fun hr => ?_) (fun hr => ?_)
      ·obtain ⟨u,rfl⟩:∃ u,rest = ("else":Str) :: ("do":Str) :: u:=by
        match rest,hr with
        | [],h => cases h
        | [_],h => simp at h
        | e1 :: e2 :: u,h => exact ⟨u,by simp at h; rw [h.1,h.2]⟩
       have mu:∀ {w:Str},w ∈ u → w ∈ t:=fun {w} hw => by rw [hd]; simp [hw]
       have hul:u.length ≤ 5000:=by
        have:=congrArg List.length hd
        simp at this hrl
        omega
       wtm_at "z"
       refine g_ixR (get_app (get_app hm)) rfl ?_
       wtm_at "z"
       rw [d2,show List.drop 2 (("else":Str) :: ("do":Str) :: u) = u from rfl]
       refine rrow_w get_last (fun w hw => wA w (m4 (mu hw))) (fun w hw => wF w (m4 (mu hw))) (fun w hw => wl w (m4 (mu hw))) hul (fun L3 n n2 qs rest2 hpre3 hn hn2 hqs hq0 hq3 hnp2 hd2 => ?_) (fun hno => ?_)
       ·have hpreL3:L2 <+: L3:=((((List.prefix_append _ _).trans (List.prefix_append _ _)).trans (List.prefix_append _ _))).trans hpre3
        wtm_at "z"
        refine g_ixR hn rfl ?_
        wtm_at "z"
        refine g_neL (xs:=rest2) (ys:=[]) (get_app hn2) get_last ?_
        wtm_at "z"
        have hpreE:L <+: L3 ++ [Ob.lst []]:=(hpreL.trans hpreL3).trans (List.prefix_append _ _)
        refine br_dec (fun hr2 => ?_) (fun hr2 => ?_)
        ·subst hr2
         wtm_at "z"
         refine g_ixR (get_app (pget hpreL3 hkL)) (d:=.str a) (atI_nat (j:=1) rfl) ?_
         wtm_at "z"
         refine g_ixR (get_app (pget hpreL3 hkL)) (d:=.str b) (atI_nat (j:=2) rfl) ?_
         wtm_at "z"
         refine g_ixR (get_app (pget hpreL3 hm)) rfl ?_
         wtm_at "z"
         refine g_ixR (get_app hn) rfl ?_
         have hP:IsProg (.tup [.str "if",.tup [.str a,.str b],.tup ps,.tup qs]):=.inr ⟨_,_,_,rfl,⟨a,b,rfl,by simpa using hab.1,hab.2⟩,⟨ps,rfl,hps,hp0,hp3⟩,⟨qs,rfl,hqs,hq0,hq3⟩⟩
         wtm_at "z"
         refine ⟨hP.noRef,hpreE,g1 _ hP ?_⟩
         rw [hd,hd2]
         simp [wG,wR]
        ·wtm_at "z"
         refine non (fun d hdd e => ?_) hpreE
         obtain ⟨w,k,ps',qs',_,_,⟨hp',hp0',_⟩,⟨hq',hq0',_⟩,_,e⟩:=prog_if hdd hdo e
         simp only [List.cons.injEq,true_and] at e
         obtain ⟨_,e3⟩:=row_uniq hps hp' hp0 hp0' np_else np_else (hd.symm.trans e.2.2)
         simp only [List.cons.injEq,true_and] at e3
         exact hr2 (row_uniq hqs hq' hq0 hq0' hnp2 np_nil (by rw [← hd2,e3]; simp)).2
       ·wtm_at "z"
        refine non (fun d hdd e => ?_) (hpreL.trans (((List.prefix_append _ _).trans (List.prefix_append _ _)).trans (List.prefix_append _ _)))
        obtain ⟨w,k,ps',qs',_,_,⟨hp',hp0',_⟩,⟨hq',hq0',hq3'⟩,_,e⟩:=prog_if hdd hdo e
        simp only [List.cons.injEq,true_and] at e
        obtain ⟨_,e3⟩:=row_uniq hps hp' hp0 hp0' np_else np_else (hd.symm.trans e.2.2)
        simp only [List.cons.injEq,true_and] at e3
        exact hno qs' [] hq' hq0' hq3' np_nil (by rw [e3]; simp)
      ·wtm_at "z"
       refine non (fun d hdd e => ?_) (hpreL.trans ((List.prefix_append _ _).trans (List.prefix_append _ _)))
       obtain ⟨w,k,ps',qs',_,_,⟨hp',hp0',_⟩,_,_,e⟩:=prog_if hdd hdo e
       simp only [List.cons.injEq,true_and] at e
       obtain ⟨_,e3⟩:=row_uniq hps hp' hp0 hp0' hnp np_else (hd.symm.trans e.2.2)
       exact hr (by rw [e3]; rfl)
     ·wtm_at "z"
      refine non (fun d hdd e => ?_) (((List.prefix_append _ _).trans (List.prefix_append _ _)).trans (List.prefix_append _ _))
      obtain ⟨w,k,ps',qs',_,_,⟨hp',hp0',hp3'⟩,_,_,e⟩:=prog_if hdd hdo e
      simp only [List.cons.injEq,true_and] at e
      exact hno ps' _ hp' hp0' hp3' np_else e.2.2
    ·wtm_at "z"
     refine non (fun d hd e => ?_) ((List.prefix_append _ _).trans (List.prefix_append _ _))
     obtain ⟨w,k,ps,qs,_,_,_,_,_,e⟩:=prog_if hd hdo e
     simp only [List.cons.injEq] at e
     exact hc e.2.2.1
   ·wtm_at "z"
    refine non (fun d hd e => ?_) ((List.prefix_append _ _).trans (List.prefix_append _ _))
    obtain ⟨w,k,ps,qs,_,⟨hw,hk'⟩,_,_,_,e⟩:=prog_if hd hdo e
    simp only [List.cons.injEq] at e
    rw [e.1,e.2.1,decide_eq_true hw,decide_eq_true hk'] at hab
    cases hab
  ·wtm_at "z"
   refine non (fun d hd e => ?_) (List.prefix_append _ _)
   obtain ⟨w,k,ps,qs,_,_,_,_,e,_⟩:=prog_if hd hdo e
   exact hif e
end L3
set_option maxHeartbeats 4000000
--BEGIN WPT
--END WPT
namespace L3
open PySem PySem.Spec PyProof.Rows L2
mutual
noncomputable def ascB:D → Bool
 | .tup xs => ascBL xs
 | .str t => decide (∀ c ∈ t.cps.toList,c < 128)
 | _ => true
noncomputable def ascBL:List D → Bool
 | [] => true
 | x :: xs => ascB x && ascBL xs
end
theorem ascBL_of:∀ {xs:List D},(∀ x ∈ xs,ascB x = true) → ascBL xs = true
 | [],_ => by rw [ascBL]
 | x :: xs,h => by rw [ascBL,h x List.mem_cons_self,ascBL_of fun y hy => h y (List.mem_cons_of_mem _ hy)]; rfl
theorem ascBL_mem:∀ {xs:List D},ascBL xs = true → ∀ x ∈ xs,ascB x = true
 | x :: xs,h,y,hy => by
  rw [ascBL,Bool.and_eq_true] at h
  rcases List.mem_cons.mp hy with rfl | hy
  ·exact h.1
  ·exact ascBL_mem h.2 y hy
noncomputable def Pl (d:D):Prop:=d.noRef = true ∧ (∀ M,tyB M d = true) ∧ ascB d = true
theorem Pl.str {x:Str} (h:x.length ≤ 16777216) (ha:Asc x):Pl (.str x):=⟨rfl,fun M => by rw [tyB]; exact decide_eq_true h,by rw [ascB]; exact decide_eq_true ha⟩
theorem Pl.tup {xs:List D} (h:∀ x ∈ xs,Pl x) (hl:xs.length ≤ 16777216):Pl (.tup xs) :=
 ⟨by rw [D.noRef]; exact noRefL_of fun p hp => (h p hp).1,fun M => by
  rw [tyB,Bool.and_eq_true]
  exact ⟨tyBL_of fun x hx => (h x hx).2.1 M,decide_eq_true hl⟩,by rw [ascB]; exact ascBL_of fun x hx => (h x hx).2.2⟩
theorem wAt_asc {ws:List Str} {t:Nat} (hl:∀ w ∈ ws,Asc w):Asc (wAt ws t):=by
 unfold wAt
 cases e:ws[t]? with
 | none => unfold Asc; decide +kernel
 | some w => exact hl w (List.mem_of_getElem? e)
theorem wAt_len {ws:List Str} {t:Nat} (hl:∀ w ∈ ws,w.length ≤ 4000):(wAt ws t).length ≤ 4000:=by
 unfold wAt
 cases e:ws[t]? with
 | none => decide +kernel
 | some w => exact hl w (List.mem_of_getElem? e)
theorem w_runE {Q:D → Sto → Prop} {L:Sto} {B:SF} {N:List Str} {n k:Nat} {xs:List D} {o0:Ob} {P:D → Ob → Prop} (hn:xs.length = n) (hk:L[k]? = some o0) (q:∀ L' d o',Keep k L L' → L'[k]? = some o' → P d o' → Q d L')
  (h:WS (B (startD N xs) L) (fun _ _ => False) (fun d L2 => Keep k L L2 ∧ ∃ o',L2[k]? = some o' ∧ P d o') (fun _ _ => False) (fun _ _ => False)):W2 (runG B N n xs L) Q:=by
 have hlt:k < L.length:=(List.getElem?_eq_some_iff.mp hk).1
 refine w_runB hn (h.mono (fun _ _ z => z.elim) ?_ (fun _ _ h => h) (fun _ _ h => h))
 rintro d L2 ⟨h1,o',h2,h3⟩
 refine ⟨fun p _ => q L d o' (.refl _ _) ?_ h3,q L2 d o' h1 h2 h3⟩
 obtain ⟨M,e⟩:=p
 rw [← e,List.getElem?_append_left hlt] at h2
 exact h2
theorem nth_any {z:Str}:Pl ((c_NTH_BY_PART.lookup z).getD .non):=by
 have:∀ {tab:List (Str × D)},(∀ x ∈ tab,Pl x.2) → Pl ((tab.lookup z).getD .non):=fun {tab} => by
  induction tab with
  | nil => intro _; exact ⟨rfl,fun M => by rw [show (List.lookup z ([]:List (Str × D))).getD D.non = .non from rfl]; rfl,rfl⟩
  | cons a r ih =>
   intro h
   rw [List.lookup]
   split
   ·exact h a List.mem_cons_self
   ·exact ih fun x hx => h x (List.mem_cons_of_mem _ hx)
 refine this fun x hx => ?_
 unfold c_NTH_BY_PART at hx
 simp only [List.mem_cons,List.not_mem_nil,or_false] at hx
 rcases hx with rfl | rfl | rfl | rfl <;> exact ⟨rfl,fun M => rfl,rfl⟩
theorem take_place_any {Q:D → Sto → Prop} {L:Sto} {k j t:Nat} {ws:List Str} (h1:L[k]? = some (insP j t)) (h2:L[j]? = some (.lst (ws.map .str))) (hjk:j ≠ k) (hl:∀ w ∈ ws,w.length ≤ 4000) (hA:∀ w ∈ ws,Asc w)
  (q:∀ L' d t',Keep k L L' → L'[k]? = some (insP j t') → t < t' → Pl d → Q d L'):W2 (G_take_place [.ref k] L) Q:=by
 unfold G_take_place
 refine w_runE (P:=fun d o' => ∃ t',o' = insP j t' ∧ t < t' ∧ Pl d) rfl h1 (fun L' d o' kk e ⟨t',e',ht,hd⟩ => q L' d t' kk (e' ▸ e) ht hd) ?_
 unfold B_take_place
 have h1':=h1
 unfold insP at h1'
 refine ws_seq (ws_set ?_)
 refine w_mthO ?_
 wtm_at "z"
 refine take_w h1 h2 fun La ka ea => ?_
 have ha2:=ka.get hjk h2
 have ea':=ea
 unfold insP at ea'
 refine ws_seq (ws_set ?_)
 refine w_kget (w_mthO ?_)
 wtm_at "z"
 refine take_w ea ha2 fun Lb kb eb => ⟨_,rfl,?_⟩
 have hb2:=kb.get hjk ha2
 have eb':=eb
 unfold insP at eb'
 refine ws_seq (ws_set ?_)
 refine w_mthO ?_
 wtm_at "z"
 refine take_w eb hb2 fun Lc kc ec => ?_
 wtm_at "z"
 refine ⟨(ka.trans kb).trans kc,_,ec,_,rfl,by omega,.tup (fun x hx => ?_) (by simp)⟩
 have b1:=wAt_len (t:=t) hl
 have b2:=wAt_len (t:=t + 1 + 1) hl
 simp only [List.mem_cons,List.not_mem_nil,or_false] at hx
 rcases hx with rfl | rfl | rfl
 ·exact .str (by omega) (wAt_asc hA)
 ·exact nth_any
 ·exact .str (by omega) (wAt_asc hA)
theorem take_piece_any {Q:D → Sto → Prop} {L:Sto} {k j t:Nat} {ws:List Str} (h1:L[k]? = some (insP j t)) (h2:L[j]? = some (.lst (ws.map .str))) (hjk:j ≠ k) (hl:∀ w ∈ ws,w.length ≤ 4000) (hA:∀ w ∈ ws,Asc w)
  (q:∀ L' d t',Keep k L L' → L'[k]? = some (insP j t') → t < t' → Pl d → Q d L'):W2 (G_take_piece [.ref k] L) Q:=by
 unfold G_take_piece
 refine w_runE (P:=fun d o' => ∃ t',o' = insP j t' ∧ t < t' ∧ Pl d) rfl h1 (fun L' d o' kk e ⟨t',e',ht,hd⟩ => q L' d t' kk (e' ▸ e) ht hd) ?_
 unfold B_take_piece
 have h1':=h1
 unfold insP at h1'
 refine ws_seq (ws_set ?_)
 refine w_mthO ?_
 wtm_at "z"
 refine take_w h1 h2 fun La ka ea => ?_
 have ha2:=ka.get hjk h2
 have ea':=ea
 unfold insP at ea'
 have b0:=wAt_len (t:=t) hl
 have b1:=wAt_len (t:=t + 1) hl
 wtm_at "z"
 refine br_dec (fun hw => ?_) (fun hw => ?_)
 ·wtm_at "z"
  refine take_w ea ha2 fun Lb kb eb => ?_
  have hr:=repl_lenN (x:=wAt ws (t + 1)) (c:=95) (d:=32) b1
  have h1l:(" ":Str).length = 1:=by decide +kernel
  refine g_repl (by rw [h1l]; omega) (Nat.le_trans hr (by decide)) ?_
  wtm_at "z"
  refine ⟨ka.trans kb,_,eb,_,rfl,by omega,.tup (fun x hx => ?_) (by simp)⟩
  simp only [List.mem_cons,List.not_mem_nil,or_false] at hx
  rcases hx with rfl | rfl
  ·exact .str (by decide +kernel) (by unfold Asc; decide +kernel)
  ·exact .str (Nat.le_trans hr (by decide)) (repl_asc (by decide) (wAt_asc hA))
 ·wtm_at "z"
  refine take_place_any ea ha2 hjk hl hA fun Lb p1 t1 kb eb ht1 hp1 => ?_
  have hb2:=kb.get hjk ha2
  wtm_at "z"
  refine take_place_any eb hb2 hjk hl hA fun Lc p2 t2 kc ec ht2 hp2 => ?_
  wtm_at "z"
  refine ⟨(ka.trans kb).trans kc,_,ec,_,rfl,by omega,.tup (fun x hx => ?_) (by simp)⟩
  simp only [List.mem_cons,List.not_mem_nil,or_false] at hx
  rcases hx with rfl | rfl | rfl
  ·exact .str (by omega) (wAt_asc hA)
  ·exact hp1
  ·exact hp2
theorem take_row_any {Q:D → Sto → Prop} {L:Sto} {k j t:Nat} {ws:List Str} (h1:L[k]? = some (insP j t)) (h2:L[j]? = some (.lst (ws.map .str))) (hjk:j ≠ k) (hl:∀ w ∈ ws,w.length ≤ 4000) (hA:∀ w ∈ ws,Asc w) (hn:ws.length ≤ 5000)
  (q:∀ L' d t',Keep k L L' → L'[k]? = some (insP j t') → Pl d → Q d L'):W2 (G_take_row [.ref k] L) Q:=by
 have hkl:k < L.length:=(List.getElem?_eq_some_iff.mp h1).1
 unfold G_take_row
 refine w_runE (P:=fun d o' => ∃ t',o' = insP j t' ∧ Pl d) rfl h1 (fun L' d o' kk e ⟨t',e',hd⟩ => q L' d t' kk (e' ▸ e) hd) ?_
 unfold B_take_row
 have h1':=h1
 unfold insP at h1'
 refine ws_cut (fun ρ L' => ρ = [some (.ref k),none] ∧ Keep k L L' ∧ L'[k]? = some (insP j (t + 1))) ?_ ?_
 ·wtm_at "z"
  refine take_w h1 h2 fun La ka ea => ?_
  exact ⟨rfl,ka,ea⟩
 rintro _ La ⟨rfl,ka,ea⟩
 have ha2:=ka.get hjk h2
 refine ws_cut (fun ρ L' => ∃ m p t',ρ = [some (.ref k),some (.ref m)] ∧ Keep k L L' ∧ L'[k]? = some (insP j t') ∧ L.length ≤ m ∧ L'[m]? = some (.lst [p]) ∧ Pl p) ?_ ?_
 ·wtm_at "z"
  refine take_piece_any ea ha2 hjk hl hA fun Lb p t' kb eb _ hp => ?_
  wtm_at "z"
  exact ⟨_,p,t',rfl,(ka.trans kb).trans (.app _ _ _),get_app eb,(ka.trans kb).1,get_last,hp⟩
 rintro _ Lb ⟨m,p,t1,rfl,kb,eb,hm,gm,hp⟩
 refine ws_cut (fun ρ L' => ∃ done t',ρ = [some (.ref k),some (.ref m)] ∧ Keep k L L' ∧ L'[k]? = some (insP j t') ∧ L'[m]? = some (.lst done) ∧ (∀ x ∈ done,Pl x) ∧ done.length ≤ ws.length + 1) ?_ ?_
 ·refine ws_while (fun n ρ L' => ∃ done t',n = ws.length + 1 - t' ∧ ρ = [some (.ref k),some (.ref m)] ∧ Keep k L L' ∧ L'[k]? = some (insP j t') ∧ L'[m]? = some (.lst done) ∧ (∀ x ∈ done,Pl x) ∧ done.length + (ws.length - t') ≤ ws.length + 1) (n:=ws.length + 1 - t1) (by omega)
   ⟨[p],t1,rfl,rfl,kb,eb,gm,by simpa using hp,by simp; omega⟩ ?_
  rintro n ρ L' ⟨done,t',rfl,rfl,kk,ek,em,hdn,hcount⟩
  have hj2:=kk.get hjk h2
  have ek':=ek
  unfold insP at ek'
  wtm_at "z"
  refine take_w ek hj2 fun Lc kc ec => ?_
  have hmk:m ≠ k:=by omega
  have em2:=kc.get hmk em
  have hj3:=kc.get hjk hj2
  wtm_at "z"
  refine br_dec (fun hplus => ?_) (fun hplus => ?_)
  ·have ht:t' < ws.length:=by
    apply Classical.byContradiction
    intro hh
    have:ws[t']? = none:=by simp; omega
    rw [wAt,this] at hplus
    exact absurd hplus (by decide)
   wtm_at "z"
   refine take_piece_any ec hj3 hjk hl hA fun Ld p2 t2 kd ed ht2 hp2 => ?_
   have em3:=kd.get hmk em2
   wtm_at "z"
   refine g_append em3 (by omega) ?_
   refine ⟨ws.length + 1 - t2,by omega,done ++ [p2],t2,rfl,rfl,((kk.trans kc).trans kd).setNew hm,get_setN hmk ed,get_setS em3,?_,?_⟩
   ·intro x hx
    rcases List.mem_append.mp hx with hx | hx
    ·exact hdn x hx
    ·rw [show x = p2 by simpa using hx]; exact hp2
   ·simp only [List.length_append,List.length_cons,List.length_nil]
    omega
  ·wtm_at "z"
   exact ⟨done,_,rfl,kk.trans kc,ec,em2,hdn,by omega⟩
 rintro _ Lc ⟨done,t',rfl,kc,ec,gc,hdn,hc⟩
 wtm_at "z"
 exact ⟨kc,_,ec,_,rfl,.tup hdn (by omega)⟩
theorem take_program_any {Q:D → Sto → Prop} {L:Sto} {k j:Nat} {ws:List Str} (h1:L[k]? = some (insP j 0)) (h2:L[j]? = some (.lst (ws.map .str))) (hjk:j ≠ k) (h0:ws ≠ []) (hl:∀ w ∈ ws,w.length ≤ 4000) (hA:∀ w ∈ ws,Asc w) (hn:ws.length ≤ 5000)
  (q:∀ L' d,Keep k L L' → Pl d → Q d L'):W2 (G_take_program [.ref k] L) Q:=by
 obtain ⟨w0,r,rfl⟩:∃ w0 r,ws = w0 :: r:=by
  cases ws with
  | nil => exact absurd rfl h0
  | cons a b => exact ⟨a,b,rfl⟩
 have h1':=h1
 unfold insP at h1'
 unfold G_take_program
 refine w_runE (P:=fun d _ => Pl d) rfl h1 (fun L' d o' kk _ hd => q L' d kk hd) ?_
 unfold B_take_program
 refine ws_seq (ws_if ?_)
 wtm_at "z"
 refine g_ixR h2 (d:=.str w0) (atI_nat (j:=0) rfl) ?_
 wtm_at "z"
 refine br_dec (fun hif => ?_) (fun hif => ?_)
 ·wtm_at "z"
  refine take_w h1 h2 fun La ka ea => ?_
  have ha2:=ka.get hjk h2
  have ea':=ea
  unfold insP at ea'
  wtm_at "z"
  refine take_w ea ha2 fun Lb kb eb => ?_
  have hb2:=kb.get hjk ha2
  have eb':=eb
  unfold insP at eb'
  wtm_at "z"
  refine take_w eb hb2 fun Lc kc ec => ?_
  have hc2:=kc.get hjk hb2
  wtm_at "z"
  refine take_row_any ec hc2 hjk hl hA hn fun Ld r1 t1 kd ed hr1 => ?_
  have hd2:=kd.get hjk hc2
  wtm_at "z"
  refine take_row_any ed hd2 hjk hl hA hn fun Le r2 t2 ke ee hr2 => ?_
  wtm_at "z"
  refine ⟨(((ka.trans kb).trans kc).trans kd).trans ke,_,ee,.tup (fun x hx => ?_) (by simp)⟩
  have b1:=wAt_len (t:=0 + 1) hl
  have b2:=wAt_len (t:=0 + 1 + 1) hl
  simp only [List.mem_cons,List.not_mem_nil,or_false] at hx
  rcases hx with rfl | rfl | rfl | rfl
  ·exact .str (by decide +kernel) (by unfold Asc; decide +kernel)
  ·refine .tup (fun x hx => ?_) (by simp)
   simp only [List.mem_cons,List.not_mem_nil,or_false] at hx
   rcases hx with rfl | rfl
   ·exact .str (by omega) (wAt_asc hA)
   ·exact .str (by omega) (wAt_asc hA)
  ·exact hr1
  ·exact hr2
 ·wtm_at "z"
  refine take_row_any h1 h2 hjk hl hA hn fun La r1 t1 ka ea hr1 => ?_
  wtm_at "z"
  refine ⟨ka,_,ea,.tup (fun x hx => ?_) (by simp)⟩
  simp only [List.mem_cons,List.not_mem_nil,or_false] at hx
  rcases hx with rfl | rfl
  ·exact .str (by decide +kernel) (by unfold Asc; decide +kernel)
  ·exact hr1
end L3
set_option maxHeartbeats 4000000
--BEGIN WPT
--END WPT
namespace L3
open PySem PySem.Spec PyProof.Rows L2
noncomputable def okA:Nat → D → Prop
 | 0,_ => False
 | n + 1,.tup xs => xs.length ≤ 1000 ∧ ∀ x ∈ xs,okA n x
 | _ + 1,.str _ => True
 | _ + 1,.int _ => True
 | _ + 1,_ => False
theorem okA_place {p:D} (h:IsPlace p) (n:Nat):okA (n + 2) p:=by
 obtain ⟨k,m,e,rfl,_⟩:=h
 refine ⟨by simp,fun x hx => ?_⟩
 simp only [List.mem_cons,List.not_mem_nil,or_false] at hx
 rcases hx with rfl | rfl | rfl <;> exact True.intro
theorem okA_piece {p:D} (h:IsPiece p) (n:Nat):okA (n + 3) p:=by
 rcases h with ⟨w,rfl,_⟩ | ⟨d,p1,p2,rfl,_,hp,hq⟩
 ·refine ⟨by simp,fun x hx => ?_⟩
  simp only [List.mem_cons,List.not_mem_nil,or_false] at hx
  rcases hx with rfl | rfl <;> exact True.intro
 ·refine ⟨by simp,fun x hx => ?_⟩
  simp only [List.mem_cons,List.not_mem_nil,or_false] at hx
  rcases hx with rfl | rfl | rfl
  ·exact True.intro
  ·exact okA_place hp n
  ·exact okA_place hq n
theorem okA_row {r:D} (h:IsRow r) (n:Nat):okA (n + 4) r:=by
 obtain ⟨ps,rfl,hp,_,h3⟩:=h
 exact ⟨by omega,fun x hx => okA_piece (hp x hx) n⟩
theorem okA_prog {d:D} (h:IsProg d) (n:Nat):okA (n + 5) d:=by
 rcases h with ⟨r,rfl,hr⟩ | ⟨l,r,r2,rfl,⟨w,k,rfl,_⟩,hr,hr2⟩
 ·refine ⟨by simp,fun x hx => ?_⟩
  simp only [List.mem_cons,List.not_mem_nil,or_false] at hx
  rcases hx with rfl | rfl
  ·exact True.intro
  ·exact okA_row hr n
 ·refine ⟨by simp,fun x hx => ?_⟩
  simp only [List.mem_cons,List.not_mem_nil,or_false] at hx
  rcases hx with rfl | rfl | rfl | rfl
  ·exact True.intro
  ·refine ⟨by simp,fun x hx => ?_⟩
   simp only [List.mem_cons,List.not_mem_nil,or_false] at hx
   rcases hx with rfl | rfl <;> exact True.intro
  ·exact okA_row hr n
  ·exact okA_row hr2 n
theorem alike_w:∀ (n:Nat) (d:D) {Q:D → Sto → Prop} {L:Sto},okA n d → Q (.bl true) L → W2 (GN_lw_alike n [d,d] L) Q
 | 0,_,_,_,h,_ => h.elim
 | n + 1,d,Q,L,h,q => by
  unfold GN_lw_alike
  refine w_run rfl ?_
  unfold B_lw_alike
  cases d with
  | tup xs =>
   obtain ⟨hl,hx⟩:=(show xs.length ≤ 1000 ∧ ∀ x ∈ xs,okA n x from h)
   wtm_at "z"
   refine wc_pure (fun ρ => ∃ a,ρ = [a,some (.tup xs),some (.tup xs)]) (fun x => some x) _ _ ⟨none,rfl⟩ (by rw [rngD_len]; omega) ?_ ?_
   ·rintro x hx' ρ ⟨a,rfl⟩
    obtain ⟨i,hi,rfl⟩:=rngD_mem hx'
    have hi':i < xs.length:=by omega
    have hg:atI xs (0 + (i:Int)) = some xs[i]:=by rw [Int.zero_add]; exact atI_nat (by simp [hi'])
    wtm_at "z"
    refine ⟨⟨_,rfl⟩,fun acc => ?_⟩
    wtm_at "z"
    refine g_ixT hg ?_
    wtm_at "z"
    refine g_ixT hg ?_
    wtm_at "z"
    refine alike_w n xs[i] (hx _ (List.getElem_mem hi')) ?_
    wtm_at "z"
    refine ⟨rfl,?_⟩
    wtm_at "z"
    exact ⟨rfl,rfl⟩
   ·rw [show List.filterMap (fun x => some x) (rngD 0 ((xs.length:Int)).toNat) = rngD 0 ((xs.length:Int)).toNat from List.filterMap_some]
    wtm_at "z"
    rw [rngD_len]
    have e:decide ((((xs.length:Int).toNat:Nat):Int) = (xs.length:Int)) = true:=decide_eq_true (by omega)
    rw [e]
    exact ⟨rfl,List.prefix_append _ _,q⟩
  | str s =>
   wtm_at "z"
   rw [decide_eq_true rfl]
   exact ⟨rfl,List.prefix_refl _,q⟩
  | int i =>
   wtm_at "z"
   rw [decide_eq_true rfl]
   exact ⟨rfl,List.prefix_refl _,q⟩
  | non => exact h.elim
  | bl _ => exact h.elim
  | fz _ => exact h.elim
  | ref _ => exact h.elim
  | ty _ => exact h.elim
theorem inL_is {d:D} {xs:List Str} (h:inL d (xs.map .str) = true):∃ a,d = .str a ∧ a ∈ xs:=by
 cases d with
 | str a =>
  have h':inD (.str a) (xs.map .str) = true:=h
  rw [inD_strs] at h'
  exact ⟨a,rfl,of_decide_eq_true h'⟩
 | _ => cases h
theorem eqP_int {x y:Int}:eqP (.int x) (.int y) = decide (x = y):=by
 by_cases h:x = y
 ·subst h; rw [eqP_self rfl]; simp
 ·rw [decide_eq_false h]
  simp [eqP,toV,eqV,h]
theorem nthB_is {d:D} (h:nthB d = true):∃ n,d = .int n ∧ NthOk n:=by
 cases d with
 | int n =>
  have h':inD (.int n) [.int 1,.int 2,.int (-1),.int (-2)] = true:=h
  unfold inD at h'
  simp only [List.any_cons,List.any_nil,eqP_int,Bool.or_false,Bool.or_eq_true,decide_eq_true_iff] at h'
  exact ⟨n,rfl,by unfold NthOk; omega⟩
 | _ => cases h
theorem placeB_is {d:D} (h:placeB d = true):IsPlace d:=by
 unfold placeB at h
 split at h
 ·rw [Bool.and_eq_true,Bool.and_eq_true] at h
  obtain ⟨a,rfl,ha⟩:=inL_is (xs:=ks5) h.1
  obtain ⟨n,rfl,hn⟩:=nthB_is h.2.1
  obtain ⟨c,rfl,hc⟩:=inL_is (xs:=es2) h.2.2
  exact ⟨a,n,c,rfl,hn,by simpa using hc,ha⟩
 ·cases h
theorem kind_ok:∀ c:Nat,c < 128 → (!isNon (kindD ⟨#[c]⟩)) = decide (c ∈ codes):=by decide +kernel
theorem wordB_is {d:D} (h:wordB d = true) (ha:ascB d = true):∃ w,d = .str w ∧ SgOk w ∧ w.length ≤ 8 ∧ 0 < w.length:=by
 cases d with
 | str w =>
  rw [ascB,decide_eq_true_iff] at ha
  unfold wordB txtB at h
  dsimp only at h
  rw [Bool.and_eq_true,Bool.and_eq_true,Bool.and_eq_true,decide_eq_true_iff,decide_eq_true_iff,decide_eq_true_iff,List.all_eq_true] at h
  refine ⟨w,rfl,fun c hc => ?_,h.2.2,h.2.1⟩
  have:=h.1.2 c hc
  rw [kind_ok c (ha c hc)] at this
  exact of_decide_eq_true this
 | _ => cases h
theorem pieceB_is {d:D} (h:pieceB d = true) (ha:ascB d = true):IsPiece d:=by
 unfold pieceB at h
 rw [Bool.or_eq_true] at h
 rcases h with h | h
 ·unfold wpieceB at h
  split at h
  ·rename_i a b
   rw [Bool.and_eq_true] at h
   obtain ⟨x,rfl,hx⟩:=inL_is (xs:=["word"]) h.1
   rw [ascB,ascBL,ascBL,Bool.and_eq_true,Bool.and_eq_true] at ha
   obtain ⟨w,rfl,hw⟩:=wordB_is h.2 ha.2.1
   simp at hx
   subst hx
   exact .inl ⟨w,rfl,hw⟩
  ·cases h
 ·unfold strB at h
  split at h
  ·rw [Bool.and_eq_true,Bool.and_eq_true] at h
   obtain ⟨x,rfl,hx⟩:=inL_is (xs:=ds3) h.1
   exact .inr ⟨x,_,_,rfl,by simpa [IsDeed] using hx,placeB_is h.2.1,placeB_is h.2.2⟩
  ·cases h
theorem rowB_is {d:D} (h:rowB d = true) (ha:ascB d = true):IsRow d:=by
 unfold rowB at h
 split at h
 ·rename_i ps
  rw [Bool.and_eq_true,Bool.and_eq_true,decide_eq_true_iff,decide_eq_true_iff,List.all_eq_true] at h
  rw [ascB] at ha
  exact ⟨ps,rfl,fun p hp => pieceB_is (h.2 p hp) (ascBL_mem ha p hp),h.1.1,h.1.2⟩
 ·cases h
theorem lookB_is {d:D} (h:lookB d = true):IsLook d:=by
 unfold lookB at h
 split at h
 ·rw [Bool.and_eq_true] at h
  obtain ⟨a,rfl,ha⟩:=inL_is (xs:=hb2) h.1
  obtain ⟨c,rfl,hc⟩:=inL_is (xs:=ks5) h.2
  exact ⟨a,c,rfl,by simpa using ha,hc⟩
 ·cases h
theorem progB_is {d:D} (h:progB d = true) (ha:ascB d = true):IsProg d:=by
 unfold progB at h
 split at h
 ·rw [Bool.and_eq_true] at h
  obtain ⟨x,rfl,hx⟩:=inL_is (xs:=["do"]) h.1
  rw [ascB,ascBL,ascBL,Bool.and_eq_true,Bool.and_eq_true] at ha
  simp at hx
  subst hx
  exact .inl ⟨_,rfl,rowB_is h.2 ha.2.1⟩
 ·rw [Bool.and_eq_true,Bool.and_eq_true,Bool.and_eq_true] at h
  obtain ⟨x,rfl,hx⟩:=inL_is (xs:=["if"]) h.1
  rw [ascB,ascBL,ascBL,ascBL,ascBL,Bool.and_eq_true,Bool.and_eq_true,Bool.and_eq_true,Bool.and_eq_true] at ha
  simp at hx
  subst hx
  exact .inr ⟨_,_,_,rfl,lookB_is h.2.1,rowB_is h.2.2.1 ha.2.2.1,rowB_is h.2.2.2 ha.2.2.2.1⟩
 ·cases h
theorem check_bad {L:Sto} {d:D} (hd:tyB L d = true) (hp:progB d = false):G_check [d] L = none ∧ GX_check [d] L = some (("NoProgram":Str),L):=by
 have e:G_is_program [d] L = some (.bl false,L):=W2.get (is_program_w hd ⟨by rw [hp],rfl⟩)
 constructor
 ·simp [G_check,runG,B_check,N_check,startD,seqF,ifF,notT,asT,callB,consA,nilA,var,e,neverF]
 ·simp [GX_check,runX,BX_check,N_check,startD,seqX,ifX,notT,asT,callB,consA,nilA,var,e,raiseX]
theorem read_bad {L:Sto} {y:Str} (hy:y.length ≤ 4000) (hA:Asc y) (hno:∀ d,IsProg d → jB (wG d) ≠ y):∃ L1,G_read [.str y] L = none ∧ GX_read [.str y] L = some (("NoProgram":Str),L1) ∧ L <+: L1:=by
 have hs:=split_len y 32
 have hs2:=split_lens y 32
 have W:W2 (callB G_take_program (consA (mkO "Parts" G_Parts_init (consA (var 0) nilA)) nilA) (startD N_read [.str y]) L) fun d L1 => Pl d ∧ L <+: L1:=by
  refine w_callB (w_consA (w_mkO ?_))
  wtm_at "z"
  refine init_w get_last hy fun L1 k1 e1 e2 => ⟨rfl,?_⟩
  wtm_at "z"
  refine take_program_any e1 e2 (by simp) (split_ne y 32) (fun w hw => by have:=hs2 w hw; omega) (fun w hw c hc => hA c (split_mem hw hc)) (by show (Txt.split y ⟨#[32]⟩).length ≤ _; omega) fun L2 d k2 hd => ?_
  exact ⟨hd,(k1.trans k2).pre (List.prefix_append _ _) (Nat.le_refl _)⟩
 obtain ⟨d,L1,e,hd,hpre⟩:=W
 refine ⟨L1,?_⟩
 unfold G_read GX_read B_read BX_read
 generalize callB G_take_program (consA (mkO "Parts" G_Parts_init (consA (var 0) nilA)) nilA) = F at e ⊢
 have e':F [some (.str y),none] L = some (d,L1):=e
 cases hp:progB d with
 | false =>
  obtain ⟨c1,c2⟩:=check_bad (hd.2.1 L1) hp
  refine ⟨?_,?_,hpre⟩
  ·simp [runG,seqF,setF,e',exprF,callB,consA,nilA,var,startD,N_read,c1]
  ·simp [runX,seqX,setF,e',exprF,callXf,callB,consA,nilA,var,startD,N_read,c1,c2,noX]
 | true =>
  have hP:=progB_is hp hd.2.2
  have c1:G_check [d] L1 = some (.bl true,L1):=W2.get (check_w (hd.2.1 L1) hp ⟨rfl,rfl⟩)
  have c2:G_shown [d] L1 = some (.str (jB (wG d)),L1):=W2.get (shown_w hP ⟨rfl,rfl⟩)
  have c4:GX_check [d] L1 = none:=by
   have e:G_is_program [d] L1 = some (.bl true,L1):=W2.get (is_program_w (hd.2.1 L1) ⟨by rw [hp],rfl⟩)
   simp [GX_check,runX,BX_check,N_check,startD,seqX,ifX,ifF,nextF,notT,asT,callB,consA,nilA,var,e,noX]
  have hne:jB (wG d) ≠ y:=hno d hP
  have c3:gNe (.str (jB (wG d))) (.str y) L1 = some (.bl true,L1):=W2.get (g_neS ⟨by rw [decide_eq_false hne]; rfl,rfl⟩)
  refine ⟨?_,?_,hpre⟩
  ·simp [runG,seqF,setF,e',exprF,callB,consA,nilA,var,startD,N_read,c1,c2,c3,ifF,asT,bin2,neverF]
  ·simp [runX,seqX,setF,e',exprF,callXf,callB,consA,nilA,var,startD,N_read,c1,c2,c3,c4,noX,ifF,ifX,asT,bin2,neverF,raiseX]
theorem lrefused_w {Q:D → Sto → Prop} {L:Sto} {y:Str} (hy:y.length ≤ 4000) (hA:Asc y) (hno:∀ d,IsProg d → jB (wG d) ≠ y) (h:Q (.bl true) L):W2 (G_lw_refused [.str y] L) Q:=by
 obtain ⟨L1,e1,e2,p1⟩:=read_bad (L:=L) hy hA hno
 obtain ⟨L2,e3,e4,p2⟩:=read_bad (L:=L1) hy hA hno
 unfold G_lw_refused
 refine w_run rfl ?_
 have:B_lw_refused G_read GX_read (startD N_lw_refused [.str y]) L = some (.ret (.bl true) (L2 ++ [.exn "NoProgram"])):=by
  simp [B_lw_refused,N_lw_refused,startD,seqF,setF,cst,tryF,tryAF,consA,nilA,var,e1,e2,e3,e4,only,goesF,ifF,asT,isEF,only1,retF,nextF,andV]
  try rfl
 exact WS.irt this ⟨rfl,(p1.trans p2).trans (List.prefix_append _ _),h⟩
theorem right_w {Q:D → Sto → Prop} {L:Sto} {y:Str} (hy:y.length ≤ 4000) (hA:Asc y) (h:Q (.bl true) L):W2 (G_lw_right [.str y] L) Q:=by
 unfold G_lw_right
 refine w_run rfl ?_
 unfold B_lw_right
 wtm_at "z"
 refine lw_read_w (by omega) hA (fun d hd e => ?_) (fun hno => ?_)
 ·subst e
  wtm_at "z"
  refine br_both (fun hn => ?_) (fun hn => ?_)
  ·exfalso
   rcases hd with ⟨_,rfl,_⟩ | ⟨_,_,_,rfl,_⟩ <;> cases hn
  wtm_at "z"
  refine read_w hd ?_
  wtm_at "z"
  refine alike_w 12 d (okA_prog hd 7) ?_
  exact ⟨rfl,List.prefix_refl _,h⟩
 ·wtm_at "z"
  refine lrefused_w hy hA hno ?_
  exact ⟨rfl,List.prefix_refl _,h⟩
end L3
set_option maxHeartbeats 4000000
--BEGIN WPT
--END WPT
namespace L3
open PySem PySem.Spec PyProof.Rows L2
theorem lw_shown_row_w {Q:D → Sto → Prop} {L:Sto} {r:D} (h:IsRow r) (q:Q (.str (jB (wR r))) L):W2 (G_lw_shown_row [r] L) Q:=by
 obtain ⟨ps,rfl,hp,h0,h3⟩:=h
 unfold G_lw_shown_row
 refine w_run rfl ?_
 unfold B_lw_shown_row
 wtm_at "z"
 have happ:∀ {i:Nat} {x:D},ps[i]? = some x → ((ps.take (0 + i)).map fun p => D.str (jB (wPc p))) ++ [.str (jB (wPc x))] = (ps.take (0 + i + 1)).map fun p => D.str (jB (wPc p)):=fun {i x} hx => by
  rw [Nat.zero_add,List.take_succ,hx]
  simp
 refine ws_loop (fun j ρ L' => ∃ (a:Option D),ρ = [some (.tup ps),some (.ref L.length),a] ∧ L <+: L' ∧ L'[L.length]? = some (.lst ((ps.take j).map fun p => D.str (jB (wPc p))))) _ 0 _ _ ⟨none,rfl,List.prefix_append _ _,get_last⟩ ?_ ?_
 ·rintro i x ρ L' hx ⟨a,rfl,hpre,hg⟩
  have hx':=hp x (List.mem_of_getElem? hx)
  have hl0:=wPc_len hx'
  have hi:i < ps.length:=(List.getElem?_eq_some_iff.mp hx).1
  have hap:=happ hx
  have hz:((ps.take (0 + i)).map fun p => D.str (jB (wPc p))).length < 16777216:=by rw [List.length_map,List.length_take]; omega
  refine ⟨rfl,?_⟩
  rcases hx' with ⟨w,rfl,hw1,hw2,hw3⟩ | ⟨d,p1,p2,rfl,hd,hp1,hp2⟩
  ·have hs:=split_len w 32
   have hs2:=split_lens w 32
   have hus:("_":Str).length = 1:=by decide +kernel
   have h5:("word ":Str).length = 5:=by decide +kernel
   wtm_at "z"
   refine g_split (by decide) (by omega) (by show (Txt.split w ⟨#[32]⟩).length ≤ _; omega) (fun p hp => by have:=hs2 p hp; omega) ?_
   wtm_at "z"
   refine g_join get_last (strsD_map _) ?_ ?_
   ·have h6:((Txt.split w " ").map (·.length)).sum ≤ (Txt.split w " ").length * 8:=sum_le fun p hp => Nat.le_trans (hs2 p hp) hw2
    have h7:(Txt.split w " ").length ≤ 9:=by have:(Txt.split w " ").length ≤ w.length + 1:=hs; omega
    rw [hus]
    omega
   have er:Txt.join "_" (Txt.split w " ") = Txt.replace w bk1 ⟨#[95]⟩:=by
    rw [tjoin]
    exact (StrLaws.replace_one w ⟨#[95]⟩ 32).symm
   rw [er]
   have hr:=repl_len (w:=w) (c:=32) (d:=95) hw2
   refine g_addS (by have:(Txt.replace w bk1 ⟨#[95]⟩).length ≤ 100:=hr; omega) ?_
   have e:("word ":Str) ++ Txt.replace w bk1 ⟨#[95]⟩ = jB (wPc (.tup [.str "word",.str w])):=by
    show _ = ("word":Str) ++ bk1 ++ Txt.replace w bk1 ⟨#[95]⟩
    have e1:("word ":Str) = ("word":Str) ++ bk1:=by decide +kernel
    rw [e1]
   rw [e]
   wtm_at "z"
   refine g_append (get_app hg) hz ?_
   rw [hap]
   refine ⟨_,rfl,pre_set (hpre.trans (List.prefix_append _ _)) (Nat.le_refl _),get_setS (get_app hg)⟩
  ·have hnw:d ≠ "word":=by rcases hd with rfl | rfl | rfl <;> decide
   obtain ⟨k1,n1,e1,rfl,hn1,he1,hk1⟩:=hp1
   obtain ⟨k2,n2,e2,rfl,hn2,he2,hk2⟩:=hp2
   wtm_at "z"
   refine wc_pure (fun ρ => ∃ a,ρ = [a]) (fun x => match x with | .str s => some (.str s) | .int n => some (.str (toString n)) | _ => none) _ _ ⟨none,rfl⟩ (by simp) ?_ ?_
   ·rintro x hx ρ ⟨a,rfl⟩
    simp only [List.cons_append,List.nil_append,List.mem_cons,List.not_mem_nil,or_false] at hx
    wtm_at "z"
    refine ⟨⟨_,rfl⟩,fun acc => ?_⟩
    wtm_at "z"
    refine ⟨rfl,?_⟩
    rcases hx with rfl | rfl | rfl | rfl | rfl | rfl
    ·wtm_at "z"; exact ⟨rfl,rfl⟩
    ·wtm_at "z"; refine g_strI (strNth hn1).1 ?_; exact ⟨rfl,rfl⟩
    ·wtm_at "z"; exact ⟨rfl,rfl⟩
    ·wtm_at "z"; exact ⟨rfl,rfl⟩
    ·wtm_at "z"; refine g_strI (strNth hn2).1 ?_; exact ⟨rfl,rfl⟩
    ·wtm_at "z"; exact ⟨rfl,rfl⟩
   ·have e:List.filterMap (fun x => match x with | D.str s => some (D.str s) | .int n => some (D.str (toString n)) | _ => none) ([D.str k1,.int n1,.str e1] ++ [D.str k2,.int n2,.str e2]) = [D.str k1,.str (toString n1),.str e1,.str k2,.str (toString n2),.str e2]:=rfl
    rw [e]
    wtm_at "z"
    refine g_join get_last (ys:=d :: [k1,toString n1,e1,k2,toString n2,e2]) rfl ?_ ?_
    ·have:=(strNth hn1).2
     have:=(strNth hn2).2
     have:=kind_len6 hk1
     have:=kind_len6 hk2
     have:=edge_len6 he1
     have:=edge_len6 he2
     have:=deed_len6 hd
     have h1:(" ":Str).length = 1:=by decide +kernel
     simp only [List.map_cons,List.map_nil,List.sum_cons,List.sum_nil,List.length_cons,List.length_nil,h1]
     omega
    rw [tjoin]
    wtm_at "z"
    refine g_append (get_app (get_app (get_app hg))) hz ?_
    have e3:Str.join " " (d :: [k1,toString n1,e1,k2,toString n2,e2]) = jB (wPc (.tup [.str d,.tup [.str k1,.int n1,.str e1],.tup [.str k2,.int n2,.str e2]])):=rfl
    rw [e3,hap]
    refine ⟨_,rfl,pre_set (((hpre.trans (List.prefix_append _ _)).trans (List.prefix_append _ _)).trans (List.prefix_append _ _)) (Nat.le_refl _),get_setS (get_app (get_app (get_app hg)))⟩
 ·rintro ρ L' ⟨a,rfl,hpre,hg⟩
  refine ⟨rfl,?_⟩
  rw [Nat.zero_add,List.take_length] at hg
  have h5:(" + ":Str).length = 3:=by decide +kernel
  have h6:("do ":Str).length = 3:=by decide +kernel
  have hs:((ps.map fun x => jB (wPc x)).map (·.length)).sum ≤ (ps.map fun x => jB (wPc x)).length * 110:=sum_le fun y hy => by
   rw [List.mem_map] at hy
   obtain ⟨x,hx,rfl⟩:=hy
   exact wPc_len (hp x hx)
  wtm_at "z"
  refine g_join hg (strsD_texts (fun x => jB (wPc x)) ps) ?_ ?_
  ·rw [h5]
   rw [List.length_map] at hs ⊢
   omega
  ·rw [tjoin,rows_join hp h0]
   have hl:=wPs_len hp
   refine g_addS (by omega) ?_
   refine ⟨rfl,hpre,?_⟩
   have e2:("do ":Str) ++ jB (wPs ps) = jB (wR (.tup ps)):=by
    show _ = jB ("do" :: wPs ps)
    rw [jB_cons (wPs_ne hp h0)]
    have e1:("do ":Str) = ("do":Str) ++ bk1:=by decide +kernel
    rw [e1]
   rw [e2]; exact q
theorem lw_shown_w {Q:D → Sto → Prop} {L:Sto} {d:D} (h:IsProg d) (q:Q (.str (jB (wG d))) L):W2 (G_lw_shown [d] L) Q:=by
 unfold G_lw_shown
 refine w_run rfl ?_
 unfold B_lw_shown
 rcases h with ⟨r,rfl,hr⟩ | ⟨l,r,r2,rfl,⟨w,k,rfl,hw,hk⟩,hr,hr2⟩
 ·wtm_at "z"
  refine lw_shown_row_w hr ?_
  exact ⟨rfl,List.prefix_refl _,q⟩
 ·have hwl:w.length ≤ 6:=by rcases hw with rfl | rfl <;> decide +kernel
  have hkl:=kind_len6 hk
  have h1:(" ":Str).length = 1:=by decide +kernel
  have h2:("if ":Str).length = 3:=by decide +kernel
  have h3:(" else ":Str).length = 6:=by decide +kernel
  have hb1:=wR_len hr
  have hb2:=wR_len hr2
  wtm_at "z"
  refine lw_shown_row_w hr ?_
  wtm_at "z"
  refine g_addS (by omega) ?_
  wtm_at "z"
  refine lw_shown_row_w hr2 ?_
  wtm_at "z"
  refine g_addS (by rw [app_length]; omega) ?_
  wtm_at "z"
  refine g_addS (by omega) ?_
  wtm_at "z"
  refine g_addS (by rw [app_length]; omega) ?_
  wtm_at "z"
  refine g_addS (by simp only [app_length]; omega) ?_
  wtm_at "z"
  refine g_addS (by simp only [app_length]; omega) ?_
  wtm_at "z"
  refine g_addS (by simp only [app_length]; omega) ?_
  refine ⟨rfl,List.prefix_refl _,?_⟩
  have e:("if ":Str) ++ w ++ " " ++ k ++ " " ++ (jB (wR r) ++ " else " ++ jB (wR r2)) = jB (wG (.tup [.str "if",.tup [.str w,.str k],r,r2])):=by
   show _ = jB (([("if":Str)]:List Str) ++ ([w] ++ ([k] ++ (wR r ++ (([("else":Str)]:List Str) ++ wR r2)))))
   rw [jB_app (by simp) (by simp),jB_app (by simp) (by simp),jB_app (by simp) (by simp),jB_app (wR_ne hr) (by simp),jB_app (by simp) (wR_ne hr2)]
   have e1:("if ":Str) = ("if":Str) ++ bk1:=by decide +kernel
   have e2:(" else ":Str) = bk1 ++ (("else":Str) ++ bk1):=by decide +kernel
   have e3:(" ":Str) = bk1:=rfl
   rw [e1,e2,e3]
   simp only [jB_one,Str.append_assoc]
  rw [e]; exact q
theorem Asc.slice {y:Str} (h:Asc y) (lo hi:Option Int):Asc (Txt.slice y lo hi):=fun c hc => h c (slice_mem hc)
theorem Asc.app {x y:Str} (hx:Asc x) (hy:Asc y):Asc (x ++ y):=fun c hc => by
 rw [app_toList] at hc
 rcases List.mem_append.mp hc with h | h
 ·exact hx c h
 ·exact hy c h
theorem asc_prog {d:D} (h:IsProg d):Asc (jB (wG d)):=by
 have kA:∀ {k:Str},k ∈ ks5 → Asc k:=fun {k} hk => by
  simp only [List.mem_cons,List.not_mem_nil,or_false] at hk
  rcases hk with rfl | rfl | rfl | rfl | rfl <;> (unfold Asc; decide +kernel)
 have pA:∀ {p:D},IsPlace p → ∀ w ∈ wP p,Asc w:=fun {p} hp w hw => by
  obtain ⟨k,n,e,rfl,hn,he,hk⟩:=hp
  simp only [wP,List.mem_cons,List.not_mem_nil,or_false] at hw
  rcases hw with rfl | rfl | rfl
  ·exact kA hk
  ·rcases hn with rfl | rfl | rfl | rfl <;> (unfold Asc; decide +kernel)
  ·rcases he with rfl | rfl <;> (unfold Asc; decide +kernel)
 have cA:∀ {p:D},IsPiece p → ∀ w ∈ wPc p,Asc w:=fun {p} hp w hw => by
  rcases hp with ⟨x,rfl,h1,_,_⟩ | ⟨dd,p1,p2,rfl,hd,hp1,hp2⟩
  ·simp only [wPc,List.mem_cons,List.not_mem_nil,or_false] at hw
   rcases hw with rfl | rfl
   ·unfold Asc; decide +kernel
   ·exact repl_asc (by decide) fun c hc => (show ∀ c ∈ codes,c < 128 by decide) c (h1 c hc)
  ·rw [wPc_str hp1] at hw
   simp only [List.mem_cons,List.mem_append] at hw
   rcases hw with rfl | hw | hw
   ·rcases hd with rfl | rfl | rfl <;> (unfold Asc; decide +kernel)
   ·exact pA hp1 w hw
   ·exact pA hp2 w hw
 have lA:∀ {ps:List D},(∀ p ∈ ps,IsPiece p) → ∀ w ∈ wPs ps,Asc w:=fun {ps} hp => by
  induction ps with
  | nil => intro w hw; cases hw
  | cons p r ih =>
   intro w hw
   rw [wPs_cons] at hw
   rcases List.mem_append.mp hw with hw | hw
   ·exact cA (hp p List.mem_cons_self) w hw
   ·cases r with
    | nil => cases hw
    | cons q r =>
     rcases List.mem_cons.mp hw with rfl | hw
     ·unfold Asc; decide +kernel
     ·exact ih (fun z hz => hp z (List.mem_cons_of_mem _ hz)) w hw
 have rA:∀ {r:D},IsRow r → ∀ w ∈ wR r,Asc w:=fun {r} hr w hw => by
  obtain ⟨ps,rfl,hp,_⟩:=hr
  simp only [wR,List.mem_cons] at hw
  rcases hw with rfl | hw
  ·unfold Asc; decide +kernel
  ·exact lA hp w hw
 have gA:∀ w ∈ wG d,Asc w:=fun w hw => by
  rcases h with ⟨r,rfl,hr⟩ | ⟨l,r,r2,rfl,⟨x,k,rfl,hx,hk⟩,hr,hr2⟩
  ·exact rA hr w hw
  ·simp only [wG,List.mem_cons,List.mem_append] at hw
   rcases hw with rfl | rfl | rfl | hw | rfl | hw
   ·unfold Asc; decide +kernel
   ·rcases hx with rfl | rfl <;> (unfold Asc; decide +kernel)
   ·exact kA hk
   ·exact rA hr w hw
   ·unfold Asc; decide +kernel
   ·exact rA hr2 w hw
 intro c hc
 rcases mem_joinC hc with rfl | ⟨w,hw,hcw⟩
 ·decide
 ·exact gA w hw c hcw
theorem wG_len9 {d:D} (h:IsProg d):(jB (wG d)).length ≤ 850:=by
 rcases h with ⟨r,rfl,hr⟩ | ⟨l,r,r2,rfl,⟨x,k,rfl,hx,hk⟩,hr,hr2⟩
 ·have:=wR_len hr
  show (jB (wR r)).length ≤ 850
  omega
 ·have h1:=wR_len hr
  have h2:=wR_len hr2
  have hwl:x.length ≤ 6:=by rcases hx with rfl | rfl <;> decide +kernel
  have hkl:=kind_len6 hk
  have h3:("if":Str).length = 2:=by decide +kernel
  have h4:("else":Str).length = 4:=by decide +kernel
  have h5:bk1.length = 1:=rfl
  show (jB (([("if":Str)]:List Str) ++ ([x] ++ ([k] ++ (wR r ++ (([("else":Str)]:List Str) ++ wR r2)))))).length ≤ 850
  rw [jB_app (by simp) (by simp),jB_app (by simp) (by simp),jB_app (by simp) (by simp),jB_app (wR_ne hr) (by simp),jB_app (by simp) (wR_ne hr2)]
  simp only [app_length,jB_one]
  omega
end L3
set_option maxHeartbeats 4000000
--BEGIN WPT
--END WPT
namespace L3
open PySem PySem.Spec PyProof.Rows L2
noncomputable def szW (us:List Str):Nat:=(us.map (·.length)).sum + us.length
theorem szW_app {a b:List Str}:szW (a ++ b) = szW a + szW b:=by
 unfold szW
 rw [List.map_append,List.sum_append,List.length_append]
 omega
theorem szW_take {us:List Str} {n:Nat}:szW (us.take n) ≤ szW us:=by
 have:=szW_app (a:=us.take n) (b:=us.drop n)
 rw [List.take_append_drop] at this
 omega
theorem szW_drop {us:List Str} {n:Nat}:szW (us.drop n) ≤ szW us:=by
 have:=szW_app (a:=us.take n) (b:=us.drop n)
 rw [List.take_append_drop] at this
 omega
theorem szW_join {c:Nat}:∀ {us:List Str},us ≠ [] → (Str.join ⟨#[c]⟩ us).length + 1 = szW us
 | [],h => absurd rfl h
 | [x],_ => by simp [szW,Str.join]
 | x :: y :: r,_ => by
  have ih:=szW_join (c:=c) (us:=y :: r) (by simp)
  rw [jn_cons (by simp),app_length,app_length]
  have h1:(⟨#[c]⟩:Str).length = 1:=rfl
  have:szW (x :: y :: r) = x.length + 1 + szW (y :: r):=by unfold szW; simp; omega
  omega
noncomputable def WOk (n:Nat) (us:List Str):Prop:=(∀ w ∈ us,Asc w) ∧ szW us ≤ n
theorem WOk.cut {n:Nat} {us:List Str} (h:WOk n us) (lo hi:Option Int):∃ vs,cutD (us.map D.str) lo hi = vs.map .str ∧ WOk n vs:=by
 refine ⟨(us.drop (HT.sIx us.length 0 lo)).take (HT.sIx us.length us.length hi - HT.sIx us.length 0 lo),?_,fun w hw => h.1 w (List.mem_of_mem_drop (List.mem_of_mem_take hw)),Nat.le_trans szW_take (Nat.le_trans szW_drop h.2)⟩
 unfold cutD
 rw [List.length_map,List.map_take,List.map_drop]
theorem WOk.app {n m:Nat} {a b:List Str} (h:WOk n a) (h':WOk m b):WOk (n + m) (a ++ b) :=
 ⟨fun w hw => (List.mem_append.mp hw).elim (h.1 w) (h'.1 w),by rw [szW_app]; have:=h.2; have:=h'.2; omega⟩
theorem WOk.len {n:Nat} {us:List Str} (h:WOk n us):us.length ≤ n:=by have:=h.2; unfold szW at this; omega
theorem WOk.one {x:Str} (h:Asc x) (hl:x.length ≤ 60):WOk 61 [x]:=⟨fun w hw => by rw [show w = x by simpa using hw]; exact h,by unfold szW; simp; omega⟩
theorem g_addW {Q:D → Sto → Prop} {L:Sto} {a b:Nat} {xs ys:List Str} {n m:Nat} (hx:WOk n xs) (hy:WOk m ys) (hz:n + m ≤ 16777216) (e1:L[a]? = some (.lst (xs.map .str))) (e2:L[b]? = some (.lst (ys.map .str))) (h:Q (.ref L.length) (L ++ [.lst ((xs ++ ys).map .str)])):W2 (gAdd (.ref a) (.ref b) L) Q :=
 g_addL e1 e2 (by rw [List.length_map,List.length_map]; have:=hx.len; have:=hy.len; omega) (by rw [← List.map_append]; exact h)
noncomputable def okS:D → Bool | .str x => decide (∀ c ∈ x.cps.toList,c < 128) && decide (x.length ≤ 60) | _ => false
theorem okS_of {xs:List D} (h:xs.all okS = true) {d:D} (hd:d ∈ xs):∃ x,d = .str x ∧ Asc x ∧ x.length ≤ 60:=by
 have:=List.all_eq_true.mp h d hd
 cases d with
 | str x =>
  unfold okS at this
  dsimp only at this
  rw [Bool.and_eq_true,decide_eq_true_iff,decide_eq_true_iff] at this
  exact ⟨x,rfl,this.1,this.2⟩
 | _ => cases this
theorem other_w {Q:D → Sto → Prop} {L:Sto} (c:Int) (h:∀ x,Asc x → x.length ≤ 60 → Q (.str x) L):W2 (G_lw_other [.int c] L) Q:=by
 unfold G_lw_other
 refine w_run rfl ?_
 unfold B_lw_other
 wtm_at "z"
 refine menu_mem _ get_last (by decide) (show (40:Int) ≤ ((40:Nat):Int) from by decide) fun d hd => ?_
 obtain ⟨x,rfl,h1,h2⟩:=okS_of (by decide +kernel) hd
 exact ⟨rfl,by wtm_at "z_pf",h x h1 h2⟩
theorem odd_w {Q:D → Sto → Prop} {L:Sto} (c:Int) (h:∀ x,Asc x → x.length ≤ 60 → Q (.str x) L):W2 (G_lw_odd [.int c] L) Q:=by
 unfold G_lw_odd
 refine w_run rfl ?_
 unfold B_lw_odd
 wtm_at "z"
 refine menu_mem _ get_last (by decide) (show (26:Int) ≤ ((26:Nat):Int) from by decide) fun d hd => ?_
 obtain ⟨x,rfl,h1,h2⟩:=okS_of (by decide +kernel) hd
 exact ⟨rfl,by wtm_at "z_pf",h x h1 h2⟩
theorem joinW {us:List Str} {n:Nat} (h:WOk n us):(Txt.join " " us).length ≤ n ∧ Asc (Txt.join " " us):=by
 rw [tjoin]
 constructor
 ·have:=joinC_len 32 us
  exact Nat.le_trans this h.2
 ·intro c hc
  rcases mem_joinC (d:=32) hc with rfl | ⟨w,hw,hcw⟩
  ·decide
  ·exact h.1 w hw c hcw
theorem lw_spoiled_w {Q:D → Sto → Prop} {L:Sto} {y:Str} (c:Int) (hy:y.length ≤ 850) (hA:Asc y) (h:∀ z,z.length ≤ 4000 → Asc z → Q (.str z) L):W2 (G_lw_spoiled [.str y,.int c] L) Q:=by
 have hs:=split_len y 32
 have hs2:=split_lens y 32
 have hne:=split_ne y 32
 have hws:WOk 851 (Txt.split y ⟨#[32]⟩):=by
  refine ⟨fun w hw e he => hA e (split_mem hw he),?_⟩
  rw [← szW_join (c:=32) hne,StrLaws.join_split]
  omega
 unfold G_lw_spoiled
 refine w_run rfl ?_
 unfold B_lw_spoiled
 have fin:∀ {us:List Str} {n:Nat} {L2:Sto},WOk n us → n ≤ 4000 → L <+: L2 → (D.str (Txt.join " " us)).noRef = true ∧ L <+: L2 ∧ Q (.str (Txt.join " " us)) L:=fun {us n L2} h1 h2 h3 => ⟨rfl,h3,h _ (Nat.le_trans (joinW h1).1 h2) (joinW h1).2⟩
 have jn:∀ {us:List Str} {n:Nat},WOk n us → n ≤ 4000 → (us.map (·.length)).sum + us.length * (" ":Str).length ≤ 16777216:=fun {us n} h1 h2 => by
  have h3:=h1.2
  unfold szW at h3
  rw [show (" ":Str).length = 1 by decide +kernel]
  omega
 wtm_at "z"
 refine g_split (by decide) (by omega) (by show (Txt.split y ⟨#[32]⟩).length ≤ _; omega) (fun p hp => by have:=hs2 p hp; omega) ?_
 rw [show Txt.split y " " = Txt.split y ⟨#[32]⟩ from rfl]
 generalize Txt.split y ⟨#[32]⟩ = ws at *
 have hk:(L ++ [Ob.lst (List.map D.str ws)])[L.length]? = some (.lst (ws.map .str)):=get_last
 have hwl:(0:Int) < (ws.length:Int):=by
  cases ws with
  | nil => exact absurd rfl hne
  | cons a b => simp
 wtm_at "z"
 rw [List.length_map]
 refine g_mod (by simp [cMod]; omega) ?_
 generalize c / 8 % (ws.length:Int) = A
 wtm_at "z"
 refine other_w _ fun x hx1 hx2 => ?_
 have wx:=WOk.one hx1 hx2
 have e0:∀ lo hi,∃ vs,cutD (ws.map D.str) lo hi = vs.map .str ∧ WOk 851 vs:=fun lo hi => hws.cut lo hi
 obtain ⟨v1,c1,w1⟩:=e0 none (some A)
 obtain ⟨v2,c2,w2⟩:=e0 (some (A + 1)) none
 obtain ⟨v3,c3,w3⟩:=e0 none (some (A + 1))
 obtain ⟨v4,c4,w4⟩:=e0 (some A) none
 obtain ⟨v5,c5,w5⟩:=e0 (some (A + 1)) (some (A + 2))
 obtain ⟨v6,c6,w6⟩:=e0 (some A) (some (A + 1))
 obtain ⟨v7,c7,w7⟩:=e0 (some (A + 2)) none
 rcases (show c % 8 = 0 ∨ c % 8 = 1 ∨ c % 8 = 2 ∨ c % 8 = 3 ∨ c % 8 = 4 ∨ c % 8 = 5 ∨ c % 8 = 6 ∨ c % 8 = 7 by omega) with e | e | e | e | e | e | e | e
 ·wtm_at "z"
  rw [e]
  wtm_at "z"
  rw [c1,c2]
  refine g_addW w1 w2 (by decide) (by simp) get_last ?_
  wtm_at "z"
  refine g_join get_last (strsD_map _) (jn (w1.app w2) (by decide)) ?_
  exact fin (w1.app w2) (by decide) (by wtm_at "z_pf")
 ·wtm_at "z"
  rw [e]
  wtm_at "z"
  rw [c3,c4]
  refine g_addW w3 w4 (by decide) (by simp) get_last ?_
  wtm_at "z"
  refine g_join get_last (strsD_map _) (jn (w3.app w4) (by decide)) ?_
  exact fin (w3.app w4) (by decide) (by wtm_at "z_pf")
 ·wtm_at "z"
  rw [e]
  wtm_at "z"
  rw [c5,c6]
  refine g_addW w5 w6 (by decide) (by simp) get_last ?_
  wtm_at "z"
  rw [c1]
  refine g_addW w1 (w5.app w6) (by decide) get_last (get_app get_last) ?_
  wtm_at "z"
  rw [c7]
  refine g_addW (w1.app (w5.app w6)) w7 (by decide) (get_app get_last) get_last ?_
  wtm_at "z"
  refine g_join get_last (strsD_map _) (jn ((w1.app (w5.app w6)).app w7) (by decide)) ?_
  exact fin ((w1.app (w5.app w6)).app w7) (by decide) (by wtm_at "z_pf")
 ·wtm_at "z"
  rw [e]
  wtm_at "z"
  rw [c1]
  refine g_addW (ys:=[x]) w1 wx (by decide) (get_app get_last) get_last ?_
  wtm_at "z"
  rw [c2]
  refine g_addW (w1.app wx) w2 (by decide) (get_app get_last) get_last ?_
  wtm_at "z"
  refine g_join get_last (strsD_map _) (jn ((w1.app wx).app w2) (by decide)) ?_
  exact fin ((w1.app wx).app w2) (by decide) (by wtm_at "z_pf")
 ·wtm_at "z"
  rw [e]
  wtm_at "z"
  rw [c1]
  refine g_addW (ys:=[x]) w1 wx (by decide) (get_app get_last) get_last ?_
  wtm_at "z"
  rw [c2]
  refine g_addW (w1.app wx) w2 (by decide) (get_app get_last) get_last ?_
  wtm_at "z"
  refine g_join get_last (strsD_map _) (jn ((w1.app wx).app w2) (by decide)) ?_
  exact fin ((w1.app wx).app w2) (by decide) (by wtm_at "z_pf")
 ·wtm_at "z"
  rw [e]
  wtm_at "z"
  rw [c1]
  refine g_addW (ys:=[x]) w1 wx (by decide) (get_app get_last) get_last ?_
  wtm_at "z"
  rw [c4]
  refine g_addW (w1.app wx) w4 (by decide) (get_app get_last) get_last ?_
  wtm_at "z"
  refine g_join get_last (strsD_map _) (jn ((w1.app wx).app w4) (by decide)) ?_
  exact fin ((w1.app wx).app w4) (by decide) (by wtm_at "z_pf")
 ·wtm_at "z"
  rw [c3]
  refine g_join get_last (strsD_map _) (jn w3 (by decide)) ?_
  exact fin w3 (by decide) (by wtm_at "z_pf")
 ·wtm_at "z"
  rw [e]
  wtm_at "z"
  refine menu_mem _ get_last (by decide) (show (4:Int) ≤ ((4:Nat):Int) from by decide) fun d hd => ?_
  obtain ⟨u,rfl,h1,h2⟩:=okS_of (by decide +kernel) hd
  have wu:=WOk.one h1 h2
  wtm_at "z"
  refine g_addW (ys:=[u]) hws wu (by decide) (get_app (get_app get_last)) get_last ?_
  wtm_at "z"
  refine g_join get_last (strsD_map _) (jn (hws.app wu) (by decide)) ?_
  exact fin (hws.app wu) (by decide) (by wtm_at "z_pf")
end L3
set_option maxHeartbeats 4000000
--BEGIN WPT
--END WPT
namespace L3
open PySem PySem.Spec PyProof.Rows L2
theorem law_w (ns:List Int) (hn:ns.length ≤ 63) (hb:∀ z ∈ ns,Builtin.Int.intBits z ≤ 1048576):W2 (G_law [.fz (ns.map .int)] []) fun d _ => d = .bl true:=by
 unfold G_law
 refine w_run rfl ?_
 unfold B_law
 have hlen:((ns.map D.int).length:Int) = ns.length:=by simp
 wtm_at "z"
 refine cell_w hb hn (by omega) (by omega) fun c1 hc1 hc2 => ?_
 wtm_at "z"
 refine cell_w hb hn (by omega) (by omega) fun c2 hc3 hc4 => ?_
 wtm_at "z"
 refine lw_program_w _ _ fun p hp => ?_
 have hl:=wG_len9 hp
 have hA:=asc_prog hp
 wtm_at "z"
 refine lw_shown_w hp ?_
 wtm_at "z"
 generalize hN:((if (if ((List.map D.int ns).length:Int) < 13 then ((List.map D.int ns).length:Int) else 13) > 4 then (if ((List.map D.int ns).length:Int) < 13 then ((List.map D.int ns).length:Int) else 13) else 4) - 3).toNat = n
 have hn1:n ≤ 10:=by
  rw [← hN]
  split <;> (try split) <;> omega
 refine ws_loop (fun j ρ L => ∃ a,ρ = [some (.fz (ns.map .int)),some (.str (jB (wG p))),a]) _ 0 _ _ ⟨none,rfl⟩ ?_ ?_
 ·rintro i x ρ L hx ⟨a,rfl⟩
  obtain ⟨hi,rfl⟩:=rngD_at hx
  refine ⟨rfl,?_⟩
  wtm_at "z"
  refine cell_w hb hn (by omega) (by omega) fun c3 _ _ => ?_
  wtm_at "z"
  refine lw_spoiled_w c3 (by omega) hA fun z hz1 hz2 => ?_
  wtm_at "z"
  refine right_w hz1 hz2 ?_
  wtm_at "z"
  exact ⟨_,rfl⟩
 ·rintro ρ L ⟨a,rfl⟩
  refine ⟨rfl,?_⟩
  wtm_at "z"
  refine cell_w hb hn (by omega) (by omega) fun c4 _ _ => ?_
  wtm_at "z"
  refine odd_w c4 fun z hz1 hz2 => ?_
  wtm_at "z"
  refine right_w (by omega) hz1 ?_
  exact ⟨rfl,List.nil_prefix,rfl⟩
theorem law_true (ns:List Int) (hn:ns.length ≤ 63) (hb:∀ z ∈ ns,Builtin.Int.intBits z ≤ 1048576):∃ L',G_law [.fz (ns.map .int)] [] = some (.bl true,L'):=by
 obtain ⟨d,L',e,rfl⟩:=law_w ns hn hb
 exact ⟨L',e⟩
end L3
set_option maxHeartbeats 8000000
namespace L3
open PySem PySem.Spec PyProof.Rows L2
seal PEf PTf PWf PAf PSf PSsf PGf PGsf PIf PQf POf OpD CallD IxD MtD
noncomputable def NBl:List Str:=["ValueError","all","bool","int","isinstance","len","max","min","range","str","tuple"]
noncomputable abbrev s_lw_shown_row:Stmt:=atTop PySem.Challenge.pw_byexample_k23_words_spoiled 52
theorem sc_lw_shown_row:FnScope N_lw_shown_row ["_law_row_here"] (defScope s_lw_shown_row):=⟨rfl,rfl,rfl,by decide +kernel,rfl,by decide +kernel,by decide +kernel⟩
section
variable {P:Program} {w:World} {K:PySem.W.Frag} {mg:Str → Option Value} {base:Heap} {k:Nat} {f:Addr} {cdv:Value} {A:Around} {outer:List Env} {s:Shared} {H:Hp} {E:XK}
theorem d_lw_shown_row (hr:Room k (A.deeper (envOfC "_law_shown_row" (defScope s_lw_shown_row) s.heap.objs.size f cdv))) (hb:BlOk mg NBl) :
  PSsf (cxOf CX0 P w K mg base N_lw_shown_row "_law_shown_row" (defScope s_lw_shown_row) f cdv A outer s H E).nox (defBody s_lw_shown_row) (B_lw_shown_row):=by
 have nd:N_lw_shown_row.Nodup:=sc_lw_shown_row.nd
 exact (ssf_cons (sf_set (i:=1) nd (ef_lst af_nil)) (ssf_cons (sf_for PassesOwn.never rfl (pif_any (ef_var (pv 0))) (gf_name (i:=2) nd) (ssf_one (sf_if (tf_cmp od_eq (ef_ix xd_ix (ef_var (pv 2)) ef_int (fun _ _ => rfl)) ef_str rfl) (ssf_one (sf_expr (ef_bm PySem.F.plainAttrs_list PySem.F.slot_list_append PySem.F.type_list_append md_append (ef_var (pv 1)) (af_cons (ef_op od_add ef_str (ef_bm PySem.F.plainAttrs_str PySem.F.slot_str_join PySem.F.type_str_join md_join ef_str (af_cons (ef_bm PySem.F.plainAttrs_str PySem.F.slot_str_split PySem.F.type_str_split md_split (ef_ix xd_ix (ef_var (pv 2)) ef_int (fun _ _ => rfl)) (af_cons ef_str af_nil)) af_nil))) af_nil)))) (ssf_one (sf_expr (ef_bm PySem.F.plainAttrs_list PySem.F.slot_list_append PySem.F.type_list_append md_append (ef_var (pv 1)) (af_cons (ef_bm PySem.F.plainAttrs_str PySem.F.slot_str_join PySem.F.type_str_join md_join ef_str (af_cons (ef_op od_add (ef_lst (af_cons (ef_ix xd_ix (ef_var (pv 2)) ef_int (fun _ _ => rfl)) af_nil)) (ef_comp rfl (pif_any (ef_op od_add (ef_ix xd_ix (ef_var (pv 2)) ef_int (fun _ _ => rfl)) (ef_ix xd_ix (ef_var (pv 2)) ef_int (fun _ _ => rfl)))) (compOk_of (N:=N_lw_shown_row) (N':=["_law_part"]) (n:=1) (idx:=[]) (fnames:=(defScope s_lw_shown_row).names) rfl (fun _ => rfl) rfl (by decide +kernel)) (fun _ _ _ _ _ _ => ⟨(gf_name (i:=0) (show (["_law_part"]:List Str).Nodup by decide +kernel)),qf_nil,(ef_callTy cd_str (hb.get "str") bt_str (af_cons (ef_var (pv 0)) af_nil))⟩))) af_nil)) af_nil))))))) (ssf_one (sf_ret (ef_op od_add ef_str (ef_bm PySem.F.plainAttrs_str PySem.F.slot_str_join PySem.F.type_str_join md_join ef_str (af_cons (ef_var (pv 1)) af_nil)))))))
noncomputable abbrev s_lw_shown:Stmt:=atTop PySem.Challenge.pw_byexample_k23_words_spoiled 53
theorem sc_lw_shown:FnScope N_lw_shown ["_law_program_here"] (defScope s_lw_shown):=⟨rfl,rfl,rfl,by decide +kernel,rfl,by decide +kernel,by decide +kernel⟩
theorem d_lw_shown (hr:Room k (A.deeper (envOfC "_law_shown" (defScope s_lw_shown) s.heap.objs.size f cdv))) (hb:BlOk mg NBl) {G_lw_shown_row:GL} (F_lw_shown_row:FnD P w K mg base k "_law_shown_row" G_lw_shown_row) :
  PSsf (cxOf CX0 P w K mg base N_lw_shown "_law_shown" (defScope s_lw_shown) f cdv A outer s H E).nox (defBody s_lw_shown) (B_lw_shown G_lw_shown_row):=by
 have nd:N_lw_shown.Nodup:=sc_lw_shown.nd
 exact (ssf_cons (sf_if (tf_cmp od_eq (ef_ix xd_ix (ef_var (pv 0)) ef_int (fun _ _ => rfl)) ef_str rfl) (ssf_one (sf_ret (ef_call F_lw_shown_row hr (af_cons (ef_ix xd_ix (ef_var (pv 0)) ef_int (fun _ _ => rfl)) af_nil)))) ssf_nil) (ssf_cons (sf_set (i:=1) nd (ef_op od_add (ef_op od_add (ef_call F_lw_shown_row hr (af_cons (ef_ix xd_ix (ef_var (pv 0)) ef_int (fun _ _ => rfl)) af_nil)) ef_str) (ef_call F_lw_shown_row hr (af_cons (ef_ix xd_ix (ef_var (pv 0)) ef_int (fun _ _ => rfl)) af_nil)))) (ssf_one (sf_ret (ef_op od_add (ef_op od_add (ef_op od_add (ef_op od_add (ef_op od_add ef_str (ef_ix xd_ix (ef_ix xd_ix (ef_var (pv 0)) ef_int (fun _ _ => rfl)) ef_int (fun _ _ => rfl))) ef_str) (ef_ix xd_ix (ef_ix xd_ix (ef_var (pv 0)) ef_int (fun _ _ => rfl)) ef_int (fun _ _ => rfl))) ef_str) (ef_var (pv 1)))))))
noncomputable abbrev s_lw_read_place:Stmt:=atTop PySem.Challenge.pw_byexample_k23_words_spoiled 57
theorem sc_lw_read_place:FnScope N_lw_read_place ["_law_words"] (defScope s_lw_read_place):=⟨rfl,rfl,rfl,by decide +kernel,rfl,by decide +kernel,by decide +kernel⟩
theorem d_lw_read_place (hr:Room k (A.deeper (envOfC "_law_read_place" (defScope s_lw_read_place) s.heap.objs.size f cdv))) (hb:BlOk mg NBl) :
  PSsf (cxOf CX0 P w K mg base N_lw_read_place "_law_read_place" (defScope s_lw_read_place) f cdv A outer s H E).nox (defBody s_lw_read_place) (B_lw_read_place):=by
 have nd:N_lw_read_place.Nodup:=sc_lw_read_place.nd
 exact (ssf_cons (sf_if (tf_w (wf_or (tf_cmp od_notin (ef_ix xd_ix (ef_var (pv 0)) ef_int (fun _ _ => rfl)) (ef_tup (af_cons ef_str (af_cons ef_str (af_cons ef_str (af_cons ef_str (af_cons ef_str af_nil)))))) rfl) (wf_one_or (tf_cmp od_notin (ef_ix xd_ix (ef_var (pv 0)) ef_int (fun _ _ => rfl)) (ef_tup (af_cons ef_str (af_cons ef_str af_nil))) rfl)))) (ssf_one (sf_ret ef_non)) ssf_nil) (ssf_cons (sf_if (tf_cmp od_notin (ef_ix xd_ix (ef_var (pv 0)) ef_int (fun _ _ => rfl)) (ef_tup (af_cons ef_str (af_cons ef_str (af_cons ef_str (af_cons ef_str af_nil))))) rfl) (ssf_one (sf_ret ef_non)) ssf_nil) (ssf_one (sf_ret (ef_tup (af_cons (ef_ix xd_ix (ef_var (pv 0)) ef_int (fun _ _ => rfl)) (af_cons (ef_callTy cd_intT (hb.get "int") bt_int (af_cons (ef_ix xd_ix (ef_var (pv 0)) ef_int (fun _ _ => rfl)) af_nil)) (af_cons (ef_ix xd_ix (ef_var (pv 0)) ef_int (fun _ _ => rfl)) af_nil))))))))
noncomputable abbrev s_lw_is_word:Stmt:=atTop PySem.Challenge.pw_byexample_k23_words_spoiled 55
theorem sc_lw_is_word:FnScope N_lw_is_word ["_law_word_here"] (defScope s_lw_is_word):=⟨rfl,rfl,rfl,by decide +kernel,rfl,by decide +kernel,by decide +kernel⟩
theorem d_lw_is_word (hr:Room k (A.deeper (envOfC "_law_is_word" (defScope s_lw_is_word) s.heap.objs.size f cdv))) (hb:BlOk mg NBl) :
  PSsf (cxOf CX0 P w K mg base N_lw_is_word "_law_is_word" (defScope s_lw_is_word) f cdv A outer s H E).nox (defBody s_lw_is_word) (B_lw_is_word):=by
 have nd:N_lw_is_word.Nodup:=sc_lw_is_word.nd
 exact (ssf_cons (sf_for PassesOwn.never rfl (pif_any (ef_var (pv 0))) (gf_name (i:=1) nd) (ssf_one (sf_if (tf_w (wf_and (tf_not (tf_val (ef_bm0 PySem.F.plainAttrs_str PySem.F.slot_str_isalnum PySem.F.type_str_isalnum md_isalnum (ef_var (pv 1))))) (wf_one_and (tf_cmp od_notin (ef_var (pv 1)) ef_str rfl)))) (ssf_one (sf_ret ef_bl)) ssf_nil))) (ssf_one (sf_ret (ef_chain od_le od_le ef_int (ef_callB cd_len (hb.get "len") bt_len (af_cons (ef_var (pv 0)) af_nil)) ef_int))))
noncomputable abbrev s_lw_read_piece:Stmt:=atTop PySem.Challenge.pw_byexample_k23_words_spoiled 58
theorem sc_lw_read_piece:FnScope N_lw_read_piece ["_law_words"] (defScope s_lw_read_piece):=⟨rfl,rfl,rfl,by decide +kernel,rfl,by decide +kernel,by decide +kernel⟩
theorem d_lw_read_piece (hr:Room k (A.deeper (envOfC "_law_read_piece" (defScope s_lw_read_piece) s.heap.objs.size f cdv))) (hb:BlOk mg NBl) {G_lw_read_place:GL} (F_lw_read_place:FnD P w K mg base k "_law_read_place" G_lw_read_place) {G_lw_is_word:GL} (F_lw_is_word:FnD P w K mg base k "_law_is_word" G_lw_is_word) :
  PSsf (cxOf CX0 P w K mg base N_lw_read_piece "_law_read_piece" (defScope s_lw_read_piece) f cdv A outer s H E).nox (defBody s_lw_read_piece) (B_lw_read_piece G_lw_read_place G_lw_is_word):=by
 have nd:N_lw_read_piece.Nodup:=sc_lw_read_piece.nd
 exact (ssf_cons (sf_ifR (t1_and (t1_cmp (od_eqD hr.units) (ef_slice (ef_var (pv 0)) of_none (of_some ef_int)) e1_lst rfl) (wf_one_and (tf_cmp od_gt (ef_callB cd_len (hb.get "len") bt_len (af_cons (ef_var (pv 0)) af_nil)) ef_int rfl))) (ssp_set (i:=1) nd (ef_replP (by decide) (ef_ix xd_ix (ef_var (pv 0)) ef_int (fun _ _ => rfl))) (ssf_cons (sf_if (tf_not (tf_val (ef_call F_lw_is_word hr (af_cons (ef_var (pv 1)) af_nil)))) (ssf_one (sf_ret ef_non)) ssf_nil) (ssf_one (sf_ret (ef_lst (af_cons (ef_tup (af_cons ef_str (af_cons (ef_var (pv 1)) af_nil))) (af_cons (ef_slice (ef_var (pv 0)) (of_some ef_int) of_none) af_nil))))))) ssf_nil) (ssf_cons (sf_if (tf_w (wf_or (tf_cmp od_lt (ef_callB cd_len (hb.get "len") bt_len (af_cons (ef_var (pv 0)) af_nil)) ef_int rfl) (wf_one_or (tf_cmp od_notin (ef_ix xd_ix (ef_var (pv 0)) ef_int (fun _ _ => rfl)) (ef_tup (af_cons ef_str (af_cons ef_str (af_cons ef_str af_nil)))) rfl)))) (ssf_one (sf_ret ef_non)) ssf_nil) (ssf_cons (sf_set (i:=2) nd (ef_call F_lw_read_place hr (af_cons (ef_slice (ef_var (pv 0)) (of_some ef_int) (of_some ef_int)) af_nil))) (ssf_cons (sf_set (i:=3) nd (ef_call F_lw_read_place hr (af_cons (ef_slice (ef_var (pv 0)) (of_some ef_int) (of_some ef_int)) af_nil))) (ssf_cons (sf_if (tf_w (wf_or (tf_cmp od_is (ef_var (pv 2)) ef_non rfl) (wf_one_or (tf_cmp od_is (ef_var (pv 3)) ef_non rfl)))) (ssf_one (sf_ret ef_non)) ssf_nil) (ssf_one (sf_ret (ef_lst (af_cons (ef_tup (af_cons (ef_ix xd_ix (ef_var (pv 0)) ef_int (fun _ _ => rfl)) (af_cons (ef_var (pv 2)) (af_cons (ef_var (pv 3)) af_nil)))) (af_cons (ef_slice (ef_var (pv 0)) (of_some ef_int) of_none) af_nil))))))))))
noncomputable abbrev s_lw_read_row:Stmt:=atTop PySem.Challenge.pw_byexample_k23_words_spoiled 59
theorem sc_lw_read_row:FnScope N_lw_read_row ["_law_words"] (defScope s_lw_read_row):=⟨rfl,rfl,rfl,by decide +kernel,rfl,by decide +kernel,by decide +kernel⟩
theorem d_lw_read_row (hr:Room k (A.deeper (envOfC "_law_read_row" (defScope s_lw_read_row) s.heap.objs.size f cdv))) (hb:BlOk mg NBl) {G_lw_read_piece:GL} (F_lw_read_piece:FnD P w K mg base k "_law_read_piece" G_lw_read_piece) :
  PSsf (cxOf CX0 P w K mg base N_lw_read_row "_law_read_row" (defScope s_lw_read_row) f cdv A outer s H E).nox (defBody s_lw_read_row) (B_lw_read_row G_lw_read_piece):=by
 have nd:N_lw_read_row.Nodup:=sc_lw_read_row.nd
 exact (ssf_cons (sf_set (i:=1) nd (ef_lst af_nil)) (ssf_cons (sf_set (i:=0) nd (ef_op od_add (ef_lst (af_cons ef_str af_nil)) (ef_var (pv 0)))) (ssf_cons (sf_while PassesOwn.never (tf_cmp (od_eqD hr.units) (ef_slice (ef_var (pv 0)) of_none (of_some ef_int)) (ef_lst (af_cons ef_str af_nil)) rfl) (ssf_cons (sf_set (i:=2) nd (ef_call F_lw_read_piece hr (af_cons (ef_slice (ef_var (pv 0)) (of_some ef_int) of_none) af_nil))) (ssf_cons (sf_if (tf_w (wf_or (tf_cmp od_is (ef_var (pv 2)) ef_non rfl) (wf_one_or (tf_cmp (od_eqD hr.units) (ef_callB cd_len (hb.get "len") bt_len (af_cons (ef_var (pv 1)) af_nil)) ef_int rfl)))) (ssf_one (sf_ret ef_non)) ssf_nil) (ssf_cons (sf_expr (ef_bm PySem.F.plainAttrs_list PySem.F.slot_list_append PySem.F.type_list_append md_append (ef_var (pv 1)) (af_cons (ef_ix xd_ix (ef_var (pv 2)) ef_int (fun _ _ => rfl)) af_nil))) (ssf_one (sf_set (i:=0) nd (ef_ix xd_ix (ef_var (pv 2)) ef_int (fun _ _ => rfl)))))))) (ssf_one (sf_ret (ef_lst (af_cons (ef_callTy cd_tuple (hb.get "tuple") bt_tuple (af_cons (ef_var (pv 1)) af_nil)) (af_cons (ef_var (pv 0)) af_nil))))))))
noncomputable abbrev s_lw_is_look:Stmt:=atTop PySem.Challenge.pw_byexample_k23_words_spoiled 56
theorem sc_lw_is_look:FnScope N_lw_is_look ["_law_words"] (defScope s_lw_is_look):=⟨rfl,rfl,rfl,by decide +kernel,rfl,by decide +kernel,by decide +kernel⟩
theorem d_lw_is_look (hr:Room k (A.deeper (envOfC "_law_is_look" (defScope s_lw_is_look) s.heap.objs.size f cdv))) (hb:BlOk mg NBl) :
  PSsf (cxOf CX0 P w K mg base N_lw_is_look "_law_is_look" (defScope s_lw_is_look) f cdv A outer s H E).nox (defBody s_lw_is_look) (B_lw_is_look):=by
 have nd:N_lw_is_look.Nodup:=sc_lw_is_look.nd
 exact (ssf_one (sf_ret (ef_and (ef_cmp od_in (ef_ix xd_ix (ef_var (pv 0)) ef_int (fun _ _ => rfl)) (ef_tup (af_cons ef_str (af_cons ef_str af_nil))) rfl) (ef_one (ef_cmp od_in (ef_ix xd_ix (ef_var (pv 0)) ef_int (fun _ _ => rfl)) (ef_tup (af_cons ef_str (af_cons ef_str (af_cons ef_str (af_cons ef_str (af_cons ef_str af_nil)))))) rfl)))))
noncomputable abbrev s_lw_read:Stmt:=atTop PySem.Challenge.pw_byexample_k23_words_spoiled 60
theorem sc_lw_read:FnScope N_lw_read ["_law_text_here"] (defScope s_lw_read):=⟨rfl,rfl,rfl,by decide +kernel,rfl,by decide +kernel,by decide +kernel⟩
theorem d_lw_read (hr:Room k (A.deeper (envOfC "_law_read" (defScope s_lw_read) s.heap.objs.size f cdv))) (hb:BlOk mg NBl) {G_lw_read_row:GL} (F_lw_read_row:FnD P w K mg base k "_law_read_row" G_lw_read_row) {G_lw_is_look:GL} (F_lw_is_look:FnD P w K mg base k "_law_is_look" G_lw_is_look) :
  PSsf (cxOf CX0 P w K mg base N_lw_read "_law_read" (defScope s_lw_read) f cdv A outer s H E).nox (defBody s_lw_read) (B_lw_read G_lw_read_row G_lw_is_look):=by
 have nd:N_lw_read.Nodup:=sc_lw_read.nd
 exact (ssf_cons (sf_set (i:=1) nd (ef_bm PySem.F.plainAttrs_str PySem.F.slot_str_split PySem.F.type_str_split md_split (ef_var (pv 0)) (af_cons ef_str af_nil))) (ssf_cons (sf_if (tf_cmp (od_eqD hr.units) (ef_ix xd_ix (ef_var (pv 1)) ef_int (fun _ _ => rfl)) ef_str rfl) (ssf_cons (sf_set (i:=2) nd (ef_call F_lw_read_row hr (af_cons (ef_slice (ef_var (pv 1)) (of_some ef_int) of_none) af_nil))) (ssf_cons (sf_if (tf_w (wf_or (tf_cmp od_is (ef_var (pv 2)) ef_non rfl) (wf_one_or (tf_cmp (od_neD hr.units) (ef_ix xd_ix (ef_var (pv 2)) ef_int (fun _ _ => rfl)) (ef_lst af_nil) rfl)))) (ssf_one (sf_ret ef_non)) ssf_nil) (ssf_one (sf_ret (ef_tup (af_cons ef_str (af_cons (ef_ix xd_ix (ef_var (pv 2)) ef_int (fun _ _ => rfl)) af_nil))))))) ssf_nil) (ssf_cons (sf_if (tf_w (wf_or (tf_cmp (od_neD hr.units) (ef_ix xd_ix (ef_var (pv 1)) ef_int (fun _ _ => rfl)) ef_str rfl) (wf_or (tf_cmp od_lt (ef_callB cd_len (hb.get "len") bt_len (af_cons (ef_var (pv 1)) af_nil)) ef_int rfl) (wf_or (tf_not (tf_val (ef_call F_lw_is_look hr (af_cons (ef_slice (ef_var (pv 1)) (of_some ef_int) (of_some ef_int)) af_nil)))) (wf_one_or (tf_cmp (od_neD hr.units) (ef_ix xd_ix (ef_var (pv 1)) ef_int (fun _ _ => rfl)) ef_str rfl)))))) (ssf_one (sf_ret ef_non)) ssf_nil) (ssf_cons (sf_set (i:=2) nd (ef_call F_lw_read_row hr (af_cons (ef_slice (ef_var (pv 1)) (of_some ef_int) of_none) af_nil))) (ssf_cons (sf_if (tf_w (wf_or (tf_cmp od_is (ef_var (pv 2)) ef_non rfl) (wf_one_or (tf_cmp (od_neD hr.units) (ef_slice (ef_ix xd_ix (ef_var (pv 2)) ef_int (fun _ _ => rfl)) of_none (of_some ef_int)) (ef_lst (af_cons ef_str (af_cons ef_str af_nil))) rfl)))) (ssf_one (sf_ret ef_non)) ssf_nil) (ssf_cons (sf_set (i:=3) nd (ef_call F_lw_read_row hr (af_cons (ef_slice (ef_ix xd_ix (ef_var (pv 2)) ef_int (fun _ _ => rfl)) (of_some ef_int) of_none) af_nil))) (ssf_cons (sf_if (tf_w (wf_or (tf_cmp od_is (ef_var (pv 3)) ef_non rfl) (wf_one_or (tf_cmp (od_neD hr.units) (ef_ix xd_ix (ef_var (pv 3)) ef_int (fun _ _ => rfl)) (ef_lst af_nil) rfl)))) (ssf_one (sf_ret ef_non)) ssf_nil) (ssf_one (sf_ret (ef_tup (af_cons ef_str (af_cons (ef_tup (af_cons (ef_ix xd_ix (ef_var (pv 1)) ef_int (fun _ _ => rfl)) (af_cons (ef_ix xd_ix (ef_var (pv 1)) ef_int (fun _ _ => rfl)) af_nil))) (af_cons (ef_ix xd_ix (ef_var (pv 2)) ef_int (fun _ _ => rfl)) (af_cons (ef_ix xd_ix (ef_var (pv 3)) ef_int (fun _ _ => rfl)) af_nil))))))))))))))
noncomputable abbrev s_lw_alike:Stmt:=atTop PySem.Challenge.pw_byexample_k23_words_spoiled 54
theorem sc_lw_alike:FnScope N_lw_alike ["_law_found","_law_due"] (defScope s_lw_alike):=⟨rfl,rfl,rfl,by decide +kernel,rfl,by decide +kernel,by decide +kernel⟩
theorem d_lw_alike (hr:Room k (A.deeper (envOfC "_law_alike" (defScope s_lw_alike) s.heap.objs.size f cdv))) (hb:BlOk mg NBl) {G_lw_alike:GL} (F_lw_alike:FnD P w K mg base k "_law_alike" G_lw_alike) :
  PSsf (cxOf CX0 P w K mg base N_lw_alike "_law_alike" (defScope s_lw_alike) f cdv A outer s H E).nox (defBody s_lw_alike) (B_lw_alike G_lw_alike):=by
 have nd:N_lw_alike.Nodup:=sc_lw_alike.nd
 exact (ssf_cons (sf_if (tf_val (ef_callB cd_inst (hb.get "isinstance") bt_isinstance (af_cons (ef_var (pv 1)) (af_cons (ef_ty (hb.get "tuple") bt_tuple) af_nil)))) (ssf_cons (sf_if (tf_w (wf_or (tf_not (tf_val (ef_callB cd_inst (hb.get "isinstance") bt_isinstance (af_cons (ef_var (pv 0)) (af_cons (ef_ty (hb.get "tuple") bt_tuple) af_nil))))) (wf_one_or (tf_cmp od_ne (ef_callB cd_len (hb.get "len") bt_len (af_cons (ef_var (pv 0)) af_nil)) (ef_callB cd_len (hb.get "len") bt_len (af_cons (ef_var (pv 1)) af_nil)) rfl)))) (ssf_one (sf_ret ef_bl)) ssf_nil) (ssf_one (sf_ret (ef_cmp od_eq (ef_callB cd_len (hb.get "len") bt_len (af_cons (ef_comp rfl (pif_range1 (hb.get "range") (af_cons (ef_callB cd_len (hb.get "len") bt_len (af_cons (ef_var (pv 1)) af_nil)) af_nil)) (compOk_of (N:=N_lw_alike) (N':=["_law_k","_law_found","_law_due"]) (n:=1) (idx:=[0,1]) (fnames:=(defScope s_lw_alike).names) rfl (fun _ => rfl) rfl (by decide +kernel)) (fun _ _ _ _ _ _ => ⟨(gf_name (i:=0) (show (["_law_k","_law_found","_law_due"]:List Str).Nodup by decide +kernel)),(qf_one (tf_val (ef_call F_lw_alike hr (af_cons (ef_ix xd_ix (ef_var (pv 1)) (ef_var (pv 0)) (fun _ _ => rfl)) (af_cons (ef_ix xd_ix (ef_var (pv 2)) (ef_var (pv 0)) (fun _ _ => rfl)) af_nil))))),(ef_var (pv 0))⟩)) af_nil)) (ef_callB cd_len (hb.get "len") bt_len (af_cons (ef_var (pv 1)) af_nil)) rfl)))) ssf_nil) (ssf_cons (sf_if (tf_cmp od_is (ef_var (pv 1)) ef_non rfl) (ssf_one (sf_ret (ef_cmp od_is (ef_var (pv 0)) ef_non rfl))) ssf_nil) (ssf_cons (sf_if (tf_val (ef_callB cd_inst (hb.get "isinstance") bt_isinstance (af_cons (ef_var (pv 1)) (af_cons (ef_ty (hb.get "str") bt_str) af_nil)))) (ssf_one (sf_ret (ef_and (ef_callB cd_inst (hb.get "isinstance") bt_isinstance (af_cons (ef_var (pv 0)) (af_cons (ef_ty (hb.get "str") bt_str) af_nil))) (ef_one (ef_cmp od_eq (ef_var (pv 0)) (ef_var (pv 1)) rfl))))) ssf_nil) (ssf_one (sf_ret (ef_and (ef_callB cd_inst (hb.get "isinstance") bt_isinstance (af_cons (ef_var (pv 0)) (af_cons (ef_ty (hb.get "int") bt_int) af_nil))) (ef_and (ef_not (ef_callB cd_inst (hb.get "isinstance") bt_isinstance (af_cons (ef_var (pv 0)) (af_cons (ef_ty (hb.get "bool") bt_bool) af_nil)))) (ef_one (ef_cmp od_eq (ef_var (pv 0)) (ef_var (pv 1)) rfl)))))))))
noncomputable abbrev s_Parts_take:Stmt:=inCls PySem.Challenge.pw_byexample_k23_words_spoiled 37 1
theorem sc_Parts_take:FnScope N_Parts_take ["self"] (defScope s_Parts_take):=⟨rfl,rfl,rfl,by decide +kernel,rfl,by decide +kernel,by decide +kernel⟩
theorem d_Parts_take (hr:Room k (A.deeper (envOfC "Parts.take" (defScope s_Parts_take) s.heap.objs.size f cdv))) (hb:BlOk mg NBl) (O_Parts_parts:FldOk K "Parts" "parts") (O_Parts_taken:FldOk K "Parts" "taken") :
  PSsf (cxOf CX0 P w K mg base N_Parts_take "Parts.take" (defScope s_Parts_take) f cdv A outer s H E).nox (defBody s_Parts_take) (B_Parts_take):=by
 have nd:N_Parts_take.Nodup:=sc_Parts_take.nd
 exact (ssf_cons (sf_set (i:=1) nd (ef_if (tf_cmp od_lt (ef_fld (ef_var (pv 0)) (fld_cons O_Parts_taken fld_nil)) (ef_callB cd_len (hb.get "len") bt_len (af_cons (ef_fld (ef_var (pv 0)) (fld_cons O_Parts_parts fld_nil)) af_nil)) rfl) (ef_ix xd_ix (ef_fld (ef_var (pv 0)) (fld_cons O_Parts_parts fld_nil)) (ef_fld (ef_var (pv 0)) (fld_cons O_Parts_taken fld_nil)) (fun _ _ => rfl)) ef_str)) (ssf_cons (sf_augO (ef_var (pv 0)) ef_int (fld_cons O_Parts_taken fld_nil) inop_add) (ssf_one (sf_ret (ef_var (pv 1))))))
noncomputable abbrev s_take_place:Stmt:=atTop PySem.Challenge.pw_byexample_k23_words_spoiled 38
theorem sc_take_place:FnScope N_take_place ["parts"] (defScope s_take_place):=⟨rfl,rfl,rfl,by decide +kernel,rfl,by decide +kernel,by decide +kernel⟩
theorem d_take_place (hr:Room k (A.deeper (envOfC "take_place" (defScope s_take_place) s.heap.objs.size f cdv))) (hb:BlOk mg NBl) (T_NTH_BY_PART:GTab K mg w "NTH_BY_PART" c_NTH_BY_PART) {G_Parts_take:GL} (F_Parts_take:FnM P w K mg base k "Parts" "take" G_Parts_take) :
  PSsf (cxOf CX0 P w K mg base N_take_place "take_place" (defScope s_take_place) f cdv A outer s H E).nox (defBody s_take_place) (B_take_place G_Parts_take):=by
 have nd:N_take_place.Nodup:=sc_take_place.nd
 exact (ssf_cons (sf_set (i:=1) nd (ef_meth0 F_Parts_take hr (ef_var (pv 0)))) (ssf_cons (sf_set (i:=2) nd (ef_kget T_NTH_BY_PART (ef_meth0 F_Parts_take hr (ef_var (pv 0))))) (ssf_cons (sf_set (i:=3) nd (ef_meth0 F_Parts_take hr (ef_var (pv 0)))) (ssf_one (sf_ret (ef_tup (af_cons (ef_var (pv 1)) (af_cons (ef_var (pv 2)) (af_cons (ef_var (pv 3)) af_nil)))))))))
noncomputable abbrev s_take_piece:Stmt:=atTop PySem.Challenge.pw_byexample_k23_words_spoiled 39
theorem sc_take_piece:FnScope N_take_piece ["parts"] (defScope s_take_piece):=⟨rfl,rfl,rfl,by decide +kernel,rfl,by decide +kernel,by decide +kernel⟩
theorem d_take_piece (hr:Room k (A.deeper (envOfC "take_piece" (defScope s_take_piece) s.heap.objs.size f cdv))) (hb:BlOk mg NBl) {G_Parts_take:GL} (F_Parts_take:FnM P w K mg base k "Parts" "take" G_Parts_take) {G_take_place:GL} (F_take_place:FnD P w K mg base k "take_place" G_take_place) :
  PSsf (cxOf CX0 P w K mg base N_take_piece "take_piece" (defScope s_take_piece) f cdv A outer s H E).nox (defBody s_take_piece) (B_take_piece G_Parts_take G_take_place):=by
 have nd:N_take_piece.Nodup:=sc_take_piece.nd
 exact (ssf_cons (sf_set (i:=1) nd (ef_meth0 F_Parts_take hr (ef_var (pv 0)))) (ssf_cons (sf_if (tf_cmp od_eq (ef_var (pv 1)) ef_str rfl) (ssf_one (sf_ret (ef_tup (af_consP (ef_replP (by decide) (ef_meth0 F_Parts_take hr (ef_var (pv 0)))))))) ssf_nil) (ssf_cons (sf_set (i:=2) nd (ef_call F_take_place hr (af_cons (ef_var (pv 0)) af_nil))) (ssf_cons (sf_set (i:=3) nd (ef_call F_take_place hr (af_cons (ef_var (pv 0)) af_nil))) (ssf_one (sf_ret (ef_tup (af_cons (ef_var (pv 1)) (af_cons (ef_var (pv 2)) (af_cons (ef_var (pv 3)) af_nil))))))))))
noncomputable abbrev s_take_row:Stmt:=atTop PySem.Challenge.pw_byexample_k23_words_spoiled 40
theorem sc_take_row:FnScope N_take_row ["parts"] (defScope s_take_row):=⟨rfl,rfl,rfl,by decide +kernel,rfl,by decide +kernel,by decide +kernel⟩
theorem d_take_row (hr:Room k (A.deeper (envOfC "take_row" (defScope s_take_row) s.heap.objs.size f cdv))) (hb:BlOk mg NBl) {G_Parts_take:GL} (F_Parts_take:FnM P w K mg base k "Parts" "take" G_Parts_take) {G_take_piece:GL} (F_take_piece:FnD P w K mg base k "take_piece" G_take_piece) :
  PSsf (cxOf CX0 P w K mg base N_take_row "take_row" (defScope s_take_row) f cdv A outer s H E).nox (defBody s_take_row) (B_take_row G_Parts_take G_take_piece):=by
 have nd:N_take_row.Nodup:=sc_take_row.nd
 exact (ssf_cons (sf_expr (ef_meth0 F_Parts_take hr (ef_var (pv 0)))) (ssf_cons (sf_set (i:=1) nd (ef_lst (af_cons (ef_call F_take_piece hr (af_cons (ef_var (pv 0)) af_nil)) af_nil))) (ssf_cons (sf_while PassesOwn.never (tf_cmp od_eq (ef_meth0 F_Parts_take hr (ef_var (pv 0))) ef_str rfl) (ssf_one (sf_expr (ef_bm PySem.F.plainAttrs_list PySem.F.slot_list_append PySem.F.type_list_append md_append (ef_var (pv 1)) (af_cons (ef_call F_take_piece hr (af_cons (ef_var (pv 0)) af_nil)) af_nil))))) (ssf_one (sf_ret (ef_callTy cd_tuple (hb.get "tuple") bt_tuple (af_cons (ef_var (pv 1)) af_nil)))))))
noncomputable abbrev s_take_program:Stmt:=atTop PySem.Challenge.pw_byexample_k23_words_spoiled 41
theorem sc_take_program:FnScope N_take_program ["parts"] (defScope s_take_program):=⟨rfl,rfl,rfl,by decide +kernel,rfl,by decide +kernel,by decide +kernel⟩
theorem d_take_program (hr:Room k (A.deeper (envOfC "take_program" (defScope s_take_program) s.heap.objs.size f cdv))) (hb:BlOk mg NBl) (O_Parts_parts:FldOk K "Parts" "parts") {G_Parts_take:GL} (F_Parts_take:FnM P w K mg base k "Parts" "take" G_Parts_take) {G_take_row:GL} (F_take_row:FnD P w K mg base k "take_row" G_take_row) :
  PSsf (cxOf CX0 P w K mg base N_take_program "take_program" (defScope s_take_program) f cdv A outer s H E).nox (defBody s_take_program) (B_take_program G_Parts_take G_take_row):=by
 have nd:N_take_program.Nodup:=sc_take_program.nd
 exact (ssf_cons (sf_if (tf_cmp od_ne (ef_ix xd_ix (ef_fld (ef_var (pv 0)) (fld_cons O_Parts_parts fld_nil)) ef_int (fun _ _ => rfl)) ef_str rfl) (ssf_one (sf_ret (ef_tup (af_cons ef_str (af_cons (ef_call F_take_row hr (af_cons (ef_var (pv 0)) af_nil)) af_nil))))) ssf_nil) (ssf_cons (sf_expr (ef_meth0 F_Parts_take hr (ef_var (pv 0)))) (ssf_cons (sf_set (i:=1) nd (ef_meth0 F_Parts_take hr (ef_var (pv 0)))) (ssf_cons (sf_set (i:=2) nd (ef_meth0 F_Parts_take hr (ef_var (pv 0)))) (ssf_cons (sf_set (i:=3) nd (ef_call F_take_row hr (af_cons (ef_var (pv 0)) af_nil))) (ssf_cons (sf_set (i:=4) nd (ef_call F_take_row hr (af_cons (ef_var (pv 0)) af_nil))) (ssf_one (sf_ret (ef_tup (af_cons ef_str (af_cons (ef_tup (af_cons (ef_var (pv 1)) (af_cons (ef_var (pv 2)) af_nil))) (af_cons (ef_var (pv 3)) (af_cons (ef_var (pv 4)) af_nil)))))))))))))
noncomputable abbrev s_is_tuple_of:Stmt:=atTop PySem.Challenge.pw_byexample_k23_words_spoiled 23
theorem sc_is_tuple_of:FnScope N_is_tuple_of ["length","thing"] (defScope s_is_tuple_of):=⟨rfl,rfl,rfl,by decide +kernel,rfl,by decide +kernel,by decide +kernel⟩
theorem d_is_tuple_of (hr:Room k (A.deeper (envOfC "is_tuple_of" (defScope s_is_tuple_of) s.heap.objs.size f cdv))) (hb:BlOk mg NBl) :
  PSsf (cxOf CX0 P w K mg base N_is_tuple_of "is_tuple_of" (defScope s_is_tuple_of) f cdv A outer s H E).nox (defBody s_is_tuple_of) (B_is_tuple_of):=by
 have nd:N_is_tuple_of.Nodup:=sc_is_tuple_of.nd
 exact (ssf_one (sf_ret (ef_and (ef_callB cd_inst (hb.get "isinstance") bt_isinstance (af_cons (ef_var (pv 1)) (af_cons (ef_ty (hb.get "tuple") bt_tuple) af_nil))) (ef_one (ef_cmp od_eq (ef_callB cd_len (hb.get "len") bt_len (af_cons (ef_var (pv 1)) af_nil)) (ef_var (pv 0)) rfl)))))
noncomputable abbrev s_is_word_among:Stmt:=atTop PySem.Challenge.pw_byexample_k23_words_spoiled 16
theorem sc_is_word_among:FnScope N_is_word_among ["thing","words"] (defScope s_is_word_among):=⟨rfl,rfl,rfl,by decide +kernel,rfl,by decide +kernel,by decide +kernel⟩
theorem d_is_word_among (hr:Room k (A.deeper (envOfC "is_word_among" (defScope s_is_word_among) s.heap.objs.size f cdv))) (hb:BlOk mg NBl) :
  PSsf (cxOf CX0 P w K mg base N_is_word_among "is_word_among" (defScope s_is_word_among) f cdv A outer s H E).nox (defBody s_is_word_among) (B_is_word_among):=by
 have nd:N_is_word_among.Nodup:=sc_is_word_among.nd
 exact (ssf_one (sf_ret (ef_and (ef_callB cd_inst (hb.get "isinstance") bt_isinstance (af_cons (ef_var (pv 0)) (af_cons (ef_ty (hb.get "str") bt_str) af_nil))) (ef_one (ef_cmp od_in (ef_var (pv 0)) (ef_var (pv 1)) rfl)))))
noncomputable abbrev s_kind_of:Stmt:=atTop PySem.Challenge.pw_byexample_k23_words_spoiled 11
theorem sc_kind_of:FnScope N_kind_of ["sign"] (defScope s_kind_of):=⟨rfl,rfl,rfl,by decide +kernel,rfl,by decide +kernel,by decide +kernel⟩
theorem d_kind_of (hr:Room k (A.deeper (envOfC "kind_of" (defScope s_kind_of) s.heap.objs.size f cdv))) (hb:BlOk mg NBl) (C_SIGNS_BY_KIND:GCon K mg "SIGNS_BY_KIND" c_SIGNS_BY_KIND) :
  PSsf (cxOf CX0 P w K mg base N_kind_of "kind_of" (defScope s_kind_of) f cdv A outer s H E).nox (defBody s_kind_of) (B_kind_of):=by
 have nd:N_kind_of.Nodup:=sc_kind_of.nd
 exact (ssf_cons (sf_for PassesOwn.never rfl (pif_any (ef_gcon C_SIGNS_BY_KIND)) (gf_tup (n:=2) rfl (gsf_cons (gf_name (i:=1) nd) (gsf_cons (gf_name (i:=2) nd) gsf_nil))) (ssf_one (sf_if (tf_cmp od_in (ef_var (pv 0)) (ef_var (pv 2)) rfl) (ssf_one (sf_ret (ef_var (pv 1)))) ssf_nil))) (ssf_one (sf_ret ef_non)))
noncomputable abbrev s_is_text:Stmt:=atTop PySem.Challenge.pw_byexample_k23_words_spoiled 12
theorem sc_is_text:FnScope N_is_text ["thing"] (defScope s_is_text):=⟨rfl,rfl,rfl,by decide +kernel,rfl,by decide +kernel,by decide +kernel⟩
theorem d_is_text (hr:Room k (A.deeper (envOfC "is_text" (defScope s_is_text) s.heap.objs.size f cdv))) (hb:BlOk mg NBl) (C_LONGEST_TEXT:GCon K mg "LONGEST_TEXT" c_LONGEST_TEXT) {G_kind_of:GL} (F_kind_of:FnD P w K mg base k "kind_of" G_kind_of) :
  PSsf (cxOf CX0 P w K mg base N_is_text "is_text" (defScope s_is_text) f cdv A outer s H E).nox (defBody s_is_text) (B_is_text G_kind_of):=by
 have nd:N_is_text.Nodup:=sc_is_text.nd
 exact (ssf_cons (sf_if (tf_w (wf_or (tf_not (tf_val (ef_callB cd_inst (hb.get "isinstance") bt_isinstance (af_cons (ef_var (pv 0)) (af_cons (ef_ty (hb.get "str") bt_str) af_nil))))) (wf_one_or (tf_cmp od_gt (ef_callB cd_len (hb.get "len") bt_len (af_cons (ef_var (pv 0)) af_nil)) (ef_gcon C_LONGEST_TEXT) rfl)))) (ssf_one (sf_ret ef_bl)) ssf_nil) (ssf_one (sf_ret (ef_callB (cd_all rfl) (hb.get "all") bt_all (af_cons (ef_comp rfl (pif_any (ef_var (pv 0))) (compOk_of (N:=N_is_text) (N':=["sign"]) (n:=1) (idx:=[]) (fnames:=(defScope s_is_text).names) rfl (fun _ => rfl) rfl (by decide +kernel)) (fun _ _ _ _ _ _ => ⟨(gf_name (i:=0) (show (["sign"]:List Str).Nodup by decide +kernel)),qf_nil,(ef_cmp od_isnot (ef_call F_kind_of hr (af_cons (ef_var (pv 0)) af_nil)) ef_non rfl)⟩)) af_nil)))))
noncomputable abbrev s_is_word:Stmt:=atTop PySem.Challenge.pw_byexample_k23_words_spoiled 24
theorem sc_is_word:FnScope N_is_word ["thing"] (defScope s_is_word):=⟨rfl,rfl,rfl,by decide +kernel,rfl,by decide +kernel,by decide +kernel⟩
theorem d_is_word (hr:Room k (A.deeper (envOfC "is_word" (defScope s_is_word) s.heap.objs.size f cdv))) (hb:BlOk mg NBl) (C_LONGEST_WORD:GCon K mg "LONGEST_WORD" c_LONGEST_WORD) {G_is_text:GL} (F_is_text:FnD P w K mg base k "is_text" G_is_text) :
  PSsf (cxOf CX0 P w K mg base N_is_word "is_word" (defScope s_is_word) f cdv A outer s H E).nox (defBody s_is_word) (B_is_word G_is_text):=by
 have nd:N_is_word.Nodup:=sc_is_word.nd
 exact (ssf_one (sf_ret (ef_and (ef_call F_is_text hr (af_cons (ef_var (pv 0)) af_nil)) (ef_one (ef_chain od_le od_le ef_int (ef_callB cd_len (hb.get "len") bt_len (af_cons (ef_var (pv 0)) af_nil)) (ef_gcon C_LONGEST_WORD))))))
noncomputable abbrev s_is_word_piece:Stmt:=atTop PySem.Challenge.pw_byexample_k23_words_spoiled 25
theorem sc_is_word_piece:FnScope N_is_word_piece ["thing"] (defScope s_is_word_piece):=⟨rfl,rfl,rfl,by decide +kernel,rfl,by decide +kernel,by decide +kernel⟩
theorem d_is_word_piece (hr:Room k (A.deeper (envOfC "is_word_piece" (defScope s_is_word_piece) s.heap.objs.size f cdv))) (hb:BlOk mg NBl) {G_is_tuple_of:GL} (F_is_tuple_of:FnD P w K mg base k "is_tuple_of" G_is_tuple_of) {G_is_word_among:GL} (F_is_word_among:FnD P w K mg base k "is_word_among" G_is_word_among) {G_is_word:GL} (F_is_word:FnD P w K mg base k "is_word" G_is_word) :
  PSsf (cxOf CX0 P w K mg base N_is_word_piece "is_word_piece" (defScope s_is_word_piece) f cdv A outer s H E).nox (defBody s_is_word_piece) (B_is_word_piece G_is_tuple_of G_is_word_among G_is_word):=by
 have nd:N_is_word_piece.Nodup:=sc_is_word_piece.nd
 exact (ssf_one (sf_ret (ef_and (ef_call F_is_tuple_of hr (af_cons ef_int (af_cons (ef_var (pv 0)) af_nil))) (ef_and (ef_call F_is_word_among hr (af_cons (ef_ix xd_ix (ef_var (pv 0)) ef_int (fun _ _ => rfl)) (af_cons (ef_tup (af_cons ef_str af_nil)) af_nil))) (ef_one (ef_call F_is_word hr (af_cons (ef_ix xd_ix (ef_var (pv 0)) ef_int (fun _ _ => rfl)) af_nil)))))))
noncomputable abbrev s_is_nth:Stmt:=atTop PySem.Challenge.pw_byexample_k23_words_spoiled 17
theorem sc_is_nth:FnScope N_is_nth ["thing"] (defScope s_is_nth):=⟨rfl,rfl,rfl,by decide +kernel,rfl,by decide +kernel,by decide +kernel⟩
theorem d_is_nth (hr:Room k (A.deeper (envOfC "is_nth" (defScope s_is_nth) s.heap.objs.size f cdv))) (hb:BlOk mg NBl) (C_NTHS:GCon K mg "NTHS" c_NTHS) :
  PSsf (cxOf CX0 P w K mg base N_is_nth "is_nth" (defScope s_is_nth) f cdv A outer s H E).nox (defBody s_is_nth) (B_is_nth):=by
 have nd:N_is_nth.Nodup:=sc_is_nth.nd
 exact (ssf_one (sf_ret (ef_and (ef_callB cd_inst (hb.get "isinstance") bt_isinstance (af_cons (ef_var (pv 0)) (af_cons (ef_ty (hb.get "int") bt_int) af_nil))) (ef_and (ef_not (ef_callB cd_inst (hb.get "isinstance") bt_isinstance (af_cons (ef_var (pv 0)) (af_cons (ef_ty (hb.get "bool") bt_bool) af_nil)))) (ef_one (ef_cmp od_in (ef_var (pv 0)) (ef_gcon C_NTHS) rfl))))))
noncomputable abbrev s_is_place:Stmt:=atTop PySem.Challenge.pw_byexample_k23_words_spoiled 18
theorem sc_is_place:FnScope N_is_place ["thing"] (defScope s_is_place):=⟨rfl,rfl,rfl,by decide +kernel,rfl,by decide +kernel,by decide +kernel⟩
theorem d_is_place (hr:Room k (A.deeper (envOfC "is_place" (defScope s_is_place) s.heap.objs.size f cdv))) (hb:BlOk mg NBl) (C_EDGES:GCon K mg "EDGES" c_EDGES) (C_KINDS:GCon K mg "KINDS" c_KINDS) {G_is_word_among:GL} (F_is_word_among:FnD P w K mg base k "is_word_among" G_is_word_among) {G_is_nth:GL} (F_is_nth:FnD P w K mg base k "is_nth" G_is_nth) :
  PSsf (cxOf CX0 P w K mg base N_is_place "is_place" (defScope s_is_place) f cdv A outer s H E).nox (defBody s_is_place) (B_is_place G_is_word_among G_is_nth):=by
 have nd:N_is_place.Nodup:=sc_is_place.nd
 exact (ssf_cons (sf_if (tf_w (wf_or (tf_not (tf_val (ef_callB cd_inst (hb.get "isinstance") bt_isinstance (af_cons (ef_var (pv 0)) (af_cons (ef_ty (hb.get "tuple") bt_tuple) af_nil))))) (wf_one_or (tf_cmp od_ne (ef_callB cd_len (hb.get "len") bt_len (af_cons (ef_var (pv 0)) af_nil)) ef_int rfl)))) (ssf_one (sf_ret ef_bl)) ssf_nil) (ssf_one (sf_ret (ef_and (ef_call F_is_word_among hr (af_cons (ef_ix xd_ix (ef_var (pv 0)) ef_int (fun _ _ => rfl)) (af_cons (ef_gcon C_KINDS) af_nil))) (ef_and (ef_call F_is_nth hr (af_cons (ef_ix xd_ix (ef_var (pv 0)) ef_int (fun _ _ => rfl)) af_nil)) (ef_one (ef_call F_is_word_among hr (af_cons (ef_ix xd_ix (ef_var (pv 0)) ef_int (fun _ _ => rfl)) (af_cons (ef_gcon C_EDGES) af_nil)))))))))
noncomputable abbrev s_is_stretch:Stmt:=atTop PySem.Challenge.pw_byexample_k23_words_spoiled 26
theorem sc_is_stretch:FnScope N_is_stretch ["thing"] (defScope s_is_stretch):=⟨rfl,rfl,rfl,by decide +kernel,rfl,by decide +kernel,by decide +kernel⟩
theorem d_is_stretch (hr:Room k (A.deeper (envOfC "is_stretch" (defScope s_is_stretch) s.heap.objs.size f cdv))) (hb:BlOk mg NBl) (C_DEEDS:GCon K mg "DEEDS" c_DEEDS) {G_is_tuple_of:GL} (F_is_tuple_of:FnD P w K mg base k "is_tuple_of" G_is_tuple_of) {G_is_word_among:GL} (F_is_word_among:FnD P w K mg base k "is_word_among" G_is_word_among) {G_is_place:GL} (F_is_place:FnD P w K mg base k "is_place" G_is_place) :
  PSsf (cxOf CX0 P w K mg base N_is_stretch "is_stretch" (defScope s_is_stretch) f cdv A outer s H E).nox (defBody s_is_stretch) (B_is_stretch G_is_tuple_of G_is_word_among G_is_place):=by
 have nd:N_is_stretch.Nodup:=sc_is_stretch.nd
 exact (ssf_one (sf_ret (ef_and (ef_call F_is_tuple_of hr (af_cons ef_int (af_cons (ef_var (pv 0)) af_nil))) (ef_and (ef_call F_is_word_among hr (af_cons (ef_ix xd_ix (ef_var (pv 0)) ef_int (fun _ _ => rfl)) (af_cons (ef_gcon C_DEEDS) af_nil))) (ef_and (ef_call F_is_place hr (af_cons (ef_ix xd_ix (ef_var (pv 0)) ef_int (fun _ _ => rfl)) af_nil)) (ef_one (ef_call F_is_place hr (af_cons (ef_ix xd_ix (ef_var (pv 0)) ef_int (fun _ _ => rfl)) af_nil))))))))
noncomputable abbrev s_is_row:Stmt:=atTop PySem.Challenge.pw_byexample_k23_words_spoiled 27
theorem sc_is_row:FnScope N_is_row ["thing"] (defScope s_is_row):=⟨rfl,rfl,rfl,by decide +kernel,rfl,by decide +kernel,by decide +kernel⟩
theorem d_is_row (hr:Room k (A.deeper (envOfC "is_row" (defScope s_is_row) s.heap.objs.size f cdv))) (hb:BlOk mg NBl) (C_ROW_LENGTHS:GCon K mg "ROW_LENGTHS" c_ROW_LENGTHS) {G_is_word_piece:GL} (F_is_word_piece:FnD P w K mg base k "is_word_piece" G_is_word_piece) {G_is_stretch:GL} (F_is_stretch:FnD P w K mg base k "is_stretch" G_is_stretch) :
  PSsf (cxOf CX0 P w K mg base N_is_row "is_row" (defScope s_is_row) f cdv A outer s H E).nox (defBody s_is_row) (B_is_row G_is_word_piece G_is_stretch):=by
 have nd:N_is_row.Nodup:=sc_is_row.nd
 exact (ssf_cons (sf_if (tf_w (wf_or (tf_not (tf_val (ef_callB cd_inst (hb.get "isinstance") bt_isinstance (af_cons (ef_var (pv 0)) (af_cons (ef_ty (hb.get "tuple") bt_tuple) af_nil))))) (wf_one_or (tf_cmp od_notin (ef_callB cd_len (hb.get "len") bt_len (af_cons (ef_var (pv 0)) af_nil)) (ef_gcon C_ROW_LENGTHS) rfl)))) (ssf_one (sf_ret ef_bl)) ssf_nil) (ssf_one (sf_ret (ef_callB (cd_all rfl) (hb.get "all") bt_all (af_cons (ef_comp rfl (pif_any (ef_var (pv 0))) (compOk_of (N:=N_is_row) (N':=["piece"]) (n:=1) (idx:=[]) (fnames:=(defScope s_is_row).names) rfl (fun _ => rfl) rfl (by decide +kernel)) (fun _ _ _ _ _ _ => ⟨(gf_name (i:=0) (show (["piece"]:List Str).Nodup by decide +kernel)),qf_nil,(ef_or (ef_call F_is_word_piece hr (af_cons (ef_var (pv 0)) af_nil)) (ef_one (ef_call F_is_stretch hr (af_cons (ef_var (pv 0)) af_nil))))⟩)) af_nil)))))
noncomputable abbrev s_is_look:Stmt:=atTop PySem.Challenge.pw_byexample_k23_words_spoiled 28
theorem sc_is_look:FnScope N_is_look ["thing"] (defScope s_is_look):=⟨rfl,rfl,rfl,by decide +kernel,rfl,by decide +kernel,by decide +kernel⟩
theorem d_is_look (hr:Room k (A.deeper (envOfC "is_look" (defScope s_is_look) s.heap.objs.size f cdv))) (hb:BlOk mg NBl) (C_KINDS:GCon K mg "KINDS" c_KINDS) {G_is_tuple_of:GL} (F_is_tuple_of:FnD P w K mg base k "is_tuple_of" G_is_tuple_of) {G_is_word_among:GL} (F_is_word_among:FnD P w K mg base k "is_word_among" G_is_word_among) :
  PSsf (cxOf CX0 P w K mg base N_is_look "is_look" (defScope s_is_look) f cdv A outer s H E).nox (defBody s_is_look) (B_is_look G_is_tuple_of G_is_word_among):=by
 have nd:N_is_look.Nodup:=sc_is_look.nd
 exact (ssf_one (sf_ret (ef_and (ef_call F_is_tuple_of hr (af_cons ef_int (af_cons (ef_var (pv 0)) af_nil))) (ef_and (ef_call F_is_word_among hr (af_cons (ef_ix xd_ix (ef_var (pv 0)) ef_int (fun _ _ => rfl)) (af_cons (ef_tup (af_cons ef_str (af_cons ef_str af_nil))) af_nil))) (ef_one (ef_call F_is_word_among hr (af_cons (ef_ix xd_ix (ef_var (pv 0)) ef_int (fun _ _ => rfl)) (af_cons (ef_gcon C_KINDS) af_nil))))))))
noncomputable abbrev s_is_program:Stmt:=atTop PySem.Challenge.pw_byexample_k23_words_spoiled 29
theorem sc_is_program:FnScope N_is_program ["thing"] (defScope s_is_program):=⟨rfl,rfl,rfl,by decide +kernel,rfl,by decide +kernel,by decide +kernel⟩
theorem d_is_program (hr:Room k (A.deeper (envOfC "is_program" (defScope s_is_program) s.heap.objs.size f cdv))) (hb:BlOk mg NBl) {G_is_tuple_of:GL} (F_is_tuple_of:FnD P w K mg base k "is_tuple_of" G_is_tuple_of) {G_is_word_among:GL} (F_is_word_among:FnD P w K mg base k "is_word_among" G_is_word_among) {G_is_row:GL} (F_is_row:FnD P w K mg base k "is_row" G_is_row) {G_is_look:GL} (F_is_look:FnD P w K mg base k "is_look" G_is_look) :
  PSsf (cxOf CX0 P w K mg base N_is_program "is_program" (defScope s_is_program) f cdv A outer s H E).nox (defBody s_is_program) (B_is_program G_is_tuple_of G_is_word_among G_is_row G_is_look):=by
 have nd:N_is_program.Nodup:=sc_is_program.nd
 exact (ssf_cons (sf_if (tf_val (ef_call F_is_tuple_of hr (af_cons ef_int (af_cons (ef_var (pv 0)) af_nil)))) (ssf_one (sf_ret (ef_and (ef_call F_is_word_among hr (af_cons (ef_ix xd_ix (ef_var (pv 0)) ef_int (fun _ _ => rfl)) (af_cons (ef_tup (af_cons ef_str af_nil)) af_nil))) (ef_one (ef_call F_is_row hr (af_cons (ef_ix xd_ix (ef_var (pv 0)) ef_int (fun _ _ => rfl)) af_nil)))))) ssf_nil) (ssf_cons (sf_if (tf_val (ef_call F_is_tuple_of hr (af_cons ef_int (af_cons (ef_var (pv 0)) af_nil)))) (ssf_one (sf_ret (ef_and (ef_call F_is_word_among hr (af_cons (ef_ix xd_ix (ef_var (pv 0)) ef_int (fun _ _ => rfl)) (af_cons (ef_tup (af_cons ef_str af_nil)) af_nil))) (ef_and (ef_call F_is_look hr (af_cons (ef_ix xd_ix (ef_var (pv 0)) ef_int (fun _ _ => rfl)) af_nil)) (ef_and (ef_call F_is_row hr (af_cons (ef_ix xd_ix (ef_var (pv 0)) ef_int (fun _ _ => rfl)) af_nil)) (ef_one (ef_call F_is_row hr (af_cons (ef_ix xd_ix (ef_var (pv 0)) ef_int (fun _ _ => rfl)) af_nil)))))))) ssf_nil) (ssf_one (sf_ret ef_bl))))
noncomputable abbrev s_check:Stmt:=atTop PySem.Challenge.pw_byexample_k23_words_spoiled 30
theorem sc_check:FnScope N_check ["thing"] (defScope s_check):=⟨rfl,rfl,rfl,by decide +kernel,rfl,by decide +kernel,by decide +kernel⟩
theorem dx_check (hr:Room k (A.deeper (envOfC "check" (defScope s_check) s.heap.objs.size f cdv))) (hb:BlOk mg NBl) {G_is_program:GL} (F_is_program:FnD P w K mg base k "is_program" G_is_program) {C_NoProgram:Addr} (X_NoProgram:ExcK K "NoProgram" C_NoProgram) :
  PSsx (cxOf (CXX P w) P w K mg base N_check "check" (defScope s_check) f cdv A outer s H E) (defBody s_check) (B_check G_is_program) (BX_check G_is_program):=by
 have nd:N_check.Nodup:=sc_check.nd
 exact (ssx_cons (sx_if (tf_not (tf_val (ef_call F_is_program hr (af_cons (ef_var (pv 0)) af_nil)))) (ssx_one (sx_raise X_NoProgram rfl)) ssx_nil) (ssx_one (sx_of (sf_ret ef_bl))))
theorem d_check (hr:Room k (A.deeper (envOfC "check" (defScope s_check) s.heap.objs.size f cdv))) (hb:BlOk mg NBl) {G_is_program:GL} (F_is_program:FnD P w K mg base k "is_program" G_is_program) :
  PSsf (cxOf CX0 P w K mg base N_check "check" (defScope s_check) f cdv A outer s H E).nox (defBody s_check) (B_check G_is_program):=by
 have nd:N_check.Nodup:=sc_check.nd
 exact (ssf_cons (sf_if (tf_not (tf_val (ef_call F_is_program hr (af_cons (ef_var (pv 0)) af_nil)))) (ssf_one sf_never) ssf_nil) (ssf_one (sf_ret ef_bl)))
noncomputable abbrev s_Parts_init:Stmt:=inCls PySem.Challenge.pw_byexample_k23_words_spoiled 37 0
theorem sc_Parts_init:FnScope N_Parts_init ["self","text"] (defScope s_Parts_init):=⟨rfl,rfl,rfl,by decide +kernel,rfl,by decide +kernel,by decide +kernel⟩
theorem d_Parts_init (hr:Room k (A.deeper (envOfC "Parts.__init__" (defScope s_Parts_init) s.heap.objs.size f cdv))) (hb:BlOk mg NBl) (O_Parts_parts:FldOk K "Parts" "parts") (O_Parts_taken:FldOk K "Parts" "taken") :
  PSsf (cxOf CX0 P w K mg base N_Parts_init "Parts.__init__" (defScope s_Parts_init) f cdv A outer s H E).nox (defBody s_Parts_init) (B_Parts_init):=by
 have nd:N_Parts_init.Nodup:=sc_Parts_init.nd
 exact (ssf_cons (sf_putO (ef_var (pv 0)) (ef_bm PySem.F.plainAttrs_str PySem.F.slot_str_split PySem.F.type_str_split md_split (ef_var (pv 1)) (af_cons ef_str af_nil)) (fld_cons O_Parts_parts fld_nil)) (ssf_one (sf_putO (ef_var (pv 0)) ef_int (fld_cons O_Parts_taken fld_nil))))
noncomputable abbrev s_shown_place:Stmt:=atTop PySem.Challenge.pw_byexample_k23_words_spoiled 33
theorem sc_shown_place:FnScope N_shown_place ["place"] (defScope s_shown_place):=⟨rfl,rfl,rfl,by decide +kernel,rfl,by decide +kernel,by decide +kernel⟩
theorem d_shown_place (hr:Room k (A.deeper (envOfC "shown_place" (defScope s_shown_place) s.heap.objs.size f cdv))) (hb:BlOk mg NBl) :
  PSsf (cxOf CX0 P w K mg base N_shown_place "shown_place" (defScope s_shown_place) f cdv A outer s H E).nox (defBody s_shown_place) (B_shown_place):=by
 have nd:N_shown_place.Nodup:=sc_shown_place.nd
 exact (ssf_one (sf_ret (ef_bm PySem.F.plainAttrs_str PySem.F.slot_str_join PySem.F.type_str_join md_join ef_str (af_cons (ef_lst (af_cons (ef_ix xd_ix (ef_var (pv 0)) ef_int (fun _ _ => rfl)) (af_cons (ef_callTy cd_str (hb.get "str") bt_str (af_cons (ef_ix xd_ix (ef_var (pv 0)) ef_int (fun _ _ => rfl)) af_nil)) (af_cons (ef_ix xd_ix (ef_var (pv 0)) ef_int (fun _ _ => rfl)) af_nil)))) af_nil))))
noncomputable abbrev s_shown_piece:Stmt:=atTop PySem.Challenge.pw_byexample_k23_words_spoiled 34
theorem sc_shown_piece:FnScope N_shown_piece ["piece"] (defScope s_shown_piece):=⟨rfl,rfl,rfl,by decide +kernel,rfl,by decide +kernel,by decide +kernel⟩
theorem d_shown_piece (hr:Room k (A.deeper (envOfC "shown_piece" (defScope s_shown_piece) s.heap.objs.size f cdv))) (hb:BlOk mg NBl) {G_shown_place:GL} (F_shown_place:FnD P w K mg base k "shown_place" G_shown_place) :
  PSsf (cxOf CX0 P w K mg base N_shown_piece "shown_piece" (defScope s_shown_piece) f cdv A outer s H E).nox (defBody s_shown_piece) (B_shown_piece G_shown_place):=by
 have nd:N_shown_piece.Nodup:=sc_shown_piece.nd
 exact (ssf_cons (sf_if (tf_cmp od_eq (ef_ix xd_ix (ef_var (pv 0)) ef_int (fun _ _ => rfl)) ef_str rfl) (ssf_one (sf_ret (ef_addP (ef_replP (by decide) (ef_ix xd_ix (ef_var (pv 0)) ef_int (fun _ _ => rfl)))))) ssf_nil) (ssf_one (sf_ret (ef_bm PySem.F.plainAttrs_str PySem.F.slot_str_join PySem.F.type_str_join md_join ef_str (af_cons (ef_lst (af_cons (ef_ix xd_ix (ef_var (pv 0)) ef_int (fun _ _ => rfl)) (af_cons (ef_call F_shown_place hr (af_cons (ef_ix xd_ix (ef_var (pv 0)) ef_int (fun _ _ => rfl)) af_nil)) (af_cons (ef_call F_shown_place hr (af_cons (ef_ix xd_ix (ef_var (pv 0)) ef_int (fun _ _ => rfl)) af_nil)) af_nil)))) af_nil)))))
noncomputable abbrev s_shown_row:Stmt:=atTop PySem.Challenge.pw_byexample_k23_words_spoiled 35
theorem sc_shown_row:FnScope N_shown_row ["row"] (defScope s_shown_row):=⟨rfl,rfl,rfl,by decide +kernel,rfl,by decide +kernel,by decide +kernel⟩
theorem d_shown_row (hr:Room k (A.deeper (envOfC "shown_row" (defScope s_shown_row) s.heap.objs.size f cdv))) (hb:BlOk mg NBl) {G_shown_piece:GL} (F_shown_piece:FnD P w K mg base k "shown_piece" G_shown_piece) :
  PSsf (cxOf CX0 P w K mg base N_shown_row "shown_row" (defScope s_shown_row) f cdv A outer s H E).nox (defBody s_shown_row) (B_shown_row G_shown_piece):=by
 have nd:N_shown_row.Nodup:=sc_shown_row.nd
 exact (ssf_one (sf_ret (ef_op od_add ef_str (ef_bm PySem.F.plainAttrs_str PySem.F.slot_str_join PySem.F.type_str_join md_join ef_str (af_cons (ef_comp rfl (pif_any (ef_var (pv 0))) (compOk_of (N:=N_shown_row) (N':=["piece"]) (n:=1) (idx:=[]) (fnames:=(defScope s_shown_row).names) rfl (fun _ => rfl) rfl (by decide +kernel)) (fun _ _ _ _ _ _ => ⟨(gf_name (i:=0) (show (["piece"]:List Str).Nodup by decide +kernel)),qf_nil,(ef_call F_shown_piece hr (af_cons (ef_var (pv 0)) af_nil))⟩)) af_nil)))))
noncomputable abbrev s_shown:Stmt:=atTop PySem.Challenge.pw_byexample_k23_words_spoiled 36
theorem sc_shown:FnScope N_shown ["program"] (defScope s_shown):=⟨rfl,rfl,rfl,by decide +kernel,rfl,by decide +kernel,by decide +kernel⟩
theorem d_shown (hr:Room k (A.deeper (envOfC "shown" (defScope s_shown) s.heap.objs.size f cdv))) (hb:BlOk mg NBl) {G_shown_row:GL} (F_shown_row:FnD P w K mg base k "shown_row" G_shown_row) :
  PSsf (cxOf CX0 P w K mg base N_shown "shown" (defScope s_shown) f cdv A outer s H E).nox (defBody s_shown) (B_shown G_shown_row):=by
 have nd:N_shown.Nodup:=sc_shown.nd
 exact (ssf_cons (sf_if (tf_cmp od_eq (ef_ix xd_ix (ef_var (pv 0)) ef_int (fun _ _ => rfl)) ef_str rfl) (ssf_one (sf_ret (ef_call F_shown_row hr (af_cons (ef_ix xd_ix (ef_var (pv 0)) ef_int (fun _ _ => rfl)) af_nil)))) ssf_nil) (ssf_cons (sf_set (i:=1) nd (ef_bm PySem.F.plainAttrs_str PySem.F.slot_str_join PySem.F.type_str_join md_join ef_str (af_cons (ef_ix xd_ix (ef_var (pv 0)) ef_int (fun _ _ => rfl)) af_nil))) (ssf_one (sf_ret (ef_bm PySem.F.plainAttrs_str PySem.F.slot_str_join PySem.F.type_str_join md_join ef_str (af_cons (ef_lst (af_cons ef_str (af_cons (ef_var (pv 1)) (af_cons (ef_call F_shown_row hr (af_cons (ef_ix xd_ix (ef_var (pv 0)) ef_int (fun _ _ => rfl)) af_nil)) (af_cons ef_str (af_cons (ef_call F_shown_row hr (af_cons (ef_ix xd_ix (ef_var (pv 0)) ef_int (fun _ _ => rfl)) af_nil)) af_nil)))))) af_nil))))))
noncomputable abbrev s_read:Stmt:=atTop PySem.Challenge.pw_byexample_k23_words_spoiled 42
theorem sc_read:FnScope N_read ["text"] (defScope s_read):=⟨rfl,rfl,rfl,by decide +kernel,rfl,by decide +kernel,by decide +kernel⟩
theorem dx_read (hr:Room k (A.deeper (envOfC "read" (defScope s_read) s.heap.objs.size f cdv))) (hb:BlOk mg NBl) {G_take_program:GL} (F_take_program:FnD P w K mg base k "take_program" G_take_program) {G_check:GL} (F_check:FnD P w K mg base k "check" G_check) {G_Parts_init:GL} (F_Parts_init:FnK P w K mg base k "Parts" G_Parts_init) {G_shown:GL} (F_shown:FnD P w K mg base k "shown" G_shown) {C_NoProgram:Addr} (X_NoProgram:ExcK K "NoProgram" C_NoProgram) {GX_check:GXL} (FX_check:FnX P w K mg base k "check" G_check GX_check) :
  PSsx (cxOf (CXX P w) P w K mg base N_read "read" (defScope s_read) f cdv A outer s H E) (defBody s_read) (B_read G_take_program G_check G_Parts_init G_shown) (BX_read G_take_program G_check G_Parts_init G_shown GX_check):=by
 have nd:N_read.Nodup:=sc_read.nd
 exact (ssx_cons (sx_of (sf_set (i:=1) nd (ef_call F_take_program hr (af_cons (ef_make F_Parts_init hr (af_cons (ef_var (pv 0)) af_nil)) af_nil)))) (ssx_cons (sx_expr (ef_callX FX_check hr (af_cons (ef_var (pv 1)) af_nil))) (ssx_cons (sx_if (tf_cmp od_ne (ef_call F_shown hr (af_cons (ef_var (pv 1)) af_nil)) (ef_var (pv 0)) rfl) (ssx_one (sx_raise X_NoProgram rfl)) ssx_nil) (ssx_one (sx_of (sf_ret (ef_var (pv 1))))))))
theorem d_read (hr:Room k (A.deeper (envOfC "read" (defScope s_read) s.heap.objs.size f cdv))) (hb:BlOk mg NBl) {G_take_program:GL} (F_take_program:FnD P w K mg base k "take_program" G_take_program) {G_check:GL} (F_check:FnD P w K mg base k "check" G_check) {G_Parts_init:GL} (F_Parts_init:FnK P w K mg base k "Parts" G_Parts_init) {G_shown:GL} (F_shown:FnD P w K mg base k "shown" G_shown) :
  PSsf (cxOf CX0 P w K mg base N_read "read" (defScope s_read) f cdv A outer s H E).nox (defBody s_read) (B_read G_take_program G_check G_Parts_init G_shown):=by
 have nd:N_read.Nodup:=sc_read.nd
 exact (ssf_cons (sf_set (i:=1) nd (ef_call F_take_program hr (af_cons (ef_make F_Parts_init hr (af_cons (ef_var (pv 0)) af_nil)) af_nil))) (ssf_cons (sf_expr (ef_call F_check hr (af_cons (ef_var (pv 1)) af_nil))) (ssf_cons (sf_if (tf_cmp od_ne (ef_call F_shown hr (af_cons (ef_var (pv 1)) af_nil)) (ef_var (pv 0)) rfl) (ssf_one sf_never) ssf_nil) (ssf_one (sf_ret (ef_var (pv 1)))))))
noncomputable abbrev s_lw_refused:Stmt:=atTop PySem.Challenge.pw_byexample_k23_words_spoiled 61
theorem sc_lw_refused:FnScope N_lw_refused ["_law_text_here"] (defScope s_lw_refused):=⟨rfl,rfl,rfl,by decide +kernel,rfl,by decide +kernel,by decide +kernel⟩
theorem d_lw_refused (hr:Room k (A.deeper (envOfC "_law_refused" (defScope s_lw_refused) s.heap.objs.size f cdv))) (hb:BlOk mg NBl) {C_FitError:Addr} {C_NoExample:Addr} {C_NoNumber:Addr} {C_NoProgram:Addr} {C_NothingFits:Addr} {C_Twice:Addr} (X_FitError:ExcK K "FitError" C_FitError) (X_NoExample:ExcK K "NoExample" C_NoExample) (X_NoNumber:ExcK K "NoNumber" C_NoNumber) (X_NoProgram:ExcK K "NoProgram" C_NoProgram) (X_NothingFits:ExcK K "NothingFits" C_NothingFits) (X_Twice:ExcK K "Twice" C_Twice) (E_NoProgram:ExcC K C_NoProgram) (KA_NoProgram_NoNumber_NothingFits_Twice_NoExample:PySem.W.kitAny K (.ref C_NoProgram) ([C_NoNumber,C_NothingFits,C_Twice,C_NoExample].map Value.ref) = some false) (KO_NoProgram:PySem.W.kitOne K (.ref C_NoProgram) (.type "ValueError") = some true) (S_NoProgram_FitError:SubK K "NoProgram" C_FitError) (S_NoProgram_NoProgram:SubK K "NoProgram" C_NoProgram) {G_read:GL} {GX_read:GXL} (FX_read:FnX P w K mg base k "read" G_read GX_read) :
  PSsf (cxOf CX0 P w K mg base N_lw_refused "_law_refused" (defScope s_lw_refused) f cdv A outer s H E).nox (defBody s_lw_refused) (B_lw_refused G_read GX_read):=by
 have nd:N_lw_refused.Nodup:=sc_lw_refused.nd
 exact (ssf_cons (sf_set (i:=1) nd ef_bl) (ssf_cons (sf_try0 FX_read hr (af_cons (ef_var (pv 0)) af_nil) X_NoProgram (sub_one S_NoProgram_NoProgram) (fun _ => (ssf_one (sf_set (i:=1) nd ef_bl))) rfl rfl) (ssf_cons (sf_tryA (i:=2) FX_read hr (af_cons (ef_var (pv 0)) af_nil) X_FitError (sub_one S_NoProgram_FitError) nd (fun _ => (ssf_cons (sf_if (tf_val (ef_isTup (i:=2) (Cs:=[C_NoNumber,C_NothingFits,C_Twice,C_NoExample]) (pa_gcons (pa_gcons (pa_gcons (pa_gcons pa_gnil X_NoExample.ns) X_Twice.ns) X_NothingFits.ns) X_NoNumber.ns) (by show 4 ≤ sizeLine; decide) (is_any X_NoProgram E_NoProgram KA_NoProgram_NoNumber_NothingFits_Twice_NoExample) (hb.get "isinstance"))) (ssf_one (sf_ret ef_bl)) ssf_nil) (ssf_one (sf_ret (ef_and (ef_var (pv 1)) (ef_one (ef_isVE (i:=2) (is_VE X_NoProgram E_NoProgram KO_NoProgram) (hb.get "isinstance") (hb.get "ValueError")))))))) rfl rfl) (ssf_one (sf_ret ef_bl)))))
noncomputable abbrev s_lw_right:Stmt:=atTop PySem.Challenge.pw_byexample_k23_words_spoiled 62
theorem sc_lw_right:FnScope N_lw_right ["_law_text_here"] (defScope s_lw_right):=⟨rfl,rfl,rfl,by decide +kernel,rfl,by decide +kernel,by decide +kernel⟩
theorem d_lw_right (hr:Room k (A.deeper (envOfC "_law_right" (defScope s_lw_right) s.heap.objs.size f cdv))) (hb:BlOk mg NBl) {G_lw_read:GL} (F_lw_read:FnD P w K mg base k "_law_read" G_lw_read) {G_lw_alike:GL} (F_lw_alike:FnD P w K mg base k "_law_alike" G_lw_alike) {G_read:GL} (F_read:FnD P w K mg base k "read" G_read) {G_lw_refused:GL} (F_lw_refused:FnD P w K mg base k "_law_refused" G_lw_refused) :
  PSsf (cxOf CX0 P w K mg base N_lw_right "_law_right" (defScope s_lw_right) f cdv A outer s H E).nox (defBody s_lw_right) (B_lw_right G_lw_read G_lw_alike G_read G_lw_refused):=by
 have nd:N_lw_right.Nodup:=sc_lw_right.nd
 exact (ssf_cons (sf_set (i:=1) nd (ef_call F_lw_read hr (af_cons (ef_var (pv 0)) af_nil))) (ssf_cons (sf_if (tf_cmp od_is (ef_var (pv 1)) ef_non rfl) (ssf_one (sf_ret (ef_call F_lw_refused hr (af_cons (ef_var (pv 0)) af_nil)))) ssf_nil) (ssf_one (sf_ret (ef_call F_lw_alike hr (af_cons (ef_call F_read hr (af_cons (ef_var (pv 0)) af_nil)) (af_cons (ef_var (pv 1)) af_nil)))))))
noncomputable abbrev s_lw_look:Stmt:=atTop PySem.Challenge.pw_byexample_k23_words_spoiled 50
theorem sc_lw_look:FnScope N_lw_look ["_law_cell_here"] (defScope s_lw_look):=⟨rfl,rfl,rfl,by decide +kernel,rfl,by decide +kernel,by decide +kernel⟩
theorem d_lw_look (hr:Room k (A.deeper (envOfC "_law_look" (defScope s_lw_look) s.heap.objs.size f cdv))) (hb:BlOk mg NBl) :
  PSsf (cxOf CX0 P w K mg base N_lw_look "_law_look" (defScope s_lw_look) f cdv A outer s H E).nox (defBody s_lw_look) (B_lw_look):=by
 have nd:N_lw_look.Nodup:=sc_lw_look.nd
 exact (ssf_one (sf_ret (ef_tup (af_cons (ef_ix xd_ix (ef_lst (af_cons ef_str (af_cons ef_str af_nil))) (ef_op od_mod (ef_var (pv 0)) ef_int) (fun _ _ => rfl)) (af_cons (ef_ix xd_ix (ef_lst (af_cons ef_str (af_cons ef_str (af_cons ef_str (af_cons ef_str (af_cons ef_str af_nil)))))) (ef_op od_mod (ef_op od_fdiv (ef_var (pv 0)) ef_int) ef_int) (fun _ _ => rfl)) af_nil)))))
noncomputable abbrev s_lw_place:Stmt:=atTop PySem.Challenge.pw_byexample_k23_words_spoiled 46
theorem sc_lw_place:FnScope N_lw_place ["_law_cell_here"] (defScope s_lw_place):=⟨rfl,rfl,rfl,by decide +kernel,rfl,by decide +kernel,by decide +kernel⟩
theorem d_lw_place (hr:Room k (A.deeper (envOfC "_law_place" (defScope s_lw_place) s.heap.objs.size f cdv))) (hb:BlOk mg NBl) :
  PSsf (cxOf CX0 P w K mg base N_lw_place "_law_place" (defScope s_lw_place) f cdv A outer s H E).nox (defBody s_lw_place) (B_lw_place):=by
 have nd:N_lw_place.Nodup:=sc_lw_place.nd
 exact (ssf_cons (sf_set (i:=1) nd (ef_ix xd_ix (ef_lst (af_cons ef_str (af_cons ef_str (af_cons ef_str (af_cons ef_str (af_cons ef_str af_nil)))))) (ef_op od_mod (ef_var (pv 0)) ef_int) (fun _ _ => rfl))) (ssf_one (sf_ret (ef_tup (af_cons (ef_var (pv 1)) (af_cons (ef_ix xd_ix (ef_lst (af_cons ef_int (af_cons ef_int (af_cons (ef_neg ef_int) (af_cons (ef_neg ef_int) af_nil))))) (ef_op od_mod (ef_op od_fdiv (ef_var (pv 0)) ef_int) ef_int) (fun _ _ => rfl)) (af_cons (ef_ix xd_ix (ef_lst (af_cons ef_str (af_cons ef_str af_nil))) (ef_op od_mod (ef_op od_fdiv (ef_var (pv 0)) ef_int) ef_int) (fun _ _ => rfl)) af_nil)))))))
noncomputable abbrev s_lw_text:Stmt:=atTop PySem.Challenge.pw_byexample_k23_words_spoiled 45
theorem sc_lw_text:FnScope N_lw_text ["_law_cell_here","_law_most"] (defScope s_lw_text):=⟨rfl,rfl,rfl,by decide +kernel,rfl,by decide +kernel,by decide +kernel⟩
theorem d_lw_text (hr:Room k (A.deeper (envOfC "_law_text" (defScope s_lw_text) s.heap.objs.size f cdv))) (hb:BlOk mg NBl) :
  PSsf (cxOf CX0 P w K mg base N_lw_text "_law_text" (defScope s_lw_text) f cdv A outer s H E).nox (defBody s_lw_text) (B_lw_text):=by
 have nd:N_lw_text.Nodup:=sc_lw_text.nd
 exact (ssf_cons (sf_set (i:=2) nd (ef_lst (af_cons ef_str (af_cons ef_str (af_cons ef_str (af_cons ef_str af_nil)))))) (ssf_cons (sf_set (i:=3) nd (ef_op od_mod (ef_var (pv 0)) (ef_op od_add (ef_var (pv 1)) ef_int))) (ssf_cons (sf_set (i:=0) nd (ef_op od_mod (ef_op od_fdiv (ef_var (pv 0)) ef_int) ef_int)) (ssf_cons (sf_set (i:=4) nd ef_str) (ssf_cons (sf_for PassesOwn.never rfl (pif_range1 (hb.get "range") (af_cons (ef_var (pv 3)) af_nil)) (gf_name (i:=5) nd) (ssf_cons (sf_set (i:=0) nd (ef_op od_mod (ef_op od_add (ef_op od_add (ef_op od_mul (ef_var (pv 0)) ef_int) (ef_op od_mul ef_int (ef_var (pv 5)))) ef_int) ef_int)) (ssf_cons (sf_set (i:=6) nd (ef_ix xd_ix (ef_var (pv 2)) (ef_op od_mod (ef_op od_fdiv (ef_var (pv 0)) ef_int) ef_int) (fun _ _ => rfl))) (ssf_one (sf_set (i:=4) nd (ef_op od_add (ef_var (pv 4)) (ef_ix xd_ix (ef_var (pv 6)) (ef_op od_mod (ef_op od_fdiv (ef_var (pv 0)) ef_int) (ef_callB cd_len (hb.get "len") bt_len (af_cons (ef_var (pv 6)) af_nil))) (fun _ _ => rfl)))))))) (ssf_one (sf_ret (ef_var (pv 4)))))))))
noncomputable abbrev s_lw_word:Stmt:=atTop PySem.Challenge.pw_byexample_k23_words_spoiled 47
theorem sc_lw_word:FnScope N_lw_word ["_law_cell_here","_law_most"] (defScope s_lw_word):=⟨rfl,rfl,rfl,by decide +kernel,rfl,by decide +kernel,by decide +kernel⟩
theorem d_lw_word (hr:Room k (A.deeper (envOfC "_law_word" (defScope s_lw_word) s.heap.objs.size f cdv))) (hb:BlOk mg NBl) {G_lw_text:GL} (F_lw_text:FnD P w K mg base k "_law_text" G_lw_text) :
  PSsf (cxOf CX0 P w K mg base N_lw_word "_law_word" (defScope s_lw_word) f cdv A outer s H E).nox (defBody s_lw_word) (B_lw_word G_lw_text):=by
 have nd:N_lw_word.Nodup:=sc_lw_word.nd
 exact (ssf_cons (sf_set (i:=2) nd (ef_lst (af_cons ef_str (af_cons ef_str (af_cons ef_str (af_cons ef_str (af_cons ef_str (af_cons ef_str (af_cons ef_str (af_cons ef_str (af_cons ef_str (af_cons ef_str (af_cons ef_str (af_cons ef_str af_nil)))))))))))))) (ssf_cons (sf_if (tf_cmp od_eq (ef_op od_mod (ef_var (pv 0)) ef_int) ef_int rfl) (ssf_one (sf_ret (ef_slice (ef_ix xd_ix (ef_var (pv 2)) (ef_op od_mod (ef_op od_fdiv (ef_var (pv 0)) ef_int) ef_int) (fun _ _ => rfl)) of_none (of_some (ef_var (pv 1)))))) ssf_nil) (ssf_cons (sf_set (i:=3) nd (ef_call F_lw_text hr (af_cons (ef_op od_fdiv (ef_var (pv 0)) ef_int) (af_cons (ef_var (pv 1)) af_nil)))) (ssf_cons (sf_if (tf_cmp od_eq (ef_var (pv 3)) ef_str rfl) (ssf_one (sf_ret (ef_ix xd_ix (ef_lst (af_cons ef_str (af_cons ef_str (af_cons ef_str (af_cons ef_str (af_cons ef_str af_nil)))))) (ef_op od_mod (ef_op od_fdiv (ef_var (pv 0)) ef_int) ef_int) (fun _ _ => rfl)))) ssf_nil) (ssf_one (sf_ret (ef_var (pv 3))))))))
noncomputable abbrev s_lw_piece:Stmt:=atTop PySem.Challenge.pw_byexample_k23_words_spoiled 48
theorem sc_lw_piece:FnScope N_lw_piece ["_law_cell_here","_law_most"] (defScope s_lw_piece):=⟨rfl,rfl,rfl,by decide +kernel,rfl,by decide +kernel,by decide +kernel⟩
theorem d_lw_piece (hr:Room k (A.deeper (envOfC "_law_piece" (defScope s_lw_piece) s.heap.objs.size f cdv))) (hb:BlOk mg NBl) {G_lw_place:GL} (F_lw_place:FnD P w K mg base k "_law_place" G_lw_place) {G_lw_word:GL} (F_lw_word:FnD P w K mg base k "_law_word" G_lw_word) :
  PSsf (cxOf CX0 P w K mg base N_lw_piece "_law_piece" (defScope s_lw_piece) f cdv A outer s H E).nox (defBody s_lw_piece) (B_lw_piece G_lw_place G_lw_word):=by
 have nd:N_lw_piece.Nodup:=sc_lw_piece.nd
 exact (ssf_cons (sf_if (tf_cmp od_eq (ef_op od_mod (ef_var (pv 0)) ef_int) ef_int rfl) (ssf_one (sf_ret (ef_tup (af_cons ef_str (af_cons (ef_call F_lw_word hr (af_cons (ef_op od_fdiv (ef_var (pv 0)) ef_int) (af_cons (ef_var (pv 1)) af_nil))) af_nil))))) ssf_nil) (ssf_cons (sf_set (i:=2) nd (ef_ix xd_ix (ef_lst (af_cons ef_str (af_cons ef_str (af_cons ef_str (af_cons ef_str af_nil))))) (ef_op od_mod (ef_op od_fdiv (ef_var (pv 0)) ef_int) ef_int) (fun _ _ => rfl))) (ssf_one (sf_ret (ef_tup (af_cons (ef_var (pv 2)) (af_cons (ef_call F_lw_place hr (af_cons (ef_op od_fdiv (ef_var (pv 0)) ef_int) af_nil)) (af_cons (ef_call F_lw_place hr (af_cons (ef_op od_fdiv (ef_var (pv 0)) ef_int) af_nil)) af_nil))))))))
noncomputable abbrev s_lw_row:Stmt:=atTop PySem.Challenge.pw_byexample_k23_words_spoiled 49
theorem sc_lw_row:FnScope N_lw_row ["_law_cell_here","_law_most"] (defScope s_lw_row):=⟨rfl,rfl,rfl,by decide +kernel,rfl,by decide +kernel,by decide +kernel⟩
theorem d_lw_row (hr:Room k (A.deeper (envOfC "_law_row" (defScope s_lw_row) s.heap.objs.size f cdv))) (hb:BlOk mg NBl) {G_lw_piece:GL} (F_lw_piece:FnD P w K mg base k "_law_piece" G_lw_piece) :
  PSsf (cxOf CX0 P w K mg base N_lw_row "_law_row" (defScope s_lw_row) f cdv A outer s H E).nox (defBody s_lw_row) (B_lw_row G_lw_piece):=by
 have nd:N_lw_row.Nodup:=sc_lw_row.nd
 exact (ssf_cons (sf_set (i:=2) nd (ef_lst af_nil)) (ssf_cons (sf_for PassesOwn.never rfl (pif_any (ef_slice (ef_lst (af_cons (ef_op od_fdiv (ef_var (pv 0)) ef_int) (af_cons (ef_op od_fdiv (ef_var (pv 0)) ef_int) (af_cons (ef_op od_fdiv (ef_var (pv 0)) ef_int) af_nil)))) of_none (of_some (ef_op od_add ef_int (ef_op od_mod (ef_var (pv 0)) ef_int))))) (gf_name (i:=3) nd) (ssf_one (sf_expr (ef_bm PySem.F.plainAttrs_list PySem.F.slot_list_append PySem.F.type_list_append md_append (ef_var (pv 2)) (af_cons (ef_call F_lw_piece hr (af_cons (ef_var (pv 3)) (af_cons (ef_var (pv 1)) af_nil))) af_nil))))) (ssf_one (sf_ret (ef_callTy cd_tuple (hb.get "tuple") bt_tuple (af_cons (ef_var (pv 2)) af_nil))))))
noncomputable abbrev s_lw_program:Stmt:=atTop PySem.Challenge.pw_byexample_k23_words_spoiled 51
theorem sc_lw_program:FnScope N_lw_program ["_law_cell_here","_law_other_here","_law_most"] (defScope s_lw_program):=⟨rfl,rfl,rfl,by decide +kernel,rfl,by decide +kernel,by decide +kernel⟩
theorem d_lw_program (hr:Room k (A.deeper (envOfC "_law_program" (defScope s_lw_program) s.heap.objs.size f cdv))) (hb:BlOk mg NBl) {G_lw_look:GL} (F_lw_look:FnD P w K mg base k "_law_look" G_lw_look) {G_lw_row:GL} (F_lw_row:FnD P w K mg base k "_law_row" G_lw_row) :
  PSsf (cxOf CX0 P w K mg base N_lw_program "_law_program" (defScope s_lw_program) f cdv A outer s H E).nox (defBody s_lw_program) (B_lw_program G_lw_look G_lw_row):=by
 have nd:N_lw_program.Nodup:=sc_lw_program.nd
 exact (ssf_cons (sf_if (tf_cmp od_eq (ef_op od_mod (ef_var (pv 0)) ef_int) ef_int rfl) (ssf_one (sf_ret (ef_tup (af_cons ef_str (af_cons (ef_call F_lw_row hr (af_cons (ef_op od_fdiv (ef_var (pv 0)) ef_int) (af_cons (ef_var (pv 2)) af_nil))) af_nil))))) ssf_nil) (ssf_one (sf_ret (ef_tup (af_cons ef_str (af_cons (ef_call F_lw_look hr (af_cons (ef_op od_fdiv (ef_var (pv 0)) ef_int) af_nil)) (af_cons (ef_call F_lw_row hr (af_cons (ef_op od_fdiv (ef_var (pv 0)) ef_int) (af_cons (ef_var (pv 2)) af_nil))) (af_cons (ef_call F_lw_row hr (af_cons (ef_var (pv 1)) (af_cons (ef_var (pv 2)) af_nil))) af_nil))))))))
noncomputable abbrev s_lw_odd:Stmt:=atTop PySem.Challenge.pw_byexample_k23_words_spoiled 65
theorem sc_lw_odd:FnScope N_lw_odd ["_law_cell_here"] (defScope s_lw_odd):=⟨rfl,rfl,rfl,by decide +kernel,rfl,by decide +kernel,by decide +kernel⟩
theorem d_lw_odd (hr:Room k (A.deeper (envOfC "_law_odd" (defScope s_lw_odd) s.heap.objs.size f cdv))) (hb:BlOk mg NBl) :
  PSsf (cxOf CX0 P w K mg base N_lw_odd "_law_odd" (defScope s_lw_odd) f cdv A outer s H E).nox (defBody s_lw_odd) (B_lw_odd):=by
 have nd:N_lw_odd.Nodup:=sc_lw_odd.nd
 exact (ssf_cons (sf_set (i:=1) nd (ef_lst (af_cons ef_str (af_cons ef_str (af_cons ef_str (af_cons ef_str (af_cons ef_str (af_cons ef_str (af_cons ef_str (af_cons ef_str (af_cons ef_str af_nil))))))))))) (ssf_cons (sf_set (i:=1) nd (ef_op od_add (ef_var (pv 1)) (ef_lst (af_cons ef_str (af_cons ef_str (af_cons ef_str (af_cons ef_str (af_cons ef_str af_nil)))))))) (ssf_cons (sf_set (i:=1) nd (ef_op od_add (ef_var (pv 1)) (ef_lst (af_cons ef_str (af_cons ef_str (af_cons ef_str (af_cons ef_str af_nil))))))) (ssf_cons (sf_set (i:=1) nd (ef_op od_add (ef_var (pv 1)) (ef_lst (af_cons ef_str (af_cons ef_str af_nil))))) (ssf_cons (sf_set (i:=1) nd (ef_op od_add (ef_var (pv 1)) (ef_lst (af_cons ef_str (af_cons ef_str (af_cons ef_str af_nil)))))) (ssf_cons (sf_set (i:=1) nd (ef_op od_add (ef_var (pv 1)) (ef_lst (af_cons ef_str (af_cons ef_str (af_cons ef_str af_nil)))))) (ssf_one (sf_ret (ef_ix xd_ix (ef_var (pv 1)) (ef_op od_mod (ef_var (pv 0)) ef_int) (fun _ _ => rfl))))))))))
noncomputable abbrev s_lw_cell:Stmt:=atTop PySem.Challenge.pw_byexample_k23_words_spoiled 44
theorem sc_lw_cell:FnScope N_lw_cell ["_law_script","_law_k"] (defScope s_lw_cell):=⟨rfl,rfl,rfl,by decide +kernel,rfl,by decide +kernel,by decide +kernel⟩
theorem d_lw_cell (hr:Room k (A.deeper (envOfC "_law_cell" (defScope s_lw_cell) s.heap.objs.size f cdv))) (hb:BlOk mg NBl) :
  PSsf (cxOf CX0 P w K mg base N_lw_cell "_law_cell" (defScope s_lw_cell) f cdv A outer s H E).nox (defBody s_lw_cell) (B_lw_cell):=by
 have nd:N_lw_cell.Nodup:=sc_lw_cell.nd
 exact (ssf_cons (sf_if (tf_cmp od_lt (ef_var (pv 1)) (ef_callB cd_len (hb.get "len") bt_len (af_cons (ef_var (pv 0)) af_nil)) rfl) (ssf_one (sf_ret (ef_op od_mod (ef_op od_mul (ef_op od_add (ef_ix xd_ix (ef_var (pv 0)) (ef_var (pv 1)) (fun _ _ => rfl)) ef_int) ef_int) (ef_op od_pow ef_int ef_int)))) ssf_nil) (ssf_cons (sf_set (i:=2) nd (ef_op od_add (ef_op od_mul (ef_op od_mul (ef_var (pv 1)) (ef_var (pv 1))) ef_int) ef_int)) (ssf_cons (sf_if (tf_cmp od_gt (ef_callB cd_len (hb.get "len") bt_len (af_cons (ef_var (pv 0)) af_nil)) ef_int rfl) (ssf_one (sf_set (i:=2) nd (ef_op od_add (ef_var (pv 2)) (ef_op od_mul (ef_op od_mod (ef_ix xd_ix (ef_var (pv 0)) (ef_op od_mod (ef_op od_mul (ef_var (pv 1)) ef_int) (ef_callB cd_len (hb.get "len") bt_len (af_cons (ef_var (pv 0)) af_nil))) (fun _ _ => rfl)) (ef_op od_pow ef_int ef_int)) ef_int)))) ssf_nil) (ssf_one (sf_ret (ef_op od_mod (ef_op od_mul (ef_op od_mod (ef_op od_mul (ef_var (pv 2)) (ef_var (pv 2))) ef_int) ef_int) (ef_op od_pow ef_int ef_int)))))))
noncomputable abbrev s_lw_other:Stmt:=atTop PySem.Challenge.pw_byexample_k23_words_spoiled 63
theorem sc_lw_other:FnScope N_lw_other ["_law_cell_here"] (defScope s_lw_other):=⟨rfl,rfl,rfl,by decide +kernel,rfl,by decide +kernel,by decide +kernel⟩
theorem d_lw_other (hr:Room k (A.deeper (envOfC "_law_other" (defScope s_lw_other) s.heap.objs.size f cdv))) (hb:BlOk mg NBl) :
  PSsf (cxOf CX0 P w K mg base N_lw_other "_law_other" (defScope s_lw_other) f cdv A outer s H E).nox (defBody s_lw_other) (B_lw_other):=by
 have nd:N_lw_other.Nodup:=sc_lw_other.nd
 exact (ssf_cons (sf_set (i:=1) nd (ef_lst (af_cons ef_str (af_cons ef_str (af_cons ef_str (af_cons ef_str (af_cons ef_str (af_cons ef_str (af_cons ef_str (af_cons ef_str (af_cons ef_str (af_cons ef_str (af_cons ef_str (af_cons ef_str (af_cons ef_str af_nil))))))))))))))) (ssf_cons (sf_set (i:=1) nd (ef_op od_add (ef_var (pv 1)) (ef_lst (af_cons ef_str (af_cons ef_str (af_cons ef_str (af_cons ef_str (af_cons ef_str (af_cons ef_str (af_cons ef_str (af_cons ef_str (af_cons ef_str (af_cons ef_str (af_cons ef_str (af_cons ef_str (af_cons ef_str (af_cons ef_str (af_cons ef_str af_nil)))))))))))))))))) (ssf_cons (sf_set (i:=1) nd (ef_op od_add (ef_var (pv 1)) (ef_lst (af_cons ef_str (af_cons ef_str (af_cons ef_str (af_cons ef_str (af_cons ef_str (af_cons ef_str (af_cons ef_str (af_cons ef_str (af_cons ef_str (af_cons ef_str (af_cons ef_str (af_cons ef_str af_nil))))))))))))))) (ssf_one (sf_ret (ef_ix xd_ix (ef_var (pv 1)) (ef_op od_mod (ef_var (pv 0)) ef_int) (fun _ _ => rfl)))))))
noncomputable abbrev s_lw_spoiled:Stmt:=atTop PySem.Challenge.pw_byexample_k23_words_spoiled 64
theorem sc_lw_spoiled:FnScope N_lw_spoiled ["_law_text_here","_law_cell_here"] (defScope s_lw_spoiled):=⟨rfl,rfl,rfl,by decide +kernel,rfl,by decide +kernel,by decide +kernel⟩
theorem d_lw_spoiled (hr:Room k (A.deeper (envOfC "_law_spoiled" (defScope s_lw_spoiled) s.heap.objs.size f cdv))) (hb:BlOk mg NBl) {G_lw_other:GL} (F_lw_other:FnD P w K mg base k "_law_other" G_lw_other) :
  PSsf (cxOf CX0 P w K mg base N_lw_spoiled "_law_spoiled" (defScope s_lw_spoiled) f cdv A outer s H E).nox (defBody s_lw_spoiled) (B_lw_spoiled G_lw_other):=by
 have nd:N_lw_spoiled.Nodup:=sc_lw_spoiled.nd
 exact (ssf_cons (sf_set (i:=2) nd (ef_bm PySem.F.plainAttrs_str PySem.F.slot_str_split PySem.F.type_str_split md_split (ef_var (pv 0)) (af_cons ef_str af_nil))) (ssf_cons (sf_set (i:=3) nd (ef_op od_mod (ef_op od_fdiv (ef_var (pv 1)) ef_int) (ef_callB cd_len (hb.get "len") bt_len (af_cons (ef_var (pv 2)) af_nil)))) (ssf_cons (sf_set (i:=4) nd (ef_call F_lw_other hr (af_cons (ef_op od_fdiv (ef_var (pv 1)) ef_int) af_nil))) (ssf_cons (sf_set (i:=5) nd (ef_op od_mod (ef_var (pv 1)) ef_int)) (ssf_cons (sf_if (tf_cmp od_eq (ef_var (pv 5)) ef_int rfl) (ssf_one (sf_set (i:=2) nd (ef_op od_add (ef_slice (ef_var (pv 2)) of_none (of_some (ef_var (pv 3)))) (ef_slice (ef_var (pv 2)) (of_some (ef_op od_add (ef_var (pv 3)) ef_int)) of_none)))) ssf_nil) (ssf_cons (sf_if (tf_cmp od_eq (ef_var (pv 5)) ef_int rfl) (ssf_one (sf_set (i:=2) nd (ef_op od_add (ef_slice (ef_var (pv 2)) of_none (of_some (ef_op od_add (ef_var (pv 3)) ef_int))) (ef_slice (ef_var (pv 2)) (of_some (ef_var (pv 3))) of_none)))) ssf_nil) (ssf_cons (sf_if (tf_cmp od_eq (ef_var (pv 5)) ef_int rfl) (ssf_cons (sf_set (i:=6) nd (ef_op od_add (ef_slice (ef_var (pv 2)) (of_some (ef_op od_add (ef_var (pv 3)) ef_int)) (of_some (ef_op od_add (ef_var (pv 3)) ef_int))) (ef_slice (ef_var (pv 2)) (of_some (ef_var (pv 3))) (of_some (ef_op od_add (ef_var (pv 3)) ef_int))))) (ssf_one (sf_set (i:=2) nd (ef_op od_add (ef_op od_add (ef_slice (ef_var (pv 2)) of_none (of_some (ef_var (pv 3)))) (ef_var (pv 6))) (ef_slice (ef_var (pv 2)) (of_some (ef_op od_add (ef_var (pv 3)) ef_int)) of_none))))) ssf_nil) (ssf_cons (sf_if (tf_w (wf_or (tf_cmp od_eq (ef_var (pv 5)) ef_int rfl) (wf_one_or (tf_cmp od_eq (ef_var (pv 5)) ef_int rfl)))) (ssf_one (sf_set (i:=2) nd (ef_op od_add (ef_op od_add (ef_slice (ef_var (pv 2)) of_none (of_some (ef_var (pv 3)))) (ef_lst (af_cons (ef_var (pv 4)) af_nil))) (ef_slice (ef_var (pv 2)) (of_some (ef_op od_add (ef_var (pv 3)) ef_int)) of_none)))) ssf_nil) (ssf_cons (sf_if (tf_cmp od_eq (ef_var (pv 5)) ef_int rfl) (ssf_one (sf_set (i:=2) nd (ef_op od_add (ef_op od_add (ef_slice (ef_var (pv 2)) of_none (of_some (ef_var (pv 3)))) (ef_lst (af_cons (ef_var (pv 4)) af_nil))) (ef_slice (ef_var (pv 2)) (of_some (ef_var (pv 3))) of_none)))) ssf_nil) (ssf_cons (sf_if (tf_cmp od_eq (ef_var (pv 5)) ef_int rfl) (ssf_one (sf_set (i:=2) nd (ef_slice (ef_var (pv 2)) of_none (of_some (ef_op od_add (ef_var (pv 3)) ef_int))))) ssf_nil) (ssf_cons (sf_if (tf_cmp od_eq (ef_var (pv 5)) ef_int rfl) (ssf_cons (sf_set (i:=7) nd (ef_lst (af_cons ef_str (af_cons ef_str (af_cons ef_str (af_cons ef_str af_nil)))))) (ssf_one (sf_set (i:=2) nd (ef_op od_add (ef_var (pv 2)) (ef_lst (af_cons (ef_ix xd_ix (ef_var (pv 7)) (ef_op od_mod (ef_op od_fdiv (ef_var (pv 1)) ef_int) ef_int) (fun _ _ => rfl)) af_nil)))))) ssf_nil) (ssf_one (sf_ret (ef_bm PySem.F.plainAttrs_str PySem.F.slot_str_join PySem.F.type_str_join md_join ef_str (af_cons (ef_var (pv 2)) af_nil)))))))))))))))
noncomputable abbrev s_law:Stmt:=atTop PySem.Challenge.pw_byexample_k23_words_spoiled 66
theorem sc_law:FnScope N_law ["_law_script"] (defScope s_law):=⟨rfl,rfl,rfl,by decide +kernel,rfl,by decide +kernel,by decide +kernel⟩
theorem d_law (hr:Room k (A.deeper (envOfC "law" (defScope s_law) s.heap.objs.size f cdv))) (hb:BlOk mg NBl) {G_lw_shown:GL} (F_lw_shown:FnD P w K mg base k "_law_shown" G_lw_shown) {G_lw_right:GL} (F_lw_right:FnD P w K mg base k "_law_right" G_lw_right) {G_lw_program:GL} (F_lw_program:FnD P w K mg base k "_law_program" G_lw_program) {G_lw_odd:GL} (F_lw_odd:FnD P w K mg base k "_law_odd" G_lw_odd) {G_lw_cell:GL} (F_lw_cell:FnD P w K mg base k "_law_cell" G_lw_cell) {G_lw_spoiled:GL} (F_lw_spoiled:FnD P w K mg base k "_law_spoiled" G_lw_spoiled) :
  PSsf (cxOf CX0 P w K mg base N_law "law" (defScope s_law) f cdv A outer s H E).nox (defBody s_law) (B_law G_lw_shown G_lw_right G_lw_program G_lw_odd G_lw_cell G_lw_spoiled):=by
 have nd:N_law.Nodup:=sc_law.nd
 exact (ssf_cons (sf_set (i:=1) nd (ef_call F_lw_shown hr (af_cons (ef_call F_lw_program hr (af_cons (ef_call F_lw_cell hr (af_cons (ef_var (pv 0)) (af_cons ef_int af_nil))) (af_cons (ef_call F_lw_cell hr (af_cons (ef_var (pv 0)) (af_cons ef_int af_nil))) (af_cons ef_int af_nil)))) af_nil))) (ssf_cons (sf_for PassesOwn.never rfl (pif_range2 (hb.get "range") (af_cons ef_int (af_cons (ef_callB (cd_max rfl) (hb.get "max") bt_max (af_cons ef_int (af_cons (ef_callB (cd_min rfl) (hb.get "min") bt_min (af_cons ef_int (af_cons (ef_callB cd_len (hb.get "len") bt_len (af_cons (ef_var (pv 0)) af_nil)) af_nil))) af_nil))) af_nil))) (gf_name (i:=2) nd) (ssf_one (sf_if (tf_not (tf_val (ef_call F_lw_right hr (af_cons (ef_call F_lw_spoiled hr (af_cons (ef_var (pv 1)) (af_cons (ef_call F_lw_cell hr (af_cons (ef_var (pv 0)) (af_cons (ef_var (pv 2)) af_nil))) af_nil))) af_nil)))) (ssf_one (sf_ret ef_bl)) ssf_nil))) (ssf_one (sf_ret (ef_call F_lw_right hr (af_cons (ef_call F_lw_odd hr (af_cons (ef_call F_lw_cell hr (af_cons (ef_var (pv 0)) (af_cons ef_int af_nil))) af_nil)) af_nil))))))
end
theorem all_mk {l:PySem.W.OpenLaw} {w:World} {K:PySem.W.Frag} {h:Heap} {mg:Str → Option Value} {fa:Addr} (X:K.In h) (G:h.Ns mainGlobals mg) (hfa:mg "law" = some (.ref fa))
  {r1:Addr} {o1:Option Addr} {n1:Nat} {l1:Array (Option Value)}
  {t2:Tok}
  {t3:Tok}
  {t4:Tok}
  {r7:Addr} {o7:Option Addr} {n7:Nat} {l7:Array (Option Value)}
  {t8:Tok}
  {t9:Tok}
  {r12:Addr} {o12:Option Addr} {n12:Nat} {l12:Array (Option Value)}
  {t13:Tok}
  {t14:Tok}
  {t15:Tok}
  {t16:Tok}
  {t17:Tok}
  {t20:Tok}
  {t22:Tok}
  {r24:Addr} {o24:Option Addr} {n24:Nat} {l24:Array (Option Value)}
  {t25:Tok}
  {t26:Tok}
  {t27:Tok}
  {t28:Tok}
  {r31:Addr} {o31:Option Addr} {n31:Nat} {l31:Array (Option Value)}
  {t32:Tok}
  {t33:Tok}
  {t34:Tok}
  {r37:Addr} {o37:Option Addr} {n37:Nat} {l37:Array (Option Value)}
  {r38:Addr} {o38:Option Addr} {n38:Nat} {l38:Array (Option Value)}
  {t39:Tok}
  {t40:Tok}
  {r42:Addr} {o42:Option Addr} {n42:Nat} {l42:Array (Option Value)}
  {t43:Tok}
  {t44:Tok}
  {r46:Addr} {o46:Option Addr} {n46:Nat} {l46:Array (Option Value)}
  {t47:Tok}
  {t48:Tok}
  {r50:Addr} {o50:Option Addr} {n50:Nat} {l50:Array (Option Value)}
  {t51:Tok}
  {t52:Tok}
  {r56:Addr} {n56:Nat}
  {h56_0:Int} {tk56_0:Tok}
  {t57:Tok}
  {h56_1:Int} {tk56_1:Tok}
  {t58:Tok}
  {h56_2:Int} {tk56_2:Tok}
  {t59:Tok}
  {h56_3:Int} {tk56_3:Tok}
  {t60:Tok}
  {C_Parts:Addr}
  {C_FitError:Addr}
  {C_NoExample:Addr}
  {C_NoNumber:Addr}
  {C_NoProgram:Addr}
  {C_NothingFits:Addr}
  {C_Twice:Addr}
  {f_lw_shown_row:Addr} {oc_lw_shown_row kV_lw_shown_row dc_lw_shown_row pm_lw_shown_row cd_lw_shown_row ct_lw_shown_row:Value} {od_lw_shown_row an_lw_shown_row:Option Addr} {sl_lw_shown_row:Array (Option Value)}
  {f_lw_shown:Addr} {oc_lw_shown kV_lw_shown dc_lw_shown pm_lw_shown cd_lw_shown ct_lw_shown:Value} {od_lw_shown an_lw_shown:Option Addr} {sl_lw_shown:Array (Option Value)}
  {f_lw_read_place:Addr} {oc_lw_read_place kV_lw_read_place dc_lw_read_place pm_lw_read_place cd_lw_read_place ct_lw_read_place:Value} {od_lw_read_place an_lw_read_place:Option Addr} {sl_lw_read_place:Array (Option Value)}
  {f_lw_is_word:Addr} {oc_lw_is_word kV_lw_is_word dc_lw_is_word pm_lw_is_word cd_lw_is_word ct_lw_is_word:Value} {od_lw_is_word an_lw_is_word:Option Addr} {sl_lw_is_word:Array (Option Value)}
  {f_lw_read_piece:Addr} {oc_lw_read_piece kV_lw_read_piece dc_lw_read_piece pm_lw_read_piece cd_lw_read_piece ct_lw_read_piece:Value} {od_lw_read_piece an_lw_read_piece:Option Addr} {sl_lw_read_piece:Array (Option Value)}
  {f_lw_read_row:Addr} {oc_lw_read_row kV_lw_read_row dc_lw_read_row pm_lw_read_row cd_lw_read_row ct_lw_read_row:Value} {od_lw_read_row an_lw_read_row:Option Addr} {sl_lw_read_row:Array (Option Value)}
  {f_lw_is_look:Addr} {oc_lw_is_look kV_lw_is_look dc_lw_is_look pm_lw_is_look cd_lw_is_look ct_lw_is_look:Value} {od_lw_is_look an_lw_is_look:Option Addr} {sl_lw_is_look:Array (Option Value)}
  {f_lw_read:Addr} {oc_lw_read kV_lw_read dc_lw_read pm_lw_read cd_lw_read ct_lw_read:Value} {od_lw_read an_lw_read:Option Addr} {sl_lw_read:Array (Option Value)}
  {f_lw_alike:Addr} {oc_lw_alike kV_lw_alike dc_lw_alike pm_lw_alike cd_lw_alike ct_lw_alike:Value} {od_lw_alike an_lw_alike:Option Addr} {sl_lw_alike:Array (Option Value)}
  {f_Parts_take:Addr} {oc_Parts_take kV_Parts_take dc_Parts_take pm_Parts_take cd_Parts_take ct_Parts_take:Value} {od_Parts_take an_Parts_take:Option Addr} {sl_Parts_take:Array (Option Value)}
  {f_take_place:Addr} {oc_take_place kV_take_place dc_take_place pm_take_place cd_take_place ct_take_place:Value} {od_take_place an_take_place:Option Addr} {sl_take_place:Array (Option Value)}
  {f_take_piece:Addr} {oc_take_piece kV_take_piece dc_take_piece pm_take_piece cd_take_piece ct_take_piece:Value} {od_take_piece an_take_piece:Option Addr} {sl_take_piece:Array (Option Value)}
  {f_take_row:Addr} {oc_take_row kV_take_row dc_take_row pm_take_row cd_take_row ct_take_row:Value} {od_take_row an_take_row:Option Addr} {sl_take_row:Array (Option Value)}
  {f_take_program:Addr} {oc_take_program kV_take_program dc_take_program pm_take_program cd_take_program ct_take_program:Value} {od_take_program an_take_program:Option Addr} {sl_take_program:Array (Option Value)}
  {f_is_tuple_of:Addr} {oc_is_tuple_of kV_is_tuple_of dc_is_tuple_of pm_is_tuple_of cd_is_tuple_of ct_is_tuple_of:Value} {od_is_tuple_of an_is_tuple_of:Option Addr} {sl_is_tuple_of:Array (Option Value)}
  {f_is_word_among:Addr} {oc_is_word_among kV_is_word_among dc_is_word_among pm_is_word_among cd_is_word_among ct_is_word_among:Value} {od_is_word_among an_is_word_among:Option Addr} {sl_is_word_among:Array (Option Value)}
  {f_kind_of:Addr} {oc_kind_of kV_kind_of dc_kind_of pm_kind_of cd_kind_of ct_kind_of:Value} {od_kind_of an_kind_of:Option Addr} {sl_kind_of:Array (Option Value)}
  {f_is_text:Addr} {oc_is_text kV_is_text dc_is_text pm_is_text cd_is_text ct_is_text:Value} {od_is_text an_is_text:Option Addr} {sl_is_text:Array (Option Value)}
  {f_is_word:Addr} {oc_is_word kV_is_word dc_is_word pm_is_word cd_is_word ct_is_word:Value} {od_is_word an_is_word:Option Addr} {sl_is_word:Array (Option Value)}
  {f_is_word_piece:Addr} {oc_is_word_piece kV_is_word_piece dc_is_word_piece pm_is_word_piece cd_is_word_piece ct_is_word_piece:Value} {od_is_word_piece an_is_word_piece:Option Addr} {sl_is_word_piece:Array (Option Value)}
  {f_is_nth:Addr} {oc_is_nth kV_is_nth dc_is_nth pm_is_nth cd_is_nth ct_is_nth:Value} {od_is_nth an_is_nth:Option Addr} {sl_is_nth:Array (Option Value)}
  {f_is_place:Addr} {oc_is_place kV_is_place dc_is_place pm_is_place cd_is_place ct_is_place:Value} {od_is_place an_is_place:Option Addr} {sl_is_place:Array (Option Value)}
  {f_is_stretch:Addr} {oc_is_stretch kV_is_stretch dc_is_stretch pm_is_stretch cd_is_stretch ct_is_stretch:Value} {od_is_stretch an_is_stretch:Option Addr} {sl_is_stretch:Array (Option Value)}
  {f_is_row:Addr} {oc_is_row kV_is_row dc_is_row pm_is_row cd_is_row ct_is_row:Value} {od_is_row an_is_row:Option Addr} {sl_is_row:Array (Option Value)}
  {f_is_look:Addr} {oc_is_look kV_is_look dc_is_look pm_is_look cd_is_look ct_is_look:Value} {od_is_look an_is_look:Option Addr} {sl_is_look:Array (Option Value)}
  {f_is_program:Addr} {oc_is_program kV_is_program dc_is_program pm_is_program cd_is_program ct_is_program:Value} {od_is_program an_is_program:Option Addr} {sl_is_program:Array (Option Value)}
  {f_check:Addr} {oc_check kV_check dc_check pm_check cd_check ct_check:Value} {od_check an_check:Option Addr} {sl_check:Array (Option Value)}
  {f_Parts_init:Addr} {oc_Parts_init kV_Parts_init dc_Parts_init pm_Parts_init cd_Parts_init ct_Parts_init:Value} {od_Parts_init an_Parts_init:Option Addr} {sl_Parts_init:Array (Option Value)}
  {f_shown_place:Addr} {oc_shown_place kV_shown_place dc_shown_place pm_shown_place cd_shown_place ct_shown_place:Value} {od_shown_place an_shown_place:Option Addr} {sl_shown_place:Array (Option Value)}
  {f_shown_piece:Addr} {oc_shown_piece kV_shown_piece dc_shown_piece pm_shown_piece cd_shown_piece ct_shown_piece:Value} {od_shown_piece an_shown_piece:Option Addr} {sl_shown_piece:Array (Option Value)}
  {f_shown_row:Addr} {oc_shown_row kV_shown_row dc_shown_row pm_shown_row cd_shown_row ct_shown_row:Value} {od_shown_row an_shown_row:Option Addr} {sl_shown_row:Array (Option Value)}
  {f_shown:Addr} {oc_shown kV_shown dc_shown pm_shown cd_shown ct_shown:Value} {od_shown an_shown:Option Addr} {sl_shown:Array (Option Value)}
  {f_read:Addr} {oc_read kV_read dc_read pm_read cd_read ct_read:Value} {od_read an_read:Option Addr} {sl_read:Array (Option Value)}
  {f_lw_refused:Addr} {oc_lw_refused kV_lw_refused dc_lw_refused pm_lw_refused cd_lw_refused ct_lw_refused:Value} {od_lw_refused an_lw_refused:Option Addr} {sl_lw_refused:Array (Option Value)}
  {f_lw_right:Addr} {oc_lw_right kV_lw_right dc_lw_right pm_lw_right cd_lw_right ct_lw_right:Value} {od_lw_right an_lw_right:Option Addr} {sl_lw_right:Array (Option Value)}
  {f_lw_look:Addr} {oc_lw_look kV_lw_look dc_lw_look pm_lw_look cd_lw_look ct_lw_look:Value} {od_lw_look an_lw_look:Option Addr} {sl_lw_look:Array (Option Value)}
  {f_lw_place:Addr} {oc_lw_place kV_lw_place dc_lw_place pm_lw_place cd_lw_place ct_lw_place:Value} {od_lw_place an_lw_place:Option Addr} {sl_lw_place:Array (Option Value)}
  {f_lw_text:Addr} {oc_lw_text kV_lw_text dc_lw_text pm_lw_text cd_lw_text ct_lw_text:Value} {od_lw_text an_lw_text:Option Addr} {sl_lw_text:Array (Option Value)}
  {f_lw_word:Addr} {oc_lw_word kV_lw_word dc_lw_word pm_lw_word cd_lw_word ct_lw_word:Value} {od_lw_word an_lw_word:Option Addr} {sl_lw_word:Array (Option Value)}
  {f_lw_piece:Addr} {oc_lw_piece kV_lw_piece dc_lw_piece pm_lw_piece cd_lw_piece ct_lw_piece:Value} {od_lw_piece an_lw_piece:Option Addr} {sl_lw_piece:Array (Option Value)}
  {f_lw_row:Addr} {oc_lw_row kV_lw_row dc_lw_row pm_lw_row cd_lw_row ct_lw_row:Value} {od_lw_row an_lw_row:Option Addr} {sl_lw_row:Array (Option Value)}
  {f_lw_program:Addr} {oc_lw_program kV_lw_program dc_lw_program pm_lw_program cd_lw_program ct_lw_program:Value} {od_lw_program an_lw_program:Option Addr} {sl_lw_program:Array (Option Value)}
  {f_lw_odd:Addr} {oc_lw_odd kV_lw_odd dc_lw_odd pm_lw_odd cd_lw_odd ct_lw_odd:Value} {od_lw_odd an_lw_odd:Option Addr} {sl_lw_odd:Array (Option Value)}
  {f_lw_cell:Addr} {oc_lw_cell kV_lw_cell dc_lw_cell pm_lw_cell cd_lw_cell ct_lw_cell:Value} {od_lw_cell an_lw_cell:Option Addr} {sl_lw_cell:Array (Option Value)}
  {f_lw_other:Addr} {oc_lw_other kV_lw_other dc_lw_other pm_lw_other cd_lw_other ct_lw_other:Value} {od_lw_other an_lw_other:Option Addr} {sl_lw_other:Array (Option Value)}
  {f_lw_spoiled:Addr} {oc_lw_spoiled kV_lw_spoiled dc_lw_spoiled pm_lw_spoiled cd_lw_spoiled ct_lw_spoiled:Value} {od_lw_spoiled an_lw_spoiled:Option Addr} {sl_lw_spoiled:Array (Option Value)}
  {f_law:Addr} {oc_law kV_law dc_law pm_law cd_law ct_law:Value} {od_law an_law:Option Addr} {sl_law:Array (Option Value)}
  (q6:PySem.W.nsIn K mainGlobals "DEEDS" = some (some (.ref r1)))
  (q5:K.lookup r1 = some ⟨.type "tuple",o1,.seq ([.str "copy" t2,.str "raise" t3,.str "sink" t4]:List Value).toArray n1,l1⟩)
  (q11:PySem.W.nsIn K mainGlobals "EDGES" = some (some (.ref r7)))
  (q10:K.lookup r7 = some ⟨.type "tuple",o7,.seq ([.str "ahead" t8,.str "behind" t9]:List Value).toArray n7,l7⟩)
  (q19:PySem.W.nsIn K mainGlobals "KINDS" = some (some (.ref r12)))
  (q18:K.lookup r12 = some ⟨.type "tuple",o12,.seq ([.str "small" t13,.str "great" t14,.str "figure" t15,.str "mark" t16,.str "any" t17]:List Value).toArray n12,l12⟩)
  (q21:PySem.W.nsIn K mainGlobals "LONGEST_TEXT" = some (some (.int (24) t20)))
  (q23:PySem.W.nsIn K mainGlobals "LONGEST_WORD" = some (some (.int (8) t22)))
  (q30:PySem.W.nsIn K mainGlobals "NTHS" = some (some (.ref r24)))
  (q29:K.lookup r24 = some ⟨.type "tuple",o24,.seq ([.int (1) t25,.int (2) t26,.int (-1) t27,.int (-2) t28]:List Value).toArray n24,l24⟩)
  (q36:PySem.W.nsIn K mainGlobals "ROW_LENGTHS" = some (some (.ref r31)))
  (q35:K.lookup r31 = some ⟨.type "tuple",o31,.seq ([.int (1) t32,.int (2) t33,.int (3) t34]:List Value).toArray n31,l31⟩)
  (q55:PySem.W.nsIn K mainGlobals "SIGNS_BY_KIND" = some (some (.ref r37)))
  (q54:K.lookup r37 = some ⟨.type "tuple",o37,.seq ([.ref r38,.ref r42,.ref r46,.ref r50]:List Value).toArray n37,l37⟩)
  (q41:K.lookup r38 = some ⟨.type "tuple",o38,.seq ([.str "small" t39,.str "abcdefghijklmnopqrstuvwxyz" t40]:List Value).toArray n38,l38⟩)
  (q45:K.lookup r42 = some ⟨.type "tuple",o42,.seq ([.str "great" t43,.str "ABCDEFGHIJKLMNOPQRSTUVWXYZ" t44]:List Value).toArray n42,l42⟩)
  (q49:K.lookup r46 = some ⟨.type "tuple",o46,.seq ([.str "figure" t47,.str "0123456789" t48]:List Value).toArray n46,l46⟩)
  (q53:K.lookup r50 = some ⟨.type "tuple",o50,.seq ([.str "mark" t51,.str " -.,/" t52]:List Value).toArray n50,l50⟩)
  (q61:PySem.W.nsIn K mainGlobals "NTH_BY_PART" = some (some (.ref r56)))
  (q62:K.lookup r56 = some ⟨.type "dict",none,.dict ([⟨h56_0,.str "1" tk56_0,.int (1) t57⟩,⟨h56_1,.str "2" tk56_1,.int (2) t58⟩,⟨h56_2,.str "-1" tk56_2,.int (-1) t59⟩,⟨h56_3,.str "-2" tk56_3,.int (-2) t60⟩]:List DictEntry).toArray n56,#[]⟩)
  (q63:PySem.W.KeysLit w.params [⟨h56_0,.str "1" tk56_0,.int (1) t57⟩,⟨h56_1,.str "2" tk56_1,.int (2) t58⟩,⟨h56_2,.str "-1" tk56_2,.int (-1) t59⟩,⟨h56_3,.str "-2" tk56_3,.int (-2) t60⟩])
  (q64:(r56 == sysModules) = false)
  (q65:PySem.W.nsIn K mainGlobals "ValueError" = some none)
  (q66:PySem.W.nsIn K mainGlobals "all" = some none)
  (q67:PySem.W.nsIn K mainGlobals "bool" = some none)
  (q68:PySem.W.nsIn K mainGlobals "int" = some none)
  (q69:PySem.W.nsIn K mainGlobals "isinstance" = some none)
  (q70:PySem.W.nsIn K mainGlobals "len" = some none)
  (q71:PySem.W.nsIn K mainGlobals "max" = some none)
  (q72:PySem.W.nsIn K mainGlobals "min" = some none)
  (q73:PySem.W.nsIn K mainGlobals "range" = some none)
  (q74:PySem.W.nsIn K mainGlobals "str" = some none)
  (q75:PySem.W.nsIn K mainGlobals "tuple" = some none)
  (q76:PySem.W.nsIn K mainGlobals "Parts" = some (some (.ref C_Parts)))
  (q77:PySem.W.plainGet K C_Parts Str.empty = true)
  (q78:PySem.W.hasDictIn K C_Parts = true)
  (q79:PySem.W.plainOver K C_Parts = true)
  (q80:PySem.W.findIn K (.ref C_Parts) "__setattr__" = some (some (.builtin "object.__setattr__")))
  (q81:PySem.W.makesIn K C_Parts = true)
  (q82:PySem.W.keepIn K (.ref C_Parts) = true)
  (q83:PySem.W.findIn K (.ref C_Parts) "parts" = some none)
  (q84:PySem.W.findIn K (.ref C_Parts) "taken" = some none)
  (q85:PySem.W.nsIn K mainGlobals "FitError" = some (some (.ref C_FitError)))
  (q86:PySem.W.excIn K C_FitError bmV "ValueError.__new__" = true)
  (q87:PySem.W.nsIn K mainGlobals "NoExample" = some (some (.ref C_NoExample)))
  (q88:PySem.W.excIn K C_NoExample bmV "ValueError.__new__" = true)
  (q89:PySem.W.nsIn K mainGlobals "NoNumber" = some (some (.ref C_NoNumber)))
  (q90:PySem.W.excIn K C_NoNumber bmV "ValueError.__new__" = true)
  (q91:PySem.W.nsIn K mainGlobals "NoProgram" = some (some (.ref C_NoProgram)))
  (q92:PySem.W.excIn K C_NoProgram bmV "ValueError.__new__" = true)
  (q93:PySem.W.nsIn K mainGlobals "NothingFits" = some (some (.ref C_NothingFits)))
  (q94:PySem.W.excIn K C_NothingFits bmV "ValueError.__new__" = true)
  (q95:PySem.W.nsIn K mainGlobals "Twice" = some (some (.ref C_Twice)))
  (q96:PySem.W.excIn K C_Twice bmV "ValueError.__new__" = true)
  (q97:PySem.W.findIn K (.ref C_NoProgram) "__getattribute__" = some (some (.builtin "BaseException.__getattribute__")))
  (q98:PySem.W.findIn K (.ref C_NoProgram) "__getattr__" = some none)
  (q99:PySem.W.findIn K (.ref C_NoProgram) "__class__" = some (some (.builtin "object.__class__")))
  (q100:PySem.W.specialIn K (.builtin "object.__class__") "__get__" = some (some (.builtin "getset_descriptor.__get__")))
  (q101:PySem.W.takesIn K (.builtin "object.__class__") = some true)
  (q102:PySem.W.mroIn K C_NoProgram (.type "object") = some true)
  (q103:PySem.W.kitAny K (.ref C_NoProgram) ([C_NoNumber,C_NothingFits,C_Twice,C_NoExample].map Value.ref) = some false)
  (q104:PySem.W.kitOne K (.ref C_NoProgram) (.type "ValueError") = some true)
  (q105:PySem.W.mroIn K C_NoProgram (.ref C_FitError) = some true)
  (q106:PySem.W.mroIn K C_NoProgram (.ref C_NoProgram) = some true)
  (q107:PySem.W.nsIn K mainGlobals "_law_shown_row" = some (some (.ref f_lw_shown_row)))
  (q108:K.lookup f_lw_shown_row = some ⟨oc_lw_shown_row,od_lw_shown_row,.func (PySem.W.fnOf "_law_shown_row" "_law_shown_row" (defArgs s_lw_shown_row) (defBody s_lw_shown_row) (defScope s_lw_shown_row) .none kV_lw_shown_row dc_lw_shown_row pm_lw_shown_row an_lw_shown_row cd_lw_shown_row ct_lw_shown_row),sl_lw_shown_row⟩)
  (q109:PySem.W.codeIn K cd_lw_shown_row "_law_shown_row" = true)
  (q110:PySem.W.keepIn K (.ref f_lw_shown_row) = true)
  (q111:PySem.W.nsIn K mainGlobals "_law_shown" = some (some (.ref f_lw_shown)))
  (q112:K.lookup f_lw_shown = some ⟨oc_lw_shown,od_lw_shown,.func (PySem.W.fnOf "_law_shown" "_law_shown" (defArgs s_lw_shown) (defBody s_lw_shown) (defScope s_lw_shown) .none kV_lw_shown dc_lw_shown pm_lw_shown an_lw_shown cd_lw_shown ct_lw_shown),sl_lw_shown⟩)
  (q113:PySem.W.codeIn K cd_lw_shown "_law_shown" = true)
  (q114:PySem.W.keepIn K (.ref f_lw_shown) = true)
  (q115:PySem.W.nsIn K mainGlobals "_law_read_place" = some (some (.ref f_lw_read_place)))
  (q116:K.lookup f_lw_read_place = some ⟨oc_lw_read_place,od_lw_read_place,.func (PySem.W.fnOf "_law_read_place" "_law_read_place" (defArgs s_lw_read_place) (defBody s_lw_read_place) (defScope s_lw_read_place) .none kV_lw_read_place dc_lw_read_place pm_lw_read_place an_lw_read_place cd_lw_read_place ct_lw_read_place),sl_lw_read_place⟩)
  (q117:PySem.W.codeIn K cd_lw_read_place "_law_read_place" = true)
  (q118:PySem.W.keepIn K (.ref f_lw_read_place) = true)
  (q119:PySem.W.nsIn K mainGlobals "_law_is_word" = some (some (.ref f_lw_is_word)))
  (q120:K.lookup f_lw_is_word = some ⟨oc_lw_is_word,od_lw_is_word,.func (PySem.W.fnOf "_law_is_word" "_law_is_word" (defArgs s_lw_is_word) (defBody s_lw_is_word) (defScope s_lw_is_word) .none kV_lw_is_word dc_lw_is_word pm_lw_is_word an_lw_is_word cd_lw_is_word ct_lw_is_word),sl_lw_is_word⟩)
  (q121:PySem.W.codeIn K cd_lw_is_word "_law_is_word" = true)
  (q122:PySem.W.keepIn K (.ref f_lw_is_word) = true)
  (q123:PySem.W.nsIn K mainGlobals "_law_read_piece" = some (some (.ref f_lw_read_piece)))
  (q124:K.lookup f_lw_read_piece = some ⟨oc_lw_read_piece,od_lw_read_piece,.func (PySem.W.fnOf "_law_read_piece" "_law_read_piece" (defArgs s_lw_read_piece) (defBody s_lw_read_piece) (defScope s_lw_read_piece) .none kV_lw_read_piece dc_lw_read_piece pm_lw_read_piece an_lw_read_piece cd_lw_read_piece ct_lw_read_piece),sl_lw_read_piece⟩)
  (q125:PySem.W.codeIn K cd_lw_read_piece "_law_read_piece" = true)
  (q126:PySem.W.keepIn K (.ref f_lw_read_piece) = true)
  (q127:PySem.W.nsIn K mainGlobals "_law_read_row" = some (some (.ref f_lw_read_row)))
  (q128:K.lookup f_lw_read_row = some ⟨oc_lw_read_row,od_lw_read_row,.func (PySem.W.fnOf "_law_read_row" "_law_read_row" (defArgs s_lw_read_row) (defBody s_lw_read_row) (defScope s_lw_read_row) .none kV_lw_read_row dc_lw_read_row pm_lw_read_row an_lw_read_row cd_lw_read_row ct_lw_read_row),sl_lw_read_row⟩)
  (q129:PySem.W.codeIn K cd_lw_read_row "_law_read_row" = true)
  (q130:PySem.W.keepIn K (.ref f_lw_read_row) = true)
  (q131:PySem.W.nsIn K mainGlobals "_law_is_look" = some (some (.ref f_lw_is_look)))
  (q132:K.lookup f_lw_is_look = some ⟨oc_lw_is_look,od_lw_is_look,.func (PySem.W.fnOf "_law_is_look" "_law_is_look" (defArgs s_lw_is_look) (defBody s_lw_is_look) (defScope s_lw_is_look) .none kV_lw_is_look dc_lw_is_look pm_lw_is_look an_lw_is_look cd_lw_is_look ct_lw_is_look),sl_lw_is_look⟩)
  (q133:PySem.W.codeIn K cd_lw_is_look "_law_is_look" = true)
  (q134:PySem.W.keepIn K (.ref f_lw_is_look) = true)
  (q135:PySem.W.nsIn K mainGlobals "_law_read" = some (some (.ref f_lw_read)))
  (q136:K.lookup f_lw_read = some ⟨oc_lw_read,od_lw_read,.func (PySem.W.fnOf "_law_read" "_law_read" (defArgs s_lw_read) (defBody s_lw_read) (defScope s_lw_read) .none kV_lw_read dc_lw_read pm_lw_read an_lw_read cd_lw_read ct_lw_read),sl_lw_read⟩)
  (q137:PySem.W.codeIn K cd_lw_read "_law_read" = true)
  (q138:PySem.W.keepIn K (.ref f_lw_read) = true)
  (q139:PySem.W.nsIn K mainGlobals "_law_alike" = some (some (.ref f_lw_alike)))
  (q140:K.lookup f_lw_alike = some ⟨oc_lw_alike,od_lw_alike,.func (PySem.W.fnOf "_law_alike" "_law_alike" (defArgs s_lw_alike) (defBody s_lw_alike) (defScope s_lw_alike) .none kV_lw_alike dc_lw_alike pm_lw_alike an_lw_alike cd_lw_alike ct_lw_alike),sl_lw_alike⟩)
  (q141:PySem.W.codeIn K cd_lw_alike "_law_alike" = true)
  (q142:PySem.W.keepIn K (.ref f_lw_alike) = true)
  (q143:PySem.W.findIn K (.ref C_Parts) "take" = some (some (.ref f_Parts_take)))
  (q144:PySem.W.isFn K (.ref f_Parts_take) = true)
  (q145:K.lookup f_Parts_take = some ⟨oc_Parts_take,od_Parts_take,.func (PySem.W.fnOf "take" "Parts.take" (defArgs s_Parts_take) (defBody s_Parts_take) (defScope s_Parts_take) .none kV_Parts_take dc_Parts_take pm_Parts_take an_Parts_take cd_Parts_take ct_Parts_take),sl_Parts_take⟩)
  (q146:PySem.W.codeIn K cd_Parts_take "Parts.take" = true)
  (q147:PySem.W.keepIn K (.ref f_Parts_take) = true)
  (q148:PySem.W.nsIn K mainGlobals "take_place" = some (some (.ref f_take_place)))
  (q149:K.lookup f_take_place = some ⟨oc_take_place,od_take_place,.func (PySem.W.fnOf "take_place" "take_place" (defArgs s_take_place) (defBody s_take_place) (defScope s_take_place) .none kV_take_place dc_take_place pm_take_place an_take_place cd_take_place ct_take_place),sl_take_place⟩)
  (q150:PySem.W.codeIn K cd_take_place "take_place" = true)
  (q151:PySem.W.keepIn K (.ref f_take_place) = true)
  (q152:PySem.W.nsIn K mainGlobals "take_piece" = some (some (.ref f_take_piece)))
  (q153:K.lookup f_take_piece = some ⟨oc_take_piece,od_take_piece,.func (PySem.W.fnOf "take_piece" "take_piece" (defArgs s_take_piece) (defBody s_take_piece) (defScope s_take_piece) .none kV_take_piece dc_take_piece pm_take_piece an_take_piece cd_take_piece ct_take_piece),sl_take_piece⟩)
  (q154:PySem.W.codeIn K cd_take_piece "take_piece" = true)
  (q155:PySem.W.keepIn K (.ref f_take_piece) = true)
  (q156:PySem.W.nsIn K mainGlobals "take_row" = some (some (.ref f_take_row)))
  (q157:K.lookup f_take_row = some ⟨oc_take_row,od_take_row,.func (PySem.W.fnOf "take_row" "take_row" (defArgs s_take_row) (defBody s_take_row) (defScope s_take_row) .none kV_take_row dc_take_row pm_take_row an_take_row cd_take_row ct_take_row),sl_take_row⟩)
  (q158:PySem.W.codeIn K cd_take_row "take_row" = true)
  (q159:PySem.W.keepIn K (.ref f_take_row) = true)
  (q160:PySem.W.nsIn K mainGlobals "take_program" = some (some (.ref f_take_program)))
  (q161:K.lookup f_take_program = some ⟨oc_take_program,od_take_program,.func (PySem.W.fnOf "take_program" "take_program" (defArgs s_take_program) (defBody s_take_program) (defScope s_take_program) .none kV_take_program dc_take_program pm_take_program an_take_program cd_take_program ct_take_program),sl_take_program⟩)
  (q162:PySem.W.codeIn K cd_take_program "take_program" = true)
  (q163:PySem.W.keepIn K (.ref f_take_program) = true)
  (q164:PySem.W.nsIn K mainGlobals "is_tuple_of" = some (some (.ref f_is_tuple_of)))
  (q165:K.lookup f_is_tuple_of = some ⟨oc_is_tuple_of,od_is_tuple_of,.func (PySem.W.fnOf "is_tuple_of" "is_tuple_of" (defArgs s_is_tuple_of) (defBody s_is_tuple_of) (defScope s_is_tuple_of) .none kV_is_tuple_of dc_is_tuple_of pm_is_tuple_of an_is_tuple_of cd_is_tuple_of ct_is_tuple_of),sl_is_tuple_of⟩)
  (q166:PySem.W.codeIn K cd_is_tuple_of "is_tuple_of" = true)
  (q167:PySem.W.keepIn K (.ref f_is_tuple_of) = true)
  (q168:PySem.W.nsIn K mainGlobals "is_word_among" = some (some (.ref f_is_word_among)))
  (q169:K.lookup f_is_word_among = some ⟨oc_is_word_among,od_is_word_among,.func (PySem.W.fnOf "is_word_among" "is_word_among" (defArgs s_is_word_among) (defBody s_is_word_among) (defScope s_is_word_among) .none kV_is_word_among dc_is_word_among pm_is_word_among an_is_word_among cd_is_word_among ct_is_word_among),sl_is_word_among⟩)
  (q170:PySem.W.codeIn K cd_is_word_among "is_word_among" = true)
  (q171:PySem.W.keepIn K (.ref f_is_word_among) = true)
  (q172:PySem.W.nsIn K mainGlobals "kind_of" = some (some (.ref f_kind_of)))
  (q173:K.lookup f_kind_of = some ⟨oc_kind_of,od_kind_of,.func (PySem.W.fnOf "kind_of" "kind_of" (defArgs s_kind_of) (defBody s_kind_of) (defScope s_kind_of) .none kV_kind_of dc_kind_of pm_kind_of an_kind_of cd_kind_of ct_kind_of),sl_kind_of⟩)
  (q174:PySem.W.codeIn K cd_kind_of "kind_of" = true)
  (q175:PySem.W.keepIn K (.ref f_kind_of) = true)
  (q176:PySem.W.nsIn K mainGlobals "is_text" = some (some (.ref f_is_text)))
  (q177:K.lookup f_is_text = some ⟨oc_is_text,od_is_text,.func (PySem.W.fnOf "is_text" "is_text" (defArgs s_is_text) (defBody s_is_text) (defScope s_is_text) .none kV_is_text dc_is_text pm_is_text an_is_text cd_is_text ct_is_text),sl_is_text⟩)
  (q178:PySem.W.codeIn K cd_is_text "is_text" = true)
  (q179:PySem.W.keepIn K (.ref f_is_text) = true)
  (q180:PySem.W.nsIn K mainGlobals "is_word" = some (some (.ref f_is_word)))
  (q181:K.lookup f_is_word = some ⟨oc_is_word,od_is_word,.func (PySem.W.fnOf "is_word" "is_word" (defArgs s_is_word) (defBody s_is_word) (defScope s_is_word) .none kV_is_word dc_is_word pm_is_word an_is_word cd_is_word ct_is_word),sl_is_word⟩)
  (q182:PySem.W.codeIn K cd_is_word "is_word" = true)
  (q183:PySem.W.keepIn K (.ref f_is_word) = true)
  (q184:PySem.W.nsIn K mainGlobals "is_word_piece" = some (some (.ref f_is_word_piece)))
  (q185:K.lookup f_is_word_piece = some ⟨oc_is_word_piece,od_is_word_piece,.func (PySem.W.fnOf "is_word_piece" "is_word_piece" (defArgs s_is_word_piece) (defBody s_is_word_piece) (defScope s_is_word_piece) .none kV_is_word_piece dc_is_word_piece pm_is_word_piece an_is_word_piece cd_is_word_piece ct_is_word_piece),sl_is_word_piece⟩)
  (q186:PySem.W.codeIn K cd_is_word_piece "is_word_piece" = true)
  (q187:PySem.W.keepIn K (.ref f_is_word_piece) = true)
  (q188:PySem.W.nsIn K mainGlobals "is_nth" = some (some (.ref f_is_nth)))
  (q189:K.lookup f_is_nth = some ⟨oc_is_nth,od_is_nth,.func (PySem.W.fnOf "is_nth" "is_nth" (defArgs s_is_nth) (defBody s_is_nth) (defScope s_is_nth) .none kV_is_nth dc_is_nth pm_is_nth an_is_nth cd_is_nth ct_is_nth),sl_is_nth⟩)
  (q190:PySem.W.codeIn K cd_is_nth "is_nth" = true)
  (q191:PySem.W.keepIn K (.ref f_is_nth) = true)
  (q192:PySem.W.nsIn K mainGlobals "is_place" = some (some (.ref f_is_place)))
  (q193:K.lookup f_is_place = some ⟨oc_is_place,od_is_place,.func (PySem.W.fnOf "is_place" "is_place" (defArgs s_is_place) (defBody s_is_place) (defScope s_is_place) .none kV_is_place dc_is_place pm_is_place an_is_place cd_is_place ct_is_place),sl_is_place⟩)
  (q194:PySem.W.codeIn K cd_is_place "is_place" = true)
  (q195:PySem.W.keepIn K (.ref f_is_place) = true)
  (q196:PySem.W.nsIn K mainGlobals "is_stretch" = some (some (.ref f_is_stretch)))
  (q197:K.lookup f_is_stretch = some ⟨oc_is_stretch,od_is_stretch,.func (PySem.W.fnOf "is_stretch" "is_stretch" (defArgs s_is_stretch) (defBody s_is_stretch) (defScope s_is_stretch) .none kV_is_stretch dc_is_stretch pm_is_stretch an_is_stretch cd_is_stretch ct_is_stretch),sl_is_stretch⟩)
  (q198:PySem.W.codeIn K cd_is_stretch "is_stretch" = true)
  (q199:PySem.W.keepIn K (.ref f_is_stretch) = true)
  (q200:PySem.W.nsIn K mainGlobals "is_row" = some (some (.ref f_is_row)))
  (q201:K.lookup f_is_row = some ⟨oc_is_row,od_is_row,.func (PySem.W.fnOf "is_row" "is_row" (defArgs s_is_row) (defBody s_is_row) (defScope s_is_row) .none kV_is_row dc_is_row pm_is_row an_is_row cd_is_row ct_is_row),sl_is_row⟩)
  (q202:PySem.W.codeIn K cd_is_row "is_row" = true)
  (q203:PySem.W.keepIn K (.ref f_is_row) = true)
  (q204:PySem.W.nsIn K mainGlobals "is_look" = some (some (.ref f_is_look)))
  (q205:K.lookup f_is_look = some ⟨oc_is_look,od_is_look,.func (PySem.W.fnOf "is_look" "is_look" (defArgs s_is_look) (defBody s_is_look) (defScope s_is_look) .none kV_is_look dc_is_look pm_is_look an_is_look cd_is_look ct_is_look),sl_is_look⟩)
  (q206:PySem.W.codeIn K cd_is_look "is_look" = true)
  (q207:PySem.W.keepIn K (.ref f_is_look) = true)
  (q208:PySem.W.nsIn K mainGlobals "is_program" = some (some (.ref f_is_program)))
  (q209:K.lookup f_is_program = some ⟨oc_is_program,od_is_program,.func (PySem.W.fnOf "is_program" "is_program" (defArgs s_is_program) (defBody s_is_program) (defScope s_is_program) .none kV_is_program dc_is_program pm_is_program an_is_program cd_is_program ct_is_program),sl_is_program⟩)
  (q210:PySem.W.codeIn K cd_is_program "is_program" = true)
  (q211:PySem.W.keepIn K (.ref f_is_program) = true)
  (q212:PySem.W.nsIn K mainGlobals "check" = some (some (.ref f_check)))
  (q213:K.lookup f_check = some ⟨oc_check,od_check,.func (PySem.W.fnOf "check" "check" (defArgs s_check) (defBody s_check) (defScope s_check) .none kV_check dc_check pm_check an_check cd_check ct_check),sl_check⟩)
  (q214:PySem.W.codeIn K cd_check "check" = true)
  (q215:PySem.W.keepIn K (.ref f_check) = true)
  (q216:PySem.W.findIn K (.ref C_Parts) "__init__" = some (some (.ref f_Parts_init)))
  (q217:PySem.W.isFn K (.ref f_Parts_init) = true)
  (q218:K.lookup f_Parts_init = some ⟨oc_Parts_init,od_Parts_init,.func (PySem.W.fnOf "__init__" "Parts.__init__" (defArgs s_Parts_init) (defBody s_Parts_init) (defScope s_Parts_init) .none kV_Parts_init dc_Parts_init pm_Parts_init an_Parts_init cd_Parts_init ct_Parts_init),sl_Parts_init⟩)
  (q219:PySem.W.codeIn K cd_Parts_init "Parts.__init__" = true)
  (q220:PySem.W.keepIn K (.ref f_Parts_init) = true)
  (q221:PySem.W.nsIn K mainGlobals "shown_place" = some (some (.ref f_shown_place)))
  (q222:K.lookup f_shown_place = some ⟨oc_shown_place,od_shown_place,.func (PySem.W.fnOf "shown_place" "shown_place" (defArgs s_shown_place) (defBody s_shown_place) (defScope s_shown_place) .none kV_shown_place dc_shown_place pm_shown_place an_shown_place cd_shown_place ct_shown_place),sl_shown_place⟩)
  (q223:PySem.W.codeIn K cd_shown_place "shown_place" = true)
  (q224:PySem.W.keepIn K (.ref f_shown_place) = true)
  (q225:PySem.W.nsIn K mainGlobals "shown_piece" = some (some (.ref f_shown_piece)))
  (q226:K.lookup f_shown_piece = some ⟨oc_shown_piece,od_shown_piece,.func (PySem.W.fnOf "shown_piece" "shown_piece" (defArgs s_shown_piece) (defBody s_shown_piece) (defScope s_shown_piece) .none kV_shown_piece dc_shown_piece pm_shown_piece an_shown_piece cd_shown_piece ct_shown_piece),sl_shown_piece⟩)
  (q227:PySem.W.codeIn K cd_shown_piece "shown_piece" = true)
  (q228:PySem.W.keepIn K (.ref f_shown_piece) = true)
  (q229:PySem.W.nsIn K mainGlobals "shown_row" = some (some (.ref f_shown_row)))
  (q230:K.lookup f_shown_row = some ⟨oc_shown_row,od_shown_row,.func (PySem.W.fnOf "shown_row" "shown_row" (defArgs s_shown_row) (defBody s_shown_row) (defScope s_shown_row) .none kV_shown_row dc_shown_row pm_shown_row an_shown_row cd_shown_row ct_shown_row),sl_shown_row⟩)
  (q231:PySem.W.codeIn K cd_shown_row "shown_row" = true)
  (q232:PySem.W.keepIn K (.ref f_shown_row) = true)
  (q233:PySem.W.nsIn K mainGlobals "shown" = some (some (.ref f_shown)))
  (q234:K.lookup f_shown = some ⟨oc_shown,od_shown,.func (PySem.W.fnOf "shown" "shown" (defArgs s_shown) (defBody s_shown) (defScope s_shown) .none kV_shown dc_shown pm_shown an_shown cd_shown ct_shown),sl_shown⟩)
  (q235:PySem.W.codeIn K cd_shown "shown" = true)
  (q236:PySem.W.keepIn K (.ref f_shown) = true)
  (q237:PySem.W.nsIn K mainGlobals "read" = some (some (.ref f_read)))
  (q238:K.lookup f_read = some ⟨oc_read,od_read,.func (PySem.W.fnOf "read" "read" (defArgs s_read) (defBody s_read) (defScope s_read) .none kV_read dc_read pm_read an_read cd_read ct_read),sl_read⟩)
  (q239:PySem.W.codeIn K cd_read "read" = true)
  (q240:PySem.W.keepIn K (.ref f_read) = true)
  (q241:PySem.W.nsIn K mainGlobals "_law_refused" = some (some (.ref f_lw_refused)))
  (q242:K.lookup f_lw_refused = some ⟨oc_lw_refused,od_lw_refused,.func (PySem.W.fnOf "_law_refused" "_law_refused" (defArgs s_lw_refused) (defBody s_lw_refused) (defScope s_lw_refused) .none kV_lw_refused dc_lw_refused pm_lw_refused an_lw_refused cd_lw_refused ct_lw_refused),sl_lw_refused⟩)
  (q243:PySem.W.codeIn K cd_lw_refused "_law_refused" = true)
  (q244:PySem.W.keepIn K (.ref f_lw_refused) = true)
  (q245:PySem.W.nsIn K mainGlobals "_law_right" = some (some (.ref f_lw_right)))
  (q246:K.lookup f_lw_right = some ⟨oc_lw_right,od_lw_right,.func (PySem.W.fnOf "_law_right" "_law_right" (defArgs s_lw_right) (defBody s_lw_right) (defScope s_lw_right) .none kV_lw_right dc_lw_right pm_lw_right an_lw_right cd_lw_right ct_lw_right),sl_lw_right⟩)
  (q247:PySem.W.codeIn K cd_lw_right "_law_right" = true)
  (q248:PySem.W.keepIn K (.ref f_lw_right) = true)
  (q249:PySem.W.nsIn K mainGlobals "_law_look" = some (some (.ref f_lw_look)))
  (q250:K.lookup f_lw_look = some ⟨oc_lw_look,od_lw_look,.func (PySem.W.fnOf "_law_look" "_law_look" (defArgs s_lw_look) (defBody s_lw_look) (defScope s_lw_look) .none kV_lw_look dc_lw_look pm_lw_look an_lw_look cd_lw_look ct_lw_look),sl_lw_look⟩)
  (q251:PySem.W.codeIn K cd_lw_look "_law_look" = true)
  (q252:PySem.W.keepIn K (.ref f_lw_look) = true)
  (q253:PySem.W.nsIn K mainGlobals "_law_place" = some (some (.ref f_lw_place)))
  (q254:K.lookup f_lw_place = some ⟨oc_lw_place,od_lw_place,.func (PySem.W.fnOf "_law_place" "_law_place" (defArgs s_lw_place) (defBody s_lw_place) (defScope s_lw_place) .none kV_lw_place dc_lw_place pm_lw_place an_lw_place cd_lw_place ct_lw_place),sl_lw_place⟩)
  (q255:PySem.W.codeIn K cd_lw_place "_law_place" = true)
  (q256:PySem.W.keepIn K (.ref f_lw_place) = true)
  (q257:PySem.W.nsIn K mainGlobals "_law_text" = some (some (.ref f_lw_text)))
  (q258:K.lookup f_lw_text = some ⟨oc_lw_text,od_lw_text,.func (PySem.W.fnOf "_law_text" "_law_text" (defArgs s_lw_text) (defBody s_lw_text) (defScope s_lw_text) .none kV_lw_text dc_lw_text pm_lw_text an_lw_text cd_lw_text ct_lw_text),sl_lw_text⟩)
  (q259:PySem.W.codeIn K cd_lw_text "_law_text" = true)
  (q260:PySem.W.keepIn K (.ref f_lw_text) = true)
  (q261:PySem.W.nsIn K mainGlobals "_law_word" = some (some (.ref f_lw_word)))
  (q262:K.lookup f_lw_word = some ⟨oc_lw_word,od_lw_word,.func (PySem.W.fnOf "_law_word" "_law_word" (defArgs s_lw_word) (defBody s_lw_word) (defScope s_lw_word) .none kV_lw_word dc_lw_word pm_lw_word an_lw_word cd_lw_word ct_lw_word),sl_lw_word⟩)
  (q263:PySem.W.codeIn K cd_lw_word "_law_word" = true)
  (q264:PySem.W.keepIn K (.ref f_lw_word) = true)
  (q265:PySem.W.nsIn K mainGlobals "_law_piece" = some (some (.ref f_lw_piece)))
  (q266:K.lookup f_lw_piece = some ⟨oc_lw_piece,od_lw_piece,.func (PySem.W.fnOf "_law_piece" "_law_piece" (defArgs s_lw_piece) (defBody s_lw_piece) (defScope s_lw_piece) .none kV_lw_piece dc_lw_piece pm_lw_piece an_lw_piece cd_lw_piece ct_lw_piece),sl_lw_piece⟩)
  (q267:PySem.W.codeIn K cd_lw_piece "_law_piece" = true)
  (q268:PySem.W.keepIn K (.ref f_lw_piece) = true)
  (q269:PySem.W.nsIn K mainGlobals "_law_row" = some (some (.ref f_lw_row)))
  (q270:K.lookup f_lw_row = some ⟨oc_lw_row,od_lw_row,.func (PySem.W.fnOf "_law_row" "_law_row" (defArgs s_lw_row) (defBody s_lw_row) (defScope s_lw_row) .none kV_lw_row dc_lw_row pm_lw_row an_lw_row cd_lw_row ct_lw_row),sl_lw_row⟩)
  (q271:PySem.W.codeIn K cd_lw_row "_law_row" = true)
  (q272:PySem.W.keepIn K (.ref f_lw_row) = true)
  (q273:PySem.W.nsIn K mainGlobals "_law_program" = some (some (.ref f_lw_program)))
  (q274:K.lookup f_lw_program = some ⟨oc_lw_program,od_lw_program,.func (PySem.W.fnOf "_law_program" "_law_program" (defArgs s_lw_program) (defBody s_lw_program) (defScope s_lw_program) .none kV_lw_program dc_lw_program pm_lw_program an_lw_program cd_lw_program ct_lw_program),sl_lw_program⟩)
  (q275:PySem.W.codeIn K cd_lw_program "_law_program" = true)
  (q276:PySem.W.keepIn K (.ref f_lw_program) = true)
  (q277:PySem.W.nsIn K mainGlobals "_law_odd" = some (some (.ref f_lw_odd)))
  (q278:K.lookup f_lw_odd = some ⟨oc_lw_odd,od_lw_odd,.func (PySem.W.fnOf "_law_odd" "_law_odd" (defArgs s_lw_odd) (defBody s_lw_odd) (defScope s_lw_odd) .none kV_lw_odd dc_lw_odd pm_lw_odd an_lw_odd cd_lw_odd ct_lw_odd),sl_lw_odd⟩)
  (q279:PySem.W.codeIn K cd_lw_odd "_law_odd" = true)
  (q280:PySem.W.keepIn K (.ref f_lw_odd) = true)
  (q281:PySem.W.nsIn K mainGlobals "_law_cell" = some (some (.ref f_lw_cell)))
  (q282:K.lookup f_lw_cell = some ⟨oc_lw_cell,od_lw_cell,.func (PySem.W.fnOf "_law_cell" "_law_cell" (defArgs s_lw_cell) (defBody s_lw_cell) (defScope s_lw_cell) .none kV_lw_cell dc_lw_cell pm_lw_cell an_lw_cell cd_lw_cell ct_lw_cell),sl_lw_cell⟩)
  (q283:PySem.W.codeIn K cd_lw_cell "_law_cell" = true)
  (q284:PySem.W.keepIn K (.ref f_lw_cell) = true)
  (q285:PySem.W.nsIn K mainGlobals "_law_other" = some (some (.ref f_lw_other)))
  (q286:K.lookup f_lw_other = some ⟨oc_lw_other,od_lw_other,.func (PySem.W.fnOf "_law_other" "_law_other" (defArgs s_lw_other) (defBody s_lw_other) (defScope s_lw_other) .none kV_lw_other dc_lw_other pm_lw_other an_lw_other cd_lw_other ct_lw_other),sl_lw_other⟩)
  (q287:PySem.W.codeIn K cd_lw_other "_law_other" = true)
  (q288:PySem.W.keepIn K (.ref f_lw_other) = true)
  (q289:PySem.W.nsIn K mainGlobals "_law_spoiled" = some (some (.ref f_lw_spoiled)))
  (q290:K.lookup f_lw_spoiled = some ⟨oc_lw_spoiled,od_lw_spoiled,.func (PySem.W.fnOf "_law_spoiled" "_law_spoiled" (defArgs s_lw_spoiled) (defBody s_lw_spoiled) (defScope s_lw_spoiled) .none kV_lw_spoiled dc_lw_spoiled pm_lw_spoiled an_lw_spoiled cd_lw_spoiled ct_lw_spoiled),sl_lw_spoiled⟩)
  (q291:PySem.W.codeIn K cd_lw_spoiled "_law_spoiled" = true)
  (q292:PySem.W.keepIn K (.ref f_lw_spoiled) = true)
  (q293:PySem.W.nsIn K mainGlobals "law" = some (some (.ref f_law)))
  (q294:K.lookup f_law = some ⟨oc_law,od_law,.func (PySem.W.fnOf "law" "law" (defArgs s_law) (defBody s_law) (defScope s_law) .none kV_law dc_law pm_law an_law cd_law ct_law),sl_law⟩)
  (q295:PySem.W.codeIn K cd_law "law" = true)
  (q296:PySem.W.keepIn K (.ref f_law) = true) :
  ∃ fd:FuncData,(∀ (s:Shared) (v:Value),BindsTo s fd ⟨[v],[]⟩ [("_law_script",v)]) ∧ ∀ base:Heap,K.In base → base.Ns mainGlobals mg → FnOk l.prog w K mg base CX0 14 fa fd ["_law_script"] (spF K G_law):=by
 have C_DEEDS:GCon K mg "DEEDS" c_DEEDS:=gcon_of (PySem.W.mg_of X G q6) (tupk_tup q5 (by show 3 ≤ sizeLine; decide) (.cons (tupk_str (by decide)) (.cons (tupk_str (by decide)) (.cons (tupk_str (by decide)) .nil))))
 have C_EDGES:GCon K mg "EDGES" c_EDGES:=gcon_of (PySem.W.mg_of X G q11) (tupk_tup q10 (by show 2 ≤ sizeLine; decide) (.cons (tupk_str (by decide)) (.cons (tupk_str (by decide)) .nil)))
 have C_KINDS:GCon K mg "KINDS" c_KINDS:=gcon_of (PySem.W.mg_of X G q19) (tupk_tup q18 (by show 5 ≤ sizeLine; decide) (.cons (tupk_str (by decide)) (.cons (tupk_str (by decide)) (.cons (tupk_str (by decide)) (.cons (tupk_str (by decide)) (.cons (tupk_str (by decide)) .nil))))))
 have C_LONGEST_TEXT:GCon K mg "LONGEST_TEXT" c_LONGEST_TEXT:=gcon_of (PySem.W.mg_of X G q21) tupk_int
 have C_LONGEST_WORD:GCon K mg "LONGEST_WORD" c_LONGEST_WORD:=gcon_of (PySem.W.mg_of X G q23) tupk_int
 have C_NTHS:GCon K mg "NTHS" c_NTHS:=gcon_of (PySem.W.mg_of X G q30) (tupk_tup q29 (by show 4 ≤ sizeLine; decide) (.cons tupk_int (.cons tupk_int (.cons tupk_int (.cons tupk_int .nil)))))
 have C_ROW_LENGTHS:GCon K mg "ROW_LENGTHS" c_ROW_LENGTHS:=gcon_of (PySem.W.mg_of X G q36) (tupk_tup q35 (by show 3 ≤ sizeLine; decide) (.cons tupk_int (.cons tupk_int (.cons tupk_int .nil))))
 have C_SIGNS_BY_KIND:GCon K mg "SIGNS_BY_KIND" c_SIGNS_BY_KIND:=gcon_of (PySem.W.mg_of X G q55) (tupk_tup q54 (by show 4 ≤ sizeLine; decide) (.cons (tupk_tup q41 (by show 2 ≤ sizeLine; decide) (.cons (tupk_str (by decide)) (.cons (tupk_str (by decide)) .nil))) (.cons (tupk_tup q45 (by show 2 ≤ sizeLine; decide) (.cons (tupk_str (by decide)) (.cons (tupk_str (by decide)) .nil))) (.cons (tupk_tup q49 (by show 2 ≤ sizeLine; decide) (.cons (tupk_str (by decide)) (.cons (tupk_str (by decide)) .nil))) (.cons (tupk_tup q53 (by show 2 ≤ sizeLine; decide) (.cons (tupk_str (by decide)) (.cons (tupk_str (by decide)) .nil))) .nil)))))
 have T_NTH_BY_PART:GTab K mg w "NTH_BY_PART" c_NTH_BY_PART:=gtab_of (PySem.W.mg_of X G q61) q62 q63 q64 (gt_cons tupk_int (gt_cons tupk_int (gt_cons tupk_int (gt_cons tupk_int (gt_nil)))))
 have hb:BlOk mg NBl:=by
  intro x hx
  simp only [NBl,List.mem_cons,List.not_mem_nil,or_false] at hx
  rcases hx with rfl | rfl | rfl | rfl | rfl | rfl | rfl | rfl | rfl | rfl | rfl
  ·exact PySem.W.mg_none_of X G q65
  ·exact PySem.W.mg_none_of X G q66
  ·exact PySem.W.mg_none_of X G q67
  ·exact PySem.W.mg_none_of X G q68
  ·exact PySem.W.mg_none_of X G q69
  ·exact PySem.W.mg_none_of X G q70
  ·exact PySem.W.mg_none_of X G q71
  ·exact PySem.W.mg_none_of X G q72
  ·exact PySem.W.mg_none_of X G q73
  ·exact PySem.W.mg_none_of X G q74
  ·exact PySem.W.mg_none_of X G q75
 have ca_Parts:ClsAt K "Parts" C_Parts:=q76
 have cl_Parts:Cls K C_Parts:=⟨q77,q78,q79,q80⟩
 have O_Parts_parts:FldOk K "Parts" "parts":=fldok_of ca_Parts cl_Parts q83
 have O_Parts_taken:FldOk K "Parts" "taken":=fldok_of ca_Parts cl_Parts q84
 have X_FitError:ExcK K "FitError" C_FitError:=⟨q85,q86⟩
 have X_NoExample:ExcK K "NoExample" C_NoExample:=⟨q87,q88⟩
 have X_NoNumber:ExcK K "NoNumber" C_NoNumber:=⟨q89,q90⟩
 have X_NoProgram:ExcK K "NoProgram" C_NoProgram:=⟨q91,q92⟩
 have X_NothingFits:ExcK K "NothingFits" C_NothingFits:=⟨q93,q94⟩
 have X_Twice:ExcK K "Twice" C_Twice:=⟨q95,q96⟩
 have E_NoProgram:ExcC K C_NoProgram:=⟨q97,q98,q99,q100,q101,q102⟩
 have KA_NoProgram_NoNumber_NothingFits_Twice_NoExample:=q103
 have KO_NoProgram:=q104
 have S_NoProgram_FitError:SubK K "NoProgram" C_FitError:=⟨C_NoProgram,X_NoProgram,q105⟩
 have S_NoProgram_NoProgram:SubK K "NoProgram" C_NoProgram:=⟨C_NoProgram,X_NoProgram,q106⟩
 have Fu_lw_shown_row:=fun_mk (st:=s_lw_shown_row) q108 q109 q110
 have bi_lw_shown_row:=Fu_lw_shown_row.binds (ps:=["_law_row_here"]) fun _ _ _ _ _ _ us hl => by obtain ⟨_,rfl⟩:=len1 hl; rfl
 have Fu_lw_shown:=fun_mk (st:=s_lw_shown) q112 q113 q114
 have bi_lw_shown:=Fu_lw_shown.binds (ps:=["_law_program_here"]) fun _ _ _ _ _ _ us hl => by obtain ⟨_,rfl⟩:=len1 hl; rfl
 have Fu_lw_read_place:=fun_mk (st:=s_lw_read_place) q116 q117 q118
 have bi_lw_read_place:=Fu_lw_read_place.binds (ps:=["_law_words"]) fun _ _ _ _ _ _ us hl => by obtain ⟨_,rfl⟩:=len1 hl; rfl
 have Fu_lw_is_word:=fun_mk (st:=s_lw_is_word) q120 q121 q122
 have bi_lw_is_word:=Fu_lw_is_word.binds (ps:=["_law_word_here"]) fun _ _ _ _ _ _ us hl => by obtain ⟨_,rfl⟩:=len1 hl; rfl
 have Fu_lw_read_piece:=fun_mk (st:=s_lw_read_piece) q124 q125 q126
 have bi_lw_read_piece:=Fu_lw_read_piece.binds (ps:=["_law_words"]) fun _ _ _ _ _ _ us hl => by obtain ⟨_,rfl⟩:=len1 hl; rfl
 have Fu_lw_read_row:=fun_mk (st:=s_lw_read_row) q128 q129 q130
 have bi_lw_read_row:=Fu_lw_read_row.binds (ps:=["_law_words"]) fun _ _ _ _ _ _ us hl => by obtain ⟨_,rfl⟩:=len1 hl; rfl
 have Fu_lw_is_look:=fun_mk (st:=s_lw_is_look) q132 q133 q134
 have bi_lw_is_look:=Fu_lw_is_look.binds (ps:=["_law_words"]) fun _ _ _ _ _ _ us hl => by obtain ⟨_,rfl⟩:=len1 hl; rfl
 have Fu_lw_read:=fun_mk (st:=s_lw_read) q136 q137 q138
 have bi_lw_read:=Fu_lw_read.binds (ps:=["_law_text_here"]) fun _ _ _ _ _ _ us hl => by obtain ⟨_,rfl⟩:=len1 hl; rfl
 have Fu_lw_alike:=fun_mk (st:=s_lw_alike) q140 q141 q142
 have bi_lw_alike:=Fu_lw_alike.binds (ps:=["_law_found","_law_due"]) fun _ _ _ _ _ _ us hl => by obtain ⟨_,_,rfl⟩:=len2 hl; rfl
 have Fu_Parts_take:=fun_mk (st:=s_Parts_take) q145 q146 q147
 have bi_Parts_take:=Fu_Parts_take.binds (ps:=["self"]) fun _ _ _ _ _ _ us hl => by obtain ⟨_,rfl⟩:=len1 hl; rfl
 have Fu_take_place:=fun_mk (st:=s_take_place) q149 q150 q151
 have bi_take_place:=Fu_take_place.binds (ps:=["parts"]) fun _ _ _ _ _ _ us hl => by obtain ⟨_,rfl⟩:=len1 hl; rfl
 have Fu_take_piece:=fun_mk (st:=s_take_piece) q153 q154 q155
 have bi_take_piece:=Fu_take_piece.binds (ps:=["parts"]) fun _ _ _ _ _ _ us hl => by obtain ⟨_,rfl⟩:=len1 hl; rfl
 have Fu_take_row:=fun_mk (st:=s_take_row) q157 q158 q159
 have bi_take_row:=Fu_take_row.binds (ps:=["parts"]) fun _ _ _ _ _ _ us hl => by obtain ⟨_,rfl⟩:=len1 hl; rfl
 have Fu_take_program:=fun_mk (st:=s_take_program) q161 q162 q163
 have bi_take_program:=Fu_take_program.binds (ps:=["parts"]) fun _ _ _ _ _ _ us hl => by obtain ⟨_,rfl⟩:=len1 hl; rfl
 have Fu_is_tuple_of:=fun_mk (st:=s_is_tuple_of) q165 q166 q167
 have bi_is_tuple_of:=Fu_is_tuple_of.binds (ps:=["length","thing"]) fun _ _ _ _ _ _ us hl => by obtain ⟨_,_,rfl⟩:=len2 hl; rfl
 have Fu_is_word_among:=fun_mk (st:=s_is_word_among) q169 q170 q171
 have bi_is_word_among:=Fu_is_word_among.binds (ps:=["thing","words"]) fun _ _ _ _ _ _ us hl => by obtain ⟨_,_,rfl⟩:=len2 hl; rfl
 have Fu_kind_of:=fun_mk (st:=s_kind_of) q173 q174 q175
 have bi_kind_of:=Fu_kind_of.binds (ps:=["sign"]) fun _ _ _ _ _ _ us hl => by obtain ⟨_,rfl⟩:=len1 hl; rfl
 have Fu_is_text:=fun_mk (st:=s_is_text) q177 q178 q179
 have bi_is_text:=Fu_is_text.binds (ps:=["thing"]) fun _ _ _ _ _ _ us hl => by obtain ⟨_,rfl⟩:=len1 hl; rfl
 have Fu_is_word:=fun_mk (st:=s_is_word) q181 q182 q183
 have bi_is_word:=Fu_is_word.binds (ps:=["thing"]) fun _ _ _ _ _ _ us hl => by obtain ⟨_,rfl⟩:=len1 hl; rfl
 have Fu_is_word_piece:=fun_mk (st:=s_is_word_piece) q185 q186 q187
 have bi_is_word_piece:=Fu_is_word_piece.binds (ps:=["thing"]) fun _ _ _ _ _ _ us hl => by obtain ⟨_,rfl⟩:=len1 hl; rfl
 have Fu_is_nth:=fun_mk (st:=s_is_nth) q189 q190 q191
 have bi_is_nth:=Fu_is_nth.binds (ps:=["thing"]) fun _ _ _ _ _ _ us hl => by obtain ⟨_,rfl⟩:=len1 hl; rfl
 have Fu_is_place:=fun_mk (st:=s_is_place) q193 q194 q195
 have bi_is_place:=Fu_is_place.binds (ps:=["thing"]) fun _ _ _ _ _ _ us hl => by obtain ⟨_,rfl⟩:=len1 hl; rfl
 have Fu_is_stretch:=fun_mk (st:=s_is_stretch) q197 q198 q199
 have bi_is_stretch:=Fu_is_stretch.binds (ps:=["thing"]) fun _ _ _ _ _ _ us hl => by obtain ⟨_,rfl⟩:=len1 hl; rfl
 have Fu_is_row:=fun_mk (st:=s_is_row) q201 q202 q203
 have bi_is_row:=Fu_is_row.binds (ps:=["thing"]) fun _ _ _ _ _ _ us hl => by obtain ⟨_,rfl⟩:=len1 hl; rfl
 have Fu_is_look:=fun_mk (st:=s_is_look) q205 q206 q207
 have bi_is_look:=Fu_is_look.binds (ps:=["thing"]) fun _ _ _ _ _ _ us hl => by obtain ⟨_,rfl⟩:=len1 hl; rfl
 have Fu_is_program:=fun_mk (st:=s_is_program) q209 q210 q211
 have bi_is_program:=Fu_is_program.binds (ps:=["thing"]) fun _ _ _ _ _ _ us hl => by obtain ⟨_,rfl⟩:=len1 hl; rfl
 have Fu_check:=fun_mk (st:=s_check) q213 q214 q215
 have bi_check:=Fu_check.binds (ps:=["thing"]) fun _ _ _ _ _ _ us hl => by obtain ⟨_,rfl⟩:=len1 hl; rfl
 have Fu_Parts_init:=fun_mk (st:=s_Parts_init) q218 q219 q220
 have bi_Parts_init:=Fu_Parts_init.binds (ps:=["self","text"]) fun _ _ _ _ _ _ us hl => by obtain ⟨_,_,rfl⟩:=len2 hl; rfl
 have Fu_shown_place:=fun_mk (st:=s_shown_place) q222 q223 q224
 have bi_shown_place:=Fu_shown_place.binds (ps:=["place"]) fun _ _ _ _ _ _ us hl => by obtain ⟨_,rfl⟩:=len1 hl; rfl
 have Fu_shown_piece:=fun_mk (st:=s_shown_piece) q226 q227 q228
 have bi_shown_piece:=Fu_shown_piece.binds (ps:=["piece"]) fun _ _ _ _ _ _ us hl => by obtain ⟨_,rfl⟩:=len1 hl; rfl
 have Fu_shown_row:=fun_mk (st:=s_shown_row) q230 q231 q232
 have bi_shown_row:=Fu_shown_row.binds (ps:=["row"]) fun _ _ _ _ _ _ us hl => by obtain ⟨_,rfl⟩:=len1 hl; rfl
 have Fu_shown:=fun_mk (st:=s_shown) q234 q235 q236
 have bi_shown:=Fu_shown.binds (ps:=["program"]) fun _ _ _ _ _ _ us hl => by obtain ⟨_,rfl⟩:=len1 hl; rfl
 have Fu_read:=fun_mk (st:=s_read) q238 q239 q240
 have bi_read:=Fu_read.binds (ps:=["text"]) fun _ _ _ _ _ _ us hl => by obtain ⟨_,rfl⟩:=len1 hl; rfl
 have Fu_lw_refused:=fun_mk (st:=s_lw_refused) q242 q243 q244
 have bi_lw_refused:=Fu_lw_refused.binds (ps:=["_law_text_here"]) fun _ _ _ _ _ _ us hl => by obtain ⟨_,rfl⟩:=len1 hl; rfl
 have Fu_lw_right:=fun_mk (st:=s_lw_right) q246 q247 q248
 have bi_lw_right:=Fu_lw_right.binds (ps:=["_law_text_here"]) fun _ _ _ _ _ _ us hl => by obtain ⟨_,rfl⟩:=len1 hl; rfl
 have Fu_lw_look:=fun_mk (st:=s_lw_look) q250 q251 q252
 have bi_lw_look:=Fu_lw_look.binds (ps:=["_law_cell_here"]) fun _ _ _ _ _ _ us hl => by obtain ⟨_,rfl⟩:=len1 hl; rfl
 have Fu_lw_place:=fun_mk (st:=s_lw_place) q254 q255 q256
 have bi_lw_place:=Fu_lw_place.binds (ps:=["_law_cell_here"]) fun _ _ _ _ _ _ us hl => by obtain ⟨_,rfl⟩:=len1 hl; rfl
 have Fu_lw_text:=fun_mk (st:=s_lw_text) q258 q259 q260
 have bi_lw_text:=Fu_lw_text.binds (ps:=["_law_cell_here","_law_most"]) fun _ _ _ _ _ _ us hl => by obtain ⟨_,_,rfl⟩:=len2 hl; rfl
 have Fu_lw_word:=fun_mk (st:=s_lw_word) q262 q263 q264
 have bi_lw_word:=Fu_lw_word.binds (ps:=["_law_cell_here","_law_most"]) fun _ _ _ _ _ _ us hl => by obtain ⟨_,_,rfl⟩:=len2 hl; rfl
 have Fu_lw_piece:=fun_mk (st:=s_lw_piece) q266 q267 q268
 have bi_lw_piece:=Fu_lw_piece.binds (ps:=["_law_cell_here","_law_most"]) fun _ _ _ _ _ _ us hl => by obtain ⟨_,_,rfl⟩:=len2 hl; rfl
 have Fu_lw_row:=fun_mk (st:=s_lw_row) q270 q271 q272
 have bi_lw_row:=Fu_lw_row.binds (ps:=["_law_cell_here","_law_most"]) fun _ _ _ _ _ _ us hl => by obtain ⟨_,_,rfl⟩:=len2 hl; rfl
 have Fu_lw_program:=fun_mk (st:=s_lw_program) q274 q275 q276
 have bi_lw_program:=Fu_lw_program.binds (ps:=["_law_cell_here","_law_other_here","_law_most"]) fun _ _ _ _ _ _ us hl => by obtain ⟨_,_,_,rfl⟩:=len3 hl; rfl
 have Fu_lw_odd:=fun_mk (st:=s_lw_odd) q278 q279 q280
 have bi_lw_odd:=Fu_lw_odd.binds (ps:=["_law_cell_here"]) fun _ _ _ _ _ _ us hl => by obtain ⟨_,rfl⟩:=len1 hl; rfl
 have Fu_lw_cell:=fun_mk (st:=s_lw_cell) q282 q283 q284
 have bi_lw_cell:=Fu_lw_cell.binds (ps:=["_law_script","_law_k"]) fun _ _ _ _ _ _ us hl => by obtain ⟨_,_,rfl⟩:=len2 hl; rfl
 have Fu_lw_other:=fun_mk (st:=s_lw_other) q286 q287 q288
 have bi_lw_other:=Fu_lw_other.binds (ps:=["_law_cell_here"]) fun _ _ _ _ _ _ us hl => by obtain ⟨_,rfl⟩:=len1 hl; rfl
 have Fu_lw_spoiled:=fun_mk (st:=s_lw_spoiled) q290 q291 q292
 have bi_lw_spoiled:=Fu_lw_spoiled.binds (ps:=["_law_text_here","_law_cell_here"]) fun _ _ _ _ _ _ us hl => by obtain ⟨_,_,rfl⟩:=len2 hl; rfl
 have Fu_law:=fun_mk (st:=s_law) q294 q295 q296
 have e0:=hfa.symm.trans (PySem.W.mg_of X G q293)
 cases e0
 refine ⟨PySem.W.fnOf "law" "law" (defArgs s_law) (defBody s_law) (defScope s_law) .none kV_law dc_law pm_law an_law cd_law ct_law,fun s v => .of_eq rfl,fun base _ _ => ?_⟩
 have F_lw_shown_row:FnD l.prog w K mg base 1 "_law_shown_row" G_lw_shown_row:=fnd_of Fu_lw_shown_row sc_lw_shown_row (fun cdv A outer s H E hr => d_lw_shown_row hr hb) bi_lw_shown_row (PySem.W.mg_of X G q107) q110
 have F_lw_shown:FnD l.prog w K mg base 2 "_law_shown" G_lw_shown:=fnd_of Fu_lw_shown sc_lw_shown (fun cdv A outer s H E hr => d_lw_shown hr hb (F_lw_shown_row.mono (by decide:1 ≤ 1))) bi_lw_shown (PySem.W.mg_of X G q111) q114
 have F_lw_read_place:FnD l.prog w K mg base 1 "_law_read_place" G_lw_read_place:=fnd_of Fu_lw_read_place sc_lw_read_place (fun cdv A outer s H E hr => d_lw_read_place hr hb) bi_lw_read_place (PySem.W.mg_of X G q115) q118
 have F_lw_is_word:FnD l.prog w K mg base 1 "_law_is_word" G_lw_is_word:=fnd_of Fu_lw_is_word sc_lw_is_word (fun cdv A outer s H E hr => d_lw_is_word hr hb) bi_lw_is_word (PySem.W.mg_of X G q119) q122
 have F_lw_read_piece:FnD l.prog w K mg base 2 "_law_read_piece" G_lw_read_piece:=fnd_of Fu_lw_read_piece sc_lw_read_piece (fun cdv A outer s H E hr => d_lw_read_piece hr hb (F_lw_read_place.mono (by decide:1 ≤ 1)) (F_lw_is_word.mono (by decide:1 ≤ 1))) bi_lw_read_piece (PySem.W.mg_of X G q123) q126
 have F_lw_read_row:FnD l.prog w K mg base 3 "_law_read_row" G_lw_read_row:=fnd_of Fu_lw_read_row sc_lw_read_row (fun cdv A outer s H E hr => d_lw_read_row hr hb (F_lw_read_piece.mono (by decide:2 ≤ 2))) bi_lw_read_row (PySem.W.mg_of X G q127) q130
 have F_lw_is_look:FnD l.prog w K mg base 1 "_law_is_look" G_lw_is_look:=fnd_of Fu_lw_is_look sc_lw_is_look (fun cdv A outer s H E hr => d_lw_is_look hr hb) bi_lw_is_look (PySem.W.mg_of X G q131) q134
 have F_lw_read:FnD l.prog w K mg base 4 "_law_read" G_lw_read:=fnd_of Fu_lw_read sc_lw_read (fun cdv A outer s H E hr => d_lw_read hr hb (F_lw_read_row.mono (by decide:3 ≤ 3)) (F_lw_is_look.mono (by decide:1 ≤ 3))) bi_lw_read (PySem.W.mg_of X G q135) q138
 have FN_lw_alike:∀ n,FnD l.prog w K mg base (0 + n) "_law_alike" (GN_lw_alike n):=fun n => by
  induction n with
  | zero => exact fnd_none bi_lw_alike (PySem.W.mg_of X G q139) q142
  | succ n ih => exact fnd_of Fu_lw_alike sc_lw_alike (fun cdv A outer s H E hr => d_lw_alike hr hb ih) bi_lw_alike (PySem.W.mg_of X G q139) q142
 have F_lw_alike:FnD l.prog w K mg base 12 "_law_alike" G_lw_alike:=FN_lw_alike 12
 have F_Parts_take:FnM l.prog w K mg base 1 "Parts" "take" G_Parts_take:=fnm_of Fu_Parts_take sc_Parts_take (fun cdv A outer s H E hr => d_Parts_take hr hb O_Parts_parts O_Parts_taken) bi_Parts_take ca_Parts cl_Parts ⟨q143,q144,q147⟩
 have F_take_place:FnD l.prog w K mg base 2 "take_place" G_take_place:=fnd_of Fu_take_place sc_take_place (fun cdv A outer s H E hr => d_take_place hr hb T_NTH_BY_PART (F_Parts_take.mono (by decide:1 ≤ 1))) bi_take_place (PySem.W.mg_of X G q148) q151
 have F_take_piece:FnD l.prog w K mg base 3 "take_piece" G_take_piece:=fnd_of Fu_take_piece sc_take_piece (fun cdv A outer s H E hr => d_take_piece hr hb (F_Parts_take.mono (by decide:1 ≤ 2)) (F_take_place.mono (by decide:2 ≤ 2))) bi_take_piece (PySem.W.mg_of X G q152) q155
 have F_take_row:FnD l.prog w K mg base 4 "take_row" G_take_row:=fnd_of Fu_take_row sc_take_row (fun cdv A outer s H E hr => d_take_row hr hb (F_Parts_take.mono (by decide:1 ≤ 3)) (F_take_piece.mono (by decide:3 ≤ 3))) bi_take_row (PySem.W.mg_of X G q156) q159
 have F_take_program:FnD l.prog w K mg base 5 "take_program" G_take_program:=fnd_of Fu_take_program sc_take_program (fun cdv A outer s H E hr => d_take_program hr hb O_Parts_parts (F_Parts_take.mono (by decide:1 ≤ 4)) (F_take_row.mono (by decide:4 ≤ 4))) bi_take_program (PySem.W.mg_of X G q160) q163
 have F_is_tuple_of:FnD l.prog w K mg base 1 "is_tuple_of" G_is_tuple_of:=fnd_of Fu_is_tuple_of sc_is_tuple_of (fun cdv A outer s H E hr => d_is_tuple_of hr hb) bi_is_tuple_of (PySem.W.mg_of X G q164) q167
 have F_is_word_among:FnD l.prog w K mg base 1 "is_word_among" G_is_word_among:=fnd_of Fu_is_word_among sc_is_word_among (fun cdv A outer s H E hr => d_is_word_among hr hb) bi_is_word_among (PySem.W.mg_of X G q168) q171
 have F_kind_of:FnD l.prog w K mg base 1 "kind_of" G_kind_of:=fnd_of Fu_kind_of sc_kind_of (fun cdv A outer s H E hr => d_kind_of hr hb C_SIGNS_BY_KIND) bi_kind_of (PySem.W.mg_of X G q172) q175
 have F_is_text:FnD l.prog w K mg base 2 "is_text" G_is_text:=fnd_of Fu_is_text sc_is_text (fun cdv A outer s H E hr => d_is_text hr hb C_LONGEST_TEXT (F_kind_of.mono (by decide:1 ≤ 1))) bi_is_text (PySem.W.mg_of X G q176) q179
 have F_is_word:FnD l.prog w K mg base 3 "is_word" G_is_word:=fnd_of Fu_is_word sc_is_word (fun cdv A outer s H E hr => d_is_word hr hb C_LONGEST_WORD (F_is_text.mono (by decide:2 ≤ 2))) bi_is_word (PySem.W.mg_of X G q180) q183
 have F_is_word_piece:FnD l.prog w K mg base 4 "is_word_piece" G_is_word_piece:=fnd_of Fu_is_word_piece sc_is_word_piece (fun cdv A outer s H E hr => d_is_word_piece hr hb (F_is_tuple_of.mono (by decide:1 ≤ 3)) (F_is_word_among.mono (by decide:1 ≤ 3)) (F_is_word.mono (by decide:3 ≤ 3))) bi_is_word_piece (PySem.W.mg_of X G q184) q187
 have F_is_nth:FnD l.prog w K mg base 1 "is_nth" G_is_nth:=fnd_of Fu_is_nth sc_is_nth (fun cdv A outer s H E hr => d_is_nth hr hb C_NTHS) bi_is_nth (PySem.W.mg_of X G q188) q191
 have F_is_place:FnD l.prog w K mg base 2 "is_place" G_is_place:=fnd_of Fu_is_place sc_is_place (fun cdv A outer s H E hr => d_is_place hr hb C_EDGES C_KINDS (F_is_word_among.mono (by decide:1 ≤ 1)) (F_is_nth.mono (by decide:1 ≤ 1))) bi_is_place (PySem.W.mg_of X G q192) q195
 have F_is_stretch:FnD l.prog w K mg base 3 "is_stretch" G_is_stretch:=fnd_of Fu_is_stretch sc_is_stretch (fun cdv A outer s H E hr => d_is_stretch hr hb C_DEEDS (F_is_tuple_of.mono (by decide:1 ≤ 2)) (F_is_word_among.mono (by decide:1 ≤ 2)) (F_is_place.mono (by decide:2 ≤ 2))) bi_is_stretch (PySem.W.mg_of X G q196) q199
 have F_is_row:FnD l.prog w K mg base 5 "is_row" G_is_row:=fnd_of Fu_is_row sc_is_row (fun cdv A outer s H E hr => d_is_row hr hb C_ROW_LENGTHS (F_is_word_piece.mono (by decide:4 ≤ 4)) (F_is_stretch.mono (by decide:3 ≤ 4))) bi_is_row (PySem.W.mg_of X G q200) q203
 have F_is_look:FnD l.prog w K mg base 2 "is_look" G_is_look:=fnd_of Fu_is_look sc_is_look (fun cdv A outer s H E hr => d_is_look hr hb C_KINDS (F_is_tuple_of.mono (by decide:1 ≤ 1)) (F_is_word_among.mono (by decide:1 ≤ 1))) bi_is_look (PySem.W.mg_of X G q204) q207
 have F_is_program:FnD l.prog w K mg base 6 "is_program" G_is_program:=fnd_of Fu_is_program sc_is_program (fun cdv A outer s H E hr => d_is_program hr hb (F_is_tuple_of.mono (by decide:1 ≤ 5)) (F_is_word_among.mono (by decide:1 ≤ 5)) (F_is_row.mono (by decide:5 ≤ 5)) (F_is_look.mono (by decide:2 ≤ 5))) bi_is_program (PySem.W.mg_of X G q208) q211
 have F_check:FnD l.prog w K mg base 7 "check" G_check:=fnd_of Fu_check sc_check (fun cdv A outer s H E hr => d_check hr hb (F_is_program.mono (by decide:6 ≤ 6))) bi_check (PySem.W.mg_of X G q212) q215
 have FX_check:FnX l.prog w K mg base 7 "check" G_check GX_check:=fnx_of Fu_check sc_check (fun cdv A outer s H E hr => dx_check hr hb (F_is_program.mono (by decide:6 ≤ 6)) X_NoProgram) bi_check (PySem.W.mg_of X G q212) q215
 have F_Parts_init:FnK l.prog w K mg base 2 "Parts" G_Parts_init:=fnk_of Fu_Parts_init sc_Parts_init (fun cdv A outer s H E hr => d_Parts_init hr hb O_Parts_parts O_Parts_taken) bi_Parts_init (PySem.W.mg_of X G q76) ca_Parts ⟨q81,q216,q217,q82⟩
 have F_shown_place:FnD l.prog w K mg base 1 "shown_place" G_shown_place:=fnd_of Fu_shown_place sc_shown_place (fun cdv A outer s H E hr => d_shown_place hr hb) bi_shown_place (PySem.W.mg_of X G q221) q224
 have F_shown_piece:FnD l.prog w K mg base 2 "shown_piece" G_shown_piece:=fnd_of Fu_shown_piece sc_shown_piece (fun cdv A outer s H E hr => d_shown_piece hr hb (F_shown_place.mono (by decide:1 ≤ 1))) bi_shown_piece (PySem.W.mg_of X G q225) q228
 have F_shown_row:FnD l.prog w K mg base 3 "shown_row" G_shown_row:=fnd_of Fu_shown_row sc_shown_row (fun cdv A outer s H E hr => d_shown_row hr hb (F_shown_piece.mono (by decide:2 ≤ 2))) bi_shown_row (PySem.W.mg_of X G q229) q232
 have F_shown:FnD l.prog w K mg base 4 "shown" G_shown:=fnd_of Fu_shown sc_shown (fun cdv A outer s H E hr => d_shown hr hb (F_shown_row.mono (by decide:3 ≤ 3))) bi_shown (PySem.W.mg_of X G q233) q236
 have F_read:FnD l.prog w K mg base 8 "read" G_read:=fnd_of Fu_read sc_read (fun cdv A outer s H E hr => d_read hr hb (F_take_program.mono (by decide:5 ≤ 7)) (F_check.mono (by decide:7 ≤ 7)) (F_Parts_init.mono (by decide:2 ≤ 7)) (F_shown.mono (by decide:4 ≤ 7))) bi_read (PySem.W.mg_of X G q237) q240
 have FX_read:FnX l.prog w K mg base 8 "read" G_read GX_read:=fnx_of Fu_read sc_read (fun cdv A outer s H E hr => dx_read hr hb (F_take_program.mono (by decide:5 ≤ 7)) (F_check.mono (by decide:7 ≤ 7)) (F_Parts_init.mono (by decide:2 ≤ 7)) (F_shown.mono (by decide:4 ≤ 7)) X_NoProgram (FX_check.mono (by decide:7 ≤ 7))) bi_read (PySem.W.mg_of X G q237) q240
 have F_lw_refused:FnD l.prog w K mg base 9 "_law_refused" G_lw_refused:=fnd_of Fu_lw_refused sc_lw_refused (fun cdv A outer s H E hr => d_lw_refused hr hb X_FitError X_NoExample X_NoNumber X_NoProgram X_NothingFits X_Twice E_NoProgram KA_NoProgram_NoNumber_NothingFits_Twice_NoExample KO_NoProgram S_NoProgram_FitError S_NoProgram_NoProgram (FX_read.mono (by decide:8 ≤ 8))) bi_lw_refused (PySem.W.mg_of X G q241) q244
 have F_lw_right:FnD l.prog w K mg base 13 "_law_right" G_lw_right:=fnd_of Fu_lw_right sc_lw_right (fun cdv A outer s H E hr => d_lw_right hr hb (F_lw_read.mono (by decide:4 ≤ 12)) (F_lw_alike.mono (by decide:12 ≤ 12)) (F_read.mono (by decide:8 ≤ 12)) (F_lw_refused.mono (by decide:9 ≤ 12))) bi_lw_right (PySem.W.mg_of X G q245) q248
 have F_lw_look:FnD l.prog w K mg base 1 "_law_look" G_lw_look:=fnd_of Fu_lw_look sc_lw_look (fun cdv A outer s H E hr => d_lw_look hr hb) bi_lw_look (PySem.W.mg_of X G q249) q252
 have F_lw_place:FnD l.prog w K mg base 1 "_law_place" G_lw_place:=fnd_of Fu_lw_place sc_lw_place (fun cdv A outer s H E hr => d_lw_place hr hb) bi_lw_place (PySem.W.mg_of X G q253) q256
 have F_lw_text:FnD l.prog w K mg base 1 "_law_text" G_lw_text:=fnd_of Fu_lw_text sc_lw_text (fun cdv A outer s H E hr => d_lw_text hr hb) bi_lw_text (PySem.W.mg_of X G q257) q260
 have F_lw_word:FnD l.prog w K mg base 2 "_law_word" G_lw_word:=fnd_of Fu_lw_word sc_lw_word (fun cdv A outer s H E hr => d_lw_word hr hb (F_lw_text.mono (by decide:1 ≤ 1))) bi_lw_word (PySem.W.mg_of X G q261) q264
 have F_lw_piece:FnD l.prog w K mg base 3 "_law_piece" G_lw_piece:=fnd_of Fu_lw_piece sc_lw_piece (fun cdv A outer s H E hr => d_lw_piece hr hb (F_lw_place.mono (by decide:1 ≤ 2)) (F_lw_word.mono (by decide:2 ≤ 2))) bi_lw_piece (PySem.W.mg_of X G q265) q268
 have F_lw_row:FnD l.prog w K mg base 4 "_law_row" G_lw_row:=fnd_of Fu_lw_row sc_lw_row (fun cdv A outer s H E hr => d_lw_row hr hb (F_lw_piece.mono (by decide:3 ≤ 3))) bi_lw_row (PySem.W.mg_of X G q269) q272
 have F_lw_program:FnD l.prog w K mg base 5 "_law_program" G_lw_program:=fnd_of Fu_lw_program sc_lw_program (fun cdv A outer s H E hr => d_lw_program hr hb (F_lw_look.mono (by decide:1 ≤ 4)) (F_lw_row.mono (by decide:4 ≤ 4))) bi_lw_program (PySem.W.mg_of X G q273) q276
 have F_lw_odd:FnD l.prog w K mg base 1 "_law_odd" G_lw_odd:=fnd_of Fu_lw_odd sc_lw_odd (fun cdv A outer s H E hr => d_lw_odd hr hb) bi_lw_odd (PySem.W.mg_of X G q277) q280
 have F_lw_cell:FnD l.prog w K mg base 1 "_law_cell" G_lw_cell:=fnd_of Fu_lw_cell sc_lw_cell (fun cdv A outer s H E hr => d_lw_cell hr hb) bi_lw_cell (PySem.W.mg_of X G q281) q284
 have F_lw_other:FnD l.prog w K mg base 1 "_law_other" G_lw_other:=fnd_of Fu_lw_other sc_lw_other (fun cdv A outer s H E hr => d_lw_other hr hb) bi_lw_other (PySem.W.mg_of X G q285) q288
 have F_lw_spoiled:FnD l.prog w K mg base 2 "_law_spoiled" G_lw_spoiled:=fnd_of Fu_lw_spoiled sc_lw_spoiled (fun cdv A outer s H E hr => d_lw_spoiled hr hb (F_lw_other.mono (by decide:1 ≤ 1))) bi_lw_spoiled (PySem.W.mg_of X G q289) q292
 exact fn_f Fu_law sc_law G_law _ (fun _ _ _ h => runG_len h) (fun cdv A outer s H E hr => d_law hr hb (F_lw_shown.mono (by decide:2 ≤ 13)) (F_lw_right.mono (by decide:13 ≤ 13)) (F_lw_program.mono (by decide:5 ≤ 13)) (F_lw_odd.mono (by decide:1 ≤ 13)) (F_lw_cell.mono (by decide:1 ≤ 13)) (F_lw_spoiled.mono (by decide:2 ≤ 13))) (fun _ _ _ _ h => runG_runs h)
end L3
open PySem PySem.W PyProof.Rows
namespace PySem.Challenge.cw_byexample_k23_words_spoiled_holds
def tw5764474672636329522:=()
def tw14989705386062203501:=()
def tw10236468675198868568:=()
def tw6171265917751123373:=()
def tw5280027750864769989:=()
def tw4610302644529398744:=()
def tw5648773579423010947:=()
def tw17205768948493661489:=()
def tw15277272730315089937:=()
def tw18181249685127944176:=()
def tw16895636037040325454:=()
def tw9114726909243255154:=()
def tw11658349284658669395:=()
def tw10653505819106280583:=()
def tw7042261817432562857:=()
def tw7662339608402259266:=()
def tw9745785123357555531:=()
def tw9308631670506922572:=()
def tw11013695592815298722:=()
def tw16542917726028491197:=()
def tw16175889074797763184:=()
def tw7883776421283356225:=()
def tw4387182832395972169:=()
def tw4113371811955788208:=()
def tw7652380235944142869:=()
def tw6291284855739264902:=()
def tw11668771220227878544:=()
def tw4155904434207490126:=()
def tw662727442337995453:=()
def tw6872020920284568502:=()
def tw2165865331866581561:=()
def tw9470626369275858143:=()
def tw7659079668171611015:=()
def tw10910114281720977058:=()
def tw17881779729346232543:=()
def tw16439398368194347280:=()
def tw10246569514218800923:=()
def tw2719675238584672865:=()
def tw7507245728899337099:=()
def tw10317311039063019924:=()
def tw15509753183807823301:=()
def tw18430378489276594861:=()
def tw16275011510553465945:=()
def tw6831345432800711434:=()
def tw9713531529606434523:=()
def tw15028042094126795204:=()
def tw12499987719371078810:=()
def tw14665707726506329961:=()
def tw2648168578183957937:=()
def tw3497014646321084348:=()
def tw12686930464095205370:=()
def tw18129538863933739827:=()
def tw7996090791962364405:=()
def tw10574766234139687515:=()
def tw16603647095718972650:=()
def tw5729603687673584873:=()
def tw6946035003093870098:=()
def tw3580055178637241902:=()
def tw2289374177376696661:=()
def tw5378136766789275456:=()
def tw1809317981454105116:=()
def tw2203238850842345330:=()
def tw1736702271722681556:=()
def tw8014009479283878620:=()
def tw7601792875631491256:=()
def tw4510872298526709053:=()
def tw10571527785949937604:=()
def tw7974135989856843527:=()
def tw14853456731797722521:=()
def tw5858124376439188435:=()
def tw4609055079558340528:=()
def tw11529371896594852293:=()
def tw9504383780285449354:=()
def tw871652155833833519:=()
def tw18409190708955188857:=()
def tw8893578683453070326:=()
def tw17240101700708224271:=()
def tw10376546422940849057:=()
def tw16208948664907265763:=()
def tw6728307629239087603:=()
def tw4470962357811154422:=()
def tw5535923868436676411:=()
def tw372046433647321014:=()
def tw3871010895156290461:=()
def tw4111929015827879131:=()
def tw4682119614370570766:=()
def tw7026968658697988624:=()
def tw3676574915676108110:=()
def tw3778092502732715354:=()
def tw13657633967122375227:=()
def tw657692465486326717:=()
def tw15358891883135204120:=()
def tw5737955518440502848:=()
def tw18389361278257171310:=()
def tw2520454816398490458:=()
def tw646241373488409843:=()
def tw17883508365166272097:=()
def tw385754193192519492:=()
def tw6805580180253055369:=()
def tw4740588542235256790:=()
def tw3202602621668763832:=()
def tw3621734321991128507:=()
def tw9738794650213515936:=()
def tw9329650088289901097:=()
def tw18299693430230129128:=()
def tw11796623778370539426:=()
def tw11464646425622419009:=()
def tw339408437517561057:=()
def tw7688654999394809342:=()
def tw16168850850300954912:=()
def tw5259012748540813821:=()
def tw13114186295104849778:=()
def tw7781801864687403714:=()
def tw13421845622662244614:=()
def tw1201813651569505096:=()
def tw10285842556909406810:=()
def tw14114407131327138620:=()
def tw1586308165006045946:=()
def tw5430364569815308638:=()
def tw15688028267015666822:=()
def tw1903217609803642289:=()
def tw4444845150377303519:=()
def tw16271764972944916767:=()
def tw14969412590809165527:=()
def tw11583690033584391098:=()
def tw4587668138342872220:=()
def tw11152145581827526968:=()
def tw11204394377755154453:=()
def tw6038652531651969047:=()
def tw13575862566241719878:=()
def tw3496003527335905791:=()
def tw9431333764932733947:=()
def tw16194454028765309913:=()
def tw2893486768420072008:=()
def tw18418231301531112730:=()
def tw8258177454373069607:=()
def tw11414885985726622806:=()
def tw6593517804743798524:=()
def tw8794852472253827633:=()
def tw5994887138380039597:=()
def tw6055570921781434185:=()
def tw14497691919809087225:=()
def tw14874859146450351204:=()
def tw869550755777654709:=()
def tw169080129064148744:=()
def tw3063524969689206090:=()
def tw8469435063238486130:=()
def tw7322280965828156727:=()
def tw7567281533634432281:=()
def tw2722402823259367681:=()
def tw10553418285731280983:=()
def tw6661918231877983127:=()
def tw3362568537679688399:=()
def tw5608437078730669453:=()
def tw1770144617679607704:=()
def tw5825011048390823686:=()
def tw14197096403863844211:=()
def tw12945510642088853170:=()
def tw10927941469474282995:=()
def tw8307893209192604610:=()
def tw16385647689115761690:=()
def tw3161278164710864411:=()
def tw11737635831482105298:=()
def tw10590401325510580871:=()
def tw14930024212541532331:=()
def tw7527013772683502486:=()
def tw3090453441942980515:=()
def tw8409642855872918417:=()
def tw3256578502535925171:=()
def tw17358561215161185091:=()
def tw12535700133651318867:=()
def tw8810725907896268177:=()
def tw5942702495402362099:=()
def tw2265975291807148962:=()
def tw1723605176093902653:=()
def tw4380358319670319913:=()
def tw1680734646944853989:=()
def tw6898147627689070312:=()
def tw15289344379829060379:=()
def tw1147727669759956690:=()
def tw906711142927452156:=()
def tw13767293130394749639:=()
def tw7036487737992209924:=()
def tw8123274426873018320:=()
def tw6154230462902797391:=()
def tw13064963890265046521:=()
def tw4879523415566462015:=()
def tw6346575059371962941:=()
def tw8738262577498105695:=()
def tw1255100660312908327:=()
def tw17038300752564632219:=()
def tw943246595232930651:=()
def tw4023542570070012331:=()
def tw8749059707756161517:=()
def tw7160351790487974949:=()
def tw12375544224288950153:=()
def tw17160988829690252224:=()
def tw3760094962987321293:=()
def tw421825292653795511:=()
def tw17599454285511183392:=()
def tw6492354000826182973:=()
def tw17385703621006653709:=()
def tw4902961531894429075:=()
def tw18046919789002782076:=()
def tw3166019604291401337:=()
def tw7047121026065495355:=()
def tw8872687672221358073:=()
def tw9447421515248146169:=()
def tw5621656088651562120:=()
def tw10896759410098421407:=()
def tw8886089333083332941:=()
def tw3056679810347635505:=()
def tw6462406147117671270:=()
def tw5456823749459788424:=()
def tw4676466120758289484:=()
def tw14047013074621810398:=()
def tw7156916127286657355:=()
def tw9106077316227017149:=()
def tw16685355921248826958:=()
def tw2664443765975318497:=()
def tw12210721612370995351:=()
def tw17613565105131155161:=()
def tw16288037786329324791:=()
def tw11437188924438047312:=()
def tw12206081068941032900:=()
def tw7524464967560860005:=()
def tw10180280532065312832:=()
def tw15905178923911806439:=()
def tw173179978715033236:=()
def tw17023125103974705893:=()
def tw1344503784413058061:=()
def tw5172329654212100646:=()
def tw9749773615864908344:=()
def tw14678369925889115697:=()
def tw5990061415087789595:=()
def tw5113138590686584941:=()
def tw6194824627480179683:=()
def tw512587778765945610:=()
def tw4625272242847842326:=()
def tw4730015132076261343:=()
def tw7262982861075281856:=()
def tw13607293784304727247:=()
def tw1197563144246642783:=()
def tw3678098337006598053:=()
def tw15909009158195399638:=()
def tw15242590014693202930:=()
def tw7847332708545095478:=()
def tw5514709205612630095:=()
def tw8247892103741171115:=()
def tw5616336285021734118:=()
def tw10275773372734894967:=()
def tw16775022595340415446:=()
def tw193476861941469348:=()
def tw1823688747544652271:=()
def tw4004944952881282524:=()
def tw1073453170014104550:=()
def tw16142499458456700334:=()
def tw3648993770316486918:=()
def tw14538504639044496499:=()
def tw16037682379781408840:=()
def tw12143715034936165410:=()
def tw2393590566406803232:=()
def tw6234143621608634779:=()
def tw14560326869658262430:=()
def tw5866075527234124862:=()
def tw8492554024606033231:=()
def tw11924746593100503702:=()
def tw5270290886453841422:=()
def tw2620372752493602497:=()
def tw5832501659553775276:=()
def tw11148422149290956930:=()
def tw6957355831203230212:=()
def tw9243432187021252289:=()
def tw16999241355471232516:=()
def tw1468833450589337748:=()
def tw11826302422178374422:=()
def tw14378340955472308044:=()
def tw2183306295892089027:=()
def tw3878852483417706371:=()
def tw1006341551761689863:=()
def tw1630138415813666546:=()
def tw5952517829782555194:=()
def tw8553835882670718091:=()
def tw7931558779577106573:=()
def tw1801887629475972213:=()
def tw12902395396272946002:=()
def tw8606517414278495348:=()
def tw9056836106030583149:=()
def tw7096962410995611312:=()
def tw9417916382585922273:=()
def tw1477655900818805406:=()
def tw6400660245028649502:=()
def tw2946055297634075603:=()
def tw11696415689514886805:=()
def tw17663089543005332327:=()
def tw2594513414279470238:=()
def tw12620981548881613166:=()
def tw9354721077538490854:=()
def tw10186079198573673228:=()
def tw14809727585256949279:=()
def tw13702758832469727604:=()
def tw16278032424124503723:=()
def tw7794012106242265300:=()
def tw1879363203339055323:=()
def tw3533109957470822800:=()
def tw11481059086099022001:=()
def tw14122809567347559437:=()
def tw10238320084103260006:=()
def tw8881944826437867671:=()
def tw4690837442255333344:=()
def tw15649939703173711778:=()
def tw14312752521534386937:=()
def tw13503710744428286054:=()
def tw9880488886172660538:=()
def tw7698931211081916055:=()
def tw7350724080167539228:=()
def tw49256803360709807:=()
def tw726496824079273461:=()
def tw14080294920695834336:=()
def tw7000910047616349873:=()
def tw4202775284938964241:=()
def tw2038097354718399349:=()
def tw1363986685033403042:=()
def tw5412752928941066596:=()
def tw8671798031645958361:=()
def tw2667243828201525515:=()
def tw7139531024892296833:=()
def tw2248621888529355672:=()
def tw6338703687907283147:=()
def tw16734413748171191726:=()
def tw6926482381777929829:=()
def tw1743592453181191027:=()
def tw18343966800056582764:=()
def tw8065949460271797672:=()
def tw3721961990123944243:=()
def tw11369276273335860519:=()
def tw13605230282995199065:=()
def tw454224352452949588:=()
def tw2817145153577603560:=()
def tw17165160864505115836:=()
def tw6855067149753631711:=()
def tw3420669204986723739:=()
def tw13444705492566651621:=()
def tw555151043951475102:=()
def tw5632289147737063849:=()
def tw7303742659207372137:=()
def tw14738407792395824574:=()
def tw5447038517346018727:=()
def tw4162925351381027224:=()
def tw2024678261985187215:=()
def tw4556485373339065515:=()
def tw948849322945939592:=()
def tw4560819604531192818:=()
def tw10688756385617453550:=()
def tw12496597290974487173:=()
def tw7288866973808049242:=()
def tw13185582160169528824:=()
def tw3497030338558203642:=()
def tw776807144585025190:=()
def tw3962856412077672171:=()
def tw3644570264240666156:=()
def tw13068252156866715649:=()
def tw16668578177656120816:=()
def tw16201311784869651654:=()
def tw8249890526786901909:=()
def tw10330032861153837351:=()
def tw1509897946659021502:=()
def tw2392672344506770452:=()
def tw12064557628849255343:=()
def tw16099849988976556626:=()
def tw9400585705284636522:=()
def tw10750711107440689804:=()
def tw761694916936559056:=()
def tw11238370295571116370:=()
def tw16958013300296410823:=()
def tw5501412421203986710:=()
def tw17482533020368505005:=()
def tw13143002817910918633:=()
def tw1496833488317461:=()
def tw11172868617990934097:=()
def tw14043335878743038389:=()
def tw7591385784578270748:=()
def tw12939730708186474210:=()
def tw15127162548810949139:=()
def tw4682261761359387244:=()
def tw17323579627635593383:=()
def tw2332336055256639878:=()
def tw14351242225593153167:=()
def tw8969981002573593211:=()
def tw8250587337149909241:=()
def tw3778247259188173283:=()
def tw653791006189118020:=()
def tw17336097802390604626:=()
def tw8477954195640253940:=()
def tw7202374558359899091:=()
def tw1994399712687263151:=()
def tw8642263163507112106:=()
def tw14828675443689044246:=()
def tw598723382996217718:=()
def tw16188958730182895826:=()
def tw16266064421562309206:=()
def tw8507473149973795063:=()
def tw17268208108511848508:=()
def tw12427536333002817176:=()
def tw7396861914743757068:=()
def tw10476653857135289579:=()
def tw4678535393571351787:=()
def tw11818983728641453798:=()
def tw13152288767101431:=()
def tw3023785112133482590:=()
def tw15703350103390745700:=()
def tw7138415680086590564:=()
end PySem.Challenge.cw_byexample_k23_words_spoiled_holds
set_option Elab.async true in
set_option maxRecDepth 100000 in
set_option maxHeartbeats 0 in
theorem PySem.Challenge.cw_byexample_k23_words_spoiled_holds : PySem.Challenge.rw_byexample_k23_words_spoiled.Holds := by
 w_on; o_law; k_head; (case hw => w_witness2)
 k_fill
 refine L3.walk_f (l:=PySem.Challenge.rw_byexample_k23_words_spoiled) (n:=63) (k:=14) (x:="_law_script") (G:=L3.G_law) rfl (by decide) rfl ⟨rfl,by decide,by decide⟩ (fun w h Y => PySem.W.kIn_of Y) ?F L3.law_true
 case F =>
  intro w mg fa h KX G hmg
  refine' L3.all_mk KX G hmg ?q6 ?q5 ?q11 ?q10 ?q19 ?q18 ?q21 ?q23 ?q30 ?q29 ?q36 ?q35 ?q55 ?q54 ?q41 ?q45 ?q49 ?q53 ?q61 ?q62 ?q63 ?q64 ?q65 ?q66 ?q67 ?q68 ?q69 ?q70 ?q71 ?q72 ?q73 ?q74 ?q75 ?q76 ?q77 ?q78 ?q79 ?q80 ?q81 ?q82 ?q83 ?q84 ?q85 ?q86 ?q87 ?q88 ?q89 ?q90 ?q91 ?q92 ?q93 ?q94 ?q95 ?q96 ?q97 ?q98 ?q99 ?q100 ?q101 ?q102 ?q103 ?q104 ?q105 ?q106 ?q107 ?q108 ?q109 ?q110 ?q111 ?q112 ?q113 ?q114 ?q115 ?q116 ?q117 ?q118 ?q119 ?q120 ?q121 ?q122 ?q123 ?q124 ?q125 ?q126 ?q127 ?q128 ?q129 ?q130 ?q131 ?q132 ?q133 ?q134 ?q135 ?q136 ?q137 ?q138 ?q139 ?q140 ?q141 ?q142 ?q143 ?q144 ?q145 ?q146 ?q147 ?q148 ?q149 ?q150 ?q151 ?q152 ?q153 ?q154 ?q155 ?q156 ?q157 ?q158 ?q159 ?q160 ?q161 ?q162 ?q163 ?q164 ?q165 ?q166 ?q167 ?q168 ?q169 ?q170 ?q171 ?q172 ?q173 ?q174 ?q175 ?q176 ?q177 ?q178 ?q179 ?q180 ?q181 ?q182 ?q183 ?q184 ?q185 ?q186 ?q187 ?q188 ?q189 ?q190 ?q191 ?q192 ?q193 ?q194 ?q195 ?q196 ?q197 ?q198 ?q199 ?q200 ?q201 ?q202 ?q203 ?q204 ?q205 ?q206 ?q207 ?q208 ?q209 ?q210 ?q211 ?q212 ?q213 ?q214 ?q215 ?q216 ?q217 ?q218 ?q219 ?q220 ?q221 ?q222 ?q223 ?q224 ?q225 ?q226 ?q227 ?q228 ?q229 ?q230 ?q231 ?q232 ?q233 ?q234 ?q235 ?q236 ?q237 ?q238 ?q239 ?q240 ?q241 ?q242 ?q243 ?q244 ?q245 ?q246 ?q247 ?q248 ?q249 ?q250 ?q251 ?q252 ?q253 ?q254 ?q255 ?q256 ?q257 ?q258 ?q259 ?q260 ?q261 ?q262 ?q263 ?q264 ?q265 ?q266 ?q267 ?q268 ?q269 ?q270 ?q271 ?q272 ?q273 ?q274 ?q275 ?q276 ?q277 ?q278 ?q279 ?q280 ?q281 ?q282 ?q283 ?q284 ?q285 ?q286 ?q287 ?q288 ?q289 ?q290 ?q291 ?q292 ?q293 ?q294 ?q295 ?q296
  (case q6 => k_is)
  (case q5 => k_is)
  (case q11 => k_is)
  (case q10 => k_is)
  (case q19 => k_is)
  (case q18 => k_is)
  (case q21 => k_is)
  (case q23 => k_is)
  (case q30 => k_is)
  (case q29 => k_is)
  (case q36 => k_is)
  (case q35 => k_is)
  (case q55 => k_is)
  (case q54 => k_is)
  (case q41 => k_is)
  (case q45 => k_is)
  (case q49 => k_is)
  (case q53 => k_is)
  (case q61 => k_is)
  (case q62 => k_is)
  (case q63 => exact ⟨⟨_,_,rfl,rfl⟩,⟨_,_,rfl,rfl⟩,⟨_,_,rfl,rfl⟩,⟨_,_,rfl,rfl⟩,trivial⟩)
  (case q64 => (first | rfl | decide))
  (case q65 => k_is)
  (case q66 => k_is)
  (case q67 => k_is)
  (case q68 => k_is)
  (case q69 => k_is)
  (case q70 => k_is)
  (case q71 => k_is)
  (case q72 => k_is)
  (case q73 => k_is)
  (case q74 => k_is)
  (case q75 => k_is)
  (case q76 => k_is)
  (case q77 => k_is)
  (case q78 => k_is)
  (case q79 => k_is)
  (case q80 => k_is)
  (case q81 => k_is)
  (case q82 => k_is)
  (case q83 => k_is)
  (case q84 => k_is)
  (case q85 => k_is)
  (case q86 => k_exc)
  (case q87 => k_is)
  (case q88 => k_exc)
  (case q89 => k_is)
  (case q90 => k_exc)
  (case q91 => k_is)
  (case q92 => k_exc)
  (case q93 => k_is)
  (case q94 => k_exc)
  (case q95 => k_is)
  (case q96 => k_exc)
  (case q97 => k_is)
  (case q98 => k_is)
  (case q99 => k_is)
  (case q100 => k_is)
  (case q101 => k_is)
  (case q102 => k_is)
  (case q103 => kernel_rfl)
  (case q104 => kernel_rfl)
  (case q105 => k_is)
  (case q106 => k_is)
  (case q107 => k_is)
  (case q108 => k_is)
  (case q109 => k_is)
  (case q110 => k_is)
  (case q111 => k_is)
  (case q112 => k_is)
  (case q113 => k_is)
  (case q114 => k_is)
  (case q115 => k_is)
  (case q116 => k_is)
  (case q117 => k_is)
  (case q118 => k_is)
  (case q119 => k_is)
  (case q120 => k_is)
  (case q121 => k_is)
  (case q122 => k_is)
  (case q123 => k_is)
  (case q124 => k_is)
  (case q125 => k_is)
  (case q126 => k_is)
  (case q127 => k_is)
  (case q128 => k_is)
  (case q129 => k_is)
  (case q130 => k_is)
  (case q131 => k_is)
  (case q132 => k_is)
  (case q133 => k_is)
  (case q134 => k_is)
  (case q135 => k_is)
  (case q136 => k_is)
  (case q137 => k_is)
  (case q138 => k_is)
  (case q139 => k_is)
  (case q140 => k_is)
  (case q141 => k_is)
  (case q142 => k_is)
  (case q143 => k_is)
  (case q144 => k_is)
  (case q145 => k_is)
  (case q146 => k_is)
  (case q147 => k_is)
  (case q148 => k_is)
  (case q149 => k_is)
  (case q150 => k_is)
  (case q151 => k_is)
  (case q152 => k_is)
  (case q153 => k_is)
  (case q154 => k_is)
  (case q155 => k_is)
  (case q156 => k_is)
  (case q157 => k_is)
  (case q158 => k_is)
  (case q159 => k_is)
  (case q160 => k_is)
  (case q161 => k_is)
  (case q162 => k_is)
  (case q163 => k_is)
  (case q164 => k_is)
  (case q165 => k_is)
  (case q166 => k_is)
  (case q167 => k_is)
  (case q168 => k_is)
  (case q169 => k_is)
  (case q170 => k_is)
  (case q171 => k_is)
  (case q172 => k_is)
  (case q173 => k_is)
  (case q174 => k_is)
  (case q175 => k_is)
  (case q176 => k_is)
  (case q177 => k_is)
  (case q178 => k_is)
  (case q179 => k_is)
  (case q180 => k_is)
  (case q181 => k_is)
  (case q182 => k_is)
  (case q183 => k_is)
  (case q184 => k_is)
  (case q185 => k_is)
  (case q186 => k_is)
  (case q187 => k_is)
  (case q188 => k_is)
  (case q189 => k_is)
  (case q190 => k_is)
  (case q191 => k_is)
  (case q192 => k_is)
  (case q193 => k_is)
  (case q194 => k_is)
  (case q195 => k_is)
  (case q196 => k_is)
  (case q197 => k_is)
  (case q198 => k_is)
  (case q199 => k_is)
  (case q200 => k_is)
  (case q201 => k_is)
  (case q202 => k_is)
  (case q203 => k_is)
  (case q204 => k_is)
  (case q205 => k_is)
  (case q206 => k_is)
  (case q207 => k_is)
  (case q208 => k_is)
  (case q209 => k_is)
  (case q210 => k_is)
  (case q211 => k_is)
  (case q212 => k_is)
  (case q213 => k_is)
  (case q214 => k_is)
  (case q215 => k_is)
  (case q216 => k_is)
  (case q217 => k_is)
  (case q218 => k_is)
  (case q219 => k_is)
  (case q220 => k_is)
  (case q221 => k_is)
  (case q222 => k_is)
  (case q223 => k_is)
  (case q224 => k_is)
  (case q225 => k_is)
  (case q226 => k_is)
  (case q227 => k_is)
  (case q228 => k_is)
  (case q229 => k_is)
  (case q230 => k_is)
  (case q231 => k_is)
  (case q232 => k_is)
  (case q233 => k_is)
  (case q234 => k_is)
  (case q235 => k_is)
  (case q236 => k_is)
  (case q237 => k_is)
  (case q238 => k_is)
  (case q239 => k_is)
  (case q240 => k_is)
  (case q241 => k_is)
  (case q242 => k_is)
  (case q243 => k_is)
  (case q244 => k_is)
  (case q245 => k_is)
  (case q246 => k_is)
  (case q247 => k_is)
  (case q248 => k_is)
  (case q249 => k_is)
  (case q250 => k_is)
  (case q251 => k_is)
  (case q252 => k_is)
  (case q253 => k_is)
  (case q254 => k_is)
  (case q255 => k_is)
  (case q256 => k_is)
  (case q257 => k_is)
  (case q258 => k_is)
  (case q259 => k_is)
  (case q260 => k_is)
  (case q261 => k_is)
  (case q262 => k_is)
  (case q263 => k_is)
  (case q264 => k_is)
  (case q265 => k_is)
  (case q266 => k_is)
  (case q267 => k_is)
  (case q268 => k_is)
  (case q269 => k_is)
  (case q270 => k_is)
  (case q271 => k_is)
  (case q272 => k_is)
  (case q273 => k_is)
  (case q274 => k_is)
  (case q275 => k_is)
  (case q276 => k_is)
  (case q277 => k_is)
  (case q278 => k_is)
  (case q279 => k_is)
  (case q280 => k_is)
  (case q281 => k_is)
  (case q282 => k_is)
  (case q283 => k_is)
  (case q284 => k_is)
  (case q285 => k_is)
  (case q286 => k_is)
  (case q287 => k_is)
  (case q288 => k_is)
  (case q289 => k_is)
  (case q290 => k_is)
  (case q291 => k_is)
  (case q292 => k_is)
  (case q293 => k_is)
  (case q294 => k_is)
  (case q295 => k_is)
  (case q296 => k_is)
