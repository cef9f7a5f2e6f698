import PyProof.Rows.All
import Wide.All
import OpenK.AllK
import Wide.FinOn
import Lean
import PyProof.EqAt
import PyProof.EqKinds
import PyProof.TupleCall
import PyProof.NeKinds
import PySem.Challenge.RW_byexample_k03_all_places
set_option Elab.async false
set_option linter.all false
set_option maxRecDepth 100000
/-! THE HAND LAYER, for ints, bools, texts, own classes, LISTS and tuples (index, slices, in, append, pop ..), calls, loops. Paste it whole ahead of your own text; what your proof does not reach may be deleted. -/
namespace L2
open PySem PySem.Spec PyProof.Rows

/-- a key: an int or a str -/
abbrev Key := Sum Int Str
def keyIs : Key → Value → Bool
  | .inl k, v => Value.isInt k v
  | .inr x, v => Value.isStrOf x v
def keyH (w : World) : Key → Int
  | .inl k => hashInt k
  | .inr x => hashStr w x
theorem keyIs_shape : ∀ {k : Key} {v : Value}, keyIs k v = true → (∃ i t, k = Sum.inl i ∧ v = Value.int i t) ∨ (∃ x t, k = Sum.inr x ∧ v = Value.str x t)
  | .inl i, v, h => by
    obtain ⟨t, e⟩ := Value.isInt_shape (k := i) (v := v) h
    exact .inl ⟨i, t, rfl, e⟩
  | .inr x, v, h => by
    obtain ⟨t, e⟩ := Value.isStrOf_shape (x := x) (v := v) h
    exact .inr ⟨x, t, rfl, e⟩
theorem keyIs_int (i : Int) (t : Tok) : keyIs (.inl i) (.int i t) = true := by simp [keyIs, Value.isInt]
theorem keyIs_str (x : Str) (t : Tok) : keyIs (.inr x) (.str x t) = true := by simp [keyIs, Value.isStrOf]
theorem key_ll (a b : Int) : decide ((Sum.inl a : Key) = Sum.inl b) = (a == b) := by
  by_cases e : a = b
  · subst e; simp
  · have h : ¬ (Sum.inl a : Key) = Sum.inl b := fun q => e (Sum.inl.inj q)
    rw [decide_eq_false h]
    exact (beq_eq_false_iff_ne.mpr e).symm
theorem key_rr (a b : Str) : decide ((Sum.inr a : Key) = Sum.inr b) = decide (a = b) := by
  by_cases e : a = b
  · subst e; simp
  · have h : ¬ (Sum.inr a : Key) = Sum.inr b := fun q => e (Sum.inr.inj q)
    rw [decide_eq_false h, decide_eq_false e]
theorem key_lr (a : Int) (b : Str) : decide ((Sum.inl a : Key) = Sum.inr b) = false := decide_eq_false (fun q => nomatch q)
theorem key_rl (a : Str) (b : Int) : decide ((Sum.inr a : Key) = Sum.inl b) = false := decide_eq_false (fun q => nomatch q)

def mixKind (prog : Program) (w : World) : PySem.KeyKind prog w Key where
  is := keyIs
  hash := keyH w
  inj := fun v a b ha hb => by
    rcases keyIs_shape ha with ⟨i, t, rfl, rfl⟩ | ⟨x, t, rfl, rfl⟩
    · rcases keyIs_shape hb with ⟨j, u, rfl, e⟩ | ⟨y, u, rfl, e⟩
      · injection e with e1 _; rw [e1]
      · exact nomatch e
    · rcases keyIs_shape hb with ⟨j, u, rfl, e⟩ | ⟨y, u, rfl, e⟩
      · exact nomatch e
      · injection e with e1 _; rw [e1]
  byValue := fun k v h => by
    rcases keyIs_shape h with ⟨i, t, rfl, rfl⟩ | ⟨x, t, rfl, rfl⟩ <;> rfl
  pyHash := fun hv h => by
    rcases keyIs_shape hv with ⟨i, t, rfl, rfl⟩ | ⟨x, t, rfl, rfl⟩
    · exact wpAny_pyHash_int h
    · exact wpAny_pyHash_str h
  eqBool := fun hu hv h => by
    rcases keyIs_shape hu with ⟨i, t, rfl, rfl⟩ | ⟨x, t, rfl, rfl⟩
    · rcases keyIs_shape hv with ⟨j, u, rfl, rfl⟩ | ⟨y, u, rfl, rfl⟩
      · rw [key_ll] at h; exact wpAny_eqBool_int h
      · rw [key_lr] at h; exact SeqAt.EqAt.int_str i t y u _ _ _ _ h
    · rcases keyIs_shape hv with ⟨j, u, rfl, rfl⟩ | ⟨y, u, rfl, rfl⟩
      · rw [key_rl] at h; exact SeqAt.EqAt.str_int x t j u _ _ _ _ h
      · rw [key_rr] at h; exact wpAny_eqBool_str h
  «strs» := fun k x t v h => by
    rcases keyIs_shape h with ⟨i, u, rfl, e⟩ | ⟨y, u, rfl, e⟩
    · exact nomatch e
    · injection e with e1 _
      subst e1
      cases v <;> rfl

theorem mixKind_is (prog : Program) (w : World) (k : Key) (v : Value) : (mixKind prog w).is k v = keyIs k v := rfl
theorem mixKind_int (prog : Program) (w : World) (i : Int) (t : Tok) : (mixKind prog w).is (.inl i) (.int i t) = true := keyIs_int i t
theorem mixKind_str (prog : Program) (w : World) (x : Str) (t : Tok) : (mixKind prog w).is (.inr x) (.str x t) = true := keyIs_str x t
end L2

namespace L2
open PySem PySem.Spec PyProof.Rows

/-- a value, without the heap -/
inductive V where
  | non | bl (b : Bool) | int (i : Int) | str (x : Str) | byt (b : Array UInt8) | flt (b : UInt64) | ref (a : Addr) | ty (n : String)
  deriving DecidableEq

def RelV : V → Value → Prop
  | .non, u => u = Value.none
  | .bl b, u => u = Value.bool b
  | .int i, u => ∃ t, u = Value.int i t
  | .str x, u => ∃ t, u = Value.str x t
  | .byt b, u => ∃ t, u = Value.bytes b t
  | .flt b, u => ∃ t, u = Value.float b t
  | .ref a, u => u = Value.ref a
  | .ty n, u => u = Value.type n

abbrev Vals : List V → List Value → Prop := Paired RelV
theorem Vals.length {xs : List V} {us : List Value} (r : Vals xs us) : xs.length = us.length := Paired.length r
theorem Vals.get : ∀ {xs : List V} {us : List Value} {i : Nat} {x : V}, Vals xs us → xs[i]? = some x → ∃ u, us[i]? = some u ∧ RelV x u
  | _, _, _, _, .nil, e => by simp at e
  | _, _, 0, _, .cons r _, e => by simp at e; subst e; exact ⟨_, rfl, r⟩
  | _, _, i + 1, x, .cons _ t, e => by
    obtain ⟨u, h1, h2⟩ := Vals.get (i := i) (x := x) t (by simpa using e)
    exact ⟨u, by simpa using h1, h2⟩
theorem Vals.set {x : V} {u : Value} (r : RelV x u) : ∀ {xs : List V} {us : List Value} (i : Nat), Vals xs us → Vals (xs.set i x) (us.set i u)
  | _, _, _, .nil => .nil
  | _, _, 0, .cons _ t => .cons r t
  | _, _, i + 1, .cons q t => .cons q (Vals.set r i t)
theorem Vals.append : ∀ {xs ys : List V} {us ws : List Value}, Vals xs us → Vals ys ws → Vals (xs ++ ys) (us ++ ws)
  | _, _, _, _, .nil, s => s
  | _, _, _, _, .cons r t, s => .cons r (Vals.append t s)
theorem Vals.take : ∀ {xs : List V} {us : List Value} (n : Nat), Vals xs us → Vals (xs.take n) (us.take n)
  | _, _, 0, _ => .nil
  | _, _, _ + 1, .nil => .nil
  | _, _, n + 1, .cons r t => .cons r (Vals.take n t)
theorem Vals.drop : ∀ {xs : List V} {us : List Value} (n : Nat), Vals xs us → Vals (xs.drop n) (us.drop n)
  | _, _, 0, r => r
  | _, _, _ + 1, .nil => .nil
  | _, _, n + 1, .cons _ t => Vals.drop n t
theorem Vals.none_of : ∀ {xs : List V} {us : List Value} {i : Nat}, Vals xs us → xs[i]? = none → us[i]? = none := fun {xs us i} r e => by
  have h1 := r.length
  have h2 : xs.length ≤ i := List.getElem?_eq_none_iff.mp e
  exact List.getElem?_eq_none_iff.mpr (by omega)

def RelO : Option V → Option Value → Prop
  | some v, some u => RelV v u
  | none, none => True
  | _, _ => False
def KV {κ : Type} : List (κ × V) → List (κ × Value) → Prop := Paired fun (p : κ × V) (q : κ × Value) => p.1 = q.1 ∧ RelV p.2 q.2

/-- a key of a dict (00_mix): an int or a text -/
def kV : Key → V
  | .inl i => .int i
  | .inr x => .str x

/-- what stands at a tracked address -/
inductive HO where
  /-- a list -/
  | lst (xs : List V)
  /-- a tuple (never changes) -/
  | tup (xs : List V)
  /-- a dict whose keys are ints and texts; one whose keys are tuples of ints and texts (the empty one is both) -/
  | dK (kvs : List (Key × V)) | dT (kvs : List (List Key × V))
  /-- a set of ints: its members, its size -/
  | set (S : Int → Bool) (n : Nat)
  /-- an instance of the class at C, its dict at dx, its attributes -/
  | ins (C dx : Addr) (fs : List (Str × V))
  /-- the dict of the instance at x -/
  | own (x : Addr)
  /-- the dict of an exception -/
  | xd (fs : List (Str × V))
  /-- a bound method, f of x -/
  | met (f x : Addr)
  /-- a range object lo, lo + 1, .. below hi -/
  | rng (lo hi : Int)
  /-- a thing that is known to the object (the script; a dict while a loop walks it): read, never written while it is so -/
  | frz (o : Obj) (u : HO)
  /-- a code object's table -/
  | tbl (ps : Array Value)
  /-- any other thing, by what is true of its one object (a def of one's own: SetO a S n := HO.ext fun h => ..) -/
  | ext (φ : Heap → Prop)

abbrev Hp := Addr → Option HO
def upd (H : Hp) (a : Addr) (o : HO) : Hp := fun b => if b = a then some o else H b
theorem upd_same {H : Hp} {a : Addr} {o : HO} : upd H a o a = some o := by unfold upd; rw [if_pos rfl]
theorem upd_ne {H : Hp} {a b : Addr} {o : HO} (h : b ≠ a) : upd H a o b = H b := by unfold upd; rw [if_neg h]
theorem upd_upd {H : Hp} {a : Addr} {o u : HO} : upd (upd H a o) a u = upd H a u := by
  funext b; unfold upd; split <;> rfl
/-- two objects of different content stand apart -/
theorem ne_of {H : Hp} {a b : Addr} {o u : HO} (h : H a = some o) (h' : H b = some u) (d : o ≠ u) : a ≠ b := by
  intro e; subst e; rw [h] at h'; exact d (Option.some.inj h')
theorem ne_of_none {H : Hp} {a b : Addr} {o : HO} (h : H a = some o) (h' : H b = none) : a ≠ b := by
  intro e; subst e; rw [h] at h'; cases h'

section
variable (P : Program) (w : World)
def ObjOk (H : Hp) (h : Heap) (a : Addr) : HO → Prop
  | .lst xs => xs.length ≤ sizeLine ∧ ∃ (its : List Value) (n : Nat), Vals xs its ∧ h.get? a = some { cls := .type "list", data := .seq its.toArray n }
  | .tup xs => xs.length ≤ sizeLine ∧ ∃ its : List Value, Vals xs its ∧ IsTup h a its.toArray
  | .dK kvs => kvs.length ≤ sizeLine ∧ (a == sysModules) = false ∧ ∃ vs, KV kvs vs ∧ h.DictOf (mixKind P w) a vs
  | .dT kvs => kvs.length ≤ sizeLine ∧ (a == sysModules) = false ∧ ∃ xs : List (List Key × Addr × Value),
      Paired (fun (p : List Key × V) (q : List Key × Addr × Value) => p.1 = q.1 ∧ H q.2.1 = some (.tup (p.1.map kV)) ∧ RelV p.2 q.2.2) kvs xs ∧
      ∃ o es ep, h.get? a = some o ∧ o.ExactDict ∧ o.data = .dict es ep ∧ es.toList = xs.map (entryOfKey (tupleKind (mixKind P w))) ∧ (xs.map (·.1)).Nodup
  | .set S n => h.SetOf (intKind P w) a S n
  | .ins C dx fs => H dx = some (.own a) ∧ fs.length ≤ 1000 ∧ dx ≠ a ∧ h.get? a = some (PySem.W.instObj C dx) ∧
      ∃ mA, h.Ns1 dx mA ∧ (∀ f, RelO (fs.lookup f) (mA f)) ∧ PySem.Within mA (fs.map (·.1))
  | .own _ => ∃ o, h.get? a = some o
  | .xd fs => ∃ mA, h.Ns1 a mA ∧ ∀ f, RelO (fs.lookup f) (mA f)
  | .rng lo hi => ∃ t u v, h.get? a = some { cls := .type "range", data := .fields #[.int lo t, .int hi u, .int 1 v] }
  | .frz o u => h.get? a = some o ∧ ObjOk H h a u
  | .tbl ps => h.get? a = some { cls := .none, data := .fields ps }
  | .met f x => h.get? a = some (PySem.W.methodObj (.ref f) (.ref x))
  | .ext φ => φ h ∧ (∃ o, h.get? a = some o) ∧ ∀ h1 h2 : Heap, φ h1 → (∀ o, h1.get? a = some o → h2.get? a = some o) → φ h2
/-- the abstract heap is held -/
def HOk (H : Hp) (h : Heap) : Prop := ∀ a o, H a = some o → ObjOk P w H h a o
end

section
variable {P : Program} {w : World} {H H' : Hp} {h h' : Heap} {a : Addr} {o : HO}
theorem ObjOk.lt (x : ObjOk P w H h a o) : a < h.objs.size := by
  cases o with
  | lst xs => obtain ⟨_, _, _, _, e⟩ := x; exact Heap.lt_size e
  | tup xs => obtain ⟨_, _, _, p⟩ := x; exact p.lt
  | dK kvs => obtain ⟨_, _, _, _, o, _, _, e, _⟩ := x; exact Heap.lt_size e
  | dT kvs => obtain ⟨_, _, _, _, o, _, _, e, _⟩ := x; exact Heap.lt_size e
  | set S n => obtain ⟨o, _, _, _, e, _⟩ := x; exact Heap.lt_size e
  | ins C dx fs => obtain ⟨_, _, _, e, _⟩ := x; exact Heap.lt_size e
  | own y => obtain ⟨_, e⟩ := x; exact Heap.lt_size e
  | xd fs => obtain ⟨_, ⟨_, _, _, e, _⟩, _⟩ := x; exact Heap.lt_size e
  | rng lo hi => obtain ⟨_, _, _, e⟩ := x; exact Heap.lt_size e
  | frz ob u => obtain ⟨e, _⟩ := x; exact Heap.lt_size e
  | tbl ps => exact Heap.lt_size (show h.get? a = some _ from x)
  | met f y => exact Heap.lt_size (show h.get? a = some _ from x)
  | ext φ => obtain ⟨_, ⟨_, e⟩, _⟩ := x; exact Heap.lt_size e
theorem Paired.mapP {α β : Type} {F G : α → β → Prop} : ∀ {l₁ : List α} {l₂ : List β}, Paired F l₁ l₂ → (∀ a b, F a b → G a b) → Paired G l₁ l₂
  | _, _, .nil, _ => .nil
  | _, _, .cons r t, f => .cons (f _ _ r) (Paired.mapP t f)
theorem Paired.imp' {α β : Type} {F G : α → β → Prop} (f : ∀ a b, F a b → G a b) {l₁ : List α} {l₂ : List β} (r : Paired F l₁ l₂) : Paired G l₁ l₂ := Paired.mapP r f
/-- what an object's description leans on: its own object, its own dict, the tuples -/
theorem ObjOk.stay (x : ObjOk P w H h a o) (k : ∀ b u, (b = a ∨ H b = some (.own a)) → h.get? b = some u → h'.get? b = some u)
    (ho : ∀ b, H b = some (.own a) → H' b = some (.own a)) (ht : ∀ b xs, H b = some (.tup xs) → H' b = some (.tup xs)) : ObjOk P w H' h' a o := by
  induction o with
  | lst xs => obtain ⟨z, its, n, r, e⟩ := x; exact ⟨z, its, n, r, k _ _ (.inl rfl) e⟩
  | tup xs => obtain ⟨z, its, r, ob, e, c⟩ := x; exact ⟨z, its, r, ob, k _ _ (.inl rfl) e, c⟩
  | dK kvs => obtain ⟨z, y, vs, r, ob, es, ep, e, c⟩ := x; exact ⟨z, y, vs, r, ob, es, ep, k _ _ (.inl rfl) e, c⟩
  | dT kvs =>
    obtain ⟨z, y, xs, r, ob, es, ep, e, c⟩ := x
    exact ⟨z, y, xs, Paired.mapP r fun p q z => ⟨z.1, ht _ _ z.2.1, z.2.2⟩, ob, es, ep, k _ _ (.inl rfl) e, c⟩
  | set S n => obtain ⟨ob, es, ep, t, e, c⟩ := x; exact ⟨ob, es, ep, t, k _ _ (.inl rfl) e, c⟩
  | ins C dx fs =>
    obtain ⟨d, z, ne, e, mA, ⟨od, es, ep, e2, c⟩, r⟩ := x
    exact ⟨ho _ d, z, ne, k _ _ (.inl rfl) e, mA, ⟨od, es, ep, k _ _ (.inr d) e2, c⟩, r⟩
  | own y => obtain ⟨ob, e⟩ := x; exact ⟨ob, k _ _ (.inl rfl) e⟩
  | xd fs => obtain ⟨mA, ⟨od, es, ep, e, c⟩, r⟩ := x; exact ⟨mA, ⟨od, es, ep, k _ _ (.inl rfl) e, c⟩, r⟩
  | rng lo hi => obtain ⟨t, u, v, e⟩ := x; exact ⟨t, u, v, k _ _ (.inl rfl) e⟩
  | frz ob u ih => obtain ⟨e, q⟩ := x; exact ⟨k _ _ (.inl rfl) e, ih q⟩
  | tbl ps =>
    have e : h.get? a = some { cls := .none, data := .fields ps } := x
    show h'.get? a = some { cls := .none, data := .fields ps }
    exact k a _ (.inl rfl) e
  | met f y =>
    have e : h.get? a = some (PySem.W.methodObj (.ref f) (.ref y)) := x
    show h'.get? a = some (PySem.W.methodObj (.ref f) (.ref y))
    exact k a _ (.inl rfl) e
  | ext φ => obtain ⟨p, ⟨o, e⟩, st⟩ := x; exact ⟨st _ _ p fun o q => k _ _ (.inl rfl) q, ⟨o, k _ _ (.inl rfl) e⟩, st⟩
theorem HOk.lt (x : HOk P w H h) (e : H a = some o) : a < h.objs.size := (x a o e).lt
theorem HOk.fresh (x : HOk P w H h) (e : h.objs.size ≤ a) : H a = none := by
  cases q : H a with
  | none => rfl
  | some u => exact absurd (Nat.lt_of_lt_of_le (x.lt q) e) (Nat.lt_irrefl _)
/-- every object of the heap is kept -/
theorem HOk.kept (x : HOk P w H h) (k : ∀ b u, h.get? b = some u → h'.get? b = some u) : HOk P w H h' := fun a o e =>
  (x a o e).stay (fun b u _ q => k b u q) (fun _ q => q) fun _ _ q => q
/-- a new object is laid and tracked -/
theorem HOk.laid (x : HOk P w H h) (k : ∀ b u, h.get? b = some u → h'.get? b = some u) (hp : h.objs.size ≤ a) (new : ObjOk P w (upd H a o) h' a o) : HOk P w (upd H a o) h' := fun b u e => by
  have hn := x.fresh hp
  by_cases hb : b = a
  · subst hb; rw [upd_same] at e; cases e; exact new
  · rw [upd_ne hb] at e
    exact (x b u e).stay (fun c v _ q => k c v q) (fun c q => by rw [upd_ne (ne_of_none q hn)]; exact q) fun c xs q => by rw [upd_ne (ne_of_none q hn)]; exact q
end

/-- what may be read as u: it is u, or a known u -/
def Rd (H : Hp) (a : Addr) (u : HO) : Prop := H a = some u ∨ ∃ o, H a = some (.frz o u)
theorem Rd.of {H : Hp} {a : Addr} {u : HO} (h : H a = some u) : Rd H a u := .inl h
theorem Rd.ok {P : Program} {w : World} {H : Hp} {h : Heap} {a : Addr} {u : HO} (r : Rd H a u) (x : HOk P w H h) : ObjOk P w H h a u := by
  rcases r with r | ⟨o, r⟩
  · exact x a u r
  · obtain ⟨_, q⟩ := x a _ r
    exact q
/-- what may be written -/
def Mut : Option HO → Prop
  | some (.lst _) => True
  | some (.dK _) => True
  | some (.dT _) => True
  | some (.set _ _) => True
  | some (.ins _ _ _) => True
  | some (.ext _) => True
  | _ => False
section
variable {P : Program} {w : World} {H : Hp} {h h' : Heap} {x e : Addr} {o' : HO}
/-- the object at e is changed: x itself, or the dict of the instance x -/
theorem HOk.write (ok : HOk P w H h) (mu : Mut (H x)) (he : e = x ∨ H e = some (.own x)) (k : ∀ b u, b ≠ e → h.get? b = some u → h'.get? b = some u) (heo : ∃ u, h'.get? e = some u)
    (new : ObjOk P w (upd H x o') h' x o') : HOk P w (upd H x o') h' := fun b u q => by
  have nown : ∀ c y, H c = some (.own y) → c ≠ x := fun c y r z => by subst z; rw [r] at mu; exact mu
  have ntup : ∀ c xs, H c = some (.tup xs) → c ≠ x := fun c xs r z => by subst z; rw [r] at mu; exact mu
  by_cases hb : b = x
  · subst hb; rw [upd_same] at q; cases q; exact new
  · rw [upd_ne hb] at q
    by_cases hbe : b = e
    · have q' : H b = some (.own x) := by
        rcases he with z | z
        · exact absurd (hbe.trans z) hb
        · rw [hbe]; exact z
      rw [q] at q'; cases q'
      obtain ⟨v, hv⟩ := heo
      exact ⟨v, by rw [hbe]; exact hv⟩
    · refine (ok b u q).stay (fun c v hc r => k c v ?_ r) (fun c r => by rw [upd_ne (nown c b r)]; exact r) fun c xs r => by rw [upd_ne (ntup c xs r)]; exact r
      rcases hc with rfl | hc
      · exact hbe
      · rintro rfl
        rcases he with z | z
        · exact nown c b hc z
        · rw [hc] at z; cases z; exact hb rfl
end

/-! ### kept unless tracked; of the frames at fs (the callers') the slots may change (an exception that passes writes there); of the records at ex (iterators) nothing is said -/
structure Un (fs ex : List Addr) (H H' : Hp) (h h' : Heap) : Prop where
  keep : ∀ b o, h.get? b = some o → H b = none → b ∉ fs → b ∉ ex → h'.get? b = some o
  slot : ∀ b o, h.get? b = some o → H b = none → b ∈ fs → b ∉ ex → ∃ sl, h'.get? b = some { o with slots := sl }
  free : ∀ b o, h.get? b = some o → H b = none → b ∉ ex → H' b = none
  there : ∀ b o, h.get? b = some o → b ∉ ex → ∃ o', h'.get? b = some o'
  tups : ∀ b xs, H b = some (.tup xs) → H' b = some (.tup xs)
  frzs : ∀ b o u, H b = some (.frz o u) → H' b = some (.frz o u)
  tbls : ∀ b ps, H b = some (.tbl ps) → ∃ more, H' b = some (.tbl (ps ++ more))
section
variable {fs fs' ex ex' : List Addr} {H H1 H2 : Hp} {h h1 h2 h' : Heap} {a x e : Addr} {o : HO}
theorem Un.any (u : Un fs ex H H1 h h1) {b : Addr} {ob : Obj} (q : h.get? b = some ob) (n : H b = none) (hx : b ∉ ex) : ∃ sl, h1.get? b = some { ob with slots := sl } := by
  by_cases hb : b ∈ fs
  · exact u.slot b ob q n hb hx
  · exact ⟨ob.slots, u.keep b ob q n hb hx⟩
theorem Un.trans (a : Un fs ex H H1 h h1) (b : Un fs ex H1 H2 h1 h2) : Un fs ex H H2 h h2 where
  keep := fun c ob q n hc hx => b.keep c ob (a.keep c ob q n hc hx) (a.free c ob q n hx) hc hx
  slot := fun c ob q n hc hx => by
    obtain ⟨sl, e1⟩ := a.slot c ob q n hc hx
    obtain ⟨sl', e2⟩ := b.slot c _ e1 (a.free c ob q n hx) hc hx
    exact ⟨sl', e2⟩
  free := fun c ob q n hx => by
    obtain ⟨o', e1⟩ := a.there c ob q hx
    exact b.free c o' e1 (a.free c ob q n hx) hx
  there := fun c ob q hx => by
    obtain ⟨o', e1⟩ := a.there c ob q hx
    exact b.there c o' e1 hx
  tups := fun c xs q => b.tups c xs (a.tups c xs q)
  frzs := fun c ob xs q => b.frzs c ob xs (a.frzs c ob xs q)
  tbls := fun c ps q => by
    obtain ⟨m1, e1⟩ := a.tbls c ps q
    obtain ⟨m2, e2⟩ := b.tbls c _ e1
    exact ⟨m1 ++ m2, by rw [e2, Array.append_assoc]⟩
theorem Un.kept (k : ∀ b u, h.get? b = some u → h'.get? b = some u) : Un fs ex H H h h' :=
  ⟨fun b ob q _ _ _ => k b ob q, fun b ob q _ _ _ => ⟨ob.slots, k b ob q⟩, fun _ _ _ n _ => n, fun b ob q _ => ⟨ob, k b ob q⟩, fun _ _ q => q, fun _ _ _ q => q, fun _ ps q => ⟨#[], by rw [q]; simp⟩⟩
theorem Un.refl : Un fs ex H H h h := Un.kept fun _ _ q => q
theorem Un.laid (k : ∀ b u, h.get? b = some u → h'.get? b = some u) (hp : h.objs.size ≤ a) (hn : H a = none) : Un fs ex H (upd H a o) h h' where
  keep := fun b u q _ _ _ => k b u q
  slot := fun b u q _ _ _ => ⟨u.slots, k b u q⟩
  free := fun b u q n _ => by rw [upd_ne (Nat.ne_of_lt (Nat.lt_of_lt_of_le (Heap.lt_size q) hp))]; exact n
  there := fun b u q _ => ⟨u, k b u q⟩
  tups := fun b xs q => by rw [upd_ne (ne_of_none q hn)]; exact q
  frzs := fun b u xs q => by rw [upd_ne (ne_of_none q hn)]; exact q
  tbls := fun b ps q => ⟨#[], by rw [upd_ne (ne_of_none q hn), q]; simp⟩
theorem Un.write (mu : Mut (H x)) (he : e = x ∨ H e = some (.own x)) (k : ∀ b u, b ≠ e → h.get? b = some u → h'.get? b = some u) (heo : ∃ u, h'.get? e = some u) : Un fs ex H (upd H x o) h h' := by
  have hx : ∀ b, H b = none → b ≠ x := fun b n z => by subst z; rw [n] at mu; exact mu
  have hb : ∀ b, H b = none → b ≠ e := fun b n z => by
    subst z
    rcases he with r | r
    · exact hx b n r
    · rw [n] at r; cases r
  have hm : ∀ b u, H b = some u → ¬ Mut (some u) → b ≠ x := fun b u q nm z => by subst z; rw [q] at mu; exact nm mu
  refine ⟨fun b u q n _ _ => k b u (hb b n) q, fun b u q n _ _ => ⟨u.slots, k b u (hb b n) q⟩, fun b u q n _ => by rw [upd_ne (hx b n)]; exact n, fun b u q _ => ?_,
    fun b xs q => by rw [upd_ne (hm b _ q fun z => z)]; exact q, fun b u xs q => by rw [upd_ne (hm b _ q fun z => z)]; exact q, fun b ps q => ⟨#[], by rw [upd_ne (hm b _ q fun z => z), q]; simp⟩⟩
  by_cases hbe : b = e
  · subst hbe; exact heo
  · exact ⟨u, k b u hbe q⟩
theorem Un.mono (u : Un fs ex H H1 h h1) (hs : ∀ b ∈ fs, b ∈ fs') (hx : ∀ b ∈ ex, b ∈ ex') : Un fs' ex' H H1 h h1 :=
  ⟨fun b ob q n hb he => u.keep b ob q n (fun z => hb (hs b z)) fun z => he (hx b z), fun _ _ q n _ he => u.any q n fun z => he (hx _ z), fun b ob q n he => u.free b ob q n fun z => he (hx b z), fun b ob q he => u.there b ob q fun z => he (hx b z), u.tups, u.frzs, u.tbls⟩
end

/-! ### the heap without what is tracked -/
def trk (h : Heap) (H : Hp) : List Addr := (List.range h.objs.size).filter fun a => (H a).isSome
def hidT (h : Heap) (H : Hp) : Heap := PySem.W.hideAll h (trk h H)
theorem hidT_size (h : Heap) (H : Hp) : (hidT h H).objs.size = h.objs.size := PySem.W.hideAll_size _ _
theorem hidT_get {h : Heap} {H : Hp} {b : Addr} {o : Obj} (e : h.get? b = some o) (n : H b = none) : (hidT h H).get? b = some o :=
  PySem.W.hideAll_get _ e fun hm => by
    have q : (H b).isSome = true := (List.mem_filter.mp hm).2
    rw [n] at q; simp at q
theorem of_hidT {h : Heap} {H : Hp} {b : Addr} {o : Obj} (e : (hidT h H).get? b = some o) : h.get? b = some o ∧ H b = none := by
  have e' : h.get? b = some o := PySem.W.of_hideAll (trk h H) e
  refine ⟨e', ?_⟩
  cases q : H b with
  | none => rfl
  | some x =>
    have hm : b ∈ trk h H := List.mem_filter.mpr ⟨List.mem_range.mpr (Heap.lt_size e'), by simp [q]⟩
    have z : (hidT h H).get? b = none := PySem.W.hideAll_none (trk h H) hm
    rw [z] at e; cases e

/-! ### OpenK's ledger, filled with every new object but one -/
def allNews (g h : Heap) (L : Addr) : List (Addr × Obj) := (List.range h.objs.size).filterMap fun a => if a = L ∨ (g.get? a).isSome = true then none else (h.get? a).map fun o => (a, o)
theorem mem_allNews {g h : Heap} {L a : Addr} {o : Obj} (h1 : a ≠ L) (h2 : g.get? a = none) (h3 : h.get? a = some o) : (a, o) ∈ allNews g h L :=
  List.mem_filterMap.mpr ⟨a, List.mem_range.mpr (Heap.lt_size h3), by simp [h1, h2, h3]⟩
theorem of_mem_allNews {g h : Heap} {L : Addr} {p : Addr × Obj} (hp : p ∈ allNews g h L) : p.1 ≠ L ∧ g.get? p.1 = none ∧ h.get? p.1 = some p.2 := by
  obtain ⟨b, _, e⟩ := List.mem_filterMap.mp hp
  split at e
  · cases e
  · rename_i hn
    cases q : h.get? b with
    | none => rw [q] at e; simp at e
    | some u =>
      rw [q] at e
      simp only [Option.map_some, Option.some.injEq] at e
      subst e
      refine ⟨fun z => hn (.inl z), ?_, q⟩
      show g.get? b = none
      cases r : g.get? b with
      | none => rfl
      | some v => exact (hn (.inr (by simp [r]))).elim
def rest (g h : Heap) (L d : Addr) : List (Addr × Obj) := (allNews g h L).filter fun p => decide (p.1 ≠ d)
theorem rest_ne {g h : Heap} {L d : Addr} : ∀ p ∈ rest g h L d, p.1 ≠ d := fun p hp => of_decide_eq_true (List.mem_filter.mp hp).2
theorem mem_rest {g h : Heap} {L d a : Addr} {o : Obj} (h1 : a ≠ L) (h2 : g.get? a = none) (h3 : h.get? a = some o) (h4 : a ≠ d) : (a, o) ∈ rest g h L d :=
  List.mem_filter.mpr ⟨mem_allNews h1 h2 h3, decide_eq_true h4⟩
theorem news_all {g h : Heap} {L : Addr} : News g L h (allNews g h L) := fun p hp => let ⟨a, b, c⟩ := of_mem_allNews hp; ⟨c, a, b⟩
theorem news_at {g h : Heap} {L d : Addr} {o : Obj} (h1 : d ≠ L) (h2 : g.get? d = none) (h3 : h.get? d = some o) : News g L h ((d, o) :: rest g h L d) := fun p hp => by
  rcases List.mem_cons.mp hp with rfl | hp
  · exact ⟨h3, h1, h2⟩
  · exact news_all p (List.mem_filter.mp hp).1
/-- behind a rule that changed d alone: all else but the frame is kept -/
theorem kept_of_news {g h h' : Heap} {L d : Addr} {m : Str → Option Value} (k : ∀ b o, g.get? b = some o → h.get? b = some o) (F : Fr g L h' m) (N : News g L h' (rest g h L d)) :
    ∀ b o, b ≠ L → b ≠ d → h.get? b = some o → h'.get? b = some o := fun b o h1 h2 e => by
  cases q : g.get? b with
  | some u =>
    have := k b u q
    rw [e] at this; cases this
    exact F.keep b _ q
  | none => exact (N (b, o) (mem_rest h1 q e h2)).1
end L2

namespace L2
open PySem PySem.Spec PyProof.Rows

/-- the module's facts, over the base: the heap at the law's entry without what is tracked there -/
structure Mod (K : PySem.W.Frag) (mg : Str → Option Value) (base : Heap) : Prop where
  kin : K.In base
  glob : base.Ns mainGlobals mg
  blt : ∃ mb, base.Ns builtinsNs mb ∧ ∀ x : Str, x ≠ "__name__" → mb x = bootBuiltins x
  nolimit : base.NoLimit

/-- the context: a def's body (or a comprehension's block) running. base: fixed through the whole law; s₀, H₀: the entry; outer: the frames whose slots others may change (a def's callers); stack: all frames that run;
   ex: iterators that were made ahead of the entry and are walked here (a comprehension's); fn: the names whose cells were made at the entry (a def: all; a comprehension's block: its own); calm: not within an except suite; pn: pins that every state bears; xe: what is wanted of an exception that leaves the code -/
structure Cx where
  prog : Program
  w : World
  K : PySem.W.Frag
  mg : Str → Option Value
  base : Heap
  A : Around
  N : List Str
  s₀ : Shared
  H₀ : Hp
  env : Env
  outer : List Env
  stack : List Env
  ex : List Addr
  fn : Str → Bool
  calm : Bool
  pn : List (Addr × Obj)
  xe : Value → Shared → Prop
/-- the callers' frames -/
def frs (l : List Env) : List Addr := l.filterMap (·.frame)
abbrev Cx.fs (X : Cx) : List Addr := frs X.outer

def Vis (sc : Scope) (x : Str) : Prop := sc.names.lookup x = some .local ∨ sc.names.lookup x = some .cell ∨ sc.names.lookup x = some .free
def Loc (sc : Scope) (x : Str) : Prop := sc.names.lookup x = some .local ∨ sc.names.lookup x = some .cell
def Look (env : Env) (h : Heap) (m : Str → Option Value) (x : Str) (u : Value) : Prop :=
  (env.kindOf x = some .local ∧ m x = some u) ∨ ((env.kindOf x = some .cell ∨ env.kindOf x = some .free) ∧ ∃ c, env.cells.lookup x = some c ∧ h.IsCell c (some u))

structure Cx.Ok (X : Cx) : Prop where
  mod : Mod X.K X.mg X.base
  kind : X.env.scope.kind = .function
  glob : X.env.globals = mainGlobals
  blt : X.env.builtins = builtinsNs
  above : X.s₀.heap.objs.size ≤ X.env.locals
  inj : ∀ x y c, X.env.cells.lookup x = some c → X.env.cells.lookup y = some c → x = y
  has : ∀ x, (X.env.kindOf x = some .cell ∨ X.env.kindOf x = some .free) → ∃ c, X.env.cells.lookup x = some c
  cab : ∀ x c, X.fn x = true → X.env.cells.lookup x = some c → X.s₀.heap.objs.size ≤ c
  hd : X.calm = true → X.A.handled = none
  frames : X.A.frames = some X.stack
  stk : X.stack = X.outer ∨ (X.stack = X.env :: X.outer ∧ X.env.frame = some X.env.locals)
  exf : ∀ b ∈ X.ex, b ≠ X.env.locals ∧ ∀ x c, X.env.cells.lookup x = some c → c ≠ b
  bs : ∀ b o, X.base.get? b = some o → X.s₀.heap.get? b = some o ∧ X.H₀ b = none
  bsz : X.base.objs.size ≤ X.s₀.heap.objs.size
  noex : ∀ b o, X.base.get? b = some o → b ∉ X.ex
  exfs : ∀ b ∈ X.ex, b ∉ X.fs
  funs : X.s₀.heap.FunFrames X.base X.outer
  frf : ∀ b ∈ X.fs, X.H₀ b = none

structure Inv (X : Cx) (pins : List (Addr × Obj)) (σ : List (Option V)) (H : Hp) (s : Shared) : Prop where
  ok : X.Ok
  os : s.os = X.s₀.os
  bare : AllBare s.gens
  base : Un X.fs X.ex X.H₀ H X.s₀.heap s.heap
  loc : ∃ m, s.heap.Ns X.env.locals m ∧ ∀ (i : Nat) (x : Str) (v : V), X.N[i]? = some x → σ[i]? = some (some v) → Vis X.env.scope x → ∃ u, RelV v u ∧ Look X.env s.heap m x u
  cell : ∀ x c, X.env.cells.lookup x = some c → ∃ v, s.heap.IsCell c v
  free : H X.env.locals = none
  freeC : ∀ x c, X.env.cells.lookup x = some c → H c = none
  pin : ∀ p ∈ X.pn ++ pins, s.heap.get? p.1 = some p.2 ∧ H p.1 = none ∧ p.1 ≠ X.env.locals ∧ p.1 ∉ X.fs ∧ ∀ v, p.2.data ≠ .cell v
  hok : HOk X.prog X.w H s.heap
  len : σ.length = X.N.length

section
variable {X : Cx} {pins : List (Addr × Obj)} {σ : List (Option V)} {H H' : Hp} {s : Shared} {h' : Heap}

theorem Cx.Ok.nofr (ok : X.Ok) {b : Addr} {o : Obj} (e : X.base.get? b = some o) : b ∉ X.fs := fun hb => by
  have := (ok.funs.mem hb).1
  rw [e] at this; cases this
theorem Inv.bs (I : Inv X pins σ H s) : ∀ b o, X.base.get? b = some o → s.heap.get? b = some o ∧ H b = none := fun b o e =>
  ⟨I.base.keep b o (I.ok.bs b o e).1 (I.ok.bs b o e).2 (I.ok.nofr e) (I.ok.noex b o e), I.base.free b o (I.ok.bs b o e).1 (I.ok.bs b o e).2 (I.ok.noex b o e)⟩
theorem Inv.bk (I : Inv X pins σ H s) : ∀ b o, X.base.get? b = some o → s.heap.get? b = some o := fun b o e => (I.bs b o e).1
theorem Inv.mod (I : Inv X pins σ H s) : Mod X.K X.mg X.base := I.ok.mod
theorem Inv.kIn (I : Inv X pins σ H s) : X.K.In s.heap := I.ok.mod.kin.keeps I.bk
theorem Inv.nolimit (I : Inv X pins σ H s) : s.heap.NoLimit := I.ok.mod.nolimit.keeps I.bk
/-- the frame over the base: for OpenK's rules (K.In X.base is I.mod.kin) -/
theorem Inv.fr (I : Inv X pins σ H s) : ∃ m, Fr X.base X.env.locals s.heap m :=
  let ⟨m, hn, _⟩ := I.loc
  ⟨m, hn, I.bk, Nat.le_trans I.ok.bsz I.ok.above⟩
theorem Inv.lt (I : Inv X pins σ H s) : X.env.locals < s.heap.objs.size := let ⟨_, hn, _⟩ := I.loc; hn.lt
theorem Inv.sz (I : Inv X pins σ H s) : X.s₀.heap.objs.size ≤ s.heap.objs.size := Nat.le_trans I.ok.above (Nat.le_of_lt I.lt)
theorem Inv.nofs (I : Inv X pins σ H s) {a : Addr} (h : s.heap.objs.size ≤ a) : a ∉ X.fs := fun hb => by
  obtain ⟨_, o, ho, _⟩ := I.ok.funs.mem hb
  exact absurd (Nat.lt_of_lt_of_le (Heap.lt_size ho) (Nat.le_trans I.sz h)) (Nat.lt_irrefl _)
theorem Inv.cne (I : Inv X pins σ H s) : ∀ x c, X.env.cells.lookup x = some c → c ≠ X.env.locals := fun x c e z => by
  obtain ⟨v, o, ho, hd⟩ := I.cell x c e
  obtain ⟨m, ⟨o', es, ep, ho', hd', _⟩, _⟩ := I.loc
  rw [z, ho'] at ho; cases ho; rw [hd'] at hd; cases hd
theorem Inv.funs (I : Inv X pins σ H s) : s.heap.FunFrames X.base X.outer := by
  have all : ∀ (l : List Env), (∀ b ∈ frs l, b ∈ X.fs) → X.s₀.heap.FunFrames X.base l → s.heap.FunFrames X.base l := by
    intro l
    induction l with
    | nil => intro _ _; trivial
    | cons env r ih =>
      intro hs hl
      obtain ⟨hk, ⟨L, o, hf, hn, ho, hd⟩, hr⟩ := hl
      have hL : L ∈ X.fs := hs L (by unfold frs; rw [List.filterMap_cons, hf]; exact List.mem_cons_self)
      obtain ⟨sl, e⟩ := I.base.slot L o ho (I.ok.frf L hL) hL fun z => I.ok.exfs L z hL
      exact ⟨hk, ⟨L, _, hf, hn, e, hd⟩, ih (fun b hb => hs b (by unfold frs; rw [List.filterMap_cons, hf]; exact List.mem_cons_of_mem _ hb)) hr⟩
  exact all X.outer (fun _ hb => hb) I.ok.funs

/-- the frames that run, for a call -/
theorem Inv.stack (I : Inv X pins σ H s) : s.heap.FunFrames X.base X.stack := by
  rcases I.ok.stk with e | ⟨e, hf⟩
  · rw [e]; exact I.funs
  · rw [e]
    obtain ⟨m, hn, _⟩ := I.loc
    refine .cons (by rw [I.ok.kind]; decide) hf hn ?_ I.funs
    exact Heap.get?_none_of_le (Nat.le_trans I.ok.bsz I.ok.above)
theorem Inv.stkSub (I : Inv X pins σ H s) : ∀ b ∈ frs X.stack, b ∈ X.env.locals :: X.fs := fun b hb => by
  rcases I.ok.stk with e | ⟨e, hf⟩
  · rw [e] at hb; exact List.mem_cons_of_mem _ hb
  · rw [e] at hb
    unfold frs at hb
    rw [List.filterMap_cons, hf] at hb
    exact hb
theorem Inv.stkFree (I : Inv X pins σ H s) : ∀ b ∈ frs X.stack, H b = none := fun b hb => by
  rcases List.mem_cons.mp (I.stkSub b hb) with e | hb
  · rw [e]; exact I.free
  · obtain ⟨_, o, ho, _⟩ := I.ok.funs.mem hb
    exact I.base.free b o ho (I.ok.frf b hb) fun z => I.ok.exfs b z hb

/-- THE STEP: the untracked objects but the frame and the records at ch are kept (the callers' frames up to slots), the frame's map is kept, the new abstract heap is held -/
theorem Inv.step {g' : Array GenState} {t' : Nat} {d' : Drawn} {ch : List Addr} (I : Inv X pins σ H s)
    (hch : ∀ b ∈ ch, (b ∈ X.ex ∨ X.s₀.heap.objs.size ≤ b) ∧ b ≠ X.env.locals ∧ (∀ x c, X.env.cells.lookup x = some c → c ≠ b) ∧ ∀ p ∈ X.pn ++ pins, p.1 ≠ b)
    (keep : ∀ b o, b ≠ X.env.locals → b ∉ X.fs → b ∉ ch → s.heap.get? b = some o → H b = none → h'.get? b = some o)
    (slot : ∀ b o, b ≠ X.env.locals → b ∈ X.fs → b ∉ ch → s.heap.get? b = some o → H b = none → ∃ sl, h'.get? b = some { o with slots := sl }) (free : ∀ b o, b ∉ ch → s.heap.get? b = some o → H b = none → H' b = none)
    (there : ∀ b o, b ∉ ch → s.heap.get? b = some o → ∃ o', h'.get? b = some o')
    (tups : ∀ b xs, H b = some (.tup xs) → H' b = some (.tup xs)) (frzs : ∀ b o u, H b = some (.frz o u) → H' b = some (.frz o u)) (tbls : ∀ b ps, H b = some (.tbl ps) → ∃ more, H' b = some (.tbl (ps ++ more)))
    (ns : ∀ m, s.heap.Ns X.env.locals m → h'.Ns X.env.locals m) (hok : HOk X.prog X.w H' h') (hg : AllBare g') :
    Inv X pins σ H' { s with heap := h', gens := g', drawn := d', toks := t' } := by
  have neL : ∀ b o, X.s₀.heap.get? b = some o → b ≠ X.env.locals := fun b o e => Nat.ne_of_lt (Nat.lt_of_lt_of_le (Heap.lt_size e) I.ok.above)
  have neC : ∀ b o, X.s₀.heap.get? b = some o → b ∉ X.ex → b ∉ ch := fun b o e hx hb => by
    rcases (hch b hb).1 with z | z
    · exact hx z
    · exact absurd (Nat.lt_of_lt_of_le (Heap.lt_size e) z) (Nat.lt_irrefl _)
  have cellK : ∀ x c, X.env.cells.lookup x = some c → ∀ v, s.heap.IsCell c v → h'.IsCell c v := fun x c e v ⟨o, ho, hd⟩ => by
    have nch : c ∉ ch := fun z => (hch c z).2.2.1 x c e rfl
    by_cases hc : c ∈ X.fs
    · obtain ⟨sl, q⟩ := slot c o (I.cne x c e) hc nch ho (I.freeC x c e)
      exact ⟨_, q, hd⟩
    · exact ⟨o, keep c o (I.cne x c e) hc nch ho (I.freeC x c e), hd⟩
  refine ⟨I.ok, I.os, hg, ⟨fun b o e n hb hx => ?_, fun b o e n hb hx => ?_, fun b o e n hx => ?_, fun b o e hx => ?_, fun b xs e => tups b xs (I.base.tups b xs e), fun b o xs e => frzs b o xs (I.base.frzs b o xs e), fun b ps e => ?_⟩, ?_, fun x c e => ?_, ?_, fun x c e => ?_, fun p hp => ?_, hok, I.len⟩
  · exact keep b o (neL b o e) hb (neC b o e hx) (I.base.keep b o e n hb hx) (I.base.free b o e n hx)
  · obtain ⟨sl, e1⟩ := I.base.slot b o e n hb hx
    obtain ⟨sl', e2⟩ := slot b _ (neL b o e) hb (neC b o e hx) e1 (I.base.free b o e n hx)
    exact ⟨sl', e2⟩
  · obtain ⟨o', e1⟩ := I.base.there b o e hx
    exact free b o' (neC b o e hx) e1 (I.base.free b o e n hx)
  · obtain ⟨o', e1⟩ := I.base.there b o e hx
    exact there b o' (neC b o e hx) e1
  · obtain ⟨m1, e1⟩ := I.base.tbls b ps e
    obtain ⟨m2, e2⟩ := tbls b _ e1
    exact ⟨m1 ++ m2, by rw [e2, Array.append_assoc]⟩
  · obtain ⟨m, hn, hl⟩ := I.loc
    refine ⟨m, ns m hn, fun i x v e1 e2 e3 => ?_⟩
    obtain ⟨u, r, l⟩ := hl i x v e1 e2 e3
    refine ⟨u, r, ?_⟩
    rcases l with l | ⟨k, c, e, z⟩
    · exact .inl l
    · exact .inr ⟨k, c, e, cellK x c e _ z⟩
  · obtain ⟨v, z⟩ := I.cell x c e
    exact ⟨v, cellK x c e v z⟩
  · obtain ⟨m, ⟨o, _, _, ho, _⟩, _⟩ := I.loc
    exact free _ o (fun z => (hch _ z).2.1 rfl) ho I.free
  · obtain ⟨v, o, ho, hd⟩ := I.cell x c e
    exact free c o (fun z => (hch c z).2.2.1 x c e rfl) ho (I.freeC x c e)
  · obtain ⟨e, n, ne, nf, d⟩ := I.pin p hp
    have nch : p.1 ∉ ch := fun z => (hch p.1 z).2.2.2 p hp rfl
    exact ⟨keep p.1 p.2 ne nf nch e n, free p.1 p.2 nch e n, ne, nf, d⟩
/-- .. where the frame's own object is kept too -/
theorem Inv.un {t' : Nat} (I : Inv X pins σ H s) (u : Un X.fs [] H H' s.heap h') (hok : HOk X.prog X.w H' h') : Inv X pins σ H' { s with heap := h', toks := t' } := by
  obtain ⟨m, ⟨o, es, ep, ho, r⟩, _⟩ := id I.loc
  obtain ⟨sl, hL⟩ := u.any ho I.free (by simp)
  exact I.step (g' := s.gens) (d' := s.drawn) (ch := []) (fun _ z => nomatch z) (fun b o _ hb _ e n => u.keep b o e n hb (by simp)) (fun b o _ hb _ e n => u.slot b o e n hb (by simp)) (fun b o _ e n => u.free b o e n (by simp)) (fun b o _ e => u.there b o e (by simp)) u.tups u.frzs u.tbls (fun m' hm => by
    obtain ⟨o', es', ep', ho', r'⟩ := hm
    rw [ho] at ho'; cases ho'
    exact ⟨_, es', ep', hL, r'⟩) hok I.bare
/-- behind a call (or a comprehension's block): the slots of this frame may have changed too, the records at ch may have turned -/
theorem Inv.call {g' : Array GenState} {t' : Nat} {d' : Drawn} {ch : List Addr} (I : Inv X pins σ H s) (u : Un (frs X.stack) ch H H' s.heap h') (hok : HOk X.prog X.w H' h') (hg : AllBare g')
    (hch : ∀ b ∈ ch, (b ∈ X.ex ∨ X.s₀.heap.objs.size ≤ b) ∧ b ≠ X.env.locals ∧ (∀ x c, X.env.cells.lookup x = some c → c ≠ b) ∧ ∀ p ∈ X.pn ++ pins, p.1 ≠ b) :
    Inv X pins σ H' { s with heap := h', gens := g', drawn := d', toks := t' } := by
  obtain ⟨m, ⟨o, es, ep, ho, r⟩, _⟩ := id I.loc
  obtain ⟨sl, hL⟩ := u.any ho I.free fun z => (hch _ z).2.1 rfl
  exact I.step (ch := ch) hch (fun b o hL hb hc e n => u.keep b o e n (fun z => (List.mem_cons.mp (I.stkSub b z)).elim hL hb) hc) (fun b o _ _ hc e n => u.any e n hc) (fun b o hc e n => u.free b o e n hc) (fun b o hc e => u.there b o e hc) u.tups u.frzs u.tbls (fun m' hm => by
    obtain ⟨o', es', ep', ho', r'⟩ := hm
    rw [ho] at ho'; cases ho'
    exact ⟨_, es', ep', hL, r'⟩) hok hg
/-- an untracked record of ours (an iterator) has turned -/
theorem Inv.turned {t' : Nat} {it : Addr} (I : Inv X pins σ H s) (k : ∀ b o, b ≠ it → s.heap.get? b = some o → h'.get? b = some o) (hn : H it = none) (hL : it ≠ X.env.locals)
    (h1 : it ∈ X.ex ∨ X.s₀.heap.objs.size ≤ it) (h2 : ∀ x c, X.env.cells.lookup x = some c → c ≠ it) (h3 : ∀ p ∈ X.pn ++ pins, p.1 ≠ it) : Inv X pins σ H { s with heap := h', toks := t' } := by
  have nit : ∀ b u, H b = some u → b ≠ it := fun b u e z => by rw [z, hn] at e; cases e
  refine I.step (g' := s.gens) (d' := s.drawn) (ch := [it]) (fun b hb => ?_) (fun b o _ _ hc e _ => k b o (fun z => hc (by simp [z])) e) (fun b o _ _ hc e _ => ⟨o.slots, k b o (fun z => hc (by simp [z])) e⟩) (fun _ _ _ _ n => n)
    (fun b o hc e => ⟨o, k b o (fun z => hc (by simp [z])) e⟩) (fun _ _ e => e) (fun _ _ _ e => e) (fun b ps e => ⟨#[], by rw [e]; simp⟩) (fun m hm => ?_) (fun b u e => ?_) I.bare
  · have e : b = it := by simpa using hb
    subst e
    exact ⟨h1, hL, h2, h3⟩
  · obtain ⟨o, es, ep, ho, r⟩ := hm
    exact ⟨o, es, ep, k _ o (Ne.symm hL) ho, r⟩
  · refine (I.hok b u e).stay (fun c v hc q => k c v ?_ q) (fun _ q => q) fun _ _ q => q
    rcases hc with z | z
    · rw [z]; exact nit b u e
    · exact nit c _ z
theorem Inv.tok (I : Inv X pins σ H s) (t : Nat) : Inv X pins σ H { s with toks := t } := I.un (h' := s.heap) (t' := t) Un.refl I.hok
/-- all objects kept -/
theorem Inv.kept {t' : Nat} (I : Inv X pins σ H s) (k : ∀ b u, s.heap.get? b = some u → h'.get? b = some u) : Inv X pins σ H { s with heap := h', toks := t' } := I.un (Un.kept k) (I.hok.kept k)
/-- a new object laid and tracked -/
theorem Inv.laid {a : Addr} {o : HO} {t' : Nat} (I : Inv X pins σ H s) (k : ∀ b u, s.heap.get? b = some u → h'.get? b = some u) (hp : s.heap.objs.size ≤ a) (new : ObjOk X.prog X.w (upd H a o) h' a o) :
    Inv X pins σ (upd H a o) { s with heap := h', toks := t' } := I.un (Un.laid k hp (I.hok.fresh hp)) (I.hok.laid k hp new)
/-- an object written -/
theorem Inv.write {x e : Addr} {o : HO} {t' : Nat} (I : Inv X pins σ H s) (mu : Mut (H x)) (he : e = x ∨ H e = some (.own x)) (k : ∀ b u, b ≠ e → s.heap.get? b = some u → h'.get? b = some u) (heo : ∃ u, h'.get? e = some u)
    (new : ObjOk X.prog X.w (upd H x o) h' x o) : Inv X pins σ (upd H x o) { s with heap := h', toks := t' } := I.un (Un.write mu he k heo) (I.hok.write mu he k heo new)
/-- forgetting slots, pins -/
theorem Inv.weak {σ' : List (Option V)} (I : Inv X pins σ H s) (hl : σ'.length = σ.length) (w : ∀ (i : Nat) v, σ'[i]? = some (some v) → σ[i]? = some (some v)) : Inv X pins σ' H s :=
  ⟨I.ok, I.os, I.bare, I.base, let ⟨m, hn, hl'⟩ := I.loc; ⟨m, hn, fun i x v e1 e2 e3 => hl' i x v e1 (w i v e2) e3⟩, I.cell, I.free, I.freeC, I.pin, I.hok, hl.trans I.len⟩
theorem Inv.pins_of {pins' : List (Addr × Obj)} (I : Inv X pins σ H s) (h : ∀ p ∈ pins', s.heap.get? p.1 = some p.2 ∧ H p.1 = none ∧ p.1 ≠ X.env.locals ∧ p.1 ∉ X.fs ∧ ∀ v, p.2.data ≠ .cell v) : Inv X pins' σ H s :=
  ⟨I.ok, I.os, I.bare, I.base, I.loc, I.cell, I.free, I.freeC, fun p hp => (List.mem_append.mp hp).elim (fun z => I.pin p (List.mem_append_left _ z)) (h p), I.hok, I.len⟩

theorem nodup_ix {N : List Str} (hN : N.Nodup) {i j : Nat} {x : Str} (a : N[i]? = some x) (b : N[j]? = some x) : i = j := by
  obtain ⟨h1, e1⟩ := List.getElem?_eq_some_iff.mp a
  obtain ⟨h2, e2⟩ := List.getElem?_eq_some_iff.mp b
  exact (List.getElem_inj hN).mp (e1.trans e2.symm)

/-- a name is stored; what changed -/
theorem store_ok2 {M : Model} {A : Around} {E : Value → Shared → Prop} {i : Nat} {x : Str} {v : V} {u : Value} {Q : Unit → Shared → Prop} (I : Inv X pins σ H s) (hN : X.N.Nodup) (hi : X.N[i]? = some x) (hx : Loc X.env.scope x) (r : RelV v u)
    (h : ∀ s', Inv X pins (σ.set i (some v)) H s' → (∃ a, Heap.SameBut a s.heap s'.heap ∧ (a = X.env.locals ∨ X.env.cells.lookup x = some a)) → Q () s') (hf : X.fn x = true ∨ X.env.scope.names.lookup x = some .local := by first | exact .inl rfl | exact .inr rfl | assumption) : wpAny M A (storeName X.env x u) Q E s := by
  obtain ⟨m, hn, hl⟩ := id I.loc
  have hcls : (X.env.scope.kind == .class || (X.env.scope.kind == .module && X.env.locals != X.env.globals)) = false := by rw [I.ok.kind]; rfl
  have hiσ : i < σ.length := by rw [I.len]; exact (List.getElem?_eq_some_iff.mp hi).1
  have cne := I.cne
  have tracked : ∀ {a : Addr} {h' : Heap}, (∃ o, s.heap.get? a = some o ∧ H a = none) → Heap.SameBut a s.heap h' → HOk X.prog X.w H h' := fun {a h'} ha hs b ob e => by
    obtain ⟨_, _, hfree⟩ := ha
    refine (I.hok b ob e).stay (fun c w' hc q => (hs.2 c ?_).trans q) (fun _ q => q) fun _ _ q => q
    rintro rfl
    rcases hc with rfl | hc
    · rw [hfree] at e; cases e
    · rw [hfree] at hc; cases hc
  rcases hx with hk | hk
  · refine wpAny_storeName_local hk hn (fun h' hn' hs => ?_) hcls
    obtain ⟨oL, _, _, hoL, _⟩ := id hn
    refine h _ ⟨I.ok, I.os, I.bare, ⟨fun b o e n hb hx => ?_, fun b o e n hb hx => ?_, I.base.free, fun b o e hx => ?_, I.base.tups, I.base.frzs, I.base.tbls⟩, ⟨_, hn', fun j y v' e1 e2 e3 => ?_⟩, fun y c e => ?_, I.free, I.freeC, fun p hp => ?_, tracked ⟨oL, hoL, I.free⟩ hs, by simpa using I.len⟩ ⟨_, hs, .inl rfl⟩
    · exact (hs.2 b (Nat.ne_of_lt (Nat.lt_of_lt_of_le (Heap.lt_size e) I.ok.above))).trans (I.base.keep b o e n hb hx)
    · obtain ⟨sl, e1⟩ := I.base.slot b o e n hb hx
      exact ⟨sl, (hs.2 b (Nat.ne_of_lt (Nat.lt_of_lt_of_le (Heap.lt_size e) I.ok.above))).trans e1⟩
    · obtain ⟨o', e1⟩ := I.base.there b o e hx
      exact ⟨o', (hs.2 b (Nat.ne_of_lt (Nat.lt_of_lt_of_le (Heap.lt_size e) I.ok.above))).trans e1⟩
    · by_cases hj : j = i
      · subst hj
        rw [hi] at e1; cases e1
        rw [List.getElem?_set_self hiσ] at e2
        cases e2
        exact ⟨u, r, .inl ⟨hk, by simp⟩⟩
      · rw [List.getElem?_set_ne (Ne.symm hj)] at e2
        obtain ⟨u', r', q⟩ := hl j y v' e1 e2 e3
        refine ⟨u', r', ?_⟩
        rcases q with ⟨k, e⟩ | ⟨k, c, e, z⟩
        · refine .inl ⟨k, ?_⟩
          have : y ≠ x := fun e => hj (nodup_ix hN e1 (e ▸ hi))
          simp [this, e]
        · exact .inr ⟨k, c, e, z.sameBut hs (cne y c e)⟩
    · obtain ⟨w', z⟩ := I.cell y c e
      exact ⟨w', z.sameBut hs (cne y c e)⟩
    · obtain ⟨e, n, ne, nf, d⟩ := I.pin p hp
      exact ⟨(hs.2 p.1 ne).trans e, n, ne, nf, d⟩
  · have hfn : X.fn x = true := by
      rcases hf with z | z
      · exact z
      · rw [z] at hk; cases hk
    obtain ⟨c, hc⟩ := I.ok.has x (.inl hk)
    obtain ⟨w', z⟩ := I.cell x c hc
    refine wpAny_storeName_cell I.ok.kind hk hc z (fun h' hc' hs => ?_)
    obtain ⟨oc, hoc, hocd⟩ := id z
    refine h { s with heap := h' } ⟨I.ok, I.os, I.bare, ⟨fun b o e n hb hx => ?_, fun b o e n hb hx => ?_, I.base.free, fun b o e hx => ?_, I.base.tups, I.base.frzs, I.base.tbls⟩, ⟨m, hn.sameBut hs (Ne.symm (cne x c hc)), fun j y v' e1 e2 e3 => ?_⟩, fun y c' e => ?_, I.free, I.freeC, fun p hp => ?_, tracked ⟨oc, hoc, I.freeC x c hc⟩ hs, by simpa using I.len⟩ ⟨c, hs, .inr hc⟩
    · exact (hs.2 b (Nat.ne_of_lt (Nat.lt_of_lt_of_le (Heap.lt_size e) (I.ok.cab x c hfn hc)))).trans (I.base.keep b o e n hb hx)
    · obtain ⟨sl, e1⟩ := I.base.slot b o e n hb hx
      exact ⟨sl, (hs.2 b (Nat.ne_of_lt (Nat.lt_of_lt_of_le (Heap.lt_size e) (I.ok.cab x c hfn hc)))).trans e1⟩
    · obtain ⟨o', e1⟩ := I.base.there b o e hx
      exact ⟨o', (hs.2 b (Nat.ne_of_lt (Nat.lt_of_lt_of_le (Heap.lt_size e) (I.ok.cab x c hfn hc)))).trans e1⟩
    · by_cases hj : j = i
      · subst hj
        rw [hi] at e1; cases e1
        rw [List.getElem?_set_self hiσ] at e2
        cases e2
        exact ⟨u, r, .inr ⟨.inl hk, c, hc, hc'⟩⟩
      · rw [List.getElem?_set_ne (Ne.symm hj)] at e2
        obtain ⟨u', r', q⟩ := hl j y v' e1 e2 e3
        refine ⟨u', r', ?_⟩
        rcases q with q | ⟨k, c', e, z'⟩
        · exact .inl q
        · refine .inr ⟨k, c', e, z'.sameBut hs ?_⟩
          rintro rfl
          exact hj (nodup_ix hN e1 (I.ok.inj _ _ _ e hc ▸ hi))
    · by_cases hcc : c' = c
      · subst hcc; exact ⟨_, hc'⟩
      · obtain ⟨w2, z2⟩ := I.cell y c' e
        exact ⟨w2, z2.sameBut hs hcc⟩
    · obtain ⟨e, n, ne, nf, d⟩ := I.pin p hp
      refine ⟨(hs.2 p.1 ?_).trans e, n, ne, nf, d⟩
      intro q
      rw [q, hoc] at e
      have q' : oc = p.2 := Option.some.inj e
      exact d w' (by rw [← q']; exact hocd)
theorem store_ok {M : Model} {A : Around} {E : Value → Shared → Prop} {i : Nat} {x : Str} {v : V} {u : Value} {Q : Unit → Shared → Prop} (I : Inv X pins σ H s) (hN : X.N.Nodup) (hi : X.N[i]? = some x) (hx : Loc X.env.scope x) (r : RelV v u)
    (h : ∀ s', Inv X pins (σ.set i (some v)) H s' → Q () s') (hf : X.fn x = true ∨ X.env.scope.names.lookup x = some .local := by first | exact .inl rfl | exact .inr rfl | assumption) : wpAny M A (storeName X.env x u) Q E s :=
  store_ok2 I hN hi hx r (fun s' I' _ => h s' I') hf
/-- behind a call or a block, the state as it is -/
theorem Inv.call' {s' : Shared} {ch : List Addr} (I : Inv X pins σ H s) (ho : s'.os = s.os) (u : Un (frs X.stack) ch H H' s.heap s'.heap) (hok : HOk X.prog X.w H' s'.heap) (hg : AllBare s'.gens)
    (hch : ∀ b ∈ ch, (b ∈ X.ex ∨ X.s₀.heap.objs.size ≤ b) ∧ b ≠ X.env.locals ∧ (∀ x c, X.env.cells.lookup x = some c → c ≠ b) ∧ ∀ p ∈ X.pn ++ pins, p.1 ≠ b) : Inv X pins σ H' s' := by
  obtain ⟨h', g', d', t', o'⟩ := s'
  have e : o' = s.os := ho
  subst e
  exact I.call (g' := g') (t' := t') (d' := d') u hok hg hch
end

/-! ### the judgements -/
/-- an exception: its class, its own dict's address (where it has one), the abstract heap behind it -/
abbrev XK := Value → Option Addr → Hp → Prop
abbrev St := List (Option V)
abbrev VK := V → Hp → Prop
/-- an expression's reading; a test's; an argument list's -/
abbrev TE := St → Hp → VK → Prop
abbrev TT := St → Hp → (Bool → Hp → Prop) → Prop
abbrev TA := St → Hp → (List V → Hp → Prop) → Prop
/-- what is wanted behind a statement -/
structure Ends where
  nx : St → Hp → Prop
  rt : VK
  bk : St → Hp → Prop := fun _ _ => False
  ct : St → Hp → Prop := fun _ _ => False
abbrev TS := Ends → St → Hp → Prop

def EP (X : Cx) (pins : List (Addr × Obj)) (σ : St) (Q : VK) (u : Value) (s' : Shared) : Prop := ∃ v H', Inv X pins σ H' s' ∧ RelV v u ∧ Q v H'
def TP (X : Cx) (pins : List (Addr × Obj)) (σ : St) (Q : Bool → Hp → Prop) (b : Bool) (s' : Shared) : Prop := ∃ H', Inv X pins σ H' s' ∧ Q b H'
def AP (X : Cx) (pins : List (Addr × Obj)) (σ : St) (Q : List V → Hp → Prop) (us : List Value) (s' : Shared) : Prop := ∃ vs H', Inv X pins σ H' s' ∧ Vals vs us ∧ Q vs H'
def SP (X : Cx) (pins : List (Addr × Obj)) (D : Ends) (f : Flow) (s' : Shared) : Prop :=
  match f with
  | .next => ∃ σ' H', Inv X pins σ' H' s' ∧ D.nx σ' H'
  | .brk => ∃ σ' H', Inv X pins σ' H' s' ∧ D.bk σ' H'
  | .cont => ∃ σ' H', Inv X pins σ' H' s' ∧ D.ct σ' H'
  | .ret u => ∃ v σ' H', Inv X pins σ' H' s' ∧ RelV v u ∧ D.rt v H'

def PE (X : Cx) (e : Expr) (t : TE) : Prop :=
  ∀ (pins : List (Addr × Obj)) (s : Shared) (σ : St) (H : Hp) (Q : VK), Inv X pins σ H s → t σ H Q → wpAny (model X.prog X.w) X.A (eval e X.env) (EP X pins σ Q) X.xe s
def PT (X : Cx) (e : Expr) (t : TT) : Prop :=
  ∀ (pins : List (Addr × Obj)) (s : Shared) (σ : St) (H : Hp) (Q : Bool → Hp → Prop), Inv X pins σ H s → t σ H Q → wpAny (model X.prog X.w) X.A (isTrue e X.env (eval e X.env)) (TP X pins σ Q) X.xe s
/-- a test whatever its 'whole' is (and, or) -/
def PW (X : Cx) (e : Expr) (t : TT) : Prop :=
  ∀ (whole : Sem Value) (pins : List (Addr × Obj)) (s : Shared) (σ : St) (H : Hp) (Q : Bool → Hp → Prop), Inv X pins σ H s → t σ H Q → wpAny (model X.prog X.w) X.A (isTrue e X.env whole) (TP X pins σ Q) X.xe s
theorem PW.pt {X : Cx} {e : Expr} {t : TT} (h : PW X e t) : PT X e t := h _
/-- an argument list (no star), from the left -/
def PA (X : Cx) (es : List Expr) (t : TA) : Prop :=
  ∀ (pos : Pos) (pins : List (Addr × Obj)) (s : Shared) (σ : St) (H : Hp) (Q : List V → Hp → Prop), Inv X pins σ H s → t σ H Q → wpAny (model X.prog X.w) X.A (spliced (backTo pos (starEach es X.env))) (AP X pins σ Q) X.xe s
def PS (X : Cx) (st : Stmt) (t : TS) : Prop :=
  ∀ (pins : List (Addr × Obj)) (s : Shared) (σ : St) (H : Hp) (D : Ends), Inv X pins σ H s → t D σ H → wpAny (model X.prog X.w) X.A (exec st X.env) (SP X pins D) X.xe s
def PSs (X : Cx) (st : List Stmt) (t : TS) : Prop :=
  ∀ (pins : List (Addr × Obj)) (s : Shared) (σ : St) (H : Hp) (D : Ends), Inv X pins σ H s → t D σ H → wpAny (model X.prog X.w) X.A (execs st X.env) (SP X pins D) X.xe s
/-- weaken the end -/
theorem thn {α : Type} {t : Sem α} {Q Q' : α → Shared → Prop} {M : Model} {A : Around} {E : Value → Shared → Prop} {s : Shared} (h : wpAny M A t Q E s) (hQ : ∀ a s, Q a s → Q' a s) : wpAny M A t Q' E s := wpAny_mono h hQ fun _ _ x => x
end L2

namespace L2
open PySem PySem.Spec PyProof.Rows
section
variable {X : Cx}

/-- two expressions in a row -/
theorem bin {a b : Expr} {ta tb : TE} (ha : PE X a ta) (hb : PE X b tb) {pins : List (Addr × Obj)} {s : Shared} {σ : St} {H : Hp} {R : V → V → Hp → Prop} (I : Inv X pins σ H s) (h : ta σ H fun x H1 => tb σ H1 fun y H2 => R x y H2)
    {α : Type} {Q : α → Shared → Prop} {f : Value → Value → Sem α}
    (hf : ∀ v u s2 x y H2, Inv X pins σ H2 s2 → RelV x v → RelV y u → R x y H2 → wpAny (model X.prog X.w) X.A (f v u) Q X.xe s2) :
    wpAny (model X.prog X.w) X.A (eval a X.env) (fun v s₁ => wpAny (model X.prog X.w) X.A (eval b X.env) (fun u s₂ => wpAny (model X.prog X.w) X.A (f v u) Q X.xe s₂) X.xe s₁) X.xe s := by
  refine thn (ha pins s σ H _ I h) fun v s1 ⟨x, H1, I1, r1, q1⟩ => ?_
  refine thn (hb pins s1 σ H1 _ I1 q1) fun u s2 ⟨y, H2, I2, r2, q2⟩ => ?_
  exact hf v u s2 x y H2 I2 r1 r2 q2

/-! ### names and constants -/
def tVar (i : Nat) : TE := fun σ H Q => ∃ v, σ[i]? = some (some v) ∧ Q v H
def tC (v : V) : TE := fun _ H Q => Q v H
theorem pe_var {i : Nat} {x : Str} {pos : Pos} (hN : X.N[i]? = some x) (hv : Vis X.env.scope x) (hd : (x == ("__debug__" : Str)) = false := by decide) (hcd : (x == ("__classdict__" : Str)) = false := by decide) : PE X (.Name x pos) (tVar i) := by
  intro pins s σ H Q I h
  obtain ⟨v, e, h⟩ := h
  obtain ⟨m, hn, hl⟩ := I.loc
  obtain ⟨u, r, l⟩ := hl i x v hN e hv
  have fin : EP X pins σ Q u s := ⟨v, H, I, r, h⟩
  rcases l with ⟨hk, hm⟩ | ⟨hk, c, hc, hcell⟩
  · exact wpAny_Name (wpAny_loadName_local I.ok.kind hk hn hm fin) hd
  · rcases hk with hk | hk
    · exact wpAny_Name (wpAny_loadName_cell I.ok.kind hk hc hcell fin) hd
    · exact wpAny_Name (wpAny_loadName_free I.ok.kind hk hc hcell fin hcd) hd
theorem pe_int {i j pos} : PE X (.Constant (.int i) j pos) (tC (.int i)) := fun _ _ _ H _ I h => wpAny_Constant_int ⟨.int i, H, I.tok _, ⟨_, rfl⟩, h⟩
theorem pe_bl {b j pos} : PE X (.Constant (.bool b) j pos) (tC (.bl b)) := fun _ _ _ H _ I h => Constant_bool ⟨.bl b, H, I, rfl, h⟩
theorem pe_non {j pos} : PE X (.Constant .none j pos) (tC .non) := fun _ _ _ H _ I h => Constant_none ⟨.non, H, I, rfl, h⟩
theorem pe_str {x j pos} : PE X (.Constant (.str x) j pos) (tC (.str x)) := fun _ _ _ H _ I h => Calls.Constant_str ⟨.str x, H, I.tok _, ⟨_, rfl⟩, h⟩

/-- a global name of the def -/
def Gl (X : Cx) (x : Str) : Prop := X.env.kindOf x = some .globalImplicit
theorem ld_glob {E : Value → Shared → Prop} {pins : List (Addr × Obj)} {s : Shared} {σ : St} {H : Hp} {x : Str} {u : Value} {pos : Pos} {Q : Value → Shared → Prop} (I : Inv X pins σ H s) (hg : Gl X x) (hm : X.mg x = some u) (h : Q u s)
    (hd : (x == ("__debug__" : Str)) = false := by decide) : wpAny (model X.prog X.w) X.A (eval (.Name x pos) X.env) Q E s :=
  Calls.Name_function_global I.ok.kind hg (Calls.loadGlobal_global (by rw [I.ok.glob]; exact I.mod.glob.keeps I.bk) hm h) hd
theorem ld_blt {E : Value → Shared → Prop} {pins : List (Addr × Obj)} {s : Shared} {σ : St} {H : Hp} {x : Str} {u : Value} {pos : Pos} {Q : Value → Shared → Prop} (I : Inv X pins σ H s) (hg : Gl X x) (hm : X.mg x = none) (hv : bootBuiltins x = some u) (h : Q u s)
    (hn : x ≠ "__name__" := by decide) (hd : (x == ("__debug__" : Str)) = false := by decide) : wpAny (model X.prog X.w) X.A (eval (.Name x pos) X.env) Q E s := by
  obtain ⟨mb, h1, h2⟩ := I.mod.blt
  exact Calls.Name_function_global I.ok.kind hg (Calls.loadGlobal_builtin (by rw [I.ok.glob]; exact I.mod.glob.keeps I.bk) hm (by rw [I.ok.blt]; exact h1.keeps I.bk) ((h2 x hn).trans hv) h) hd
/-- a module's constant, a class, a function, as a value -/
theorem pe_glob {x : Str} {v : V} {u : Value} {pos : Pos} (hg : Gl X x) (hm : X.mg x = some u) (r : RelV v u) (hd : (x == ("__debug__" : Str)) = false := by decide) : PE X (.Name x pos) (tC v) :=
  fun _ _ _ H _ I h => ld_glob I hg hm ⟨v, H, I, r, h⟩ hd
theorem pe_bltn {x : Str} {v : V} {u : Value} {pos : Pos} (hg : Gl X x) (hm : X.mg x = none) (hv : bootBuiltins x = some u) (r : RelV v u) (hn : x ≠ "__name__" := by decide) (hd : (x == ("__debug__" : Str)) = false := by decide) : PE X (.Name x pos) (tC v) :=
  fun _ _ _ H _ I h => ld_blt I hg hm hv ⟨v, H, I, r, h⟩ hn hd

/-! ### arithmetic -/
/-- two ints -/
def t2I (ta tb : TE) (k : Int → Int → Hp → Prop) : St → Hp → Prop := fun σ H => ta σ H fun x H1 => tb σ H1 fun y H2 => ∃ i j, x = .int i ∧ y = .int j ∧ k i j H2
def tAdd (ta tb : TE) : TE := fun σ H Q => t2I ta tb (fun i j H2 => Q (.int (i + j)) H2) σ H
def tSub (ta tb : TE) : TE := fun σ H Q => t2I ta tb (fun i j H2 => Q (.int (i - j)) H2) σ H
/-- the left factor below 2^64 -/
def tMul (ta tb : TE) : TE := fun σ H Q => t2I ta tb (fun i j H2 => (-(2 ^ 64) < i ∧ i < 2 ^ 64) ∧ Q (.int (i * j)) H2) σ H
variable {a b : Expr} {ta tb : TE} {pos : Pos}
theorem pe_add (ha : PE X a ta) (hb : PE X b tb) : PE X (.BinOp a .Add b pos) (tAdd ta tb) := by
  intro pins s σ H Q I h
  refine wpAny_BinOp (bin ha hb I h fun v u s2 x y H2 I2 rx ry q => ?_)
  obtain ⟨i, j, rfl, rfl, q⟩ := q
  obtain ⟨t, rfl⟩ := rx
  obtain ⟨t', rfl⟩ := ry
  exact add_int ⟨.int _, H2, I2.tok _, ⟨_, rfl⟩, q⟩
theorem pe_sub (ha : PE X a ta) (hb : PE X b tb) : PE X (.BinOp a .Sub b pos) (tSub ta tb) := by
  intro pins s σ H Q I h
  refine wpAny_BinOp (bin ha hb I h fun v u s2 x y H2 I2 rx ry q => ?_)
  obtain ⟨i, j, rfl, rfl, q⟩ := q
  obtain ⟨t, rfl⟩ := rx
  obtain ⟨t', rfl⟩ := ry
  exact sub_int ⟨.int _, H2, I2.tok _, ⟨_, rfl⟩, q⟩
theorem pe_mul (ha : PE X a ta) (hb : PE X b tb) : PE X (.BinOp a .Mult b pos) (tMul ta tb) := by
  intro pins s σ H Q I h
  refine wpAny_BinOp (bin ha hb I h fun v u s2 x y H2 I2 rx ry q => ?_)
  obtain ⟨i, j, rfl, rfl, ⟨q1, q2⟩, q⟩ := q
  obtain ⟨t, rfl⟩ := rx
  obtain ⟨t', rfl⟩ := ry
  exact mul_int ⟨.int _, H2, I2.tok _, ⟨_, rfl⟩, q⟩ (.of_left (intBits_le_64 q1 q2))

/-! ### comparisons -/
def PC (X : Cx) (op : CmpOp) (a b : Expr) (t : TE) : Prop :=
  ∀ (pins : List (Addr × Obj)) (s : Shared) (σ : St) (H : Hp) (Q : VK), Inv X pins σ H s → t σ H Q →
    wpAny (model X.prog X.w) X.A (eval a X.env) (fun v s₁ => wpAny (model X.prog X.w) X.A (eval b X.env) (fun u s₂ => wpAny (model X.prog X.w) X.A (compareOp op v u) (EP X pins σ Q) X.xe s₂) X.xe s₁) X.xe s
theorem nobehind (b : Expr) {op : CmpOp} (h : op ≠ .In) (h2 : op ≠ .NotIn) : behindInMarks op b = false := by
  have e1 : (op == CmpOp.In) = false := by cases op <;> first | rfl | exact absurd rfl h
  have e2 : (op == CmpOp.NotIn) = false := by cases op <;> first | rfl | exact absurd rfl h2
  cases b <;> simp [behindInMarks, e1, e2]
def tCmp (p : Int → Int → Bool) (ta tb : TE) : TE := fun σ H Q => t2I ta tb (fun i j H2 => Q (.bl (p i j)) H2) σ H
abbrev tLt : TE → TE → TE := tCmp fun i j => decide (i < j)
abbrev tLe : TE → TE → TE := tCmp fun i j => decide (i ≤ j)
abbrev tGt : TE → TE → TE := tCmp fun i j => decide (j < i)
abbrev tGe : TE → TE → TE := tCmp fun i j => decide (j ≤ i)
abbrev tEqI : TE → TE → TE := tCmp fun i j => decide (i = j)
abbrev tNeI : TE → TE → TE := tCmp fun i j => !decide (i = j)
/-- a comparison of two ints, by its rule -/
theorem pc_int {op : CmpOp} {p : Int → Int → Bool} (ha : PE X a ta) (hb : PE X b tb)
    (rule : ∀ (i j : Int) (t u : Tok) (Q : Value → Shared → Prop) (s : Shared), Q (.bool (p i j)) s → wpAny (model X.prog X.w) X.A (compareOp op (.int i t) (.int j u)) Q X.xe s) : PC X op a b (tCmp p ta tb) := by
  intro pins s σ H Q I h
  refine bin ha hb I h fun v u s2 x y H2 I2 rx ry q => ?_
  obtain ⟨i, j, rfl, rfl, q⟩ := q
  obtain ⟨t, rfl⟩ := rx
  obtain ⟨t', rfl⟩ := ry
  exact rule i j t t' _ s2 ⟨.bl _, H2, I2, rfl, q⟩
theorem pc_lt (ha : PE X a ta) (hb : PE X b tb) : PC X .Lt a b (tLt ta tb) := pc_int ha hb fun _ _ _ _ _ _ h => lt_int h
theorem pc_le (ha : PE X a ta) (hb : PE X b tb) : PC X .LtE a b (tLe ta tb) := pc_int ha hb fun _ _ _ _ _ _ h => le_int h
theorem pc_gt (ha : PE X a ta) (hb : PE X b tb) : PC X .Gt a b (tGt ta tb) := pc_int ha hb fun _ _ _ _ _ _ h => gt_int h
theorem pc_ge (ha : PE X a ta) (hb : PE X b tb) : PC X .GtE a b (tGe ta tb) := pc_int ha hb fun _ _ _ _ _ _ h => ge_int h
theorem pc_eqI (ha : PE X a ta) (hb : PE X b tb) : PC X .Eq a b (tEqI ta tb) := pc_int ha hb fun _ _ _ _ _ _ h => eq_int (by rw [Bool.beq_eq_decide_eq]; exact h)
theorem pc_neI (ha : PE X a ta) (hb : PE X b tb) : PC X .NotEq a b (tNeI ta tb) := pc_int ha hb fun _ _ _ _ _ _ h => ne_int (by rw [bne, Bool.beq_eq_decide_eq]; exact h)
/-- is None -/
def tIsN (ta : TE) : TE := fun σ H Q => ta σ H fun x H1 => Q (.bl (decide (x = .non))) H1
def tNotN (ta : TE) : TE := fun σ H Q => ta σ H fun x H1 => Q (.bl (!decide (x = .non))) H1
theorem RelV.none_iff {x : V} {v : Value} (r : RelV x v) : (v == Value.none) = decide (x = .non) := by
  cases x with
  | non => cases r; rfl
  | bl _ => cases r; rfl
  | int _ => obtain ⟨t, rfl⟩ := r; rfl
  | str _ => obtain ⟨t, rfl⟩ := r; rfl
  | byt _ => obtain ⟨t, rfl⟩ := r; rfl
  | flt _ => obtain ⟨t, rfl⟩ := r; rfl
  | ref _ => cases r; rfl
  | ty _ => cases r; rfl
theorem pc_isN {j pos'} (ha : PE X a ta) : PC X .Is a (.Constant .none j pos') (tIsN ta) := by
  intro pins s σ H Q I h
  refine thn (ha pins s σ H _ I h) fun v s1 ⟨x, H1, I1, r1, q1⟩ => ?_
  exact Constant_none (is_none_gen ⟨.bl _, H1, I1, by rw [r1.none_iff]; rfl, q1⟩)
theorem pc_notN {j pos'} (ha : PE X a ta) : PC X .IsNot a (.Constant .none j pos') (tNotN ta) := by
  intro pins s σ H Q I h
  refine thn (ha pins s σ H _ I h) fun v s1 ⟨x, H1, I1, r1, q1⟩ => ?_
  exact Constant_none (isnot_none_gen ⟨.bl _, H1, I1, by rw [r1.none_iff]; rfl, q1⟩)
/-- a comparison as a value, as a test -/
def tB (t : TE) : TT := fun σ H Q => t σ H fun x H1 => ∃ c, x = .bl c ∧ Q c H1
theorem pe_cmp {op : CmpOp} {t : TE} (h : PC X op a b t) (h1 : behindInMarks op b = false := by first | exact nobehind _ (by decide) (by decide) | rfl) : PE X (.Compare a [op] [b] pos) t := fun pins s σ H Q I hw => wpAny_Compare1 (h pins s σ H Q I hw) h1
theorem pt_cmp {op : CmpOp} {t : TE} (h : PC X op a b t) (h1 : behindInMarks op b = false := by first | exact nobehind _ (by decide) (by decide) | rfl) : PT X (.Compare a [op] [b] pos) (tB t) := by
  intro pins s σ H Q I hw
  refine wpAny_isTrue_Compare1 (thn (h pins s σ H _ I hw) fun v s1 h1 => thn h1 fun u s2 h2 => thn h2 fun c s3 ⟨x, H1, I1, r1, q1⟩ => ?_) h1
  obtain ⟨d, rfl, q⟩ := q1
  cases r1
  exact wpAny_truthy_bool ⟨H1, I1, q⟩
/-- an expression whose value is a bool, as a test -/
theorem pt_val {e : Expr} {t : TE} (h : PE X e t) (he : ∀ whole, isTrue e X.env whole = (do let v ← whole; standAt e.pos; holding [v] (truthy v)) := by intro _; rfl) : PT X e (tB t) := by
  intro pins s σ H Q I hw
  refine isTrue_plain (thn (h pins s σ H _ I hw) fun v s1 ⟨x, H1, I1, r1, q1⟩ => ?_) (he _)
  obtain ⟨d, rfl, q⟩ := q1
  cases r1
  exact wpAny_truthy_bool ⟨H1, I1, q⟩

/-! ### and, or, not -/
variable {tA tB' : TT} {rest : List Expr}
def tAnd (t u : TT) : TT := fun σ H Q => t σ H fun c H1 => if c = true then u σ H1 Q else Q false H1
def tOr (t u : TT) : TT := fun σ H Q => t σ H fun c H1 => if c = true then Q true H1 else u σ H1 Q
def tNot (t : TT) : TT := fun σ H Q => t σ H fun c H1 => Q (!c) H1
theorem pw_and1 (ha : PT X a tA) : PW X (.BoolOp .And [a] pos) tA := by
  intro wh pins s σ H Q I h
  refine isTrue_and (thn (ha pins s σ H Q I h) fun c s1 e => ?_)
  cases c with
  | true => exact isTrue_and_nil e
  | false => exact e
theorem pw_or1 (ha : PT X a tA) : PW X (.BoolOp .Or [a] pos) tA := by
  intro wh pins s σ H Q I h
  refine isTrue_or (thn (ha pins s σ H Q I h) fun c s1 e => ?_)
  cases c with
  | false => exact isTrue_or_nil e
  | true => exact e
theorem pw_and (ha : PT X a tA) (hb : PW X (.BoolOp .And (b :: rest) pos) tB') : PW X (.BoolOp .And (a :: b :: rest) pos) (tAnd tA tB') := by
  intro wh pins s σ H Q I h
  refine isTrue_and (thn (ha pins s σ H _ I h) fun c s1 ⟨H1, I1, q1⟩ => ?_)
  cases c with
  | true => exact hb wh pins s1 σ H1 Q I1 q1
  | false => exact ⟨H1, I1, q1⟩
theorem pw_or (ha : PT X a tA) (hb : PW X (.BoolOp .Or (b :: rest) pos) tB') : PW X (.BoolOp .Or (a :: b :: rest) pos) (tOr tA tB') := by
  intro wh pins s σ H Q I h
  refine isTrue_or (thn (ha pins s σ H _ I h) fun c s1 ⟨H1, I1, q1⟩ => ?_)
  cases c with
  | true => exact ⟨H1, I1, q1⟩
  | false => exact hb wh pins s1 σ H1 Q I1 q1
theorem pt_not (ha : PT X a tA) : PT X (.UnaryOp .Not a pos) (tNot tA) := by
  intro pins s σ H Q I h
  exact isTrue_not (ha pins s σ H (fun c H1 => Q (!c) H1) I h)
/-- .. as values (bools) -/
def tAndV (ta tb : TE) : TE := fun σ H Q => ta σ H fun x H1 => ∃ c, x = .bl c ∧ if c = true then tb σ H1 Q else Q (.bl false) H1
def tOrV (ta tb : TE) : TE := fun σ H Q => ta σ H fun x H1 => ∃ c, x = .bl c ∧ if c = true then Q (.bl true) H1 else tb σ H1 Q
def tNotV (ta : TE) : TE := fun σ H Q => ta σ H fun x H1 => ∃ c, x = .bl c ∧ Q (.bl (!c)) H1
theorem pe_one {op} {t : TE} (h : PE X a t) : PE X (.BoolOp op [a] pos) t := fun pins s σ H Q I hw => BoolOp_one (h pins s σ H Q I hw)
theorem pe_and (ha : PE X a ta) (hb : PE X (.BoolOp .And (b :: rest) pos) tb) : PE X (.BoolOp .And (a :: b :: rest) pos) (tAndV ta tb) := by
  intro pins s σ H Q I h
  refine BoolOp_and (thn (ha pins s σ H _ I h) fun v s1 ⟨x, H1, I1, r1, q1⟩ => ?_)
  obtain ⟨c, rfl, q1⟩ := q1
  cases r1
  refine wpAny_truthy_bool ?_
  cases c with
  | true => exact hb pins s1 σ H1 Q I1 q1
  | false => exact ⟨.bl false, H1, I1, rfl, q1⟩
theorem pe_or (ha : PE X a ta) (hb : PE X (.BoolOp .Or (b :: rest) pos) tb) : PE X (.BoolOp .Or (a :: b :: rest) pos) (tOrV ta tb) := by
  intro pins s σ H Q I h
  refine BoolOp_or (thn (ha pins s σ H _ I h) fun v s1 ⟨x, H1, I1, r1, q1⟩ => ?_)
  obtain ⟨c, rfl, q1⟩ := q1
  cases r1
  refine wpAny_truthy_bool ?_
  cases c with
  | false => exact hb pins s1 σ H1 Q I1 q1
  | true => exact ⟨.bl true, H1, I1, rfl, q1⟩
theorem pe_not (ha : PE X a ta) : PE X (.UnaryOp .Not a pos) (tNotV ta) := by
  intro pins s σ H Q I h
  refine UnaryOp_ (thn (ha pins s σ H _ I h) fun v s1 ⟨x, H1, I1, r1, q1⟩ => ?_)
  obtain ⟨c, rfl, q1⟩ := q1
  cases r1
  exact not_of (wpAny_truthy_bool ⟨.bl (!c), H1, I1, rfl, q1⟩)
/-- a if t else b -/
def tIf (t : TT) (ta tb : TE) : TE := fun σ H Q => t σ H fun c H1 => if c = true then ta σ H1 Q else tb σ H1 Q
theorem pe_ifExp {c : Expr} (hc : PT X c tA) (ha : PE X a ta) (hb : PE X b tb) : PE X (.IfExp c a b pos) (tIf tA ta tb) := by
  intro pins s σ H Q I h
  refine wpAny_IfExp (thn (hc pins s σ H _ I h) fun d s1 ⟨H1, I1, q1⟩ => ?_)
  cases d with
  | true => exact ha pins s1 σ H1 Q I1 q1
  | false => exact hb pins s1 σ H1 Q I1 q1
end
end L2

namespace L2
open PySem PySem.Spec PyProof.Rows

/-! ### a list, a tuple that is read: tracked, frozen, or an object of the module -/
def SqL (K : PySem.W.Frag) (H : Hp) (a : Addr) (xs : List V) : Prop :=
  Rd H a (.lst xs) ∨
    ∃ (o : Obj) (its : Array Value) (n : Nat), K.lookup a = some o ∧ o.cls = .type "list" ∧ o.dict = none ∧ o.data = .seq its n ∧ its.size ≤ sizeLine ∧ Vals xs its.toList
def SqT (K : PySem.W.Frag) (H : Hp) (a : Addr) (xs : List V) : Prop :=
  Rd H a (.tup xs) ∨
    ∃ (o : Obj) (its : Array Value) (n : Nat), K.lookup a = some o ∧ o.cls = .type "tuple" ∧ o.data = .seq its n ∧ its.size ≤ sizeLine ∧ Vals xs its.toList
def absV : Value → Option V
  | .none => some .non
  | .bool b => some (.bl b)
  | .int i _ => some (.int i)
  | .str x _ => some (.str x)
  | .bytes b _ => some (.byt b)
  | .float b _ => some (.flt b)
  | .ref a => some (.ref a)
  | .type n => some (.ty n)
  | _ => none
theorem RelV.abs {x : V} {u : Value} (r : RelV x u) : absV u = some x := by
  cases x with
  | non => cases r; rfl
  | bl _ => cases r; rfl
  | int _ => obtain ⟨t, rfl⟩ := r; rfl
  | str _ => obtain ⟨t, rfl⟩ := r; rfl
  | byt _ => obtain ⟨t, rfl⟩ := r; rfl
  | flt _ => obtain ⟨t, rfl⟩ := r; rfl
  | ref _ => cases r; rfl
  | ty _ => cases r; rfl
theorem RelV.inj {x y : V} {u : Value} (r : RelV x u) (q : RelV y u) : x = y := Option.some.inj (r.abs.symm.trans q.abs)
theorem Vals.inj : ∀ {xs ys : List V} {us : List Value}, Vals xs us → Vals ys us → xs = ys
  | _, _, _, .nil, .nil => rfl
  | _, _, _, .cons r t, .cons r' t' => by rw [r.inj r', Vals.inj t t']
section
variable {X : Cx} {pins : List (Addr × Obj)} {σ : St} {H : Hp} {s : Shared} {a : Addr} {xs ys : List V}
theorem SqL.of {K : PySem.W.Frag} (h : H a = some (.lst xs)) : SqL K H a xs := .inl (.inl h)
theorem SqT.of {K : PySem.W.Frag} (h : H a = some (.tup xs)) : SqT K H a xs := .inl (.inl h)
theorem Inv.list (I : Inv X pins σ H s) (h : SqL X.K H a xs) : ∃ its : List Value, Vals xs its ∧ PlainL s.heap a its.toArray ∧ xs.length ≤ sizeLine := by
  rcases h with h | ⟨o, its, n, hk, hc, hd, hs, hz, r⟩
  · obtain ⟨z, its, n, r, e⟩ := h.ok I.hok
    exact ⟨its, r, ⟨_, n, e, rfl, rfl, rfl⟩, z⟩
  · refine ⟨its.toList, r, ⟨o, n, I.kIn a o hk, hc, hd, by simpa using hs⟩, ?_⟩
    have e := r.length
    simp only [Array.length_toList] at e
    omega
theorem Inv.tuple (I : Inv X pins σ H s) (h : SqT X.K H a xs) : ∃ its : List Value, Vals xs its ∧ IsTup s.heap a its.toArray ∧ xs.length ≤ sizeLine := by
  rcases h with h | ⟨o, its, n, hk, hc, hs, hz, r⟩
  · obtain ⟨z, its, r, p⟩ := h.ok I.hok
    exact ⟨its, r, p, z⟩
  · refine ⟨its.toList, r, ⟨o, I.kIn a o hk, hc, n, by simpa using hs⟩, ?_⟩
    have e := r.length
    simp only [Array.length_toList] at e
    omega
theorem Inv.list_inj (I : Inv X pins σ H s) (h : SqL X.K H a xs) (h' : SqL X.K H a ys) : xs = ys := by
  obtain ⟨its, r, ⟨o, n, e, _, _, d⟩, _⟩ := I.list h
  obtain ⟨its', r', ⟨o', n', e', _, _, d'⟩, _⟩ := I.list h'
  rw [e] at e'; cases e'
  rw [d] at d'
  injection d' with d1 _
  have : its = its' := by simpa using congrArg Array.toList d1
  subst this
  exact r.inj r'
theorem Inv.tuple_inj (I : Inv X pins σ H s) (h : SqT X.K H a xs) (h' : SqT X.K H a ys) : xs = ys := by
  obtain ⟨its, r, ⟨o, e, _, n, d⟩, _⟩ := I.tuple h
  obtain ⟨its', r', ⟨o', e', _, n', d'⟩, _⟩ := I.tuple h'
  rw [e] at e'; cases e'
  rw [d] at d'
  injection d' with d1 _
  have : its = its' := by simpa using congrArg Array.toList d1
  subst this
  exact r.inj r'
end

/-! ### another wish about exceptions -/
abbrev Cx.wish (X : Cx) (E : Value → Shared → Prop) : Cx := { X with xe := E }
/-- no exception leaves -/
abbrev Cx.nox (X : Cx) : Cx := X.wish fun _ _ => False
theorem Cx.Ok.wish {X : Cx} (ok : X.Ok) (E : Value → Shared → Prop) : (X.wish E).Ok :=
  ⟨ok.mod, ok.kind, ok.glob, ok.blt, ok.above, ok.inj, ok.has, ok.cab, ok.hd, ok.frames, ok.stk, ok.exf, ok.bs, ok.bsz, ok.noex, ok.exfs, ok.funs, ok.frf⟩
theorem Cx.Ok.unwish {X : Cx} {E : Value → Shared → Prop} (ok : (X.wish E).Ok) : X.Ok :=
  ⟨ok.mod, ok.kind, ok.glob, ok.blt, ok.above, ok.inj, ok.has, ok.cab, ok.hd, ok.frames, ok.stk, ok.exf, ok.bs, ok.bsz, ok.noex, ok.exfs, ok.funs, ok.frf⟩
section
variable {X : Cx} {pins : List (Addr × Obj)} {σ : St} {H : Hp} {s : Shared} {E : Value → Shared → Prop}
theorem Inv.wish (I : Inv X pins σ H s) (E : Value → Shared → Prop) : Inv (X.wish E) pins σ H s := ⟨I.ok.wish E, I.os, I.bare, I.base, I.loc, I.cell, I.free, I.freeC, I.pin, I.hok, I.len⟩
theorem Inv.unwish (I : Inv (X.wish E) pins σ H s) : Inv X pins σ H s := ⟨I.ok.unwish, I.os, I.bare, I.base, I.loc, I.cell, I.free, I.freeC, I.pin, I.hok, I.len⟩
theorem SP.unwish {D : Ends} {f : Flow} {s' : Shared} (h : SP (X.wish E) pins D f s') : SP X pins D f s' := by
  cases f with
  | next => obtain ⟨σ', H', I, q⟩ := h; exact ⟨σ', H', I.unwish, q⟩
  | brk => obtain ⟨σ', H', I, q⟩ := h; exact ⟨σ', H', I.unwish, q⟩
  | cont => obtain ⟨σ', H', I, q⟩ := h; exact ⟨σ', H', I.unwish, q⟩
  | ret u => obtain ⟨v, σ', H', I, r, q⟩ := h; exact ⟨v, σ', H', I.unwish, r, q⟩
theorem PE.nox {e : Expr} {t : TE} (h : PE X.nox e t) : PE X e t := fun pins s σ H Q I hw =>
  wpAny_mono (h pins s σ H Q (I.wish _) hw) (fun _ _ ⟨v, H', I', r, q⟩ => ⟨v, H', I'.unwish, r, q⟩) fun _ _ z => False.elim z
theorem PT.nox {e : Expr} {t : TT} (h : PT X.nox e t) : PT X e t := fun pins s σ H Q I hw =>
  wpAny_mono (h pins s σ H Q (I.wish _) hw) (fun _ _ ⟨H', I', q⟩ => ⟨H', I'.unwish, q⟩) fun _ _ z => False.elim z
theorem PSs.nox {st : List Stmt} {t : TS} (h : PSs X.nox st t) : PSs X st t := fun pins s σ H D I hw =>
  wpAny_mono (h pins s σ H D (I.wish _) hw) (fun _ _ q => q.unwish) fun _ _ z => False.elim z
end

/-! ### blocks and small statements -/
section
variable {X : Cx} {st : Stmt} {rest : List Stmt} {t u : TS} {e : Expr} {te : TE} {pos : Pos}
def tNext : TS := fun D σ H => D.nx σ H
def tSeq (t u : TS) : TS := fun D σ H => t { D with nx := u D } σ H
theorem pss_nil : PSs X [] tNext := fun _ _ σ H _ I h => wpAny_execs_nil ⟨σ, H, I, h⟩
theorem pss_cons (h1 : PS X st t) (h2 : PSs X rest u) : PSs X (st :: rest) (tSeq t u) := by
  intro pins s σ H D I h
  refine wpAny_execs_cons (thn (h1 pins s σ H { D with nx := u D } I h) fun f s1 q => ?_)
  cases f with
  | next =>
    obtain ⟨σ', H', I', q⟩ := q
    exact h2 pins s1 σ' H' D I' q
  | ret v => exact q
  | brk => exact q
  | cont => exact q
theorem pss_one (h1 : PS X st t) : PSs X [st] t := by
  intro pins s σ H D I h
  refine wpAny_execs_cons (thn (h1 pins s σ H D I h) fun f s1 q => ?_)
  cases f with
  | next => exact wpAny_execs_nil q
  | ret v => exact q
  | brk => exact q
  | cont => exact q
def tBreak : TS := fun D σ H => D.bk σ H
def tCont : TS := fun D σ H => D.ct σ H
theorem ps_pass : PS X (.Pass pos) tNext := fun _ _ σ H _ I h => wpAny_Pass ⟨σ, H, I, h⟩
theorem ps_break : PS X (.Break pos) tBreak := fun _ _ σ H _ I h => wpAny_Break ⟨σ, H, I, h⟩
theorem ps_continue : PS X (.Continue pos) tCont := fun _ _ σ H _ I h => wpAny_Continue ⟨σ, H, I, h⟩
/-- in a def's body nothing is shown -/
theorem Inv.quiet {pins : List (Addr × Obj)} {σ : St} {H : Hp} {s : Shared} (I : Inv X pins σ H s) : interactive X.env = false := by simp [interactive, I.ok.kind]
/-- a docstring -/
theorem ps_doc {x j pos pos'} : PS X (.Expr (.Constant (.str x) j pos) pos') tNext := fun _ s σ H _ I h => wpAny_Expr (Calls.Constant_str (show SP X _ _ .next { s with toks := s.toks + 1 } from ⟨σ, H, I.tok _, h⟩)) I.quiet
/-- an expression whose value is dropped -/
def tDrop (te : TE) : TS := fun D σ H => te σ H fun _ H1 => D.nx σ H1
theorem ps_expr (he : PE X e te) (hs : swapsWith e none pos.line X.env = pure false := by rfl) : PS X (.Expr e pos) (tDrop te) := by
  intro pins s σ H D I h
  exact wpAny_Expr_any (thn (he pins s σ H _ I h) fun v s1 ⟨x, H1, I1, r1, q1⟩ => ⟨σ, H1, I1, q1⟩) I.quiet hs
def tRet (te : TE) : TS := fun D σ H => te σ H D.rt
theorem ps_ret (he : PE X e te) : PS X (.Return (some e) pos) (tRet te) := by
  intro pins s σ H D I h
  exact wpAny_Return_some (thn (he pins s σ H _ I h) fun v s1 ⟨x, H1, I1, r1, q1⟩ => ⟨x, σ, H1, I1, r1, q1⟩)
def tRetN : TS := fun D _ H => D.rt .non H
theorem ps_retN : PS X (.Return none pos) tRetN := fun _ _ σ H _ I h => wpAny_Return_none ⟨.non, σ, H, I, rfl, h⟩
def tIfS (c : TT) (t u : TS) : TS := fun D σ H => c σ H fun b H1 => if b = true then t D σ H1 else u D σ H1
theorem ps_if {c : Expr} {a b : List Stmt} {tc : TT} (hc : PT X c tc) (ha : PSs X a t) (hb : PSs X b u) : PS X (.If c a b pos) (tIfS tc t u) := by
  intro pins s σ H D I h
  refine wpAny_If (thn (hc pins s σ H _ I h) fun d s1 ⟨H1, I1, q1⟩ => ?_)
  cases d with
  | true => exact ha pins s1 σ H1 D I1 q1
  | false => exact hb pins s1 σ H1 D I1 q1
/-- code that the proof never comes to -/
def tNever : TS := fun _ _ _ => False
theorem ps_never : PS X st tNever := fun _ _ _ _ _ _ h => h.elim
theorem pss_never {sts : List Stmt} : PSs X sts tNever := fun _ _ _ _ _ _ h => h.elim
end

/-! ### targets -/
abbrev TG := V → St → Hp → (St → Hp → Prop) → Prop
abbrev TGs := List V → St → Hp → (St → Hp → Prop) → Prop
def PG (X : Cx) (target : Expr) (t : TG) : Prop :=
  ∀ (pins : List (Addr × Obj)) (s : Shared) (σ : St) (H : Hp) (v : V) (u : Value) (Q : St → Hp → Prop), Inv X pins σ H s → RelV v u → t v σ H Q →
    wpAny (model X.prog X.w) X.A (assign target X.env u) (fun _ s' => ∃ σ' H', Inv X pins σ' H' s' ∧ Q σ' H') X.xe s
/-- several targets, one after another -/
def PGs (X : Cx) (ts : List Expr) (t : TGs) : Prop :=
  ∀ (pins : List (Addr × Obj)) (s : Shared) (σ : St) (H : Hp) (vs : List V) (us : List Value) (Q : St → Hp → Prop), Inv X pins σ H s → Vals vs us → t vs σ H Q →
    wpAny (model X.prog X.w) X.A (assignInOrder ((assignEach ts X.env).map (·.2)) us) (fun _ s' => ∃ σ' H', Inv X pins σ' H' s' ∧ Q σ' H') X.xe s
/-- o[i] = v, by values -/
abbrev TSet := V → V → V → Hp → (Hp → Prop) → Prop
def PSet (X : Cx) (t : TSet) : Prop :=
  ∀ (pins : List (Addr × Obj)) (s : Shared) (σ : St) (H : Hp) (o i v : V) (ov iv u : Value) (Q : Hp → Prop), Inv X pins σ H s → RelV o ov → RelV i iv → RelV v u → t o i v H Q →
    wpAny (model X.prog X.w) X.A (setItem ov iv u) (fun _ s' => ∃ H', Inv X pins σ H' s' ∧ Q H') X.xe s
/-- a op= b, by values -/
abbrev TIp := V → V → Hp → VK → Prop
def PIp (X : Cx) (op : Operator) (t : TIp) : Prop :=
  ∀ (pins : List (Addr × Obj)) (s : Shared) (σ : St) (H : Hp) (x y : V) (v u : Value) (Q : VK), Inv X pins σ H s → RelV x v → RelV y u → t x y H Q →
    wpAny (model X.prog X.w) X.A (inplaceOp op v u) (EP X pins σ Q) X.xe s
section
variable {X : Cx} {pos : Pos}
def gName (i : Nat) : TG := fun v σ H Q => Q (σ.set i (some v)) H
theorem pg_name {i : Nat} {x : Str} (hN : X.N.Nodup) (hi : X.N[i]? = some x) (hx : Loc X.env.scope x) (hf : X.fn x = true ∨ X.env.scope.names.lookup x = some .local := by first | exact .inl rfl | exact .inr rfl | assumption) : PG X (.Name x pos) (gName i) := by
  intro pins s σ H v u Q I r h
  exact wpAny_assign_Name (store_ok I hN hi hx r (fun s' I' => ⟨_, H, I', h⟩) hf)
def gNil : TGs := fun vs σ H Q => vs = [] ∧ Q σ H
def gCons (t : TG) (u : TGs) : TGs := fun vs σ H Q => ∃ v r, vs = v :: r ∧ t v σ H fun σ' H' => u r σ' H' Q
theorem pgs_nil : PGs X [] gNil := by
  intro pins s σ H vs us Q I r h
  obtain ⟨e, h⟩ := h
  subst e
  cases r
  exact assignInOrder_nil ⟨σ, H, I, h⟩
theorem pgs_cons {e : Expr} {es : List Expr} {t : TG} {u : TGs} (h1 : PG X e t) (h2 : PGs X es u)
    (hs : (assignEach (e :: es) X.env).map (·.2) = assign e X.env :: (assignEach es X.env).map (·.2) := by rfl) : PGs X (e :: es) (gCons t u) := by
  intro pins s σ H vs us Q I r h
  obtain ⟨v, vr, e1, h⟩ := h
  subst e1
  cases r with
  | cons r rr =>
    rw [hs]
    refine assignInOrder_cons (thn (h1 pins s σ H _ _ _ I r h) fun _ s1 ⟨σ1, H1, I1, q1⟩ => ?_)
    exact h2 pins s1 σ1 H1 _ _ Q I1 rr q1
/-- (a, b, ..) = a tuple of that length -/
def gTup (K : PySem.W.Frag) (n : Nat) (t : TGs) : TG := fun v σ H Q => ∃ a xs, v = .ref a ∧ SqT K H a xs ∧ xs.length = n ∧ t xs σ H Q
theorem pg_tup {es : List Expr} {k : Nat} {t : TGs} {n : Nat} (hc : X.calm = true) (h : PGs X es t)
    (hn : (assignEach es X.env).length = n := by rfl) (hst : (assignEach es X.env).findIdx? (·.1) = none := by rfl) : PG X (.Tuple es k pos) (gTup X.K n t) := by
  intro pins s σ H v u Q I r hw
  obtain ⟨a, xs, e1, hq, hl, hw⟩ := hw
  subst e1
  cases r
  obtain ⟨its, rv, ht, hz⟩ := I.tuple hq
  refine assign_Tuple_tuple (I.ok.hd hc) ht (by simp [hn, ← hl, rv.length]) hst fun h' hx => ?_
  have I1 : Inv X pins σ H { s with heap := h' } := I.kept (t' := s.toks) fun b o e => hx b o (Nat.ne_of_lt (Heap.lt_size e)) e
  exact h pins _ σ H xs _ Q I1 (by simpa using rv) hw
/-- o[i] = .. -/
def gSub (to ti : TE) (t : TSet) : TG := fun v σ H Q => to σ H fun o H1 => ti σ H1 fun i H2 => t o i v H2 fun H3 => Q σ H3
theorem pg_sub {o i : Expr} {to ti : TE} {t : TSet} (ho : PE X o to) (hi : PE X i ti) (hs : PSet X t)
    (ha : ∀ v, assign (.Subscript o i pos) X.env v = (do
      let ov ← holding [v] (eval o X.env)
      let iv ← holding [v, ov] (eval i X.env)
      standAt pos
      holding [v, ov, iv] (setItem ov iv v)
      release [v, ov, iv] []) := by intro _; rfl) : PG X (.Subscript o i pos) (gSub to ti t) := by
  intro pins s σ H v u Q I r h
  rw [ha]
  refine wpAny_bind (wpAny_holding (thn (ho pins s σ H _ I h) fun ov s1 ⟨x, H1, I1, r1, q1⟩ => ?_))
  refine wpAny_bind (wpAny_holding (thn (hi pins s1 σ H1 _ I1 q1) fun iv s2 ⟨y, H2, I2, r2, q2⟩ => ?_))
  refine wpAny_bind (wpAny_standAt (wpAny_bind (wpAny_holding (thn (hs pins s2 σ H2 x y v ov iv u _ I2 r1 r2 r q2) fun _ s3 ⟨H3, I3, q3⟩ => ?_))))
  exact wpAny_release ⟨σ, H3, I3, q3⟩
/-- target = value -/
def tAsg (te : TE) (g : TG) : TS := fun D σ H => te σ H fun x H1 => g x σ H1 D.nx
theorem ps_asg {tg e : Expr} {te : TE} {g : TG} (he : PE X e te) (hg : PG X tg g) (hs : swapsWithSole [tg] e pos.line X.env = pure false := by rfl) (hw : swappedStores [tg] e X.env = pure none := by rfl)
    (h1 : (assignEach [tg] X.env).map (·.2) = [assign tg X.env] := by rfl) : PS X (.Assign [tg] e pos) (tAsg te g) := by
  intro pins s σ H D I h
  refine wpAny_Assign_stores (thn (he pins s σ H _ I h) fun v s1 ⟨x, H1, I1, r1, q1⟩ => ?_) hs hw
  rw [h1]
  exact thn (hg pins s1 σ H1 x v _ I1 r1 q1) fun _ s2 q => q
/-- name = value -/
theorem ps_set {i : Nat} {x : Str} {e : Expr} {te : TE} {pos' : Pos} (hN : X.N.Nodup) (hi : X.N[i]? = some x) (hx : Loc X.env.scope x) (he : PE X e te) (hs : swapsWith e (some (.Name x pos')) pos.line X.env = pure false := by rfl) (hf : X.fn x = true ∨ X.env.scope.names.lookup x = some .local := by first | exact .inl rfl | exact .inr rfl | assumption) :
    PS X (.Assign [.Name x pos'] e pos) (tAsg te (gName i)) := by
  intro pins s σ H D I h
  refine wpAny_Assign_Name (thn (he pins s σ H _ I h) fun v s1 ⟨y, H1, I1, r1, q1⟩ => ?_) hs
  exact store_ok I1 hN hi hx r1 (fun s2 I2 => ⟨_, H1, I2, q1⟩) hf
/-- a, b = x, y with plain local names: stored from the right; the pair itself is not tracked (the opening rows as in PyProof/Rows/TupAssign.lean:23) -/
def tPar (i j : Nat) (ta : TA) : TS := fun D σ H => ta σ H fun vs H1 => ∃ v w, vs = [v, w] ∧ D.nx ((σ.set i (some v)).set j (some w)) H1
theorem ps_par {i j : Nat} {x y : Str} {a b : Expr} {ta : TA} {px py pt : Pos} {kt k2 pt2} (hc : X.calm = true) (hN : X.N.Nodup) (hi : X.N[i]? = some x) (hj : X.N[j]? = some y) (hij : i ≠ j)
    (hx : X.env.scope.names.lookup x = some .local) (hy : X.env.scope.names.lookup y = some .local) (ha : PA X [a, b] ta)
    (hw : swappedStores [.Tuple [.Name x px, .Name y py] kt pt] (.Tuple [a, b] k2 pt2) X.env = pure (some [x, y]))
    (hs : swapsWithSole [.Tuple [.Name x px, .Name y py] kt pt] (.Tuple [a, b] k2 pt2) pos.line X.env = pure false := by rfl) :
    PS X (.Assign [.Tuple [.Name x px, .Name y py] kt pt] (.Tuple [a, b] k2 pt2) pos) (tPar i j ta) := by
  intro pins s σ H D I h
  rw [exec_Assign_arm]
  refine wpAny_bind (wpAny_standAt ?_)
  rw [hs]
  refine wpAny_bind (wpAny_pure ?_)
  rw [if_neg (by decide)]
  refine wpAny_bind (Tuple_ (thn (ha _ pins s σ H _ I h) fun us s1 ⟨vs, H1, I1, r1, q1⟩ => ?_))
  obtain ⟨v, w, e1, q1⟩ := q1
  subst e1
  obtain ⟨u1, u2, rfl, rv, rw'⟩ : ∃ u1 u2, us = [u1, u2] ∧ RelV v u1 ∧ RelV w u2 := by
    cases r1 with
    | cons p q =>
      cases q with
      | cons p' q' =>
        cases q'
        exact ⟨_, _, rfl, p, p'⟩
  refine wpAny_newObj_type ?_ (by show 2 ≤ sizeLine; decide)
  have I2 : Inv X pins σ H1 { s1 with heap := s1.heap.push { cls := .type "tuple", data := .seq [u1, u2].toArray } } := I1.kept (t' := s1.toks) fun b o e => Heap.get?_push_of_some _ e
  rw [hw]
  refine wpAny_bind (wpAny_pure ?_)
  show wpAny (model X.prog X.w) X.A (do rule "assign.swapped-stores"; let items ← unpackItems (.ref s1.heap.objs.size) 2 none; assignInOrder [fun v => bindName X.env y v, fun v => bindName X.env x v] items.reverse; pure Flow.next) _ _ _
  refine wpAny_bind (wpAny_rule (wpAny_bind (unpackItems_tuple (items := #[u1, u2]) (I.ok.hd hc) (IsTup.new s1.heap _) fun h' hx' => ?_)))
  have I3 := I2.kept (h' := h') (t' := s1.toks) fun b o e => hx' b o (Nat.ne_of_lt (Heap.lt_size e)) e
  show wpAny _ _ (assignInOrder [fun v => bindName X.env y v, fun v => bindName X.env x v] [u2, u1] >>= fun _ => pure Flow.next) _ _ _
  refine wpAny_bind (assignInOrder_cons (wpAny_bindName (store_ok I3 hN hj (.inl hy) rw' (fun s2 I4 => ?_) (.inr hy))))
  refine assignInOrder_cons (wpAny_bindName (store_ok I4 hN hi (.inl hx) rv (fun s3 I5 => assignInOrder_nil (wpAny_pure ?_)) (.inr hx)))
  rw [List.set_comm _ _ (Ne.symm hij)] at I5
  exact ⟨_, H1, I5, q1⟩
/-- name op= e -/
def tAug (i : Nat) (te : TE) (ti : TIp) : TS := fun D σ H => ∃ x, σ[i]? = some (some x) ∧ te σ H fun y H1 => ti x y H1 fun z H2 => D.nx (σ.set i (some z)) H2
theorem ps_aug {i : Nat} {x : Str} {e : Expr} {te : TE} {op : Operator} {ti : TIp} {pos' : Pos} (hN : X.N.Nodup) (hi : X.N[i]? = some x) (hx : Loc X.env.scope x) (he : PE X e te) (ho : PIp X op ti) (hf : X.fn x = true ∨ X.env.scope.names.lookup x = some .local := by first | exact .inl rfl | exact .inr rfl | assumption) :
    PS X (.AugAssign (.Name x pos') op e pos) (tAug i te ti) := by
  intro pins s σ H D I h
  obtain ⟨v, e1, h⟩ := h
  obtain ⟨m, hn, hl⟩ := I.loc
  have vis : Vis X.env.scope x := by rcases hx with k | k; exact .inl k; exact .inr (.inl k)
  obtain ⟨u, r, l⟩ := hl i x v hi e1 vis
  refine wpAny_AugAssign_Name ?_
  have go : wpAny (model X.prog X.w) X.A (eval e X.env) (fun w s₂ => wpAny (model X.prog X.w) X.A (inplaceOp op u w) (fun r s₃ => wpAny (model X.prog X.w) X.A (storeName X.env x r) (fun _ => SP X pins D .next) X.xe s₃) X.xe s₂) X.xe s := by
    refine thn (he pins s σ H _ I h) fun w s1 ⟨y, H1, I1, r1, q1⟩ => ?_
    refine thn (ho pins s1 σ H1 v y u w _ I1 r r1 q1) fun z s2 ⟨zv, H2, I2, r2, q2⟩ => ?_
    exact store_ok I2 hN hi hx r2 (fun s3 I3 => ⟨_, H2, I3, q2⟩) hf
  rcases l with ⟨hk, hm⟩ | ⟨hk, c, hc, hcell⟩
  · exact wpAny_loadName_local I.ok.kind hk hn hm go
  · rcases hk with hk | hk
    · exact wpAny_loadName_cell I.ok.kind hk hc hcell go
    · rcases hx with k | k
      · have : X.env.scope.names.lookup x = some .free := hk
        rw [k] at this; cases this
      · have : X.env.scope.names.lookup x = some .free := hk
        rw [k] at this; cases this
/-- o[i] op= e -/
def tAugS (to ti te : TE) (tget : V → V → Hp → VK → Prop) (tip : TIp) (tset : TSet) : TS := fun D σ H => to σ H fun o H1 => ti σ H1 fun i H2 => tget o i H2 fun x H3 => te σ H3 fun y H4 => tip x y H4 fun z H5 => tset o i z H5 fun H6 => D.nx σ H6
/-- o[i], by values -/
def PGet (X : Cx) (t : V → V → Hp → VK → Prop) : Prop :=
  ∀ (pins : List (Addr × Obj)) (s : Shared) (σ : St) (H : Hp) (o i : V) (ov iv : Value) (Q : VK), Inv X pins σ H s → RelV o ov → RelV i iv → t o i H Q →
    wpAny (model X.prog X.w) X.A (getItem ov iv) (EP X pins σ Q) X.xe s
theorem ps_augS {o i e : Expr} {to ti te : TE} {tget : V → V → Hp → VK → Prop} {tip : TIp} {tset : TSet} {op : Operator} {tpos : Pos} (ho : PE X o to) (hi : PE X i ti) (hg : PGet X tget) (he : PE X e te) (hp : PIp X op tip) (hs : PSet X tset)
    (ha : ∀ ov iv new, augStore i ov iv new = (do holding [new, ov, iv] (setItem ov iv new); release [new, ov, iv] []; pure .next) := by intros; rfl) : PS X (.AugAssign (.Subscript o i tpos) op e pos) (tAugS to ti te tget tip tset) := by
  intro pins s σ H D I h
  refine wpAny_AugAssign_SubscriptAny (thn (ho pins s σ H _ I h) fun ov s1 ⟨x1, H1, I1, r1, q1⟩ => ?_) ha
  refine thn (hi pins s1 σ H1 _ I1 q1) fun iv s2 ⟨x2, H2, I2, r2, q2⟩ => ?_
  refine thn (hg pins s2 σ H2 x1 x2 ov iv _ I2 r1 r2 q2) fun old s3 ⟨x3, H3, I3, r3, q3⟩ => ?_
  refine thn (he pins s3 σ H3 _ I3 q3) fun v s4 ⟨x4, H4, I4, r4, q4⟩ => ?_
  refine thn (hp pins s4 σ H4 x3 x4 old v _ I4 r3 r4 q4) fun new s5 ⟨x5, H5, I5, r5, q5⟩ => ?_
  exact thn (hs pins s5 σ H5 x1 x2 x5 ov iv new _ I5 r1 r2 r5 q5) fun _ s6 ⟨H6, I6, q6⟩ => ⟨σ, H6, I6, q6⟩
/-- ints -/
def ipI (f : Int → Int → Int) : TIp := fun x y H Q => ∃ i j, x = .int i ∧ y = .int j ∧ Q (.int (f i j)) H
theorem ip_add : PIp X .Add (ipI fun i j => i + j) := by
  intro pins s σ H x y v u Q I r1 r2 h
  obtain ⟨i, j, e1, e2, q⟩ := h
  subst e1; subst e2
  obtain ⟨t, rfl⟩ := r1
  obtain ⟨t', rfl⟩ := r2
  exact iadd_int ⟨.int _, H, I.tok _, ⟨_, rfl⟩, q⟩
theorem ip_sub : PIp X .Sub (ipI fun i j => i - j) := by
  intro pins s σ H x y v u Q I r1 r2 h
  obtain ⟨i, j, e1, e2, q⟩ := h
  subst e1; subst e2
  obtain ⟨t, rfl⟩ := r1
  obtain ⟨t', rfl⟩ := r2
  exact isub_int ⟨.int _, H, I.tok _, ⟨_, rfl⟩, q⟩
end

/-! ### while -/
section
variable {X : Cx} {pos : Pos}
/-- the invariant W with its measure -/
def tWhile (c : TT) (tb : TS) : TS := fun D σ H => ∃ W : Nat → St → Hp → Prop, (∃ m, W m σ H) ∧ ∀ m σ H, W m σ H →
  c σ H fun b H1 => if b = true then ∃ N : St → Hp → Prop, (∀ σ' H', N σ' H' → ∃ m', m' < m ∧ W m' σ' H') ∧ tb { D with nx := N, ct := N, bk := D.nx } σ H1 else D.nx σ H1
theorem ps_while {c : Expr} {body : List Stmt} {tc : TT} {tb : TS} (hp : PassesOwn (model X.prog X.w) X.A X.env X.xe) (hc : PT X c tc) (hb : PSs X body tb) : PS X (.While c body [] pos) (tWhile tc tb) := by
  intro pins s σ H D I h
  obtain ⟨W, ⟨m0, w0⟩, turn⟩ := h
  refine wpAny_While (codeAny_whileLoop (fun n s' => ∃ σ' H', Inv X pins σ' H' s' ∧ W n σ' H') ?_ m0 ⟨σ, H, I, w0⟩)
  rintro n s1 ⟨σ1, H1, I1, w1⟩
  refine wpAny_passesOwn hp (thn (hc pins s1 σ1 H1 _ I1 (turn n σ1 H1 w1)) fun b s2 ⟨H2, I2, q2⟩ => ?_)
  cases b with
  | true =>
    obtain ⟨N, hN, q2⟩ := q2
    rw [if_pos rfl]
    refine wpAny_passesOwn hp (thn (hb pins s2 σ1 H2 _ I2 q2) fun f s3 q3 => ?_)
    cases f with
    | next =>
      obtain ⟨σ3, H3, I3, n3⟩ := q3
      obtain ⟨m', hm, w3⟩ := hN σ3 H3 n3
      exact ⟨m', hm, σ3, H3, I3, w3⟩
    | cont =>
      obtain ⟨σ3, H3, I3, n3⟩ := q3
      obtain ⟨m', hm, w3⟩ := hN σ3 H3 n3
      exact ⟨m', hm, σ3, H3, I3, w3⟩
    | brk => exact q3
    | ret v => exact q3
  | false =>
    rw [if_neg Bool.false_ne_true]
    exact wpAny_execs_nil ⟨σ1, H2, I2, q2⟩
end

/-! ### what a loop or a comprehension walks -/
/-- at turn i: it yields x (the heap may grow), or it stops -/
structure It where
  go : Nat → Hp → Prop
  yld : Nat → Hp → V → Hp → Prop
  stop : Nat → Hp → Prop
/-- the iterator's own objects may turn: they are not the frame's, not pinned, younger than the entry (or a comprehension's own) -/
def FpOk (X : Cx) (pins : List (Addr × Obj)) (H : Hp) (b : Addr) : Prop :=
  H b = none ∧ b ≠ X.env.locals ∧ b ∉ X.fs ∧ (b ∈ X.ex ∨ X.s₀.heap.objs.size ≤ b) ∧ (∀ x c, X.env.cells.lookup x = some c → c ≠ b) ∧ ∀ p ∈ X.pn ++ pins, p.1 ≠ b
theorem Inv.fpOk {X : Cx} {pins : List (Addr × Obj)} {σ : St} {H H' : Hp} {s : Shared} {b : Addr} (I : Inv X pins σ H s) (hb : s.heap.objs.size ≤ b) (hn : H' b = none) : FpOk X pins H' b := by
  refine ⟨hn, Nat.ne_of_gt (Nat.lt_of_lt_of_le I.lt hb), I.nofs hb, .inr (Nat.le_trans I.sz hb), fun x c e z => ?_, fun p hp z => ?_⟩
  · obtain ⟨v, q⟩ := I.cell x c e
    exact absurd (Nat.lt_of_lt_of_le q.lt (by rw [z]; exact hb)) (Nat.lt_irrefl _)
  · exact absurd (Nat.lt_of_lt_of_le (Heap.lt_size (I.pin p hp).1) (by rw [z]; exact hb)) (Nat.lt_irrefl _)
structure Turn (P : Program) (w : World) (K : PySem.W.Frag) (tg : Expr) (J : It) (fp : List Addr) (it : Addr) (tn : Nat → Heap → Prop) : Prop where
  mem : it ∈ fp
  obj : ∀ i h, tn i h → ∀ b ∈ fp, ∃ o, h.get? b = some o ∧ ∀ v, o.data ≠ .cell v
  keep : ∀ i h h', tn i h → (∀ b ∈ fp, ∀ o, h.get? b = some o → h'.get? b = some o) → tn i h'
  item : ∀ (X : Cx), X.prog = P → X.w = w → X.K = K → X.calm = true → ∀ (i : Nat) (pins : List (Addr × Obj)) (s : Shared) (σ : St) (H : Hp) (E : Value → Shared → Prop), Inv X pins σ H s → (∀ b ∈ fp, FpOk X pins H b) → tn i s.heap → J.go i H →
    wpAny (model P w) X.A (pyNext (.ref it)) (fun r s1 => ∃ u, r = some u ∧
      wpAny (model P w) X.A (letOwnedTupleGo tg (.ref it) u) (fun _ s2 => ∃ x H', Inv X pins σ H' s2 ∧ RelV x u ∧ J.yld i H x H' ∧ tn (i + 1) s2.heap ∧ ∀ b ∈ fp, H' b = none) E s1) E s
  done : ∀ (X : Cx), X.prog = P → X.w = w → X.K = K → X.calm = true → ∀ (i : Nat) (pins : List (Addr × Obj)) (s : Shared) (σ : St) (H : Hp) (E : Value → Shared → Prop), Inv X pins σ H s → (∀ b ∈ fp, FpOk X pins H b) → tn i s.heap → J.stop i H →
    wpAny (model P w) X.A (pyNext (.ref it)) (fun r s1 => r = none ∧ Inv X pins σ H s1) E s
  self : ∀ (A : Around) (i : Nat) (s : Shared) (Q : Value → Shared → Prop) (E : Value → Shared → Prop), tn i s.heap → Q (.ref it) s → wpAny (model P w) A (pyIter (.ref it)) Q E s
abbrev TI := St → Hp → (It → Hp → Prop) → Prop
/-- an iterator has come -/
def PIE (X : Cx) (pins : List (Addr × Obj)) (σ : St) (tg : Expr) (R : It → Hp → Prop) (itv : Value) (s2 : Shared) : Prop :=
  ∃ (it : Addr) (fp : List Addr) (tn : Nat → Heap → Prop) (J : It) (H' : Hp), itv = .ref it ∧ Inv X pins σ H' s2 ∧ Turn X.prog X.w X.K tg J fp it tn ∧ tn 0 s2.heap ∧ (∀ b ∈ fp, FpOk X pins H' b) ∧ R J H'
def PI (X : Cx) (tg iter : Expr) (wi : TI) : Prop :=
  ∀ (pins : List (Addr × Obj)) (s : Shared) (σ : St) (H : Hp) (R : It → Hp → Prop), Inv X pins σ H s → wi σ H R →
    wpAny (model X.prog X.w) X.A (eval iter X.env) (fun v s1 => wpAny (model X.prog X.w) X.A (pyIter v) (PIE X pins σ tg R) X.xe s1) X.xe s

/-- the step ahead of the store is nothing for an iterator that keeps no tuple -/
theorem go_of {M : Model} {A : Around} {E : Value → Shared → Prop} {s : Shared} {tg : Expr} {it : Addr} {u : Value} {o : Obj} {n : String} {vs : Array Value} {Q : Unit → Shared → Prop} (ho : s.heap.get? it = some o) (hc : o.cls = .type n) (hd : o.data = .fields vs)
    (hn : ["enumerate", "zip", "dict_itemiterator", "dict_reverseitemiterator", "odict_iterator", "itertools.zip_longest", "itertools.pairwise"].contains n = false) (hQ : Q () s) : wpAny M A (letOwnedTupleGo tg (.ref it) u) Q E s := by
  unfold letOwnedTupleGo
  cases tg <;> first
    | exact wpAny_pure hQ
    | (cases u <;> first
        | exact wpAny_pure hQ
        | (refine wpAny_bind (wpAny_load ho ?_)
           rw [hc, hd]
           show wpAny M A (if (["enumerate", "zip", "dict_itemiterator", "dict_reverseitemiterator", "odict_iterator", "itertools.zip_longest", "itertools.pairwise"].contains n && vs[0]? == some (rawInt _)) = true then _ else _) Q E s
           rw [if_neg (by intro h; rw [hn, Bool.false_and] at h; cases h)]
           exact wpAny_pure hQ))

/-- the list at a, as it stands at each turn (a loop may append to it) -/
def Itl (K : PySem.W.Frag) (a : Addr) : It :=
  ⟨fun i H => ∃ xs x, SqL K H a xs ∧ xs[i]? = some x, fun i H x H' => H' = H ∧ ∀ xs, SqL K H a xs → xs[i]? = some x, fun i H => ∃ xs, SqL K H a xs ∧ xs.length ≤ i⟩
def Itt (K : PySem.W.Frag) (a : Addr) : It :=
  ⟨fun i H => ∃ xs x, SqT K H a xs ∧ xs[i]? = some x, fun i H x H' => H' = H ∧ ∀ xs, SqT K H a xs → xs[i]? = some x, fun i H => ∃ xs, SqT K H a xs ∧ xs.length ≤ i⟩
/-- lo, lo + 1, .. (n of them) -/
def Itr (lo : Int) (n : Nat) : It := ⟨fun i _ => i < n, fun i H x H' => H' = H ∧ x = .int (lo + i), fun i _ => n ≤ i⟩
theorem turn_list {P : Program} {w : World} {K : PySem.W.Frag} {tg : Expr} (a it : Addr) : Turn P w K tg (Itl K a) [it] it (fun i h => h.IsListIter it a i) where
  mem := by simp
  obj := fun i h st b hb => by
    have e : b = it := by simpa using hb
    subst e
    obtain ⟨o, e, c, d⟩ := st
    exact ⟨o, e, fun v z => by rw [d] at z; cases z⟩
  keep := fun i h h' st k => st.at fun o e => k it (by simp) o e
  item := by
    intro X hP hw hK hc i pins s σ H E I hf st hg
    subst hP hw hK
    obtain ⟨xs, x, hq, hx⟩ := hg
    obtain ⟨its, rv, p, hz⟩ := I.list hq
    obtain ⟨u, hu, ru⟩ := rv.get hx
    obtain ⟨f0, f1, f2, f3, f4, f5⟩ := hf it (by simp)
    refine wpAny_pyNext_list_item st p.isList (x := u) (by simpa using hu) fun h' st' sb => ?_
    have I1 : Inv X pins σ H { s with heap := h' } := I.turned (t' := s.toks) (fun b o hb e => (sb.2 b hb).trans e) f0 f1 f3 f4 f5
    obtain ⟨o, e, c, d⟩ := id st'
    exact ⟨u, rfl, go_of (s := { s with heap := h' }) e c d (by decide) ⟨x, H, I1, ru, ⟨rfl, fun ys hy => by rw [I.list_inj hy hq]; exact hx⟩, st', fun b hb => (hf b hb).1⟩⟩
  done := by
    intro X hP hw hK hc i pins s σ H E I hf st hg
    subst hP hw hK
    obtain ⟨xs, hq, hx⟩ := hg
    obtain ⟨its, rv, p, hz⟩ := I.list hq
    obtain ⟨f0, f1, f2, f3, f4, f5⟩ := hf it (by simp)
    have hl := rv.length
    exact wpAny_pyNext_list_end (I.ok.hd hc) st p.isList (by simp; omega) fun h' eb => ⟨rfl, I.turned (t' := s.toks) (fun b o hb e => eb b o hb e) f0 f1 f3 f4 f5⟩
  self := fun _ _ _ _ _ st h => wpAny_pyIter_listiter st h
theorem turn_tuple {P : Program} {w : World} {K : PySem.W.Frag} {tg : Expr} (a it : Addr) : Turn P w K tg (Itt K a) [it] it (fun i h => h.IsTupleIter it a i) where
  mem := by simp
  obj := fun i h st b hb => by
    have e : b = it := by simpa using hb
    subst e
    obtain ⟨o, e, c, d⟩ := st
    exact ⟨o, e, fun v z => by rw [d] at z; cases z⟩
  keep := fun i h h' st k => st.at fun o e => k it (by simp) o e
  item := by
    intro X hP hw hK hc i pins s σ H E I hf st hg
    subst hP hw hK
    obtain ⟨xs, x, hq, hx⟩ := hg
    obtain ⟨its, rv, p, hz⟩ := I.tuple hq
    obtain ⟨u, hu, ru⟩ := rv.get hx
    obtain ⟨f0, f1, f2, f3, f4, f5⟩ := hf it (by simp)
    refine wpAny_pyNext_tuple_item st (show s.heap.IsTuple a its.toArray from p) (x := u) (by simpa using hu) fun h' st' sb => ?_
    have I1 : Inv X pins σ H { s with heap := h' } := I.turned (t' := s.toks) (fun b o hb e => (sb.2 b hb).trans e) f0 f1 f3 f4 f5
    obtain ⟨o, e, c, d⟩ := id st'
    exact ⟨u, rfl, go_of (s := { s with heap := h' }) e c d (by decide) ⟨x, H, I1, ru, ⟨rfl, fun ys hy => by rw [I.tuple_inj hy hq]; exact hx⟩, st', fun b hb => (hf b hb).1⟩⟩
  done := by
    intro X hP hw hK hc i pins s σ H E I hf st hg
    subst hP hw hK
    obtain ⟨xs, hq, hx⟩ := hg
    obtain ⟨its, rv, p, hz⟩ := I.tuple hq
    obtain ⟨f0, f1, f2, f3, f4, f5⟩ := hf it (by simp)
    have hl := rv.length
    exact wpAny_pyNext_tuple_end (I.ok.hd hc) st (show s.heap.IsTuple a its.toArray from p) (by simp; omega) fun h' eb => ⟨rfl, I.turned (t' := s.toks) (fun b o hb e => eb b o hb e) f0 f1 f3 f4 f5⟩
  self := fun _ _ _ _ _ st h => wpAny_pyIter_tupleiter st h
theorem turn_range {P : Program} {w : World} {K : PySem.W.Frag} {tg : Expr} (it : Addr) (lo : Int) (n : Nat) : Turn P w K tg (Itr lo n) [it] it (fun i h => IsRangeIter h it (lo + (i : Nat) * 1) ((n : Int) - (i : Nat)) 1) where
  mem := by simp
  obj := fun i h st b hb => by
    have e : b = it := by simpa using hb
    subst e
    exact ⟨_, st, fun v z => by
      have z' : Data.fields _ = Data.cell v := z
      cases z'⟩
  keep := fun i h h' st k => k it (by simp) _ st
  item := by
    intro X hP hw hK hc i pins s σ H E I hf st hg
    subst hP hw hK
    obtain ⟨f0, f1, f2, f3, f4, f5⟩ := hf it (by simp)
    have W := Walks.range (prog := X.prog) (w := X.w) (I.ok.hd hc) it lo 1 n
    refine W.item i s _ _ hg st fun v h' tk hv st' kk => ?_
    obtain ⟨t, rfl⟩ := hv
    have I1 : Inv X pins σ H { s with heap := h', toks := tk } := I.turned (fun b o hb e => kk b o (by simpa using hb) e) f0 f1 f3 f4 f5
    refine ⟨_, rfl, go_of (s := { s with heap := h', toks := tk }) (n := "range_iterator") st' rfl rfl (by decide) ⟨.int (lo + i), H, I1, ⟨t, ?_⟩, ⟨rfl, rfl⟩, st', fun b hb => (hf b hb).1⟩⟩
    rw [Int.mul_one]
  done := by
    intro X hP hw hK hc i pins s σ H E I hf st hg
    subst hP hw hK
    obtain ⟨f0, f1, f2, f3, f4, f5⟩ := hf it (by simp)
    exact wpAny_pyNext_range_end (I.ok.hd hc) st (by have : n ≤ i := hg; omega) fun h' eb => ⟨rfl, I.turned (t' := s.toks) (fun b o hb e => eb b o hb e) f0 f1 f3 f4 f5⟩
  self := fun _ _ _ _ _ st h => wpAny_pyIter_rangeiter st h
end L2

namespace L2
open PySem PySem.Spec PyProof.Rows
section
variable {X : Cx} {tg : Expr}
def iList (K : PySem.W.Frag) (tl : TE) : TI := fun σ H R => tl σ H fun x H1 => ∃ a, x = .ref a ∧ (∃ xs, SqL K H1 a xs) ∧ R (Itl K a) H1
def iTup (K : PySem.W.Frag) (tl : TE) : TI := fun σ H R => tl σ H fun x H1 => ∃ a, x = .ref a ∧ (∃ xs, SqT K H1 a xs) ∧ R (Itt K a) H1
theorem pi_list {l : Expr} {tl : TE} (hl : PE X l tl) : PI X tg l (iList X.K tl) := by
  intro pins s σ H R I h
  refine thn (hl pins s σ H _ I h) fun v s1 ⟨x, H1, I1, r1, q1⟩ => ?_
  obtain ⟨a, e, ⟨xs, hq⟩, q⟩ := q1
  subst e
  cases r1
  obtain ⟨its, rv, p, hz⟩ := I1.list hq
  refine wpAny_pyIter_list p.isList ?_
  refine ⟨s1.heap.objs.size, [s1.heap.objs.size], _, _, H1, rfl, I1.kept (t' := s1.toks) fun b o e => Heap.get?_push_of_some _ e, turn_list a _, ⟨_, Heap.get?_push_size _ rfl, rfl, rfl⟩, fun b hb => ?_, q⟩
  have e : b = s1.heap.objs.size := by simpa using hb
  subst e
  exact I1.fpOk (Nat.le_refl _) (I1.hok.fresh (Nat.le_refl _))
theorem pi_tup {l : Expr} {tl : TE} (hl : PE X l tl) : PI X tg l (iTup X.K tl) := by
  intro pins s σ H R I h
  refine thn (hl pins s σ H _ I h) fun v s1 ⟨x, H1, I1, r1, q1⟩ => ?_
  obtain ⟨a, e, ⟨xs, hq⟩, q⟩ := q1
  subst e
  cases r1
  obtain ⟨its, rv, p, hz⟩ := I1.tuple hq
  refine wpAny_pyIter_tuple (show s1.heap.IsTuple a its.toArray from p) ?_
  refine ⟨s1.heap.objs.size, [s1.heap.objs.size], _, _, H1, rfl, I1.kept (t' := s1.toks) fun b o e => Heap.get?_push_of_some _ e, turn_tuple a _, ⟨_, Heap.get?_push_size _ rfl, rfl, rfl⟩, fun b hb => ?_, q⟩
  have e : b = s1.heap.objs.size := by simpa using hb
  subst e
  exact I1.fpOk (Nat.le_refl _) (I1.hok.fresh (Nat.le_refl _))
/-- a range object just made, walked -/
theorem range_it {pins : List (Addr × Obj)} {σ : St} {H : Hp} {s : Shared} {R : It → Hp → Prop} {E : Value → Shared → Prop} {lo hi : Int} {t u v : Tok} {tk : Nat} (I : Inv X pins σ H s) (h1 : -(2 ^ 62) ≤ lo) (h2 : lo < 2 ^ 62) (h3 : -(2 ^ 62) ≤ hi) (h4 : hi < 2 ^ 62)
    (q : R (Itr lo (hi - lo).toNat) H) : wpAny (model X.prog X.w) X.A (pyIter (.ref s.heap.objs.size)) (PIE X pins σ tg R) E { s with heap := s.heap.push { cls := .type "range", data := .fields #[.int lo t, .int hi u, .int 1 v] }, toks := tk } := by
  refine wpAny_pyIter_range (IsRange.new ..) (small_one h1 h2 h3 h4) ?_
  have I1 : Inv X pins σ H { s with heap := s.heap.push { cls := .type "range", data := .fields #[.int lo t, .int hi u, .int 1 v] }, toks := tk } := I.kept fun b o e => Heap.get?_push_of_some _ e
  refine ⟨(s.heap.push { cls := .type "range", data := .fields #[.int lo t, .int hi u, .int 1 v] }).objs.size, [(s.heap.push { cls := .type "range", data := .fields #[.int lo t, .int hi u, .int 1 v] }).objs.size], _, _, H, rfl,
    I1.kept (t' := tk) fun b o e => Heap.get?_push_of_some _ e, turn_range _ lo (hi - lo).toNat, ?_, fun b hb => ?_, q⟩
  · have e1 : lo + ((0 : Nat) : Int) * 1 = lo := by simp
    have e2 : (((hi - lo).toNat : Nat) : Int) - ((0 : Nat) : Int) = Builtin.Range.rangeSize lo hi 1 := by rw [rangeSize_one]; split <;> omega
    show IsRangeIter _ _ (lo + ((0 : Nat) : Int) * 1) ((((hi - lo).toNat : Nat) : Int) - ((0 : Nat) : Int)) 1
    rw [e1, e2]
    exact Heap.get?_push_size _ rfl
  · have e : b = (s.heap.push { cls := .type "range", data := .fields #[.int lo t, .int hi u, .int 1 v] }).objs.size := by simpa using hb
    subst e
    exact I1.fpOk (Nat.le_refl _) (I1.hok.fresh (Nat.le_refl _))
def iRng1 (ta : TA) : TI := fun σ H R => ta σ H fun vs H1 => ∃ j : Int, vs = [.int j] ∧ -(2 ^ 62) ≤ j ∧ j < 2 ^ 62 ∧ R (Itr 0 j.toNat) H1
def iRng2 (ta : TA) : TI := fun σ H R => ta σ H fun vs H1 => ∃ i j : Int, vs = [.int i, .int j] ∧ (-(2 ^ 62) ≤ i ∧ i < 2 ^ 62 ∧ -(2 ^ 62) ≤ j ∧ j < 2 ^ 62) ∧ R (Itr i (j - i).toNat) H1
theorem pi_range1 {a : Expr} {ta : TA} {p pos : Pos} (hg : Gl X "range") (hm : X.mg "range" = none) (ha : PA X [a] ta) (hs : starEach [a] X.env = [(false, eval a X.env)] := by rfl) : PI X tg (.Call (.Name "range" p) [a] [] pos) (iRng1 ta) := by
  intro pins s σ H R I h
  refine Call_ (ld_blt I hg hm boot_range (PyProof.Rows.callWith_type1 (thn (ha pos pins s σ H _ I h) fun us s1 ⟨vs, H1, I1, r1, q1⟩ => ?_) hs rfl))
  obtain ⟨j, e, q1, q2, q⟩ := q1
  subst e
  cases r1 with
  | cons r rr =>
    cases rr
    obtain ⟨t, rfl⟩ := r
    exact call_range_1 (range_it I1 (by omega) (by omega) q1 q2 (by simpa using q))
theorem pi_range2 {a b : Expr} {ta : TA} {p pos : Pos} (hg : Gl X "range") (hm : X.mg "range" = none) (ha : PA X [a, b] ta) (hs : starEach [a, b] X.env = [(false, eval a X.env), (false, eval b X.env)] := by rfl) (hs2 : starEach [b] X.env = [(false, eval b X.env)] := by rfl) :
    PI X tg (.Call (.Name "range" p) [a, b] [] pos) (iRng2 ta) := by
  intro pins s σ H R I h
  refine Call_ (ld_blt I hg hm boot_range (PyProof.Rows.callWith_type1 (thn (ha pos pins s σ H _ I h) fun us s1 ⟨vs, H1, I1, r1, q1⟩ => ?_) (by rw [hs, hs2]) (by rw [hs2]; rfl)))
  obtain ⟨i, j, e, ⟨q1, q2, q3, q4⟩, q⟩ := q1
  subst e
  cases r1 with
  | cons r rr =>
    cases rr with
    | cons r' rr =>
      cases rr
      obtain ⟨t, rfl⟩ := r
      obtain ⟨t', rfl⟩ := r'
      exact call_range_2 (range_it I1 q1 q2 q3 q4 q)

/-! ### for -/
/-- W: the invariant by the turn and a measure; N: what the body is to reach -/
def tFor (wi : TI) (g : TG) (tb : TS) : TS := fun D σ H => wi σ H fun J H1 => ∃ W : Nat → Nat → St → Hp → Prop, (∃ m, W 0 m σ H1) ∧ ∀ i m σ H, W i m σ H →
  (J.stop i H ∧ D.nx σ H) ∨ (J.go i H ∧ ∃ N : St → Hp → Prop, (∀ σ' H', N σ' H' → ∃ m', m' < m ∧ W (i + 1) m' σ' H') ∧ ∀ x H', J.yld i H x H' → g x σ H' fun σ2 H2 => tb { D with nx := N, ct := N, bk := D.nx } σ2 H2)
/-- the records at fp as they stand -/
def pinsAt (fp : List Addr) (h : Heap) : List (Addr × Obj) := fp.filterMap fun b => (h.get? b).map fun o => (b, o)
theorem mem_pinsAt {fp : List Addr} {h : Heap} {b : Addr} {o : Obj} (hb : b ∈ fp) (e : h.get? b = some o) : (b, o) ∈ pinsAt fp h := List.mem_filterMap.mpr ⟨b, hb, by rw [e]; rfl⟩
theorem of_pinsAt {fp : List Addr} {h : Heap} {p : Addr × Obj} (hp : p ∈ pinsAt fp h) : p.1 ∈ fp ∧ h.get? p.1 = some p.2 := by
  obtain ⟨b, hb, e⟩ := List.mem_filterMap.mp hp
  cases q : h.get? b with
  | none => rw [q] at e; cases e
  | some o =>
    rw [q] at e
    have e' : (b, o) = p := Option.some.inj e
    subst e'
    exact ⟨hb, q⟩
theorem Inv.pinned {pins : List (Addr × Obj)} {σ : St} {H : Hp} {s : Shared} {fp : List Addr} (I : Inv X pins σ H s) (hf : ∀ b ∈ fp, FpOk X pins H b) (ho : ∀ b ∈ fp, ∃ o, s.heap.get? b = some o ∧ ∀ v, o.data ≠ .cell v) : Inv X (pins ++ pinsAt fp s.heap) σ H s :=
  I.pins_of fun p hp => (List.mem_append.mp hp).elim (fun z => I.pin p (List.mem_append_right _ z)) fun z => by
    obtain ⟨hb, e⟩ := of_pinsAt z
    obtain ⟨f0, f1, f2, _⟩ := hf p.1 hb
    obtain ⟨o, e', d⟩ := ho p.1 hb
    rw [e] at e'; cases e'
    exact ⟨e, f0, f1, f2, d⟩
theorem Inv.unpinned {pins pl : List (Addr × Obj)} {σ : St} {H : Hp} {s : Shared} (I : Inv X (pins ++ pl) σ H s) : Inv X pins σ H s := I.pins_of fun p hp => I.pin p (List.mem_append_right _ (List.mem_append_left _ hp))
theorem ps_for {iter : Expr} {body : List Stmt} {wi : TI} {g : TG} {tb : TS} {pos : Pos} (hp : PassesOwn (model X.prog X.w) X.A X.env X.xe) (hc : X.calm = true) (hi : PI X tg iter wi) (hg : PG X tg g) (hb : PSs X body tb)
    (hs : ∀ x, foldedSetIterable iter X.env x = pure x := by intro _; rfl) : PS X (.For tg iter body [] pos) (tFor wi g tb) := by
  intro pins s σ H D I h
  refine wpAny_For (thn (hi pins s σ H _ I h) fun v s1 h1 => thn h1 fun itv s2 h2 => ?_) hs
  obtain ⟨it, fp, tn, J, H2, e, I2, T, st2, f2, W, ⟨m0, w0⟩, turn⟩ := h2
  subst e
  -- what stays true of the iterator's objects through the loop
  have stat : ∀ {H' : Hp}, (∀ b ∈ fp, H' b = none) → ∀ b ∈ fp, FpOk X pins H' b := fun hn b hb => ⟨hn b hb, (f2 b hb).2⟩
  refine codeAny_forLoop_any (fun n s' => ∃ i σ' H', Inv X pins σ' H' s' ∧ tn i s'.heap ∧ (∀ b ∈ fp, H' b = none) ∧ W i n σ' H') ?_ m0 ⟨0, σ, H2, I2, st2, fun b hb => (f2 b hb).1, w0⟩
  rintro n s3 ⟨i, σ3, H3, I3, st3, fr3, w3⟩
  rcases turn i n σ3 H3 w3 with ⟨stop, qn⟩ | ⟨go, N, hN, step⟩
  · refine wpAny_passesOwn hp (thn (T.done X rfl rfl rfl hc i pins s3 σ3 H3 X.xe I3 (stat fr3) st3 stop) fun r s4 ⟨hr, I4⟩ => ?_)
    subst hr
    exact wpAny_execs_nil ⟨σ3, H3, I4, qn⟩
  · refine wpAny_passesOwn hp (thn (T.item X rfl rfl rfl hc i pins s3 σ3 H3 X.xe I3 (stat fr3) st3 go) fun r s4 ⟨u, hr, h4⟩ => ?_)
    subst hr
    refine wpAny_passesOwn hp (thn h4 fun _ s5 ⟨x, H5, I5, r5, y5, st5, fr5⟩ => ?_)
    have I5' := I5.pinned (stat fr5) (T.obj _ _ st5)
    refine wpAny_passesOwn hp (thn (hg _ s5 σ3 H5 x u _ I5' r5 (step x H5 y5)) fun _ s6 ⟨σ6, H6, I6, q6⟩ => ?_)
    refine wpAny_passesOwn hp (thn (hb _ s6 σ6 H6 _ I6 q6) fun f s7 q7 => ?_)
    have again : ∀ {σ7 : St} {H7 : Hp}, Inv X (pins ++ pinsAt fp s5.heap) σ7 H7 s7 → N σ7 H7 → ∃ m, m < n ∧ ∃ i σ' H', Inv X pins σ' H' s7 ∧ tn i s7.heap ∧ (∀ b ∈ fp, H' b = none) ∧ W i m σ' H' := fun {σ7 H7} I7 n7 => by
      obtain ⟨m', hm, w7⟩ := hN σ7 H7 n7
      refine ⟨m', hm, i + 1, σ7, H7, I7.unpinned, T.keep _ _ _ st5 fun b hb o e => (I7.pin (b, o) (List.mem_append_right _ (List.mem_append_right _ (mem_pinsAt hb e)))).1, fun b hb => ?_, w7⟩
      obtain ⟨o, e, d⟩ := T.obj _ _ st5 b hb
      exact (I7.pin (b, o) (List.mem_append_right _ (List.mem_append_right _ (mem_pinsAt hb e)))).2.1
    cases f with
    | next => obtain ⟨σ7, H7, I7, n7⟩ := q7; exact again I7 n7
    | cont => obtain ⟨σ7, H7, I7, n7⟩ := q7; exact again I7 n7
    | brk => obtain ⟨σ7, H7, I7, q7⟩ := q7; exact ⟨σ7, H7, I7.unpinned, q7⟩
    | ret v => obtain ⟨x7, σ7, H7, I7, r7, q7⟩ := q7; exact ⟨x7, σ7, H7, I7.unpinned, r7, q7⟩
end

/-! ### the forms one uses -/
/-- over a list that the body leaves as it is -/
theorem for_list {K : PySem.W.Frag} {a : Addr} {xs : List V} {g : TG} {tb : TS} {D : Ends} {σ : St} {H : Hp} (Pv : Nat → St → Hp → Prop) (h0 : Pv 0 σ H) (hl : ∀ i σ H, i ≤ xs.length → Pv i σ H → SqL K H a xs)
    (hs : ∀ i x σ H, xs[i]? = some x → Pv i σ H → g x σ H fun σ2 H2 => tb { D with nx := Pv (i + 1), ct := Pv (i + 1), bk := D.nx } σ2 H2) (hd : ∀ σ H, Pv xs.length σ H → D.nx σ H) :
    ∃ W : Nat → Nat → St → Hp → Prop, (∃ m, W 0 m σ H) ∧ ∀ i m σ H, W i m σ H →
      ((Itl K a).stop i H ∧ D.nx σ H) ∨ ((Itl K a).go i H ∧ ∃ N : St → Hp → Prop, (∀ σ' H', N σ' H' → ∃ m', m' < m ∧ W (i + 1) m' σ' H') ∧ ∀ x H', (Itl K a).yld i H x H' → g x σ H' fun σ2 H2 => tb { D with nx := N, ct := N, bk := D.nx } σ2 H2) := by
  refine ⟨fun i m σ H => m = xs.length - i ∧ i ≤ xs.length ∧ Pv i σ H, ⟨xs.length, by simp, Nat.zero_le _, h0⟩, ?_⟩
  rintro i m σ H ⟨rfl, hi, p⟩
  have q := hl i σ H hi p
  by_cases hlt : i < xs.length
  · refine .inr ⟨⟨xs, xs[i], q, by simp [hlt]⟩, Pv (i + 1), fun σ' H' p' => ⟨xs.length - (i + 1), by omega, rfl, hlt, p'⟩, fun x H' y => ?_⟩
    obtain ⟨e, y⟩ := y
    subst e
    exact hs i x σ _ (y xs q) p
  · have e : i = xs.length := by omega
    subst e
    exact .inl ⟨⟨xs, q, Nat.le_refl _⟩, hd σ H p⟩
theorem for_tup {K : PySem.W.Frag} {a : Addr} {xs : List V} {g : TG} {tb : TS} {D : Ends} {σ : St} {H : Hp} (Pv : Nat → St → Hp → Prop) (h0 : Pv 0 σ H) (hl : ∀ i σ H, i ≤ xs.length → Pv i σ H → SqT K H a xs)
    (hs : ∀ i x σ H, xs[i]? = some x → Pv i σ H → g x σ H fun σ2 H2 => tb { D with nx := Pv (i + 1), ct := Pv (i + 1), bk := D.nx } σ2 H2) (hd : ∀ σ H, Pv xs.length σ H → D.nx σ H) :
    ∃ W : Nat → Nat → St → Hp → Prop, (∃ m, W 0 m σ H) ∧ ∀ i m σ H, W i m σ H →
      ((Itt K a).stop i H ∧ D.nx σ H) ∨ ((Itt K a).go i H ∧ ∃ N : St → Hp → Prop, (∀ σ' H', N σ' H' → ∃ m', m' < m ∧ W (i + 1) m' σ' H') ∧ ∀ x H', (Itt K a).yld i H x H' → g x σ H' fun σ2 H2 => tb { D with nx := N, ct := N, bk := D.nx } σ2 H2) := by
  refine ⟨fun i m σ H => m = xs.length - i ∧ i ≤ xs.length ∧ Pv i σ H, ⟨xs.length, by simp, Nat.zero_le _, h0⟩, ?_⟩
  rintro i m σ H ⟨rfl, hi, p⟩
  have q := hl i σ H hi p
  by_cases hlt : i < xs.length
  · refine .inr ⟨⟨xs, xs[i], q, by simp [hlt]⟩, Pv (i + 1), fun σ' H' p' => ⟨xs.length - (i + 1), by omega, rfl, hlt, p'⟩, fun x H' y => ?_⟩
    obtain ⟨e, y⟩ := y
    subst e
    exact hs i x σ _ (y xs q) p
  · have e : i = xs.length := by omega
    subst e
    exact .inl ⟨⟨xs, q, Nat.le_refl _⟩, hd σ H p⟩
theorem for_range {lo : Int} {n : Nat} {g : TG} {tb : TS} {D : Ends} {σ : St} {H : Hp} (Pv : Nat → St → Hp → Prop) (h0 : Pv 0 σ H)
    (hs : ∀ i σ H, i < n → Pv i σ H → g (.int (lo + i)) σ H fun σ2 H2 => tb { D with nx := Pv (i + 1), ct := Pv (i + 1), bk := D.nx } σ2 H2) (hd : ∀ σ H, Pv n σ H → D.nx σ H) :
    ∃ W : Nat → Nat → St → Hp → Prop, (∃ m, W 0 m σ H) ∧ ∀ i m σ H, W i m σ H →
      ((Itr lo n).stop i H ∧ D.nx σ H) ∨ ((Itr lo n).go i H ∧ ∃ N : St → Hp → Prop, (∀ σ' H', N σ' H' → ∃ m', m' < m ∧ W (i + 1) m' σ' H') ∧ ∀ x H', (Itr lo n).yld i H x H' → g x σ H' fun σ2 H2 => tb { D with nx := N, ct := N, bk := D.nx } σ2 H2) := by
  refine ⟨fun i m σ H => m = n - i ∧ i ≤ n ∧ Pv i σ H, ⟨n, by simp, Nat.zero_le _, h0⟩, ?_⟩
  rintro i m σ H ⟨rfl, hi, p⟩
  by_cases hlt : i < n
  · refine .inr ⟨hlt, Pv (i + 1), fun σ' H' p' => ⟨n - (i + 1), by omega, rfl, hlt, p'⟩, fun x H' y => ?_⟩
    obtain ⟨e, y⟩ := y
    subst e y
    exact hs i σ _ hlt p
  · have e : i = n := by omega
    subst e
    exact .inl ⟨Nat.le_refl _, hd σ H p⟩
/-- while, by a word and a measure of the state -/
theorem while_by {c : TT} {tb : TS} {D : Ends} {σ : St} {H : Hp} (Pv : St → Hp → Prop) (μ : St → Hp → Nat) (h0 : Pv σ H)
    (hs : ∀ σ H, Pv σ H → c σ H fun b H1 => if b = true then tb { D with nx := fun σ' H' => Pv σ' H' ∧ μ σ' H' < μ σ H, ct := fun σ' H' => Pv σ' H' ∧ μ σ' H' < μ σ H, bk := D.nx } σ H1 else D.nx σ H1)
    (mono : ∀ σ H Q Q', (∀ b H1, Q b H1 → Q' b H1) → c σ H Q → c σ H Q') : tWhile c tb D σ H := by
  refine ⟨fun m σ H => m = μ σ H ∧ Pv σ H, ⟨_, rfl, h0⟩, ?_⟩
  rintro m σ H ⟨rfl, p⟩
  refine mono σ H _ _ (fun b H1 q => ?_) (hs σ H p)
  cases b with
  | true => exact ⟨_, fun σ' H' ⟨p', l⟩ => ⟨_, l, rfl, p'⟩, q⟩
  | false => exact q
end L2

namespace L2
open PySem PySem.Spec PyProof.Rows

abbrev R2 := V → V → Hp → VK → Prop
/-- a two-place operation on values: f is binaryOp op, inplaceOp op or compareOp op -/
def OpR (X : Cx) (f : Value → Value → Sem Value) (r : R2) : Prop :=
  ∀ (pins : List (Addr × Obj)) (s : Shared) (σ : St) (H : Hp) (x y : V) (v u : Value) (Q : VK), Inv X pins σ H s → RelV x v → RelV y u → r x y H Q →
    wpAny (model X.prog X.w) X.A (f v u) (EP X pins σ Q) X.xe s
/-- a one-place operation -/
def UnR (X : Cx) (f : Value → Sem Value) (r : V → Hp → VK → Prop) : Prop :=
  ∀ (pins : List (Addr × Obj)) (s : Shared) (σ : St) (H : Hp) (x : V) (v : Value) (Q : VK), Inv X pins σ H s → RelV x v → r x H Q →
    wpAny (model X.prog X.w) X.A (f v) (EP X pins σ Q) X.xe s
/-- a call of a value that is known (a builtin, a type) with values -/
def CallR (X : Cx) (f : Value) (r : List V → Hp → VK → Prop) : Prop :=
  ∀ (pins : List (Addr × Obj)) (s : Shared) (σ : St) (H : Hp) (xs : List V) (us : List Value) (Q : VK), Inv X pins σ H s → Vals xs us → r xs H Q →
    wpAny (model X.prog X.w) X.A (call f us) (EP X pins σ Q) X.xe s
/-- a value's truth -/
def TruR (X : Cx) (r : V → Hp → (Bool → Hp → Prop) → Prop) : Prop :=
  ∀ (pins : List (Addr × Obj)) (s : Shared) (σ : St) (H : Hp) (x : V) (v : Value) (Q : Bool → Hp → Prop), Inv X pins σ H s → RelV x v → r x H Q →
    wpAny (model X.prog X.w) X.A (truthy v) (TP X pins σ Q) X.xe s

def tOp (r : R2) (ta tb : TE) : TE := fun σ H Q => ta σ H fun x H1 => tb σ H1 fun y H2 => r x y H2 Q
def tUn (r : V → Hp → VK → Prop) (ta : TE) : TE := fun σ H Q => ta σ H fun x H1 => r x H1 Q
/-- ints in, under C, and a value out -/
def rI (C : Int → Int → Prop) (g : Int → Int → V) : R2 := fun x y H Q => ∃ i j, x = .int i ∧ y = .int j ∧ C i j ∧ Q (g i j) H
def rI0 (g : Int → Int → V) : R2 := fun x y H Q => ∃ i j, x = .int i ∧ y = .int j ∧ Q (g i j) H
def rU (g : Int → V) : V → Hp → VK → Prop := fun x H Q => ∃ i, x = .int i ∧ Q (g i) H

section
variable {X : Cx} {a b c : Expr} {ta tb tc : TE} {pos : Pos}

theorem binT (ha : PE X a ta) (hb : PE X b tb) {pins : List (Addr × Obj)} {s : Shared} {σ : St} {H : Hp} {R : V → V → Hp → Prop} (I : Inv X pins σ H s)
    (h : ta σ H fun x H1 => tb σ H1 fun y H2 => R x y H2) {Q : Value → Shared → Prop} {f : Value → Value → Sem Value}
    (hf : ∀ v u s2 x y H2, Inv X pins σ H2 s2 → RelV x v → RelV y u → R x y H2 → wpAny (model X.prog X.w) X.A (f v u) Q X.xe s2) :
    wpAny (model X.prog X.w) X.A (eval a X.env) (fun v s₁ => wpAny (model X.prog X.w) X.A (eval b X.env) (fun u s₂ => wpAny (model X.prog X.w) X.A (f v u) Q X.xe s₂) X.xe s₁) X.xe s := by
  refine thn (ha pins s σ H _ I h) fun v s1 ⟨x, H1, I1, r1, q1⟩ => ?_
  refine thn (hb pins s1 σ H1 _ I1 q1) fun u s2 ⟨y, H2, I2, r2, q2⟩ => ?_
  exact hf v u s2 x y H2 I2 r1 r2 q2

theorem pe_op {op : Operator} {r : R2} (ho : OpR X (binaryOp op) r) (ha : PE X a ta) (hb : PE X b tb) : PE X (.BinOp a op b pos) (tOp r ta tb) := by
  intro pins s σ H Q I h
  exact wpAny_BinOp (binT ha hb I h fun v u s2 x y H2 I2 rx ry q => ho pins s2 σ H2 x y v u Q I2 rx ry q)
theorem pe_un {op : UnaryOp} {r : V → Hp → VK → Prop} (ho : UnR X (unaryOp op) r) (ha : PE X a ta) : PE X (.UnaryOp op a pos) (tUn r ta) := by
  intro pins s σ H Q I h
  exact UnaryOp_ (thn (ha pins s σ H _ I h) fun v s1 ⟨x, H1, I1, r1, q1⟩ => ho pins s1 σ H1 x v Q I1 r1 q1)
/-- a op= e at a name: the name's slot i -/
theorem augR {op : Operator} {r : R2} (ho : OpR X (inplaceOp op) r) {pins : List (Addr × Obj)} {s : Shared} {σ : St} {H : Hp} {x y : V} {v u : Value} {Q : VK} (I : Inv X pins σ H s)
    (rx : RelV x v) (ry : RelV y u) (q : r x y H Q) : wpAny (model X.prog X.w) X.A (inplaceOp op v u) (EP X pins σ Q) X.xe s := ho pins s σ H x y v u Q I rx ry q

/-! ### ints -/
theorem opI {f : Value → Value → Sem Value} {C : Int → Int → Prop} {g : Int → Int → Int}
    (rule : ∀ (i j : Int) (t u : Tok) (s : Shared) (Q : Value → Shared → Prop) (E : Value → Shared → Prop), C i j → Q (.int (g i j) s.toks) { s with toks := s.toks + 1 } → wpAny (model X.prog X.w) X.A (f (.int i t) (.int j u)) Q E s) :
    OpR X f (rI C fun i j => .int (g i j)) := by
  intro pins s σ H x y v u Q I rx ry h
  obtain ⟨i, j, rfl, rfl, hc, q⟩ := h
  obtain ⟨t, rfl⟩ := rx
  obtain ⟨t', rfl⟩ := ry
  exact rule i j t t' s _ _ hc ⟨.int (g i j), H, I.tok _, ⟨_, rfl⟩, q⟩
theorem opI0 {f : Value → Value → Sem Value} {g : Int → Int → Int}
    (rule : ∀ (i j : Int) (t u : Tok) (s : Shared) (Q : Value → Shared → Prop) (E : Value → Shared → Prop), Q (.int (g i j) s.toks) { s with toks := s.toks + 1 } → wpAny (model X.prog X.w) X.A (f (.int i t) (.int j u)) Q E s) :
    OpR X f (rI0 fun i j => .int (g i j)) := by
  intro pins s σ H x y v u Q I rx ry h
  obtain ⟨i, j, rfl, rfl, q⟩ := h
  obtain ⟨t, rfl⟩ := rx
  obtain ⟨t', rfl⟩ := ry
  exact rule i j t t' s _ _ ⟨.int (g i j), H, I.tok _, ⟨_, rfl⟩, q⟩
theorem opB0 {f : Value → Value → Sem Value} {g : Int → Int → Bool}
    (rule : ∀ (i j : Int) (t u : Tok) (s : Shared) (Q : Value → Shared → Prop) (E : Value → Shared → Prop), Q (.bool (g i j)) s → wpAny (model X.prog X.w) X.A (f (.int i t) (.int j u)) Q E s) :
    OpR X f (rI0 fun i j => .bl (g i j)) := by
  intro pins s σ H x y v u Q I rx ry h
  obtain ⟨i, j, rfl, rfl, q⟩ := h
  obtain ⟨t, rfl⟩ := rx
  obtain ⟨t', rfl⟩ := ry
  exact rule i j t t' s _ _ ⟨.bl (g i j), H, I, rfl, q⟩

def CDiv (i j : Int) : Prop := 0 < j ∧ j < 1073741824
def CDivN (i j : Int) : Prop := j ≠ 0 ∧ j.natAbs < 1073741824
def CPow (i j : Int) : Prop := 0 ≤ j ∧ j ≤ 1000000 ∧ i.natAbs < 2 ^ 64
def CMul (i j : Int) : Prop := (-(2 ^ 64) < i ∧ i < 2 ^ 64) ∨ (-(2 ^ 64) < j ∧ j < 2 ^ 64)
theorem CMul.ok {i j : Int} (h : CMul i j) : IntMulOk i j := by
  rcases h with ⟨h1, h2⟩ | ⟨h1, h2⟩
  · exact .of_left (intBits_le_64 h1 h2)
  · exact .of_right (intBits_le_64 h1 h2)
theorem two_pow_nn (k : Nat) : (0 : Int) ≤ 2 ^ k := by
  rw [two_pow_cast]
  exact Int.natCast_nonneg _

theorem op_add : OpR X (binaryOp .Add) (rI0 fun i j => .int (i + j)) := opI0 fun _ _ _ _ _ _ _ q => add_int q
theorem op_sub : OpR X (binaryOp .Sub) (rI0 fun i j => .int (i - j)) := opI0 fun _ _ _ _ _ _ _ q => sub_int q
theorem op_mul : OpR X (binaryOp .Mult) (rI CMul fun i j => .int (i * j)) := opI fun _ _ _ _ _ _ _ hc q => mul_int q hc.ok
/-- // by a positive divisor -/
theorem op_fdiv : OpR X (binaryOp .FloorDiv) (rI CDiv fun i j => .int (i / j)) := opI fun i j _ _ _ _ _ hc q => by
  have h1 : (0 : Int) < j := hc.1
  have h2 : j < 1073741824 := hc.2
  exact floordiv_int (by omega) (by rw [Int.fdiv_eq_ediv_of_nonneg i (by omega)]; exact q) (.inl (PyProof.noPylong_small (by omega)))
theorem op_fdivN : OpR X (binaryOp .FloorDiv) (rI CDivN fun i j => .int (i.fdiv j)) := opI fun _ _ _ _ _ _ _ hc q => floordiv_int hc.1 q (.inl (PyProof.noPylong_small hc.2))
/-- % by a positive divisor of any size -/
theorem op_mod : OpR X (binaryOp .Mod) (rI (fun _ j => 0 < j) fun i j => .int (i % j)) := opI fun i j _ _ _ _ _ hc q => by
  have h1 : (0 : Int) < j := hc
  exact mod_int' (by omega) (by rw [Int.fmod_eq_emod_of_nonneg i (by omega)]; exact q)
theorem op_modN : OpR X (binaryOp .Mod) (rI (fun _ j => j ≠ 0) fun i j => .int (i.fmod j)) := opI fun _ _ _ _ _ _ _ hc q => mod_int' hc q
theorem op_pow : OpR X (binaryOp .Pow) (rI CPow fun i j => .int (i ^ j.toNat)) := opI fun _ _ _ _ _ _ _ hc q => pow_int_small hc.1 hc.2.1 hc.2.2 q
theorem op_shl : OpR X (binaryOp .LShift) (rI CPow fun i j => .int (i * 2 ^ j.toNat)) := opI fun _ _ _ _ _ _ _ hc q => lshift_int_small hc.1 hc.2.1 hc.2.2 q
theorem op_shr : OpR X (binaryOp .RShift) (rI (fun _ j => 0 ≤ j) fun i j => .int (i / 2 ^ j.toNat)) := opI fun i j _ _ _ _ _ hc q =>
  rshift_int hc (by rw [Int.fdiv_eq_ediv_of_nonneg i (two_pow_nn _)]; exact q)
theorem op_and : OpR X (binaryOp .BitAnd) (rI0 fun i j => .int (Builtin.bitAnd i j)) := opI0 fun _ _ _ _ _ _ _ q => and_int q
theorem op_or : OpR X (binaryOp .BitOr) (rI0 fun i j => .int (Builtin.bitOr i j)) := opI0 fun _ _ _ _ _ _ _ q => or_int q
theorem op_xor : OpR X (binaryOp .BitXor) (rI0 fun i j => .int (Builtin.bitXor i j)) := opI0 fun _ _ _ _ _ _ _ q => xor_int q

theorem iop_add : OpR X (inplaceOp .Add) (rI0 fun i j => .int (i + j)) := opI0 fun _ _ _ _ _ _ _ q => iadd_int q
theorem iop_sub : OpR X (inplaceOp .Sub) (rI0 fun i j => .int (i - j)) := opI0 fun _ _ _ _ _ _ _ q => isub_int q
theorem iop_mul : OpR X (inplaceOp .Mult) (rI CMul fun i j => .int (i * j)) := opI fun _ _ _ _ _ _ _ hc q => imul_int q hc.ok
theorem iop_fdiv : OpR X (inplaceOp .FloorDiv) (rI CDiv fun i j => .int (i / j)) := opI fun i j _ _ _ _ _ hc q => by
  have h1 : (0 : Int) < j := hc.1
  have h2 : j < 1073741824 := hc.2
  exact ifloordiv_int (by omega) (by rw [Int.fdiv_eq_ediv_of_nonneg i (by omega)]; exact q) (.inl (PyProof.noPylong_small (by omega)))
theorem iop_mod : OpR X (inplaceOp .Mod) (rI (fun _ j => 0 < j) fun i j => .int (i % j)) := opI fun i j _ _ _ _ _ hc q => by
  have h1 : (0 : Int) < j := hc
  exact imod_int (by omega) (by rw [Int.fmod_eq_emod_of_nonneg i (by omega)]; exact q)
theorem iop_shl : OpR X (inplaceOp .LShift) (rI CPow fun i j => .int (i * 2 ^ j.toNat)) := opI fun _ _ _ _ _ _ _ hc q => ilshift_int_small hc.1 hc.2.1 hc.2.2 q
theorem iop_shr : OpR X (inplaceOp .RShift) (rI (fun _ j => 0 ≤ j) fun i j => .int (i / 2 ^ j.toNat)) := opI fun i j _ _ _ _ _ hc q =>
  irshift_int hc (by rw [Int.fdiv_eq_ediv_of_nonneg i (two_pow_nn _)]; exact q)
theorem iop_and : OpR X (inplaceOp .BitAnd) (rI0 fun i j => .int (Builtin.bitAnd i j)) := opI0 fun _ _ _ _ _ _ _ q => iand_int q
theorem iop_or : OpR X (inplaceOp .BitOr) (rI0 fun i j => .int (Builtin.bitOr i j)) := opI0 fun _ _ _ _ _ _ _ q => ior_int q
theorem iop_xor : OpR X (inplaceOp .BitXor) (rI0 fun i j => .int (Builtin.bitXor i j)) := opI0 fun _ _ _ _ _ _ _ q => ixor_int q

theorem unI {f : Value → Sem Value} {g : Int → Int}
    (rule : ∀ (i : Int) (t : Tok) (s : Shared) (Q : Value → Shared → Prop) (E : Value → Shared → Prop), Q (.int (g i) s.toks) { s with toks := s.toks + 1 } → wpAny (model X.prog X.w) X.A (f (.int i t)) Q E s) :
    UnR X f (rU fun i => .int (g i)) := by
  intro pins s σ H x v Q I rx h
  obtain ⟨i, rfl, q⟩ := h
  obtain ⟨t, rfl⟩ := rx
  exact rule i t s _ _ ⟨.int (g i), H, I.tok _, ⟨_, rfl⟩, q⟩
theorem un_neg : UnR X (unaryOp .USub) (rU fun i => .int (-i)) := unI fun _ _ _ _ _ q => neg_int q
theorem un_inv : UnR X (unaryOp .Invert) (rU fun i => .int (Builtin.bitNot i)) := unI fun _ _ _ _ _ q => invert_int q

/-! ### bools among ints: n += (a < b) -/
theorem op_add_ib : OpR X (binaryOp .Add) (fun x y H Q => ∃ i k, x = .int i ∧ y = .bl k ∧ Q (.int (i + b2i k)) H) := by
  intro pins s σ H x y v u Q I rx ry h
  obtain ⟨i, k, rfl, rfl, q⟩ := h
  obtain ⟨t, rfl⟩ := rx
  cases ry
  exact add_int_bool ⟨.int (i + b2i k), H, I.tok _, ⟨_, rfl⟩, q⟩
end

/-! ### comparisons -/
/-- the scalars that == tells apart as data does -/
def scal : V → V → Bool
  | .non, .non => true | .non, .int _ => true | .int _, .non => true | .non, .bl _ => true | .bl _, .non => true | .non, .str _ => true | .str _, .non => true
  | .int _, .int _ => true | .bl _, .bl _ => true | .str _, .str _ => true | .byt _, .byt _ => true
  | .int _, .str _ => true | .str _, .int _ => true | .bl _, .str _ => true | .str _, .bl _ => true
  | _, _ => false
def rEq : R2 := fun x y H Q => scal x y = true ∧ Q (.bl (decide (x = y))) H
def rNe : R2 := fun x y H Q => scal x y = true ∧ Q (.bl (!decide (x = y))) H

theorem dec_int {i j : Int} : decide (V.int i = V.int j) = (i == j) := by
  rw [Bool.eq_iff_iff]
  simp
theorem dec_bl {i j : Bool} : decide (V.bl i = V.bl j) = (i == j) := by
  rw [Bool.eq_iff_iff]
  simp
theorem dec_str {i j : Str} : decide (V.str i = V.str j) = (i == j) := by
  rw [Bool.eq_iff_iff]
  simp
theorem dec_byt {i j : Array UInt8} : decide (V.byt i = V.byt j) = (i.toList == j.toList) := by
  rw [Bool.eq_iff_iff]
  cases i
  cases j
  simp

section
variable {X : Cx} {a b c : Expr} {ta tb tc : TE} {pos : Pos}
theorem fin_bl {pins : List (Addr × Obj)} {σ : St} {H : Hp} {s : Shared} {Q : VK} {k k' : Bool} (I : Inv X pins σ H s) (q : Q (.bl k) H) (e : k = k') : EP X pins σ Q (.bool k') s := by
  subst e
  exact ⟨.bl k, H, I, rfl, q⟩
theorem op_eq : OpR X (compareOp .Eq) rEq := by
  intro pins s σ H x y v u Q I rx ry h
  obtain ⟨hs, q⟩ := h
  cases x with
  | non =>
    cases rx
    cases y with
    | non => cases ry; exact PySem.EqNone.eq_none_none (fin_bl I q (by simp))
    | bl j => cases ry; exact PySem.EqNone.eq_none_bool (fin_bl I q (by simp))
    | int j => obtain ⟨t', rfl⟩ := ry; exact PySem.EqNone.eq_none_int (fin_bl I q (by simp))
    | str j => obtain ⟨t', rfl⟩ := ry; exact PySem.EqNone.eq_none_str (fin_bl I q (by simp))
    | _ => exact absurd (show false = true from hs) Bool.false_ne_true
  | bl i =>
    cases rx
    cases y with
    | non => cases ry; exact PySem.EqNone.eq_bool_none (fin_bl I q (by simp))
    | bl j => cases ry; exact eq_bool (fin_bl I q dec_bl)
    | str j => obtain ⟨t', rfl⟩ := ry; exact PySem.EqMixed.eq_bool_str (fin_bl I q (by simp))
    | _ => exact absurd (show false = true from hs) Bool.false_ne_true
  | int i =>
    obtain ⟨t, rfl⟩ := rx
    cases y with
    | non => cases ry; exact PySem.EqNone.eq_int_none (fin_bl I q (by simp))
    | int j => obtain ⟨t', rfl⟩ := ry; exact eq_int (fin_bl I q dec_int)
    | str j => obtain ⟨t', rfl⟩ := ry; exact PySem.EqMixed.eq_int_str (fin_bl I q (by simp))
    | _ => exact absurd (show false = true from hs) Bool.false_ne_true
  | str i =>
    obtain ⟨t, rfl⟩ := rx
    cases y with
    | non => cases ry; exact PySem.EqNone.eq_str_none (fin_bl I q (by simp))
    | bl j => cases ry; exact PySem.EqMixed.eq_str_bool (fin_bl I q (by simp))
    | int j => obtain ⟨t', rfl⟩ := ry; exact PySem.EqMixed.eq_str_int (fin_bl I q (by simp))
    | str j => obtain ⟨t', rfl⟩ := ry; exact eq_str (fin_bl I q dec_str)
    | _ => exact absurd (show false = true from hs) Bool.false_ne_true
  | byt i =>
    obtain ⟨t, rfl⟩ := rx
    cases y with
    | byt j => obtain ⟨t', rfl⟩ := ry; exact PySem.W.eq_bytes (fin_bl I q dec_byt)
    | _ => exact absurd (show false = true from hs) Bool.false_ne_true
  | _ => cases y <;> exact absurd (show false = true from hs) Bool.false_ne_true
theorem op_ne : OpR X (compareOp .NotEq) rNe := by
  intro pins s σ H x y v u Q I rx ry h
  obtain ⟨hs, q⟩ := h
  cases x with
  | non =>
    cases rx
    cases y with
    | non => cases ry; exact PySem.EqNone.ne_none_none (fin_bl I q (by simp))
    | bl j => cases ry; exact PySem.EqNone.ne_none_bool (fin_bl I q (by simp))
    | int j => obtain ⟨t', rfl⟩ := ry; exact PySem.EqNone.ne_none_int (fin_bl I q (by simp))
    | str j => obtain ⟨t', rfl⟩ := ry; exact PySem.EqNone.ne_none_str (fin_bl I q (by simp))
    | _ => exact absurd (show false = true from hs) Bool.false_ne_true
  | bl i =>
    cases rx
    cases y with
    | non => cases ry; exact PySem.EqNone.ne_bool_none (fin_bl I q (by simp))
    | bl j => cases ry; exact ne_bool (fin_bl I q (congrArg not dec_bl))
    | str j => obtain ⟨t', rfl⟩ := ry; exact PySem.EqMixed.ne_bool_str (fin_bl I q (by simp))
    | _ => exact absurd (show false = true from hs) Bool.false_ne_true
  | int i =>
    obtain ⟨t, rfl⟩ := rx
    cases y with
    | non => cases ry; exact PySem.EqNone.ne_int_none (fin_bl I q (by simp))
    | int j => obtain ⟨t', rfl⟩ := ry; exact ne_int (fin_bl I q (congrArg not dec_int))
    | str j => obtain ⟨t', rfl⟩ := ry; exact PySem.EqMixed.ne_int_str (fin_bl I q (by simp))
    | _ => exact absurd (show false = true from hs) Bool.false_ne_true
  | str i =>
    obtain ⟨t, rfl⟩ := rx
    cases y with
    | non => cases ry; exact PySem.EqNone.ne_str_none (fin_bl I q (by simp))
    | bl j => cases ry; exact PySem.EqMixed.ne_str_bool (fin_bl I q (by simp))
    | int j => obtain ⟨t', rfl⟩ := ry; exact PySem.EqMixed.ne_str_int (fin_bl I q (by simp))
    | str j => obtain ⟨t', rfl⟩ := ry; exact ne_str (fin_bl I q (congrArg not dec_str))
    | _ => exact absurd (show false = true from hs) Bool.false_ne_true
  | byt i =>
    obtain ⟨t, rfl⟩ := rx
    cases y with
    | byt j => obtain ⟨t', rfl⟩ := ry; exact PySem.W.ne_bytes (fin_bl I q (congrArg not dec_byt))
    | _ => exact absurd (show false = true from hs) Bool.false_ne_true
  | _ => cases y <;> exact absurd (show false = true from hs) Bool.false_ne_true

theorem op_lt : OpR X (compareOp .Lt) (rI0 fun i j => .bl (decide (i < j))) := opB0 fun _ _ _ _ _ _ _ q => lt_int q
theorem op_le : OpR X (compareOp .LtE) (rI0 fun i j => .bl (decide (i ≤ j))) := opB0 fun _ _ _ _ _ _ _ q => le_int q
theorem op_gt : OpR X (compareOp .Gt) (rI0 fun i j => .bl (decide (j < i))) := opB0 fun _ _ _ _ _ _ _ q => gt_int q
theorem op_ge : OpR X (compareOp .GtE) (rI0 fun i j => .bl (decide (j ≤ i))) := opB0 fun _ _ _ _ _ _ _ q => ge_int q
theorem op_lt_str : OpR X (compareOp .Lt) (fun x y H Q => ∃ i j, x = .str i ∧ y = .str j ∧ Q (.bl (decide (i.cps.toList < j.cps.toList))) H) := by
  intro pins s σ H x y v u Q I rx ry h
  obtain ⟨i, j, rfl, rfl, q⟩ := h
  obtain ⟨t, rfl⟩ := rx
  obtain ⟨t', rfl⟩ := ry
  exact lt_str (fin_bl I q rfl)
/-- the one string within the other -/
theorem op_in_str : OpR X (compareOp .In) (fun x y H Q => ∃ i j, x = .str i ∧ y = .str j ∧ Q (.bl (!(Builtin.Str.occurrences j i 0 j.length 1).isEmpty)) H) := by
  intro pins s σ H x y v u Q I rx ry h
  obtain ⟨i, j, rfl, rfl, q⟩ := h
  obtain ⟨t, rfl⟩ := rx
  obtain ⟨t', rfl⟩ := ry
  exact in_str (fin_bl I q rfl)

/-- is None, is not None: the right side a value none -/
theorem op_isN : OpR X (compareOp .Is) (fun x y H Q => y = .non ∧ Q (.bl (decide (x = .non))) H) := by
  intro pins s σ H x y v u Q I rx ry h
  obtain ⟨rfl, q⟩ := h
  cases ry
  refine is_none_gen (fin_bl I q ?_)
  cases x <;> first
    | (cases rx; rfl)
    | (obtain ⟨t, rfl⟩ := rx; rfl)
theorem op_notN : OpR X (compareOp .IsNot) (fun x y H Q => y = .non ∧ Q (.bl (!decide (x = .non))) H) := by
  intro pins s σ H x y v u Q I rx ry h
  obtain ⟨rfl, q⟩ := h
  cases ry
  refine isnot_none_gen (fin_bl I q ?_)
  cases x <;> first
    | (cases rx; rfl)
    | (obtain ⟨t, rfl⟩ := rx; rfl)

theorem op_notin_str : OpR X (compareOp .NotIn) (fun x y H Q => ∃ i j, x = .str i ∧ y = .str j ∧ Q (.bl (!(!(Builtin.Str.occurrences j i 0 j.length 1).isEmpty))) H) := by
  intro pins s σ H x y v u Q I rx ry h
  obtain ⟨i, j, rfl, rfl, q⟩ := h
  obtain ⟨t, rfl⟩ := rx
  obtain ⟨t', rfl⟩ := ry
  exact notIn_str (fin_bl I q rfl)
/-- is, is not of two objects that are tracked lists or instances -/
def isObj : HO → Bool
  | .lst _ => true
  | .ins _ _ _ => true
  | _ => false
theorem obj_there {pins : List (Addr × Obj)} {s : Shared} {σ : St} {H : Hp} {a : Addr} {o : HO} (I : Inv X pins σ H s) (h : H a = some o) (p : isObj o = true) : ∃ ob, s.heap.get? a = some ob ∧ ob.cls ≠ .type "tuple" := by
  cases o with
  | lst xs =>
    obtain ⟨_, its, n, _, e⟩ : xs.length ≤ sizeLine ∧ ∃ (its : List Value) (n : Nat), Vals xs its ∧ s.heap.get? a = some { cls := .type "list", data := .seq its.toArray n } := I.hok a _ h
    exact ⟨_, e, (by show Value.type "list" ≠ .type "tuple"; decide +kernel)⟩
  | ins C dx fs =>
    have x := I.hok a _ h
    obtain ⟨_, _, _, e, _⟩ := x
    exact ⟨_, e, (by show Value.ref C ≠ .type "tuple"; exact fun z => by cases z)⟩
  | _ => exact absurd (show false = true from p) Bool.false_ne_true
theorem op_is_ref : OpR X (compareOp .Is) (fun x y H Q => ∃ a b oa ob, x = .ref a ∧ y = .ref b ∧ H a = some oa ∧ isObj oa = true ∧ H b = some ob ∧ isObj ob = true ∧ Q (.bl (decide (a = b))) H) := by
  intro pins s σ H x y v u Q I rx ry h
  obtain ⟨a, b, oa, ob, rfl, rfl, ha, pa, hb, pb, q⟩ := h
  cases rx
  cases ry
  obtain ⟨o1, e1, n1⟩ := obj_there I ha pa
  obtain ⟨o2, e2, _⟩ := obj_there I hb pb
  by_cases z : a = b
  · subst z
    exact wpAny_is_ref_self (fin_bl I q (by simp))
  · exact wpAny_is_ref_other z e1 e2 n1 (fin_bl I q (by simp [z]))
theorem op_isnot_ref : OpR X (compareOp .IsNot) (fun x y H Q => ∃ a b oa ob, x = .ref a ∧ y = .ref b ∧ H a = some oa ∧ isObj oa = true ∧ H b = some ob ∧ isObj ob = true ∧ Q (.bl (!decide (a = b))) H) := by
  intro pins s σ H x y v u Q I rx ry h
  obtain ⟨a, b, oa, ob, rfl, rfl, ha, pa, hb, pb, q⟩ := h
  cases rx
  cases ry
  obtain ⟨o1, e1, n1⟩ := obj_there I ha pa
  obtain ⟨o2, e2, _⟩ := obj_there I hb pb
  by_cases z : a = b
  · subst z
    exact wpAny_isNot_ref_self (fin_bl I q (by simp))
  · exact wpAny_isNot_ref_other z e1 e2 n1 (fin_bl I q (by simp [z]))

/-- two rules for one operation: by cases -/
theorem OpR.or {f : Value → Value → Sem Value} {r r' : R2} (h : OpR X f r) (h' : OpR X f r') : OpR X f (fun x y H Q => r x y H Q ∨ r' x y H Q) := by
  intro pins s σ H x y v u Q I rx ry q
  rcases q with q | q
  · exact h pins s σ H x y v u Q I rx ry q
  · exact h' pins s σ H x y v u Q I rx ry q

theorem nomark (b : Expr) {op : CmpOp} (h : op ≠ .In := by decide) (h2 : op ≠ .NotIn := by decide) : behindInMarks op b = false := by
  have e1 : (op == CmpOp.In) = false := by cases op <;> first | rfl | exact absurd rfl h
  have e2 : (op == CmpOp.NotIn) = false := by cases op <;> first | rfl | exact absurd rfl h2
  cases b <;> simp [behindInMarks, e1, e2]
/-- a comparison as a value; hm: nomark b, or (for in, not in) by with_unfolding_all rfl -/
theorem pe_cmpR {op : CmpOp} {r : R2} (ho : OpR X (compareOp op) r) (ha : PE X a ta) (hb : PE X b tb) (hm : behindInMarks op b = false) : PE X (.Compare a [op] [b] pos) (tOp r ta tb) := by
  intro pins s σ H Q I h
  exact wpAny_Compare1 (binT ha hb I h fun v u s2 x y H2 I2 rx ry q => ho pins s2 σ H2 x y v u Q I2 rx ry q) hm
/-- a reading of a value as a test -/
def tTest (t : TE) : TT := fun σ H Q => t σ H fun x H' => ∃ k, x = .bl k ∧ Q k H'
theorem pt_cmpR {op : CmpOp} {r : R2} (ho : OpR X (compareOp op) r) (ha : PE X a ta) (hb : PE X b tb) (hm : behindInMarks op b = false) : PT X (.Compare a [op] [b] pos) (tTest (tOp r ta tb)) := by
  intro pins s σ H Q I h
  refine wpAny_isTrue_Compare1 (thn (ha pins s σ H _ I h) fun v s1 ⟨x, H1, I1, r1, q1⟩ => thn (hb pins s1 σ H1 _ I1 q1) fun u s2 ⟨y, H2, I2, r2, q2⟩ =>
    thn (ho pins s2 σ H2 x y v u _ I2 r1 r2 q2) fun c s3 ⟨z, H3, I3, r3, k, e, q3⟩ => ?_) hm
  subst e
  cases r3
  exact wpAny_truthy_bool ⟨H3, I3, q3⟩
/-- a op1 b op2 c -/
def tChain (r r' : R2) (ta tb tc : TE) : TE := fun σ H Q => ta σ H fun x H1 => tb σ H1 fun y H2 => r x y H2 fun z H3 => ∃ k, z = .bl k ∧
  (if k = true then tc σ H3 fun w' H4 => r' y w' H4 Q else Q (.bl false) H3)
theorem pe_chain {op op' : CmpOp} {r r' : R2} (ho : OpR X (compareOp op) r) (ho' : OpR X (compareOp op') r') (ha : PE X a ta) (hb : PE X b tb) (hc : PE X c tc)
    (hm : lastMarks [op, op'] [b, c] = false := by with_unfolding_all rfl) : PE X (.Compare a [op, op'] [b, c] pos) (tChain r r' ta tb tc) := by
  intro pins s σ H Q I h
  refine Compare_chain (thn (ha pins s σ H _ I h) fun v s1 ⟨x, H1, I1, r1, q1⟩ => chain_link (thn (hb pins s1 σ H1 _ I1 q1) fun u s2 ⟨y, H2, I2, r2, q2⟩ =>
    thn (ho pins s2 σ H2 x y v u _ I2 r1 r2 q2) fun d s3 ⟨z, H3, I3, r3, k, e, q3⟩ => ?_)) hm
  subst e
  cases r3
  refine wpAny_truthy_bool ?_
  cases k with
  | false => exact ite_ff ⟨.bl false, H3, I3, rfl, q3⟩
  | true => exact ite_tt (chain_last (thn (hc pins s3 σ H3 _ I3 q3) fun w' s4 ⟨z', H4, I4, r4, q4⟩ => ho' pins s4 σ H4 y z' u w' Q I4 r2 r4 q4))
theorem pt_chain {op op' : CmpOp} {r r' : R2} (ho : OpR X (compareOp op) r) (ho' : OpR X (compareOp op') r') (ha : PE X a ta) (hb : PE X b tb) (hc : PE X c tc)
    (hm : lastMarks [op, op'] [b, c] = false := by with_unfolding_all rfl) : PT X (.Compare a [op, op'] [b, c] pos) (tTest (tChain r r' ta tb tc)) := by
  intro pins s σ H Q I h
  refine isTrue_chain (thn (ha pins s σ H _ I h) fun v s1 ⟨x, H1, I1, r1, q1⟩ => test_link (thn (hb pins s1 σ H1 _ I1 q1) fun u s2 ⟨y, H2, I2, r2, q2⟩ =>
    thn (ho pins s2 σ H2 x y v u _ I2 r1 r2 q2) fun d s3 ⟨z, H3, I3, r3, k, e, q3⟩ => ?_)) hm
  subst e
  cases r3
  refine wpAny_truthy_bool ?_
  cases k with
  | false =>
    obtain ⟨k', e', q'⟩ := q3
    cases e'
    exact ite_ff ⟨H3, I3, q'⟩
  | true =>
    refine ite_tt (test_last (thn (hc pins s3 σ H3 _ I3 q3) fun w' s4 ⟨z', H4, I4, r4, q4⟩ => thn (ho' pins s4 σ H4 y z' u w' _ I4 r2 r4 q4) fun d' s5 ⟨z2, H5, I5, r5, k2, e2, q5⟩ => ?_))
    subst e2
    cases r5
    exact wpAny_truthy_bool ⟨H5, I5, q5⟩

/-! ### truth -/
/-- a value's truth by the abstract heap -/
def TruV (K : PySem.W.Frag) (x : V) (H : Hp) (k : Bool) : Prop :=
  match x with
  | .non => k = false
  | .bl b => k = b
  | .int i => k = (i != 0)
  | .str y => y.length ≤ sizeLine ∧ k = ((y.length : Int) != 0)
  | .byt y => y.size ≤ sizeLine ∧ k = ((y.size : Int) != 0)
  | .ref p => (∃ xs, SqL K H p xs ∧ k = !xs.isEmpty) ∨ (∃ xs, SqT K H p xs ∧ k = !xs.isEmpty) ∨ ∃ kvs, H p = some (.dK kvs) ∧ k = !kvs.isEmpty
  | _ => False
theorem isEmpty_kv {κ : Type} {kvs : List (κ × V)} {vs : List (κ × Value)} (r : KV kvs vs) : (!vs.isEmpty) = !kvs.isEmpty := by
  cases r <;> rfl
theorem isEmpty_of {xs : List V} {its : List Value} (r : Vals xs its) : (!its.toArray.isEmpty) = !xs.isEmpty := by
  cases r <;> simp
theorem line63 : (sizeLine : Nat) < 2 ^ 63 := by rw [sizeLine_eq]; decide
theorem tru_ok : TruR X (fun x H Q => ∃ k, TruV X.K x H k ∧ Q k H) := by
  intro pins s σ H x v Q I rx h
  obtain ⟨k, e, q⟩ := h
  have hl := line63
  have hs : sizeLine = 16777216 := sizeLine_eq
  cases x with
  | non =>
    cases rx
    have e' : k = false := e
    subst e'
    exact truthy_none ⟨H, I, q⟩
  | bl b =>
    cases rx
    have e' : k = b := e
    subst e'
    exact wpAny_truthy_bool ⟨H, I, q⟩
  | int i =>
    obtain ⟨t, rfl⟩ := rx
    have e' : k = (i != 0) := e
    subst e'
    exact PySem.P.truthy_int ⟨H, I, q⟩
  | str y =>
    obtain ⟨t, rfl⟩ := rx
    obtain ⟨hy, e'⟩ : y.length ≤ sizeLine ∧ k = ((y.length : Int) != 0) := e
    subst e'
    exact PySem.P.truthy_str (by omega) ⟨H, I.tok _, q⟩
  | byt y =>
    obtain ⟨t, rfl⟩ := rx
    obtain ⟨hy, e'⟩ : y.size ≤ sizeLine ∧ k = ((y.size : Int) != 0) := e
    subst e'
    exact PySem.W.truthy_bytes (by omega) ⟨H, I.tok _, q⟩
  | ref p =>
    cases rx
    have e' : (∃ xs, SqL X.K H p xs ∧ k = !xs.isEmpty) ∨ (∃ xs, SqT X.K H p xs ∧ k = !xs.isEmpty) ∨ ∃ kvs, H p = some (.dK kvs) ∧ k = !kvs.isEmpty := e
    rcases e' with ⟨xs, hx, e'⟩ | ⟨xs, hx, e'⟩ | ⟨kvs, hx, e'⟩
    · subst e'
      obtain ⟨its, r, pl, hz⟩ := I.list hx
      have hlen := r.length
      exact wpAny_truthy_list pl.isList (by simp only [List.size_toArray]; omega) ⟨H, I.tok _, by rw [isEmpty_of r]; exact q⟩
    · subst e'
      obtain ⟨its, r, pl, hz⟩ := I.tuple hx
      have hlen := r.length
      exact truthy_tuple pl (by simp only [List.size_toArray]; omega) ⟨H, I.tok _, by rw [isEmpty_of r]; exact q⟩
    · subst e'
      obtain ⟨hz, hS, vs, r, m⟩ : kvs.length ≤ sizeLine ∧ (p == sysModules) = false ∧ ∃ vs, KV kvs vs ∧ s.heap.DictOf (mixKind X.prog X.w) p vs := I.hok p _ hx
      have hlen : kvs.length = vs.length := Paired.length r
      exact wpAny_truthy_dict hS m (by omega) ⟨H, I.tok _, by rw [isEmpty_kv r]; exact q⟩
  | _ => exact (show False from e).elim
/-- any expression whose test is its value's truth (a name, a call, a subscript, a field ..: he by fun _ => rfl) -/
theorem pt_truth (ha : PE X a ta) (he : ∀ whole, isTrue a X.env whole = (do let v ← whole; standAt a.pos; holding [v] (truthy v))) :
    PT X a (fun σ H Q => ta σ H fun x H' => ∃ k, TruV X.K x H' k ∧ Q k H') := by
  intro pins s σ H Q I h
  exact isTrue_plain (thn (ha pins s σ H _ I h) fun v s1 ⟨x, H1, I1, r1, q1⟩ => tru_ok pins s1 σ H1 x v Q I1 r1 q1) (he _)

/-! ### strs and bytes -/
theorem pe_byt {x : List UInt8} {k : Nat} : PE X (.Constant (.bytes x) k pos) (fun _ H Q => Q (.byt x.toArray) H) := fun _ _ _ H _ I h => PySem.W.Constant_bytes ⟨.byt x.toArray, H, I.tok _, ⟨_, rfl⟩, h⟩
theorem op_add_str : OpR X (binaryOp .Add) (fun x y H Q => ∃ i j, x = .str i ∧ y = .str j ∧ i.length + j.length ≤ sizeLine ∧ Q (.str (i ++ j)) H) := by
  intro pins s σ H x y v u Q I rx ry h
  obtain ⟨i, j, rfl, rfl, hz, q⟩ := h
  obtain ⟨t, rfl⟩ := rx
  obtain ⟨t', rfl⟩ := ry
  exact add_str (fun t' tk => ⟨.str (i ++ j), H, I.tok _, ⟨_, rfl⟩, q⟩) hz
theorem iop_add_str : OpR X (inplaceOp .Add) (fun x y H Q => ∃ i j, x = .str i ∧ y = .str j ∧ i.length + j.length ≤ sizeLine ∧ Q (.str (i ++ j)) H) := by
  intro pins s σ H x y v u Q I rx ry h
  obtain ⟨i, j, rfl, rfl, hz, q⟩ := h
  obtain ⟨t, rfl⟩ := rx
  obtain ⟨t', rfl⟩ := ry
  exact iadd_str (fun t' tk => ⟨.str (i ++ j), H, I.tok _, ⟨_, rfl⟩, q⟩) hz
theorem op_add_byt : OpR X (binaryOp .Add) (fun x y H Q => ∃ i j, x = .byt i ∧ y = .byt j ∧ i.size + j.size ≤ 16777216 ∧ Q (.byt (i ++ j)) H) := by
  intro pins s σ H x y v u Q I rx ry h
  obtain ⟨i, j, rfl, rfl, hz, q⟩ := h
  obtain ⟨t, rfl⟩ := rx
  obtain ⟨t', rfl⟩ := ry
  exact PySem.W.KBy.add_bytes hz (fun t' tk => ⟨.byt (i ++ j), H, I.tok _, ⟨_, rfl⟩, q⟩)

def PlainIxT (b : Expr) : Prop := ∀ o i, subscripted b false o i = operate [o, i] (getItem o i)
/-- s[i], 0 ≤ i < len -/
theorem pe_item_str (ha : PE X a ta) (hb : PE X b tb) (hs : PlainIxT b) :
    PE X (.Subscript a b pos) (tOp (fun x y H Q => ∃ z i c, x = .str z ∧ y = .int i ∧ 0 ≤ i ∧ i < 2 ^ 63 ∧ i < z.length ∧ z.cps[i.toNat]? = some c ∧ Q (.str ⟨#[c]⟩) H) ta tb) := by
  intro pins s σ H Q I h
  refine Subscript_ (binT ha hb I h fun v u s2 x y H2 I2 rx ry q => ?_)
  obtain ⟨z, i, c, rfl, rfl, h0, h63, h1, hc, q⟩ := q
  obtain ⟨t, rfl⟩ := rx
  obtain ⟨t', rfl⟩ := ry
  have e : seqIndex? i z.length = some i.toNat := PySem.StrLaws.seqIndex_nonneg h0 h1
  exact tail_any (typeIs_str s2 z t) slot_str_getitem.lookup (getItem_str (c := c) (by
    have e1 : decide (i < -(2 ^ 63 : Int)) = false := decide_eq_false (by omega)
    have e2 : decide (i ≥ 2 ^ 63) = false := decide_eq_false (by omega)
    rw [e1, e2] <;> rfl) (by rw [e]; exact hc) ⟨.str ⟨#[c]⟩, H2, I2.tok _, ⟨_, rfl⟩, q⟩) (hs _ _)
/-- b[i], 0 ≤ i < len -/
theorem pe_item_byt (ha : PE X a ta) (hb : PE X b tb) (hs : PlainIxT b) :
    PE X (.Subscript a b pos) (tOp (fun x y H Q => ∃ (z : List UInt8) (i : Int), x = .byt z.toArray ∧ y = .int i ∧ z.length ≤ sizeLine ∧ 0 ≤ i ∧ i < z.length ∧ Q (.int ((z.getD i.toNat 0).toNat : Nat)) H) ta tb) := by
  intro pins s σ H Q I h
  refine Subscript_ (binT ha hb I h fun v u s2 x y H2 I2 rx ry q => ?_)
  obtain ⟨z, i, rfl, rfl, hz, h0, h1, q⟩ := q
  obtain ⟨t, rfl⟩ := rx
  obtain ⟨t', rfl⟩ := ry
  have hl : sizeLine = 16777216 := sizeLine_eq
  exact tail_any (PySem.W.typeIs_bytes s2 z.toArray t) PySem.W.FB.slot_bytes_getitem.lookup (PySem.W.getItem_bytes (by omega) h0 h1 ⟨.int ((z.getD i.toNat 0).toNat : Nat), H2, I2.tok _, ⟨_, rfl⟩, q⟩) (hs _ _)

/-! ### scalar builtins, by CallR -/
theorem vals1 {x : V} {us : List Value} (r : Vals [x] us) : ∃ u, us = [u] ∧ RelV x u := by
  cases r with
  | cons r1 r2 => cases r2; exact ⟨_, rfl, r1⟩
theorem vals2 {x y : V} {us : List Value} (r : Vals [x, y] us) : ∃ u w', us = [u, w'] ∧ RelV x u ∧ RelV y w' := by
  cases r with
  | cons r1 r2 =>
    cases r2 with
    | cons r3 r4 => cases r4; exact ⟨_, _, rfl, r1, r3⟩
theorem call_abs : CallR X (.builtin "abs") (fun xs H Q => ∃ i, xs = [.int i] ∧ Q (.int (if i < 0 then -i else i)) H) := by
  intro pins s σ H xs us Q I r h
  obtain ⟨i, rfl, q⟩ := h
  obtain ⟨u, rfl, t, rfl⟩ := vals1 r
  exact call_abs_int fun u tk => ⟨.int (if i < 0 then -i else i), H, I.tok _, ⟨_, rfl⟩, q⟩
theorem call_max2 (hc : X.calm = true) : CallR X (.builtin "max") (fun xs H Q => ∃ i j, xs = [.int i, .int j] ∧ Q (.int (if j > i then j else i)) H) := by
  intro pins s σ H xs us Q I r h
  obtain ⟨i, j, rfl, q⟩ := h
  obtain ⟨u, w', rfl, ⟨t, rfl⟩, ⟨t', rfl⟩⟩ := vals2 r
  refine max_two_ints (I.ok.hd hc) fun h' tk k => ⟨_, H, I.kept k, ?_, q⟩
  by_cases hj : j > i
  · rw [if_pos hj, if_pos hj]; exact ⟨_, rfl⟩
  · rw [if_neg hj, if_neg hj]; exact ⟨_, rfl⟩
theorem call_min2 (hc : X.calm = true) : CallR X (.builtin "min") (fun xs H Q => ∃ i j, xs = [.int i, .int j] ∧ Q (.int (if j < i then j else i)) H) := by
  intro pins s σ H xs us Q I r h
  obtain ⟨i, j, rfl, q⟩ := h
  obtain ⟨u, w', rfl, ⟨t, rfl⟩, ⟨t', rfl⟩⟩ := vals2 r
  refine min_two_ints (I.ok.hd hc) fun h' tk k => ⟨_, H, I.kept k, ?_, q⟩
  by_cases hj : j < i
  · rw [if_pos hj, if_pos hj]; exact ⟨_, rfl⟩
  · rw [if_neg hj, if_neg hj]; exact ⟨_, rfl⟩
theorem call_int1 : CallR X (.type "int") (fun xs H Q => (∃ i, xs = [.int i] ∧ Q (.int i) H) ∨ ∃ k, xs = [.bl k] ∧ Q (.int (if k then 1 else 0)) H) := by
  intro pins s σ H xs us Q I r h
  rcases h with ⟨i, rfl, q⟩ | ⟨k, rfl, q⟩
  · obtain ⟨u, rfl, t, rfl⟩ := vals1 r
    exact call_int_int ⟨.int i, H, I, ⟨_, rfl⟩, q⟩
  · obtain ⟨u, rfl, r1⟩ := vals1 r
    cases r1
    exact call_int_bool ⟨.int (if k then 1 else 0), H, I.tok _, ⟨_, rfl⟩, q⟩
theorem call_bool1 : CallR X (.type "bool") (fun xs H Q => (∃ i, xs = [.int i] ∧ Q (.bl (i != 0)) H) ∨ ∃ k, xs = [.bl k] ∧ Q (.bl k) H) := by
  intro pins s σ H xs us Q I r h
  rcases h with ⟨i, rfl, q⟩ | ⟨k, rfl, q⟩
  · obtain ⟨u, rfl, t, rfl⟩ := vals1 r
    exact call_bool_int ⟨.bl (i != 0), H, I, rfl, q⟩
  · obtain ⟨u, rfl, r1⟩ := vals1 r
    cases r1
    exact call_bool_bool ⟨.bl k, H, I, rfl, q⟩
theorem call_str_int : CallR X (.type "str") (fun xs H Q => ∃ i, xs = [.int i] ∧ i.natAbs.log2 < 1920 ∧ Q (.str (toString i)) H) := by
  intro pins s σ H xs us Q I r h
  obtain ⟨i, rfl, hz, q⟩ := h
  obtain ⟨u, rfl, t, rfl⟩ := vals1 r
  exact PySem.P.str_of_int hz ⟨.str _, H, I.tok _, ⟨_, rfl⟩, q⟩
theorem call_ord : CallR X (.builtin "ord") (fun xs H Q => ∃ x, xs = [.str x] ∧ x.length = 1 ∧ Q (.int (x.cps.getD 0 0 : Nat)) H) := by
  intro pins s σ H xs us Q I r h
  obtain ⟨x, rfl, hz, q⟩ := h
  obtain ⟨u, rfl, t, rfl⟩ := vals1 r
  exact ord_of_one hz ⟨.int _, H, I.tok _, ⟨_, rfl⟩, q⟩
theorem call_chr : CallR X (.builtin "chr") (fun xs H Q => ∃ i, xs = [.int i] ∧ 0 ≤ i ∧ i ≤ 1114111 ∧ Q (.str ⟨#[i.toNat]⟩) H) := by
  intro pins s σ H xs us Q I r h
  obtain ⟨i, rfl, h0, h1, q⟩ := h
  obtain ⟨u, rfl, t, rfl⟩ := vals1 r
  exact chr_of_range h0 h1 ⟨.str _, H, I.tok _, ⟨_, rfl⟩, q⟩
/-- len of a str, a bytes, a list, a tuple -/
def LenV (K : PySem.W.Frag) (x : V) (H : Hp) (n : Nat) : Prop :=
  match x with
  | .str y => y.length ≤ sizeLine ∧ n = y.length
  | .byt y => y.size ≤ sizeLine ∧ n = y.size
  | .ref p => (∃ xs, SqL K H p xs ∧ n = xs.length) ∨ ∃ xs, SqT K H p xs ∧ n = xs.length
  | _ => False
theorem call_len : CallR X (.builtin "len") (fun xs H Q => ∃ x n, xs = [x] ∧ LenV X.K x H n ∧ Q (.int n) H) := by
  intro pins s σ H xs us Q I r h
  obtain ⟨x, n, rfl, e, q⟩ := h
  obtain ⟨u, rfl, rx⟩ := vals1 r
  have hl := line63
  have hs : sizeLine = 16777216 := sizeLine_eq
  cases x with
  | str y =>
    obtain ⟨t, rfl⟩ := rx
    obtain ⟨hy, e'⟩ : y.length ≤ sizeLine ∧ n = y.length := e
    subst e'
    exact len_str (by omega) ⟨.int _, H, I.tok _, ⟨_, rfl⟩, q⟩
  | byt y =>
    obtain ⟨t, rfl⟩ := rx
    obtain ⟨hy, e'⟩ : y.size ≤ sizeLine ∧ n = y.size := e
    subst e'
    exact PySem.W.len_bytes (by omega) ⟨.int _, H, I.tok _, ⟨_, rfl⟩, q⟩
  | ref p =>
    cases rx
    have e' : (∃ xs, SqL X.K H p xs ∧ n = xs.length) ∨ ∃ xs, SqT X.K H p xs ∧ n = xs.length := e
    rcases e' with ⟨xs, hx, e'⟩ | ⟨xs, hx, e'⟩
    · subst e'
      obtain ⟨its, r', pl, hz⟩ := I.list hx
      have hlen := r'.length
      exact Calls.call_len_list pl.isList (by simp only [List.size_toArray]; omega) ⟨.int xs.length, H, I.tok _, ⟨_, by simp only [List.size_toArray]; rw [hlen]⟩, q⟩
    · subst e'
      obtain ⟨its, r', pl, hz⟩ := I.tuple hx
      have hlen := r'.length
      exact len_tuple pl (by simp only [List.size_toArray]; omega) ⟨.int xs.length, H, I.tok _, ⟨_, by simp only [List.size_toArray]; rw [hlen]⟩, q⟩
  | _ => exact (show False from e).elim
/-- divmod: a new tuple -/
theorem call_divmod : CallR X (.builtin "divmod") (fun xs H Q => ∃ i j, xs = [.int i, .int j] ∧ CDiv i j ∧ ∀ p, H p = none → Q (.ref p) (upd H p (.tup [.int (i / j), .int (i % j)]))) := by
  intro pins s σ H xs us Q I r h
  obtain ⟨i, j, rfl, ⟨h1, h2⟩, q⟩ := h
  obtain ⟨u, w', rfl, ⟨t, rfl⟩, ⟨t', rfl⟩⟩ := vals2 r
  refine divmod_int (by omega) ?_ (.inl (PyProof.noPylong_small (by omega)))
  rw [Int.fdiv_eq_ediv_of_nonneg i (by omega), Int.fmod_eq_emod_of_nonneg i (by omega)]
  have hn : H s.heap.objs.size = none := I.hok.fresh (Nat.le_refl _)
  refine ⟨.ref s.heap.objs.size, _, ?_, rfl, q _ hn⟩
  refine I.laid (fun b o e => Heap.get?_push_of_some _ e) (Nat.le_refl _) ⟨by simp only [List.length_cons, List.length_nil]; rw [sizeLine_eq]; decide, [.int (i / j) s.toks, .int (i % j) (s.toks + 1)], .cons ⟨_, rfl⟩ (.cons ⟨_, rfl⟩ .nil), ?_⟩
  exact ⟨_, Heap.get?_push_size s.heap rfl, rfl, 0, rfl⟩
end
end L2

namespace L2
open PySem PySem.Spec PyProof.Rows

/-! ### an instance, its attributes a map -/
structure ObjM (h : Heap) (x dx C : Addr) (mA : Str → Option Value) : Prop where
  obj : h.get? x = some (PySem.W.instObj C dx)
  ns : h.Ns1 dx mA
  ne : dx ≠ x

theorem lookIn_ns {h : Heap} {dx : Addr} {mA : Str → Option Value} (n : h.Ns1 dx mA) : ∃ od, h.get? dx = some od ∧ ∀ name, PySem.W.lookIn name od = some (mA name) := by
  obtain ⟨o, es, ep, ho, hd, hk, _, hm⟩ := n
  refine ⟨o, ho, fun name => ?_⟩
  have e := hm name
  unfold nsFind findBy at e
  rw [← Array.find?_toList] at e
  unfold PySem.W.lookIn
  rw [hd]
  dsimp only
  split
  · rename_i y q
    rw [q] at e
    exact congrArg some e
  · rename_i q
    rw [q] at e
    have a : es.toList.any (·.refKey) = false := by
      rw [List.any_eq_false]
      intro y hy
      obtain ⟨z, t, hkey⟩ := hk y (Array.mem_toList_iff.mp hy)
      simp [DictEntry.refKey, hkey]
    have a' : ¬ es.toList.any (·.refKey) = true := by rw [a]; exact Bool.false_ne_true
    rw [if_neg a']
    exact congrArg some e

theorem ObjM.look {h : Heap} {x dx C : Addr} {mA : Str → Option Value} (I : ObjM h x dx C mA) : ∃ od, PySem.W.InstAt h x (PySem.W.instObj C dx) C (some od) ∧ ∀ name, PySem.W.lookIn name od = some (mA name) :=
  let ⟨od, ho, hl⟩ := lookIn_ns I.ns
  ⟨od, ⟨I.obj, rfl, rfl, ho⟩, hl⟩

section
variable {prog : Program} {w : World} {A : Around} {E : Value → Shared → Prop} {s : Shared} {K : PySem.W.Frag} {x dx C f : Addr} {mA : Str → Option Value} {name : Str} {v : Value}

theorem get_map {expr : Bool} {Q : Value → Shared → Prop} (X : K.In s.heap) (I : ObjM s.heap x dx C mA) (hg : PySem.W.plainGet K C name = true) (hh : PySem.W.hasDictIn K C = true)
    (ha : PySem.W.findIn K (.ref C) name = some none) (hv : mA name = some v) (hv' : PySem.W.handedIn v = true) (h : Q v { s with toks := s.toks + 1 }) :
    wpAny (model prog w) A (getAttr (.ref x) name expr) Q E s := by
  obtain ⟨od, J, hl⟩ := I.look
  exact PySem.W.get_value X J (PySem.W.plainGet_of hg).1 (PySem.W.findObj_own hh ha rfl (by rw [hl, hv])) hv' h

theorem get_const {expr : Bool} {a : Value} {Q : Value → Shared → Prop} (X : K.In s.heap) (I : ObjM s.heap x dx C mA) (hg : PySem.W.plainGet K C name = true) (hh : PySem.W.hasDictIn K C = true)
    (ha : PySem.W.findIn K (.ref C) name = some (some a)) (hn : PySem.W.specialIn K a "__get__" = some none) (hc : PySem.W.copiedNames.contains name = false) (hv : mA name = none) (hv' : PySem.W.handedIn a = true)
    (h : Q a { s with toks := s.toks + 1 }) : wpAny (model prog w) A (getAttr (.ref x) name expr) Q E s := by
  obtain ⟨od, J, hl⟩ := I.look
  exact PySem.W.get_value X J (PySem.W.plainGet_of hg).1 (PySem.W.findObj_cls hh ha hn hv' hc (by rw [hl, hv])) hv' h

theorem get_meth {pl : Sem Bool} {Q : Value × List Value → Shared → Prop} (X : K.In s.heap) (I : ObjM s.heap x dx C mA) (hg : PySem.W.plainGet K C name = true)
    (hf : PySem.W.findIn K (.ref C) name = some (some (.ref f))) (ht : PySem.W.isFn K (.ref f) = true) (hv : mA name = none) (h : Q (.ref f, [.ref x]) s) :
    wpAny (model prog w) A (getMethod (.ref x) name pl) Q E s := by
  obtain ⟨od, J, hl⟩ := I.look
  exact PySem.W.method_fn X J (PySem.W.plainGet_of hg).1 (PySem.W.plainGet_of hg).2 hf (beq_iff_eq.mp ht) (by show (PySem.W.lookIn name od).map (·.isSome) = some false; rw [hl, hv]; rfl) h

theorem set_map {ns : List Str} {Q : Unit → Shared → Prop} (X : K.In s.heap) (I : ObjM s.heap x dx C mA)
    (hs : PySem.W.findIn K (.ref C) "__setattr__" = some (some (.builtin "object.__setattr__"))) (hp : PySem.W.plainOver K C = true) (ht : PySem.W.takerIn K C name = some none) (hh : PySem.W.hasDictIn K C = true)
    (hw : PySem.Within mA ns) (hsz : ns.length ≤ sizeLine)
    (h : ∀ h', ObjM h' x dx C (fun y => if y = name then some v else mA y) → Heap.SameBut dx s.heap h' → Q () { s with heap := h', toks := s.toks + 2 }) :
    wpAny (model prog w) A (setAttr (.ref x) name v) Q E s := by
  obtain ⟨od, J, hl⟩ := I.look
  refine PySem.W.set_plain X J hs (PySem.W.osa_open (s := { s with toks := s.toks + 1 }) (r := none) X J hp ht fun b => ?_)
  obtain ⟨cd, hc, hd'⟩ := PySem.W.any_some hh
  have hx : s.heap.get? x = some ⟨.ref C, some dx, .plain, #[]⟩ := I.obj
  refine wpAny_bind (wpAny_pure (wpAny_bind (wpAny_bind (wpAny_loadPart hx (wpAny_bind (PySem.W.Looks.here (s := { s with toks := s.toks + 1 }) (PySem.W.looks_clsIn X hc) ?_))))))
  rw [hd']
  refine wpAny_pure (a := some dx) (wpAny_bind (wpAny_pure (wpAny_bind ?_)))
  refine wpAny_nsSet1 (s := { s with toks := s.toks + 1 }) I.ns fun h' hn2 hs2 => ?_
  obtain ⟨oD, esD, epD, hoD, hdD, hcD⟩ := hn2.count (PySem.Within.cons name v hw)
  refine wpAny_bind (wpAny_lookBehind hoD (by rw [hdD]; exact pastItsLine_dict (Nat.le_trans hcD (by rw [List.length_cons]; omega))) ?_)
  exact wpAny_pure (h _ ⟨(hs2.2 _ (Ne.symm I.ne)).trans I.obj, hn2, I.ne⟩ hs2)

/-- C(..): the dict at the heap's end, the instance behind it; then its __init__ -/
theorem make_map {R : Result → Shared → Prop} {vs : List Value} {kw : List (Str × Value)} (X : K.In s.heap) (hm : PySem.W.makesIn K C = true)
    (hi : PySem.W.findIn K (.ref C) "__init__" = some (some (.ref f))) (hf : PySem.W.typeIn K (.ref f) = some (.type "function"))
    (h : codeAny (model prog w) (A.under (.builtin "type.__call__" ⟨.ref C :: vs, kw⟩)) (.call (.ref f) ⟨.ref (s.heap.objs.size + 1) :: vs, kw⟩) (PySem.W.InitBack (s.heap.objs.size + 1) R)
      { s with heap := (s.heap.push PySem.W.emptyDict).push (PySem.W.instObj C s.heap.objs.size) }) :
    codeAny (model prog w) A (.call (.ref C) ⟨vs, kw⟩) R s := by
  obtain ⟨hh, g, d, t, os⟩ := s
  exact PySem.W.make_core (PySem.W.makes_of X hm) (PySem.W.looks_findIn X hi) (fun self => PySem.W.bind_fn X self hf) (.inl rfl) h
/-- C() where there is no __init__ but object's -/
theorem make_map0 {R : Result → Shared → Prop} (X : K.In s.heap) (hm : PySem.W.makesIn K C = true)
    (hi : PySem.W.findIn K (.ref C) "__init__" = some (some (.builtin "object.__init__")))
    (hb : ∀ self, PySem.W.Looks (model prog w) s.heap (bindSpecial (.builtin "object.__init__") self) (.builtin "object.__init__", [self]))
    (h : codeAny (model prog w) (A.under (.builtin "type.__call__" ⟨[.ref C], []⟩)) (.call (.builtin "object.__init__") ⟨[.ref (s.heap.objs.size + 1)], []⟩) (PySem.W.InitBack (s.heap.objs.size + 1) R)
      { s with heap := (s.heap.push PySem.W.emptyDict).push (PySem.W.instObj C s.heap.objs.size) }) :
    codeAny (model prog w) A (.call (.ref C) ⟨[], []⟩) R s := by
  obtain ⟨hh, g, d, t, os⟩ := s
  exact PySem.W.make_core (PySem.W.makes_of X hm) (PySem.W.looks_findIn X hi) hb (.inr ⟨rfl, rfl⟩) h
end

/-! ### the attributes as a list of pairs -/
def putF (f : Str) (v : V) : List (Str × V) → List (Str × V)
  | [] => [(f, v)]
  | (g, x) :: r => if g = f then (g, v) :: r else (g, x) :: putF f v r
theorem lookup_putF (f g : Str) (v : V) : ∀ fs : List (Str × V), (putF f v fs).lookup g = if g = f then some v else fs.lookup g
  | [] => by
    show List.lookup g [(f, v)] = _
    by_cases h : g = f
    · have hb : (g == f) = true := beq_iff_eq.mpr h
      simp only [List.lookup, hb, if_pos h]
    · have hb : (g == f) = false := beq_eq_false_iff_ne.mpr h
      simp only [List.lookup, hb, if_neg h]
  | (k, x) :: r => by
    have ih := lookup_putF f g v r
    rw [show putF f v ((k, x) :: r) = (if k = f then (k, v) :: r else (k, x) :: putF f v r) from rfl]
    by_cases hk : k = f
    · rw [if_pos hk]
      by_cases h : g = k
      · have hb : (g == k) = true := beq_iff_eq.mpr h
        simp only [List.lookup, hb, if_pos (h.trans hk)]
      · have hb : (g == k) = false := beq_eq_false_iff_ne.mpr h
        simp only [List.lookup, hb, if_neg (fun e : g = f => h (e.trans hk.symm))]
    · rw [if_neg hk]
      by_cases h : g = k
      · have hb : (g == k) = true := beq_iff_eq.mpr h
        simp only [List.lookup, hb, if_neg (fun e : g = f => hk (h.symm.trans e))]
      · have hb : (g == k) = false := beq_eq_false_iff_ne.mpr h
        simp only [List.lookup, hb]
        exact ih
theorem keys_putF (f : Str) (v : V) : ∀ fs : List (Str × V), f ∈ (putF f v fs).map (·.1) ∧ ∀ g, g ∈ fs.map (·.1) → g ∈ (putF f v fs).map (·.1)
  | [] => ⟨by simp [putF], fun g h => by simp at h⟩
  | (k, x) :: r => by
    obtain ⟨i1, i2⟩ := keys_putF f v r
    rw [show putF f v ((k, x) :: r) = (if k = f then (k, v) :: r else (k, x) :: putF f v r) from rfl]
    by_cases hk : k = f
    · rw [if_pos hk]
      subst hk
      exact ⟨by simp, fun g h => by simpa using h⟩
    · rw [if_neg hk]
      refine ⟨?_, fun g h => ?_⟩
      · rw [List.map_cons]
        exact List.mem_cons_of_mem _ i1
      · rw [List.map_cons] at h ⊢
        rcases List.mem_cons.mp h with e | e
        · exact List.mem_cons.mpr (.inl e)
        · exact List.mem_cons_of_mem _ (i2 g e)
theorem length_putF (f : Str) (v : V) : ∀ fs : List (Str × V), (putF f v fs).length ≤ fs.length + 1
  | [] => by simp [putF]
  | (k, x) :: r => by
    have ih := length_putF f v r
    rw [show putF f v ((k, x) :: r) = (if k = f then (k, v) :: r else (k, x) :: putF f v r) from rfl]
    by_cases hk : k = f
    · rw [if_pos hk, List.length_cons, List.length_cons]; omega
    · rw [if_neg hk, List.length_cons, List.length_cons]; omega

theorem RelO.some_of {v : V} {o : Option Value} (r : RelO (some v) o) : ∃ u, o = some u ∧ RelV v u := by
  cases o with
  | none => exact (show False from r).elim
  | some u => exact ⟨u, rfl, r⟩
theorem RelO.none_of {o : Option Value} (r : RelO none o) : o = none := by
  cases o with
  | none => rfl
  | some u => exact (show False from r).elim
theorem handed_of {v : V} {u : Value} (r : RelV v u) : PySem.W.handedIn u = true := by
  cases v with
  | non => cases (show u = Value.none from r); rfl
  | bl b => cases (show u = Value.bool b from r); rfl
  | int i => obtain ⟨t, e⟩ := (show ∃ t, u = Value.int i t from r); cases e; rfl
  | str x => obtain ⟨t, e⟩ := (show ∃ t, u = Value.str x t from r); cases e; rfl
  | byt b => obtain ⟨t, e⟩ := (show ∃ t, u = Value.bytes b t from r); cases e; rfl
  | flt b => obtain ⟨t, e⟩ := (show ∃ t, u = Value.float b t from r); cases e; rfl
  | ref a => cases (show u = Value.ref a from r); rfl
  | ty n => cases (show u = Value.type n from r); rfl

section
variable {P : Program} {w : World} {H H' : Hp} {h h' : Heap} {a C dx : Addr} {fs fs' : List (Str × V)}
theorem ins_get (hok : HOk P w H h) (e : H a = some (.ins C dx fs)) : ∃ mA, ObjM h a dx C mA ∧ (∀ f, RelO (fs.lookup f) (mA f)) ∧ PySem.Within mA (fs.map (·.1)) ∧ fs.length ≤ 1000 ∧ H dx = some (.own a) := by
  obtain ⟨d, z, ne, ob, mA, n, r, q⟩ := (show ObjOk P w H h a (.ins C dx fs) from hok a _ e)
  exact ⟨mA, ⟨ob, n, ne⟩, r, q, z, d⟩
end

/-! ### what of the text a class must have -/
structure Cls (K : PySem.W.Frag) (C : Addr) : Prop where
  pg : PySem.W.plainGet K C Str.empty = true
  hd : PySem.W.hasDictIn K C = true
  po : PySem.W.plainOver K C = true
  sa : PySem.W.findIn K (.ref C) "__setattr__" = some (some (.builtin "object.__setattr__"))
theorem Cls.get {K : PySem.W.Frag} {C : Addr} (c : Cls K C) (f : Str) : PySem.W.plainGet K C f = true := c.pg
/-- no class of it has the name -/
def NoAttr (K : PySem.W.Frag) (C : Addr) (f : Str) : Prop := PySem.W.findIn K (.ref C) f = some none
theorem NoAttr.taker {K : PySem.W.Frag} {C : Addr} {f : Str} (n : NoAttr K C f) : PySem.W.takerIn K C f = some none := by
  unfold PySem.W.takerIn
  rw [show PySem.W.findIn K (.ref C) f = some none from n]
  rfl
/-- a constant of the class -/
structure Con (K : PySem.W.Frag) (C : Addr) (f : Str) (v : V) (u : Value) : Prop where
  at_ : PySem.W.findIn K (.ref C) f = some (some u)
  rel : RelV v u
  get : PySem.W.specialIn K u "__get__" = some none
  cp : PySem.W.copiedNames.contains f = false
/-- a method: a plain def of the class or of one above it -/
structure Meth (K : PySem.W.Frag) (C : Addr) (m : Str) (f : Addr) : Prop where
  at_ : PySem.W.findIn K (.ref C) m = some (some (.ref f))
  fn : PySem.W.isFn K (.ref f) = true
  kp : PySem.W.keepIn K (.ref f) = true

section
variable {X : Cx} {pins : List (Addr × Obj)} {σ : St} {H : Hp} {s : Shared} {a C dx : Addr} {fs : List (Str × V)} {f : Str} {v : V} {A : Around} {E : Value → Shared → Prop}

theorem getattr_ok {b : Bool} {Q : Value → Shared → Prop} (I : Inv X pins σ H s) (e : H a = some (.ins C dx fs)) (c : Cls X.K C) (n : NoAttr X.K C f) (l : fs.lookup f = some v)
    (h : ∀ u s', Inv X pins σ H s' → RelV v u → Q u s') : wpAny (model X.prog X.w) A (getAttr (.ref a) f b) Q E s := by
  obtain ⟨mA, O, r, _, _, _⟩ := ins_get I.hok e
  obtain ⟨u, hu, ru⟩ := RelO.some_of (v := v) (o := mA f) (by rw [← l]; exact r f)
  exact get_map I.kIn O (c.get f) c.hd n hu (handed_of ru) (h u _ (I.tok _) ru)

theorem getcon_ok {b : Bool} {u : Value} {Q : Value → Shared → Prop} (I : Inv X pins σ H s) (e : H a = some (.ins C dx fs)) (c : Cls X.K C) (k : Con X.K C f v u) (l : fs.lookup f = none)
    (h : ∀ s', Inv X pins σ H s' → Q u s') : wpAny (model X.prog X.w) A (getAttr (.ref a) f b) Q E s := by
  obtain ⟨mA, O, r, _, _, _⟩ := ins_get I.hok e
  have hn : mA f = none := RelO.none_of (by rw [← l]; exact r f)
  exact get_const I.kIn O (c.get f) c.hd k.at_ k.get k.cp hn (handed_of k.rel) (h _ (I.tok _))

theorem getmeth_ok {m : Str} {g : Addr} {pl : Sem Bool} {Q : Value × List Value → Shared → Prop} (I : Inv X pins σ H s) (e : H a = some (.ins C dx fs)) (c : Cls X.K C) (k : Meth X.K C m g) (l : fs.lookup m = none)
    (h : Q (.ref g, [.ref a]) s) : wpAny (model X.prog X.w) A (getMethod (.ref a) m pl) Q E s := by
  obtain ⟨mA, O, r, _, _, _⟩ := ins_get I.hok e
  have hn : mA m = none := RelO.none_of (by rw [← l]; exact r m)
  exact get_meth I.kIn O (c.get m) k.at_ k.fn hn h

theorem setattr_ok {y : V} {u : Value} {Q : Unit → Shared → Prop} (I : Inv X pins σ H s) (e : H a = some (.ins C dx fs)) (c : Cls X.K C) (n : NoAttr X.K C f) (hl : fs.length < 1000) (ry : RelV y u)
    (h : ∀ s', Inv X pins σ (upd H a (.ins C dx (putF f y fs))) s' → Q () s') : wpAny (model X.prog X.w) A (setAttr (.ref a) f u) Q E s := by
  obtain ⟨mA, O, r, wi, _, ho⟩ := ins_get I.hok e
  have hz : (fs.map (·.1)).length ≤ sizeLine := by rw [List.length_map, sizeLine_eq]; omega
  refine set_map I.kIn O c.sa c.po n.taker c.hd wi hz fun h' O' sb => h _ ?_
  have hd : ∃ o, h'.get? dx = some o := let ⟨o, _, _, e', _⟩ := O'.ns; ⟨o, e'⟩
  refine I.write (x := a) (e := dx) (by rw [e]; exact True.intro) (.inr ho) (fun b q hb z => (sb.2 b hb).trans z) hd ?_
  refine ⟨by rw [upd_ne O.ne]; exact ho, ?_, O.ne, O'.obj, _, O'.ns, fun g => ?_, fun g hg => ?_⟩
  · have := length_putF f y fs; omega
  · show RelO ((putF f y fs).lookup g) (if g = f then some u else mA g)
    rw [lookup_putF]
    by_cases q : g = f
    · rw [if_pos q, if_pos q]; exact ry
    · rw [if_neg q, if_neg q]; exact r g
  · by_cases q : g = f
    · rw [q]; exact (keys_putF f y fs).1
    · refine (keys_putF f y fs).2 g (wi g fun z => hg ?_)
      show (if g = f then some u else mA g) = none
      rw [if_neg q]; exact z

/-- a new instance, tracked, without attributes -/
theorem Inv.made (I : Inv X pins σ H s) : Inv X pins σ (upd (upd H s.heap.objs.size (.own (s.heap.objs.size + 1))) (s.heap.objs.size + 1) (.ins C s.heap.objs.size []))
    { s with heap := (s.heap.push PySem.W.emptyDict).push (PySem.W.instObj C s.heap.objs.size) } := by
  have e1 : (s.heap.push PySem.W.emptyDict).get? s.heap.objs.size = some PySem.W.emptyDict := Heap.get?_push_size s.heap rfl
  have e2 : ((s.heap.push PySem.W.emptyDict).push (PySem.W.instObj C s.heap.objs.size)).get? (s.heap.objs.size + 1) = some (PySem.W.instObj C s.heap.objs.size) := by
    have := Heap.get?_push_size (s.heap.push PySem.W.emptyDict) (o := PySem.W.instObj C s.heap.objs.size) rfl
    rwa [Heap.size_push] at this
  have e3 : (s.heap.push PySem.W.emptyDict).Ns s.heap.objs.size (fun _ => none) := ⟨PySem.W.emptyDict, #[], _, e1, rfl, (fun e he => absurd he (by simp)), fun _ => rfl⟩
  have I1 := I.laid (a := s.heap.objs.size) (o := .own (s.heap.objs.size + 1)) (h' := s.heap.push PySem.W.emptyDict) (t' := s.toks) (fun b u q => Heap.get?_push_of_some _ q) (Nat.le_refl _) ⟨_, e1⟩
  refine I1.laid (a := s.heap.objs.size + 1) (o := .ins C s.heap.objs.size []) (t' := s.toks) (fun b u q => Heap.get?_push_of_some _ q) (Nat.le_of_eq (Heap.size_push _ _)) ?_
  have ne : s.heap.objs.size ≠ s.heap.objs.size + 1 := Nat.ne_of_lt (Nat.lt_succ_self _)
  refine ⟨by rw [upd_ne ne, upd_same], Nat.zero_le _, ne, e2, fun _ => none, (Heap.Ns1.of_empty e3).at fun o q => Heap.get?_push_of_some _ q, fun _ => True.intro, fun y hy => absurd rfl hy⟩

/-- e.f where nothing but the object is asked: through attributeBase (super) and the last hold -/
theorem attr_of {prog : Program} {w : World} {env : Env} {e : Expr} {f : Str} {pos : Pos} {s : Shared} {Q : Value → Shared → Prop} (hb : attributeBase e f env (eval e env) = eval e env)
    (h : wpAny (model prog w) A (eval e env) (fun o s₁ => wpAny (model prog w) A (getAttr o f true) Q E s₁) E s) : wpAny (model prog w) A (eval (.Attribute e f pos) env) Q E s :=
  Attribute_any_ h (by rw [arm_eval_Attribute, hb])
end

/-! ### readings and rules -/
/-- e.f, an attribute of the instance -/
def tFld (K : PySem.W.Frag) (ta : TE) (f : Str) : TE := fun σ H Q => ta σ H fun x H1 => ∃ a C dx fs v, x = .ref a ∧ H1 a = some (.ins C dx fs) ∧ Cls K C ∧ NoAttr K C f ∧ fs.lookup f = some v ∧ Q v H1
/-- e.f, a constant of the class -/
def tCon (K : PySem.W.Frag) (ta : TE) (f : Str) : TE := fun σ H Q => ta σ H fun x H1 => ∃ a C dx fs v u, x = .ref a ∧ H1 a = some (.ins C dx fs) ∧ Cls K C ∧ Con K C f v u ∧ fs.lookup f = none ∧ Q v H1
/-- e.f = value -/
def sFld (K : PySem.W.Frag) (ta tv : TE) (f : Str) : TS := fun D σ H => tv σ H fun y H1 => ta σ H1 fun x H2 => ∃ a C dx fs, x = .ref a ∧ H2 a = some (.ins C dx fs) ∧ Cls K C ∧ NoAttr K C f ∧ fs.length < 1000 ∧
  D.nx σ (upd H2 a (.ins C dx (putF f y fs)))
/-- an augmented operator on two values -/
def InOp (X : Cx) (op : Operator) (rd : V → V → Hp → VK → Prop) : Prop :=
  ∀ (pins : List (Addr × Obj)) (s : Shared) (σ : St) (H : Hp) (x y : V) (u v : Value) (Q : VK), Inv X pins σ H s → RelV x u → RelV y v → rd x y H Q → wpAny (model X.prog X.w) X.A (inplaceOp op u v) (EP X pins σ Q) X.xe s
/-- e.f op= value -/
def sFldAug (K : PySem.W.Frag) (ta tv : TE) (rd : V → V → Hp → VK → Prop) (f : Str) : TS := fun D σ H => ta σ H fun x H1 => ∃ a C dx fs v, x = .ref a ∧ H1 a = some (.ins C dx fs) ∧ Cls K C ∧ NoAttr K C f ∧ fs.lookup f = some v ∧
  tv σ H1 fun y H2 => rd v y H2 fun z H3 => ∃ dx' fs', H3 a = some (.ins C dx' fs') ∧ fs'.length < 1000 ∧ D.nx σ (upd H3 a (.ins C dx' (putF f z fs')))

section
variable {X : Cx} {o e value : Expr} {f : Str} {pos pos' tpos : Pos} {ta tv : TE}
theorem pe_fld (he : PE X e ta) (hb : attributeBase e f X.env (eval e X.env) = eval e X.env) : PE X (.Attribute e f pos) (tFld X.K ta f) := by
  intro pins s σ H Q I h
  refine attr_of hb (thn (he pins s σ H _ I h) fun u s1 ⟨x, H1, I1, rx, a, C, dx, fs, v, ex, ea, c, n, l, q⟩ => ?_)
  subst ex
  obtain rfl : u = Value.ref a := rx
  exact getattr_ok I1 ea c n l fun u' s2 I2 ru => ⟨v, H1, I2, ru, q⟩
theorem pe_con (he : PE X e ta) (hb : attributeBase e f X.env (eval e X.env) = eval e X.env) : PE X (.Attribute e f pos) (tCon X.K ta f) := by
  intro pins s σ H Q I h
  refine attr_of hb (thn (he pins s σ H _ I h) fun u s1 ⟨x, H1, I1, rx, a, C, dx, fs, v, u0, ex, ea, c, k, l, q⟩ => ?_)
  subst ex
  obtain rfl : u = Value.ref a := rx
  exact getcon_ok I1 ea c k l fun s2 I2 => ⟨v, H1, I2, k.rel, q⟩
theorem ps_fld (ha : PE X o ta) (hv : PE X value tv) (hs : swapsWith value (some (.Attribute o f pos')) pos.line X.env = pure false) : PS X (.Assign [.Attribute o f pos'] value pos) (sFld X.K ta tv f) := by
  intro pins s σ H D I h
  refine plainObj_wpAny_Assign_Attribute (thn (hv pins s σ H _ I h) fun u s1 ⟨y, H1, I1, ry, q⟩ => thn (ha pins s1 σ H1 _ I1 q) fun ov s2 ⟨x, H2, I2, rx, a, C, dx, fs, ex, ea, c, n, l, q2⟩ => ?_) hs
  subst ex
  obtain rfl : ov = Value.ref a := rx
  exact setattr_ok I2 ea c n l ry fun s3 I3 => ⟨σ, _, I3, q2⟩
theorem ps_fldaug {op : Operator} {rd : V → V → Hp → VK → Prop} (ha : PE X o ta) (hv : PE X value tv) (hop : InOp X op rd) : PS X (.AugAssign (.Attribute o f tpos) op value pos) (sFldAug X.K ta tv rd f) := by
  intro pins s σ H D I h
  refine wpAny_AugAssign_AttributeAny (thn (ha pins s σ H _ I h) fun ov s1 ⟨x, H1, I1, rx, a, C, dx, fs, v, ex, ea, c, n, l, q⟩ => ?_)
  subst ex
  obtain rfl : ov = Value.ref a := rx
  refine getattr_ok I1 ea c n l fun u s2 I2 ru => thn (hv pins s2 σ H1 _ I2 q) fun w3 s3 ⟨y, H2, I3, ry, q3⟩ => thn (hop pins s3 σ H2 v y u w3 _ I3 ru ry q3) fun w4 s4 ⟨z, H3, I4, rz, dx', fs', ea', l', q4⟩ => ?_
  exact setattr_ok I4 ea' c n l' rz fun s5 I5 => ⟨σ, _, I5, q4⟩
def rAdd : V → V → Hp → VK → Prop := fun x y H Q => ∃ i j, x = .int i ∧ y = .int j ∧ Q (.int (i + j)) H
def rSub : V → V → Hp → VK → Prop := fun x y H Q => ∃ i j, x = .int i ∧ y = .int j ∧ Q (.int (i - j)) H
theorem in_add : InOp X .Add rAdd := by
  rintro pins s σ H x y u v Q I rx ry ⟨i, j, rfl, rfl, q⟩
  obtain ⟨t, rfl⟩ := (show ∃ t, u = Value.int i t from rx)
  obtain ⟨t', rfl⟩ := (show ∃ t', v = Value.int j t' from ry)
  exact PyProof.Rows.iadd_int ⟨.int (i + j), H, I.tok _, ⟨_, rfl⟩, q⟩
theorem in_sub : InOp X .Sub rSub := by
  rintro pins s σ H x y u v Q I rx ry ⟨i, j, rfl, rfl, q⟩
  obtain ⟨t, rfl⟩ := (show ∃ t, u = Value.int i t from rx)
  obtain ⟨t', rfl⟩ := (show ∃ t', v = Value.int j t' from ry)
  exact PyProof.Rows.isub_int ⟨.int (i - j), H, I.tok _, ⟨_, rfl⟩, q⟩

/-- what is between an instance and its method: the tree of a method call -/
theorem methcall_of {pl : Sem Bool} {m : Str} {apos : Pos} {args : List Expr} {pins : List (Addr × Obj)} {s : Shared} {σ : St} {H : Hp} {Q : Value → Shared → Prop} {te : TE} (he : PE X e te) (I : Inv X pins σ H s)
    (h : te σ H fun x H1 => ∃ a C dx fs g, x = .ref a ∧ H1 a = some (.ins C dx fs) ∧ Cls X.K C ∧ Meth X.K C m g ∧ fs.lookup m = none ∧
      ∀ s1, Inv X pins σ H1 s1 → wpAny (model X.prog X.w) X.A (callWith pos (.ref g) [.ref a] (backTo pos (starEach args X.env)) (backToKw pos (keywordEach [] X.env))) Q X.xe s1)
    (ht : eval (.Call (.Attribute e m apos) args [] pos) X.env = (do
      let ov ← eval e X.env
      standAt apos.atName
      let (f, first) ← holding [ov] (getMethod ov m pl)
      callWith pos f first (backTo pos (starEach args X.env)) (backToKw pos (keywordEach [] X.env)))) :
    wpAny (model X.prog X.w) X.A (eval (.Call (.Attribute e m apos) args [] pos) X.env) Q X.xe s := by
  refine PySem.W.methodCall_KW (pl := pl) (thn (he pins s σ H _ I h) fun u s1 ⟨x, H1, I1, rx, a, C, dx, fs, g, ex, ea, c, k, l, q⟩ => ?_) ht
  subst ex
  obtain rfl : u = Value.ref a := rx
  exact getmeth_ok I1 ea c k l (q s1 I1)
end

/-! ### isinstance -/
section
variable {X : Cx} {pins : List (Addr × Obj)} {σ : St} {H : Hp} {s : Shared} {A : Around} {E : Value → Shared → Prop} {Q : Value → Shared → Prop} {c : Value} {b : Bool}
/-- the type of a value, as the fragment's deciders take it; for an instance its class -/
inductive TyOf (K : PySem.W.Frag) (H : Hp) : V → Value → Prop where
  | non : TyOf K H .non (.type "NoneType")
  | bl (x : Bool) : TyOf K H (.bl x) (.type "bool")
  | int (i : Int) : TyOf K H (.int i) (.type "int")
  | str (x : Str) : TyOf K H (.str x) (.type "str")
  | flt (x : UInt64) : TyOf K H (.flt x) (.type "float")
  | lst {a : Addr} {xs : List V} (e : H a = some (.lst xs)) : TyOf K H (.ref a) (.type "list")
  | frz {a : Addr} {o : Obj} {xs : List V} (e : H a = some (.frz o (.lst xs))) : TyOf K H (.ref a) (.type "list")
  | tup {a : Addr} {xs : List V} (e : H a = some (.tup xs)) : TyOf K H (.ref a) (.type "tuple")
  | dK {a : Addr} {kvs : List (Key × V)} (e : H a = some (.dK kvs)) : TyOf K H (.ref a) (.type "dict")
  | dT {a : Addr} {kvs : List (List Key × V)} (e : H a = some (.dT kvs)) : TyOf K H (.ref a) (.type "dict")
  | ins {a C dx : Addr} {fs : List (Str × V)} (e : H a = some (.ins C dx fs)) (cl : Cls K C) (ha : PySem.W.findIn K (.ref C) "__class__" = some (some (.builtin "object.__class__")))
      (hn : PySem.W.specialIn K (.builtin "object.__class__") "__get__" = some (some (.builtin "getset_descriptor.__get__"))) (htk : PySem.W.takesIn K (.builtin "object.__class__") = some true)
      (hm : PySem.W.mroIn K C (.type "object") = some true) : TyOf K H (.ref a) (.ref C)
/-- isinstance(x, c) for one class c, a built-in or an own one: kitOne's answer -/
theorem isinst_ok {x : V} {u t : Value} (I : Inv X pins σ H s) (rx : RelV x u) (ty : TyOf X.K H x t) (e : PySem.W.kitOne X.K t c = some b) (h : ∀ tk, Q (.bool b) { s with toks := tk }) :
    wpAny (model X.prog X.w) A (call (.builtin "isinstance") [u, c]) Q E s := by
  cases ty with
  | non => cases (show u = Value.none from rx); exact PySem.W.kia_one PySem.W.kitx_none I.kIn True.intro e (fun z => nomatch z) h
  | bl y => cases (show u = Value.bool y from rx); exact PySem.W.kia_one PySem.W.kitx_bool I.kIn True.intro e (fun z => nomatch z) h
  | int i => obtain ⟨t, q⟩ := (show ∃ t, u = Value.int i t from rx); cases q; exact PySem.W.kia_one PySem.W.kitx_int I.kIn True.intro e (fun z => nomatch z) h
  | str y => obtain ⟨t, q⟩ := (show ∃ t, u = Value.str y t from rx); cases q; exact PySem.W.kia_one PySem.W.kitx_str I.kIn True.intro e (fun z => nomatch z) h
  | flt y => obtain ⟨t, q⟩ := (show ∃ t, u = Value.float y t from rx); cases q; exact PySem.W.kia_one PySem.W.kitx_float I.kIn True.intro e (fun z => nomatch z) h
  | @lst a xs ea =>
    cases (show u = Value.ref a from rx)
    obtain ⟨_, _, n, _, h1⟩ := (show ObjOk X.prog X.w H s.heap a (.lst xs) from I.hok a _ ea)
    exact PySem.W.kia_one PySem.W.kitx_list I.kIn ⟨_, h1, rfl⟩ e (fun z => nomatch z) h
  | @frz a ob xs ea =>
    cases (show u = Value.ref a from rx)
    obtain ⟨_, _, _, n, _, h1⟩ := (show ObjOk X.prog X.w H s.heap a (.frz ob (.lst xs)) from I.hok a _ ea)
    exact PySem.W.kia_one PySem.W.kitx_list I.kIn ⟨_, h1, rfl⟩ e (fun z => nomatch z) h
  | @tup a xs ea =>
    cases (show u = Value.ref a from rx)
    obtain ⟨_, _, _, p⟩ := (show ObjOk X.prog X.w H s.heap a (.tup xs) from I.hok a _ ea)
    obtain ⟨o, h1, h2, _⟩ := p
    exact PySem.W.kia_one PySem.W.kitx_tuple I.kIn ⟨o, h1, h2⟩ e (fun z => nomatch z) h
  | @dK a kvs ea =>
    cases (show u = Value.ref a from rx)
    obtain ⟨_, _, vs, _, p⟩ := (show ObjOk X.prog X.w H s.heap a (.dK kvs) from I.hok a _ ea)
    obtain ⟨o, es, ep, h1, h2, _⟩ := p
    exact PySem.W.kia_one PySem.W.kitx_dict I.kIn ⟨o, h1, h2.1⟩ e (fun z => nomatch z) h
  | @dT a kvs ea =>
    cases (show u = Value.ref a from rx)
    obtain ⟨_, _, xs, _, o, es, ep, h1, h2, _⟩ := (show ObjOk X.prog X.w H s.heap a (.dT kvs) from I.hok a _ ea)
    exact PySem.W.kia_one PySem.W.kitx_dict I.kIn ⟨o, h1, h2.1⟩ e (fun z => nomatch z) h
  | @ins a C dx fs ea cl ha hn htk hm =>
    cases (show u = Value.ref a from rx)
    obtain ⟨mA, O, _⟩ := ins_get I.hok ea
    obtain ⟨od, J, _⟩ := O.look
    exact PySem.W.kia_one (PySem.W.kitx_own (cl.get _) cl.hd ha hn htk hm) I.kIn J e (fun z => nomatch z) h
end
end L2

namespace L2
open PySem PySem.Spec PyProof.Rows

/-! ### room -/
structure Room (k : Nat) (A : Around) : Prop where
  hd : A.handled = none
  dp : A.depth + 3 * k + 5 < recursionLimit
  un : A.units + 16 * k + 200 < cLine
theorem Room.mono {j k : Nat} {A : Around} (r : Room k A) (h : j ≤ k) : Room j A := ⟨r.hd, by have := r.dp; omega, by have := r.un; omega⟩
theorem Room.deeper {k : Nat} {A : Around} (r : Room (k + 1) A) (env : Env) : Room k (A.deeper env) :=
  ⟨r.hd, by have := r.dp; show A.depth + 1 + 3 * k + 5 < _; omega, by have := r.un; show A.units + 3 + 16 * k + 200 < _; omega⟩
theorem Room.in1 {k : Nat} {A : Around} (r : Room (k + 1) A) : Room k A.in1 :=
  ⟨r.hd, by have := r.dp; show A.depth + 3 * k + 5 < _; omega, by have := r.un; show A.units + 1 + 16 * k + 200 < _; omega⟩
theorem make_depth {A : Around} {C : Addr} {us : List Value} {kw : List (Str × Value)} : (A.under (.builtin "type.__call__" ⟨.ref C :: us, kw⟩)).depth = A.depth + 1 := by
  first | rfl | simp [Around.under, Code.weight, Code.isCreation, Code.isGuard, Code.isCaller, Code.frames, Code.isFrame, guardIds]
theorem make_units {A : Around} {C : Addr} {us : List Value} {kw : List (Str × Value)} : (A.under (.builtin "type.__call__" ⟨.ref C :: us, kw⟩)).units = A.units + 1 := by
  first | rfl | simp [Around.under, Code.cUnits, Code.frames, Code.isFrame]
theorem Room.make {k : Nat} {A : Around} (r : Room (k + 1) A) (C : Addr) (us : List Value) (kw : List (Str × Value)) : Room k (A.under (.builtin "type.__call__" ⟨.ref C :: us, kw⟩)) :=
  ⟨r.hd, by have := r.dp; rw [make_depth]; omega, by have := r.un; rw [make_units]; omega⟩
theorem Room.depth {k : Nat} {A : Around} (r : Room k A) : A.depth < recursionLimit := by have := r.dp; omega
theorem Room.units {k : Nat} {A : Around} (r : Room k A) : A.units + 64 < cLine := by have := r.un; omega
theorem Room.units0 {k : Nat} {A : Around} (r : Room k A) : A.units < cLine := by have := r.un; omega

/-! ### argument lists and displays -/
def tNil : TA := fun _ H Q => Q [] H
def tCons (ta : TE) (tr : TA) : TA := fun σ H Q => ta σ H fun x H1 => tr σ H1 fun xs H2 => Q (x :: xs) H2
section
variable {X : Cx} {e : Expr} {es : List Expr} {te : TE} {t : TA} {pos : Pos}
theorem pa_nil : PA X [] tNil := fun _ _ _ _ H Q I h => Calls.spliced_nil ⟨[], H, I, .nil, h⟩
theorem pa_cons (ha : PE X e te) (hr : PA X es t) (hs : starEach (e :: es) X.env = (false, eval e X.env) :: starEach es X.env := by rfl) : PA X (e :: es) (tCons te t) := by
  intro pos pins s σ H Q I h
  rw [hs]
  show wpAny _ _ (spliced ((false, eval e X.env) :: backTo pos (starEach es X.env))) _ _ s
  refine Calls.spliced_cons (thn (ha pins s σ H _ I h) fun u s1 ⟨x, H1, I1, r1, q1⟩ => ?_)
  exact thn (hr pos pins s1 σ H1 _ I1 q1) fun us s2 ⟨xs, H2, I2, r2, q2⟩ => ⟨x :: xs, H2, I2, .cons r1 r2, q2⟩

/-- a tuple, a list of written items -/
def tTup (t : TA) : TE := fun σ H Q => t σ H fun xs H1 => xs.length ≤ sizeLine ∧ ∀ p, H1 p = none → Q (.ref p) (upd H1 p (.tup xs))
def tLst (t : TA) : TE := fun σ H Q => t σ H fun xs H1 => xs.length ≤ sizeLine ∧ ∀ p, H1 p = none → Q (.ref p) (upd H1 p (.lst xs))
theorem pe_tup {x1} (h : PA X es t) : PE X (.Tuple es x1 pos) (tTup t) := by
  intro pins s σ H Q I hq
  refine wpAny_Tuple_spliced (thn (h pos pins s σ H _ I hq) fun us s1 ⟨xs, H1, I1, r, z, q⟩ => ⟨by rw [← r.length]; exact z, ?_⟩)
  have hf : H1 s1.heap.objs.size = none := I1.hok.fresh (Nat.le_refl _)
  refine ⟨.ref s1.heap.objs.size, upd H1 s1.heap.objs.size (.tup xs), I1.laid (t' := s1.toks) (fun b u e => Heap.get?_push_of_some _ e) (Nat.le_refl _) ?_, rfl, q _ hf⟩
  exact ⟨z, us, r, ⟨_, Heap.get?_push_size _ rfl, rfl, _, rfl⟩⟩
theorem pe_lst (h : PA X es t) : PE X (.List es pos) (tLst t) := by
  intro pins s σ H Q I hq
  refine wpAny_List_spliced (thn (h pos pins s σ H _ I hq) fun us s1 ⟨xs, H1, I1, r, z, q⟩ => ⟨by rw [← r.length]; exact z, ?_⟩)
  have hf : H1 s1.heap.objs.size = none := I1.hok.fresh (Nat.le_refl _)
  refine ⟨.ref s1.heap.objs.size, upd H1 s1.heap.objs.size (.lst xs), I1.laid (t' := s1.toks) (fun b u e => Heap.get?_push_of_some _ e) (Nat.le_refl _) ?_, rfl, q _ hf⟩
  exact ⟨z, us, 0, r, Heap.get?_push_size _ rfl⟩
end

/-! ### what a def promises -/
/-- a def's promise: the bound arguments in the parameters' order, the heap, the wanted end, the wanted exception -/
abbrev Sp := List V → Hp → VK → XK → Prop
/-- how an exception lies behind a call (file 08 gives it): the callers' frames, abstract heap and state ahead of the call, the wish, the exception, the state -/
abbrev CXT := List Env → Hp → Shared → XK → Value → Shared → Prop

/-- the state at a call -/
structure Env0 (P : Program) (w : World) (K : PySem.W.Frag) (mg : Str → Option Value) (base : Heap) (A : Around) (outer : List Env) (s : Shared) (H : Hp) : Prop where
  frames : A.frames = some outer
  mod : Mod K mg base
  bs : ∀ b o, base.get? b = some o → s.heap.get? b = some o ∧ H b = none
  bsz : base.objs.size ≤ s.heap.objs.size
  funs : s.heap.FunFrames base outer
  frf : ∀ b ∈ frs outer, H b = none
  hok : HOk P w H s.heap
  bare : AllBare s.gens
/-- a call's end -/
def CE (outer : List Env) (P : Program) (w : World) (H : Hp) (s : Shared) (Q : VK) (u : Value) (s' : Shared) : Prop :=
  ∃ v H', s'.os = s.os ∧ AllBare s'.gens ∧ Un (frs outer) [] H H' s.heap s'.heap ∧ HOk P w H' s'.heap ∧ RelV v u ∧ Q v H'
def CR (CX : CXT) (outer : List Env) (P : Program) (w : World) (H : Hp) (s : Shared) (Q : VK) (E : XK) (r : Result) (s' : Shared) : Prop :=
  match r with
  | .ok (.ret u) => CE outer P w H s Q u s'
  | .ok _ => False
  | .error e => CX outer H s E e s'
structure FnOk (P : Program) (w : World) (K : PySem.W.Frag) (mg : Str → Option Value) (base : Heap) (CX : CXT) (k : Nat) (f : Addr) (fd : FuncData) (ps : List Str) (sp : Sp) : Prop where
  len : ∀ vs H Q E, sp vs H Q E → vs.length = ps.length
  run : ∀ (A : Around) (outer : List Env) (s : Shared) (H : Hp) (args : Args) (us : List Value) (vs : List V) (Q : VK) (E : XK), Room k A → Env0 P w K mg base A outer s H → BindsTo s fd args (ps.zip us) → Vals vs us → sp vs H Q E →
    codeAny (model P w) A (.call (.ref f) args) (CR CX outer P w H s Q E) s
theorem FnOk.mono {P : Program} {w : World} {K : PySem.W.Frag} {mg : Str → Option Value} {base : Heap} {CX : CXT} {j k : Nat} {f : Addr} {fd : FuncData} {ps : List Str} {sp : Sp} (F : FnOk P w K mg base CX j f fd ps sp) (h : j ≤ k) :
    FnOk P w K mg base CX k f fd ps sp := ⟨F.len, fun A outer s H args us vs Q E hr => F.run A outer s H args us vs Q E (hr.mono h)⟩
/-- a weaker promise -/
theorem FnOk.imp {P : Program} {w : World} {K : PySem.W.Frag} {mg : Str → Option Value} {base : Heap} {CX : CXT} {k : Nat} {f : Addr} {fd : FuncData} {ps : List Str} {sp sp' : Sp} (F : FnOk P w K mg base CX k f fd ps sp)
    (h : ∀ vs H Q E, sp' vs H Q E → sp vs H Q E) : FnOk P w K mg base CX k f fd ps sp' :=
  ⟨fun vs H Q E q => F.len vs H Q E (h _ _ _ _ q), fun A outer s H args us vs Q E hr he hb hv hs => F.run A outer s H args us vs Q E hr he hb hv (h _ _ _ _ hs)⟩

theorem Env0.make {P : Program} {w : World} {K : PySem.W.Frag} {mg : Str → Option Value} {base : Heap} {A : Around} {outer : List Env} {s : Shared} {H : Hp} (e : Env0 P w K mg base A outer s H) (C : Addr) (us : List Value) (kw : List (Str × Value)) :
    Env0 P w K mg base (A.under (.builtin "type.__call__" ⟨.ref C :: us, kw⟩)) outer s H := ⟨by first | exact e.frames | (simpa [Around.under, Code.envs, Code.isFrame, pushEnvs] using e.frames), e.mod, e.bs, e.bsz, e.funs, e.frf, e.hok, e.bare⟩
theorem Env0.in1 {P : Program} {w : World} {K : PySem.W.Frag} {mg : Str → Option Value} {base : Heap} {A : Around} {outer : List Env} {s : Shared} {H : Hp} (e : Env0 P w K mg base A outer s H) :
    Env0 P w K mg base A.in1 outer s H := ⟨e.frames, e.mod, e.bs, e.bsz, e.funs, e.frf, e.hok, e.bare⟩

section
variable {X : Cx} {pins : List (Addr × Obj)} {σ : St} {H : Hp} {s s' : Shared}
/-- from a body: what a callee wants -/
theorem Inv.env0 (I : Inv X pins σ H s) : Env0 X.prog X.w X.K X.mg X.base X.A X.stack s H :=
  ⟨I.ok.frames, I.ok.mod, I.bs, Nat.le_trans I.ok.bsz I.sz, I.stack, I.stkFree, I.hok, I.bare⟩
/-- behind a call -/
theorem Inv.after {Q : VK} {u : Value} (I : Inv X pins σ H s) (h : CE X.stack X.prog X.w H s Q u s') : EP X pins σ Q u s' := by
  obtain ⟨v, H', os, bare, un, hok, r, q⟩ := h
  obtain ⟨hh, g, d, t, os'⟩ := s'
  obtain rfl : os' = s.os := os
  exact ⟨v, H', I.call (h' := hh) (g' := g) (d' := d) (t' := t) (ch := []) un hok bare (fun b z => absurd z (by simp)), r, q⟩
end

/-! ### calls -/
/-- f(..): the written arguments, then the defaults dvs; E: what is wanted of an exception -/
def tCall (sp : Sp) (dvs : List V) (E : XK) (t : TA) : TE := fun σ H Q => t σ H fun vs H1 => sp (vs ++ dvs) H1 Q E
/-- o.m(..) of an instance of the class at C -/
def tMeth (C : Addr) (m : Str) (sp : Sp) (dvs : List V) (E : XK) (ta : TE) (t : TA) : TE := fun σ H Q => ta σ H fun x H1 => ∃ a dx fs, x = .ref a ∧ H1 a = some (.ins C dx fs) ∧ fs.lookup m = none ∧
  t σ H1 fun vs H2 => sp (x :: (vs ++ dvs)) H2 Q E
/-- C(..): a new instance and its dict, then __init__ -/
def tMake (C : Addr) (sp : Sp) (dvs : List V) (E : XK) (t : TA) : TE := fun σ H Q => t σ H fun vs H1 => ∀ x dx, H1 x = none → H1 dx = none → dx ≠ x →
  sp (.ref x :: (vs ++ dvs)) (upd (upd H1 dx (.own x)) x (.ins C dx [])) (fun v H2 => v = .non ∧ Q (.ref x) H2) E

/-- how the parameters are bound: us the positional arguments, kw the keywords' values by name, ds the defaults that fill up -/
def Binds (K : PySem.W.Frag) (fd : FuncData) (ps : List Str) (ds : List Value) : Prop :=
  ∀ (s : Shared) (us : List Value), K.In s.heap → (us ++ ds).length = ps.length → BindsTo s fd ⟨us, []⟩ (ps.zip (us ++ ds))
/-- every parameter is given -/
theorem Binds.all {K : PySem.W.Frag} {fd : FuncData} {ps : List Str} (h : ∀ us : List Value, us.length = ps.length → bindArgs fd ⟨us, []⟩ = pure (ps.zip us)) : Binds K fd ps [] := fun s us _ hl => by
  rw [List.append_nil] at hl ⊢
  exact .of_eq (h us hl)

/-- an exception of a callee reaches what this body wants of exceptions -/
def Passes (CX : CXT) (X : Cx) (E : XK) : Prop := ∀ (pins : List (Addr × Obj)) (σ : St) (H : Hp) (s : Shared) (e : Value) (s' : Shared), Inv X pins σ H s → CX X.stack H s E e s' → X.xe e s'

section
variable {X : Cx} {CX : CXT} {k : Nat} {f C : Addr} {fd : FuncData} {ps : List Str} {sp : Sp} {dvs : List V} {ds : List Value} {E : XK} {x m : Str} {p pos apos : Pos} {e o : Expr} {es : List Expr} {ta : TE} {t : TA}

/-- the callee runs -/
theorem run_fn {pins : List (Addr × Obj)} {σ : St} {H : Hp} {s : Shared} {Q : VK} {us : List Value} {vs : List V} (F : FnOk X.prog X.w X.K X.mg X.base CX k f fd ps sp) (hr : Room k X.A) (hb : Binds X.K fd ps ds) (hd : Vals dvs ds) (hx : Passes CX X E)
    (I : Inv X pins σ H s) (r : Vals vs us) (h : sp (vs ++ dvs) H Q E) : wpAny (model X.prog X.w) X.A (call (.ref f) us) (EP X pins σ Q) X.xe s := by
  have r2 : Vals (vs ++ dvs) (us ++ ds) := r.append hd
  have hl : (us ++ ds).length = ps.length := by rw [← r2.length]; exact F.len _ _ _ _ h
  refine wpAny_call (codeAny_mono (F.run X.A X.stack s H ⟨us, []⟩ (us ++ ds) (vs ++ dvs) Q E hr I.env0 (hb s us I.kIn hl) r2 h) fun r s' hq => ?_)
  cases r with
  | error e => exact hx pins σ H s e s' I hq
  | ok fl =>
    cases fl with
    | ret u => exact I.after hq
    | next => exact False.elim hq
    | brk => exact False.elim hq
    | cont => exact False.elim hq

theorem pe_call (F : FnOk X.prog X.w X.K X.mg X.base CX k f fd ps sp) (hr : Room k X.A) (hg : Gl X x) (hm : X.mg x = some (.ref f)) (hk : PySem.W.keepIn X.K (.ref f) = true) (hb : Binds X.K fd ps ds) (hd : Vals dvs ds) (hx : Passes CX X E)
    (ha : PA X (e :: es) t) (hdb : (x == ("__debug__" : Str)) = false := by decide) (he : starEach (e :: es) X.env = (false, eval e X.env) :: starEach es X.env := by rfl) (hpl : (backTo pos (starEach es X.env)).any (·.1) = false := by rfl) :
    PE X (.Call (.Name x p) (e :: es) [] pos) (tCall sp dvs E t) := by
  intro pins s σ H Q I h
  refine wpAny_Call_Name_kw (ld_glob I hg hm ?_ hdb)
  refine PySem.W.callWith_K (h₀ := X.base) I.ok.mod.kin hk (thn (ha pos pins s σ H _ I h) fun us s1 ⟨vs, H1, I1, r, q⟩ => ⟨I1.kIn, ?_⟩) he hpl
  exact run_fn F hr hb hd hx I1 r q
theorem pe_call0 (F : FnOk X.prog X.w X.K X.mg X.base CX k f fd ps sp) (hr : Room k X.A) (hg : Gl X x) (hm : X.mg x = some (.ref f)) (hk : PySem.W.keepIn X.K (.ref f) = true) (hb : Binds X.K fd ps ds) (hd : Vals dvs ds) (hx : Passes CX X E)
    (hdb : (x == ("__debug__" : Str)) = false := by decide) : PE X (.Call (.Name x p) [] [] pos) (tCall sp dvs E tNil) := by
  intro pins s σ H Q I h
  refine wpAny_Call_Name_kw (ld_glob I hg hm ?_ hdb)
  exact PySem.W.callWith_K0 I.kIn hk (run_fn (us := []) F hr hb hd hx I .nil h)

/-- o.m(e, ..) -/
theorem pe_meth {pl : Sem Bool} (he : PE X o ta) (c : Cls X.K C) (hm : Meth X.K C m f) (F : FnOk X.prog X.w X.K X.mg X.base CX k f fd ps sp) (hr : Room k X.A) (hb : Binds X.K fd ps ds) (hd : Vals dvs ds) (hx : Passes CX X E) (ha : PA X (e :: es) t)
    (hst : starEach (e :: es) X.env = (false, eval e X.env) :: starEach es X.env := by rfl) (hpl : (backTo pos (starEach es X.env)).any (·.1) = false := by rfl)
    (ht : eval (.Call (.Attribute o m apos) (e :: es) [] pos) X.env = (do
      let ov ← eval o X.env
      standAt apos.atName
      let (f, first) ← holding [ov] (getMethod ov m pl)
      callWith pos f first (backTo pos (starEach (e :: es) X.env)) (backToKw pos (keywordEach [] X.env))) := by rfl) :
    PE X (.Call (.Attribute o m apos) (e :: es) [] pos) (tMeth C m sp dvs E ta t) := by
  intro pins s σ H Q I h
  refine PySem.W.methodCall_KW (pl := pl) (thn (he pins s σ H _ I h) fun u s1 ⟨x, H1, I1, rx, a, dx, fs, ex, ea, l, q⟩ => ?_) ht
  subst ex
  obtain rfl : u = Value.ref a := rx
  refine getmeth_ok I1 ea c hm l ?_
  refine PySem.W.callWith_K (first := [.ref a]) (h₀ := X.base) I.ok.mod.kin hm.kp (thn (ha pos pins s1 σ H1 _ I1 q) fun us s2 ⟨vs, H2, I2, r, q2⟩ => ⟨I2.kIn, ?_⟩) hst hpl
  exact run_fn (us := .ref a :: us) (vs := .ref a :: vs) F hr hb hd hx I2 (.cons rfl r) q2
/-- o.m() -/
theorem pe_meth0 {pl : Sem Bool} (he : PE X o ta) (c : Cls X.K C) (hm : Meth X.K C m f) (F : FnOk X.prog X.w X.K X.mg X.base CX k f fd ps sp) (hr : Room k X.A) (hb : Binds X.K fd ps ds) (hd : Vals dvs ds) (hx : Passes CX X E)
    (ht : eval (.Call (.Attribute o m apos) [] [] pos) X.env = (do
      let ov ← eval o X.env
      standAt apos.atName
      let (f, first) ← holding [ov] (getMethod ov m pl)
      callWith pos f first (backTo pos (starEach [] X.env)) (backToKw pos (keywordEach [] X.env))) := by rfl) :
    PE X (.Call (.Attribute o m apos) [] [] pos) (tMeth C m sp dvs E ta tNil) := by
  intro pins s σ H Q I h
  refine PySem.W.methodCall_KW (pl := pl) (thn (he pins s σ H _ I h) fun u s1 ⟨x, H1, I1, rx, a, dx, fs, ex, ea, l, q⟩ => ?_) ht
  subst ex
  obtain rfl : u = Value.ref a := rx
  refine getmeth_ok I1 ea c hm l ?_
  exact PySem.W.callWith_K0 (first := [.ref a]) I1.kIn hm.kp (run_fn (us := [.ref a]) (vs := [.ref a]) F hr hb hd hx I1 (.cons rfl .nil) q)

/-- what a class must have to be made -/
structure Mk (K : PySem.W.Frag) (C f : Addr) : Prop where
  makes : PySem.W.makesIn K C = true
  init : PySem.W.findIn K (.ref C) "__init__" = some (some (.ref f))
  fn : PySem.W.isFn K (.ref f) = true
  kp : PySem.W.keepIn K (.ref C) = true

theorem run_make {pins : List (Addr × Obj)} {σ : St} {H : Hp} {s : Shared} {Q : VK} {us : List Value} {vs : List V} (M : Mk X.K C f) (F : FnOk X.prog X.w X.K X.mg X.base CX k f fd ps sp) (hr : Room (k + 1) X.A) (hb : Binds X.K fd ps ds) (hd : Vals dvs ds)
    (hx : Passes CX X E) (I : Inv X pins σ H s) (r : Vals vs us)
    (h : ∀ x dx, H x = none → H dx = none → dx ≠ x → sp (.ref x :: (vs ++ dvs)) (upd (upd H dx (.own x)) x (.ins C dx [])) (fun v H2 => v = .non ∧ Q (.ref x) H2) E) :
    wpAny (model X.prog X.w) X.A (call (.ref C) us) (EP X pins σ Q) X.xe s := by
  have hq := h (s.heap.objs.size + 1) s.heap.objs.size (I.hok.fresh (Nat.le_succ _)) (I.hok.fresh (Nat.le_refl _)) (Nat.ne_of_lt (Nat.lt_succ_self _))
  have I2 := Inv.made (C := C) I
  have r2 : Vals (V.ref (s.heap.objs.size + 1) :: (vs ++ dvs)) (Value.ref (s.heap.objs.size + 1) :: (us ++ ds)) := .cons rfl (r.append hd)
  have hl : (Value.ref (s.heap.objs.size + 1) :: us ++ ds).length = ps.length := by
    have e := r2.length
    rw [F.len _ _ _ _ hq] at e
    exact e.symm
  refine wpAny_call (make_map (f := f) I.kIn M.makes M.init (beq_iff_eq.mp M.fn) (codeAny_mono (F.run _ X.stack _ _ ⟨Value.ref (s.heap.objs.size + 1) :: us, []⟩ (Value.ref (s.heap.objs.size + 1) :: (us ++ ds)) _ _ E (hr.make C us [])
    (I2.env0.make C us []) (hb _ (Value.ref (s.heap.objs.size + 1) :: us) I2.kIn hl) r2 hq) fun r s' hq' => ?_))
  cases r with
  | error e => exact hx pins σ _ _ e s' I2 hq'
  | ok fl =>
    cases fl with
    | ret u =>
      obtain ⟨v, H', I3, rv, ev, q3⟩ := I2.after hq'
      subst ev
      exact ⟨rv, ⟨V.ref (s.heap.objs.size + 1), H', I3, rfl, q3⟩⟩
    | next => exact False.elim hq'
    | brk => exact False.elim hq'
    | cont => exact False.elim hq'
theorem pe_make (M : Mk X.K C f) (F : FnOk X.prog X.w X.K X.mg X.base CX k f fd ps sp) (hr : Room (k + 1) X.A) (hg : Gl X x) (hm : X.mg x = some (.ref C)) (hb : Binds X.K fd ps ds) (hd : Vals dvs ds) (hx : Passes CX X E)
    (ha : PA X (e :: es) t) (hdb : (x == ("__debug__" : Str)) = false := by decide) (he : starEach (e :: es) X.env = (false, eval e X.env) :: starEach es X.env := by rfl) (hpl : (backTo pos (starEach es X.env)).any (·.1) = false := by rfl) :
    PE X (.Call (.Name x p) (e :: es) [] pos) (tMake C sp dvs E t) := by
  intro pins s σ H Q I h
  refine wpAny_Call_Name_kw (ld_glob I hg hm ?_ hdb)
  refine PySem.W.callWith_K (h₀ := X.base) I.ok.mod.kin M.kp (thn (ha pos pins s σ H _ I h) fun us s1 ⟨vs, H1, I1, r, q⟩ => ⟨I1.kIn, ?_⟩) he hpl
  exact run_make M F hr hb hd hx I1 r q
theorem pe_make0 (M : Mk X.K C f) (F : FnOk X.prog X.w X.K X.mg X.base CX k f fd ps sp) (hr : Room (k + 1) X.A) (hg : Gl X x) (hm : X.mg x = some (.ref C)) (hb : Binds X.K fd ps ds) (hd : Vals dvs ds) (hx : Passes CX X E)
    (hdb : (x == ("__debug__" : Str)) = false := by decide) : PE X (.Call (.Name x p) [] [] pos) (tMake C sp dvs E tNil) := by
  intro pins s σ H Q I h
  refine wpAny_Call_Name_kw (ld_glob I hg hm ?_ hdb)
  exact PySem.W.callWith_K0 I.kIn M.kp (run_make (us := []) M F hr hb hd hx I .nil h)
end

/-! ### keywords -/
/-- the values of the keywords, from the left -/
def PK (X : Cx) (kws : List Keyword) (t : TA) : Prop :=
  ∀ (pos : Pos) (pins : List (Addr × Obj)) (s : Shared) (σ : St) (H : Hp) (Q : List V → Hp → Prop), Inv X pins σ H s → t σ H Q → wpAny (model X.prog X.w) X.A (evalAll ((backToKw pos (keywordEach kws X.env)).map (·.2))) (AP X pins σ Q) X.xe s
section
variable {X : Cx} {CX : CXT} {k : Nat} {f C : Addr} {fd : FuncData} {ps ks : List Str} {sp : Sp} {E : XK} {x m : Str} {p pos apos kpos : Pos} {e o : Expr} {es : List Expr} {kws : List Keyword} {te ta : TE} {t tk : TA} {nm : Option Str}
theorem pk_nil : PK X [] tNil := fun _ _ _ _ H Q I h => wpAny_evalAll_nil ⟨[], H, I, .nil, h⟩
theorem pk_cons (ha : PE X e te) (hr : PK X kws t) : PK X (⟨nm, e, kpos⟩ :: kws) (tCons te t) := by
  intro pos pins s σ H Q I h
  show wpAny _ _ (evalAll ((do let v ← eval e X.env; standAt pos; pure v) :: (backToKw pos (keywordEach kws X.env)).map (·.2))) _ _ s
  refine wpAny_evalAll_cons (wpAny_bind (thn (ha pins s σ H _ I h) fun u s1 ⟨x, H1, I1, r1, q1⟩ => wpAny_bind (wpAny_standAt (wpAny_pure ?_))))
  exact thn (hr pos pins s1 σ H1 _ I1 q1) fun us s2 ⟨xs, H2, I2, r2, q2⟩ => ⟨x :: xs, H2, I2, .cons r1 r2, q2⟩

/-- how a call with keywords binds: g puts the positional values us and the keywords' values ws (names ks) in the parameters' order, defaults among them -/
structure KBinds (K : PySem.W.Frag) (fd : FuncData) (ps ks : List Str) (g : List Value → List Value → List Value) (gV : List V → List V → List V) : Prop where
  to : ∀ (s : Shared) (us ws : List Value), K.In s.heap → (g us ws).length = ps.length → BindsTo s fd ⟨us, ks.zip ws⟩ (ps.zip (g us ws))
  rel : ∀ {vs : List V} {us : List Value} {zs : List V} {ws : List Value}, Vals vs us → Vals zs ws → Vals (gV vs zs) (g us ws)
def tCallK (sp : Sp) (gV : List V → List V → List V) (E : XK) (t tk : TA) : TE := fun σ H Q => t σ H fun vs H1 => tk σ H1 fun zs H2 => sp (gV vs zs) H2 Q E
variable {g : List Value → List Value → List Value} {gV : List V → List V → List V}
theorem run_fnk {pins : List (Addr × Obj)} {σ : St} {H : Hp} {s : Shared} {Q : VK} {us ws : List Value} {vs zs : List V} (F : FnOk X.prog X.w X.K X.mg X.base CX k f fd ps sp) (hr : Room k X.A) (hb : KBinds X.K fd ps ks g gV) (hx : Passes CX X E)
    (I : Inv X pins σ H s) (r : Vals vs us) (rz : Vals zs ws) (h : sp (gV vs zs) H Q E) : wpAny (model X.prog X.w) X.A (call (.ref f) us (ks.zip ws)) (EP X pins σ Q) X.xe s := by
  have r2 := hb.rel r rz
  have hl : (g us ws).length = ps.length := by rw [← r2.length]; exact F.len _ _ _ _ h
  refine wpAny_call (codeAny_mono (F.run X.A X.stack s H ⟨us, ks.zip ws⟩ (g us ws) (gV vs zs) Q E hr I.env0 (hb.to s us ws I.kIn hl) r2 h) fun r s' hq => ?_)
  cases r with
  | error e => exact hx pins σ H s e s' I hq
  | ok fl =>
    cases fl with
    | ret u => exact I.after hq
    | next => exact False.elim hq
    | brk => exact False.elim hq
    | cont => exact False.elim hq
/-- f(e, .., k = v, ..) -/
theorem pe_callK (F : FnOk X.prog X.w X.K X.mg X.base CX k f fd ps sp) (hr : Room k X.A) (hg : Gl X x) (hm : X.mg x = some (.ref f)) (hk : PySem.W.keepIn X.K (.ref f) = true) (hb : KBinds X.K fd ps ks g gV) (hx : Passes CX X E)
    (ha : PA X (e :: es) t) (hkw : PK X kws tk) (hall : (backToKw pos (keywordEach kws X.env)).all (·.1.isSome) = true := by rfl) (hks : (backToKw pos (keywordEach kws X.env)).filterMap (·.1) = ks := by rfl)
    (hdb : (x == ("__debug__" : Str)) = false := by decide) (he : starEach (e :: es) X.env = (false, eval e X.env) :: starEach es X.env := by rfl)
    (hpl : ((backTo pos (starEach (e :: es) X.env)).any (·.1) || (backToKw pos (keywordEach kws X.env)).any (·.1.isNone)) = false := by rfl) :
    PE X (.Call (.Name x p) (e :: es) kws pos) (tCallK sp gV E t tk) := by
  intro pins s σ H Q I h
  refine wpAny_Call_Name_kw (ld_glob I hg hm ?_ hdb)
  refine PySem.W.callWith_KW (h₀ := X.base) I.ok.mod.kin hk hall (thn (ha pos pins s σ H _ I h) fun us s1 ⟨vs, H1, I1, r, q⟩ => ?_) hpl he
  refine thn (hkw pos pins s1 σ H1 _ I1 q) fun ws s2 ⟨zs, H2, I2, rz, q2⟩ => ⟨I2.kIn, ?_⟩
  rw [hks]
  exact run_fnk F hr hb hx I2 r rz q2
end

/-! ### a def's body keeps its promise -/
/-- names: the parameters first -/
structure FnScope (N P : List Str) (sc : Scope) : Prop where
  kind : sc.kind = .function
  co : sc.isCoroutine = false
  gen : sc.isGenerator = false
  nd : N.Nodup
  pre : N.take P.length = P
  par : ∀ x ∈ P, sc.names.lookup x = some .local ∨ sc.names.lookup x = some .cell
  nofree : ∀ y ∈ sc.names, y.2 ≠ .free

theorem bindL_out {kindOf : Str → Option NameKind} {x : Str} : ∀ {binds : List (Str × Value)} {m : Str → Option Value}, (∀ v, (x, v) ∉ binds) → bindL kindOf binds m x = m x
  | [], _, _ => rfl
  | (n, v) :: r, m, h => by
    unfold bindL
    rw [bindL_out fun w hw => h w (List.mem_cons_of_mem _ hw)]
    split
    · have : x ≠ n := by rintro rfl; exact h v List.mem_cons_self
      simp [this]
    · rfl
theorem bindC_out {kindOf : Str → Option NameKind} {x : Str} : ∀ {binds : List (Str × Value)} {m : Str → Option Value}, (∀ v, (x, v) ∉ binds) → bindC kindOf binds m x = m x
  | [], _, _ => rfl
  | (n, v) :: r, m, h => by
    unfold bindC
    rw [bindC_out fun w hw => h w (List.mem_cons_of_mem _ hw)]
    split
    · rfl
    · have : x ≠ n := by rintro rfl; exact h v List.mem_cons_self
      simp [this]
theorem bindL_get {kindOf : Str → Option NameKind} {x : Str} {v : Value} : ∀ {P : List Str} {vs : List Value} {i : Nat} {m : Str → Option Value}, P.Nodup → P[i]? = some x → vs[i]? = some v → kindOf x = some .local →
    bindL kindOf (P.zip vs) m x = some v
  | [], _, _, _, _, h, _, _ => by simp at h
  | _ :: _, [], _, _, _, _, h, _ => by simp at h
  | p :: P, w :: vs, 0, m, nd, h1, h2, hk => by
    simp at h1 h2; subst h1; subst h2
    show bindL kindOf ((p, w) :: P.zip vs) m p = _
    unfold bindL
    rw [bindL_out fun v hv => (List.nodup_cons.mp nd).1 (List.of_mem_zip hv).1, if_pos hk]
    simp
  | p :: P, w :: vs, i + 1, m, nd, h1, h2, hk => by
    show bindL kindOf ((p, w) :: P.zip vs) m x = _
    unfold bindL
    exact bindL_get (i := i) (List.nodup_cons.mp nd).2 (by simpa using h1) (by simpa using h2) hk
theorem bindC_get {kindOf : Str → Option NameKind} {x : Str} {v : Value} : ∀ {P : List Str} {vs : List Value} {i : Nat} {m : Str → Option Value}, P.Nodup → P[i]? = some x → vs[i]? = some v → kindOf x ≠ some .local →
    bindC kindOf (P.zip vs) m x = some v
  | [], _, _, _, _, h, _, _ => by simp at h
  | _ :: _, [], _, _, _, _, h, _ => by simp at h
  | p :: P, w :: vs, 0, m, nd, h1, h2, hk => by
    simp at h1 h2; subst h1; subst h2
    show bindC kindOf ((p, w) :: P.zip vs) m p = _
    unfold bindC
    rw [bindC_out fun v hv => (List.nodup_cons.mp nd).1 (List.of_mem_zip hv).1, if_neg hk]
    simp
  | p :: P, w :: vs, i + 1, m, nd, h1, h2, hk => by
    show bindC kindOf ((p, w) :: P.zip vs) m x = _
    unfold bindC
    exact bindC_get (i := i) (List.nodup_cons.mp nd).2 (by simpa using h1) (by simpa using h2) hk

/-- the names' values at the entry -/
def start (N : List Str) (vs : List V) : St := vs.map some ++ List.replicate (N.length - vs.length) none

/-- the context of a def's body, at its entry; an exception leaves the frame, then lies as CX says -/
def cxOf (CX : CXT) (P : Program) (w : World) (K : PySem.W.Frag) (mg : Str → Option Value) (base : Heap) (N : List Str) (qual : Str) (scope : Scope) (f : Addr) (cd : Value) (A : Around) (outer : List Env) (s : Shared) (H : Hp) (E : XK) : Cx where
  prog := P
  w := w
  K := K
  mg := mg
  base := base
  A := A.deeper (envOfC qual scope s.heap.objs.size f cd)
  N := N
  s₀ := s
  H₀ := H
  env := envOfC qual scope s.heap.objs.size f cd
  outer := outer
  stack := envOfC qual scope s.heap.objs.size f cd :: outer
  ex := []
  calm := true
  fn := fun _ => true
  pn := []
  xe := fun e s' => wpAny (model P w) (A.deeper (envOfC qual scope s.heap.objs.size f cd)) (leaving (envOfC qual scope s.heap.objs.size f cd) e) (fun _ s'' => CX outer H s E e s'') (fun e' s'' => CX outer H s E e' s'') s'

theorem cell_has {sc : Scope} {n : Nat} {x : Str} (h : sc.names.lookup x = some .cell) : ∃ c, (cellsFrom n sc.names []).lookup x = some c := by
  have q := PySem.W.cellsFrom_some sc.names n [] (.inl h)
  exact Option.isSome_iff_exists.mp q

theorem inv_start {CX : CXT} {P : Program} {w : World} {K : PySem.W.Frag} {mg : Str → Option Value} {base : Heap} {N ps : List Str} {qual : Str} {scope : Scope} {f : Addr} {cd : Value} {A : Around} {outer : List Env} {s s1 : Shared} {H : Hp} {E : XK} {us : List Value} {vs : List V}
    (S : FnScope N ps scope) (hd : A.handled = none) (e0 : Env0 P w K mg base A outer s H) (hl : vs.length = ps.length) (r : Vals vs us)
    (x : InCallC s s.heap.objs.size (bindL (envOfC qual scope s.heap.objs.size f cd).kindOf (ps.zip us) fun _ => none) (cellsFrom (s.heap.objs.size + 1) scope.names []) (bindC (envOfC qual scope s.heap.objs.size f cd).kindOf (ps.zip us) fun _ => none) s1) :
    Inv (cxOf CX P w K mg base N qual scope f cd A outer s H E) [] (start N vs) H s1 := by
  have hpl : ps.length ≤ N.length := by have := congrArg List.length S.pre; rw [List.length_take] at this; omega
  obtain ⟨h1, tk, rfl, hk⟩ := x.done
  have noA : ∀ b : Addr, b ∉ (cxOf CX P w K mg base N qual scope f cd A outer s H E).ex := fun b z => absurd (show b ∈ ([] : List Addr) from z) (by simp)
  refine ⟨⟨e0.mod, S.kind, rfl, rfl, Nat.le_refl _, fun y z c h1 h2 => ?_, fun y hy => ?_, fun y c _ h => ?_, fun _ => hd, Around.frames_deeper e0.frames, .inr ⟨rfl, rfl⟩, fun b z => absurd z (noA b), e0.bs, e0.bsz, fun b _ _ => noA b, fun b z => absurd z (noA b), e0.funs, e0.frf⟩,
    rfl, e0.bare, Un.kept hk, ⟨_, x.toInCall.ns, fun i y v h1 h2 h3 => ?_⟩, fun y c h => ⟨_, x.cell y c h⟩, e0.hok.fresh (Nat.le_refl _), fun y c h => ?_, fun p hp => absurd (show p ∈ ([] : List (Addr × Obj)) from hp) (by simp), e0.hok.kept hk, ?_⟩
  · exact name_of_addr x.apart (PySem.mem_of_lookup h1) (PySem.mem_of_lookup h2)
  · have hy : scope.names.lookup y = some .cell ∨ scope.names.lookup y = some .free := hy
    rcases hy with hy | hy
    · exact cell_has hy
    · exact absurd rfl (S.nofree _ (PySem.mem_of_lookup hy))
  · exact Nat.le_of_lt (x.above y c (PySem.mem_of_lookup h))
  · have hi : i < vs.length := by
      unfold start at h2
      by_cases hi : i < vs.length
      · exact hi
      · rw [List.getElem?_append_right (by simpa using hi)] at h2
        rw [List.getElem?_replicate] at h2
        split at h2 <;> cases h2
    have ha : vs[i]? = some v := by
      unfold start at h2
      rw [List.getElem?_append_left (by simpa using hi), List.getElem?_map] at h2
      cases e : vs[i]? with
      | none => rw [e] at h2; cases h2
      | some a => rw [e] at h2; cases h2; rfl
    obtain ⟨u, hu, rv⟩ := r.get ha
    have hp : ps[i]? = some y := by
      rw [← S.pre, List.getElem?_take_of_lt (by omega)]; exact h1
    have ndP : ps.Nodup := by rw [← S.pre]; exact S.nd.sublist (List.take_sublist _ _)
    refine ⟨u, rv, ?_⟩
    rcases S.par y (List.mem_of_getElem? hp) with k | k
    · exact .inl ⟨k, bindL_get ndP hp hu k⟩
    · obtain ⟨c, e⟩ := cell_has (n := s.heap.objs.size + 1) k
      refine .inr ⟨.inl k, c, e, ?_⟩
      have q := x.cell y c e
      rw [bindC_get ndP hp hu (by show scope.names.lookup y ≠ _; rw [k]; decide)] at q
      exact q
  · exact e0.hok.fresh (Nat.le_of_lt (x.above y c (PySem.mem_of_lookup h)))
  · unfold start
    show _ = N.length
    rw [List.length_append, List.length_map, List.length_replicate]
    omega

/-- THE RULE: a def (or a method) of the text, by its body. The body's reading t is chosen for each entry; it is run at the parameters' values -/
theorem fn_of {CX : CXT} {P : Program} {w : World} {K : PySem.W.Frag} {mg : Str → Option Value} {base : Heap} {k : Nat} {f : Addr} {name qual : Str} {params : Arguments} {body : List Stmt} {scope : Scope} {dV kV doc pm cdv ct oc : Value} {an od : Option Addr}
    {osl : Array (Option Value)} {N ps : List Str} {sp : Sp} (lk : K.lookup f = some ⟨oc, od, .func (PySem.W.fnOf name qual params body scope dV kV doc pm an cdv ct), osl⟩) (hcd : PySem.W.codeIn K cdv qual = true) (S : FnScope N ps scope)
    (len : ∀ vs H Q E, sp vs H Q E → vs.length = ps.length)
    (hbody : ∀ (A : Around) (outer : List Env) (s : Shared) (H : Hp) (vs : List V) (Q : VK) (E : XK), Room k (A.deeper (envOfC qual scope s.heap.objs.size f cdv)) → sp vs H Q E →
      ∃ t, PSs (cxOf CX P w K mg base N qual scope f cdv A outer s H E) body t ∧ t { nx := fun _ H' => Q .non H', rt := Q } (start N vs) H) :
    FnOk P w K mg base CX (k + 1) f (PySem.W.fnOf name qual params body scope dV kV doc pm an cdv ct) ps sp := by
  refine ⟨len, fun A outer s H args us vs Q E hr e0 hb r hsp => ?_⟩
  have hl := len _ _ _ _ hsp
  have KX : K.In s.heap := e0.mod.kin.keeps fun b o e => (e0.bs b o e).1
  have lim : s.heap.NoLimit := e0.mod.nolimit.keeps fun b o e => (e0.bs b o e).1
  have hkind : ∀ y ∈ ps.zip us, scope.names.lookup y.1 = some .local ∨ (scope.names.lookup y.1 = some .cell ∧ ((cellsFrom (s.heap.objs.size + 1) scope.names []).lookup y.1).isSome = true) := fun ⟨n, v⟩ hy => by
    rcases S.par n (List.of_mem_zip hy).1 with q | q
    · exact .inl q
    · exact .inr ⟨q, PySem.W.cellsFrom_some _ _ _ (.inl q)⟩
  refine codeAny_call_function hr.depth (KX _ _ lk) rfl S.co S.gen rfl (PySem.W.codeRec_of KX hcd) (hb _ _ _ _ ?_)
  refine wpAny_newFunctionEnv_cells S.kind hkind fun env he s1 x => ?_
  subst he
  refine ⟨lim.keeps x.toInCall.keep, codeAny_func ?_⟩
  obtain ⟨t, ht, hq⟩ := hbody A outer s H vs Q E (hr.deeper _) hsp
  have I : Inv (cxOf CX P w K mg base N qual scope f cdv A outer s H E) [] (start N vs) H s1 := inv_start S hr.hd e0 hl r x
  refine wpAny_mono (ht [] s1 (start N vs) H _ I hq) (fun fl s' hs => ?_) fun e s' hs => hs
  have fin : ∀ {σ' : St} {H' : Hp} {v : V} {u : Value}, Inv (cxOf CX P w K mg base N qual scope f cdv A outer s H E) [] σ' H' s' → RelV v u → Q v H' → CE outer P w H s Q u s' :=
    fun {σ' H' v u} J rv q => ⟨v, H', J.os, J.bare, J.base, J.hok, rv, q⟩
  cases fl with
  | ret u =>
    obtain ⟨v, σ', H', J, rv, q⟩ := hs
    exact fin J rv q
  | next =>
    obtain ⟨σ', H', J, q⟩ := hs
    exact fin (v := V.non) (u := Value.none) J rfl q
  | brk =>
    obtain ⟨_, _, _, q⟩ := hs
    exact False.elim q
  | cont =>
    obtain ⟨_, _, _, q⟩ := hs
    exact False.elim q
end L2

namespace L2
open PySem PySem.Spec PyProof.Rows
section
variable {X : Cx} {x : Str} {p pos : Pos} {e : Expr} {es : List Expr} {t : TA} {id T : String} {r : List V → Hp → VK → Prop}

def tCB (r : List V → Hp → VK → Prop) (t : TA) : TE := fun σ H Q => t σ H fun vs H1 => r vs H1 Q
/-- f(e, ..), f a built-in function -/
theorem pe_callB (hc : CallR X (.builtin id) r) (hg : Gl X x) (hm : X.mg x = none) (hv : bootBuiltins x = some (.builtin id)) (ha : PA X (e :: es) t) (hn : x ≠ "__name__" := by decide) (hdb : (x == ("__debug__" : Str)) = false := by decide)
    (he : starEach (e :: es) X.env = (false, eval e X.env) :: starEach es X.env := by rfl) (hpl : (backTo pos (starEach es X.env)).any (·.1) = false := by rfl) : PE X (.Call (.Name x p) (e :: es) [] pos) (tCB r t) := by
  intro pins s σ H Q I h
  refine wpAny_Call_Name_kw (ld_blt I hg hm hv ?_ hn hdb)
  exact PyProof.Rows.callWith_builtin1 (thn (ha pos pins s σ H _ I h) fun us s1 ⟨vs, H1, I1, r1, q1⟩ => hc pins s1 σ H1 vs us Q I1 r1 q1) he hpl
/-- T(e, ..), T a built-in type -/
theorem pe_callTy (hc : CallR X (.type T) r) (hg : Gl X x) (hm : X.mg x = none) (hv : bootBuiltins x = some (.type T)) (ha : PA X (e :: es) t) (hn : x ≠ "__name__" := by decide) (hdb : (x == ("__debug__" : Str)) = false := by decide)
    (he : starEach (e :: es) X.env = (false, eval e X.env) :: starEach es X.env := by rfl) (hpl : (backTo pos (starEach es X.env)).any (·.1) = false := by rfl) : PE X (.Call (.Name x p) (e :: es) [] pos) (tCB r t) := by
  intro pins s σ H Q I h
  refine wpAny_Call_Name_kw (ld_blt I hg hm hv ?_ hn hdb)
  exact PyProof.Rows.callWith_type1 (thn (ha pos pins s σ H _ I h) fun us s1 ⟨vs, H1, I1, r1, q1⟩ => hc pins s1 σ H1 vs us Q I1 r1 q1) he hpl
/-- T() -/
theorem pe_callTy0 (hc : CallR X (.type T) r) (hg : Gl X x) (hm : X.mg x = none) (hv : bootBuiltins x = some (.type T)) (hn : x ≠ "__name__" := by decide) (hdb : (x == ("__debug__" : Str)) = false := by decide) :
    PE X (.Call (.Name x p) [] [] pos) (tCB r tNil) := by
  intro pins s σ H Q I h
  refine wpAny_Call_Name_kw (ld_blt I hg hm hv ?_ hn hdb)
  exact PyProof.Rows.callWith_type0 (hc pins s σ H [] [] Q I .nil h)
end
end L2

namespace HT
open PySem PyProof.Rows

/-- t < u of tuples of ints -/
def lexLt : List Int → List Int → Bool
  | [], [] => false
  | [], _ :: _ => true
  | _ :: _, [] => false
  | x :: xs, y :: ys => if x = y then lexLt xs ys else decide (x < y)
theorem lexLt_cons (x y : Int) (xs ys : List Int) : lexLt (x :: xs) (y :: ys) = if x = y then lexLt xs ys else decide (x < y) := rfl
theorem lexLt_nil_nil : lexLt [] [] = false := rfl
theorem lexLt_nil_cons (y : Int) (ys : List Int) : lexLt [] (y :: ys) = true := rfl
theorem lexLt_cons_nil (x : Int) (xs : List Int) : lexLt (x :: xs) [] = false := rfl

theorem eqAt_int (A : Around) (s : Shared) (a : Int) (t : Tok) (c : Int) (u : Tok) : ∃ e, SeqAt.EqAt A s (.int a t) (.int c u) e ∧ (e = true ↔ a = c) :=
  ⟨(a == c), SeqAt.EqAt.int_int a t c u, by simp⟩
theorem rcLt_int (A : Around) (s : Shared) (a : Int) (t : Tok) (c : Int) (u : Tok) (prog : Program) (w : World) (E : Value → Shared → Prop) (Q : Value → Shared → Prop) (h : Q (.bool (decide (a < c))) s) :
    wpAny (model prog w) A (richCompare .Lt (.int a t) (.int c u)) Q E s :=
  (PyProof.Rows.lt_int h : wpAny (model prog w) A (compareOp .Lt (.int a t) (.int c u)) Q E s)

section
open PySem.SeqAt
open PySem.AutoSeq1 (wpAny_loadPart')
open PySem.MeetsSeq PySem.MeetsSeq2 PySem.MeetsSeq3

theorem tuple_lt_ints (l b : Addr) (items items2 : Array Value) (n n2 : Nat) (dd dd2 : Option Addr) (sl sl2 : Array (Option Value)) (ns ms : List Int) (hi : IntsAre items.toList ns) (hj : IntsAre items2.toList ms) :
    Meets (Builtin.«tuple.__lt__» ⟨[.ref l, .ref b], []⟩)
      (fun _ R s => s.heap.get? l = some { cls := .type "tuple", dict := dd, data := .seq items n, slots := sl } ∧ s.heap.get? b = some { cls := .type "tuple", dict := dd2, data := .seq items2 n2, slots := sl2 } ∧
        R (.ok (.ret (.bool (lexLt ns ms)))) s) :=
  .of_wp fun prog w A R s h => by
    obtain ⟨hp, g, d, tk, os⟩ := s; obtain ⟨hl, hb, h⟩ := h
    have f2 := AutoSeq1.sub_tuple_tuple
    have z1 : items.size = ns.length := by rw [← hi.length]; simp
    have z2 : items2.size = ms.length := by rw [← hj.length]; simp
    wp_walk using wpAny_loadPart' hl, wpAny_loadPart' hb, wpAny_forIn_list _ (fun rest b s' => b.1 = none ∧ s' = ⟨hp, g, d, tk, os⟩ ∧ ∃ (vs ws : List Value) (ns' ms' : List Int), rest = vs.zip ws ∧
      IntsAre vs ns' ∧ IntsAre ws ms' ∧ ns'.length + items2.size = ms'.length + items.size ∧ R (.ok (.ret (.bool (lexLt ns' ms')))) ⟨hp, g, d, tk, os⟩) _
    case turn =>
      rintro ⟨y, x⟩ rest b s' ⟨hb', rfl, vs, ws, ns', ms', hz, hvi, hwi, hlen, hR⟩
      cases hvi with
      | nil => rw [List.zip_nil_left] at hz; cases hz
      | cons a t hvi' =>
        cases hwi with
        | nil => rw [List.zip_nil_right] at hz; cases hz
        | cons c u hwi' =>
          rw [List.zip_cons_cons] at hz
          injection hz with hyx hrest
          injection hyx with hy hx
          subst hy hx
          rw [lexLt_cons] at hR
          simp only [List.length_cons] at hlen
          obtain ⟨e, he, hiff⟩ := eqAt_int A.in1 ⟨hp, g, d, tk, os⟩ a t c u
          refine wpAny_bind (he prog w _ _ ?_)
          cases e with
          | true =>
            rw [if_pos (hiff.mp rfl)] at hR
            wp_walk
            exact ⟨rfl, rfl, _, _, _, _, hrest, hvi', hwi', by omega, hR⟩
          | false =>
            rw [if_neg (fun q => absurd (hiff.mpr q) Bool.false_ne_true)] at hR
            have hri := rcLt_int A.in1 ⟨hp, g, d, tk, os⟩ a t c u prog w
            wp_walk using hri
            exact ⟨_, rfl, by simpa using hR⟩
    case fin =>
      rintro ⟨b1, b2⟩ s' ⟨hb', rfl, vs, ws, ns', ms', hz, hvi, hwi, hlen, hR⟩
      simp only at hb'
      subst hb'
      have hv : lexLt ns' ms' = decide (items.size < items2.size) := by
        cases hvi with
        | nil =>
          cases hwi with
          | nil =>
            simp only [List.length_nil] at hlen
            rw [lexLt_nil_nil]
            exact (decide_eq_false (by omega)).symm
          | cons c u hw =>
            simp only [List.length_nil, List.length_cons] at hlen
            rw [lexLt_nil_cons]
            exact (decide_eq_true (by omega)).symm
        | cons a t hv =>
          cases hwi with
          | nil =>
            simp only [List.length_nil, List.length_cons] at hlen
            rw [lexLt_cons_nil]
            exact (decide_eq_false (by omega)).symm
          | cons c u hw =>
            rw [List.zip_cons_cons] at hz
            cases hz
      rw [hv] at hR
      wp_walk
      exact ⟨_, rfl, by simpa [Builtin.Tuple.tupleCompareSizes] using hR⟩
    case h =>
      exact ⟨rfl, rfl, items.toList, items2.toList, ns, ms, rfl, hi, hj, by omega, h⟩
end

section
variable {prog : Program} {w : World} {A : Around} {E : Value → Shared → Prop} {s : Shared}

theorem lt_tupInts {l b : Addr} {items items2 : Array Value} {ns ms : List Int} {Q : Value → Shared → Prop} (hl : IsTup s.heap l items) (hb : IsTup s.heap b items2) (hi : IntsAre items.toList ns) (hj : IntsAre items2.toList ms)
    (hu : A.units < cLine) (h : Q (.bool (lexLt ns ms)) s) : wpAny (model prog w) A (compareOp .Lt (.ref l) (.ref b)) Q E s := by
  obtain ⟨⟨cls, dd, data, sl⟩, ho, hc, n, hd⟩ := id hl
  obtain ⟨⟨cls2, dd2, data2, sl2⟩, ho2, hc2, n2, hd2⟩ := id hb
  simp only at hc hd hc2 hd2
  subst hc hd hc2 hd2
  exact richCompare_meets_room (op := .Lt) ⟨_, ho, rfl⟩ ⟨_, ho2, rfl⟩ PySem.F.slot_tuple_lt PySem.F.entry_tuple_lt (PySem.F.args_tuple_lt_2 _ _) (tuple_lt_ints l b items items2 n n2 dd dd2 sl sl2 ns ms hi hj)
    ⟨ho, ho2, show Value.bool (lexLt ns ms) ≠ Value.notImplemented ∧ Q (.bool (lexLt ns ms)) s from ⟨(fun x => nomatch x), h⟩⟩ hu

/-- t + u, t not empty -/
theorem cat_tup {t b : Addr} {vs ws : List Value} {Q : Value → Shared → Prop} (ht : IsTup s.heap t vs.toArray) (hb : IsTup s.heap b ws.toArray) (hv : vs ≠ [])
    (h1 : ws = [] → Q (.ref t) s) (h2 : ws ≠ [] → Q (.ref s.heap.objs.size) { s with heap := s.heap.push { cls := .type "tuple", data := .seq (vs ++ ws).toArray } })
    (hsz : vs.length + ws.length ≤ sizeLine) : wpAny (model prog w) A (binaryOp .Add (.ref t) (.ref b)) Q E s := by
  obtain ⟨⟨cls, dd, data, sl⟩, ho, hc, n, hd⟩ := id ht
  obtain ⟨⟨cls2, dd2, data2, sl2⟩, ho2, hc2, n2, hd2⟩ := id hb
  simp only at hc hd hc2 hd2
  subst hc hd hc2 hd2
  have e : vs.toArray ++ ws.toArray = (vs ++ ws).toArray := by simp
  by_cases hw : ws = []
  · exact concat_meets ⟨_, ho, rfl⟩ ⟨_, ho2, rfl⟩ noFill_tuple_add seq_tuple_add PySem.F.slot_tuple_add PySem.F.entry_tuple_add (PySem.F.args_tuple_add_2 _ _)
      (tuple_addW1 t b vs.toArray ws.toArray n n2 dd dd2 sl sl2 (by simpa using hv) (by simp [hw])) ⟨ho, ho2, h1 hw⟩
  · refine concat_meets ⟨_, ho, rfl⟩ ⟨_, ho2, rfl⟩ noFill_tuple_add seq_tuple_add PySem.F.slot_tuple_add PySem.F.entry_tuple_add (PySem.F.args_tuple_add_2 _ _)
      (tuple_addW2 t b vs.toArray ws.toArray n n2 dd dd2 sl sl2 (by simpa using hv) (by simpa using hw) (by rw [List.size_toArray, List.size_toArray]; exact hsz)) ⟨ho, ho2, ?_⟩
    rw [e]
    exact h2 hw

/-! ### t[a:b], not the whole -/
/-- a slice's bound as a place among n (d where it is left out) -/
def sIx (n d : Nat) : Option Int → Nat
  | none => d
  | some v => if v < 0 then (v + (n : Int)).toNat else min v.toNat n
theorem sIx_none (n d : Nat) : sIx n d none = d := rfl
theorem sIx_nat (n d k : Nat) : sIx n d (some (k : Int)) = min k n := by
  show (if (k : Int) < 0 then ((k : Int) + (n : Int)).toNat else min (k : Int).toNat n) = min k n
  rw [if_neg (by omega), Int.toNat_natCast]
theorem sIx_le (n d : Nat) (hd : d ≤ n) (o : Option Int) : sIx n d o ≤ n := by
  cases o with
  | none => exact hd
  | some v =>
    show (if v < 0 then (v + (n : Int)).toNat else min v.toNat n) ≤ n
    by_cases hv : v < 0
    · rw [if_pos hv]; omega
    · rw [if_neg hv]; exact Nat.min_le_right _ _
theorem clip_eq (v : Int) (n d : Nat) : (if v < 0 then max (v + (n : Int)) 0 else min v (n : Int)) = ((sIx n d (some v) : Nat) : Int) := by
  show (if v < 0 then max (v + (n : Int)) 0 else min v (n : Int)) = (((if v < 0 then (v + (n : Int)).toNat else min v.toNat n) : Nat) : Int)
  by_cases hv : v < 0
  · simp only [if_pos hv]; omega
  · simp only [if_neg hv]; omega
theorem adjust_gen (lo hi : Option Int) (n : Nat) : Builtin.Slice.sliceAdjust lo hi 1 (n : Int) = (((sIx n 0 lo : Nat) : Int), ((sIx n n hi : Nat) : Int)) := by
  have h1 : ¬ ((1 : Int) < 0) := by omega
  unfold Builtin.Slice.sliceAdjust
  simp only [h1, if_false]
  refine Prod.ext ?_ ?_
  · cases lo with
    | none => rfl
    | some v => exact clip_eq v n 0
  · cases hi with
    | none => rfl
    | some v => exact clip_eq v n n
theorem places_gen (i j : Nat) : Builtin.Slice.slicePlaces (i : Int) (j : Int) 1 = j - i := by
  unfold Builtin.Slice.slicePlaces
  have h1 : (1 : Int) > 0 := by omega
  simp only [h1, if_true, Int.ediv_one]
  split <;> omega
theorem slicePart_ {v : Value} {o : Option Int} {Q : Option Int → Shared → Prop} (p : IsPart v o) (h : Q o s) : wpAny (model prog w) A (Builtin.Slice.slicePartIndex v) Q E s := by
  cases p with
  | none => exact slicePart_none h
  | int i t => exact slicePart_int h
theorem sliceApplied_gen {sl : Addr} {vl vu : Value} {lo hi : Option Int} {n : Nat} {Q : Int × Int × Nat → Shared → Prop} (hs : s.heap.IsSliceOf sl vl vu .none) (pl : IsPart vl lo) (pu : IsPart vu hi)
    (h : Q (((sIx n 0 lo : Nat) : Int), 1, sIx n n hi - sIx n 0 lo) s) : wpAny (model prog w) A (Builtin.Slice.sliceApplied (.ref sl) (pure (n : Int))) Q E s := by
  obtain ⟨os, hos, hcs, hds⟩ := id hs
  unfold Builtin.Slice.sliceApplied Builtin.Slice.sliceFields
  refine wpAny_bind (wpAny_bind (wpAny_field hos hds (x := vl) rfl (wpAny_bind (wpAny_field hos hds (x := vu) rfl (wpAny_bind (wpAny_field hos hds (x := .none) rfl (wpAny_pure ?_)))))))
  refine wpAny_bind (slicePart_none ?_)
  show wpAny _ _ (if ((1 : Int) == 0) = true then _ else _) _ _ s
  rw [if_neg (by decide)]
  refine wpAny_bind (slicePart_ pl (wpAny_bind (slicePart_ pu (wpAny_bind (wpAny_pure ?_)))))
  show wpAny _ _ (match Builtin.Slice.sliceAdjust lo hi 1 (n : Int) with | (lo, hi) => pure (lo, (1 : Int), Builtin.Slice.slicePlaces lo hi 1)) _ _ s
  rw [adjust_gen lo hi n]
  show wpAny _ _ (pure (((sIx n 0 lo : Nat) : Int), (1 : Int), Builtin.Slice.slicePlaces ((sIx n 0 lo : Nat) : Int) ((sIx n n hi : Nat) : Int) 1)) _ _ s
  rw [places_gen]
  exact wpAny_pure h
theorem pick_gen (xs : Array Value) (i k : Nat) : ((List.range k).filterMap fun (m : Nat) => xs[((i : Int) + (m : Int) * 1).toNat]?).toArray = ((xs.toList.drop i).take k).toArray := by
  have e : (fun (m : Nat) => xs[((i : Int) + (m : Int) * 1).toNat]?) = fun m => xs[i + m]? := by
    funext m
    have : ((i : Int) + (m : Int) * 1).toNat = i + m := by omega
    rw [this]
  rw [e]
  have := pick_run xs i k
  rw [List.filterMap_map] at this
  have e2 : ((fun x => xs[x]?) ∘ fun x => i + x) = fun m => xs[i + m]? := rfl
  rw [e2] at this
  rw [this]

theorem getItem_tuple_cut {t sl : Addr} {items : Array Value} {vl vu : Value} {lo hi : Option Int} {Q : Value → Shared → Prop} (ht : IsTup s.heap t items) (hs : s.heap.IsSliceOf sl vl vu .none) (pl : IsPart vl lo) (pu : IsPart vu hi)
    (hw : ¬ (sIx items.size 0 lo = 0 ∧ sIx items.size items.size hi = items.size))
    (h : Q (.ref s.heap.objs.size) { s with heap := s.heap.push { cls := .type "tuple", data := .seq ((items.toList.drop (sIx items.size 0 lo)).take (sIx items.size items.size hi - sIx items.size 0 lo)).toArray } })
    (hsz : items.size ≤ sizeLine) : wpAny (model prog w) A (getItem (.ref t) (.ref sl)) Q E s := by
  have htake : sizeOk (.seq ((items.toList.drop (sIx items.size 0 lo)).take (sIx items.size items.size hi - sIx items.size 0 lo)).toArray) := by
    show ((items.toList.drop (sIx items.size 0 lo)).take (sIx items.size items.size hi - sIx items.size 0 lo)).toArray.size ≤ sizeLine
    rw [List.size_toArray, List.length_take, List.length_drop, Array.length_toList]
    omega
  have hj : sIx items.size items.size hi ≤ items.size := sIx_le _ _ (Nat.le_refl _) hi
  obtain ⟨os, hos, hcs, hds⟩ := id hs
  have hTs : s.TypeIs (.ref sl) "slice" := ⟨os, hos, hcs⟩
  unfold getItem
  try with_reducible refine wpAny_holding ?_
  first | refine wpAny_bind (wpAny_pure ?_) | skip
  refine wpAny_bind (wpAny_sequenceKey ht.typeIs (by decide) ?_)
  refine wpAny_bind (wpAny_callSpecial?_slot (name := Str.ofString "__getitem__") ht.typeIs PyProof.Rows.slot_tuple_getitem
    (wpAny_call_entry PyProof.Rows.slot_tuple_getitem ht.typeIs entry_tuple_getitem ?_ (args_tuple_getitem _ _)))
  show wpAny _ _ (Builtin.Tuple.tupleItemsOf (.ref t) >>= _) _ _ s
  refine wpAny_bind (tupleItemsOf_ ht ?_)
  refine wpAny_bind (wpAny_typeOf hTs ?_)
  rw [if_pos (by decide)]
  refine wpAny_bind (sliceApplied_gen hs pl pu ?_)
  have hno : ¬ ((((sIx items.size 0 lo : Nat) : Int) == 0 && (1 : Int) == 1 && (sIx items.size items.size hi - sIx items.size 0 lo) == items.size) = true) := by
    intro q
    rw [Bool.and_eq_true, Bool.and_eq_true] at q
    have q1 : ((sIx items.size 0 lo : Nat) : Int) = 0 := eq_of_beq q.1.1
    have q2 : sIx items.size items.size hi - sIx items.size 0 lo = items.size := eq_of_beq q.2
    exact hw ⟨by omega, by omega⟩
  show wpAny _ _ (if (((sIx items.size 0 lo : Nat) : Int) == 0 && (1 : Int) == 1 && (sIx items.size items.size hi - sIx items.size 0 lo) == items.size) = true then _ else _) _ _ s
  rw [if_neg hno, pick_gen]
  first
    | exact wpAny_bind (m := Builtin.Tuple.tupleExact _) (wpAny_newObj_type (wpAny_pure ⟨_, rfl, wpAny_pure h⟩) htake)
    | exact wpAny_bind (m := Builtin.Tuple.tupleExact _) (wpAny_newObj_type (wpAny_bind (wpAny_pure (wpAny_pure ⟨_, rfl, wpAny_pure h⟩))) htake)
    | exact wpAny_bind (wpAny_bind (m := Builtin.Tuple.tupleExact _) (wpAny_newObj_type (wpAny_pure (wpAny_pure ⟨_, rfl, wpAny_pure h⟩)) htake))
    | exact wpAny_bind (wpAny_bind (m := Builtin.Tuple.tupleExact _) (wpAny_newObj_type (wpAny_pure ⟨_, rfl, wpAny_pure h⟩) htake))
end
end HT

namespace L2
open PySem PySem.Spec PyProof.Rows

/-! ### the parts of a slice -/
abbrev TO := St → Hp → (Option Int → Hp → Prop) → Prop
/-- a slice's part (left out, or an int) -/
def PO (X : Cx) (e : Option Expr) (t : TO) : Prop :=
  ∀ (pins : List (Addr × Obj)) (s : Shared) (σ : St) (H : Hp) (Q : Option Int → Hp → Prop), Inv X pins σ H s → t σ H Q →
    wpAny (model X.prog X.w) X.A (evalPart e X.env) (fun u s' => ∃ o H', Inv X pins σ H' s' ∧ IsPart u o ∧ Q o H') X.xe s
def tNoPart : TO := fun _ H Q => Q none H
def tPart (t : TE) : TO := fun σ H Q => t σ H fun x H1 => ∃ i, x = .int i ∧ Q (some i) H1

theorem intsAre_of {ns : List Int} : ∀ {us : List Value}, Vals (ns.map V.int) us → IntsAre us ns := by
  induction ns with
  | nil => intro us r; rw [List.map_nil] at r; cases r; exact .nil
  | cons n ns ih =>
    intro us r
    rw [List.map_cons] at r
    cases r with
    | cons r1 r2 =>
      obtain ⟨t, e⟩ := r1
      subst e
      exact .cons n t (ih r2)

section
variable {X : Cx} {e : Expr} {te : TE} {lo hi : Option Expr} {tl th : TO} {pos p2 : Pos}

theorem po_none : PO X none tNoPart := by
  intro pins s σ H Q I h
  rw [evalPart_none]
  exact wpAny_pure ⟨none, H, I, .none, h⟩
theorem po_some (h : PE X e te) : PO X (some e) (tPart te) := by
  intro pins s σ H Q I hw
  rw [evalPart_some]
  refine thn (h pins s σ H _ I hw) fun u s1 ⟨x, H1, I1, r1, q1⟩ => ?_
  obtain ⟨i, rfl, q⟩ := q1
  obtain ⟨t, rfl⟩ := r1
  exact ⟨some i, H1, I1, .int i t, q⟩

/-- what a slice of a value is, by values: the slice object stands at sl -/
def SlR (X : Cx) (r : V → Option Int → Option Int → Hp → VK → Prop) : Prop :=
  ∀ (pins : List (Addr × Obj)) (s : Shared) (σ : St) (H : Hp) (x : V) (v vl vu : Value) (lo hi : Option Int) (sl : Addr) (Q : VK), Inv X pins σ H s → RelV x v → s.heap.IsSliceOf sl vl vu .none → IsPart vl lo → IsPart vu hi → r x lo hi H Q →
    ∃ T id, typeLookup (.type T) "__getitem__" = pure (some (.builtin id)) ∧ s.TypeIs v T ∧ wpAny (model X.prog X.w) X.A (getItem v (.ref sl)) (EP X pins σ Q) X.xe s
theorem SlR.or {r r' : V → Option Int → Option Int → Hp → VK → Prop} (h : SlR X r) (h' : SlR X r') : SlR X (fun x lo hi H Q => r x lo hi H Q ∨ r' x lo hi H Q) := by
  intro pins s σ H x v vl vu lo hi sl Q I rx hs pl pu q
  rcases q with q | q
  · exact h pins s σ H x v vl vu lo hi sl Q I rx hs pl pu q
  · exact h' pins s σ H x v vl vu lo hi sl Q I rx hs pl pu q
def tSl (r : V → Option Int → Option Int → Hp → VK → Prop) (te : TE) (tl th : TO) : TE := fun σ H Q => te σ H fun x H1 => tl σ H1 fun l H2 => th σ H2 fun u H3 => r x l u H3 Q
/-- a[lo:hi], any a -/
theorem pe_slice {r : V → Option Int → Option Int → Hp → VK → Prop} (hr : SlR X r) (he : PE X e te) (hl : PO X lo tl) (hu : PO X hi th) : PE X (.Subscript e (.Slice lo hi none p2) pos) (tSl r te tl th) := by
  intro pins s σ H Q I h
  refine Subscript_ (thn (he pins s σ H _ I h) fun v s1 ⟨x, H1, I1, r1, q1⟩ => ?_)
  refine wpAny_Slice (thn (hl pins s1 σ H1 _ I1 q1) fun vl s2 ⟨l, H2, I2, pl, q2⟩ => thn (hu pins s2 σ H2 _ I2 q2) fun vu s3 ⟨u, H3, I3, pu, q3⟩ => ?_)
  rw [evalPart_none]
  refine wpAny_pure ?_
  have I4 : Inv X pins σ H3 { s3 with heap := s3.heap.push { cls := .type "slice", data := .fields #[vl, vu, .none] } } := I3.kept (t' := s3.toks) fun b ob q => Heap.get?_push_of_some _ q
  obtain ⟨T, id, hT, ht, hg⟩ := hr pins { s3 with heap := s3.heap.push { cls := .type "slice", data := .fields #[vl, vu, .none] } } σ H3 x v vl vu l u s3.heap.objs.size Q I4 r1 (Heap.IsSliceOf.new ..) pl pu q3
  show wpAny (model X.prog X.w) X.A (subscriptTail e (.Slice lo hi none p2) v (.ref s3.heap.objs.size)) (EP X pins σ Q) X.xe { s3 with heap := s3.heap.push { cls := .type "slice", data := .fields #[vl, vu, .none] } }
  exact tail_any (ops := [.ref s3.heap.objs.size, v]) ht hT hg (by with_unfolding_all rfl)

/-- the items of xs[lo:hi] -/
def cutV (xs : List V) (lo hi : Option Int) : List V := (xs.drop (HT.sIx xs.length 0 lo)).take (HT.sIx xs.length xs.length hi - HT.sIx xs.length 0 lo)
theorem cutV_length (xs : List V) (lo hi : Option Int) : (cutV xs lo hi).length ≤ xs.length := by
  unfold cutV
  rw [List.length_take, List.length_drop]
  omega
/-- t[lo:hi], not the whole of it (the whole would be t itself) -/
def rSlT (K : PySem.W.Frag) : V → Option Int → Option Int → Hp → VK → Prop := fun x lo hi H Q => ∃ a xs, x = .ref a ∧ SqT K H a xs ∧
  ¬ (HT.sIx xs.length 0 lo = 0 ∧ HT.sIx xs.length xs.length hi = xs.length) ∧ ∀ p, H p = none → Q (.ref p) (upd H p (.tup (cutV xs lo hi)))
theorem sl_tup : SlR X (rSlT X.K) := by
  intro pins s σ H x v vl vu lo hi sl Q I rx hs pl pu h
  obtain ⟨a, xs, rfl, hx, hw, q⟩ := h
  cases rx
  obtain ⟨its, r, ht, hz⟩ := I.tuple hx
  have hlen : its.toArray.size = xs.length := by rw [List.size_toArray]; exact r.length.symm
  refine ⟨"tuple", _, PyProof.Rows.slot_tuple_getitem.lookup, ht.typeIs, ?_⟩
  refine HT.getItem_tuple_cut ht hs pl pu (by rw [hlen]; exact hw) ?_ (by rw [hlen]; exact hz)
  rw [hlen]
  refine ⟨.ref s.heap.objs.size, _, I.laid (t' := s.toks) (o := .tup (cutV xs lo hi)) (fun b ob q => Heap.get?_push_of_some _ q) (Nat.le_refl _) ?_, rfl, q _ (I.hok.fresh (Nat.le_refl _))⟩
  exact ⟨Nat.le_trans (cutV_length xs lo hi) hz, _, (r.drop (HT.sIx xs.length 0 lo)).take (HT.sIx xs.length xs.length hi - HT.sIx xs.length 0 lo), IsTup.new _ _⟩

/-! ### t < u, t + u -/
def rLtT (K : PySem.W.Frag) : R2 := fun x y H Q => ∃ a b ns ms, x = .ref a ∧ y = .ref b ∧ SqT K H a (ns.map V.int) ∧ SqT K H b (ms.map V.int) ∧ Q (.bl (HT.lexLt ns ms)) H
theorem op_ltT (hu : X.A.units < cLine) : OpR X (compareOp .Lt) (rLtT X.K) := by
  intro pins s σ H x y v u Q I rx ry h
  obtain ⟨a, b, ns, ms, rfl, rfl, ha, hb, q⟩ := h
  cases rx
  cases ry
  obtain ⟨its, r1, p1, _⟩ := I.tuple ha
  obtain ⟨its2, r2, p2, _⟩ := I.tuple hb
  have i1 : IntsAre its.toArray.toList ns := intsAre_of r1
  have i2 : IntsAre its2.toArray.toList ms := intsAre_of r2
  exact HT.lt_tupInts p1 p2 i1 i2 hu ⟨.bl (HT.lexLt ns ms), H, I, rfl, q⟩
/-- t + u, t not empty: u empty gives t itself -/
def rCatT (K : PySem.W.Frag) : R2 := fun x y H Q => ∃ a b xs ys, x = .ref a ∧ y = .ref b ∧ SqT K H a xs ∧ SqT K H b ys ∧ xs ≠ [] ∧ xs.length + ys.length ≤ sizeLine ∧
  (ys = [] → Q (.ref a) H) ∧ (ys ≠ [] → ∀ p, H p = none → Q (.ref p) (upd H p (.tup (xs ++ ys))))
theorem Vals.nil_iff {xs : List V} {us : List Value} (r : Vals xs us) : us = [] ↔ xs = [] := by
  cases r with
  | nil => simp
  | cons _ _ => simp
theorem op_catT : OpR X (binaryOp .Add) (rCatT X.K) := by
  intro pins s σ H x y v u Q I rx ry h
  obtain ⟨a, b, xs, ys, rfl, rfl, ha, hb, hx, hz, q1, q2⟩ := h
  cases rx
  cases ry
  obtain ⟨its, r1, p1, _⟩ := I.tuple ha
  obtain ⟨its2, r2, p2, _⟩ := I.tuple hb
  refine HT.cat_tup p1 p2 (fun z => hx (r1.nil_iff.mp z)) (fun z => ⟨.ref a, H, I, rfl, q1 (r2.nil_iff.mp z)⟩) (fun z => ?_) (by rw [← r1.length, ← r2.length]; exact hz)
  refine ⟨.ref s.heap.objs.size, _, I.laid (t' := s.toks) (o := .tup (xs ++ ys)) (fun b ob q => Heap.get?_push_of_some _ q) (Nat.le_refl _) ?_, rfl, q2 (fun w => z (r2.nil_iff.mpr w)) _ (I.hok.fresh (Nat.le_refl _))⟩
  exact ⟨by rw [List.length_append]; exact hz, _, r1.append r2, IsTup.new _ _⟩
/-- tuple(t) -/
theorem call_tupleT : CallR X (.type "tuple") (fun xs H Q => ∃ a ys, xs = [.ref a] ∧ SqT X.K H a ys ∧ Q (.ref a) H) := by
  intro pins s σ H xs us Q I r h
  obtain ⟨a, ys, rfl, ha, q⟩ := h
  obtain ⟨u, rfl, ru⟩ := vals1 r
  cases ru
  obtain ⟨its, _, p1, _⟩ := I.tuple ha
  exact call_tuple_same (items := its.toArray) p1 ⟨.ref a, H, I, rfl, q⟩
end
end L2

namespace L2
open PySem PySem.Spec PyProof.Rows

/-! ### places -/
/-- the place that an index of any sign means -/
def ixN (n : Nat) (i : Int) : Option Nat := if 0 ≤ i then (if i < n then some i.toNat else none) else if -(n : Int) ≤ i then some (i + n).toNat else none
def atI {α : Type} (xs : List α) (i : Int) : Option α := (ixN xs.length i).bind fun j => xs[j]?
theorem ixN_seq {n : Nat} {i : Int} {j : Nat} (h : ixN n i = some j) : seqIndex? i n = some j ∧ j < n ∧ -(n : Int) ≤ i ∧ i < n := by
  unfold ixN at h
  by_cases h0 : 0 ≤ i
  · rw [if_pos h0] at h
    by_cases h1 : i < n
    · rw [if_pos h1] at h
      have e : i.toNat = j := Option.some.inj h
      exact ⟨by rw [seqIndex_of h0 h1, e], by omega, by omega, h1⟩
    · rw [if_neg h1] at h; cases h
  · rw [if_neg h0] at h
    by_cases h1 : -(n : Int) ≤ i
    · rw [if_pos h1] at h
      have e : (i + n).toNat = j := Option.some.inj h
      exact ⟨by rw [seqIndex_neg (by omega) h1, e], by omega, h1, by omega⟩
    · rw [if_neg h1] at h; cases h
theorem atI_get {α : Type} {xs : List α} {i : Int} {v : α} (h : atI xs i = some v) : ∃ j, seqIndex? i xs.length = some j ∧ xs[j]? = some v ∧ j < xs.length ∧ -(xs.length : Int) ≤ i ∧ i < xs.length := by
  unfold atI at h
  cases e : ixN xs.length i with
  | none => rw [e] at h; cases h
  | some j =>
    rw [e] at h
    obtain ⟨h1, h2, h3, h4⟩ := ixN_seq e
    exact ⟨j, h1, h, h2, h3, h4⟩
theorem atI_nat {α : Type} {xs : List α} {j : Nat} {v : α} (h : xs[j]? = some v) : atI xs (j : Int) = some v := by
  have hj : j < xs.length := (List.getElem?_eq_some_iff.mp h).1
  have e : ixN xs.length (j : Int) = some j := by
    unfold ixN
    rw [if_pos (by omega), if_pos (by omega)]; simp
  unfold atI; rw [e]; exact h
theorem atI_last {α : Type} (xs : List α) (v : α) : atI (xs ++ [v]) (-1) = some v := by
  have hl : (xs ++ [v]).length = xs.length + 1 := by simp
  have e : ixN (xs ++ [v]).length (-1) = some xs.length := by
    unfold ixN
    rw [hl, if_neg (by decide), if_pos (by omega)]
    congr 1
    omega
  unfold atI
  rw [e]
  show (xs ++ [v])[xs.length]? = some v
  simp

/-! ### what may be subscripted -/
/-- what stands as an index of a plain subscript -/
def PlainIx (b : Expr) : Prop := ∀ o i, subscripted b false o i = operate [o, i] (getItem o i)
/-- a subscript by values -/
def IxR (X : Cx) (r : R2) : Prop :=
  ∀ (value slice : Expr) (pins : List (Addr × Obj)) (s : Shared) (σ : St) (H : Hp) (x y : V) (v u : Value) (Q : VK), Inv X pins σ H s → RelV x v → RelV y u → r x y H Q →
    subscripted slice false v u = operate [v, u] (getItem v u) → wpAny (model X.prog X.w) X.A (subscriptTail value slice v u) (EP X pins σ Q) X.xe s
/-- a call of a builtin's method by values: the receiver, the arguments -/
def MtR (X : Cx) (id : String) (r : V → List V → Hp → VK → Prop) : Prop :=
  ∀ (pins : List (Addr × Obj)) (s : Shared) (σ : St) (H : Hp) (x : V) (xs : List V) (v : Value) (us : List Value) (Q : VK), Inv X pins σ H s → RelV x v → Vals xs us → r x xs H Q →
    wpAny (model X.prog X.w) X.A (call (.builtin id) (v :: us)) (EP X pins σ Q) X.xe s
section
variable {X : Cx} {a b : Expr} {ta tb : TE} {pos : Pos}
theorem IxR.or {r r' : R2} (h : IxR X r) (h' : IxR X r') : IxR X (fun x y H Q => r x y H Q ∨ r' x y H Q) := by
  intro value slice pins s σ H x y v u Q I rx ry q hs
  rcases q with q | q
  · exact h value slice pins s σ H x y v u Q I rx ry q hs
  · exact h' value slice pins s σ H x y v u Q I rx ry q hs
theorem MtR.or {id : String} {r r' : V → List V → Hp → VK → Prop} (h : MtR X id r) (h' : MtR X id r') : MtR X id (fun x xs H Q => r x xs H Q ∨ r' x xs H Q) := by
  intro pins s σ H x xs v us Q I rx rs q
  rcases q with q | q
  · exact h pins s σ H x xs v us Q I rx rs q
  · exact h' pins s σ H x xs v us Q I rx rs q
/-- a[b] -/
theorem pe_ix {r : R2} (hr : IxR X r) (ha : PE X a ta) (hb : PE X b tb) (hs : PlainIx b) : PE X (.Subscript a b pos) (tOp r ta tb) := by
  intro pins s σ H Q I h
  exact Subscript_ (binT ha hb I h fun v u s2 x y H2 I2 rx ry q => hr a b pins s2 σ H2 x y v u Q I2 rx ry q (hs _ _))

def rIxL (K : PySem.W.Frag) : R2 := fun x y H Q => ∃ p xs i v, x = .ref p ∧ y = .int i ∧ SqL K H p xs ∧ atI xs i = some v ∧ Q v H
def rIxT (K : PySem.W.Frag) : R2 := fun x y H Q => ∃ p xs i v, x = .ref p ∧ y = .int i ∧ SqT K H p xs ∧ atI xs i = some v ∧ Q v H
def rIxS : R2 := fun x y H Q => ∃ z i c, x = .str z ∧ y = .int i ∧ z.length ≤ sizeLine ∧ atI z.cps.toList i = some c ∧ Q (.str ⟨#[c]⟩) H
theorem ix_list : IxR X (rIxL X.K) := by
  intro value slice pins s σ H x y v u Q I rx ry h hs
  obtain ⟨p, xs, i, z, rfl, rfl, hq, he, q⟩ := h
  cases rx
  obtain ⟨t, rfl⟩ := ry
  obtain ⟨its, r, pl, hz⟩ := I.list hq
  obtain ⟨j, h1, h2, h3, h4, h5⟩ := atI_get he
  obtain ⟨w, ew, rw'⟩ := r.get h2
  have hl := r.length
  have hn := line63
  have fin : EP X pins σ Q w s := ⟨z, H, I, rw', q⟩
  by_cases h0 : 0 ≤ i
  · have hj : i.toNat = j := by
      rw [seqIndex_of h0 h5] at h1
      exact Option.some.inj h1
    exact item_listR pl.isList h0 (by omega) (by rw [hj]; simpa using ew) fin hs
  · have hj : (i + (its.toArray.size : Int)).toNat = j := by
      rw [seqIndex_neg (by omega) h4] at h1
      rw [List.size_toArray, ← hl]
      exact Option.some.inj h1
    exact subscriptTail_builtinR (x := w) pl.isList.typeIs slot_list_getitem.lookup
      (wpAny_getItem_list_neg (Q := fun r s' => r = w ∧ EP X pins σ Q r s') pl.isList (by omega) (by rw [List.size_toArray] <;> omega) (by omega) (by rw [hj]; simpa using ew) ⟨rfl, fin⟩) hs
theorem ix_tup : IxR X (rIxT X.K) := by
  intro value slice pins s σ H x y v u Q I rx ry h hs
  obtain ⟨p, xs, i, z, rfl, rfl, hq, he, q⟩ := h
  cases rx
  obtain ⟨t, rfl⟩ := ry
  obtain ⟨its, r, pl, hz⟩ := I.tuple hq
  obtain ⟨j, h1, h2, h3, h4, h5⟩ := atI_get he
  obtain ⟨w, ew, rw'⟩ := r.get h2
  have hl := r.length
  have hn := line63
  have fin : EP X pins σ Q w s := ⟨z, H, I, rw', q⟩
  exact subscriptTail_builtinR (x := w) pl.typeIs slot_tuple_getitem.lookup
    (getItem_tuple (j := j) (Q := fun r s' => r = w ∧ EP X pins σ Q r s') pl (by omega) (by omega) (by rw [List.size_toArray, ← hl]; exact h1) (by simpa using ew) ⟨rfl, fin⟩) hs
theorem ix_str : IxR X rIxS := by
  intro value slice pins s σ H x y v u Q I rx ry h hs
  obtain ⟨z, i, c, rfl, rfl, hz, he, q⟩ := h
  obtain ⟨t, rfl⟩ := rx
  obtain ⟨t', rfl⟩ := ry
  obtain ⟨j, h1, h2, h3, h4, h5⟩ := atI_get he
  have hl : z.cps.toList.length = z.length := by simp [Str.length]
  rw [hl] at h1 h4 h5
  have hn := line63
  exact tail_any (typeIs_str s z t) slot_str_getitem.lookup (getItem_str (c := c) (by
    have e1 : decide (i < -(2 ^ 63 : Int)) = false := decide_eq_false (by omega)
    have e2 : decide (i ≥ 2 ^ 63) = false := decide_eq_false (by omega)
    rw [e1, e2, Bool.or_false]) (by rw [h1]; simpa using h2) ⟨.str ⟨#[c]⟩, H, I.tok _, ⟨_, rfl⟩, q⟩) hs
/-- list, tuple or str -/
def rIx (K : PySem.W.Frag) : R2 := fun x y H Q => rIxL K x y H Q ∨ rIxT K x y H Q ∨ rIxS x y H Q
theorem ix_seq : IxR X (rIx X.K) := ix_list.or (ix_tup.or ix_str)

/-! ### xs[i] = v, any sign -/
/-- the list's object behind a store -/
theorem mapSeq_set (its : List Value) (n j : Nat) (u : Value) : Obj.mapSeq (·.setIfInBounds j u) { cls := .type "list", data := .seq its.toArray n } = { cls := .type "list", data := .seq (its.set j u).toArray n } := by
  simp [Obj.mapSeq]
theorem Inv.lst {pins : List (Addr × Obj)} {σ : St} {H : Hp} {s : Shared} {p : Addr} {xs : List V} (I : Inv X pins σ H s) (h : H p = some (.lst xs)) :
    ∃ (its : List Value) (n : Nat), Vals xs its ∧ s.heap.get? p = some { cls := .type "list", data := .seq its.toArray n } ∧ xs.length ≤ sizeLine := by
  obtain ⟨z, its, n, r, e⟩ := I.hok p _ h
  exact ⟨its, n, r, e, z⟩
/-- the list at p is written by an update of its object -/
theorem Inv.lstUpd {pins : List (Addr × Obj)} {σ : St} {H : Hp} {s : Shared} {p : Addr} {xs ys : List V} {its its' : List Value} {n n' : Nat} {f : Obj → Obj} (I : Inv X pins σ H s) (h : H p = some (.lst xs))
    (ho : s.heap.get? p = some { cls := .type "list", data := .seq its.toArray n }) (hf : f { cls := .type "list", data := .seq its.toArray n } = { cls := .type "list", data := .seq its'.toArray n' }) (r : Vals ys its') (hz : ys.length ≤ sizeLine) (t : Nat) :
    Inv X pins σ (upd H p (.lst ys)) { s with heap := s.heap.update p f, toks := t } := by
  have e : (s.heap.update p f).get? p = some { cls := .type "list", data := .seq its'.toArray n' } := by
    rw [Heap.get?_update_self f ho (by rw [hf] <;> rfl), hf]
  refine I.write (x := p) (e := p) (by rw [h]; trivial) (.inl rfl) (fun b u hb q => (Heap.get?_update_other _ _ (Ne.symm hb)).trans q) ⟨_, e⟩ ?_
  exact ⟨hz, its', n', r, e⟩
def rSetL : V → V → V → Hp → (Hp → Prop) → Prop := fun o i v H Q => ∃ p xs k j, o = .ref p ∧ i = .int k ∧ H p = some (.lst xs) ∧ ixN xs.length k = some j ∧ Q (upd H p (.lst (xs.set j v)))
theorem set_list : PSet X rSetL := by
  intro pins s σ H o i v ov iv u Q I ro ri rv h
  obtain ⟨p, xs, k, j, rfl, rfl, hp, hj, q⟩ := h
  cases ro
  obtain ⟨t, rfl⟩ := ri
  obtain ⟨its, n, r, ho, hz⟩ := I.lst hp
  obtain ⟨h1, h2, h3, h4⟩ := ixN_seq hj
  have hl := r.length
  have hn := line63
  have I' : Inv X pins σ (upd H p (.lst (xs.set j v))) { s with heap := s.heap.update p (Obj.mapSeq (·.setIfInBounds j u)) } :=
    I.lstUpd hp ho (mapSeq_set its n j u) (r.set rv j) (by rw [List.length_set]; exact hz) s.toks
  by_cases h0 : 0 ≤ k
  · have hk : k.toNat = j := by
      rw [seqIndex_of h0 h4] at h1
      exact Option.some.inj h1
    exact PySem.W.ki_setAt ho h0 (by omega) (by rw [List.size_toArray, ← hl]; exact h4) (by rw [hk]; exact ⟨_, I', q⟩)
  · have hk : (k + (its.toArray.size : Int)).toNat = j := by
      rw [seqIndex_neg (by omega) h3] at h1
      rw [List.size_toArray, ← hl]
      exact Option.some.inj h1
    exact PySem.W.ki_setBack ho (by omega) (by rw [List.size_toArray, ← hl]; exact h3) (by omega) (by rw [hk]; exact ⟨_, I', q⟩)

/-! ### slices -/
theorem slice_bounds (lo hi : Option Int) (n : Nat) : (sliceBounds lo hi none n).1 = ((HT.sIx n 0 lo : Nat) : Int) ∧ (sliceBounds lo hi none n).2.1 = ((HT.sIx n n hi : Nat) : Int) ∧ (sliceBounds lo hi none n).2.2 = 1 := by
  refine ⟨?_, ?_, rfl⟩
  · cases lo with
    | none => simp [sliceBounds, HT.sIx]
    | some i =>
      simp only [sliceBounds, HT.sIx, Option.getD_none, show (1 : Int) > 0 by decide, if_true]
      by_cases h : i < 0
      · simp only [h, if_true] <;> omega
      · simp only [h, if_false] <;> omega
  · cases hi with
    | none => simp [sliceBounds, HT.sIx]
    | some i =>
      simp only [sliceBounds, HT.sIx, Option.getD_none, show (1 : Int) > 0 by decide, if_true]
      by_cases h : i < 0
      · simp only [h, if_true] <;> omega
      · simp only [h, if_false] <;> omega
theorem slicePick_cut (its : List Value) (lo hi : Option Int) : slicePick its.toArray lo hi none = ((its.drop (HT.sIx its.length 0 lo)).take (HT.sIx its.length its.length hi - HT.sIx its.length 0 lo)).toArray := by
  obtain ⟨h1, h2, h3⟩ := slice_bounds lo hi its.toArray.size
  unfold slicePick
  rw [h1, h2, h3]
  simp only [sliceRange_one, pick_run, List.size_toArray] <;> rfl
/-- xs[lo:hi] of a list: a new list -/
def rSlL (K : PySem.W.Frag) : V → Option Int → Option Int → Hp → VK → Prop := fun x lo hi H Q => ∃ a xs, x = .ref a ∧ SqL K H a xs ∧ ∀ p, H p = none → Q (.ref p) (upd H p (.lst (cutV xs lo hi)))
theorem sl_list : SlR X (rSlL X.K) := by
  intro pins s σ H x v vl vu lo hi sl Q I rx hs pl pu h
  obtain ⟨a, xs, rfl, hx, q⟩ := h
  cases rx
  obtain ⟨its, r, ht, hz⟩ := I.list hx
  have hlen := r.length
  refine ⟨"list", _, slot_list_getitem.lookup, ht.isList.typeIs, ?_⟩
  refine wpAny_getItem_list_slice ht.isList hs pl pu .none (by simp) ?_ (by rw [List.size_toArray] <;> omega)
  rw [slicePick_cut, ← hlen]
  refine ⟨.ref s.heap.objs.size, _, I.laid (t' := s.toks) (o := .lst (cutV xs lo hi)) (fun b ob q => Heap.get?_push_of_some _ q) (Nat.le_refl _) ?_, rfl, q _ (I.hok.fresh (Nat.le_refl _))⟩
  exact ⟨Nat.le_trans (cutV_length xs lo hi) hz, _, 0, (r.drop (HT.sIx xs.length 0 lo)).take (HT.sIx xs.length xs.length hi - HT.sIx xs.length 0 lo), Heap.get?_push_size _ rfl⟩

/-! ### in, not in: flat items -/
def flatV : V → Bool
  | .non => true
  | .bl _ => true
  | .int _ => true
  | .str _ => true
  | _ => false
/-- == of flat values -/
def eqV : V → V → Bool
  | .non, .non => true
  | .bl a, .bl b => a == b
  | .bl a, .int b => (if a then 1 else 0) == b
  | .int a, .bl b => a == (if b then 1 else 0)
  | .int a, .int b => a == b
  | .str a, .str b => a == b
  | _, _ => false
theorem eqAt_V {A : Around} {s : Shared} {y x : V} {u v : Value} (ry : RelV y u) (rx : RelV x v) (fy : flatV y = true) (fx : flatV x = true) : SeqAt.EqAt A s u v (eqV y x) := by
  cases y with
  | non =>
    cases ry
    cases x with
    | non => cases rx; exact SeqAt.EqAt.same _
    | bl b => cases rx; exact SeqAt.EqAt.none_bool b
    | int b => obtain ⟨t, rfl⟩ := rx; exact SeqAt.EqAt.none_int b t
    | str b => obtain ⟨t, rfl⟩ := rx; exact SeqAt.EqAt.none_str b t
    | _ => exact absurd (show false = true from fx) Bool.false_ne_true
  | bl a =>
    cases ry
    cases x with
    | non => cases rx; exact SeqAt.EqAt.bool_none a
    | bl b => cases rx; exact SeqAt.EqAt.bool_bool a b
    | int b => obtain ⟨t, rfl⟩ := rx; exact SeqAt.EqAt.bool_int a b t
    | str b => obtain ⟨t, rfl⟩ := rx; exact SeqAt.EqAt.bool_str a b t
    | _ => exact absurd (show false = true from fx) Bool.false_ne_true
  | int a =>
    obtain ⟨t', rfl⟩ := ry
    cases x with
    | non => cases rx; exact SeqAt.EqAt.int_none a t'
    | bl b => cases rx; exact SeqAt.EqAt.int_bool a t' b
    | int b => obtain ⟨t, rfl⟩ := rx; exact SeqAt.EqAt.int_int a t' b t
    | str b => obtain ⟨t, rfl⟩ := rx; exact SeqAt.EqAt.int_str a t' b t
    | _ => exact absurd (show false = true from fx) Bool.false_ne_true
  | str a =>
    obtain ⟨t', rfl⟩ := ry
    cases x with
    | non => cases rx; exact SeqAt.EqAt.str_none a t'
    | bl b => cases rx; exact SeqAt.EqAt.str_bool a t' b
    | int b => obtain ⟨t, rfl⟩ := rx; exact SeqAt.EqAt.str_int a t' b t
    | str b => obtain ⟨t, rfl⟩ := rx; exact SeqAt.EqAt.str_str a t' b t
    | _ => exact absurd (show false = true from fx) Bool.false_ne_true
  | _ => exact absurd (show false = true from fy) Bool.false_ne_true
/-- the items' answers, read off the values (a value's own answer does not lean on its token) -/
def eqU (x : V) (u : Value) : Bool := match u with
  | .none => eqV .non x
  | .bool b => eqV (.bl b) x
  | .int i _ => eqV (.int i) x
  | .str z _ => eqV (.str z) x
  | _ => false
theorem eqU_of {x y : V} {u : Value} (r : RelV y u) (f : flatV y = true) : eqU x u = eqV y x := by
  cases y with
  | non => cases r; rfl
  | bl b => cases r; rfl
  | int i => obtain ⟨t, rfl⟩ := r; rfl
  | str z => obtain ⟨t, rfl⟩ := r; rfl
  | _ => exact absurd (show false = true from f) Bool.false_ne_true
theorem any_eqU {x : V} : ∀ {xs : List V} {us : List Value}, Vals xs us → xs.all flatV = true → us.any (eqU x) = xs.any fun y => eqV y x
  | _, _, .nil, _ => rfl
  | y :: xs, u :: us, .cons r t, f => by
    rw [List.all_cons, Bool.and_eq_true] at f
    rw [List.any_cons, List.any_cons, eqU_of r f.1, any_eqU t f.2]
theorem mem_eqAt {A : Around} {s : Shared} {x : V} {v : Value} (rx : RelV x v) (fx : flatV x = true) : ∀ {xs : List V} {us : List Value}, Vals xs us → xs.all flatV = true → ∀ u ∈ us, SeqAt.EqAt A s u v (eqU x u)
  | _, _, .nil, _ => fun u hu => by cases hu
  | y :: xs, u :: us, .cons r t, f => fun u' hu => by
    rw [List.all_cons, Bool.and_eq_true] at f
    rcases List.mem_cons.mp hu with rfl | hu
    · rw [eqU_of r f.1]; exact eqAt_V r rx f.1 fx
    · exact mem_eqAt rx fx t f.2 u' hu
def inV (x : V) (xs : List V) : Bool := xs.any fun y => eqV y x
/-- x in a list or tuple of flat items -/
def rIn (K : PySem.W.Frag) (neg : Bool) : R2 := fun x y H Q => ∃ p xs, y = .ref p ∧ (SqL K H p xs ∨ SqT K H p xs) ∧ flatV x = true ∧ xs.all flatV = true ∧ Q (.bl (if neg then !inV x xs else inV x xs)) H
theorem op_in_seq : OpR X (compareOp .In) (rIn X.K false) := by
  intro pins s σ H x y v u Q I rx ry h
  obtain ⟨p, xs, rfl, hq, fx, fs, q⟩ := h
  cases ry
  rcases hq with hq | hq
  · obtain ⟨its, r, pl, hz⟩ := I.list hq
    refine SeqAt.in_listAt (eqU x) pl.isList (fun w hw => mem_eqAt rx fx r fs w (by simpa using hw)) ⟨.bl _, H, I, rfl, ?_⟩
    rw [show its.toArray.any (eqU x) = its.any (eqU x) by simp, any_eqU r fs]
    exact q
  · obtain ⟨its, r, pl, hz⟩ := I.tuple hq
    refine SeqAt.in_tupleAt (eqU x) pl (fun w hw => mem_eqAt rx fx r fs w (by simpa using hw)) ⟨.bl _, H, I, rfl, ?_⟩
    rw [show its.toArray.any (eqU x) = its.any (eqU x) by simp, any_eqU r fs]
    exact q
theorem op_notIn_seq : OpR X (compareOp .NotIn) (rIn X.K true) := by
  intro pins s σ H x y v u Q I rx ry h
  obtain ⟨p, xs, rfl, hq, fx, fs, q⟩ := h
  cases ry
  rcases hq with hq | hq
  · obtain ⟨its, r, pl, hz⟩ := I.list hq
    refine SeqAt.notIn_listAt (eqU x) pl.isList (fun w hw => mem_eqAt rx fx r fs w (by simpa using hw)) ⟨.bl _, H, I, rfl, ?_⟩
    rw [show its.toArray.any (eqU x) = its.any (eqU x) by simp, any_eqU r fs]
    exact q
  · obtain ⟨its, r, pl, hz⟩ := I.tuple hq
    refine SeqAt.notIn_tupleAt (eqU x) pl (fun w hw => mem_eqAt rx fx r fs w (by simpa using hw)) ⟨.bl _, H, I, rfl, ?_⟩
    rw [show its.toArray.any (eqU x) = its.any (eqU x) by simp, any_eqU r fs]
    exact q
theorem op_notIn_str : OpR X (compareOp .NotIn) (fun x y H Q => ∃ i j, x = .str i ∧ y = .str j ∧ Q (.bl (!(!(Builtin.Str.occurrences j i 0 j.length 1).isEmpty))) H) := by
  intro pins s σ H x y v u Q I rx ry h
  obtain ⟨i, j, rfl, rfl, q⟩ := h
  obtain ⟨t, rfl⟩ := rx
  obtain ⟨t', rfl⟩ := ry
  exact notIn_str ⟨.bl _, H, I, rfl, q⟩

/-! ### len, list(x), tuple(x) of any list or tuple that is read -/
theorem call_len_seq : CallR X (.builtin "len") (fun xs H Q => ∃ p ys, xs = [.ref p] ∧ (SqL X.K H p ys ∨ SqT X.K H p ys) ∧ Q (.int ys.length) H) := by
  intro pins s σ H xs us Q I r h
  obtain ⟨p, ys, rfl, hq, q⟩ := h
  obtain ⟨u, rfl, rx⟩ := vals1 r
  cases rx
  have hn := line63
  rcases hq with hq | hq
  · obtain ⟨its, r', pl, hz⟩ := I.list hq
    have hlen := r'.length
    exact Calls.call_len_list pl.isList (by simp only [List.size_toArray] <;> omega) ⟨.int ys.length, H, I.tok _, ⟨s.toks + 1, by rw [List.size_toArray, hlen]⟩, q⟩
  · obtain ⟨its, r', pl, hz⟩ := I.tuple hq
    have hlen := r'.length
    exact len_tuple pl (by simp only [List.size_toArray] <;> omega) ⟨.int ys.length, H, I.tok _, ⟨s.toks + 1, by rw [List.size_toArray, hlen]⟩, q⟩
theorem call_len_str : CallR X (.builtin "len") (fun xs H Q => ∃ z, xs = [.str z] ∧ z.length ≤ sizeLine ∧ Q (.int z.length) H) := by
  intro pins s σ H xs us Q I r h
  obtain ⟨z, rfl, hz, q⟩ := h
  obtain ⟨u, rfl, t, rfl⟩ := vals1 r
  have hn := line63
  exact len_str (by omega) ⟨.int z.length, H, I.tok _, ⟨_, rfl⟩, q⟩
theorem CallR.or {f : Value} {r r' : List V → Hp → VK → Prop} (h : CallR X f r) (h' : CallR X f r') : CallR X f (fun xs H Q => r xs H Q ∨ r' xs H Q) := by
  intro pins s σ H xs us Q I rs q
  rcases q with q | q
  · exact h pins s σ H xs us Q I rs q
  · exact h' pins s σ H xs us Q I rs q
theorem call_list_of : CallR X (.type "list") (fun xs H Q => ∃ p ys, xs = [.ref p] ∧ (SqL X.K H p ys ∨ SqT X.K H p ys) ∧ ∀ l, H l = none → Q (.ref l) (upd H l (.lst ys))) := by
  intro pins s σ H xs us Q I r h
  obtain ⟨p, ys, rfl, hq, q⟩ := h
  obtain ⟨u, rfl, rx⟩ := vals1 r
  cases rx
  have fin : ∀ (its : List Value), Vals ys its → ys.length ≤ sizeLine → ∀ (h' : Heap) (c' : Nat), (∀ b o', s.heap.get? b = some o' → h'.get? b = some o') →
      h'.get? s.heap.objs.size = some { cls := .type "list", dict := none, data := .seq its.toArray c', slots := #[] } → EP X pins σ Q (.ref s.heap.objs.size) { s with heap := h' } := fun its r' hz h' c' kp e =>
    ⟨.ref s.heap.objs.size, _, I.laid (t' := s.toks) kp (Nat.le_refl _) (show ObjOk X.prog X.w _ h' _ (.lst ys) from ⟨hz, its, c', r', e⟩), rfl, q _ (I.hok.fresh (Nat.le_refl _))⟩
  rcases hq with hq | hq
  · obtain ⟨its, r', pl, hz⟩ := I.list hq
    have hlen := r'.length
    obtain ⟨o, ho, hc, n, hd⟩ := pl.isList
    exact call_list_seq p (.inl rfl) ho hc hd (fun h' c' kp e => fin its r' hz h' c' kp e) (by simp only [List.size_toArray] <;> omega)
  · obtain ⟨its, r', pl, hz⟩ := I.tuple hq
    have hlen := r'.length
    obtain ⟨o, ho, hc, n, hd⟩ := pl
    exact call_list_seq p (.inr rfl) ho hc hd (fun h' c' kp e => fin its r' hz h' c' kp e) (by simp only [List.size_toArray] <;> omega)
theorem call_tuple_of : CallR X (.type "tuple") (fun xs H Q => ∃ p ys, xs = [.ref p] ∧ ((SqL X.K H p ys ∧ ∀ l, H l = none → Q (.ref l) (upd H l (.tup ys))) ∨ (SqT X.K H p ys ∧ Q (.ref p) H))) := by
  intro pins s σ H xs us Q I r h
  obtain ⟨p, ys, rfl, h⟩ := h
  obtain ⟨u, rfl, rx⟩ := vals1 r
  cases rx
  rcases h with ⟨hq, q⟩ | ⟨hq, q⟩
  · obtain ⟨its, r', pl, hz⟩ := I.list hq
    have hlen := r'.length
    refine call_tuple_list pl.isList (fun h' kp => ?_) (by simp only [List.size_toArray] <;> omega)
    have I1 : Inv X pins σ H { s with heap := h' } := I.kept (t' := s.toks) kp
    have I2 : Inv X pins σ (upd H h'.objs.size (.tup ys)) { s with heap := h'.push { cls := .type "tuple", data := .seq its.toArray } } :=
      I1.laid (t' := s.toks) (fun b o e => Heap.get?_push_of_some _ e) (Nat.le_refl _) (show ObjOk X.prog X.w _ _ _ (.tup ys) from ⟨hz, its, r', IsTup.new _ _⟩)
    exact ⟨.ref h'.objs.size, _, I2, rfl, q _ (I1.hok.fresh (Nat.le_refl _))⟩
  · obtain ⟨its, r', pl, hz⟩ := I.tuple hq
    exact call_tuple_same pl ⟨.ref p, H, I, rfl, q⟩

/-! ### the call of a builtin's method: o.m(..) -/
/-- the value is of that builtin type -/
def tyV (K : PySem.W.Frag) (T : String) (x : V) (H : Hp) : Prop := match x with
  | .str _ => T = "str"
  | .int _ => T = "int"
  | .ref p => (T = "list" ∧ ∃ xs, SqL K H p xs) ∨ (T = "tuple" ∧ ∃ o, K.lookup p = some o ∧ o.cls = .type "tuple" ∧ o.dict = none) ∨
      (T = "dict" ∧ ((∃ kvs, H p = some (.dK kvs)) ∨ ∃ kvs, H p = some (.dT kvs))) ∨ (T = "set" ∧ ∃ S n, H p = some (.set S n))
  | _ => False
theorem tyV_is {pins : List (Addr × Obj)} {σ : St} {H : Hp} {s : Shared} {T : String} {x : V} {v : Value} (I : Inv X pins σ H s) (r : RelV x v) (ty : tyV X.K T x H) :
    s.TypeIs v T ∧ ∀ a, v = .ref a → ∃ ob, s.heap.get? a = some ob ∧ ob.dict = none := by
  cases x with
  | str z =>
    obtain ⟨t, rfl⟩ := r
    cases (show T = "str" from ty)
    exact ⟨typeIs_str s z t, fun _ e => nomatch e⟩
  | int i =>
    obtain ⟨t, rfl⟩ := r
    cases (show T = "int" from ty)
    exact ⟨typeIs_int s i t, fun _ e => nomatch e⟩
  | ref p =>
    cases r
    rcases ty with ⟨rfl, xs, hq⟩ | ⟨rfl, o, hk, hc, hd⟩ | ⟨rfl, hk⟩ | ⟨rfl, S, n, hk⟩
    · obtain ⟨its, _, pl, _⟩ := I.list hq
      refine ⟨pl.isList.typeIs, fun a e => ?_⟩
      cases e
      obtain ⟨o, n, e, c, hd, _⟩ := pl
      exact ⟨o, e, hd⟩
    · refine ⟨⟨o, I.kIn p o hk, hc⟩, fun a e => ?_⟩
      cases e
      exact ⟨o, I.kIn _ o hk, hd⟩
    · have z : ∃ o, s.heap.get? p = some o ∧ o.ExactDict := by
        rcases hk with ⟨kvs, hk⟩ | ⟨kvs, hk⟩
        · obtain ⟨_, _, _, _, o, _, _, e, ex, _⟩ := I.hok p _ hk
          exact ⟨o, e, ex⟩
        · obtain ⟨_, _, _, _, o, _, _, e, ex, _⟩ := I.hok p _ hk
          exact ⟨o, e, ex⟩
      obtain ⟨o, e, ex⟩ := z
      refine ⟨⟨o, e, ex.1⟩, fun a e2 => ?_⟩
      cases e2
      exact ⟨o, e, ex.2.1⟩
    · obtain ⟨o, _, _, _, e, ex, _⟩ := I.hok p _ hk
      refine ⟨⟨o, e, ex.1⟩, fun a e2 => ?_⟩
      cases e2
      exact ⟨o, e, ex.2.1⟩
  | _ => exact False.elim ty
def tBM0 (K : PySem.W.Frag) (T : String) (r : V → List V → Hp → VK → Prop) (to : TE) : TE := fun σ H Q => to σ H fun x H1 => tyV K T x H1 ∧ r x [] H1 Q
def tBM (K : PySem.W.Frag) (T : String) (r : V → List V → Hp → VK → Prop) (to : TE) (t : TA) : TE := fun σ H Q => to σ H fun x H1 => tyV K T x H1 ∧ t σ H1 fun xs H2 => r x xs H2 Q
variable {o e : Expr} {es : List Expr} {to : TE} {t : TA} {name : Str} {apos cpos : Pos} {T id : String} {r : V → List V → Hp → VK → Prop}
theorem pe_bm0 (pa : PlainAttrs T) (slot : Slot T name id) (hty : typeOf (.builtin id) = pure (.type "method_descriptor")) (hm : MtR X id r) (ho : PE X o to)
    (hbase : attributeBase o name X.env (eval o X.env) = eval o X.env := by rfl) (hline : (apos.endLine == cpos.line) = true := by rfl) : PE X (.Call (.Attribute o name apos) [] [] cpos) (tBM0 X.K T r to) := by
  intro pins s σ H Q I h
  refine wpAny_Call_method0_late hbase hline (thn (ho pins s σ H _ I h) fun v s1 ⟨x, H1, I1, r1, ty, q1⟩ => ?_)
  obtain ⟨h1, h2⟩ := tyV_is I1 r1 ty
  exact ⟨T, id, pa, slot, hty, h1, h2, Calls.callWith_builtin rfl (PySem.evalArgs_none (hm pins s1 σ H1 x [] v [] Q I1 r1 .nil q1))⟩
theorem pe_bm (pa : PlainAttrs T) (slot : Slot T name id) (hty : typeOf (.builtin id) = pure (.type "method_descriptor")) (hm : MtR X id r) (ho : PE X o to) (ha : PA X (e :: es) t)
    (hbase : attributeBase o name X.env (eval o X.env) = eval o X.env := by rfl)
    (hfew : ((backTo cpos (starEach (e :: es) X.env)).all (fun x => !x.1) && (backToKw cpos (keywordEach [] X.env)).all (fun x => x.1.isSome)
      && decide ((e :: es).length + ([] : List Keyword).length + (if ([] : List Keyword).isEmpty then 0 else 1) < 30)) = true := by rfl)
    (hline : (apos.endLine == cpos.line) = true := by rfl) (hs : starEach (e :: es) X.env = (false, eval e X.env) :: starEach es X.env := by rfl) (hplain : (backTo cpos (starEach es X.env)).any (·.1) = false := by rfl) :
    PE X (.Call (.Attribute o name apos) (e :: es) [] cpos) (tBM X.K T r to t) := by
  intro pins s σ H Q I h
  refine wpAny_Call_method_late hbase hfew hline rfl (thn (ho pins s σ H _ I h) fun v s1 ⟨x, H1, I1, r1, ty, q1⟩ => ?_)
  obtain ⟨h1, h2⟩ := tyV_is I1 r1 ty
  refine ⟨T, id, pa, slot, hty, h1, h2, ?_⟩
  have hA := ha cpos pins s1 σ H1 _ I1 q1
  rw [hs] at hA ⊢
  refine Calls.callWith_builtin (by show (false || (backTo cpos (starEach es X.env)).any (·.1)) = false; rw [hplain] <;> rfl) (Calls.evalArgs_plain ?_)
  exact thn hA fun us s2 ⟨vs, H2, I2, r2, q2⟩ => hm pins s2 σ H2 x vs v us Q I2 r1 r2 q2
/- xs.append(e), list.index on a module's tuple .. are MtR facts of 06m -/
end
end L2

namespace L2
open PySem PySem.Spec PyProof.Rows

def MtM (X : Cx) (id : String) (r : V → List V → Hp → VK → Prop) : Prop :=
  ∀ (pins : List (Addr × Obj)) (s : Shared) (σ : St) (H : Hp) (x : V) (xs : List V) (v : Value) (us : List Value) (Q : VK), Inv X pins σ H s → RelV x v → Vals xs us → r x xs H Q →
    wpAny (model X.prog X.w) X.A (call (.builtin id) (v :: us)) (EP X pins σ Q) X.xe s

/-! ### lists of values -/
theorem Vals.one : ∀ {x : V} {us : List Value}, Vals [x] us → ∃ u, us = [u] ∧ RelV x u
  | _, _, .cons r .nil => ⟨_, rfl, r⟩
theorem Vals.two : ∀ {x y : V} {us : List Value}, Vals [x, y] us → ∃ u v, us = [u, v] ∧ RelV x u ∧ RelV y v
  | _, _, _, .cons r (.cons q .nil) => ⟨_, _, rfl, r, q⟩
theorem Vals.zero : ∀ {us : List Value}, Vals [] us → us = []
  | _, .nil => rfl
theorem Vals.dropLast {xs : List V} {us : List Value} (h : Vals xs us) : Vals xs.dropLast us.dropLast := by
  induction h with
  | nil => exact .nil
  | cons r t ih =>
    cases t with
    | nil => exact .nil
    | cons q t' => exact .cons r ih
theorem Vals.eraseIdx : ∀ {xs : List V} {us : List Value} (i : Nat), Vals xs us → Vals (xs.eraseIdx i) (us.eraseIdx i)
  | _, _, _, .nil => .nil
  | _, _, 0, .cons _ t => t
  | _, _, i + 1, .cons r t => .cons r (Vals.eraseIdx i t)
theorem Vals.reverse {xs : List V} {us : List Value} (h : Vals xs us) : Vals xs.reverse us.reverse := by
  induction h with
  | nil => exact .nil
  | cons r t ih => rw [List.reverse_cons, List.reverse_cons]; exact Vals.append ih (.cons r .nil)
theorem Vals.rep {xs : List V} {us : List Value} (h : Vals xs us) : ∀ k : Nat, Vals (List.replicate k xs).flatten (List.replicate k us).flatten
  | 0 => .nil
  | k + 1 => by
    rw [List.replicate_succ, List.replicate_succ, List.flatten_cons, List.flatten_cons]
    exact Vals.append h (Vals.rep h k)
theorem erase_last {α : Type} (l : List α) : l.eraseIdx (l.length - 1) = l.dropLast := by
  induction l with
  | nil => rfl
  | cons a r ih =>
    cases r with
    | nil => rfl
    | cons b r =>
      have e : (a :: b :: r).length - 1 = ((b :: r).length - 1) + 1 := by
        have h1 : (a :: b :: r).length = r.length + 2 := rfl
        have h2 : (b :: r).length = r.length + 1 := rfl
        omega
      rw [e, List.eraseIdx_cons_succ, ih]
      all_goals rfl
theorem len_erase {α : Type} : ∀ (l : List α) (i : Nat), (l.eraseIdx i).length ≤ l.length
  | [], _ => Nat.le_refl _
  | _ :: _, 0 => Nat.le_succ _
  | _ :: r, i + 1 => Nat.succ_le_succ (len_erase r i)
theorem foldl_rep (its : List Value) : ∀ (k : Nat) (acc : List Value),
    List.foldl (fun x1 x2 => x1 ++ x2) acc.toArray (List.replicate k its.toArray) = (acc ++ (List.replicate k its).flatten).toArray
  | 0, acc => by simp
  | k + 1, acc => by
    have e : acc.toArray ++ its.toArray = (acc ++ its).toArray := by simp
    have e2 : (acc ++ its) ++ (List.replicate k its).flatten = acc ++ (List.replicate (k + 1) its).flatten := by
      rw [List.replicate_succ, List.flatten_cons, List.append_assoc]
    rw [← e2, ← foldl_rep its k (acc ++ its), ← e, List.replicate_succ, List.foldl_cons]

section
variable {X : Cx} {pins : List (Addr × Obj)} {σ : St} {H : Hp} {s : Shared} {l b : Addr} {xs ys zs : List V}

/-! ### the two steps: a tracked list is rewritten, a new list is laid -/
theorem Inv.lset {its its' : List Value} {n : Nat} {f : Array Value → Array Value} {t' : Nat} (I : Inv X pins σ H s) (hH : H l = some (.lst xs))
    (e : s.heap.get? l = some { cls := .type "list", data := .seq its.toArray n }) (hf : f its.toArray = its'.toArray) (hv : Vals ys its') (hz : ys.length ≤ sizeLine) :
    Inv X pins σ (upd H l (.lst ys)) { s with heap := s.heap.update l (Obj.mapSeq f), toks := t' } := by
  have q := PySem.IsL.update e f
  rw [hf] at q
  refine I.write (x := l) (e := l) (by rw [hH]; exact trivial) (.inl rfl) (fun b' u hb hu => (Heap.get?_update_other s.heap (Obj.mapSeq f) (Ne.symm hb)).trans hu) ⟨_, q⟩ ?_
  exact ⟨hz, its', _, hv, q⟩
theorem Inv.lnew {its : List Value} {t' : Nat} (I : Inv X pins σ H s) (hv : Vals ys its) (hz : ys.length ≤ sizeLine) :
    Inv X pins σ (upd H s.heap.objs.size (.lst ys)) { s with heap := s.heap.push { cls := .type "list", data := .seq its.toArray }, toks := t' } :=
  I.laid (fun _ _ q => Heap.get?_push_of_some _ q) (Nat.le_refl _) ⟨hz, its, 0, hv, Heap.get?_push_size _ rfl⟩
theorem Inv.fresh (I : Inv X pins σ H s) : H s.heap.objs.size = none := I.hok.fresh (Nat.le_refl _)
theorem Inv.lstM (I : Inv X pins σ H s) (hH : H l = some (.lst xs)) : xs.length ≤ sizeLine ∧ ∃ (its : List Value) (n : Nat), Vals xs its ∧ xs.length = its.length ∧ s.heap.get? l = some { cls := .type "list", data := .seq its.toArray n } := by
  obtain ⟨z, its, n, r, e⟩ := I.hok l _ hH
  exact ⟨z, its, n, r, r.length, e⟩

theorem notLongL {n : Nat} (h : n ≤ sizeLine) : Builtin.List.listTooLong n = false := by
  unfold Builtin.List.listTooLong
  exact decide_eq_false (by omega)
end

section
variable {X : Cx}

/-! ### methods -/
def rAppend : V → List V → Hp → VK → Prop := fun x vs H Q => ∃ l xs y, x = .ref l ∧ vs = [y] ∧ H l = some (.lst xs) ∧ xs.length < sizeLine ∧ Q .non (upd H l (.lst (xs ++ [y])))
theorem mt_append : MtM X "list.append" rAppend := by
  intro pins s σ H x vs v us Q I rx rv h
  obtain ⟨l, xs, y, rfl, rfl, hH, hz, q⟩ := h
  cases rx
  obtain ⟨u, rfl, ru⟩ := rv.one
  obtain ⟨z, its, n, r, hl, e⟩ := I.lstM hH
  refine call_meets F.slot_list_append ⟨_, e, rfl⟩ F.entry_list_append (F.args_list_append_2 _ _) (PySem.list_append l its.toArray n u (by rw [List.size_toArray]; omega)) ⟨e, ?_⟩
  refine ⟨.non, _, I.lset (its' := its ++ [u]) hH e (by simp) (r.append (.cons ru .nil)) ?_, rfl, q⟩
  rw [List.length_append, List.length_singleton]
  omega

def rExtend : V → List V → Hp → VK → Prop := fun x vs H Q => ∃ l b xs zs, x = .ref l ∧ vs = [.ref b] ∧ H l = some (.lst xs) ∧ H b = some (.lst zs) ∧ xs.length + zs.length ≤ sizeLine ∧ Q .non (upd H l (.lst (xs ++ zs)))
theorem mt_extend : MtM X "list.extend" rExtend := by
  intro pins s σ H x vs v us Q I rx rv h
  obtain ⟨l, b, xs, zs, rfl, rfl, hH, hB, hz, q⟩ := h
  cases rx
  obtain ⟨u, rfl, ru⟩ := rv.one
  cases ru
  obtain ⟨z, its, n, r, hl, e⟩ := I.lstM hH
  obtain ⟨z2, its2, n2, r2, hl2, e2⟩ := I.lstM hB
  have hsz : its.toArray.size + its2.toArray.size ≤ sizeLine := by rw [List.size_toArray, List.size_toArray]; omega
  have hlong : ¬ (!its.toArray.isEmpty && Builtin.List.listTooLong (its.toArray.size + its2.toArray.size)) = true := by
    rw [notLongL hsz, Bool.and_false]
    exact Bool.false_ne_true
  refine call_meets F.slot_list_extend ⟨_, e, rfl⟩ F.entry_list_extend (F.args_list_extend_2 _ _)
    (AutoSeq1.list_extend_list_list_0 l its.toArray n b its2.toArray n2 hlong (by rw [List.size_toArray]; omega) (by omega)) ⟨e, e2, ?_⟩
  refine ⟨.non, _, I.lset (its' := its ++ its2) hH e (by simp) (r.append r2) ?_, rfl, q⟩
  rw [List.length_append]
  omega

def rPop : V → List V → Hp → VK → Prop := fun x vs H Q => ∃ l xs y, x = .ref l ∧ vs = [] ∧ H l = some (.lst xs) ∧ xs[xs.length - 1]? = some y ∧ Q y (upd H l (.lst xs.dropLast))
theorem mt_pop : MtM X "list.pop" rPop := by
  intro pins s σ H x vs v us Q I rx rv h
  obtain ⟨l, xs, y, rfl, rfl, hH, hy, q⟩ := h
  cases rx
  have hus := rv.zero
  subst hus
  obtain ⟨z, its, n, r, hl, e⟩ := I.lstM hH
  obtain ⟨u, hu, ru⟩ := r.get hy
  have hy' : its.toArray[its.toArray.size - 1]? = some u := by
    show its.toArray[its.length - 1]? = some u
    rw [← Array.getElem?_toList, ← hl]
    exact hu
  refine call_meets F.slot_list_pop ⟨_, e, rfl⟩ F.entry_list_pop (F.args_list_pop_1 _) (MeetsSeq.list_pop_last l its.toArray n u hy' (by rw [List.size_toArray]; omega)) ⟨e, ?_⟩
  refine ⟨y, _, I.lset (its' := its.dropLast) hH e ?_ r.dropLast ?_, ru, q⟩
  · show its.toArray.eraseIdxIfInBounds (its.toArray.size - 1) = its.dropLast.toArray
    rw [List.size_toArray, List.eraseIdxIfInBounds_toArray, erase_last]
  · rw [List.length_dropLast]
    omega

def rPopAt : V → List V → Hp → VK → Prop := fun x vs H Q => ∃ l xs i k y, x = .ref l ∧ vs = [.int i] ∧ H l = some (.lst xs) ∧ -(2 ^ 63) ≤ i ∧ i < 2 ^ 63 ∧ seqIndex? i xs.length = some k ∧ xs[k]? = some y ∧ Q y (upd H l (.lst (xs.eraseIdx k)))
theorem mt_popAt : MtM X "list.pop" rPopAt := by
  intro pins s σ H x vs v us Q I rx rv h
  obtain ⟨l, xs, i, k, y, rfl, rfl, hH, h1, h2, hk, hy, q⟩ := h
  cases rx
  obtain ⟨u, rfl, ru⟩ := rv.one
  obtain ⟨t, rfl⟩ := ru
  obtain ⟨z, its, n, r, hl, e⟩ := I.lstM hH
  obtain ⟨w, hw, rw'⟩ := r.get hy
  refine call_meets F.slot_list_pop ⟨_, e, rfl⟩ F.entry_list_pop (F.args_list_pop_2 _ _)
    (MeetsSeq.list_pop_at l its.toArray n i t k w (fitsIndex_both h1 h2) (by rw [List.size_toArray, ← hl]; exact hk) (by rw [← Array.getElem?_toList]; exact hw) (by rw [List.size_toArray]; omega)) ⟨e, ?_⟩
  refine ⟨y, _, I.lset (its' := its.eraseIdx k) hH e ?_ (r.eraseIdx k) ?_, rw', q⟩
  · show its.toArray.eraseIdxIfInBounds k = (its.eraseIdx k).toArray
    rw [List.eraseIdxIfInBounds_toArray]
  · have := len_erase xs k
    omega

def rReverse : V → List V → Hp → VK → Prop := fun x vs H Q => ∃ l xs, x = .ref l ∧ vs = [] ∧ H l = some (.lst xs) ∧ Q .non (upd H l (.lst xs.reverse))
theorem mt_reverse : MtM X "list.reverse" rReverse := by
  intro pins s σ H x vs v us Q I rx rv h
  obtain ⟨l, xs, rfl, rfl, hH, q⟩ := h
  cases rx
  have hus := rv.zero
  subst hus
  obtain ⟨z, its, n, r, hl, e⟩ := I.lstM hH
  refine call_meets F.slot_list_reverse ⟨_, e, rfl⟩ F.entry_list_reverse (F.args_list_reverse_1 _) (AutoSeq1.list_reverse_list_0 l its.toArray n (by rw [List.size_toArray]; omega)) ⟨e, ?_⟩
  refine ⟨.non, _, I.lset (its' := its.reverse) hH e (by simp) r.reverse ?_, rfl, q⟩
  rw [List.length_reverse]
  omega

def rClear : V → List V → Hp → VK → Prop := fun x vs H Q => ∃ l xs, x = .ref l ∧ vs = [] ∧ H l = some (.lst xs) ∧ Q .non (upd H l (.lst []))
theorem mt_clear : MtM X "list.clear" rClear := by
  intro pins s σ H x vs v us Q I rx rv h
  obtain ⟨l, xs, rfl, rfl, hH, q⟩ := h
  cases rx
  have hus := rv.zero
  subst hus
  obtain ⟨z, its, n, r, hl, e⟩ := I.lstM hH
  refine call_meets F.slot_list_clear ⟨_, e, rfl⟩ F.entry_list_clear (F.args_list_clear_1 _) (AutoSeq1.list_clear_list_0 l its.toArray n (by rw [List.size_toArray]; omega)) ⟨e, ?_⟩
  exact ⟨.non, _, I.lset (its' := []) (ys := []) hH e rfl .nil (Nat.zero_le _), rfl, q⟩

/-! ### list + list, list += list, list * int -/
def rCat : R2 := fun x y H Q => ∃ l b xs zs, x = .ref l ∧ y = .ref b ∧ H l = some (.lst xs) ∧ H b = some (.lst zs) ∧ xs.length + zs.length ≤ sizeLine ∧ ∀ p, H p = none → Q (.ref p) (upd H p (.lst (xs ++ zs)))
theorem op_cat : OpR X (binaryOp .Add) rCat := by
  intro pins s σ H x y v u Q I rx ry h
  obtain ⟨l, b, xs, zs, rfl, rfl, hH, hB, hz, q⟩ := h
  cases rx
  cases ry
  obtain ⟨z, its, n, r, hl, e⟩ := I.lstM hH
  obtain ⟨z2, its2, n2, r2, hl2, e2⟩ := I.lstM hB
  refine PySem.P.add_list e e2 ?_ (by rw [List.size_toArray, List.size_toArray]; omega)
  have ea : its.toArray ++ its2.toArray = (its ++ its2).toArray := by simp
  rw [ea]
  exact ⟨.ref _, _, I.lnew (t' := s.toks) (r.append r2) (by rw [List.length_append]; omega), rfl, q _ I.fresh⟩
/-- a list times an int (a negative one is nothing) -/
def rRep : R2 := fun x y H Q => ∃ l k xs, x = .ref l ∧ y = .int k ∧ H l = some (.lst xs) ∧ -(2 ^ 63) ≤ k ∧ k < 2 ^ 63 ∧ xs.length * k.toNat ≤ sizeLine ∧
  ∀ p, H p = none → Q (.ref p) (upd H p (.lst (List.replicate k.toNat xs).flatten))
theorem len_rep {α : Type} (xs : List α) (k : Nat) : (List.replicate k xs).flatten.length = k * xs.length := by
  induction k with
  | zero => simp
  | succ k ih => rw [List.replicate_succ, List.flatten_cons, List.length_append, ih, Nat.succ_mul, Nat.add_comm]
theorem op_rep : OpR X (binaryOp .Mult) rRep := by
  intro pins s σ H x y v u Q I rx ry h
  obtain ⟨l, k, xs, rfl, rfl, hH, h1, h2, hz, q⟩ := h
  cases rx
  obtain ⟨t, rfl⟩ := ry
  obtain ⟨z, its, n, r, hl, e⟩ := I.lstM hH
  have hlen : its.toArray.size * k.toNat ≤ sizeLine := by rw [List.size_toArray, ← hl]; exact hz
  have hcap : ¬ its.toArray.size * k.toNat > (2 ^ 63 - 1) / 8 := by
    have : (sizeLine : Nat) ≤ (2 ^ 63 - 1) / 8 := by decide
    omega
  have hfit : ¬ (!Builtin.List.listFitsIndex k) = true := by
    rw [fitsIndex_both h1 h2]
    exact Bool.false_ne_true
  have hlong : ¬ Builtin.List.listTooLong (its.toArray.size * k.toNat) = true := by
    rw [notLongL hlen]
    exact Bool.false_ne_true
  have hnew : List.foldl (fun x1 x2 => x1 ++ x2) #[] (List.replicate (if its.toArray.isEmpty = true then 0 else k.toNat) its.toArray) = (List.replicate k.toNat its).flatten.toArray := by
    have f0 : ∀ m : Nat, List.foldl (fun x1 x2 => x1 ++ x2) #[] (List.replicate m its.toArray) = (List.replicate m its).flatten.toArray := fun m => by
      have := foldl_rep its m []
      rw [List.nil_append] at this
      exact this
    rw [f0]
    cases its with
    | nil => simp
    | cons a r' => rw [if_neg (by simp)]
  refine wpAny_binaryOp_repeat_ref (T := "list") (U := "int") (by decide) ⟨_, e, rfl⟩ (fun s' => typeIs_int s' k t) noFill_list_mul F.fills_int_mul F.slot_int_rmul repeat_list F.slot_int_index.lookup
    (call_meets F.slot_int_rmul (typeIs_int s k t) F.entry_int_rmul (F.args_int_rmul_2 _ _) (int___rmul___int_list k t l its.toArray n)
      ⟨e, rfl, ⟨_, e, rfl⟩, call_meets F.slot_list_mul ⟨_, e, rfl⟩ F.entry_list_mul (F.args_list_mul_2 _ _) (AutoListH.list___mul___list_int_3 l its.toArray n k t hfit hcap hlong) ⟨e, ?_⟩⟩)
  rw [hnew]
  exact ⟨.ref _, _, I.lnew (t' := s.toks) (r.rep k.toNat) (by rw [len_rep, Nat.mul_comm]; exact hz), rfl, q _ I.fresh⟩

/-! ### del xs[i] -/
theorem del_list {pins : List (Addr × Obj)} {s : Shared} {σ : St} {H : Hp} {l : Addr} {xs : List V} {i : Int} {t : Tok} {k : Nat} {Q : Unit → Shared → Prop} (I : Inv X pins σ H s) (hH : H l = some (.lst xs))
    (h1 : -(2 ^ 63) ≤ i) (h2 : i < 2 ^ 63) (hk : seqIndex? i xs.length = some k) (h : ∀ s', Inv X pins σ (upd H l (.lst (xs.eraseIdx k))) s' → Q () s') :
    wpAny (model X.prog X.w) X.A (delItem (.ref l) (.int i t)) Q X.xe s := by
  obtain ⟨z, its, n, r, hl, e⟩ := I.lstM hH
  refine PySem.P.delItem_list (k := k) e (fitsIndex_both h1 h2) (by rw [List.size_toArray, ← hl]; exact hk) (h _ ?_) (by rw [List.size_toArray]; omega)
  refine I.lset (its' := its.eraseIdx k) (t' := s.toks) hH e ?_ (r.eraseIdx k) ?_
  · show its.toArray.eraseIdxIfInBounds k = (its.eraseIdx k).toArray
    rw [List.eraseIdxIfInBounds_toArray]
  · have := len_erase xs k
    omega
end

/-! ### xs[a:b] = ys -/
section
variable {prog : Program} {w : World} {A : Around} {E : Value → Shared → Prop} {s : Shared}
theorem splice_eq (its its2 : List Value) (a c : Nat) : its.toArray.extract 0 a ++ its2.toArray ++ its.toArray.extract c its.toArray.size = (its.take a ++ its2 ++ its.drop c).toArray := by
  apply Array.toList_inj.mp
  first
    | (simp
       exact List.take_of_length_le (by simp))
    | simp [List.take_of_length_le]
    | simp
theorem bounds_run {a c n : Nat} (hac : a ≤ c) (hc : c ≤ n) : sliceBounds (some (a : Int)) (some (c : Int)) none n = ((a : Int), (c : Int), 1) := by
  simp only [sliceBounds, Option.getD_none]
  have h1 : ¬ ((a : Int) < 0) := by omega
  have h2 : ¬ ((c : Int) < 0) := by omega
  simp only [h1, h2, if_false, show (1 : Int) > 0 by decide, if_true]
  congr 1
  · omega
  · congr 1; omega
set_option maxRecDepth 100000 in
/-- list.__setitem__ with a slice of step one and another list -/
theorem setItem_slice {l b sl : Addr} {items new : Array Value} {n n2 : Nat} {vl vu : Value} {a c : Nat} {Q : Unit → Shared → Prop}
    (e : s.heap.get? l = some { cls := .type "list", data := .seq items n }) (e2 : s.heap.get? b = some { cls := .type "list", data := .seq new n2 }) (hne : l ≠ b)
    (hs : s.heap.IsSliceOf sl vl vu .none) (pl : IsPart vl (some (a : Int))) (pu : IsPart vu (some (c : Int))) (hac : a ≤ c) (hc : c ≤ items.size)
    (hsz : items.size + new.size ≤ sizeLine) (h : Q () { s with heap := s.heap.update l (Obj.mapSeq fun xs => xs.extract 0 a ++ new ++ xs.extract c xs.size) }) :
    wpAny (model prog w) A (setItem (.ref l) (.ref sl) (.ref b)) Q E s := by
  have hl : s.heap.IsList l items := PySem.IsL.isList e
  have hb : s.heap.IsList b new := PySem.IsL.isList e2
  obtain ⟨os, hos, hcs, hds⟩ := id hs
  have hTs : s.TypeIs (.ref sl) "slice" := ⟨os, hos, hcs⟩
  have hstep : ¬ ((rawPart none == rawInt 0) = true) := Bool.false_ne_true
  have hsame : Builtin.List.listSameRef (.ref l) (.ref b) = false := by
    unfold Builtin.List.listSameRef
    exact beq_eq_false_iff_ne.mpr hne
  have hmax : (max (a : Int) (c : Int)).toNat = c := by omega
  have hz' : ((fun xs : Array Value => xs.extract 0 a ++ new ++ xs.extract c xs.size) items).size ≤ sizeLine + 1 := by
    simp only [Array.size_append, Array.size_extract]
    omega
  unfold setItem
  try with_reducible refine wpAny_holding ?_
  first | refine wpAny_bind (wpAny_pure ?_) | skip
  refine wpAny_bind (wpAny_sequenceKey hl.typeIs (by decide) ?_)
  refine wpAny_bind (wpAny_callSpecial?_slot (name := Str.ofString "__setitem__") hl.typeIs slot_list_setitem
    (wpAny_call_entry slot_list_setitem hl.typeIs entry_list_setitem ?_ (args_list_setitem _ _ _)))
  show wpAny _ _ (Builtin.List.listSubscript? (.ref sl) >>= _) _ _ s
  refine wpAny_bind ?_
  unfold Builtin.List.listSubscript?
  refine wpAny_bind (wpAny_specialOf hTs slice_no_index ?_)
  simp only [Option.isNone_none, if_true]
  refine wpAny_pure ?_
  show wpAny _ _ (typeOf (.ref sl) >>= _) _ _ s
  refine wpAny_bind (wpAny_typeOf hTs ?_)
  first
    | rw [if_neg (by decide)]
    | refine PySem.W.KFB.if_not (by decide) ?_
  rw [listSliceParts_eq]
  refine wpAny_bind (wpAny_bind (wpAny_field hos hds (x := .none) rfl (wpAny_bind (wpAny_listPart .none ?_))))
  rw [if_neg hstep]
  refine wpAny_bind (wpAny_field hos hds (x := vl) rfl (wpAny_bind (wpAny_listPart pl ?_)))
  refine wpAny_bind (wpAny_field hos hds (x := vu) rfl (wpAny_bind (wpAny_listPart pu (wpAny_pure ?_))))
  first
    | simp only [hsame, Bool.false_eq_true, if_false]
    | refine PySem.W.KFB.if_not hsame ?_
    | (dsimp only
       rw [if_neg (by rw [hsame]; exact Bool.false_ne_true)])
  refine wpAny_bind (m := Builtin.List.listAllItems (.ref b) "must assign iterable to extended slice") ?_
  unfold Builtin.List.listAllItems
  refine wpAny_bind (wpAny_typeOf hb.typeIs ?_)
  first
    | refine PySem.W.KFB.if_so (by decide) ?_
    | rw [if_pos (by decide)]
    | simp only [beq_self_eq_true, Bool.true_or, if_true]
  unfold Builtin.List.listItems
  refine wpAny_bind (wpAny_seqItems e2 rfl (wpAny_pure ?_))
  refine wpAny_bind (wpAny_bind (wpAny_seqItems e rfl (wpAny_pure ?_)))
  refine wpAny_bind (wpAny_of_eq ((sliceIndices_raw (some (a : Int)) (some (c : Int)) none items.size (by simp)).trans (congrArg (pure : Int × Int × Int → Sem (Int × Int × Int)) (bounds_run hac hc))) ?_)
  show wpAny _ _ (if ((1 : Int) == 1) = true then _ else _) _ _ s
  rw [if_pos (by decide)]
  refine wpAny_bind (wpAny_rule ?_)
  first
    | simp only [notLongL hsz, Bool.false_eq_true, if_false]
    | refine PySem.W.KFB.if_not (notLongL hsz) ?_
  first | refine wpAny_bind (wpAny_pure ?_) | skip
  show wpAny _ _ (updateSeq l (fun xs => xs.extract 0 ((a : Int)).toNat ++ new ++ xs.extract (max (a : Int) (c : Int)).toNat xs.size) >>= _) _ _ s
  rw [hmax, Int.toNat_natCast]
  refine wpAny_bind (wpAny_updateSeq (hz := Nat.le_trans (Nat.le_add_right _ _) hsz) (_hz' := hz') e rfl ?_)
  refine wpAny_bind (wpAny_letGo ?_)
  first
    | exact wpAny_bind (wpAny_pure (wpAny_pure ⟨.none, rfl, wpAny_pure h⟩))
    | exact wpAny_pure ⟨.none, rfl, wpAny_pure h⟩
end

section
variable {X : Cx}
/-- xs[a:c] = ys of another list, at the value level: sl is the slice object that was just made -/
theorem set_slice {pins : List (Addr × Obj)} {s : Shared} {σ : St} {H : Hp} {l b sl : Addr} {xs ys : List V} {a c : Int} {vl vu : Value} {Q : Unit → Shared → Prop} (I : Inv X pins σ H s)
    (hH : H l = some (.lst xs)) (hB : H b = some (.lst ys)) (hne : l ≠ b) (hs : s.heap.IsSliceOf sl vl vu .none) (ra : RelV (.int a) vl) (rc : RelV (.int c) vu) (h0 : 0 ≤ a) (hac : a ≤ c) (hc : c ≤ xs.length)
    (hz : xs.length + ys.length ≤ sizeLine) (h : ∀ s', Inv X pins σ (upd H l (.lst (xs.take a.toNat ++ ys ++ xs.drop c.toNat))) s' → Q () s') :
    wpAny (model X.prog X.w) X.A (setItem (.ref l) (.ref sl) (.ref b)) Q X.xe s := by
  obtain ⟨ta, rfl⟩ := ra
  obtain ⟨tc, rfl⟩ := rc
  obtain ⟨z, its, n, r, hl, e⟩ := I.lstM hH
  obtain ⟨z2, its2, n2, r2, hl2, e2⟩ := I.lstM hB
  obtain ⟨a', rfl⟩ := Int.eq_ofNat_of_zero_le h0
  obtain ⟨c', rfl⟩ := Int.eq_ofNat_of_zero_le (Int.le_trans h0 hac)
  simp only [Int.toNat_natCast] at h
  refine setItem_slice (a := a') (c := c') e e2 hne hs (.int _ _) (.int _ _) (by omega) (by rw [List.size_toArray]; omega) (by rw [List.size_toArray, List.size_toArray]; omega) (h _ ?_)
  refine I.lset (its' := its.take a' ++ its2 ++ its.drop c') (t' := s.toks) hH e ?_ (Vals.append (Vals.append (r.take _) r2) (r.drop _)) ?_
  · exact splice_eq its its2 a' c'
  · rw [List.length_append, List.length_append, List.length_take, List.length_drop]
    omega
end
end L2

namespace Att
open PySem PySem.W PySem.Calls PyProof.Rows

/-! ### the script -/
theorem ints_of_wellAll {P : Params} {h : Heap} : ∀ (ns : List Int) (vs : List Value), WellAll P h vs (ns.map WData.int) → IntsAre vs ns := by
  intro ns
  induction ns with
  | nil =>
    intro vs w
    rw [List.map_nil] at w
    cases w
    exact .nil
  | cons n ns ih =>
    intro vs w
    rw [List.map_cons] at w
    cases w with
    | cons a b =>
      cases a
      exact .cons _ _ (ih _ b)

theorem script_of {l : OpenLaw} {n : Nat} (hn : l.most = some n) {P : Params} {h : Heap} {args : List WData} {vals : List Value}
    (hpre : l.row.toRowW.claim.pre args = true) (hwl : WellAll P h vals args) :
    ∃ a vs ns, vals = [Value.ref a] ∧ args = [WData.list (ns.map WData.int)] ∧ h.get? a = some { cls := .type "list", data := .seq vs.toArray } ∧ IntsAre vs ns ∧ ns.length ≤ n := by
  have hsh : WShape.hasAll [] args [.list .int] = true := (pre_splitW hpre).1
  have hc : l.pre.holds [] { args := args } = true := (pre_splitW hpre).2
  obtain ⟨d, r, rfl, h1, h2⟩ := hasAllW_cons hsh
  obtain rfl := hasAllW_nil h2
  obtain ⟨xs, rfl, h3⟩ := hasW_list h1
  obtain ⟨ns, rfl⟩ := items_int h3
  have hlen : ns.length ≤ n := by
    unfold OpenLaw.pre at hc
    have h4 : (WTm.not (.lt (.lit (.int (n : Int))) (.len (.arg 0)))).holds [] { args := [.list (ns.map .int)] } = true := by
      have h4 := (holds_andW hc).1
      rw [hn] at h4
      exact h4
    have h5 := condW_of h4 (w_not (w_lt w_lit (w_len_list (w_arg rfl))))
    rw [List.length_map] at h5
    refine Nat.le_of_not_lt fun q => ?_
    have q' : (n : Int) < ((ns.length : Nat) : Int) := by omega
    first
      | (rw [decide_eq_true q'] at h5; exact absurd h5 (by decide))
      | (simp at h5; omega)
  cases hwl with
  | cons w1 w2 =>
    cases w2
    cases w1 with
    | list ho hall => exact ⟨_, _, ns, rfl, rfl, ho, ints_of_wellAll ns _ hall, hlen⟩

theorem post_true (l : OpenLaw) (args : List WData) : l.row.toRowW.claim.post args (.bool true) args = true :=
  postW_of (r := l.row.toRowW) (X := (true == true))
    (show WShape.has [] (.bool true) .bool = true by first | rfl | decide | simp [WShape.has, WShape.arms, WShape.armsAll])
    (show (WTm.eq .res (.lit (.bool true))).value [] { args := args, res := some (.bool true), after := args } = some (.bool (true == true)) from w_eq_bool (w_res rfl) w_lit) rfl

/-! ### the attachment: holds_open's last premise (the goal 'hc' behind k_head) from a wpAny of the law's body -/
theorem attach {l : OpenLaw} {n : Nat} {q : Program} {loose : List Str} {XP : (Str → Option Value) → Heap → Prop} {YP : World → Heap → Prop} {d : DefRec} {x : Str}
    (hn : l.most = some n) (hdf : d.params.defaults = [])
    (hbind : ∀ pm cd doc v : Value, bindArgs (docDef d.name d.params d.body d.scope pm cd doc) ⟨[v], []⟩ = pure [(x, v)])
    (hx : d.scope.names.lookup x = some .local ∨ d.scope.names.lookup x = some .cell)
    (hk : d.scope.kind = .function) (hco : d.scope.isCoroutine = false) (hgen : d.scope.isGenerator = false)
    (body : ∀ (w : World) (s₀ s₁ s : Shared) (mg mb : Str → Option Value) (fa : Addr) (o : Obj) (pm cd doc : Value) (a : Addr) (vs : List Value) (ns : List Int),
      Ground q loose [] XP w s₀ mg mb s₁.heap → YP w s₁.heap →
      s₁.heap.get? fa = some o → o.data = .func (docDef d.name d.params d.body d.scope pm cd doc) → s₁.heap.CodeRec cd d.name → mg d.name = some (.ref fa) →
      s₁.heap.get? a = some { cls := .type "list", data := .seq vs.toArray } → IntsAre vs ns → ns.length ≤ n →
      s.gens = #[] → s.os = s₁.os →
      Fr s₁.heap s₁.heap.objs.size s.heap (bindL (envOfC d.name d.scope s₁.heap.objs.size fa cd).kindOf [(x, .ref a)] fun _ => none) →
      Cl s₁.heap.objs.size (cellsFrom (s₁.heap.objs.size + 1) d.scope.names []) s.heap (bindC (envOfC d.name d.scope s₁.heap.objs.size fa cd).kindOf [(x, .ref a)] fun _ => none) →
      wpAny (model l.prog w) (callerA.deeper (envOfC d.name d.scope s₁.heap.objs.size fa cd)) (execs d.body (envOfC d.name d.scope s₁.heap.objs.size fa cd))
        (fun f s' => f = .ret (.bool true) ∧ OldK s₁.heap s'.heap ∧ s'.os = s₁.os ∧ AllBare s'.gens) (fun _ _ => False) s) :
    WalkO q loose XP YP l.row.toRowW d [] (fun f vs => PySem.call f vs) := by
  intro w s₀ s₁ mg mb G Y fa o pm cd doc dV kV ho hd hcd hD hmg hg args vals as hpre hlay hrd hwl hlo
  obtain rfl : dV = .none := Dflts.none hD hdf
  obtain rfl : kV = .none := Dflts.noKw hD
  obtain ⟨a, vs, ns, rfl, rfl, hobj, hints, hlen⟩ := script_of hn hpre hwl
  refine enter_call ?_
  refine call_cells_ret (o := o) (by rw [depth_caller]; decide) ho (fd_plain hd) G.T.nolimit hcd (hbind pm cd doc (.ref a)) (fun y hy => ?_) (fun h₁ tk F X => ?_) hco hgen hk
  · obtain rfl : y = (x, Value.ref a) := List.mem_singleton.mp hy
    rcases hx with e | e
    · exact .inl e
    · exact .inr ⟨e, cellsFrom_some _ _ _ (.inl e)⟩
  · refine wpAny_mono (body w s₀ s₁ { s₁ with heap := h₁, toks := tk } mg mb fa o pm cd doc a vs ns G Y ho (fd_plain hd) hcd hmg hobj hints hlen hg rfl F X) (fun f s' hq => ?_) (fun _ _ hq => hq)
    obtain ⟨rfl, h2, h3, h4⟩ := hq
    exact ⟨.inl ⟨.bool true, .bool true, [], rfl, fun _ => rfl, .bool true, post_true l _, fun _ => ⟨List.Pairwise.nil, fun _ hm => (nomatch hm)⟩⟩, h2, h3, h4⟩

/-- the same from a codeAny of the CALL (for a layer whose function contracts speak of calls) -/
theorem attach_call {l : OpenLaw} {n : Nat} {q : Program} {loose : List Str} {XP : (Str → Option Value) → Heap → Prop} {YP : World → Heap → Prop} {d : DefRec}
    (hn : l.most = some n) (hdf : d.params.defaults = [])
    (call : ∀ (w : World) (s₀ s₁ : Shared) (mg mb : Str → Option Value) (fa : Addr) (o : Obj) (pm cd doc : Value) (a : Addr) (vs : List Value) (ns : List Int),
      Ground q loose [] XP w s₀ mg mb s₁.heap → YP w s₁.heap →
      s₁.heap.get? fa = some o → o.data = .func (docDef d.name d.params d.body d.scope pm cd doc) → s₁.heap.CodeRec cd d.name → mg d.name = some (.ref fa) →
      s₁.heap.get? a = some { cls := .type "list", data := .seq vs.toArray } → IntsAre vs ns → ns.length ≤ n → s₁.gens = #[] →
      codeAny (model l.prog w) callerA (.call (.ref fa) ⟨[.ref a], []⟩) (fun r s' => r = .ok (.ret (.bool true)) ∧ OldK s₁.heap s'.heap ∧ s'.os = s₁.os ∧ AllBare s'.gens) s₁) :
    WalkO q loose XP YP l.row.toRowW d [] (fun f vs => PySem.call f vs) := by
  intro w s₀ s₁ mg mb G Y fa o pm cd doc dV kV ho hd hcd hD hmg hg args vals as hpre hlay hrd hwl hlo
  obtain rfl : dV = .none := Dflts.none hD hdf
  obtain rfl : kV = .none := Dflts.noKw hD
  obtain ⟨a, vs, ns, rfl, rfl, hobj, hints, hlen⟩ := script_of hn hpre hwl
  refine enter_call (codeAny_mono (call w s₀ s₁ mg mb fa o pm cd doc a vs ns G Y ho (fd_plain hd) hcd hmg hobj hints hlen hg) fun r s' hq => ?_)
  obtain ⟨rfl, h2, h3, h4⟩ := hq
  exact ⟨.inl ⟨.bool true, .bool true, [], rfl, fun _ => rfl, .bool true, post_true l _, fun _ => ⟨List.Pairwise.nil, fun _ hm => (nomatch hm)⟩⟩, h2, h3, h4⟩

/-- the same where the top left finished generators (o_head chose holds_openN): nothing may have changed at all and no generator may be left -/
theorem attachN {l : OpenLaw} {n : Nat} {q : Program} {loose : List Str} {XP : (Str → Option Value) → Heap → Prop} {YP : World → Heap → Prop} {d : DefRec} {x : Str}
    (hn : l.most = some n) (hdf : d.params.defaults = [])
    (hbind : ∀ pm cd doc v : Value, bindArgs (docDef d.name d.params d.body d.scope pm cd doc) ⟨[v], []⟩ = pure [(x, v)])
    (hx : d.scope.names.lookup x = some .local ∨ d.scope.names.lookup x = some .cell)
    (hk : d.scope.kind = .function) (hco : d.scope.isCoroutine = false) (hgen : d.scope.isGenerator = false)
    (body : ∀ (w : World) (s₀ s₁ s : Shared) (mg mb : Str → Option Value) (fa : Addr) (o : Obj) (pm cd doc : Value) (a : Addr) (vs : List Value) (ns : List Int),
      Ground q loose [] XP w s₀ mg mb s₁.heap → YP w s₁.heap →
      s₁.heap.get? fa = some o → o.data = .func (docDef d.name d.params d.body d.scope pm cd doc) → s₁.heap.CodeRec cd d.name → mg d.name = some (.ref fa) →
      s₁.heap.get? a = some { cls := .type "list", data := .seq vs.toArray } → IntsAre vs ns → ns.length ≤ n →
      s.gens = #[] → s.os = s₁.os →
      Fr s₁.heap s₁.heap.objs.size s.heap (bindL (envOfC d.name d.scope s₁.heap.objs.size fa cd).kindOf [(x, .ref a)] fun _ => none) →
      Cl s₁.heap.objs.size (cellsFrom (s₁.heap.objs.size + 1) d.scope.names []) s.heap (bindC (envOfC d.name d.scope s₁.heap.objs.size fa cd).kindOf [(x, .ref a)] fun _ => none) →
      wpAny (model l.prog w) (callerA.deeper (envOfC d.name d.scope s₁.heap.objs.size fa cd)) (execs d.body (envOfC d.name d.scope s₁.heap.objs.size fa cd))
        (fun f s' => f = .ret (.bool true) ∧ (∀ b o, s₁.heap.get? b = some o → s'.heap.get? b = some o) ∧ s'.os = s₁.os ∧ s'.gens = #[]) (fun _ _ => False) s) :
    WalkN q loose XP YP l.row.toRowW d [] (fun f vs => PySem.call f vs) := by
  intro w s₀ s₁ mg mb G Y fa o pm cd doc dV kV ho hd hcd hD hmg hg args vals as hpre hlay hrd hwl hlo
  obtain rfl : dV = .none := Dflts.none hD hdf
  obtain rfl : kV = .none := Dflts.noKw hD
  obtain ⟨a, vs, ns, rfl, rfl, hobj, hints, hlen⟩ := script_of hn hpre hwl
  refine enter_callW ?_
  refine call_cells_ret (o := o) (by rw [depth_caller]; decide) ho (fd_plain hd) G.T.nolimit hcd (hbind pm cd doc (.ref a)) (fun y hy => ?_) (fun h₁ tk F X => ?_) hco hgen hk
  · obtain rfl : y = (x, Value.ref a) := List.mem_singleton.mp hy
    rcases hx with e | e
    · exact .inl e
    · exact .inr ⟨e, cellsFrom_some _ _ _ (.inl e)⟩
  · refine wpAny_mono (body w s₀ s₁ { s₁ with heap := h₁, toks := tk } mg mb fa o pm cd doc a vs ns G Y ho (fd_plain hd) hcd hmg hobj hints hlen hg rfl F X) (fun f s' hq => ?_) (fun _ _ hq => hq)
    obtain ⟨rfl, h2, h3, h4⟩ := hq
    exact ⟨.inl ⟨.bool true, .bool true, [], rfl, fun _ => rfl, .bool true, post_true l _, fun _ => ⟨List.Pairwise.nil, fun _ hm => (nomatch hm)⟩⟩, h2, h3, h4⟩

/-! ### rules over ANY heap (no ledger) from facts about the written part K: the library's own take a ledger (News) for what they write -/
section
variable {prog : Program} {w : World} {A : Around} {E : Value → Shared → Prop} {s : Shared} {K : Frag}

/-- a def of the module, or a method (qual 'C.m'), entered: the frame is the next address; cells behind it -/
theorem call_fn {R : Result → Shared → Prop} {name qual : Str} {params : Arguments} {body : List Stmt} {scope : Scope} {dV kV doc pm cdv ct oc : Value} {an od : Option Addr} {osl : Array (Option Value)} {f : Addr} {args : Args} {binds : List (Str × Value)}
    (X : K.In s.heap) (hlim : s.heap.NoLimit) (ho : K.lookup f = some ⟨oc, od, .func (fnOf name qual params body scope dV kV doc pm an cdv ct), osl⟩) (hcd : codeIn K cdv qual = true) (hroom : A.depth < recursionLimit)
    (hbind : BindsTo s (fnOf name qual params body scope dV kV doc pm an cdv ct) args binds)
    (hkind : (binds.all fun y => scope.names.lookup y.1 == some .local || scope.names.lookup y.1 == some .cell) = true)
    (h : ∀ s₁, InCallC s s.heap.objs.size (bindL (envOfC qual scope s.heap.objs.size f cdv).kindOf binds fun _ => none) (cellsFrom (s.heap.objs.size + 1) scope.names [])
        (bindC (envOfC qual scope s.heap.objs.size f cdv).kindOf binds fun _ => none) s₁ →
      wpAny (model prog w) (A.deeper (envOfC qual scope s.heap.objs.size f cdv)) (execs body (envOfC qual scope s.heap.objs.size f cdv))
        (fun fl s' => R (.ok (.ret (match fl with | .ret v => v | _ => .none))) s')
        (fun e s' => wpAny (model prog w) (A.deeper (envOfC qual scope s.heap.objs.size f cdv)) (leaving (envOfC qual scope s.heap.objs.size f cdv) e) (fun _ s'' => R (.error e) s'') (fun e' s'' => R (.error e') s'') s') s₁)
    (hco : scope.isCoroutine = false) (hgen : scope.isGenerator = false) (hk : scope.kind = .function) : codeAny (model prog w) A (.call (.ref f) args) R s := by
  refine codeAny_call_function hroom (X _ _ ho) rfl hco hgen rfl (codeRec_of X hcd) (hbind _ _ _ _ ?_)
  refine wpAny_newFunctionEnv_cells hk (kindsX hkind _) fun env he s₁ x => ?_
  subst he
  exact ⟨hlim.keeps x.toInCall.keep, codeAny_func (h s₁ x)⟩

/-- C(..): dict at size, instance at size + 1, then __init__ -/
theorem make_obj {R : Result → Shared → Prop} {C fI : Addr} {rest : List Value} {kw : List (Str × Value)}
    (X : K.In s.heap) (hm : makesIn K C = true) (hi : findIn K (.ref C) "__init__" = some (some (.ref fI))) (hf : isFn K (.ref fI) = true)
    (h : codeAny (model prog w) (A.under (.builtin "type.__call__" ⟨.ref C :: rest, kw⟩)) (.call (.ref fI) ⟨.ref (s.heap.objs.size + 1) :: rest, kw⟩) (InitBack (s.heap.objs.size + 1) R)
      { s with heap := (s.heap.push emptyDict).push (instObj C s.heap.objs.size) }) : codeAny (model prog w) A (.call (.ref C) ⟨rest, kw⟩) R s := by
  obtain ⟨hh, g, d, t, os⟩ := s
  exact make_core (makes_of X hm) (looks_findIn X hi) (fun self => bind_fn X self (beq_iff_eq.mp hf)) (.inl rfl) h

/-- x.name where the instance's dict holds the name and the class does not -/
theorem get_field {x C : Addr} {ox : Obj} {es : List DictEntry} {n : Nat} {name : Str} {expr : Bool} {v : Value} {Q : Value → Shared → Prop}
    (X : K.In s.heap) (I : PySem.W.InstAt s.heap x ox C (some (dictOf es n))) (hg : plainGet K C name = true) (hh : hasDictIn K C = true) (ha : findIn K (.ref C) name = some none)
    (hl : getL name es = some (some v)) (hv : handedIn v = true) (h : Q v { s with toks := s.toks + 1 }) : wpAny (model prog w) A (getAttr (.ref x) name expr) Q E s :=
  get_value X I (plainGet_of hg).1 (findObj_own hh ha rfl hl) hv h

/-- x.m(..): the method found in the class -/
theorem get_method {x C f : Addr} {ox : Obj} {es : List DictEntry} {n : Nat} {name : Str} {pl : Sem Bool} {Q : Value × List Value → Shared → Prop}
    (X : K.In s.heap) (I : PySem.W.InstAt s.heap x ox C (some (dictOf es n))) (hg : plainGet K C name = true) (hf : findIn K (.ref C) name = some (some (.ref f))) (ht : isFn K (.ref f) = true)
    (hl : getL name es = some none) (h : Q (.ref f, [.ref x]) s) : wpAny (model prog w) A (getMethod (.ref x) name pl) Q E s :=
  method_fn X I (plainGet_of hg).1 (plainGet_of hg).2 hf (beq_iff_eq.mp ht) (by show (lookIn name (dictOf es n)).map _ = _; rw [lookIn_dict, hl]; rfl) h

/-! the whole heap as the ledger: makes every rule that writes through a ledger a rule over any heap -/
def noObjs (h : Heap) : Heap := { h with objs := #[] }
theorem noObjs_get (h : Heap) (b : Addr) : (noObjs h).get? b = none := by
  cases e : (noObjs h).get? b with
  | none => rfl
  | some o => exact absurd (Heap.lt_size e) (Nat.not_lt_zero _)
def ledger (h : Heap) (L d : Addr) : List (Addr × Obj) := (List.range h.objs.size).filterMap fun a => if a = L ∨ a = d then none else (h.get? a).map fun o => (a, o)
theorem mem_ledger {h : Heap} {L d a : Addr} {o : Obj} : (a, o) ∈ ledger h L d ↔ a ≠ L ∧ a ≠ d ∧ h.get? a = some o := by
  unfold ledger
  rw [List.mem_filterMap]
  constructor
  · rintro ⟨b, _, e⟩
    split at e
    · cases e
    · rename_i hb
      obtain ⟨o', ho, e'⟩ := Option.map_eq_some_iff.mp e
      cases e'
      exact ⟨fun q => hb (.inl q), fun q => hb (.inr q), ho⟩
  · rintro ⟨n1, n2, ho⟩
    refine ⟨a, List.mem_range.mpr (Heap.lt_size ho), ?_⟩
    rw [if_neg (show ¬ (a = L ∨ a = d) from fun q => q.elim n1 n2), ho] <;> rfl
theorem news_ledger {h : Heap} {L d : Addr} {od : Obj} (hne : d ≠ L) (ho : h.get? d = some od) : News (noObjs h) L h ([] ++ (d, od) :: ledger h L d) := by
  rintro ⟨a, o⟩ hp
  rcases List.mem_cons.mp hp with e | hp
  · cases e
    exact ⟨ho, hne, noObjs_get _ _⟩
  · obtain ⟨n1, n2, e⟩ := mem_ledger.mp hp
    exact ⟨e, n1, noObjs_get _ _⟩
theorem fr_all {h : Heap} {L : Addr} {m : Str → Option Value} (n : h.Ns L m) : Fr (noObjs h) L h m :=
  ⟨n, fun b o e => (by rw [noObjs_get] at e; cases e), Nat.zero_le _⟩
/-- Upd of the head entry (for append_K, setItem_K ..) -/
theorem upd_ledger {h : Heap} {L d : Addr} {o o' : Obj} : Upd d o o' ((d, o) :: ledger h L d) ((d, o') :: ledger h L d) :=
  .head fun ⟨_, _⟩ hp => (mem_ledger.mp hp).2.1

/-- x.name = v over any heap: L is any namespace of the heap (the frame's, say): its map stays, its object is not told; all else but the dict stays -/
theorem set_field {x C dx L : Addr} {ox : Obj} {m : Str → Option Value} {es es' : List DictEntry} {n n' : Nat} {name : Str} {v : Value} {Q : Unit → Shared → Prop}
    (X : K.In s.heap) (I : PySem.W.InstAt s.heap x ox C (some (dictOf es n))) (hd : ox.dict = some dx) (hL : s.heap.Ns L m) (hne : dx ≠ L)
    (hs : findIn K (.ref C) "__setattr__" = some (some (.builtin "object.__setattr__"))) (hp : plainOver K C = true) (ht : takerIn K C name = some none) (hh : hasDictIn K C = true) (hl : (getL name es).isSome = true)
    (e : (putL name (PyData.keyHash w.params name) (.str name (s.toks + 1)) v es, putN name es n) = (es', n')) (hz : es'.length ≤ 1000)
    (h : ∀ h' : Heap, h'.Ns L m → h'.get? dx = some (dictOf es' n') → (∀ b o, b ≠ dx → b ≠ L → s.heap.get? b = some o → h'.get? b = some o) → Q () { s with heap := h', toks := s.toks + 2 }) :
    wpAny (model prog w) A (setAttr (.ref x) name v) Q E s := by
  obtain ⟨e1, e2⟩ := Prod.mk.inj e
  have hdx : s.heap.get? dx = some (dictOf es n) := by
    have := I.dict
    rw [hd] at this
    exact this
  refine set_plain X I hs (osa_dict (s := { s with toks := s.toks + 1 }) (h₀ := noObjs s.heap) (L := L) (m := m) (od := dictOf es n) (od' := dictOf es' n') (es := es') (n := n') (pre := []) (post := ledger s.heap L dx)
    (fr_all hL) (news_ledger hne hdx) X I hd hp ht hh hl (fun _ q => nomatch q) (fun ⟨_, _⟩ q => (mem_ledger.mp q).2.1) (by rw [putName_dict, e1, e2]) rfl hz fun h' F' N' => ?_)
  exact h h' F'.ns (N'.get (List.Mem.head _)) fun b o n1 n2 ho => N'.get (List.Mem.tail _ (mem_ledger.mpr ⟨n2, n1, ho⟩))
end
end Att

namespace L2
open PySem PySem.Spec PyProof.Rows

theorem vals_ints : ∀ {vs : List Value} {ns : List Int}, IntsAre vs ns → Vals (ns.map V.int) vs
  | _, _, .nil => .nil
  | _, _, .cons n t h => .cons ⟨t, rfl⟩ (vals_ints h)

/-- nothing is tracked but the script, known to the object (or it is an object of the module) -/
def Only (H : Hp) : Prop := ∀ b, H b = none ∨ ∃ o xs, H b = some (.frz o (.lst xs))

/-- THE HEAD: the law's promise, at the heap behind the top. F, the promise of the law's def, may use that base is part of the heap (so K.In base, base.Ns mainGlobals mg stand in Mod) -/
theorem law_call {P : Program} {w : World} {K : PySem.W.Frag} {mg mb : Str → Option Value} {CX : CXT} {k : Nat} {fa a : Addr} {fd : FuncData} {x : Str} {sp : Sp} {s₁ : Shared} {vs : List Value} {ns : List Int}
    (KX : K.In s₁.heap) (hns : s₁.heap.Ns mainGlobals mg) (hb : s₁.heap.Ns builtinsNs mb) (hbb : ∀ x : Str, x ≠ "__name__" → mb x = bootBuiltins x) (hlim : s₁.heap.NoLimit) (hg : s₁.gens = #[])
    (ha : s₁.heap.get? a = some { cls := .type "list", data := .seq vs.toArray }) (hi : IntsAre vs ns) (hl : ns.length ≤ sizeLine) (hr : Room k callerA)
    (F : ∀ base : Heap, K.In base → base.Ns mainGlobals mg → FnOk P w K mg base CX k fa fd [x] sp) (hbind : ∀ (s : Shared) (u : Value), BindsTo s fd ⟨[u], []⟩ [(x, u)])
    (hsp : ∀ H : Hp, Only H → SqL K H a (ns.map V.int) → sp [.ref a] H (fun v _ => v = .bl true) fun _ _ _ => False)
    (hCX : ∀ H e s', CX [] H s₁ (fun _ _ _ => False) e s' → False) :
    codeAny (model P w) callerA (.call (.ref fa) ⟨[.ref a], []⟩) (fun r s' => r = .ok (.ret (.bool true)) ∧ OldK s₁.heap s'.heap ∧ s'.os = s₁.os ∧ AllBare s'.gens) s₁ := by
  have rv := vals_ints hi
  have lenV := hi.length
  -- from an abstract heap in which nothing but the script may be tracked
  have core : ∀ H : Hp, Only H → SqL K H a (ns.map V.int) → HOk P w H s₁.heap → (∀ b, H b ≠ none → b = a) → (H a ≠ none → K.lookup a = none) →
      codeAny (model P w) callerA (.call (.ref fa) ⟨[.ref a], []⟩) (fun r s' => r = .ok (.ret (.bool true)) ∧ OldK s₁.heap s'.heap ∧ s'.os = s₁.os ∧ AllBare s'.gens) s₁ := by
    intro H hO hS hok hA hK
    have base_of : ∀ {b : Addr} {o : Obj}, s₁.heap.get? b = some o → H b = none → (hidT s₁.heap H).get? b = some o := fun e n => hidT_get e n
    have noA : ∀ {b : Addr} {o : Obj} {es : Array DictEntry} {ep : Nat}, s₁.heap.get? b = some o → o.data = .dict es ep → H b = none := fun {b o es ep} e d => by
      cases q : H b with
      | none => rfl
      | some u =>
        have e' : b = a := hA b (by rw [q]; simp)
        subst e'
        rw [ha] at e; cases e
        have d' : Data.seq vs.toArray _ = Data.dict es ep := d
        cases d'
    have nsK : ∀ {b : Addr} {m : Str → Option Value}, s₁.heap.Ns b m → (hidT s₁.heap H).Ns b m := fun {b m} ⟨o, es, ep, e, d, r⟩ => ⟨o, es, ep, base_of e (noA e d), d, r⟩
    have hKb : K.In (hidT s₁.heap H) := fun b o e => base_of (KX b o e) (by
      cases q : H b with
      | none => rfl
      | some u =>
        have e' : b = a := hA b (by rw [q]; simp)
        subst e'
        rw [hK (by rw [q]; simp)] at e; cases e)
    have hM : Mod K mg (hidT s₁.heap H) := ⟨hKb, nsK hns, ⟨mb, nsK hb, hbb⟩, let ⟨mc, h1, h2⟩ := hlim; ⟨mc, nsK h1, h2⟩⟩
    have e0 : Env0 P w K mg (hidT s₁.heap H) callerA [] s₁ H := ⟨rfl, hM, fun b o e => of_hidT e, Nat.le_of_eq (hidT_size _ _), trivial, fun b hb => absurd (show b ∈ ([] : List Addr) from hb) (by simp), hok, .of_eq hg⟩
    refine codeAny_mono ((F _ hKb (nsK hns)).run callerA [] s₁ H ⟨[.ref a], []⟩ [.ref a] [.ref a] _ _ hr e0 (hbind s₁ (.ref a)) (.cons rfl .nil) (hsp H hO hS)) fun r s' h => ?_
    cases r with
    | error e => exact (hCX H e s' h).elim
    | ok fl =>
      cases fl with
      | next => exact False.elim h
      | brk => exact False.elim h
      | cont => exact False.elim h
      | ret u =>
        obtain ⟨v, H', os, bare, un, hok', r', q⟩ := h
        have q' : v = .bl true := q
        subst q'
        obtain rfl : u = Value.bool true := r'
        refine ⟨rfl, OldK.of_keep fun b o e => ?_, os, bare⟩
        cases q : H b with
        | none => exact un.keep b o e q (by intro z; exact absurd (show b ∈ ([] : List Addr) from z) (by simp)) (by simp)
        | some u =>
          rcases hO b with z | ⟨ob, xs, z⟩
          · rw [q] at z; cases z
          · have z2 := un.frzs b ob _ z
            obtain ⟨e1, _⟩ := hok b _ z
            obtain ⟨e2, _⟩ := hok' b _ z2
            rw [e] at e1; cases e1
            exact e2
  cases hk : K.lookup a with
  | some o =>
    -- the script is one of the module's own objects
    have e := KX a o hk
    rw [ha] at e
    cases e
    refine core (fun _ => none) (fun _ => .inl rfl) (.inr ⟨_, vs.toArray, _, hk, rfl, rfl, rfl, by rw [List.size_toArray, lenV]; exact hl, by simpa using rv⟩) (fun b u z => by have z' : (none : Option HO) = some u := z; cases z') (fun b z => absurd rfl z) fun z => absurd rfl z
  | none =>
    refine core (fun b => if b = a then some (.frz { cls := .type "list", data := .seq vs.toArray } (.lst (ns.map V.int))) else none) (fun b => ?_) (.inl (.inr ⟨{ cls := .type "list", data := .seq vs.toArray }, if_pos rfl⟩)) (fun b u z => ?_) (fun b z => ?_) fun _ => hk
    · by_cases hb : b = a
      · exact .inr ⟨_, _, if_pos hb⟩
      · exact .inl (if_neg hb)
    · by_cases hb : b = a
      · have z' := (if_pos hb).symm.trans z
        cases z'
        subst hb
        exact ⟨ha, by rw [List.length_map]; exact hl, vs, _, rv, ha⟩
      · have z' := (if_neg hb).symm.trans z
        cases z'
    · by_cases hb : b = a
      · exact hb
      · exact absurd (if_neg hb) z
end L2

namespace L2
open PySem PySem.Spec PyProof.Rows

abbrev KOf {K : PySem.W.Frag} {h : Heap} (_ : K.In h) : PySem.W.Frag := K

/-- the goal that k_head leaves (case hc), from the law's promise. F gives the function object fd (K's own) once, then the promise over every base -/
theorem walk_of {l : PySem.W.OpenLaw} {n k : Nat} {q : Program} {loose : List Str} {XP : (Str → Option Value) → Heap → Prop} {YP : World → Heap → Prop} {d : DefRec} {K : Params → PySem.W.Frag} {CX : World → CXT} {sp : World → Sp} {x : Str}
    (hn : l.most = some n) (hn2 : n ≤ sizeLine) (hdf : d.params.defaults = []) (hr : Room k callerA)
    (hY : ∀ (w : World) (h : Heap), YP w h → (K w.params).In h)
    (F : ∀ (w : World) (mg : Str → Option Value) (fa : Addr) (h : Heap), (K w.params).In h → h.Ns mainGlobals mg → mg d.name = some (.ref fa) →
      ∃ fd : FuncData, (∀ (s : Shared) (u : Value), BindsTo s fd ⟨[u], []⟩ [(x, u)]) ∧
        ∀ base : Heap, (K w.params).In base → base.Ns mainGlobals mg → FnOk l.prog w (K w.params) mg base (CX w) k fa fd [x] (sp w))
    (hsp : ∀ (w : World) (H : Hp) (a : Addr) (ns : List Int), ns.length ≤ n → Only H → SqL (K w.params) H a (ns.map V.int) → sp w [.ref a] H (fun v _ => v = .bl true) fun _ _ _ => False)
    (hCX : ∀ (w : World) (H : Hp) (s : Shared) (e : Value) (s' : Shared), CX w [] H s (fun _ _ _ => False) e s' → False) :
    PySem.W.WalkO q loose XP YP l.row.toRowW d [] (fun f vs => PySem.call f vs) := by
  refine Att.attach_call hn hdf fun w s₀ s₁ mg mb fa o pm cd doc a vs ns G Y ho hd hcd hmg hobj hints hlen hg => ?_
  have KX := hY w _ Y
  obtain ⟨fd, hb, hF⟩ := F w mg fa _ KX G.T.g hmg
  exact law_call KX G.T.g G.T.b G.T.builtins G.T.nolimit hg hobj hints (Nat.le_trans hlen hn2) hr hF hb (fun H hO hS => hsp w H a ns hlen hO hS) fun H e s' => hCX w H s₁ e s'
/-- the same where the promise hangs on the written part alone: (sp := My.sp_law), no hole under a binder -/
theorem walk_ofK {l : PySem.W.OpenLaw} {n k : Nat} {q : Program} {loose : List Str} {XP : (Str → Option Value) → Heap → Prop} {YP : World → Heap → Prop} {d : DefRec} {K : Params → PySem.W.Frag} {CX : CXT} {sp : PySem.W.Frag → Sp} {x : Str}
    (hn : l.most = some n) (hn2 : n ≤ sizeLine) (hdf : d.params.defaults = []) (hr : Room k callerA)
    (hY : ∀ (w : World) (h : Heap), YP w h → (K w.params).In h)
    (F : ∀ (w : World) (mg : Str → Option Value) (fa : Addr) (h : Heap), (K w.params).In h → h.Ns mainGlobals mg → mg d.name = some (.ref fa) →
      ∃ fd : FuncData, (∀ (s : Shared) (u : Value), BindsTo s fd ⟨[u], []⟩ [(x, u)]) ∧
        ∀ base : Heap, (K w.params).In base → base.Ns mainGlobals mg → FnOk l.prog w (K w.params) mg base CX k fa fd [x] (sp (K w.params)))
    (hsp : ∀ (K : PySem.W.Frag) (H : Hp) (a : Addr) (ns : List Int), ns.length ≤ n → Only H → SqL K H a (ns.map V.int) → sp K [.ref a] H (fun v _ => v = .bl true) fun _ _ _ => False)
    (hCX : ∀ (H : Hp) (s : Shared) (e : Value) (s' : Shared), CX [] H s (fun _ _ _ => False) e s' → False) :
    PySem.W.WalkO q loose XP YP l.row.toRowW d [] (fun f vs => PySem.call f vs) :=
  walk_of (K := K) (CX := fun _ => CX) (sp := fun w => sp (K w.params)) hn hn2 hdf hr hY F (fun w H a ns h1 h2 h3 => hsp (K w.params) H a ns h1 h2 h3) fun _ H s e s' => hCX H s e s'
end L2

/- THE LAST THEOREM (shape; LID, My.* are yours):
   My.Adr: a structure of the addresses that your layer names (classes, functions); My.Txt K t: a structure (Prop) of the equations over K;
   My.txt_mk : {K} {implicit addresses ..} (e1 : nsIn K mainGlobals "law" = some (some (.ref f))) (e2 : K.lookup f = some ⟨oc, od, .func (fnOf "law" "law" params body scope dV kV doc pm an cdv ct), sl⟩) (e3 : codeIn K cdv "law" = true) .. : ∃ t, My.Txt K t

set_option maxRecDepth 100000 in
set_option maxHeartbeats 0 in
theorem PySem.Challenge.cw_LID_holds : PySem.Challenge.rw_LID.Holds := by
  w_on; o_law; k_head; (case hw => w_witness2)
  k_fill
  refine L2.walk_of (l := PySem.Challenge.rw_LID) (n := 63) (k := 40) (x := "script") (CX := fun w => ..) (sp := fun _ => My.sp_law) rfl (by decide) rfl ⟨rfl, by decide, by decide⟩ (fun w h Y => PySem.W.kIn_of Y) ?F ?S ?C
  case F =>
    intro w mg fa h KX G hmg
    have T : ∃ t, My.Txt (L2.KOf KX) t := by
      dsimp only [L2.KOf]                          -- K must stand as «<heap const> w.params» for k_is
      refine' My.txt_mk ?e1 ?e2 ?e3 ..
      (case e1 => PySem.W.k_is)                    -- in the order: a name -> its address -> its object -> its parts
      (case e2 => PySem.W.k_is)
      ..
    obtain ⟨t, T⟩ := T
    have e0 := hmg.symm.trans (PySem.W.mg_of KX G T.law)
    cases e0                                       -- fa is the law's own address
    exact ⟨_, fun s u => .of_eq rfl, fun base kb nb => My.law_fn T kb nb⟩     -- if «.of_eq rfl» comes too early: refine' ⟨_, ?b, fun base kb nb => My.law_fn T kb nb⟩; exact fun s u => .of_eq rfl
  case S => exact fun w H a ns hl hO hS => ..
  case C => exact ..
(the tactic k_is has no namespace: write k_is) -/

/-! SHORT WORDS over the layer: a def of the text, its body, what a loop and a test want. -/
namespace L2
open PySem PySem.Spec PyProof.Rows

/-! ### the text by places -/
/-- the j-th statement of a class's body -/
def inClass (s : Stmt) (j : Nat) : Stmt := match s with
  | .ClassDef _ _ _ body _ _ _ _ _ _ _ => body.getD j (.Pass ⟨0, 0, 0, 0⟩)
  | _ => .Pass ⟨0, 0, 0, 0⟩
def defArgs (s : Stmt) : Arguments := match s with
  | .FunctionDef _ a _ _ _ _ _ _ _ _ => a
  | _ => { posonlyargs := [], args := [], vararg := none, kwonlyargs := [], kw_defaults := [], kwarg := none, defaults := [] }
def defBody (s : Stmt) : List Stmt := match s with
  | .FunctionDef _ _ b _ _ _ _ _ _ _ => b
  | _ => []
def defScope (s : Stmt) : Scope := match s with
  | .FunctionDef _ _ _ _ _ _ sc _ _ _ => sc
  | _ => { kind := .function, names := [], isGenerator := false, isCoroutine := false }

/-! ### no exception leaves a def -/
abbrev CX0 : CXT := fun _ _ _ _ _ _ => False
abbrev E0 : XK := fun _ _ _ => False
theorem pass0 {X : Cx} : Passes CX0 X E0 := fun _ _ _ _ _ _ _ h => h.elim

/-! ### a def (or method) of the text as it stands behind the top -/
structure Fun (K : PySem.W.Frag) (x qual : Str) (st : Stmt) (f : Addr) (fd : FuncData) : Prop where
  ex : ∃ (oc : Value) (od : Option Addr) (kV doc pm : Value) (an : Option Addr) (cdv ct : Value) (osl : Array (Option Value)),
    fd = PySem.W.fnOf x qual (defArgs st) (defBody st) (defScope st) .none kV doc pm an cdv ct ∧ K.lookup f = some ⟨oc, od, .func fd, osl⟩ ∧ PySem.W.codeIn K cdv qual = true
  kp : PySem.W.keepIn K (.ref f) = true
section
variable {P : Program} {w : World} {K : PySem.W.Frag} {mg : Str → Option Value} {base : Heap}
/-- THE RULE for a def: its body as a term of rules, and the reading of that term -/
theorem Fun.ok {x qual : Str} {st : Stmt} {f : Addr} {fd : FuncData} {N ps : List Str} {k : Nat} {sp : Sp} (F : Fun K x qual st f fd) (S : FnScope N ps (defScope st)) (len : ∀ vs H Q E, sp vs H Q E → vs.length = ps.length)
    (hbody : ∀ (cdv : Value) (A : Around) (outer : List Env) (s : Shared) (H : Hp) (vs : List V) (Q : VK) (E : XK), Room k (A.deeper (envOfC qual (defScope st) s.heap.objs.size f cdv)) → sp vs H Q E →
      ∃ t, PSs (cxOf CX0 P w K mg base N qual (defScope st) f cdv A outer s H E).nox (defBody st) t ∧ t { nx := fun _ H' => Q .non H', rt := Q } (start N vs) H) : FnOk P w K mg base CX0 (k + 1) f fd ps sp := by
  obtain ⟨oc, od, kV, doc, pm, an, cdv, ct, osl, rfl, lk, hcd⟩ := F.ex
  refine fn_of lk hcd S len fun A outer s H vs Q E hr hsp => ?_
  obtain ⟨t, h, q⟩ := hbody cdv A outer s H vs Q E hr hsp
  exact ⟨t, h.nox, q⟩
/-- how its arguments bind (no defaults): h is «fun _ _ _ _ _ _ us hl => match us, hl with | [_, _], _ => rfl», one _ a parameter -/
theorem Fun.binds {x qual : Str} {st : Stmt} {f : Addr} {fd : FuncData} {ps : List Str} (F : Fun K x qual st f fd)
    (h : ∀ (kV doc pm : Value) (an : Option Addr) (cdv ct : Value) (us : List Value), us.length = ps.length → bindArgs (PySem.W.fnOf x qual (defArgs st) (defBody st) (defScope st) .none kV doc pm an cdv ct) ⟨us, []⟩ = pure (ps.zip us)) : Binds K fd ps [] := by
  obtain ⟨oc, od, kV, doc, pm, an, cdv, ct, osl, rfl, lk, hcd⟩ := F.ex
  exact .all (h kV doc pm an cdv ct)
theorem fun_mk {x qual : Str} {st : Stmt} {f : Addr} {oc : Value} {od an : Option Addr} {osl : Array (Option Value)} {kV doc pm cdv ct : Value} (l : K.lookup f = some ⟨oc, od, .func (PySem.W.fnOf x qual (defArgs st) (defBody st) (defScope st) .none kV doc pm an cdv ct), osl⟩)
    (c : PySem.W.codeIn K cdv qual = true) (k : PySem.W.keepIn K (.ref f) = true) : Fun K x qual st f (PySem.W.fnOf x qual (defArgs st) (defBody st) (defScope st) .none kV doc pm an cdv ct) := ⟨⟨oc, od, kV, doc, pm, an, cdv, ct, osl, rfl, l, c⟩, k⟩
end
theorem hu_of {A : Around} {k : Nat} (hr : Room k A) : A.units + 1 < cLine := Nat.lt_of_le_of_lt (Nat.add_le_add_left (by decide : 1 ≤ 64) _) hr.units
theorem small1000 {n : Nat} (h : n ≤ 1000) : n < sizeLine := Nat.lt_of_le_of_lt h (by decide)

/-! ### expressions in short: the name that stands in the i-th slot -/
section
variable {X : Cx}
theorem pv (i : Nat) {x : Str} {pos : Pos} (hN : X.N[i]? = some x := by rfl) (hv : Vis X.env.scope x := by first | exact Or.inl rfl | exact Or.inr (Or.inl rfl) | exact Or.inr (Or.inr rfl)) (hd : (x == ("__debug__" : Str)) = false := by decide)
    (hcd : (x == ("__classdict__" : Str)) = false := by decide) : PE X (.Name x pos) (tVar i) := pe_var hN hv hd hcd
end

/-! ### tests -/
theorem iteF {A B : Prop} (h : B) : if false = true then A else B := by
  rw [if_neg Bool.false_ne_true]
  exact h
theorem iteT {A B : Prop} (h : A) : if true = true then A else B := by
  rw [if_pos rfl]
  exact h
theorem ite2 {c A B : Prop} [Decidable c] (h1 : c → A) (h2 : ¬ c → B) : if c then A else B := by
  by_cases h : c
  · rw [if_pos h]
    exact h1 h
  · rw [if_neg h]
    exact h2 h
theorem iteNS {c A B : Prop} [Decidable c] (hc : c) (h : B) : if (!decide c) = true then A else B := by
  rw [decide_eq_true hc]
  exact iteF h

/-! ### heaps -/
/-- all that was tracked is as it was -/
def Same (H H' : Hp) : Prop := ∀ b o, H b = some o → H' b = some o
theorem Same.refl (H : Hp) : Same H H := fun _ _ h => h
theorem Same.trans {H H1 H2 : Hp} (a : Same H H1) (b : Same H1 H2) : Same H H2 := fun c o h => b c o (a c o h)
theorem Same.free {H H' : Hp} (e : Same H H') {l : Addr} (h : H' l = Option.none) : H l = Option.none := by
  cases q : H l with
  | none => rfl
  | some o =>
    rw [e l o q] at h
    cases h
theorem Same.seq {K : PySem.W.Frag} {H H' : Hp} {a : Addr} {xs : List V} (e : Same H H') (h : SqL K H a xs) : SqL K H' a xs := by
  rcases h with (h | ⟨o, h⟩) | h
  · exact .inl (.inl (e _ _ h))
  · exact .inl (.inr ⟨o, e _ _ h⟩)
  · exact .inr h

end L2

namespace L2
open PySem PySem.Spec PyProof.Rows

/-! ### lists of pairs as tables -/
section
variable {κ : Type} [DecidableEq κ]
def valV (kvs : List (κ × V)) (k : κ) : Option V := (kvs.find? fun kv => decide (kv.1 = k)).map (·.2)
/-- in its place, or at the end -/
def putK (kvs : List (κ × V)) (k : κ) (v : V) : List (κ × V) :=
  if (kvs.any fun kv => decide (kv.1 = k)) = true then kvs.map (fun kv => if kv.1 = k then (kv.1, v) else kv) else kvs ++ [(k, v)]
def dropK (kvs : List (κ × V)) (k : κ) : List (κ × V) := kvs.filter fun kv => decide (kv.1 ≠ k)

theorem valV_nil {k : κ} : valV ([] : List (κ × V)) k = none := rfl
theorem valV_pos {p : κ × V} {r : List (κ × V)} {k : κ} (e : p.1 = k) : valV (p :: r) k = some p.2 := by simp [valV, List.find?_cons, e]
theorem valV_neg {p : κ × V} {r : List (κ × V)} {k : κ} (e : ¬ p.1 = k) : valV (p :: r) k = valV r k := by simp [valV, List.find?_cons, e]
theorem valV_any (k : κ) : ∀ kvs : List (κ × V), (kvs.any fun kv => decide (kv.1 = k)) = (valV kvs k).isSome
  | [] => rfl
  | p :: r => by
    rw [List.any_cons]
    by_cases e : p.1 = k
    · simp only [valV_pos e, decide_eq_true e, Bool.true_or, Option.isSome_some]
    · rw [valV_neg e, decide_eq_false e, Bool.false_or]; exact valV_any k r
theorem valV_map (k j : κ) (y : V) : ∀ kvs : List (κ × V), valV (kvs.map fun kv => if kv.1 = k then (kv.1, y) else kv) j = (valV kvs j).map fun x => if j = k then y else x
  | [] => rfl
  | p :: r => by
    have ih := valV_map k j y r
    rw [List.map_cons]
    by_cases h : p.1 = k
    · rw [if_pos h]
      by_cases e : p.1 = j
      · rw [valV_pos (p := (p.1, y)) e, valV_pos e, Option.map_some, if_pos (e.symm.trans h)]
      · rw [valV_neg (p := (p.1, y)) e, valV_neg e, ih]
    · rw [if_neg h]
      by_cases e : p.1 = j
      · rw [valV_pos (p := p) e, valV_pos e, Option.map_some, if_neg (fun z => h (e.trans z))]
      · rw [valV_neg (p := p) e, valV_neg e, ih]
theorem valV_snoc (k j : κ) (y : V) : ∀ kvs : List (κ × V), valV kvs k = none → valV (kvs ++ [(k, y)]) j = if j = k then some y else valV kvs j
  | [], _ => by
    by_cases e : k = j
    · rw [if_pos e.symm]; exact valV_pos (p := (k, y)) e
    · rw [if_neg (fun z => e z.symm)]; exact valV_neg (p := (k, y)) e
  | p :: r, hn => by
    rw [List.cons_append]
    have hk : ¬ p.1 = k := fun z => by rw [valV_pos z] at hn; cases hn
    rw [valV_neg hk] at hn
    have ih := valV_snoc k j y r hn
    by_cases e : p.1 = j
    · rw [valV_pos e, valV_pos e, if_neg (fun z => hk (e.trans z))]
    · rw [valV_neg e, valV_neg e, ih]
theorem valV_put (kvs : List (κ × V)) (k j : κ) (y : V) : valV (putK kvs k y) j = if j = k then some y else valV kvs j := by
  unfold putK
  by_cases a : (kvs.any fun kv => decide (kv.1 = k)) = true
  · rw [if_pos a, valV_map]
    rw [valV_any] at a
    by_cases e : j = k
    · obtain ⟨x, hx⟩ := Option.isSome_iff_exists.mp a
      rw [if_pos e, e, hx, Option.map_some, if_pos rfl]
    · rw [if_neg e]
      cases valV kvs j with
      | none => rfl
      | some x => rw [Option.map_some, if_neg e]
  · rw [if_neg a]
    refine valV_snoc k j y kvs ?_
    rw [valV_any] at a
    cases q : valV kvs k with
    | none => rfl
    | some x => rw [q] at a; exact (a rfl).elim
theorem length_putK (kvs : List (κ × V)) (k : κ) (v : V) : (putK kvs k v).length ≤ kvs.length + 1 := by
  unfold putK
  split
  · rw [List.length_map]; omega
  · rw [List.length_append, List.length_cons, List.length_nil]; omega
theorem putK_new {kvs : List (κ × V)} {k : κ} (v : V) (h : valV kvs k = none) : putK kvs k v = kvs ++ [(k, v)] := by
  unfold putK
  rw [valV_any, h]
  exact if_neg (by decide)

theorem RelO.isSome_eq {o : Option V} {u : Option Value} (r : RelO o u) : o.isSome = u.isSome := by
  cases o with
  | none => cases u with
    | none => rfl
    | some _ => exact (show False from r).elim
  | some _ => cases u with
    | none => exact (show False from r).elim
    | some _ => rfl
theorem RelO.getD {o : Option V} {u : Option Value} {d : V} {d' : Value} (r : RelO o u) (rd : RelV d d') : RelV (o.getD d) (u.getD d') := by
  cases o with
  | none => cases u with
    | none => exact rd
    | some _ => exact (show False from r).elim
  | some _ => cases u with
    | none => exact (show False from r).elim
    | some _ => exact r

/-- raw tables of the same keys -/
theorem KV.val {kvs : List (κ × V)} {vs : List (κ × Value)} (r : KV kvs vs) (k : κ) : RelO (valV kvs k) (valueAt vs k) := by
  unfold KV at r
  induction r with
  | nil => exact True.intro
  | @cons p q ps qs h t ih =>
    obtain ⟨h1, h2⟩ := h
    by_cases e : p.1 = k
    · have e' : q.1 = k := h1.symm.trans e
      have b : valueAt (q :: qs) k = some q.2 := by simp [valueAt, List.find?_cons, e']
      rw [valV_pos e, b]; exact h2
    · have e' : ¬ q.1 = k := fun z => e (h1.trans z)
      have b : valueAt (q :: qs) k = valueAt qs k := by simp [valueAt, List.find?_cons, e']
      rw [valV_neg e, b]; exact ih
theorem KV.any {kvs : List (κ × V)} {vs : List (κ × Value)} (r : KV kvs vs) (k : κ) : (kvs.any fun kv => decide (kv.1 = k)) = vs.any fun kv => decide (kv.1 = k) := by
  unfold KV at r
  induction r with
  | nil => rfl
  | cons h t ih => rw [List.any_cons, List.any_cons, ih, h.1]
theorem KV.repl {kvs : List (κ × V)} {vs : List (κ × Value)} (r : KV kvs vs) (k : κ) {y : V} {u : Value} (ry : RelV y u) :
    KV (kvs.map fun kv => if kv.1 = k then (kv.1, y) else kv) (vs.map fun kv => if kv.1 = k then (kv.1, u) else kv) := by
  unfold KV at r ⊢
  induction r with
  | nil => exact .nil
  | @cons p q ps qs h t ih =>
    rw [List.map_cons, List.map_cons]
    refine .cons ?_ ih
    obtain ⟨h1, h2⟩ := h
    by_cases e : p.1 = k
    · rw [if_pos e, if_pos (h1.symm.trans e)]; exact ⟨h1, ry⟩
    · rw [if_neg e, if_neg (fun z => e (h1.trans z))]; exact ⟨h1, h2⟩
theorem KV.put {kvs : List (κ × V)} {vs : List (κ × Value)} (r : KV kvs vs) (k : κ) {y : V} {u : Value} (ry : RelV y u) : KV (putK kvs k y) (stored vs k u) := by
  unfold putK stored
  rw [r.any k]
  by_cases e : (vs.any fun kv => decide (kv.1 = k)) = true
  · rw [if_pos e, if_pos e]; exact r.repl k ry
  · rw [if_neg e, if_neg e]; exact Paired.snoc r ⟨rfl, ry⟩
theorem KV.drop {kvs : List (κ × V)} {vs : List (κ × Value)} (r : KV kvs vs) (k : κ) : KV (dropK kvs k) (without vs k) := by
  unfold KV at r ⊢
  unfold dropK without
  induction r with
  | nil => exact .nil
  | @cons p q ps qs h t ih =>
    obtain ⟨h1, h2⟩ := h
    rw [List.filter_cons, List.filter_cons]
    by_cases e : p.1 = k
    · have a : ¬ decide (p.1 ≠ k) = true := by simp [e]
      have b : ¬ decide (q.1 ≠ k) = true := by simp [h1.symm.trans e]
      rw [if_neg a, if_neg b]; exact ih
    · have e' : ¬ q.1 = k := fun z => e (h1.trans z)
      have a : decide (p.1 ≠ k) = true := by simp [e]
      have b : decide (q.1 ≠ k) = true := by simp [e']
      rw [if_pos a, if_pos b]; exact .cons ⟨h1, h2⟩ ih
theorem KV.keys {kvs : List (κ × V)} {vs : List (κ × Value)} (r : KV kvs vs) : kvs.map (·.1) = vs.map (·.1) := by
  unfold KV at r
  induction r with
  | nil => rfl
  | cons h t ih => rw [List.map_cons, List.map_cons, ih, h.1]
theorem KV.length {kvs : List (κ × V)} {vs : List (κ × Value)} (r : KV kvs vs) : kvs.length = vs.length := Paired.length r
theorem dropK_le (kvs : List (κ × V)) (k : κ) : (dropK kvs k).length ≤ kvs.length := List.length_filter_le _ _
end


/-! ### a tracked dict, its keys ints and texts or tuples of these -/
theorem kV_is {P : Program} {w : World} {k : Key} {u : Value} (r : RelV (kV k) u) : (mixKind P w).is k u = true := by
  cases k with
  | inl i => obtain ⟨t, e⟩ := (show ∃ t, u = Value.int i t from r); subst e; exact mixKind_int P w i t
  | inr x => obtain ⟨t, e⟩ := (show ∃ t, u = Value.str x t from r); subst e; exact mixKind_str P w x t
theorem kV_inj {a b : Key} (e : kV a = kV b) : a = b := by
  cases a with
  | inl i => cases b with
    | inl j => have e' : V.int i = V.int j := e; injection e' with e'; rw [e']
    | inr y => exact nomatch (show V.int i = V.str y from e)
  | inr x => cases b with
    | inl j => exact nomatch (show V.str x = V.int j from e)
    | inr y => have e' : V.str x = V.str y := e; injection e' with e'; rw [e']
theorem kVs_inj : ∀ {a b : List Key}, a.map kV = b.map kV → a = b
  | [], [], _ => rfl
  | [], _ :: _, e => by simp at e
  | _ :: _, [], e => by simp at e
  | x :: xs, y :: ys, e => by
    rw [List.map_cons, List.map_cons] at e
    injection e with e1 e2
    rw [kV_inj e1, kVs_inj e2]
theorem items_are {P : Program} {w : World} : ∀ {ks : List Key} {us : List Value}, Vals (ks.map kV) us → ItemsAre (mixKind P w) ks us
  | [], _, r => by rw [List.map_nil] at r; cases r; exact .nil
  | k :: ks, _, r => by
    rw [List.map_cons] at r
    cases r with
    | cons h t => exact .cons (kV_is h) (items_are t)

/-- raw entries of a dict with tuple keys -/
abbrev KT (H : Hp) : List (List Key × V) → List (List Key × Addr × Value) → Prop := Paired fun p q => p.1 = q.1 ∧ H q.2.1 = some (.tup (p.1.map kV)) ∧ RelV p.2 q.2.2
theorem KT.val {H : Hp} {kvs : List (List Key × V)} {xs : List (List Key × Addr × Value)} (r : KT H kvs xs) (k : List Key) : RelO (valV kvs k) ((atKey xs k).map (·.2)) := by
  induction r with
  | nil => exact True.intro
  | @cons p q ps qs h t ih =>
    obtain ⟨h1, _, h2⟩ := h
    by_cases e : p.1 = k
    · have e' : q.1 = k := h1.symm.trans e
      have b : atKey (q :: qs) k = some q.2 := by simp [atKey, List.find?_cons, e']
      rw [valV_pos e, b]; exact h2
    · have e' : ¬ q.1 = k := fun z => e (h1.trans z)
      have b : atKey (q :: qs) k = atKey qs k := by simp [atKey, List.find?_cons, e']
      rw [valV_neg e, b]; exact ih
theorem KT.repl {H : Hp} {kvs : List (List Key × V)} {xs : List (List Key × Addr × Value)} (r : KT H kvs xs) (k : List Key) {y : V} {u : Value} (ry : RelV y u) :
    KT H (kvs.map fun kv => if kv.1 = k then (kv.1, y) else kv) (xs.map (putAt k u)) := by
  induction r with
  | nil => exact .nil
  | @cons p q ps qs h t ih =>
    rw [List.map_cons, List.map_cons]
    refine .cons ?_ ih
    obtain ⟨h1, h2, h3⟩ := h
    unfold putAt
    by_cases e : p.1 = k
    · rw [if_pos e, if_pos (h1.symm.trans e)]; exact ⟨h1, h2, ry⟩
    · rw [if_neg e, if_neg (fun z => e (h1.trans z))]; exact ⟨h1, h2, h3⟩
theorem KT.put {H : Hp} {kvs : List (List Key × V)} {xs : List (List Key × Addr × Value)} (r : KT H kvs xs) (k : List Key) {b : Addr} {y : V} {u : Value} (hb : H b = some (.tup (k.map kV))) (ry : RelV y u) :
    KT H (putK kvs k y) (storedH xs k b u) := by
  have e : (kvs.any fun kv => decide (kv.1 = k)) = (atKey xs k).isSome := by
    rw [valV_any, (r.val k).isSome_eq, Option.isSome_map]
  unfold putK storedH
  rw [e]
  by_cases q : (atKey xs k).isSome = true
  · rw [if_pos q, if_pos q]; exact r.repl k ry
  · rw [if_neg q, if_neg q]; exact Paired.snoc r ⟨rfl, hb, ry⟩
theorem KT.keeps {H H' : Hp} {kvs : List (List Key × V)} {xs : List (List Key × Addr × Value)} (r : KT H kvs xs) (ht : ∀ b ys, H b = some (.tup ys) → H' b = some (.tup ys)) : KT H' kvs xs :=
  Paired.mapP r fun _ _ z => ⟨z.1, ht _ _ z.2.1, z.2.2⟩

section
variable {P : Program} {w : World} {H : Hp} {h : Heap} {a : Addr}
theorem rd_of {u : HO} (ok : HOk P w H h) (e : Rd H a u) : ObjOk P w H h a u := e.ok ok
theorem dk_rd {kvs : List (Key × V)} (ok : HOk P w H h) (e : Rd H a (.dK kvs)) : kvs.length ≤ sizeLine ∧ (a == sysModules) = false ∧ ∃ vs, KV kvs vs ∧ h.DictOf (mixKind P w) a vs :=
  show ObjOk P w H h a (.dK kvs) from rd_of ok e
theorem dk_of {kvs : List (Key × V)} (ok : HOk P w H h) (e : H a = some (.dK kvs)) : kvs.length ≤ sizeLine ∧ (a == sysModules) = false ∧ ∃ vs, KV kvs vs ∧ h.DictOf (mixKind P w) a vs := dk_rd ok (.inl e)
/-- a tracked tuple of ints and texts is a key -/
theorem key_of {ks : List Key} (ok : HOk P w H h) (e : H a = some (.tup (ks.map kV))) : (tupleKind (mixKind P w)).is h ks a := by
  obtain ⟨_, its, r, o, h1, h2, n, h3⟩ := (show ObjOk P w H h a (.tup (ks.map kV)) from ok a _ e)
  exact ⟨o, its.toArray, n, h1, h2, h3, by simpa using items_are r⟩
theorem dt_rd {kvs : List (List Key × V)} (ok : HOk P w H h) (e : Rd H a (.dT kvs)) : kvs.length ≤ sizeLine ∧ (a == sysModules) = false ∧
    ∃ xs, KT H kvs xs ∧ h.DictOfH (tupleKind (mixKind P w)) a xs := by
  obtain ⟨z, y, xs, r, o, es, ep, h1, h2, h3, h4, h5⟩ := (show ObjOk P w H h a (.dT kvs) from rd_of ok e)
  refine ⟨z, y, xs, r, o, es, ep, h1, h2, h3, h4, fun x hx => ?_, h5⟩
  have all : ∀ {l : List (List Key × V)} {m : List (List Key × Addr × Value)}, KT H l m → ∀ x ∈ m, (tupleKind (mixKind P w)).is h x.1 x.2.1 := by
    intro l m q
    induction q with
    | nil => intro x hx; exact nomatch hx
    | @cons p q ps qs hq t ih =>
      intro x hx
      rcases List.mem_cons.mp hx with e | hx
      · subst e
        exact key_of ok (by rw [← hq.1]; exact hq.2.1)
      · exact ih x hx
  exact all r x hx
theorem dt_of {kvs : List (List Key × V)} (ok : HOk P w H h) (e : H a = some (.dT kvs)) : kvs.length ≤ sizeLine ∧ (a == sysModules) = false ∧
    ∃ xs, KT H kvs xs ∧ h.DictOfH (tupleKind (mixKind P w)) a xs := dt_rd ok (.inl e)
end

/-- what the dict at a holds at the key y -/
def DGet (H : Hp) (a : Addr) (y : V) (r : Option V) : Prop :=
  (∃ kvs k, Rd H a (.dK kvs) ∧ y = kV k ∧ r = valV kvs k) ∨ ∃ kvs k b, Rd H a (.dT kvs) ∧ y = .ref b ∧ H b = some (.tup (k.map kV)) ∧ r = valV kvs k
/-- the heap behind a[y] = v -/
def DPut (H : Hp) (a : Addr) (y v : V) (H' : Hp) : Prop :=
  (∃ kvs k, H a = some (.dK kvs) ∧ y = kV k ∧ kvs.length < sizeLine ∧ H' = upd H a (.dK (putK kvs k v))) ∨
  ∃ kvs k b, H a = some (.dT kvs) ∧ y = .ref b ∧ H b = some (.tup (k.map kV)) ∧ kvs.length < sizeLine ∧ H' = upd H a (.dT (putK kvs k v))
theorem DGet.k {H : Hp} {a : Addr} {kvs : List (Key × V)} {k : Key} (e : H a = some (.dK kvs)) : DGet H a (kV k) (valV kvs k) := .inl ⟨kvs, k, .inl e, rfl, rfl⟩
theorem DGet.t {H : Hp} {a b : Addr} {kvs : List (List Key × V)} {k : List Key} (e : H a = some (.dT kvs)) (eb : H b = some (.tup (k.map kV))) : DGet H a (.ref b) (valV kvs k) := .inr ⟨kvs, k, b, .inl e, rfl, eb, rfl⟩
theorem DPut.k {H : Hp} {a : Addr} {kvs : List (Key × V)} {k : Key} {v : V} (e : H a = some (.dK kvs)) (hl : kvs.length < sizeLine) : DPut H a (kV k) v (upd H a (.dK (putK kvs k v))) := .inl ⟨kvs, k, e, rfl, hl, rfl⟩
theorem DPut.t {H : Hp} {a b : Addr} {kvs : List (List Key × V)} {k : List Key} {v : V} (e : H a = some (.dT kvs)) (eb : H b = some (.tup (k.map kV))) (hl : kvs.length < sizeLine) :
    DPut H a (.ref b) v (upd H a (.dT (putK kvs k v))) := .inr ⟨kvs, k, b, e, rfl, eb, hl, rfl⟩


section
variable {X : Cx} {pins : List (Addr × Obj)} {σ : St} {H : Hp} {s : Shared} {a : Addr} {y v : V} {u r : Value} {o : Option V} {A : Around} {E : Value → Shared → Prop}

theorem Inv.big (I : Inv X pins σ H s) : sysModules < s.heap.objs.size := by
  have h : mainGlobals < s.heap.objs.size := (I.mod.glob.keeps I.bk).lt
  exact Nat.lt_trans (by decide) h

/-- d[y], there -/
theorem d_getItem {Q : Value → Shared → Prop} (hu : A.units + 1 < cLine) (I : Inv X pins σ H s) (g : DGet H a y (some v)) (ry : RelV y u) (h : ∀ w' s', Inv X pins σ H s' → RelV v w' → Q w' s') :
    wpAny (model X.prog X.w) A (getItem (.ref a) u) Q E s := by
  rcases g with ⟨kvs, k, e, ey, l⟩ | ⟨kvs, k, b, e, ey, eb, l⟩
  · subst ey
    obtain ⟨z, hd, vs, rel, dd⟩ := dk_rd I.hok e
    obtain ⟨w', hw, rw'⟩ := RelO.some_of (v := v) (o := valueAt vs k) (by rw [l]; exact rel.val k)
    exact wpAny_getItem_of (kV_is ry) dd.mapOf hw (h w' _ (I.tok _) rw')
  · subst ey
    cases (show u = Value.ref b from ry)
    obtain ⟨z, hd, xs, rel, dd⟩ := dt_rd I.hok e
    obtain ⟨w', hw, rw'⟩ := RelO.some_of (v := v) (o := (atKey xs k).map (·.2)) (by rw [l]; exact rel.val k)
    obtain ⟨p, hp, hp2⟩ := Option.map_eq_some_iff.mp hw
    refine wpAny_getItem_heap (tupleKind_room_in1 hu) (key_of I.hok eb) dd hp ?_
    rw [hp2]
    exact h w' _ (I.tok _) rw'
/-- y in d -/
theorem d_in {Q : Value → Shared → Prop} (hu : A.units + 1 < cLine) (I : Inv X pins σ H s) (g : DGet H a y o) (ry : RelV y u) (h : ∀ s', Inv X pins σ H s' → Q (.bool o.isSome) s') :
    wpAny (model X.prog X.w) A (compareOp .In u (.ref a)) Q E s := by
  rcases g with ⟨kvs, k, e, ey, l⟩ | ⟨kvs, k, b, e, ey, eb, l⟩
  · subst ey
    obtain ⟨z, hd, vs, rel, dd⟩ := dk_rd I.hok e
    refine wpAny_in_of (kV_is ry) hd dd.mapOf ?_
    rw [← (rel.val k).isSome_eq, ← l]
    exact h _ (I.tok _)
  · subst ey
    cases (show u = Value.ref b from ry)
    obtain ⟨z, hd, xs, rel, dd⟩ := dt_rd I.hok e
    refine wpAny_in_heap (tupleKind_room_in1 hu) (key_of I.hok eb) hd dd ?_
    have q := (rel.val k).isSome_eq
    rw [Option.isSome_map] at q
    rw [← q, ← l]
    exact h _ (I.tok _)
theorem d_notIn {Q : Value → Shared → Prop} (hu : A.units + 1 < cLine) (I : Inv X pins σ H s) (g : DGet H a y o) (ry : RelV y u) (h : ∀ s', Inv X pins σ H s' → Q (.bool (!o.isSome)) s') :
    wpAny (model X.prog X.w) A (compareOp .NotIn u (.ref a)) Q E s := by
  rcases g with ⟨kvs, k, e, ey, l⟩ | ⟨kvs, k, b, e, ey, eb, l⟩
  · subst ey
    obtain ⟨z, hd, vs, rel, dd⟩ := dk_rd I.hok e
    refine wpAny_notIn_of (kV_is ry) hd dd.mapOf ?_
    rw [← (rel.val k).isSome_eq, ← l]
    exact h _ (I.tok _)
  · subst ey
    cases (show u = Value.ref b from ry)
    obtain ⟨z, hd, xs, rel, dd⟩ := dt_rd I.hok e
    refine wpAny_notIn_heap (tupleKind_room_in1 hu) (key_of I.hok eb) hd dd ?_
    have q := (rel.val k).isSome_eq
    rw [Option.isSome_map] at q
    rw [← q, ← l]
    exact h _ (I.tok _)
/-- a dict's object is replaced -/
theorem d_write {h' : Heap} {t' : Nat} {ob : HO} (I : Inv X pins σ H s) (mu : Mut (H a)) (hs : Heap.SameBut a s.heap h') (he : ∃ q, h'.get? a = some q) (new : ObjOk X.prog X.w (upd H a ob) h' a ob) :
    Inv X pins σ (upd H a ob) { s with heap := h', toks := t' } :=
  I.write (x := a) (e := a) mu (.inl rfl) (fun b q hb z => (hs.2 b hb).trans z) he new
theorem dk_new {P : Program} {w : World} {H' : Hp} {h' : Heap} {kvs : List (Key × V)} {vs : List (Key × Value)} (z : kvs.length ≤ sizeLine) (hd : (a == sysModules) = false) (rel : KV kvs vs) (dd : h'.DictOf (mixKind P w) a vs) :
    ObjOk P w H' h' a (.dK kvs) := ⟨z, hd, vs, rel, dd⟩
/-- d[y] = v -/
theorem d_setItem {H' : Hp} {Q : Unit → Shared → Prop} (hu : A.units + 1 < cLine) (I : Inv X pins σ H s) (g : DPut H a y v H') (ry : RelV y u) (rv : RelV v r) (h : ∀ s', Inv X pins σ H' s' → Q () s') :
    wpAny (model X.prog X.w) A (setItem (.ref a) u r) Q E s := by
  rcases g with ⟨kvs, k, e, ey, l, eH⟩ | ⟨kvs, k, b, e, ey, eb, l, eH⟩
  · subst ey eH
    obtain ⟨z, hd, vs, rel, dd⟩ := dk_of I.hok e
    have hz : vs.length ≤ sizeLine := by rw [← rel.length]; exact z
    have hl : (putK kvs k v).length ≤ sizeLine := by have := length_putK kvs k v; omega
    refine wpAny_setItem_pairs (hsz := hz) (kV_is ry) dd fun h' dd' hs => h _ ?_
    have he : ∃ q, h'.get? a = some q := let ⟨q, _, _, hq, _⟩ := dd'; ⟨q, hq⟩
    exact d_write I (by rw [e]; exact True.intro) hs he (dk_new hl hd (rel.put k rv) dd')
  · subst ey eH
    cases (show u = Value.ref b from ry)
    obtain ⟨z, hd, xs, rel, dd⟩ := dt_of I.hok e
    have hz : xs.length ≤ sizeLine := by rw [← Paired.length rel]; exact z
    have hl : (putK kvs k v).length ≤ sizeLine := by have := length_putK kvs k v; omega
    refine wpAny_setItem_heap (hsz := hz) (tupleKind_room_in1 hu) (key_of I.hok eb) dd fun h' dd' hs => h _ ?_
    obtain ⟨q, es, ep, hq, h2, h3, h4, _, h5⟩ := dd'
    refine d_write I (by rw [e]; exact True.intro) hs ⟨q, hq⟩ ⟨hl, hd, _, (rel.put k eb rv).keeps fun c ys ec => ?_, q, es, ep, hq, h2, h3, h4, h5⟩
    rw [upd_ne (ne_of ec e (fun z => nomatch z))]
    exact ec
end

section
variable {X : Cx} {pins : List (Addr × Obj)} {σ : St} {H : Hp} {s : Shared} {a : Addr} {kvs : List (Key × V)} {k : Key} {u : Value} {A : Around} {E : Value → Shared → Prop}
/-- del d[k] -/
theorem d_delItem {Q : Unit → Shared → Prop} (I : Inv X pins σ H s) (e : H a = some (.dK kvs)) (ry : RelV (kV k) u) (l : (valV kvs k).isSome = true) (h : ∀ s', Inv X pins σ (upd H a (.dK (dropK kvs k))) s' → Q () s') :
    wpAny (model X.prog X.w) A (delItem (.ref a) u) Q E s := by
  obtain ⟨z, hd, vs, rel, dd⟩ := dk_of I.hok e
  refine wpAny_delItem_slot dd.typeIs (by decide) PySem.F.slot_dict_delitem
    (call_meetsIn PySem.F.slot_dict_delitem dd.typeIs PySem.F.entry_dict_delitem (PySem.F.args_dict_delitem_2 _ _) (meets_dict_delitem_pairs (mixKind X.prog X.w) a (kV_is ry)) ⟨vs, dd, by rw [← rel.length]; exact z, by rw [← (rel.val k).isSome_eq]; exact l, fun h' dd' hs => h _ ?_⟩)
  have he : ∃ q, h'.get? a = some q := let ⟨q, _, _, hq, _⟩ := dd'; ⟨q, hq⟩
  exact d_write I (by rw [e]; exact True.intro) hs he (dk_new (Nat.le_trans (dropK_le kvs k) z) hd (rel.drop k) dd')
/-- d.pop(k[, x]), there -/
theorem d_pop {v : V} {more : List Value} {Q : Value → Shared → Prop} (I : Inv X pins σ H s) (e : H a = some (.dK kvs)) (ry : RelV (kV k) u) (l : valV kvs k = some v) (hm : more = [] ∨ ∃ x, more = [x])
    (h : ∀ w' s', Inv X pins σ (upd H a (.dK (dropK kvs k))) s' → RelV v w' → Q w' s') : wpAny (model X.prog X.w) A (call (.builtin "dict.pop") (.ref a :: u :: more)) Q E s := by
  obtain ⟨z, hd, vs, rel, dd⟩ := dk_of I.hok e
  obtain ⟨w', hw, rw'⟩ := RelO.some_of (v := v) (o := valueAt vs k) (by rw [← l]; exact rel.val k)
  have hp : (keyPart u).isSome = true := by
    cases k with
    | inl i => obtain ⟨t, q⟩ := (show ∃ t, u = Value.int i t from ry); subst q; rfl
    | inr x => obtain ⟨t, q⟩ := (show ∃ t, u = Value.str x t from ry); subst q; rfl
  have ha : argsOk "dict.pop" ⟨.ref a :: u :: more, []⟩ := by
    rcases hm with q | ⟨x, q⟩
    · subst q; exact PySem.F.args_dict_pop_2 _ _
    · subst q; exact PySem.F.args_dict_pop_3 _ _ _
  refine call_meetsIn PySem.F.slot_dict_pop dd.typeIs PySem.F.entry_dict_pop ha (meets_dict_pop_there (mixKind X.prog X.w) a (kV_is ry) more hm hp)
    ⟨vs, w', dd, by rw [← rel.length]; exact z, hw, fun h' dd' hs => h w' _ ?_ rw'⟩
  have he : ∃ q, h'.get? a = some q := let ⟨q, _, _, hq, _⟩ := dd'; ⟨q, hq⟩
  exact d_write I (by rw [e]; exact True.intro) hs he (dk_new (Nat.le_trans (dropK_le kvs k) z) hd (rel.drop k) dd')
/-- d.pop(k, x), not there -/
theorem d_popD {r : Value} {Q : Value → Shared → Prop} (I : Inv X pins σ H s) (e : H a = some (.dK kvs)) (ry : RelV (kV k) u) (l : valV kvs k = none) (h : ∀ s', Inv X pins σ H s' → Q r s') :
    wpAny (model X.prog X.w) A (call (.builtin "dict.pop") [.ref a, u, r]) Q E s := by
  obtain ⟨z, hd, vs, rel, dd⟩ := dk_of I.hok e
  have hn : valueAt vs k = none := RelO.none_of (by rw [← l]; exact rel.val k)
  have hp : (keyPart u).isSome = true := by
    cases k with
    | inl i => obtain ⟨t, q⟩ := (show ∃ t, u = Value.int i t from ry); subst q; rfl
    | inr x => obtain ⟨t, q⟩ := (show ∃ t, u = Value.str x t from ry); subst q; rfl
  exact call_meetsIn PySem.F.slot_dict_pop dd.typeIs PySem.F.entry_dict_pop (PySem.F.args_dict_pop_3 _ _ _) (meets_dict_pop_default (mixKind X.prog X.w) a (kV_is ry) hd hp r) ⟨vs, dd, hn, h _ (I.tok _)⟩
/-- d.clear() -/
theorem d_clear {Q : Value → Shared → Prop} (I : Inv X pins σ H s) (e : H a = some (.dK kvs)) (h : ∀ s', Inv X pins σ (upd H a (.dK [])) s' → Q .none s') : wpAny (model X.prog X.w) A (call (.builtin "dict.clear") [.ref a]) Q E s := by
  obtain ⟨z, hd, vs, rel, dd⟩ := dk_of I.hok e
  refine call_meetsIn PySem.F.slot_dict_clear dd.typeIs PySem.F.entry_dict_clear (PySem.F.args_dict_clear_1 _) (meets_dict_clear (mixKind X.prog X.w) a) ⟨vs, dd, by rw [← rel.length]; exact z, fun h' dd' hs => h _ ?_⟩
  have he : ∃ q, h'.get? a = some q := let ⟨q, _, _, hq, _⟩ := dd'; ⟨q, hq⟩
  exact d_write (t' := s.toks) I (by rw [e]; exact True.intro) hs he (dk_new (Nat.zero_le _) hd .nil dd')
/-- len(d) -/
theorem d_len {Q : Value → Shared → Prop} (I : Inv X pins σ H s) (e : Rd H a (.dK kvs)) (h : ∀ t s', Inv X pins σ H s' → Q (.int kvs.length t) s') : wpAny (model X.prog X.w) A (call (.builtin "len") [.ref a]) Q E s := by
  obtain ⟨z, hd, vs, rel, dd⟩ := dk_rd I.hok e
  refine call_len_dict hd dd (by rw [← rel.length]; rw [sizeLine_eq] at z; omega) ?_
  rw [← rel.length]
  exact h _ _ (I.tok _)
/-- if d -/
theorem d_truth {Q : Bool → Shared → Prop} (I : Inv X pins σ H s) (e : Rd H a (.dK kvs)) (h : ∀ s', Inv X pins σ H s' → Q (!kvs.isEmpty) s') : wpAny (model X.prog X.w) A (truthy (.ref a)) Q E s := by
  obtain ⟨z, hd, vs, rel, dd⟩ := dk_rd I.hok e
  refine wpAny_truthy_dict hd dd (by rw [← rel.length]; rw [sizeLine_eq] at z; omega) ?_
  have q : kvs.isEmpty = vs.isEmpty := by cases rel <;> rfl
  rw [← q]
  exact h _ (I.tok _)
end


/-! ### readings and rules -/
/-- the element of a subscription, not a slice -/
def NoSl (i : Expr) : Prop := ∀ ov iv, subscripted i false ov iv = operate [ov, iv] (getItem ov iv)
theorem subD_of {prog : Program} {w : World} {A : Around} {E : Value → Shared → Prop} {s : Shared} {env : Env} {value slice : Expr} {pos : Pos} {T id : String} {Q : Value → Shared → Prop}
    (hl : typeLookup (.type T) "__getitem__" = pure (some (.builtin id))) (hs : NoSl slice)
    (h : wpAny (model prog w) A (eval value env) (fun o s₁ => wpAny (model prog w) A (eval slice env) (fun i s₂ => s₂.TypeIs o T ∧ wpAny (model prog w) A (getItem o i) Q E s₂) E s₁) E s) :
    wpAny (model prog w) A (eval (.Subscript value slice pos) env) Q E s := by
  refine Subscript_ (wpAny_mono h (fun o s₁ h₁ => wpAny_mono h₁ (fun i s₂ h₂ => ?_) fun _ _ x => x) fun _ _ x => x)
  obtain ⟨hT, h₂⟩ := h₂
  unfold subscriptTail
  refine wpAny_bind ?_
  rw [getitemInPython_of_ne hT.not_modules]
  refine wpAny_bind (wpAny_specialOf hT hl ?_)
  have fin : wpAny (model prog w) A (subscripted slice false o i) (fun r s₃ => wpAny (model prog w) A (letTemporaryGo value o r >>= fun _ => pure r) Q E s₃) E s₂ := by
    rw [hs o i]
    exact wpAny_operating (wpAny_mono h₂ (fun r s₃ h₃ => wpAny_bind (wpAny_letTemporaryGo (wpAny_pure h₃))) fun _ _ x => x)
  first
    | exact wpAny_pure (wpAny_bind fin)
    | exact wpAny_bind (wpAny_pure (wpAny_bind fin))
    | exact wpAny_bind fin

theorem dict_typeIs {X : Cx} {pins : List (Addr × Obj)} {σ : St} {H : Hp} {s : Shared} {a : Addr} {y : V} {o : Option V} (I : Inv X pins σ H s) (g : DGet H a y o) : s.TypeIs (.ref a) "dict" := by
  rcases g with ⟨kvs, k, e, _, _⟩ | ⟨kvs, k, b, e, _, _, _⟩
  · obtain ⟨_, _, vs, _, dd⟩ := dk_rd I.hok e
    exact dd.typeIs
  · obtain ⟨_, _, xs, _, dd⟩ := dt_rd I.hok e
    exact dd.typeIs
theorem dict_noDict {X : Cx} {pins : List (Addr × Obj)} {σ : St} {H : Hp} {s : Shared} {a : Addr} {y : V} {o : Option V} (I : Inv X pins σ H s) (g : DGet H a y o) :
    ∀ b, Value.ref a = .ref b → ∃ ob, s.heap.get? b = some ob ∧ ob.dict = none := fun b q => by
  cases q
  rcases g with ⟨kvs, k, e, _, _⟩ | ⟨kvs, k, b, e, _, _, _⟩
  · obtain ⟨_, _, vs, _, ob, _, _, h1, h2, _⟩ := dk_rd I.hok e
    exact ⟨ob, h1, h2.2.1⟩
  · obtain ⟨_, _, xs, _, ob, _, _, h1, h2, _⟩ := dt_rd I.hok e
    exact ⟨ob, h1, h2.2.1⟩

/-- d[y] -/
def tDGet (td ty : TE) : TE := fun σ H Q => td σ H fun x H1 => ty σ H1 fun y H2 => ∃ a v, x = .ref a ∧ DGet H2 a y (some v) ∧ Q v H2
/-- y in d, y not in d -/
def tDIn (ty td : TE) : TE := fun σ H Q => ty σ H fun y H1 => td σ H1 fun x H2 => ∃ a o, x = .ref a ∧ DGet H2 a y o ∧ Q (.bl o.isSome) H2
def tDNotIn (ty td : TE) : TE := fun σ H Q => ty σ H fun y H1 => td σ H1 fun x H2 => ∃ a o, x = .ref a ∧ DGet H2 a y o ∧ Q (.bl (!o.isSome)) H2
/-- d[y] = v -/
def sDPut (td ty tv : TE) : TS := fun D σ H => tv σ H fun v H1 => td σ H1 fun x H2 => ty σ H2 fun y H3 => ∃ a H4, x = .ref a ∧ DPut H3 a y v H4 ∧ D.nx σ H4
/-- d[y] op= v -/
def sDAug (td ty tv : TE) (rd : V → V → Hp → VK → Prop) : TS := fun D σ H => td σ H fun x H1 => ty σ H1 fun y H2 => ∃ a v, x = .ref a ∧ DGet H2 a y (some v) ∧
  tv σ H2 fun y2 H3 => rd v y2 H3 fun z H4 => ∃ H5, DPut H4 a y z H5 ∧ D.nx σ H5
/-- del d[y] -/
def sDDel (td ty : TE) : TS := fun D σ H => td σ H fun x H1 => ty σ H1 fun y H2 => ∃ a kvs k, x = .ref a ∧ H2 a = some (.dK kvs) ∧ y = kV k ∧ (valV kvs k).isSome = true ∧ D.nx σ (upd H2 a (.dK (dropK kvs k)))

section
variable {X : Cx} {o i e value : Expr} {pos pos' tpos : Pos} {td ty tv : TE}
theorem pe_dget (hu : X.A.units + 1 < cLine) (ho : PE X o td) (hi : PE X i ty) (hs : NoSl i) : PE X (.Subscript o i pos) (tDGet td ty) := by
  intro pins s σ H Q I h
  refine subD_of PySem.F.slot_dict_getitem.lookup hs (thn (ho pins s σ H _ I h) fun u s1 ⟨x, H1, I1, rx, q1⟩ => thn (hi pins s1 σ H1 _ I1 q1) fun iv s2 ⟨y, H2, I2, ry, a, v, ex, g, q2⟩ => ?_)
  subst ex
  obtain rfl : u = Value.ref a := rx
  exact ⟨dict_typeIs I2 g, d_getItem hu I2 g ry fun w' s3 I3 rw' => ⟨v, H2, I3, rw', q2⟩⟩
theorem pc_din (hu : X.A.units + 1 < cLine) (hi : PE X i ty) (ho : PE X o td) : PC X .In i o (tDIn ty td) := by
  intro pins s σ H Q I h
  refine thn (hi pins s σ H _ I h) fun iv s1 ⟨y, H1, I1, ry, q1⟩ => thn (ho pins s1 σ H1 _ I1 q1) fun u s2 ⟨x, H2, I2, rx, a, ov, ex, g, q2⟩ => ?_
  subst ex
  obtain rfl : u = Value.ref a := rx
  exact d_in hu I2 g ry fun s3 I3 => ⟨.bl ov.isSome, H2, I3, rfl, q2⟩
theorem pc_dnotin (hu : X.A.units + 1 < cLine) (hi : PE X i ty) (ho : PE X o td) : PC X .NotIn i o (tDNotIn ty td) := by
  intro pins s σ H Q I h
  refine thn (hi pins s σ H _ I h) fun iv s1 ⟨y, H1, I1, ry, q1⟩ => thn (ho pins s1 σ H1 _ I1 q1) fun u s2 ⟨x, H2, I2, rx, a, ov, ex, g, q2⟩ => ?_
  subst ex
  obtain rfl : u = Value.ref a := rx
  exact d_notIn hu I2 g ry fun s3 I3 => ⟨.bl (!ov.isSome), H2, I3, rfl, q2⟩
theorem ps_dput (hu : X.A.units + 1 < cLine) (ho : PE X o td) (hi : PE X i ty) (hv : PE X value tv) (hs : swapsWith value (some (.Subscript o i pos')) pos.line X.env = pure false) :
    PS X (.Assign [.Subscript o i pos'] value pos) (sDPut td ty tv) := by
  intro pins s σ H D I h
  refine wpAny_Assign_Subscript (thn (hv pins s σ H _ I h) fun r s1 ⟨v, H1, I1, rv, q1⟩ => thn (ho pins s1 σ H1 _ I1 q1) fun u s2 ⟨x, H2, I2, rx, q2⟩ => thn (hi pins s2 σ H2 _ I2 q2) fun iv s3 ⟨y, H3, I3, ry, a, H4, ex, g, q3⟩ => ?_) hs
  subst ex
  obtain rfl : u = Value.ref a := rx
  exact d_setItem hu I3 g ry rv fun s4 I4 => ⟨σ, H4, I4, q3⟩
theorem ps_daug {op : Operator} {rd : V → V → Hp → VK → Prop} (hu : X.A.units + 1 < cLine) (ho : PE X o td) (hi : PE X i ty) (hv : PE X value tv) (hop : InOp X op rd)
    (ha : ∀ ov iv new, augStore i ov iv new = (do holding [new, ov, iv] (setItem ov iv new); release [new, ov, iv] []; pure .next)) : PS X (.AugAssign (.Subscript o i tpos) op value pos) (sDAug td ty tv rd) := by
  intro pins s σ H D I h
  refine wpAny_AugAssign_SubscriptAny (thn (ho pins s σ H _ I h) fun u s1 ⟨x, H1, I1, rx, q1⟩ => thn (hi pins s1 σ H1 _ I1 q1) fun iv s2 ⟨y, H2, I2, ry, a, v, ex, g, q2⟩ => ?_) ha
  subst ex
  obtain rfl : u = Value.ref a := rx
  refine d_getItem hu I2 g ry fun w' s3 I3 rw' => thn (hv pins s3 σ H2 _ I3 q2) fun w2 s4 ⟨y2, H3, I4, ry2, q3⟩ => thn (hop pins s4 σ H3 v y2 w' w2 _ I4 rw' ry2 q3) fun w3 s5 ⟨z, H4, I5, rz, H5, g5, q4⟩ => ?_
  exact d_setItem hu I5 g5 ry rz fun s6 I6 => ⟨σ, H5, I6, q4⟩
theorem ps_ddel (ho : PE X o td) (hi : PE X i ty) : PS X (.Delete [.Subscript o i tpos] pos) (sDDel td ty) := by
  intro pins s σ H D I h
  refine wpAny_Delete (wpAny_deleteEach_cons (wpAny_delete_Subscript (thn (ho pins s σ H _ I h) fun u s1 ⟨x, H1, I1, rx, q1⟩ => thn (hi pins s1 σ H1 _ I1 q1) fun iv s2 ⟨y, H2, I2, ry, a, kvs, k, ex, e, ey, l, q2⟩ => ?_)))
  subst ex ey
  obtain rfl : u = Value.ref a := rx
  exact d_delItem I2 e ry l fun s3 I3 => wpAny_deleteEach_nil ⟨σ, _, I3, q2⟩
end


/-! ### displays -/
theorem dk_empty {P : Program} {w : World} {H : Hp} (h : Heap) (hb : sysModules < h.objs.size) : ObjOk P w H (h.push { cls := .type "dict", data := .dict #[] }) h.objs.size (.dK []) :=
  ⟨Nat.zero_le _, beq_eq_false_iff_ne.mpr (Ne.symm (Nat.ne_of_lt hb)), [], .nil, Heap.DictOf.new h⟩
theorem dt_empty {P : Program} {w : World} {H : Hp} (h : Heap) (hb : sysModules < h.objs.size) : ObjOk P w H (h.push { cls := .type "dict", data := .dict #[] }) h.objs.size (.dT []) :=
  ⟨Nat.zero_le _, beq_eq_false_iff_ne.mpr (Ne.symm (Nat.ne_of_lt hb)), [], .nil, _, #[], 0, Heap.get?_push_size _ rfl, ⟨rfl, rfl, rfl⟩, rfl, rfl, List.nodup_nil⟩
/-- {}, to be a dict of the kind that is wanted -/
def tDNewK : TE := fun _ H Q => ∀ p, H p = none → Q (.ref p) (upd H p (.dK []))
def tDNewT : TE := fun _ H Q => ∀ p, H p = none → Q (.ref p) (upd H p (.dT []))
section
variable {X : Cx} {pos : Pos}
theorem pe_dnewK : PE X (.Dict [] [] pos) tDNewK := fun pins s σ H Q I h =>
  wpAny_Dict_empty ⟨.ref s.heap.objs.size, _, I.laid (a := s.heap.objs.size) (o := .dK []) (t' := s.toks) (fun _ _ q => Heap.get?_push_of_some _ q) (Nat.le_refl _) (dk_empty s.heap I.big), rfl, h _ (I.hok.fresh (Nat.le_refl _))⟩
theorem pe_dnewT : PE X (.Dict [] [] pos) tDNewT := fun pins s σ H Q I h =>
  wpAny_Dict_empty ⟨.ref s.heap.objs.size, _, I.laid (a := s.heap.objs.size) (o := .dT []) (t' := s.toks) (fun _ _ q => Heap.get?_push_of_some _ q) (Nat.le_refl _) (dt_empty s.heap I.big), rfl, h _ (I.hok.fresh (Nat.le_refl _))⟩
end

/-- the pairs of a display, from the left -/
def tPairs : List (TE × TE) → St → Hp → (List (V × V) → Hp → Prop) → Prop
  | [], _, H, Q => Q [] H
  | (tk, tv) :: r, σ, H, Q => tk σ H fun x H1 => tv σ H1 fun y H2 => tPairs r σ H2 fun ps H3 => Q ((x, y) :: ps) H3
abbrev VV : List (V × V) → List (Value × Value) → Prop := Paired fun p q => RelV p.1 q.1 ∧ RelV p.2 q.2
def PPs (X : Cx) (pos : Pos) (keys : List (Option Expr)) (values : List Expr) (trs : List (TE × TE)) : Prop :=
  ∀ (pins : List (Addr × Obj)) (s : Shared) (σ : St) (H : Hp) (Q : List (V × V) → Hp → Prop), Inv X pins σ H s → tPairs trs σ H Q →
    wpAny (model X.prog X.w) X.A (evalPairs (pairTrees keys values X.env pos)) (fun vs s' => ∃ ps H', Inv X pins σ H' s' ∧ VV ps vs ∧ Q ps H') X.xe s
theorem pps_nil {X : Cx} {pos : Pos} : PPs X pos [] [] [] := fun pins s σ H Q I h => pairTrees_nil_walk ⟨[], H, I, .nil, h⟩
theorem pps_cons {X : Cx} {pos : Pos} {k v : Expr} {ks : List (Option Expr)} {vs : List Expr} {tk tv : TE} {trs : List (TE × TE)} (hk : PE X k tk) (hv : PE X v tv) (hr : PPs X pos ks vs trs) :
    PPs X pos (some k :: ks) (v :: vs) ((tk, tv) :: trs) := fun pins s σ H Q I h =>
  pairTrees_cons_walk (thn (hk pins s σ H _ I h) fun u s1 ⟨x, H1, I1, rx, q1⟩ => thn (hv pins s1 σ H1 _ I1 q1) fun w2 s2 ⟨y, H2, I2, ry, q2⟩ =>
    thn (hr pins s2 σ H2 _ I2 q2) fun ws s3 ⟨ps, H3, I3, rel, q3⟩ => ⟨(x, y) :: ps, H3, I3, .cons ⟨rx, ry⟩ rel, q3⟩)

def mergeK (kvs more : List (Key × V)) : List (Key × V) := more.foldl (fun acc kv => putK acc kv.1 kv.2) kvs
theorem KV.merge : ∀ {more : List (Key × V)} {rs : List (Key × Value)} {kvs : List (Key × V)} {vs : List (Key × Value)}, KV more rs → KV kvs vs → KV (mergeK kvs more) (merged vs rs) := by
  intro more rs kvs vs r
  unfold KV at r
  induction r generalizing kvs vs with
  | nil => intro q; exact q
  | @cons p q ps qs h t ih =>
    intro r0
    have e : KV (putK kvs p.1 p.2) (stored vs q.1 q.2) := by
      have := r0.put p.1 h.2
      rw [← h.1]; exact this
    exact ih e
theorem length_mergeK : ∀ (more kvs : List (Key × V)), (mergeK kvs more).length ≤ kvs.length + more.length
  | [], kvs => by show kvs.length ≤ kvs.length + 0; omega
  | p :: r, kvs => by
    have h1 := length_mergeK r (putK kvs p.1 p.2)
    have h2 := length_putK kvs p.1 p.2
    show (mergeK (putK kvs p.1 p.2) r).length ≤ _
    rw [List.length_cons]; omega
theorem carries_of {P : Program} {w : World} : ∀ {kvs : List (Key × V)} {ws : List (Value × Value)}, VV (kvs.map fun kv => (kV kv.1, kv.2)) ws → ∃ rs, Carries (mixKind P w) ws rs ∧ KV kvs rs
  | [], _, r => by rw [List.map_nil] at r; cases r; exact ⟨[], True.intro, .nil⟩
  | p :: kvs, _, r => by
    rw [List.map_cons] at r
    cases r with
    | @cons a b as bs h t =>
      obtain ⟨rs, c, q⟩ := carries_of (P := P) (w := w) t
      obtain ⟨b1, b2⟩ := b
      exact ⟨(p.1, b2) :: rs, ⟨kV_is h.1, rfl, c⟩, .cons ⟨rfl, h.2⟩ q⟩
/-- {k: v, ..} with keys ints and texts; the new dict stands empty while the pairs are made -/
def tDisp (trs : List (TE × TE)) : TE := fun σ H Q => ∀ p, H p = none → tPairs trs σ (upd H p (.dK [])) fun ps H2 => H2 p = some (.dK []) ∧ ∃ kvs : List (Key × V), ps = kvs.map (fun kv => (kV kv.1, kv.2)) ∧ kvs.length ≤ 15 ∧ Q (.ref p) (upd H2 p (.dK (mergeK [] kvs)))
theorem pe_disp {X : Cx} {pos : Pos} {keys : List (Option Expr)} {values : List Expr} {trs : List (TE × TE)} (h : PPs X pos keys values trs) (hall : keys.all (·.isSome) = true) (hl : keys.length = values.length) (h0 : keys ≠ [])
    (h15 : keys.length ≤ 15) : PE X (.Dict keys values pos) (tDisp trs) := by
  intro pins s σ H Q I q
  have hn := I.hok.fresh (Nat.le_refl s.heap.objs.size)
  have I1 := I.laid (a := s.heap.objs.size) (o := .dK []) (h' := s.heap.push { cls := .type "dict", data := .dict #[] }) (t' := s.toks) (fun _ _ q => Heap.get?_push_of_some _ q) (Nat.le_refl _) (dk_empty s.heap I.big)
  refine wpAny_Dict_walk (knd := mixKind X.prog X.w) hall hl h0 h15 (thn (h pins _ σ _ _ I1 (q _ hn)) fun ws s2 ⟨ps, H2, I2, rel, e, kvs, ep, lk, q2⟩ => ?_)
  subst ep
  obtain ⟨rs, c, rk⟩ := carries_of (P := X.prog) (w := X.w) rel
  obtain ⟨z, hd, vs0, r0, dd⟩ := dk_of I2.hok e
  cases r0
  refine ⟨rs, c, dd, fun h' dd' hs => ⟨.ref s.heap.objs.size, _, ?_, rfl, q2⟩⟩
  have hz : (mergeK [] kvs).length ≤ sizeLine := by
    have h1 := length_mergeK kvs []
    rw [List.length_nil] at h1
    rw [sizeLine_eq]; omega
  have he : ∃ q, h'.get? s.heap.objs.size = some q := let ⟨q, _, _, hq, _⟩ := dd'; ⟨q, hq⟩
  exact d_write I2 (by rw [e]; exact True.intro) hs he (dk_new hz hd (rk.merge .nil) dd')


/-! ### methods -/
/-- a method call o.m(e) of a built-in, with one argument: what must be seen of the text -/
structure M1 (X : Cx) (o : Expr) (m : Str) (apos : Pos) (e : Expr) (cpos : Pos) : Prop where
  base : attributeBase o m X.env (eval o X.env) = eval o X.env
  few : ((backTo cpos (starEach [e] X.env)).all (fun x => !x.1) && (backToKw cpos (keywordEach [] X.env)).all (fun x => x.1.isSome)
    && decide (([e] : List Expr).length + ([] : List Keyword).length + (if ([] : List Keyword).isEmpty then 0 else 1) < 30)) = true
  line : (apos.endLine == cpos.line) = true
  trees : backTo cpos (starEach [e] X.env) = [(false, eval e X.env)]
structure M2 (X : Cx) (o : Expr) (m : Str) (apos : Pos) (e f : Expr) (cpos : Pos) : Prop where
  base : attributeBase o m X.env (eval o X.env) = eval o X.env
  few : ((backTo cpos (starEach [e, f] X.env)).all (fun x => !x.1) && (backToKw cpos (keywordEach [] X.env)).all (fun x => x.1.isSome)
    && decide (([e, f] : List Expr).length + ([] : List Keyword).length + (if ([] : List Keyword).isEmpty then 0 else 1) < 30)) = true
  line : (apos.endLine == cpos.line) = true
  trees : backTo cpos (starEach [e, f] X.env) = [(false, eval e X.env), (false, eval f X.env)]

/-- a is a dict, whatever its keys -/
def IsD (H : Hp) (a : Addr) : Prop := (∃ kvs, Rd H a (.dK kvs)) ∨ ∃ kvs, Rd H a (.dT kvs)
theorem isD_at {X : Cx} {pins : List (Addr × Obj)} {σ : St} {H : Hp} {s : Shared} {a : Addr} (I : Inv X pins σ H s) (d : IsD H a) :
    s.TypeIs (.ref a) "dict" ∧ (∀ b, Value.ref a = .ref b → ∃ ob, s.heap.get? b = some ob ∧ ob.dict = none) ∧ (a == sysModules) = false := by
  rcases d with ⟨kvs, e⟩ | ⟨kvs, e⟩
  · obtain ⟨_, hd, vs, _, dd⟩ := dk_rd I.hok e
    refine ⟨dd.typeIs, fun b q => ?_, hd⟩
    cases q
    obtain ⟨ob, _, _, h1, h2, _⟩ := dd
    exact ⟨ob, h1, h2.2.1⟩
  · obtain ⟨_, hd, xs, _, dd⟩ := dt_rd I.hok e
    refine ⟨dd.typeIs, fun b q => ?_, hd⟩
    cases q
    obtain ⟨ob, _, _, h1, h2, _⟩ := dd
    exact ⟨ob, h1, h2.2.1⟩

section
variable {X : Cx} {pins : List (Addr × Obj)} {σ : St} {H : Hp} {s : Shared} {a : Addr} {y d : V} {u r : Value} {o : Option V} {A : Around} {E : Value → Shared → Prop}
/-- d.get(y) -/
theorem d_get1 {Q : Value → Shared → Prop} (hu : A.units + 1 < cLine) (I : Inv X pins σ H s) (g : DGet H a y o) (ry : RelV y u) (h : ∀ w' s', Inv X pins σ H s' → RelV (o.getD .non) w' → Q w' s') :
    wpAny (model X.prog X.w) A (call (.builtin "dict.get") [.ref a, u]) Q E s := by
  rcases g with ⟨kvs, k, e, ey, l⟩ | ⟨kvs, k, b, e, ey, eb, l⟩
  · subst ey
    obtain ⟨z, hd, vs, rel, dd⟩ := dk_rd I.hok e
    refine call_meetsIn PySem.F.slot_dict_get dd.typeIs PySem.F.entry_dict_get (PySem.F.args_dict_get_2 _ _) (meets_dict_get (mixKind X.prog X.w) a (kV_is ry) hd) ⟨_, dd.mapOf, h _ _ (I.tok _) ?_⟩
    rw [l]
    exact (rel.val k).getD rfl
  · subst ey
    cases (show u = Value.ref b from ry)
    obtain ⟨z, hd, xs, rel, dd⟩ := dt_rd I.hok e
    refine call_meetsIn PySem.F.slot_dict_get dd.typeIs PySem.F.entry_dict_get (PySem.F.args_dict_get_2 _ _) (meetsH_dict_get (tupleKind (mixKind X.prog X.w)) a b hd) ⟨tupleKind_room_in1 hu, k, xs, key_of I.hok eb, dd, h _ _ (I.tok _) ?_⟩
    rw [l]
    exact (rel.val k).getD rfl
/-- d.get(y, x) -/
theorem d_get2 {Q : Value → Shared → Prop} (hu : A.units + 1 < cLine) (I : Inv X pins σ H s) (g : DGet H a y o) (ry : RelV y u) (rd : RelV d r) (h : ∀ w' s', Inv X pins σ H s' → RelV (o.getD d) w' → Q w' s') :
    wpAny (model X.prog X.w) A (call (.builtin "dict.get") [.ref a, u, r]) Q E s := by
  rcases g with ⟨kvs, k, e, ey, l⟩ | ⟨kvs, k, b, e, ey, eb, l⟩
  · subst ey
    obtain ⟨z, hd, vs, rel, dd⟩ := dk_rd I.hok e
    refine call_meetsIn PySem.F.slot_dict_get dd.typeIs PySem.F.entry_dict_get (PySem.F.args_dict_get_3 _ _ _) (meets_dict_get_default (mixKind X.prog X.w) a (kV_is ry) hd r) ⟨_, dd.mapOf, h _ _ (I.tok _) ?_⟩
    rw [l]
    exact (rel.val k).getD rd
  · subst ey
    cases (show u = Value.ref b from ry)
    obtain ⟨z, hd, xs, rel, dd⟩ := dt_rd I.hok e
    refine call_meetsIn PySem.F.slot_dict_get dd.typeIs PySem.F.entry_dict_get (PySem.F.args_dict_get_3 _ _ _) (meetsH_dict_get_default (tupleKind (mixKind X.prog X.w)) a b hd r) ⟨tupleKind_room_in1 hu, k, xs, key_of I.hok eb, dd, h _ _ (I.tok _) ?_⟩
    rw [l]
    exact (rel.val k).getD rd
end

def tDGet1 (td ty : TE) : TE := fun σ H Q => td σ H fun x H1 => ∃ a, x = .ref a ∧ IsD H1 a ∧ ty σ H1 fun y H2 => ∃ o, DGet H2 a y o ∧ Q (o.getD .non) H2
def tDGet2 (td ty tx : TE) : TE := fun σ H Q => td σ H fun x H1 => ∃ a, x = .ref a ∧ IsD H1 a ∧ ty σ H1 fun y H2 => tx σ H2 fun z H3 => ∃ o, DGet H3 a y o ∧ Q (o.getD z) H3
/-- d.pop(k): there; d.pop(k, x): there or not -/
def tDPop1 (td ty : TE) : TE := fun σ H Q => td σ H fun x H1 => ∃ a, x = .ref a ∧ IsD H1 a ∧ ty σ H1 fun y H2 => ∃ kvs k v, H2 a = some (.dK kvs) ∧ y = kV k ∧ valV kvs k = some v ∧ Q v (upd H2 a (.dK (dropK kvs k)))
def tDPop2 (td ty tx : TE) : TE := fun σ H Q => td σ H fun x H1 => ∃ a, x = .ref a ∧ IsD H1 a ∧ ty σ H1 fun y H2 => tx σ H2 fun z H3 => ∃ kvs k, H3 a = some (.dK kvs) ∧ y = kV k ∧
  (∀ v, valV kvs k = some v → Q v (upd H3 a (.dK (dropK kvs k)))) ∧ (valV kvs k = none → Q z H3)
section
variable {X : Cx} {o e f : Expr} {apos cpos : Pos} {td ty tx : TE}
theorem pe_dget1 (hu : X.A.units + 1 < cLine) (ho : PE X o td) (he : PE X e ty) (m : M1 X o "get" apos e cpos) : PE X (.Call (.Attribute o "get" apos) [e] [] cpos) (tDGet1 td ty) := by
  intro pins s σ H Q I h
  refine wpAny_Call_method m.base m.few m.line PySem.F.plainAttrs_dict PySem.F.slot_dict_get PySem.F.type_dict_get (thn (ho pins s σ H _ I h) fun u s1 ⟨x, H1, I1, rx, a, ex, d, q1⟩ => ?_)
  subst ex
  obtain rfl : u = Value.ref a := rx
  obtain ⟨t1, t2, _⟩ := isD_at I1 d
  refine ⟨t1, t2, ?_⟩
  rw [m.trees]
  refine Calls.callWith_builtin rfl (Calls.evalArgs_plain (Calls.spliced_cons (thn (he pins s1 σ H1 _ I1 q1) fun iv s2 ⟨y, H2, I2, ry, ov, g, q2⟩ => Calls.spliced_nil ?_)))
  exact d_get1 hu I2 g ry fun w' s3 I3 rw' => ⟨_, H2, I3, rw', q2⟩
theorem pe_dget2 (hu : X.A.units + 1 < cLine) (ho : PE X o td) (he : PE X e ty) (hf : PE X f tx) (m : M2 X o "get" apos e f cpos) : PE X (.Call (.Attribute o "get" apos) [e, f] [] cpos) (tDGet2 td ty tx) := by
  intro pins s σ H Q I h
  refine wpAny_Call_method m.base m.few m.line PySem.F.plainAttrs_dict PySem.F.slot_dict_get PySem.F.type_dict_get (thn (ho pins s σ H _ I h) fun u s1 ⟨x, H1, I1, rx, a, ex, d, q1⟩ => ?_)
  subst ex
  obtain rfl : u = Value.ref a := rx
  obtain ⟨t1, t2, _⟩ := isD_at I1 d
  refine ⟨t1, t2, ?_⟩
  rw [m.trees]
  refine Calls.callWith_builtin rfl (Calls.evalArgs_plain (Calls.spliced_cons (thn (he pins s1 σ H1 _ I1 q1) fun iv s2 ⟨y, H2, I2, ry, q2⟩ =>
    Calls.spliced_cons (thn (hf pins s2 σ H2 _ I2 q2) fun fv s3 ⟨z, H3, I3, rz, ov, g, q3⟩ => Calls.spliced_nil ?_))))
  exact d_get2 hu I3 g ry rz fun w' s4 I4 rw' => ⟨_, H3, I4, rw', q3⟩
theorem pe_dpop1 (ho : PE X o td) (he : PE X e ty) (m : M1 X o "pop" apos e cpos) : PE X (.Call (.Attribute o "pop" apos) [e] [] cpos) (tDPop1 td ty) := by
  intro pins s σ H Q I h
  refine wpAny_Call_method m.base m.few m.line PySem.F.plainAttrs_dict PySem.F.slot_dict_pop PySem.F.type_dict_pop (thn (ho pins s σ H _ I h) fun u s1 ⟨x, H1, I1, rx, a, ex, d, q1⟩ => ?_)
  subst ex
  obtain rfl : u = Value.ref a := rx
  obtain ⟨t1, t2, _⟩ := isD_at I1 d
  refine ⟨t1, t2, ?_⟩
  rw [m.trees]
  refine Calls.callWith_builtin rfl (Calls.evalArgs_plain (Calls.spliced_cons (thn (he pins s1 σ H1 _ I1 q1) fun iv s2 ⟨y, H2, I2, ry, kvs, k, v, ea, ey, l, q2⟩ => Calls.spliced_nil ?_)))
  subst ey
  exact d_pop I2 ea ry l (.inl rfl) fun w' s3 I3 rw' => ⟨v, _, I3, rw', q2⟩
theorem pe_dpop2 (ho : PE X o td) (he : PE X e ty) (hf : PE X f tx) (m : M2 X o "pop" apos e f cpos) : PE X (.Call (.Attribute o "pop" apos) [e, f] [] cpos) (tDPop2 td ty tx) := by
  intro pins s σ H Q I h
  refine wpAny_Call_method m.base m.few m.line PySem.F.plainAttrs_dict PySem.F.slot_dict_pop PySem.F.type_dict_pop (thn (ho pins s σ H _ I h) fun u s1 ⟨x, H1, I1, rx, a, ex, d, q1⟩ => ?_)
  subst ex
  obtain rfl : u = Value.ref a := rx
  obtain ⟨t1, t2, _⟩ := isD_at I1 d
  refine ⟨t1, t2, ?_⟩
  rw [m.trees]
  refine Calls.callWith_builtin rfl (Calls.evalArgs_plain (Calls.spliced_cons (thn (he pins s1 σ H1 _ I1 q1) fun iv s2 ⟨y, H2, I2, ry, q2⟩ =>
    Calls.spliced_cons (thn (hf pins s2 σ H2 _ I2 q2) fun fv s3 ⟨z, H3, I3, rz, kvs, k, ea, ey, q3, q4⟩ => Calls.spliced_nil ?_))))
  subst ey
  cases l : valV kvs k with
  | some v => exact d_pop I3 ea ry l (.inr ⟨fv, rfl⟩) fun w' s4 I4 rw' => ⟨v, _, I4, rw', q3 v l⟩
  | none => exact d_popD I3 ea ry l fun s4 I4 => ⟨z, H3, I4, rz, q4 l⟩
end

/-! ### dict(d): a copy -/
section
variable {X : Cx} {pins : List (Addr × Obj)} {σ : St} {H : Hp} {s : Shared} {a : Addr} {kvs : List (Key × V)} {A : Around} {E : Value → Shared → Prop}
theorem d_copyOf {Q : Value → Shared → Prop} (I : Inv X pins σ H s) (e : Rd H a (.dK kvs)) (h : ∀ p s', H p = none → Inv X pins σ (upd H p (.dK kvs)) s' → Q (.ref p) s') : wpAny (model X.prog X.w) A (call (.type "dict") [.ref a]) Q E s := by
  obtain ⟨z, hd, vs, rel, dd⟩ := dk_rd I.hok e
  refine kt_call_dict hd dd (by rw [← rel.length]; exact z) fun h' dd' hs => ?_
  refine h _ _ (I.hok.fresh (Nat.le_refl _)) (I.laid (a := s.heap.objs.size) (o := .dK kvs) (t' := s.toks) (fun b q hq => ?_) (Nat.le_refl _) (dk_new z (beq_eq_false_iff_ne.mpr (Ne.symm (Nat.ne_of_lt I.big))) rel dd'))
  exact (hs.2 b (Nat.ne_of_lt (Heap.lt_size hq))).trans (Heap.get?_push_of_some _ hq)
end


section
variable {X : Cx} {pins : List (Addr × Obj)} {σ : St} {H : Hp} {s : Shared} {a : Addr} {y : V} {u : Value} {A : Around} {E : Value → Shared → Prop}
/-- d[y], not there: a KeyError -/
theorem d_missing {Q : Value → Shared → Prop} (hu : A.units + 1 < cLine) (hh : A.handled = none) (I : Inv X pins σ H s) (g : DGet H a y none) (ry : RelV y u)
    (h : ∀ h' e t', Heap.NewExc s.heap h' e "KeyError" → E (.ref e) { s with heap := h', toks := t' }) : wpAny (model X.prog X.w) A (getItem (.ref a) u) Q E s := by
  rcases g with ⟨kvs, k, e, ey, l⟩ | ⟨kvs, k, b, e, ey, eb, l⟩
  · subst ey
    obtain ⟨z, hd, vs, rel, dd⟩ := dk_rd I.hok e
    have hn : valueAt vs k = none := RelO.none_of (by rw [l]; exact rel.val k)
    exact wpAny_getItem_missing_of (kV_is ry) hd hh dd.mapOf hn fun h' ex ne => h h' ex _ ne
  · subst ey
    cases (show u = Value.ref b from ry)
    obtain ⟨z, hd, xs, rel, dd⟩ := dt_rd I.hok e
    have hn : (atKey xs k).map (·.2) = none := RelO.none_of (by rw [l]; exact rel.val k)
    exact wpAny_getItem_missing_heap (tupleKind_room_in1 hu) (key_of I.hok eb) hd hh dd (Option.map_eq_none_iff.mp hn) fun h' ex ne => h h' ex _ ne
end
end L2

set_option maxHeartbeats 4000000
namespace L3
open PySem PySem.Spec PyProof.Rows L2

/-! data: what a value is worth, apart from the heap; a changing thing is a number in the store -/
inductive D where
  | non | bl (b : Bool) | int (i : Int) | str (x : Str) | tup (xs : List D) | fz (xs : List D) | ref (k : Nat) | ty (n : String)
mutual
def D.beq : D → D → Bool
  | .non, .non => true
  | .bl a, .bl b => a == b
  | .int a, .int b => a == b
  | .str a, .str b => decide (a = b)
  | .tup a, .tup b => D.beqL a b
  | .fz a, .fz b => D.beqL a b
  | .ref a, .ref b => a == b
  | .ty a, .ty b => a == b
  | _, _ => false
def D.beqL : List D → List D → Bool
  | [], [] => true
  | a :: as, b :: bs => D.beq a b && D.beqL as bs
  | _, _ => false
end
mutual
theorem D.beq_refl : ∀ a : D, D.beq a a = true
  | .non => rfl
  | .bl _ => by simp [D.beq]
  | .int _ => by simp [D.beq]
  | .str _ => by simp [D.beq]
  | .tup xs => by simp only [D.beq]; exact D.beqL_refl xs
  | .fz xs => by simp only [D.beq]; exact D.beqL_refl xs
  | .ref _ => by simp [D.beq]
  | .ty _ => by simp [D.beq]
theorem D.beqL_refl : ∀ a : List D, D.beqL a a = true
  | [] => rfl
  | a :: as => by simp only [D.beqL]; rw [D.beq_refl a, D.beqL_refl as]; rfl
end
mutual
theorem D.eq_of_beq : ∀ {a b : D}, D.beq a b = true → a = b
  | .non, b, h => by cases b <;> first | rfl | (simp [D.beq] at h)
  | .bl _, b, h => by cases b <;> simp_all [D.beq]
  | .int _, b, h => by cases b <;> simp_all [D.beq]
  | .str _, b, h => by cases b <;> simp_all [D.beq]
  | .tup xs, b, h => by
    cases b with
    | tup ys => simp only [D.beq] at h; rw [D.eq_of_beqL h]
    | _ => simp [D.beq] at h
  | .fz xs, b, h => by
    cases b with
    | fz ys => simp only [D.beq] at h; rw [D.eq_of_beqL h]
    | _ => simp [D.beq] at h
  | .ref _, b, h => by cases b <;> simp_all [D.beq]
  | .ty _, b, h => by cases b <;> simp_all [D.beq]
theorem D.eq_of_beqL : ∀ {a b : List D}, D.beqL a b = true → a = b
  | [], [], _ => rfl
  | [], _ :: _, h => by simp [D.beqL] at h
  | _ :: _, [], h => by simp [D.beqL] at h
  | a :: as, b :: bs, h => by
    simp only [D.beqL, Bool.and_eq_true] at h
    rw [D.eq_of_beq h.1, D.eq_of_beqL h.2]
end
instance : DecidableEq D := fun a b => if h : D.beq a b = true then .isTrue (D.eq_of_beq h) else .isFalse fun e => h (by rw [e]; exact D.beq_refl b)

inductive Ob where
  | lst (xs : List D) | dk (kvs : List (Key × D))
deriving DecidableEq
abbrev Sto := List Ob
abbrev Fm := List (Option D)

/-- a list that never changes: known to the object, or of the module -/
def SqF (K : PySem.W.Frag) (H : Hp) (a : Addr) (xs : List V) : Prop :=
  (∃ o, H a = some (.frz o (.lst xs))) ∨
    ∃ (o : Obj) (its : Array Value) (n : Nat), K.lookup a = some o ∧ o.cls = .type "list" ∧ o.dict = none ∧ o.data = .seq its n ∧ its.size ≤ sizeLine ∧ Vals xs its.toList
theorem SqF.sql {K : PySem.W.Frag} {H : Hp} {a : Addr} {xs : List V} (h : SqF K H a xs) : SqL K H a xs := by
  rcases h with h | h
  · exact .inl (.inr h)
  · exact .inr h

mutual
inductive Is (K : PySem.W.Frag) (H : Hp) (O : List Addr) : V → D → Prop
  | non : Is K H O .non .non
  | bl (b : Bool) : Is K H O (.bl b) (.bl b)
  | int (i : Int) : Is K H O (.int i) (.int i)
  | str (x : Str) : x.length ≤ 16777216 → Is K H O (.str x) (.str x)
  | tup {a : Addr} {vs : List V} {ds : List D} : SqT K H a vs → IsL K H O vs ds → Is K H O (.ref a) (.tup ds)
  | fz {a : Addr} {vs : List V} {ds : List D} : SqF K H a vs → IsL K H O vs ds → Is K H O (.ref a) (.fz ds)
  | ref {k : Nat} {a : Addr} : O[k]? = some a → Is K H O (.ref a) (.ref k)
  | ty (n : String) : Is K H O (.ty n) (.ty n)
inductive IsL (K : PySem.W.Frag) (H : Hp) (O : List Addr) : List V → List D → Prop
  | nil : IsL K H O [] []
  | cons {v : V} {d : D} {vs : List V} {ds : List D} : Is K H O v d → IsL K H O vs ds → IsL K H O (v :: vs) (d :: ds)
end

def Fixed : HO → Prop
  | .tup _ => True
  | .frz _ _ => True
  | _ => False
def Grow (H H' : Hp) : Prop := ∀ a o, H a = some o → Fixed o → H' a = some o
def Step (H : Hp) (O : List Addr) (H' : Hp) (O' : List Addr) : Prop := Grow H H' ∧ O <+: O'
theorem Grow.refl (H : Hp) : Grow H H := fun _ _ h _ => h
theorem Grow.trans {H H1 H2 : Hp} (a : Grow H H1) (b : Grow H1 H2) : Grow H H2 := fun c o h f => b c o (a c o h f) f
theorem Step.refl (H : Hp) (O : List Addr) : Step H O H O := ⟨.refl H, List.prefix_refl O⟩
theorem Step.trans {H H1 H2 : Hp} {O O1 O2 : List Addr} (a : Step H O H1 O1) (b : Step H1 O1 H2 O2) : Step H O H2 O2 := ⟨a.1.trans b.1, a.2.trans b.2⟩
theorem Grow.ext {H H' : Hp} (h : ∀ a o, H a = some o → H' a = some o) : Grow H H' := fun a o e _ => h a o e
theorem Grow.new {H : Hp} {p : Addr} {o : HO} (h : H p = none) : Grow H (upd H p o) := .ext fun a u e => by rw [upd_ne (ne_of_none e h)]; exact e
theorem Grow.write {H : Hp} {p : Addr} {o u : HO} (h : H p = some u) (n : ¬ Fixed u) : Grow H (upd H p o) := fun a x e f => by
  by_cases z : a = p
  · subst z; rw [h] at e; cases e; exact absurd f n
  · rw [upd_ne z]; exact e

section
variable {K : PySem.W.Frag} {H H' : Hp} {O O' : List Addr}
theorem SqT.grow {a : Addr} {xs : List V} (g : Grow H H') (h : SqT K H a xs) : SqT K H' a xs := by
  rcases h with (h | ⟨o, h⟩) | h
  · exact .inl (.inl (g _ _ h True.intro))
  · exact .inl (.inr ⟨o, g _ _ h True.intro⟩)
  · exact .inr h
theorem SqF.grow {a : Addr} {xs : List V} (g : Grow H H') (h : SqF K H a xs) : SqF K H' a xs := by
  rcases h with ⟨o, h⟩ | h
  · exact .inl ⟨o, g _ _ h True.intro⟩
  · exact .inr h
theorem nd_ix {α : Type} {N : List α} (hN : N.Nodup) {i j : Nat} {x : α} (a : N[i]? = some x) (b : N[j]? = some x) : i = j := by
  obtain ⟨h1, g1⟩ := List.getElem?_eq_some_iff.mp a
  obtain ⟨h2, g2⟩ := List.getElem?_eq_some_iff.mp b
  have p := List.pairwise_iff_getElem.mp hN
  rcases Nat.lt_trichotomy i j with h | h | h
  · exact absurd (g1.trans g2.symm) (p i j h1 h2 h)
  · exact h
  · exact absurd (g2.trans g1.symm) (p j i h2 h1 h)
theorem pref_get {α : Type} {O O' : List α} (h : O <+: O') {k : Nat} {a : α} (e : O[k]? = some a) : O'[k]? = some a := by
  obtain ⟨t, rfl⟩ := h
  rw [List.getElem?_append_left (List.getElem?_eq_some_iff.mp e).1]; exact e
mutual
theorem Is.mono (st : Step H O H' O') : ∀ {v : V} {d : D}, Is K H O v d → Is K H' O' v d
  | _, _, .non => .non
  | _, _, .bl b => .bl b
  | _, _, .int b => .int b
  | _, _, .str b h => .str b h
  | _, _, .tup h r => .tup (SqT.grow st.1 h) (IsL.mono st r)
  | _, _, .fz h r => .fz (SqF.grow st.1 h) (IsL.mono st r)
  | _, _, .ref h => .ref (pref_get st.2 h)
  | _, _, .ty n => .ty n
theorem IsL.mono (st : Step H O H' O') : ∀ {v : List V} {d : List D}, IsL K H O v d → IsL K H' O' v d
  | _, _, .nil => .nil
  | _, _, .cons a b => .cons (Is.mono st a) (IsL.mono st b)
end
theorem IsL.length : ∀ {vs : List V} {ds : List D}, IsL K H O vs ds → vs.length = ds.length
  | _, _, .nil => rfl
  | _, _, .cons _ b => by simp [IsL.length b]
theorem IsL.get : ∀ {vs : List V} {ds : List D} {i : Nat} {d : D}, IsL K H O vs ds → ds[i]? = some d → ∃ v, vs[i]? = some v ∧ Is K H O v d
  | _, _, _, _, .nil, e => by simp at e
  | _, _, 0, _, .cons a _, e => by simp at e; subst e; exact ⟨_, rfl, a⟩
  | _, _, i + 1, d, .cons _ b, e => by
    obtain ⟨v, h1, h2⟩ := IsL.get (i := i) (d := d) b (by simpa using e)
    exact ⟨v, by simpa using h1, h2⟩
theorem IsL.getV : ∀ {vs : List V} {ds : List D} {i : Nat} {v : V}, IsL K H O vs ds → vs[i]? = some v → ∃ d, ds[i]? = some d ∧ Is K H O v d
  | _, _, _, _, .nil, e => by simp at e
  | _, _, 0, _, .cons a _, e => by simp at e; subst e; exact ⟨_, rfl, a⟩
  | _, _, i + 1, d, .cons _ b, e => by
    obtain ⟨v, h1, h2⟩ := IsL.getV (i := i) (v := d) b (by simpa using e)
    exact ⟨v, by simpa using h1, h2⟩
theorem IsL.append : ∀ {vs ws : List V} {ds es : List D}, IsL K H O vs ds → IsL K H O ws es → IsL K H O (vs ++ ws) (ds ++ es)
  | _, _, _, _, .nil, b => b
  | _, _, _, _, .cons a c, b => .cons a (IsL.append c b)
theorem IsL.take : ∀ {vs : List V} {ds : List D} (n : Nat), IsL K H O vs ds → IsL K H O (vs.take n) (ds.take n)
  | _, _, 0, _ => .nil
  | _, _, _ + 1, .nil => .nil
  | _, _, n + 1, .cons r t => .cons r (IsL.take n t)
theorem IsL.drop : ∀ {vs : List V} {ds : List D} (n : Nat), IsL K H O vs ds → IsL K H O (vs.drop n) (ds.drop n)
  | _, _, 0, r => r
  | _, _, _ + 1, .nil => .nil
  | _, _, n + 1, .cons _ t => IsL.drop n t
theorem IsL.set {v : V} {d : D} (r : Is K H O v d) : ∀ {vs : List V} {ds : List D} (i : Nat), IsL K H O vs ds → IsL K H O (vs.set i v) (ds.set i d)
  | _, _, _, .nil => .nil
  | _, _, 0, .cons _ t => .cons r t
  | _, _, i + 1, .cons q t => .cons q (IsL.set r i t)
theorem IsL.one {v : V} {ds : List D} (h : IsL K H O [v] ds) : ∃ d, ds = [d] ∧ Is K H O v d := by
  cases h with | cons a b => cases b; exact ⟨_, rfl, a⟩

def ObIs (K : PySem.W.Frag) (H : Hp) (O : List Addr) (a : Addr) : Ob → Prop
  | .lst ds => ∃ vs, H a = some (.lst vs) ∧ IsL K H O vs ds
  | .dk kvs => ∃ us : List (Key × V), H a = some (.dK us) ∧ us.map (·.1) = kvs.map (·.1) ∧ IsL K H O (us.map (·.2)) (kvs.map (·.2))
structure RepS (K : PySem.W.Frag) (H : Hp) (O : List Addr) (L : Sto) : Prop where
  len : O.length = L.length
  nd : O.Nodup
  ob : ∀ (k : Nat) (a : Addr) (o : Ob), O[k]? = some a → L[k]? = some o → ObIs K H O a o
theorem ObIs.ho {a : Addr} {o : Ob} (h : ObIs K H O a o) : ∃ u, H a = some u ∧ ¬ Fixed u := by
  cases o with
  | lst ds => obtain ⟨vs, e, _⟩ := h; exact ⟨_, e, id⟩
  | dk ds => obtain ⟨vs, e, _⟩ := h; exact ⟨_, e, id⟩
theorem ObIs.move {a : Addr} {o : Ob} (h : ObIs K H O a o) (st : Step H O H' O') (e : H' a = H a) : ObIs K H' O' a o := by
  cases o with
  | lst ds => obtain ⟨vs, q, r⟩ := h; exact ⟨vs, by rw [e]; exact q, r.mono st⟩
  | dk ds => obtain ⟨vs, q, r1, r2⟩ := h; exact ⟨vs, by rw [e]; exact q, r1, r2.mono st⟩
theorem RepS.has {L : Sto} (r : RepS K H O L) {k : Nat} {a : Addr} (e : O[k]? = some a) : ∃ o, L[k]? = some o ∧ ObIs K H O a o := by
  have h : k < L.length := by rw [← r.len]; exact (List.getElem?_eq_some_iff.mp e).1
  exact ⟨L[k], by simp [h], r.ob k a _ e (by simp [h])⟩
theorem RepS.at {L : Sto} (r : RepS K H O L) {k : Nat} {o : Ob} (e : L[k]? = some o) : ∃ a, O[k]? = some a ∧ ObIs K H O a o := by
  have h : k < O.length := by rw [r.len]; exact (List.getElem?_eq_some_iff.mp e).1
  exact ⟨O[k], by simp [h], r.ob k _ o (by simp [h]) e⟩
/-- what was tracked stays -/
theorem RepS.ext {L : Sto} (r : RepS K H O L) (k : ∀ a o, H a = some o → H' a = some o) : RepS K H' O L :=
  ⟨r.len, r.nd, fun j a o e1 e2 => by
    have q := r.ob j a o e1 e2
    obtain ⟨u, hu, _⟩ := q.ho
    exact q.move ⟨.ext k, List.prefix_refl _⟩ (by rw [hu]; exact k a u hu)⟩
theorem RepS.new {L : Sto} {p : Addr} {u : HO} {o : Ob} (r : RepS K H O L) (hp : H p = none) (n : ObIs K (upd H p u) (O ++ [p]) p o) : RepS K (upd H p u) (O ++ [p]) (L ++ [o]) := by
  have hm : p ∉ O := fun hm => by
    obtain ⟨k, hk, e⟩ := List.getElem_of_mem hm
    obtain ⟨o', _, q⟩ := r.has (k := k) (a := p) (by rw [← e]; simp [hk])
    obtain ⟨u', hu, _⟩ := q.ho
    rw [hp] at hu; cases hu
  refine ⟨by simp [r.len], by rw [List.nodup_append]; exact ⟨r.nd, by simp, fun a ha b hb => by simp at hb; subst hb; rintro rfl; exact hm ha⟩, fun k a o' e1 e2 => ?_⟩
  by_cases h : k < O.length
  · rw [List.getElem?_append_left h] at e1
    rw [List.getElem?_append_left (by rw [← r.len]; exact h)] at e2
    have q := r.ob k a o' e1 e2
    obtain ⟨u', hu, _⟩ := q.ho
    exact q.move ⟨.new hp, List.prefix_append _ _⟩ (by rw [upd_ne (ne_of_none hu hp)])
  · have hk : k = O.length := by
      have := (List.getElem?_eq_some_iff.mp e1).1
      simp at this; omega
    subst hk
    rw [List.getElem?_append_right (Nat.le_refl _)] at e1
    rw [List.getElem?_append_right (by rw [r.len]; exact Nat.le_refl _)] at e2
    simp at e1
    rw [r.len] at e2
    simp at e2
    subst e1 e2
    exact n
theorem RepS.write {L : Sto} {k : Nat} {a : Addr} {u : HO} {o' : Ob} (r : RepS K H O L) (e : O[k]? = some a) (n : ObIs K (upd H a u) O a o') : RepS K (upd H a u) O (L.set k o') := by
  obtain ⟨o, e2, q⟩ := r.has e
  obtain ⟨u0, hu0, nf⟩ := q.ho
  refine ⟨by simp [r.len], r.nd, fun j b o2 f1 f2 => ?_⟩
  by_cases h : j = k
  · subst h
    rw [e] at f1; cases f1
    rw [List.getElem?_set_self (List.getElem?_eq_some_iff.mp e2).1] at f2; cases f2
    exact n
  · rw [List.getElem?_set_ne (Ne.symm h)] at f2
    have q2 := r.ob j b o2 f1 f2
    have hb : b ≠ a := fun z => by
      subst z
      exact h (nd_ix r.nd f1 e)
    exact q2.move ⟨.write hu0 nf, List.prefix_refl _⟩ (by rw [upd_ne hb])
end

structure FmIs (K : PySem.W.Frag) (H : Hp) (O : List Addr) (σ : L2.St) (ρ : Fm) : Prop where
  len : σ.length = ρ.length
  at' : ∀ (i : Nat) (d : D), ρ[i]? = some (some d) → ∃ v, σ[i]? = some (some v) ∧ Is K H O v d
structure Rep (K : PySem.W.Frag) (H : Hp) (O : List Addr) (σ : L2.St) (ρ : Fm) (L : Sto) : Prop where
  s : RepS K H O L
  f : FmIs K H O σ ρ
theorem FmIs.mono {K : PySem.W.Frag} {H H' : Hp} {O O' : List Addr} {σ : L2.St} {ρ : Fm} (st : Step H O H' O') (h : FmIs K H O σ ρ) : FmIs K H' O' σ ρ :=
  ⟨h.len, fun i d e => let ⟨v, a, b⟩ := h.at' i d e; ⟨v, a, b.mono st⟩⟩
theorem FmIs.set {K : PySem.W.Frag} {H : Hp} {O : List Addr} {σ : L2.St} {ρ : Fm} {v : V} {d : D} (h : FmIs K H O σ ρ) (r : Is K H O v d) (i : Nat) : FmIs K H O (σ.set i (some v)) (ρ.set i (some d)) := by
  refine ⟨by simp [h.len], fun j e q => ?_⟩
  by_cases z : j = i
  · subst z
    have hj : j < ρ.length := by
      have := (List.getElem?_eq_some_iff.mp q).1
      simpa using this
    rw [List.getElem?_set_self hj] at q
    cases q
    exact ⟨v, by rw [List.getElem?_set_self (by rw [h.len]; exact hj)], r⟩
  · rw [List.getElem?_set_ne (Ne.symm z)] at q
    obtain ⟨v', a, b⟩ := h.at' j e q
    exact ⟨v', by rw [List.getElem?_set_ne (Ne.symm z)]; exact a, b⟩
end L3

set_option maxHeartbeats 4000000
namespace L3
open PySem PySem.Spec PyProof.Rows L2

abbrev EF := Fm → Sto → Option (D × Sto)
abbrev TF := Fm → Sto → Option (Bool × Sto)
abbrev AF := Fm → Sto → Option (List D × Sto)
abbrev G1 := D → Sto → Option (D × Sto)
abbrev G2 := D → D → Sto → Option (D × Sto)
abbrev GL := List D → Sto → Option (D × Sto)

def lift (K : PySem.W.Frag) (f : EF) : TE := fun σ H Q => ∃ O ρ L d L', Rep K H O σ ρ L ∧ f ρ L = some (d, L') ∧
  ∀ v H' O', Step H O H' O' → RepS K H' O' L' → Is K H' O' v d → Q v H'
def liftT (K : PySem.W.Frag) (f : TF) : TT := fun σ H Q => ∃ O ρ L b L', Rep K H O σ ρ L ∧ f ρ L = some (b, L') ∧
  ∀ H' O', Step H O H' O' → RepS K H' O' L' → Q b H'
def liftA (K : PySem.W.Frag) (f : AF) : TA := fun σ H Q => ∃ O ρ L ds L', Rep K H O σ ρ L ∧ f ρ L = some (ds, L') ∧
  ∀ vs H' O', Step H O H' O' → RepS K H' O' L' → IsL K H' O' vs ds → Q vs H'
def PEf (X : Cx) (e : Expr) (f : EF) : Prop := PE X e (lift X.K f)
def PTf (X : Cx) (e : Expr) (f : TF) : Prop := PT X e (liftT X.K f)
def PWf (X : Cx) (e : Expr) (f : TF) : Prop := PW X e (liftT X.K f)
def PAf (X : Cx) (es : List Expr) (f : AF) : Prop := PA X es (liftA X.K f)

theorem PE.weaken {X : Cx} {e : Expr} {t t' : TE} (h : PE X e t) (i : ∀ σ H Q, t' σ H Q → t σ H Q) : PE X e t' := fun pins s σ H Q I q => h pins s σ H Q I (i σ H Q q)
theorem PT.weaken {X : Cx} {e : Expr} {t t' : TT} (h : PT X e t) (i : ∀ σ H Q, t' σ H Q → t σ H Q) : PT X e t' := fun pins s σ H Q I q => h pins s σ H Q I (i σ H Q q)
theorem PW.weaken {X : Cx} {e : Expr} {t t' : TT} (h : PW X e t) (i : ∀ σ H Q, t' σ H Q → t σ H Q) : PW X e t' := fun w pins s σ H Q I q => h w pins s σ H Q I (i σ H Q q)
theorem PA.weaken {X : Cx} {e : List Expr} {t t' : TA} (h : PA X e t) (i : ∀ σ H Q, t' σ H Q → t σ H Q) : PA X e t' := fun p pins s σ H Q I q => h p pins s σ H Q I (i σ H Q q)

/-! two lifts in a row -/
theorem Rep.to {K : PySem.W.Frag} {H H' : Hp} {O O' : List Addr} {σ : L2.St} {ρ : Fm} {L L' : Sto} (r : Rep K H O σ ρ L) (st : Step H O H' O') (rs : RepS K H' O' L') : Rep K H' O' σ ρ L' := ⟨rs, r.f.mono st⟩

def cst (d : D) : EF := fun _ L => some (d, L)
def var (i : Nat) : EF := fun ρ L => match ρ[i]? with | some (some d) => some (d, L) | _ => none
def bin2 (g : G2) (fa fb : EF) : EF := fun ρ L => (fa ρ L).bind fun x => (fb ρ x.2).bind fun y => g x.1 y.1 y.2
def un1 (g : G1) (fa : EF) : EF := fun ρ L => (fa ρ L).bind fun x => g x.1 x.2

section
variable {X : Cx} {a b c : Expr} {fa fb fc : EF} {pos : Pos}
theorem ef_const {v : V} {d : D} (h : PE X a (tC v)) (i : ∀ H O, Is X.K H O v d) : PEf X a (cst d) :=
  PE.weaken h fun σ H Q ⟨O, ρ, L, d', L', r, e, k⟩ => by
    cases e
    exact k _ _ _ (.refl _ _) r.s (i _ _)
theorem ef_int {i : Int} {j : Nat} {pos : Pos} : PEf X (.Constant (.int i) j pos) (cst (.int i)) := ef_const pe_int fun _ _ => .int _
theorem ef_bl {i : Bool} {j : Nat} {pos : Pos} : PEf X (.Constant (.bool i) j pos) (cst (.bl i)) := ef_const pe_bl fun _ _ => .bl _
theorem ef_non {j : Nat} {pos : Pos} : PEf X (.Constant .none j pos) (cst .non) := ef_const pe_non fun _ _ => .non
theorem ef_str {x : Str} {j : Nat} {pos : Pos} (h : x.length ≤ 16777216 := by decide) : PEf X (.Constant (.str x) j pos) (cst (.str x)) := ef_const pe_str fun _ _ => .str _ h
theorem ef_var {i : Nat} (h : PE X a (tVar i)) : PEf X a (var i) :=
  PE.weaken h fun σ H Q ⟨O, ρ, L, d', L', r, e, k⟩ => by
    unfold var at e
    split at e
    · rename_i d hd
      cases e
      obtain ⟨v, hv, is⟩ := r.f.at' i _ hd
      exact ⟨v, hv, k _ _ _ (.refl _ _) r.s is⟩
    · cases e

/-! operations by data -/
def rD (K : PySem.W.Frag) (g : G2) : R2 := fun v u H Q => ∃ O L x y d L', RepS K H O L ∧ Is K H O v x ∧ Is K H O u y ∧ g x y L = some (d, L') ∧
  ∀ w H' O', Step H O H' O' → RepS K H' O' L' → Is K H' O' w d → Q w H'
def rC (K : PySem.W.Frag) (g : GL) : List V → Hp → VK → Prop := fun vs H Q => ∃ O L xs d L', RepS K H O L ∧ IsL K H O vs xs ∧ g xs L = some (d, L') ∧
  ∀ w H' O', Step H O H' O' → RepS K H' O' L' → Is K H' O' w d → Q w H'
def OpD (X : Cx) (f : Value → Value → Sem Value) (g : G2) : Prop := OpR X f (rD X.K g)
def CallD (X : Cx) (f : Value) (g : GL) : Prop := CallR X f (rC X.K g)
def IxD (X : Cx) (g : G2) : Prop := IxR X (rD X.K g)
theorem OpR.weaken {f : Value → Value → Sem Value} {r r' : R2} (h : OpR X f r) (i : ∀ x y H Q, r' x y H Q → r x y H Q) : OpR X f r' :=
  fun pins s σ H x y v u Q I rx ry q => h pins s σ H x y v u Q I rx ry (i _ _ _ _ q)
theorem IxR.weaken {r r' : R2} (h : IxR X r) (i : ∀ x y H Q, r' x y H Q → r x y H Q) : IxR X r' :=
  fun a b pins s σ H x y v u Q I rx ry q => h a b pins s σ H x y v u Q I rx ry (i _ _ _ _ q)
theorem CallR.weaken {f : Value} {r r' : List V → Hp → VK → Prop} (h : CallR X f r) (i : ∀ xs H Q, r' xs H Q → r xs H Q) : CallR X f r' :=
  fun pins s σ H xs us Q I rx q => h pins s σ H xs us Q I rx (i _ _ _ q)

theorem two_lift {K : PySem.W.Frag} {g : G2} {σ : L2.St} {H : Hp} {Q : VK} (h : lift K (bin2 g fa fb) σ H Q) : tOp (rD K g) (lift K fa) (lift K fb) σ H Q := by
  obtain ⟨O, ρ, L, d, L', r, e, k⟩ := h
  unfold bin2 at e
  cases e1 : fa ρ L with
  | none => rw [e1] at e; cases e
  | some p =>
    rw [e1] at e
    simp only [Option.bind_some] at e
    cases e2 : fb ρ p.2 with
    | none => rw [e2] at e; cases e
    | some q =>
      rw [e2] at e
      simp only [Option.bind_some] at e
      refine ⟨O, ρ, L, p.1, p.2, r, e1, fun v H1 O1 st1 rs1 is1 => ?_⟩
      refine ⟨O1, ρ, p.2, q.1, q.2, r.to st1 rs1, e2, fun u H2 O2 st2 rs2 is2 => ?_⟩
      exact ⟨O2, q.2, p.1, q.1, d, L', rs2, is1.mono st2, is2, e, fun w H' O' st rs is => k w H' O' ((st1.trans st2).trans st) rs is⟩
theorem ef_op {op : Operator} {g : G2} (ho : OpD X (binaryOp op) g) (ha : PEf X a fa) (hb : PEf X b fb) : PEf X (.BinOp a op b pos) (bin2 g fa fb) :=
  PE.weaken (pe_op ho ha hb) fun _ _ _ h => two_lift h
theorem ef_cmp {op : CmpOp} {g : G2} (ho : OpD X (compareOp op) g) (ha : PEf X a fa) (hb : PEf X b fb) (hm : behindInMarks op b = false) : PEf X (.Compare a [op] [b] pos) (bin2 g fa fb) :=
  PE.weaken (pe_cmpR ho ha hb hm) fun _ _ _ h => two_lift h
theorem ef_ix {g : G2} (ho : IxD X g) (ha : PEf X a fa) (hb : PEf X b fb) (hs : PlainIx b) : PEf X (.Subscript a b pos) (bin2 g fa fb) :=
  PE.weaken (pe_ix ho ha hb hs) fun _ _ _ h => two_lift h

/-! the value is a truth: as a test -/
def asT (f : EF) : TF := fun ρ L => (f ρ L).bind fun x => match x.1 with | .bl b => some (b, x.2) | _ => none
theorem asT_lift {K : PySem.W.Frag} {f : EF} {σ : L2.St} {H : Hp} {Q : Bool → Hp → Prop} (h : liftT K (asT f) σ H Q) : lift K f σ H fun x H' => ∃ k, x = .bl k ∧ Q k H' := by
  obtain ⟨O, ρ, L, b, L', r, e, k⟩ := h
  unfold asT at e
  cases e1 : f ρ L with
  | none => rw [e1] at e; cases e
  | some p =>
    rw [e1] at e
    obtain ⟨d, L1⟩ := p
    cases d <;> simp only [Option.bind_some] at e <;> try (cases e; done)
    cases e
    refine ⟨O, ρ, L, _, _, r, e1, fun v H' O' st rs is => ?_⟩
    cases is
    exact ⟨_, rfl, k H' O' st rs⟩
theorem tf_cmp {op : CmpOp} {g : G2} (ho : OpD X (compareOp op) g) (ha : PEf X a fa) (hb : PEf X b fb) (hm : behindInMarks op b = false) : PTf X (.Compare a [op] [b] pos) (asT (bin2 g fa fb)) :=
  PT.weaken (pt_cmpR ho ha hb hm) fun σ H Q h => by
    have q := asT_lift h
    exact two_lift q
theorem tf_val (ha : PEf X a fa) (he : ∀ whole, isTrue a X.env whole = (do let v ← whole; standAt a.pos; holding [v] (truthy v)) := by intro _; rfl) : PTf X a (asT fa) :=
  PT.weaken (pt_val ha he) fun σ H Q h => asT_lift h
def notT (f : TF) : TF := fun ρ L => (f ρ L).bind fun x => some (!x.1, x.2)
def andT (f g : TF) : TF := fun ρ L => (f ρ L).bind fun x => if x.1 = true then g ρ x.2 else some (false, x.2)
def orT (f g : TF) : TF := fun ρ L => (f ρ L).bind fun x => if x.1 = true then some (true, x.2) else g ρ x.2
theorem tf_not {f : TF} (ha : PTf X a f) : PTf X (.UnaryOp .Not a pos) (notT f) :=
  PT.weaken (pt_not ha) fun σ H Q ⟨O, ρ, L, b, L', r, e, k⟩ => by
    unfold notT at e
    cases e1 : f ρ L with
    | none => rw [e1] at e; cases e
    | some p => rw [e1] at e; cases e; exact ⟨O, ρ, L, p.1, p.2, r, e1, fun H' O' st rs => k H' O' st rs⟩
theorem wf_one_and {f : TF} (ha : PTf X a f) : PWf X (.BoolOp .And [a] pos) f := pw_and1 ha
theorem wf_one_or {f : TF} (ha : PTf X a f) : PWf X (.BoolOp .Or [a] pos) f := pw_or1 ha
theorem wf_and {f g : TF} {rest : List Expr} (ha : PTf X a f) (hb : PWf X (.BoolOp .And (b :: rest) pos) g) : PWf X (.BoolOp .And (a :: b :: rest) pos) (andT f g) :=
  PW.weaken (pw_and ha hb) fun σ H Q ⟨O, ρ, L, c, L', r, e, k⟩ => by
    unfold andT at e
    cases e1 : f ρ L with
    | none => rw [e1] at e; cases e
    | some p =>
      rw [e1] at e
      obtain ⟨b1, L1⟩ := p
      refine ⟨O, ρ, L, b1, L1, r, e1, fun H1 O1 st rs => ?_⟩
      cases b1 with
      | true =>
        refine iteT ⟨O1, ρ, L1, c, L', r.to st rs, by simpa using e, fun H' O' st' rs' => k H' O' (st.trans st') rs'⟩
      | false =>
        simp at e
        obtain ⟨rfl, rfl⟩ := e
        exact iteF (k H1 O1 st rs)
theorem wf_or {f g : TF} {rest : List Expr} (ha : PTf X a f) (hb : PWf X (.BoolOp .Or (b :: rest) pos) g) : PWf X (.BoolOp .Or (a :: b :: rest) pos) (orT f g) :=
  PW.weaken (pw_or ha hb) fun σ H Q ⟨O, ρ, L, c, L', r, e, k⟩ => by
    unfold orT at e
    cases e1 : f ρ L with
    | none => rw [e1] at e; cases e
    | some p =>
      rw [e1] at e
      obtain ⟨b1, L1⟩ := p
      refine ⟨O, ρ, L, b1, L1, r, e1, fun H1 O1 st rs => ?_⟩
      cases b1 with
      | true =>
        simp at e
        obtain ⟨rfl, rfl⟩ := e
        exact iteT (k H1 O1 st rs)
      | false =>
        refine iteF ⟨O1, ρ, L1, c, L', r.to st rs, by simpa using e, fun H' O' st' rs' => k H' O' (st.trans st') rs'⟩
theorem tf_w {f : TF} (h : PWf X a f) : PTf X a f := PW.pt h

/-! and, or, not as values (truths) -/
def andV (f g : EF) : EF := fun ρ L => (f ρ L).bind fun x => match x.1 with | .bl true => g ρ x.2 | .bl false => some (.bl false, x.2) | _ => none
def orV (f g : EF) : EF := fun ρ L => (f ρ L).bind fun x => match x.1 with | .bl true => some (.bl true, x.2) | .bl false => g ρ x.2 | _ => none
def notV (f : EF) : EF := fun ρ L => (f ρ L).bind fun x => match x.1 with | .bl b => some (.bl (!b), x.2) | _ => none
theorem ef_one {op : BoolOp} {f : EF} (h : PEf X a f) : PEf X (.BoolOp op [a] pos) f := pe_one h
theorem ef_and {f g : EF} {rest : List Expr} (ha : PEf X a f) (hb : PEf X (.BoolOp .And (b :: rest) pos) g) : PEf X (.BoolOp .And (a :: b :: rest) pos) (andV f g) :=
  PE.weaken (pe_and ha hb) fun σ H Q ⟨O, ρ, L, c, L', r, e, k⟩ => by
    unfold andV at e
    cases e1 : f ρ L with
    | none => rw [e1] at e; cases e
    | some p =>
      rw [e1] at e
      obtain ⟨d, L1⟩ := p
      refine ⟨O, ρ, L, d, L1, r, e1, fun v H1 O1 st rs is => ?_⟩
      cases d <;> simp only [Option.bind_some] at e <;> try (cases e; done)
      rename_i b1
      cases is
      refine ⟨b1, rfl, ?_⟩
      cases b1 with
      | true => exact iteT ⟨O1, ρ, L1, c, L', r.to st rs, by simpa using e, fun v H' O' st' rs' is' => k v H' O' (st.trans st') rs' is'⟩
      | false =>
        simp at e
        obtain ⟨rfl, rfl⟩ := e
        exact iteF (k _ H1 O1 st rs (.bl _))
theorem ef_or {f g : EF} {rest : List Expr} (ha : PEf X a f) (hb : PEf X (.BoolOp .Or (b :: rest) pos) g) : PEf X (.BoolOp .Or (a :: b :: rest) pos) (orV f g) :=
  PE.weaken (pe_or ha hb) fun σ H Q ⟨O, ρ, L, c, L', r, e, k⟩ => by
    unfold orV at e
    cases e1 : f ρ L with
    | none => rw [e1] at e; cases e
    | some p =>
      rw [e1] at e
      obtain ⟨d, L1⟩ := p
      refine ⟨O, ρ, L, d, L1, r, e1, fun v H1 O1 st rs is => ?_⟩
      cases d <;> simp only [Option.bind_some] at e <;> try (cases e; done)
      rename_i b1
      cases is
      refine ⟨b1, rfl, ?_⟩
      cases b1 with
      | false => exact iteF ⟨O1, ρ, L1, c, L', r.to st rs, by simpa using e, fun v H' O' st' rs' is' => k v H' O' (st.trans st') rs' is'⟩
      | true =>
        simp at e
        obtain ⟨rfl, rfl⟩ := e
        exact iteT (k _ H1 O1 st rs (.bl _))
theorem ef_not {f : EF} (ha : PEf X a f) : PEf X (.UnaryOp .Not a pos) (notV f) :=
  PE.weaken (pe_not ha) fun σ H Q ⟨O, ρ, L, c, L', r, e, k⟩ => by
    unfold notV at e
    cases e1 : f ρ L with
    | none => rw [e1] at e; cases e
    | some p =>
      rw [e1] at e
      obtain ⟨d, L1⟩ := p
      refine ⟨O, ρ, L, d, L1, r, e1, fun v H1 O1 st rs is => ?_⟩
      cases d <;> simp only [Option.bind_some] at e <;> try (cases e; done)
      cases e
      cases is
      exact ⟨_, rfl, k _ H1 O1 st rs (.bl _)⟩
def ifV (t : TF) (f g : EF) : EF := fun ρ L => (t ρ L).bind fun x => if x.1 = true then f ρ x.2 else g ρ x.2
theorem ef_if {t : TF} {f g : EF} (hc : PTf X c t) (ha : PEf X a f) (hb : PEf X b g) : PEf X (.IfExp c a b pos) (ifV t f g) :=
  PE.weaken (pe_ifExp hc ha hb) fun σ H Q ⟨O, ρ, L, d, L', r, e, k⟩ => by
    unfold ifV at e
    cases e1 : t ρ L with
    | none => rw [e1] at e; cases e
    | some p =>
      rw [e1] at e
      obtain ⟨b1, L1⟩ := p
      refine ⟨O, ρ, L, b1, L1, r, e1, fun H1 O1 st rs => ?_⟩
      cases b1 with
      | true => exact iteT ⟨O1, ρ, L1, d, L', r.to st rs, by simpa using e, fun v H' O' st' rs' is' => k v H' O' (st.trans st') rs' is'⟩
      | false => exact iteF ⟨O1, ρ, L1, d, L', r.to st rs, by simpa using e, fun v H' O' st' rs' is' => k v H' O' (st.trans st') rs' is'⟩

/-! argument lists, displays -/
def notStar : Expr → Bool
  | .Starred _ _ => false
  | _ => true
theorem starEach_cons {e : Expr} {es : List Expr} {env : Env} (h : notStar e = true) : starEach (e :: es) env = (false, eval e env) :: starEach es env := by
  cases e <;> first | rfl | (cases h)
theorem plain_of : ∀ {es : List Expr} {env : Env} {pos : Pos}, es.all notStar = true → (backTo pos (starEach es env)).any (·.1) = false
  | [], _, _, _ => rfl
  | e :: es, env, pos, h => by
    rw [List.all_cons, Bool.and_eq_true] at h
    rw [starEach_cons h.1]
    have := plain_of (env := env) (pos := pos) h.2
    unfold backTo at this ⊢
    rw [List.map_cons, List.any_cons, this]
    rfl
theorem plain_all : ∀ {es : List Expr} {env : Env} {pos : Pos}, es.all notStar = true → (backTo pos (starEach es env)).all (fun x => !x.1) = true
  | [], _, _, _ => rfl
  | e :: es, env, pos, h => by
    rw [List.all_cons, Bool.and_eq_true] at h
    rw [starEach_cons h.1]
    have := plain_all (env := env) (pos := pos) h.2
    unfold backTo at this ⊢
    rw [List.map_cons, List.all_cons, this]
    rfl
def nilA : AF := fun _ L => some ([], L)
def consA (f : EF) (g : AF) : AF := fun ρ L => (f ρ L).bind fun x => (g ρ x.2).bind fun y => some (x.1 :: y.1, y.2)
theorem af_nil : PAf X [] nilA := PA.weaken pa_nil fun σ H Q ⟨O, ρ, L, d, L', r, e, k⟩ => by cases e; exact k _ _ _ (.refl _ _) r.s .nil
theorem af_cons {e : Expr} {es : List Expr} {f : EF} {g : AF} (ha : PEf X e f) (hr : PAf X es g) (hs : notStar e = true := by rfl) : PAf X (e :: es) (consA f g) :=
  PA.weaken (pa_cons ha hr (starEach_cons hs)) fun σ H Q ⟨O, ρ, L, d, L', r, e, k⟩ => by
    unfold consA at e
    cases e1 : f ρ L with
    | none => rw [e1] at e; cases e
    | some p =>
      rw [e1] at e
      simp only [Option.bind_some] at e
      cases e2 : g ρ p.2 with
      | none => rw [e2] at e; cases e
      | some q =>
        rw [e2] at e
        cases e
        refine ⟨O, ρ, L, p.1, p.2, r, e1, fun v H1 O1 st1 rs1 is1 => ?_⟩
        refine ⟨O1, ρ, p.2, q.1, q.2, r.to st1 rs1, e2, fun u H2 O2 st2 rs2 is2 => ?_⟩
        exact k _ _ _ (st1.trans st2) rs2 (.cons (is1.mono st2) is2)
def tupV (f : AF) : EF := fun ρ L => (f ρ L).bind fun x => if x.1.length ≤ 16777216 then some (.tup x.1, x.2) else none
def lstV (f : AF) : EF := fun ρ L => (f ρ L).bind fun x => if x.1.length ≤ 16777216 then some (.ref x.2.length, x.2 ++ [.lst x.1]) else none
theorem ef_tup {es : List Expr} {f : AF} {x1 : Nat} (h : PAf X es f) : PEf X (.Tuple es x1 pos) (tupV f) :=
  PE.weaken (pe_tup h) fun σ H Q ⟨O, ρ, L, d, L', r, e, k⟩ => by
    unfold tupV at e
    cases e1 : f ρ L with
    | none => rw [e1] at e; cases e
    | some p =>
      rw [e1] at e
      simp only [Option.bind_some] at e
      split at e
      · rename_i hz
        cases e
        refine ⟨O, ρ, L, p.1, p.2, r, e1, fun vs H1 O1 st rs is => ⟨by rw [is.length, sizeLine_eq]; exact hz, fun q hq => ?_⟩⟩
        have st2 : Step H1 O1 (upd H1 q (.tup vs)) O1 := ⟨.new hq, List.prefix_refl _⟩
        exact k _ _ _ (st.trans st2) (rs.ext fun a u e => by rw [upd_ne (ne_of_none e hq)]; exact e) (.tup (SqT.of upd_same) (is.mono st2))
      · cases e
theorem ef_lst {es : List Expr} {f : AF} (h : PAf X es f) : PEf X (.List es pos) (lstV f) :=
  PE.weaken (pe_lst h) fun σ H Q ⟨O, ρ, L, d, L', r, e, k⟩ => by
    unfold lstV at e
    cases e1 : f ρ L with
    | none => rw [e1] at e; cases e
    | some p =>
      rw [e1] at e
      simp only [Option.bind_some] at e
      split at e
      · rename_i hz
        cases e
        refine ⟨O, ρ, L, p.1, p.2, r, e1, fun vs H1 O1 st rs is => ⟨by rw [is.length, sizeLine_eq]; exact hz, fun q hq => ?_⟩⟩
        have st2 : Step H1 O1 (upd H1 q (.lst vs)) (O1 ++ [q]) := ⟨.new hq, List.prefix_append _ _⟩
        refine k _ _ _ (st.trans st2) (rs.new hq ⟨vs, upd_same, is.mono st2⟩) (.ref ?_)
        rw [← rs.len]; simp
      · cases e

/-! calls of builtins -/
def callB (g : GL) (f : AF) : EF := fun ρ L => (f ρ L).bind fun x => g x.1 x.2
theorem call_lift {K : PySem.W.Frag} {g : GL} {f : AF} {σ : L2.St} {H : Hp} {Q : VK} (h : lift K (callB g f) σ H Q) : liftA K f σ H fun vs H1 => rC K g vs H1 Q := by
  obtain ⟨O, ρ, L, d, L', r, e, k⟩ := h
  unfold callB at e
  cases e1 : f ρ L with
  | none => rw [e1] at e; cases e
  | some p =>
    rw [e1] at e
    exact ⟨O, ρ, L, p.1, p.2, r, e1, fun vs H1 O1 st rs is => ⟨O1, p.2, p.1, d, L', rs, is, e, fun w H' O' st' rs' is' => k w H' O' (st.trans st') rs' is'⟩⟩
theorem ef_callB {x : Str} {p : Pos} {e : Expr} {es : List Expr} {id : String} {g : GL} {f : AF} (hc : CallD X (.builtin id) g) (hm : X.mg x = none) (hv : bootBuiltins x = some (.builtin id)) (ha : PAf X (e :: es) f) (hg : Gl X x := by rfl) (hn : x ≠ "__name__" := by decide) (hdb : (x == ("__debug__" : Str)) = false := by decide)
    (he : notStar e = true := by rfl) (hpl : es.all notStar = true := by rfl) : PEf X (.Call (.Name x p) (e :: es) [] pos) (callB g f) :=
  PE.weaken (pe_callB hc hg hm hv ha hn hdb (starEach_cons he) (plain_of hpl)) fun σ H Q h => call_lift h
theorem ef_callTy {x : Str} {p : Pos} {e : Expr} {es : List Expr} {T : String} {g : GL} {f : AF} (hc : CallD X (.type T) g) (hm : X.mg x = none) (hv : bootBuiltins x = some (.type T)) (ha : PAf X (e :: es) f) (hg : Gl X x := by rfl) (hn : x ≠ "__name__" := by decide) (hdb : (x == ("__debug__" : Str)) = false := by decide)
    (he : notStar e = true := by rfl) (hpl : es.all notStar = true := by rfl) : PEf X (.Call (.Name x p) (e :: es) [] pos) (callB g f) :=
  PE.weaken (pe_callTy hc hg hm hv ha hn hdb (starEach_cons he) (plain_of hpl)) fun σ H Q h => call_lift h
end
end L3

set_option maxHeartbeats 4000000
namespace L3
open PySem PySem.Spec PyProof.Rows L2

inductive Out where
  | next (ρ : Fm) (L : Sto) | ret (d : D) (L : Sto) | brk (ρ : Fm) (L : Sto) | cont (ρ : Fm) (L : Sto)
abbrev SF := Fm → Sto → Option Out
def PostS (K : PySem.W.Frag) (H : Hp) (O : List Addr) (E : Ends) : Out → Prop
  | .next ρ L => ∀ σ' H' O', Step H O H' O' → Rep K H' O' σ' ρ L → E.nx σ' H'
  | .ret d L => ∀ v H' O', Step H O H' O' → RepS K H' O' L → Is K H' O' v d → E.rt v H'
  | .brk ρ L => ∀ σ' H' O', Step H O H' O' → Rep K H' O' σ' ρ L → E.bk σ' H'
  | .cont ρ L => ∀ σ' H' O', Step H O H' O' → Rep K H' O' σ' ρ L → E.ct σ' H'
theorem PostS.mono {K : PySem.W.Frag} {H H1 : Hp} {O O1 : List Addr} {E : Ends} {out : Out} (st : Step H O H1 O1) (h : PostS K H O E out) : PostS K H1 O1 E out := by
  cases out with
  | next ρ L => exact fun σ' H' O' st' r => h σ' H' O' (st.trans st') r
  | ret d L => exact fun v H' O' st' r i => h v H' O' (st.trans st') r i
  | brk ρ L => exact fun σ' H' O' st' r => h σ' H' O' (st.trans st') r
  | cont ρ L => exact fun σ' H' O' st' r => h σ' H' O' (st.trans st') r
def liftS (K : PySem.W.Frag) (f : SF) : TS := fun E σ H => ∃ O ρ L out, Rep K H O σ ρ L ∧ f ρ L = some out ∧ PostS K H O E out
def PSf (X : Cx) (st : Stmt) (f : SF) : Prop := PS X st (liftS X.K f)
def PSsf (X : Cx) (st : List Stmt) (f : SF) : Prop := PSs X st (liftS X.K f)
theorem PS.weaken {X : Cx} {e : Stmt} {t t' : TS} (h : PS X e t) (i : ∀ D σ H, t' D σ H → t D σ H) : PS X e t' := fun pins s σ H D I q => h pins s σ H D I (i D σ H q)
theorem PSs.weaken {X : Cx} {e : List Stmt} {t t' : TS} (h : PSs X e t) (i : ∀ D σ H, t' D σ H → t D σ H) : PSs X e t' := fun pins s σ H D I q => h pins s σ H D I (i D σ H q)

def nextF : SF := fun ρ L => some (.next ρ L)
def seqF (f g : SF) : SF := fun ρ L => (f ρ L).bind fun out => match out with | .next ρ' L' => g ρ' L' | o => some o
def retF (f : EF) : SF := fun ρ L => (f ρ L).bind fun x => some (.ret x.1 x.2)
def retNF : SF := fun _ L => some (.ret .non L)
def exprF (f : EF) : SF := fun ρ L => (f ρ L).bind fun x => some (.next ρ x.2)
def setF (i : Nat) (f : EF) : SF := fun ρ L => (f ρ L).bind fun x => some (.next (ρ.set i (some x.1)) x.2)
def ifF (t : TF) (f g : SF) : SF := fun ρ L => (t ρ L).bind fun x => if x.1 = true then f ρ x.2 else g ρ x.2
def brkF : SF := fun ρ L => some (.brk ρ L)
def contF : SF := fun ρ L => some (.cont ρ L)
section
variable {X : Cx} {st : Stmt} {rest : List Stmt} {f g : SF} {fe : EF} {e : Expr} {pos : Pos}
theorem ssf_nil : PSsf X [] nextF := PSs.weaken pss_nil fun D σ H ⟨O, ρ, L, out, r, e, k⟩ => by cases e; exact k σ H O (.refl _ _) r
theorem ssf_cons (h1 : PSf X st f) (h2 : PSsf X rest g) : PSsf X (st :: rest) (seqF f g) :=
  PSs.weaken (pss_cons h1 h2) fun D σ H ⟨O, ρ, L, out, r, e, k⟩ => by
    unfold seqF at e
    cases e1 : f ρ L with
    | none => rw [e1] at e; cases e
    | some o1 =>
      rw [e1] at e
      simp only [Option.bind_some] at e
      refine ⟨O, ρ, L, o1, r, e1, ?_⟩
      cases o1 with
      | next ρ1 L1 => exact fun σ' H' O' st' r' => ⟨O', ρ1, L1, out, r', e, k.mono st'⟩
      | ret d L1 => cases e; exact k
      | brk ρ1 L1 => cases e; exact k
      | cont ρ1 L1 => cases e; exact k
theorem ssf_one (h1 : PSf X st f) : PSsf X [st] f := PSs.weaken (pss_one h1) fun D σ H h => h
theorem sf_pass : PSf X (.Pass pos) nextF := PS.weaken ps_pass fun D σ H ⟨O, ρ, L, out, r, e, k⟩ => by cases e; exact k σ H O (.refl _ _) r
theorem sf_break : PSf X (.Break pos) brkF := PS.weaken ps_break fun D σ H ⟨O, ρ, L, out, r, e, k⟩ => by cases e; exact k σ H O (.refl _ _) r
theorem sf_continue : PSf X (.Continue pos) contF := PS.weaken ps_continue fun D σ H ⟨O, ρ, L, out, r, e, k⟩ => by cases e; exact k σ H O (.refl _ _) r
theorem sf_expr (he : PEf X e fe) (hs : swapsWith e none pos.line X.env = pure false := by rfl) : PSf X (.Expr e pos) (exprF fe) :=
  PS.weaken (ps_expr he hs) fun D σ H ⟨O, ρ, L, out, r, e, k⟩ => by
    unfold exprF at e
    cases e1 : fe ρ L with
    | none => rw [e1] at e; cases e
    | some p => rw [e1] at e; cases e; exact ⟨O, ρ, L, p.1, p.2, r, e1, fun v H' O' st rs is => k σ H' O' st (r.to st rs)⟩
theorem sf_ret (he : PEf X e fe) : PSf X (.Return (some e) pos) (retF fe) :=
  PS.weaken (ps_ret he) fun D σ H ⟨O, ρ, L, out, r, e, k⟩ => by
    unfold retF at e
    cases e1 : fe ρ L with
    | none => rw [e1] at e; cases e
    | some p => rw [e1] at e; cases e; exact ⟨O, ρ, L, p.1, p.2, r, e1, fun v H' O' st rs is => k v H' O' st rs is⟩
theorem sf_retN : PSf X (.Return none pos) retNF :=
  PS.weaken ps_retN fun D σ H ⟨O, ρ, L, out, r, e, k⟩ => by cases e; exact k _ _ _ (.refl _ _) r.s .non
theorem sf_set {i : Nat} {x : Str} {pos' : Pos} (hN : X.N.Nodup) (he : PEf X e fe) (hi : X.N[i]? = some x := by rfl) (hx : Loc X.env.scope x := by first | exact Or.inl rfl | exact Or.inr rfl) (hs : swapsWith e (some (.Name x pos')) pos.line X.env = pure false := by rfl)
    (hf : X.fn x = true ∨ X.env.scope.names.lookup x = some .local := by first | exact .inl rfl | exact .inr rfl) : PSf X (.Assign [.Name x pos'] e pos) (setF i fe) :=
  PS.weaken (ps_set hN hi hx he hs hf) fun D σ H ⟨O, ρ, L, out, r, e, k⟩ => by
    unfold setF at e
    cases e1 : fe ρ L with
    | none => rw [e1] at e; cases e
    | some p => rw [e1] at e; cases e; exact ⟨O, ρ, L, p.1, p.2, r, e1, fun v H' O' st rs is => k _ H' O' st ⟨rs, (r.f.mono st).set is i⟩⟩
theorem sf_if {c : Expr} {a b : List Stmt} {t : TF} (hc : PTf X c t) (ha : PSsf X a f) (hb : PSsf X b g) : PSf X (.If c a b pos) (ifF t f g) :=
  PS.weaken (ps_if hc ha hb) fun D σ H ⟨O, ρ, L, out, r, e, k⟩ => by
    unfold ifF at e
    cases e1 : t ρ L with
    | none => rw [e1] at e; cases e
    | some p =>
      rw [e1] at e
      obtain ⟨b1, L1⟩ := p
      refine ⟨O, ρ, L, b1, L1, r, e1, fun H1 O1 st rs => ?_⟩
      cases b1 with
      | true => exact iteT ⟨O1, ρ, L1, out, r.to st rs, by simpa using e, k.mono st⟩
      | false => exact iteF ⟨O1, ρ, L1, out, r.to st rs, by simpa using e, k.mono st⟩
end

/-! targets -/
abbrev GF := D → Fm → Option Fm
abbrev GsF := List D → Fm → Option Fm
def liftG (K : PySem.W.Frag) (g : GF) : TG := fun v σ H Q => ∃ O ρ L d ρ', Rep K H O σ ρ L ∧ Is K H O v d ∧ g d ρ = some ρ' ∧ ∀ σ', Rep K H O σ' ρ' L → Q σ' H
def liftGs (K : PySem.W.Frag) (g : GsF) : TGs := fun v σ H Q => ∃ O ρ L d ρ', Rep K H O σ ρ L ∧ IsL K H O v d ∧ g d ρ = some ρ' ∧ ∀ σ', Rep K H O σ' ρ' L → Q σ' H
def PGf (X : Cx) (tg : Expr) (g : GF) : Prop := PG X tg (liftG X.K g)
def PGsf (X : Cx) (tg : List Expr) (g : GsF) : Prop := PGs X tg (liftGs X.K g)
theorem PG.weaken {X : Cx} {e : Expr} {t t' : TG} (h : PG X e t) (i : ∀ v σ H Q, t' v σ H Q → t v σ H Q) : PG X e t' := fun pins s σ H v u Q I r q => h pins s σ H v u Q I r (i _ _ _ _ q)
theorem PGs.weaken {X : Cx} {e : List Expr} {t t' : TGs} (h : PGs X e t) (i : ∀ v σ H Q, t' v σ H Q → t v σ H Q) : PGs X e t' := fun pins s σ H v u Q I r q => h pins s σ H v u Q I r (i _ _ _ _ q)
def gNameF (i : Nat) : GF := fun d ρ => some (ρ.set i (some d))
def gNilF : GsF := fun ds ρ => match ds with | [] => some ρ | _ => none
def gConsF (g : GF) (h : GsF) : GsF := fun ds ρ => match ds with | d :: r => (g d ρ).bind fun ρ' => h r ρ' | [] => none
def gTupF (n : Nat) (h : GsF) : GF := fun d ρ => match d with | .tup ds => if ds.length = n then h ds ρ else none | _ => none
section
variable {X : Cx} {pos : Pos}
theorem gf_name {i : Nat} {x : Str} (hN : X.N.Nodup) (hi : X.N[i]? = some x := by rfl) (hx : Loc X.env.scope x := by first | exact Or.inl rfl | exact Or.inr rfl) (hf : X.fn x = true ∨ X.env.scope.names.lookup x = some .local := by first | exact .inl rfl | exact .inr rfl) : PGf X (.Name x pos) (gNameF i) :=
  PG.weaken (pg_name hN hi hx hf) fun v σ H Q ⟨O, ρ, L, d, ρ', r, is, e, k⟩ => by
    cases e
    exact k _ ⟨r.s, r.f.set is i⟩
theorem gsf_nil : PGsf X [] gNilF := PGs.weaken pgs_nil fun v σ H Q ⟨O, ρ, L, d, ρ', r, is, e, k⟩ => by
  cases is with
  | nil => cases e; exact ⟨rfl, k _ r⟩
  | cons a b => cases e
end
end L3

set_option maxHeartbeats 4000000
namespace L3
open PySem PySem.Spec PyProof.Rows L2
section
variable {X : Cx} {pos : Pos}
theorem gsf_cons {e : Expr} {es : List Expr} {g : GF} {h : GsF} (h1 : PGf X e g) (h2 : PGsf X es h)
    (hs : (assignEach (e :: es) X.env).map (·.2) = assign e X.env :: (assignEach es X.env).map (·.2) := by rfl) : PGsf X (e :: es) (gConsF g h) :=
  PGs.weaken (pgs_cons h1 h2 hs) fun v σ H Q ⟨O, ρ, L, ds, ρ', r, is, e, k⟩ => by
    cases is with
    | nil => cases e
    | @cons v d vs ds a b =>
      simp only [gConsF] at e
      cases e1 : g d ρ with
      | none => rw [e1] at e; cases e
      | some ρ1 =>
        rw [e1] at e
        exact ⟨v, vs, rfl, O, ρ, L, d, ρ1, r, a, e1, fun σ' r' => ⟨O, ρ1, L, ds, ρ', r', b, e, k⟩⟩
theorem gf_tup {es : List Expr} {k : Nat} {h : GsF} {n : Nat} (hc : X.calm = true) (h1 : PGsf X es h)
    (hn : (assignEach es X.env).length = n := by rfl) (hst : (assignEach es X.env).findIdx? (·.1) = none := by rfl) : PGf X (.Tuple es k pos) (gTupF n h) :=
  PG.weaken (pg_tup hc h1 hn hst) fun v σ H Q ⟨O, ρ, L, d, ρ', r, is, e, k⟩ => by
    cases is with
    | @tup a vs ds hq il =>
      simp only [gTupF] at e
      split at e
      · rename_i hl
        exact ⟨a, vs, rfl, hq, by rw [il.length]; exact hl, O, ρ, L, ds, ρ', r, il, e, k⟩
      · cases e
    | _ => cases e
def asgF (f : EF) (g : GF) : SF := fun ρ L => (f ρ L).bind fun x => (g x.1 ρ).bind fun ρ' => some (.next ρ' x.2)
theorem sf_asg {tg e : Expr} {f : EF} {g : GF} (he : PEf X e f) (hg : PGf X tg g) (hs : swapsWithSole [tg] e pos.line X.env = pure false := by rfl) (hw : swappedStores [tg] e X.env = pure none := by rfl)
    (h1 : (assignEach [tg] X.env).map (·.2) = [assign tg X.env] := by rfl) : PSf X (.Assign [tg] e pos) (asgF f g) :=
  PS.weaken (ps_asg he hg hs hw h1) fun D σ H ⟨O, ρ, L, out, r, e, k⟩ => by
    unfold asgF at e
    cases e1 : f ρ L with
    | none => rw [e1] at e; cases e
    | some p =>
      rw [e1] at e
      simp only [Option.bind_some] at e
      cases e2 : g p.1 ρ with
      | none => rw [e2] at e; cases e
      | some ρ' =>
        rw [e2] at e
        cases e
        exact ⟨O, ρ, L, p.1, p.2, r, e1, fun v H' O' st rs is => ⟨O', ρ, p.2, p.1, ρ', r.to st rs, is, e2, fun σ' r' => k σ' H' O' st r'⟩⟩
end

/-! loops -/
structure ItD where
  items : List D
  ok : Sto → Bool
abbrev IF := Fm → Sto → Option (ItD × Sto)
def ItIs (K : PySem.W.Frag) (H0 : Hp) (O0 : List Addr) (Jt : It) (J : ItD) : Prop := ∀ (i : Nat) (H : Hp) (O : List Addr) (L : Sto), Step H0 O0 H O → RepS K H O L → J.ok L = true →
  (∀ d, J.items[i]? = some d → Jt.go i H ∧ ∀ x H', Jt.yld i H x H' → Step H O H' O ∧ RepS K H' O L ∧ Is K H' O x d) ∧ (J.items.length ≤ i → Jt.stop i H)
theorem ItIs.mono {K : PySem.W.Frag} {H0 H1 : Hp} {O0 O1 : List Addr} {Jt : It} {J : ItD} (st : Step H0 O0 H1 O1) (h : ItIs K H0 O0 Jt J) : ItIs K H1 O1 Jt J := fun i H O L s r o => h i H O L (st.trans s) r o
def liftI (K : PySem.W.Frag) (f : IF) : TI := fun σ H R => ∃ O ρ L J L', Rep K H O σ ρ L ∧ f ρ L = some (J, L') ∧ ∀ Jt H' O', Step H O H' O' → RepS K H' O' L' → ItIs K H' O' Jt J → R Jt H'
def PIf (X : Cx) (tg iter : Expr) (f : IF) : Prop := PI X tg iter (liftI X.K f)
theorem PI.weaken {X : Cx} {tg e : Expr} {t t' : TI} (h : PI X tg e t) (i : ∀ σ H R, t' σ H R → t σ H R) : PI X tg e t' := fun pins s σ H R I q => h pins s σ H R I (i _ _ _ q)
def loopL (ok : Sto → Bool) (g : GF) (body : SF) : List D → Fm → Sto → Option Out
  | [], ρ, L => if ok L = true then some (.next ρ L) else none
  | x :: xs, ρ, L => if ok L = true then (g x ρ).bind fun ρ1 => (body ρ1 L).bind fun out => match out with
      | .next ρ2 L2 => loopL ok g body xs ρ2 L2
      | .cont ρ2 L2 => loopL ok g body xs ρ2 L2
      | .brk ρ2 L2 => some (.next ρ2 L2)
      | .ret d L2 => some (.ret d L2)
    else none
def forF (fi : IF) (g : GF) (body : SF) : SF := fun ρ L => (fi ρ L).bind fun x => loopL x.1.ok g body x.1.items ρ x.2
theorem sf_for {X : Cx} {tg iter : Expr} {body : List Stmt} {fi : IF} {g : GF} {fb : SF} {pos : Pos} (hp : PassesOwn (model X.prog X.w) X.A X.env X.xe) (hc : X.calm = true) (hi : PIf X tg iter fi) (hg : PGf X tg g) (hb : PSsf X body fb)
    (hs : ∀ x, foldedSetIterable iter X.env x = pure x := by intro _; rfl) : PSf X (.For tg iter body [] pos) (forF fi g fb) :=
  PS.weaken (ps_for hp hc hi hg hb hs) fun D σ H ⟨O, ρ, L, out, r, e, k⟩ => by
    unfold forF at e
    cases e1 : fi ρ L with
    | none => rw [e1] at e; cases e
    | some p =>
      rw [e1] at e
      obtain ⟨⟨items, ok⟩, L1⟩ := p
      simp only [Option.bind_some] at e
      refine ⟨O, ρ, L, _, _, r, e1, fun Jt H1 O1 st1 rs1 it => ?_⟩
      refine ⟨fun i m σ H => m = items.length - i ∧ i ≤ items.length ∧ ∃ O ρ L, Step H1 O1 H O ∧ Rep X.K H O σ ρ L ∧ loopL ok g fb (items.drop i) ρ L = some out ∧ PostS X.K H O D out,
        ⟨items.length, rfl, Nat.zero_le _, O1, ρ, L1, .refl _ _, r.to st1 rs1, e, k.mono st1⟩, ?_⟩
      rintro i m σ' H' ⟨rfl, hi', O', ρ', L', st', r', el, k'⟩
      by_cases hlt : i < items.length
      · have ed : items.drop i = items[i] :: items.drop (i + 1) := List.drop_eq_getElem_cons hlt
        rw [ed] at el
        simp only [loopL] at el
        split at el
        · rename_i hok
          obtain ⟨h1, _⟩ := it i H' O' L' st' r'.s hok
          obtain ⟨go, yl⟩ := h1 items[i] (by simp [hlt])
          refine .inr ⟨go, fun σ2 H2 => ∃ m', m' < items.length - i ∧ m' = items.length - (i + 1) ∧ i + 1 ≤ items.length ∧ ∃ O ρ L, Step H1 O1 H2 O ∧ Rep X.K H2 O σ2 ρ L ∧ loopL ok g fb (items.drop (i + 1)) ρ L = some out ∧ PostS X.K H2 O D out,
            fun σ2 H2 h => h, fun x H2 y => ?_⟩
          obtain ⟨st2, rs2, is2⟩ := yl x H2 y
          cases eg : g items[i] ρ' with
          | none => rw [eg] at el; cases el
          | some ρ1 =>
            rw [eg] at el
            simp only [Option.bind_some] at el
            refine ⟨O', ρ', L', _, ρ1, r'.to st2 rs2, is2, eg, fun σ3 r3 => ?_⟩
            cases eb : fb ρ1 L' with
            | none => rw [eb] at el; cases el
            | some o1 =>
              rw [eb] at el
              simp only [Option.bind_some] at el
              refine ⟨O', ρ1, L', o1, r3, eb, ?_⟩
              cases o1 with
              | next ρ2 L2 => exact fun σ4 H4 O4 st4 r4 => ⟨items.length - (i + 1), by omega, rfl, hlt, O4, ρ2, L2, (st'.trans st2).trans st4, r4, el, (k'.mono st2).mono st4⟩
              | cont ρ2 L2 => exact fun σ4 H4 O4 st4 r4 => ⟨items.length - (i + 1), by omega, rfl, hlt, O4, ρ2, L2, (st'.trans st2).trans st4, r4, el, (k'.mono st2).mono st4⟩
              | brk ρ2 L2 => cases el; exact fun σ4 H4 O4 st4 r4 => k' σ4 H4 O4 (st2.trans st4) r4
              | ret d L2 => cases el; exact fun v H4 O4 st4 r4 i4 => k' v H4 O4 (st2.trans st4) r4 i4
        · cases el
      · have hi2 : i = items.length := by omega
        subst hi2
        rw [List.drop_length] at el
        simp only [loopL] at el
        split at el
        · rename_i hok
          cases el
          obtain ⟨_, h2⟩ := it _ H' O' L' st' r'.s hok
          exact .inl ⟨h2 (Nat.le_refl _), k' σ' H' O' (.refl _ _) r'⟩
        · cases el

/-! what may be walked -/
def iTupF (f : EF) : IF := fun ρ L => (f ρ L).bind fun x => match x.1 with | .tup xs => some (⟨xs, fun _ => true⟩, x.2) | _ => none
def iLstF (f : EF) : IF := fun ρ L => (f ρ L).bind fun x => match x.1 with
  | .fz xs => some (⟨xs, fun _ => true⟩, x.2)
  | .ref k => match x.2[k]? with | some (.lst xs) => some (⟨xs, fun L' => decide (L'[k]? = some (.lst xs))⟩, x.2) | _ => none
  | _ => none
def rngD (lo : Int) (n : Nat) : List D := (List.range n).map fun (i : Nat) => .int (lo + ((i : Nat) : Int))
def iRng1F (f : AF) : IF := fun ρ L => (f ρ L).bind fun x => match x.1 with
  | [.int j] => if j ≤ 4611686018427387903 ∧ -4611686018427387904 ≤ j then some (⟨rngD 0 j.toNat, fun _ => true⟩, x.2) else none
  | _ => none
def iRng2F (f : AF) : IF := fun ρ L => (f ρ L).bind fun x => match x.1 with
  | [.int i, .int j] => if (i ≤ 4611686018427387903 ∧ -4611686018427387904 ≤ i) ∧ (j ≤ 4611686018427387903 ∧ -4611686018427387904 ≤ j) then some (⟨rngD i (j - i).toNat, fun _ => true⟩, x.2) else none
  | _ => none
section
variable {X : Cx} {tg l : Expr} {f : EF}
theorem rngD_get (lo : Int) (n i : Nat) : (rngD lo n)[i]? = if i < n then some (.int (lo + (i : Int))) else none := by
  unfold rngD
  rw [List.getElem?_map]
  by_cases h : i < n
  · rw [if_pos h]; simp [List.getElem?_range h]
  · rw [if_neg h]; simp; omega
theorem rngD_len (lo : Int) (n : Nat) : (rngD lo n).length = n := by simp [rngD]
theorem itis_rng {K : PySem.W.Frag} {H0 : Hp} {O0 : List Addr} {lo : Int} {n : Nat} : ItIs K H0 O0 (Itr lo n) ⟨rngD lo n, fun _ => true⟩ := by
  intro i H O L st rs _
  refine ⟨fun d hd => ?_, fun h => by rw [rngD_len] at h; exact h⟩
  simp only at hd
  rw [rngD_get] at hd
  split at hd
  · rename_i hlt
    cases hd
    refine ⟨hlt, fun x H' y => ?_⟩
    obtain ⟨e, y⟩ := y
    subst e y
    exact ⟨.refl _ _, rs, .int _⟩
  · cases hd
theorem pif_tup (hl : PEf X l f) : PIf X tg l (iTupF f) := PI.weaken (pi_tup hl) fun σ H R ⟨O, ρ, L, J, L', r, e, k⟩ => by
  unfold iTupF at e
  cases e1 : f ρ L with
  | none => rw [e1] at e; cases e
  | some p =>
    rw [e1] at e
    obtain ⟨d, L1⟩ := p
    cases d <;> simp only [Option.bind_some] at e <;> try (cases e; done)
    cases e
    refine ⟨O, ρ, L, _, _, r, e1, fun v H1 O1 st rs is => ?_⟩
    cases is with
    | @tup a vs ds hq il =>
      refine ⟨a, rfl, ⟨vs, hq⟩, k _ _ _ st rs fun i H2 O2 L2 st2 rs2 _ => ?_⟩
      have hq2 := SqT.grow st2.1 hq
      have il2 := il.mono st2
      refine ⟨fun d hd => ?_, fun h => ⟨vs, hq2, by rw [il.length]; exact h⟩⟩
      obtain ⟨v, hv, iv⟩ := il2.get hd
      refine ⟨⟨vs, v, hq2, hv⟩, fun x H' y => ?_⟩
      obtain ⟨e, y⟩ := y
      subst e
      have := y vs hq2
      rw [hv] at this; cases this
      exact ⟨.refl _ _, rs2, iv⟩
theorem pif_lst (hl : PEf X l f) : PIf X tg l (iLstF f) := PI.weaken (pi_list hl) fun σ H R ⟨O, ρ, L, J, L', r, e, k⟩ => by
  unfold iLstF at e
  cases e1 : f ρ L with
  | none => rw [e1] at e; cases e
  | some p =>
    rw [e1] at e
    obtain ⟨d, L1⟩ := p
    cases d <;> simp only [Option.bind_some] at e <;> try (cases e; done)
    · cases e
      refine ⟨O, ρ, L, _, _, r, e1, fun v H1 O1 st rs is => ?_⟩
      cases is with
      | @fz a vs ds hq il =>
        refine ⟨a, rfl, ⟨vs, hq.sql⟩, k _ _ _ st rs fun i H2 O2 L2 st2 rs2 _ => ?_⟩
        have hq2 := (SqF.grow st2.1 hq).sql
        have il2 := il.mono st2
        refine ⟨fun d hd => ?_, fun h => ⟨vs, hq2, by rw [il.length]; exact h⟩⟩
        obtain ⟨v, hv, iv⟩ := il2.get hd
        refine ⟨⟨vs, v, hq2, hv⟩, fun x H' y => ?_⟩
        obtain ⟨e, y⟩ := y
        subst e
        have := y vs hq2
        rw [hv] at this; cases this
        exact ⟨.refl _ _, rs2, iv⟩
    · rename_i kk
      cases e2 : L1[kk]? with
      | none => rw [e2] at e; cases e
      | some o =>
        rw [e2] at e
        cases o with
        | dk _ => cases e
        | lst xs =>
          cases e
          refine ⟨O, ρ, L, _, _, r, e1, fun v H1 O1 st rs is => ?_⟩
          cases is with
          | @ref _ a hk =>
            obtain ⟨vs, hv, il⟩ := rs.ob _ _ _ hk e2
            refine ⟨a, rfl, ⟨vs, SqL.of hv⟩, k _ _ _ st rs fun i H2 O2 L2 st2 rs2 hok => ?_⟩
            have hk2 := pref_get st2.2 hk
            obtain ⟨ws, hw, iw⟩ := rs2.ob _ _ _ hk2 (of_decide_eq_true hok)
            refine ⟨fun d hd => ?_, fun h => ⟨ws, SqL.of hw, by rw [iw.length]; exact h⟩⟩
            obtain ⟨v, hv', iv⟩ := iw.get hd
            refine ⟨⟨ws, v, SqL.of hw, hv'⟩, fun x H' y => ?_⟩
            obtain ⟨e, y⟩ := y
            subst e
            have := y ws (SqL.of hw)
            rw [hv'] at this; cases this
            exact ⟨.refl _ _, rs2, iv⟩
theorem pif_range1 {a : Expr} {fa : AF} {p pos : Pos} (hm : X.mg "range" = none) (ha : PAf X [a] fa) (hg : Gl X "range" := by rfl) (hs : starEach [a] X.env = [(false, eval a X.env)] := by rfl) : PIf X tg (.Call (.Name "range" p) [a] [] pos) (iRng1F fa) :=
  PI.weaken (pi_range1 hg hm ha hs) fun σ H R ⟨O, ρ, L, J, L', r, e, k⟩ => by
    unfold iRng1F at e
    cases e1 : fa ρ L with
    | none => rw [e1] at e; cases e
    | some q =>
      rw [e1] at e
      obtain ⟨ds, L1⟩ := q
      simp only [Option.bind_some] at e
      refine ⟨O, ρ, L, ds, L1, r, e1, fun vs H1 O1 st rs is => ?_⟩
      split at e
      · rename_i j
        split at e
        · rename_i hj
          cases e
          cases is with
          | cons i1 i2 =>
            cases i1
            cases i2
            exact ⟨j, rfl, by omega, by omega, k _ _ _ st rs itis_rng⟩
        · cases e
      · cases e
theorem pif_range2 {a b : Expr} {fa : AF} {p pos : Pos} (hm : X.mg "range" = none) (ha : PAf X [a, b] fa) (hg : Gl X "range" := by rfl) (hs : starEach [a, b] X.env = [(false, eval a X.env), (false, eval b X.env)] := by rfl) (hs2 : starEach [b] X.env = [(false, eval b X.env)] := by rfl) : PIf X tg (.Call (.Name "range" p) [a, b] [] pos) (iRng2F fa) :=
  PI.weaken (pi_range2 hg hm ha hs hs2) fun σ H R ⟨O, ρ, L, J, L', r, e, k⟩ => by
    unfold iRng2F at e
    cases e1 : fa ρ L with
    | none => rw [e1] at e; cases e
    | some q =>
      rw [e1] at e
      obtain ⟨ds, L1⟩ := q
      simp only [Option.bind_some] at e
      refine ⟨O, ρ, L, ds, L1, r, e1, fun vs H1 O1 st rs is => ?_⟩
      split at e
      · rename_i i j
        split at e
        · rename_i hj
          cases e
          cases is with
          | cons i1 i2 =>
            cases i1
            cases i2 with
            | cons i3 i4 =>
              cases i3
              cases i4
              exact ⟨i, j, rfl, ⟨by omega, by omega, by omega, by omega⟩, k _ _ _ st rs itis_rng⟩
        · cases e
      · cases e
end
end L3

set_option maxHeartbeats 4000000
namespace L3
open PySem PySem.Spec PyProof.Rows L2

/-! ### a list comprehension -/
theorem fold_free {names : List (Str × NameKind)} {env : Env} : ∀ (cs : List (Str × Addr)), (∀ y ∈ names, y.2 = .free → ∃ c, env.cells.lookup y.1 = some c) →
    ∃ cl : List (Str × Addr), (forIn names cs (fun (x : Str × NameKind) (r : List (Str × Addr)) => match x with
      | (name, kind) => if (kind == NameKind.free) = true then do let a ← cellOf env name; pure (ForInStep.yield ((name, a) :: r)) else pure (ForInStep.yield r)) : Sem (List (Str × Addr))) = pure cl ∧
      (∀ x, (x, NameKind.free) ∈ names → cl.lookup x = env.cells.lookup x) ∧ (∀ x c, cl.lookup x = some c → env.cells.lookup x = some c ∨ cs.lookup x = some c) ∧ (∀ x, (cs.lookup x = env.cells.lookup x) → cl.lookup x = env.cells.lookup x) := by
  induction names with
  | nil => intro cs _; exact ⟨cs, rfl, fun x h => by simp at h, fun x c h => .inr h, fun x h => h⟩
  | cons y r ih =>
    intro cs h
    obtain ⟨n, kd⟩ := y
    rw [List.forIn_cons]
    by_cases hk : kd = .free
    · subst hk
      obtain ⟨c, hc⟩ := h (n, .free) List.mem_cons_self rfl
      obtain ⟨cl, e1, e2, e3, e4⟩ := ih ((n, c) :: cs) fun y hy => h y (List.mem_cons_of_mem _ hy)
      have here : ∀ x, ((n, c) :: cs).lookup x = if x == n then some c else cs.lookup x := fun x => by
        cases hx : x == n <;> simp [List.lookup, hx]
      refine ⟨cl, ?_, fun x hx => ?_, fun x c' hx => ?_, fun x hx => e4 x ?_⟩
      · simp only [cellOf, hc]
        rw [← e1]
        rfl
      · rcases List.mem_cons.mp hx with z | z
        · injection z with z1 _
          subst z1
          refine e4 x ?_
          rw [here]
          simp [hc]
        · exact e2 x z
      · rcases e3 x c' hx with z | z
        · exact .inl z
        · rw [here] at z
          cases hxn : x == n with
          | true =>
            rw [hxn] at z
            simp at z
            subst z
            have : x = n := by simpa using hxn
            subst this
            exact .inl hc
          | false => rw [hxn] at z; exact .inr z
      · rw [here]
        cases hxn : x == n with
        | true =>
          have : x = n := by simpa using hxn
          subst this
          simp [hc]
        | false => simpa using hx
    · have hb : (kd == NameKind.free) = false := by simpa using hk
      obtain ⟨cl, e1, e2, e3, e4⟩ := ih cs fun y hy => h y (List.mem_cons_of_mem _ hy)
      refine ⟨cl, ?_, fun x hx => ?_, e3, e4⟩
      · simp only [hb]
        rw [← e1]
        rfl
      · rcases List.mem_cons.mp hx with z | z
        · injection z with _ z2
          exact absurd z2.symm hk
        · exact e2 x z
theorem closure_ok {scope : Scope} {env : Env} (h : ∀ y ∈ scope.names, y.2 = .free → ∃ c, env.cells.lookup y.1 = some c) :
    ∃ cl, closureFor scope env = pure cl ∧ (∀ x, (x, NameKind.free) ∈ scope.names → cl.lookup x = env.cells.lookup x) ∧ (∀ x c, cl.lookup x = some c → env.cells.lookup x = some c) := by
  obtain ⟨cl, e1, e2, e3, _⟩ := fold_free (names := scope.names) (env := env) [] h
  refine ⟨cl, ?_, e2, fun x c hx => ?_⟩
  · unfold closureFor
    simp only [bind_pure]
    first
      | exact e1
      | (rw [e1]; rfl)
  · rcases e3 x c hx with z | z
    · exact z
    · simp at z

section
variable {prog : Program} {w : World} {A : Around} {R : Result → Shared → Prop} {s : Shared}
theorem comp_loop {elt target iter : Expr} {ifs : List Expr} {scope : Scope} {pos : Pos} {it acc : Value} {env : Env} (I : Nat → Shared → Prop)
    (turn : ∀ n s, I n s → wpAny (model prog w) A (pyNext it) (fun r s₁ => match r with
      | none => R (.ok .next) s₁
      | some v => wpAny (model prog w) A (letOwnedTupleGo target it v) (fun _ s₁' => wpAny (model prog w) A (assign target env v) (fun _ s₂ =>
          wpAny (model prog w) A (forIn ifs true fun c r => if r = true then do let ok ← isTrue c env (eval c env); pure (ForInStep.yield ok) else pure (ForInStep.yield r)) (fun ok s₃ =>
            if ok = true then wpAny (model prog w) A (eval elt env) (fun x s₄ =>
              wpAny (model prog w) A (call (.builtin "list.append") [acc, x]) (fun _ s₅ => ∃ m, m < n ∧ I m s₅) (fun _ _ => False) s₄) (fun _ _ => False) s₃
            else ∃ m, m < n ∧ I m s₃) (fun _ _ => False) s₂) (fun _ _ => False) s₁') (fun _ _ => False) s₁) (fun _ _ => False) s)
    (n : Nat) (h : I n s) :
    codeAny (model prog w) A (.compLoop (.ListComp elt [⟨target, iter, ifs, 0⟩] scope pos) 0 it acc env) R s := by
  refine codeAny_loop rfl I (fun n s hI => ?_) n h
  show wpAny _ A ((compTurn (.ListComp elt [⟨target, iter, ifs, 0⟩] scope pos) 0 it acc env).onRaise (fun x => do noteFrame x env; theTreesLotGoes x)) _ _ s
  refine wpAny_noted ?_
  rw [compTurn_list]
  refine wpAny_bind (wpAny_standAt (wpAny_bind (wpAny_mono (turn n s hI) (fun r s₁ h₁ => ?_) fun _ _ h' => h'.elim)))
  cases r with
  | none => exact wpAny_pure h₁
  | some v =>
    refine wpAny_bind (wpAny_mono h₁ (fun _ s₁' h₁' => ?_) fun _ _ h' => h'.elim)
    refine wpAny_bind (wpAny_mono h₁' (fun _ s₂ h₂ => wpAny_bind (wpAny_mono h₂ (fun ok s₃ h₃ => ?_) fun _ _ h' => h'.elim)) fun _ _ h' => h'.elim)
    cases ok with
    | false => exact wpAny_pure ⟨rfl, h₃⟩
    | true =>
      exact wpAny_bind (wpAny_bind (wpAny_mono h₃ (fun x s₄ h₄ => wpAny_bind (wpAny_mono h₄ (fun _ s₅ h₅ => wpAny_pure (wpAny_pure ⟨rfl, h₅⟩)) fun _ _ h' => h'.elim)) fun _ _ h' => h'.elim))
end

/-- the context of a comprehension's block -/
def compCx (X : Cx) (N' : List Str) (scope : Scope) (cl : List (Str × Addr)) (C : Addr) (s : Shared) (H : Hp) (fp : List Addr) (pins : List (Addr × Obj)) : Cx where
  prog := X.prog
  w := X.w
  K := X.K
  mg := X.mg
  base := X.base
  A := X.A
  N := N'
  s₀ := s
  H₀ := H
  env := compEnvC scope cl C X.env
  outer := X.stack
  stack := X.stack
  ex := fp
  fn := fun _ => false
  calm := X.calm
  pn := X.pn ++ pins
  xe := fun _ _ => False

/-- the tests of a clause -/
def PQf (X : Cx) (ifs : List Expr) (c : TF) : Prop :=
  ∀ (pins : List (Addr × Obj)) (s : Shared) (σ : L2.St) (H : Hp) (Q : Bool → Hp → Prop), Inv X pins σ H s → liftT X.K c σ H Q →
    wpAny (model X.prog X.w) X.A (forIn ifs true fun c r => if r = true then do let ok ← isTrue c X.env (eval c X.env); pure (ForInStep.yield ok) else pure (ForInStep.yield r)) (TP X pins σ Q) X.xe s
def trueT : TF := fun _ L => some (true, L)
theorem qf_nil {X : Cx} : PQf X [] trueT := fun pins s σ H Q I ⟨O, ρ, L, b, L', r, e, k⟩ => by
  cases e
  exact wpAny_tests_nil ⟨H, I, k H O (.refl _ _) r.s⟩
theorem qf_one {X : Cx} {c : Expr} {f : TF} (h : PTf X c f) : PQf X [c] f := fun pins s σ H Q I q => wpAny_tests_one (h pins s σ H Q I q)

def compL (ok : Sto → Bool) (g : GF) (c : TF) (elt : EF) (k : Nat) : List D → Fm → Sto → Option Sto
  | [], ρ, L => if ok L = true then some L else none
  | x :: xs, ρ, L => if ok L = true then (g x ρ).bind fun ρ1 => (c ρ1 L).bind fun p => if p.1 = true then (elt ρ1 p.2).bind fun q => match q.2[k]? with
        | some (.lst ys) => if ys.length < 16777216 then compL ok g c elt k xs ρ1 (q.2.set k (.lst (ys ++ [q.1]))) else none
        | _ => none
      else compL ok g c elt k xs ρ1 p.2
    else none
/-- the block's names at its entry: n of its own, then those from around, by their slots -/
def frC (n : Nat) (idx : List Nat) (ρ : Fm) : Fm := List.replicate n none ++ idx.map fun j => (ρ[j]?).join
def compF (fi : IF) (n : Nat) (idx : List Nat) (g : GF) (c : TF) (elt : EF) : EF := fun ρ L => (fi ρ L).bind fun x =>
  (compL x.1.ok g c elt x.2.length x.1.items (frC n idx ρ) (x.2 ++ [.lst []])).bind fun L2 => some (.ref x.2.length, L2)
end L3

set_option maxHeartbeats 4000000
namespace L3
open PySem PySem.Spec PyProof.Rows L2

theorem relabel_mem {env : Env} : ∀ {names : List (Str × NameKind)} {x : Str} {k : NameKind},
    (names.map fun (n, k) => if (k == NameKind.free && env.scope.kind == .function && env.kindOf n == some .cell) then (n, NameKind.cell) else (n, k)).lookup x = some k →
    ∃ k', (x, k') ∈ names ∧ (k = k' ∨ (k = .cell ∧ k' = .free))
  | [], _, _, h => by simp at h
  | (n, k0) :: r, x, k, h => by
    rw [List.map_cons] at h
    dsimp only at h
    have ih := @relabel_mem env r x k
    by_cases hc : (k0 == NameKind.free && env.scope.kind == .function && env.kindOf n == some .cell) = true
    · rw [if_pos hc] at h
      cases hx : x == n with
      | true =>
        simp only [List.lookup_cons, hx] at h
        cases h
        have e : x = n := by simpa using hx
        subst e
        have hk : k0 = .free := by
          simp only [Bool.and_eq_true] at hc
          simpa using hc.1.1
        subst hk
        exact ⟨.free, List.mem_cons_self, .inr ⟨rfl, rfl⟩⟩
      | false =>
        simp only [List.lookup_cons, hx] at h
        obtain ⟨k', a, b⟩ := ih h
        exact ⟨k', List.mem_cons_of_mem _ a, b⟩
    · rw [if_neg hc] at h
      cases hx : x == n with
      | true =>
        simp only [List.lookup_cons, hx] at h
        cases h
        have e : x = n := by simpa using hx
        subst e
        exact ⟨_, List.mem_cons_self, .inl rfl⟩
      | false =>
        simp only [List.lookup_cons, hx] at h
        obtain ⟨k', a, b⟩ := ih h
        exact ⟨k', List.mem_cons_of_mem _ a, b⟩

section
variable {X : Cx} {elt tg iter : Expr} {ifs : List Expr} {scope : Scope} {pos pos' : Pos} {N' : List Str} {n : Nat} {idx : List Nat} {fi : IF} {g : GF} {c : TF} {fe : EF}
/-- what a comprehension's block wants of its scope -/
structure CompOk (X : Cx) (scope : Scope) (N' : List Str) (n : Nat) (idx : List Nat) : Prop where
  kind : scope.kind = .function
  cell : ∀ y ∈ scope.names, y.2 ≠ .cell
  names : ∀ y ∈ scope.names, y.2 = .local → scope.names.lookup y.1 = some .local
  free : ∀ y ∈ scope.names, y.2 = .free → X.env.kindOf y.1 = some .cell ∨ X.env.kindOf y.1 = some .free
  len : N'.length = n + idx.length
  idx : ∀ (j : Nat) (i : Nat), idx[j]? = some i → ∃ x, N'[n + j]? = some x ∧ X.N[i]? = some x ∧ (x, NameKind.free) ∈ scope.names ∧ ∀ k, (x, k) ∈ scope.names → k = .free

theorem comp_core (hc : X.calm = true) (hi : PIf X tg iter fi) (S : CompOk X scope N' n idx)
    (hbody : ∀ cl C s3 H3 fp pins, PGf (compCx X N' scope cl C s3 H3 fp pins) tg g ∧ PQf (compCx X N' scope cl C s3 H3 fp pins) ifs c ∧ PEf (compCx X N' scope cl C s3 H3 fp pins) elt fe)
    (hs : ∀ x, foldedSetIterable iter X.env x = pure x)
    {pins : List (Addr × Obj)} {s : Shared} {σ : L2.St} {H : Hp} {use : Option (Value → Sem Unit)} {Q' : Value → Shared → Prop} (I : Inv X pins σ H s) {O : List Addr} {ρ : Fm} {L L1 L9 : Sto} {items : List D} {ok : Sto → Bool}
    (r : Rep X.K H O σ ρ L) (e1 : fi ρ L = some (⟨items, ok⟩, L1)) (e2 : compL ok g c fe L1.length items (frC n idx ρ) (L1 ++ [.lst []]) = some L9)
    (fin : ∀ (C D : Addr) (s' : Shared) (H' : Hp) (O' : List Addr) (m : Str → Option Value), Inv X pins σ H' s' → s'.heap.Ns C m → H' C = none → C ≠ X.env.locals → X.s₀.heap.objs.size ≤ C → (∀ x c, X.env.cells.lookup x = some c → c ≠ C) → (∀ p ∈ X.pn ++ pins, p.1 ≠ C) →
      Step H O H' O' → RepS X.K H' O' L9 → O'[L1.length]? = some D → compPost (model X.prog X.w) X.A X.xe use Q' (.ref D) C (.ok .next) s') :
    wpAny (model X.prog X.w) X.A (comprehension (.ListComp elt [⟨tg, iter, ifs, 0⟩] scope pos) scope X.env pos' (newList []) false (eval iter X.env) use) Q' X.xe s := by
  obtain ⟨cl, hclos, clget, clsub⟩ := closure_ok (scope := scope) (env := X.env) fun y hy hk => I.ok.has _ (S.free y hy hk)
  refine wpAny_comprehension_free rfl hs hclos S.kind S.names ?_
  refine thn (hi pins s σ H (fun Jt H1 => ∃ O1, Step H O H1 O1 ∧ RepS X.K H1 O1 L1 ∧ ItIs X.K H1 O1 Jt ⟨items, ok⟩) I ⟨O, ρ, L, _, _, r, e1, fun Jt H1 O1 st rs it => ⟨O1, st, rs, it⟩⟩) fun v s1 h1 => thn h1 fun itv s2 h2 => ?_
  obtain ⟨it, fp, tn, J, H2, rfl, I2, T, st0, f2, O1, stp, rs1, itis⟩ := h2
  refine wpAny_newObj_type (wpAny_newFunctionEnv S.cell (by intro y hy; simp at hy) (fun h₁ hns₁ hsb₁ => ?_) S.kind)
  dsimp only at hns₁ hsb₁ ⊢
  -- the list
  have I3 : Inv X pins σ (upd H2 s2.heap.objs.size (.lst [])) { s2 with heap := s2.heap.push { cls := .type "list", dict := none, data := .seq ([] : List Value).toArray }, toks := s2.toks } :=
    I2.laid (t' := s2.toks) (fun b o e => Heap.get?_push_of_some _ e) (Nat.le_refl _) ⟨by simp, [], 0, .nil, Heap.get?_push_size _ rfl⟩
  have hf2 : H2 s2.heap.objs.size = none := I2.hok.fresh (Nat.le_refl _)
  have rs3 : RepS X.K (upd H2 s2.heap.objs.size (.lst [])) (O1 ++ [s2.heap.objs.size]) (L1 ++ [.lst []]) := rs1.new hf2 ⟨[], upd_same, .nil⟩
  have st3 : Step H2 O1 (upd H2 s2.heap.objs.size (.lst [])) (O1 ++ [s2.heap.objs.size]) := ⟨.new hf2, List.prefix_append _ _⟩
  have fpne : ∀ b ∈ fp, b ≠ s2.heap.objs.size := fun b hb z => by
    obtain ⟨o, e, _⟩ := T.obj 0 _ st0 b hb
    exact absurd (Heap.lt_size e) (by rw [z]; exact Nat.lt_irrefl _)
  have f3 : ∀ b ∈ fp, FpOk X pins (upd H2 s2.heap.objs.size (.lst [])) b := fun b hb => ⟨by rw [upd_ne (fpne b hb)]; exact (f2 b hb).1, (f2 b hb).2⟩
  generalize hH2 : s2.heap.push { cls := .type "list", dict := none, data := .seq ([] : List Value).toArray } = hp3 at hns₁ hsb₁ I3 ⊢
  have hD0 : O1.length = L1.length := rs1.len
  generalize hDD : s2.heap.objs.size = D at *
  generalize hH3 : upd H2 D (.lst []) = H3 at *
  have hDs : (O1 ++ [D])[L1.length]? = some D := by rw [← hD0]; simp
  have tn3 : tn 0 hp3 := T.keep _ _ _ st0 fun b hb o e => by rw [← hH2]; exact Heap.get?_push_of_some _ e
  -- the block's frame
  generalize hC : hp3.objs.size = C at *
  have kept : ∀ b o, hp3.get? b = some o → h₁.get? b = some o := fun b o e => hsb₁.extBut b o (by rw [← hC]; exact Nat.ne_of_lt (Heap.lt_size e)) (Heap.get?_push_of_some _ e)
  have tn4 : tn 0 h₁ := T.keep _ _ _ tn3 fun b hb o e => kept b o e
  let s3 : Shared := { s2 with heap := hp3, toks := s2.toks }
  have Cfresh : ∀ (b : Addr) (o : Obj), hp3.get? b = some o → b ≠ C := fun b o e => by rw [← hC]; exact Nat.ne_of_lt (Heap.lt_size e)
  have CL : C ≠ X.env.locals := fun z => by
    have := I3.lt
    rw [← z, ← hC] at this
    exact Nat.lt_irrefl _ this
  have Ccell : ∀ x c, X.env.cells.lookup x = some c → c ≠ C := fun x c e => by
    obtain ⟨v, o, ho, _⟩ := I3.cell x c e
    exact Cfresh c o ho
  have Cpin : ∀ p ∈ X.pn ++ pins, p.1 ≠ C := fun p hp => Cfresh _ _ (I3.pin p hp).1
  have C0 : X.s₀.heap.objs.size ≤ C := by rw [← hC]; exact I3.sz
  have frsub : ∀ b ∈ frs X.stack, b = X.env.locals ∨ b ∈ X.fs := fun b hb => List.mem_cons.mp (I3.stkSub b hb)
  have kindC : ∀ x k, (relabel scope X.env).names.lookup x = some k → (k = .cell ∨ k = .free) → (x, NameKind.free) ∈ scope.names := fun x k e hk => by
    obtain ⟨k', a, b⟩ := relabel_mem e
    rcases b with rfl | ⟨_, rfl⟩
    · rcases hk with rfl | rfl
      · exact absurd rfl (S.cell _ a)
      · exact a
    · exact a
  have okX : (compCx X N' scope cl C s3 H3 fp pins).Ok := by
    refine ⟨I3.ok.mod, S.kind, I3.ok.glob, I3.ok.blt, Nat.le_of_eq hC, fun x y d h1 h2 => I3.ok.inj x y d (clsub x d h1) (clsub y d h2), fun x hx => ?_, fun x d h1 => (nomatch h1), I3.ok.hd, I3.ok.frames, .inl rfl,
      fun b hb => ⟨fun z => ?_, fun x d e => (f3 b hb).2.2.2.2.1 x d (clsub x d e)⟩, I3.bs, Nat.le_trans I3.ok.bsz I3.sz, fun b o e hb => ?_, fun b hb hz => ?_, I3.stack, I3.stkFree⟩
    · have hx' : (relabel scope X.env).names.lookup x = some .cell ∨ (relabel scope X.env).names.lookup x = some .free := hx
      have hm : (x, NameKind.free) ∈ scope.names := by
        rcases hx' with h | h
        · exact kindC x _ h (.inl rfl)
        · exact kindC x _ h (.inr rfl)
      obtain ⟨d, hd⟩ := I3.ok.has x (S.free _ hm rfl)
      exact ⟨d, (clget x hm).trans hd⟩
    · obtain ⟨o, e, _⟩ := T.obj 0 _ tn3 b hb
      exact Cfresh b o e z
    · rcases (f3 b hb).2.2.2.1 with z | z
      · exact I3.ok.noex b o e z
      · have h1 := Nat.lt_of_lt_of_le (Heap.lt_size e) I3.ok.bsz
        exact absurd (Nat.lt_of_lt_of_le h1 z) (Nat.lt_irrefl _)
    · rcases frsub b hz with z | z
      · exact (f3 b hb).2.1 z
      · exact (f3 b hb).2.2.1 z
  -- its state
  have I4 : Inv (compCx X N' scope cl C s3 H3 fp pins) [] (List.replicate n none ++ idx.map fun j => (σ[j]?).join) H3 { s3 with heap := h₁, toks := s2.toks + ([] : List (Str × Value)).length } := by
    refine ⟨okX, rfl, I3.bare, Un.kept kept, ⟨_, hns₁, fun i x v h1 h2 h3 => ?_⟩, fun x d e => ?_, ?_, fun x d e => I3.freeC x d (clsub x d e), fun p hp => ?_, I3.hok.kept kept, ?_⟩
    · by_cases hin : i < n
      · rw [List.getElem?_append_left (by simpa using hin)] at h2
        rw [List.getElem?_replicate, if_pos hin] at h2
        cases h2
      · rw [List.getElem?_append_right (by simpa using hin)] at h2
        simp only [List.length_replicate] at h2
        rw [List.getElem?_map] at h2
        cases e : idx[i - n]? with
        | none => rw [e] at h2; cases h2
        | some j =>
          rw [e] at h2
          have h2' : (σ[j]?).join = some v := Option.some.inj h2
          have hσ : σ[j]? = some (some v) := by
            cases q : σ[j]? with
            | none => rw [q] at h2'; cases h2'
            | some o => rw [q] at h2'; cases o with
              | none => cases h2'
              | some w => cases h2'; rfl
          obtain ⟨y, a1, a2, a3, a4⟩ := S.idx _ _ e
          have hxy : y = x := by
            have : N'[n + (i - n)]? = some x := by rw [show n + (i - n) = i from by omega]; exact h1
            rw [a1] at this; exact Option.some.inj this
          subst hxy
          have hk := S.free _ a3 rfl
          obtain ⟨m, hm, hl⟩ := I3.loc
          have hvis : Vis X.env.scope y := by
            rcases hk with z | z
            · exact .inr (.inl z)
            · exact .inr (.inr z)
          obtain ⟨u, ru, lk⟩ := hl j y v a2 hσ hvis
          refine ⟨u, ru, .inr ⟨?_, ?_⟩⟩
          · rcases h3 with z | z | z
            · obtain ⟨k', b1, b2⟩ := relabel_mem (show (relabel scope X.env).names.lookup y = some .local from z)
              rcases b2 with b2 | ⟨b2, _⟩
              · have := a4 _ b1
                rw [← b2] at this; cases this
              · cases b2
            · exact .inl z
            · exact .inr z
          · rcases lk with ⟨z, _⟩ | ⟨_, d, hd, ⟨o, ho, hdt⟩⟩
            · rcases hk with q | q <;> rw [q] at z <;> cases z
            · exact ⟨d, (clget y a3).trans hd, o, kept d o ho, hdt⟩
    · obtain ⟨v, o, ho, hdt⟩ := I3.cell x d (clsub x d e)
      exact ⟨v, o, kept d o ho, hdt⟩
    · exact I3.hok.fresh (Nat.le_of_eq hC)
    · have hp' : p ∈ X.pn ++ pins := by simpa [compCx] using hp
      obtain ⟨q1, q2, q3, q4, q5⟩ := I3.pin p hp'
      refine ⟨kept _ _ q1, q2, Cpin p hp', fun z => ?_, q5⟩
      rcases frsub _ z with y | y
      · exact q3 y
      · exact q4 y
    · show _ = N'.length
      rw [S.len]; simp
  have fp4 : ∀ {H' : Hp} {pl : List (Addr × Obj)}, pl = [] → (∀ b ∈ fp, H' b = none) → ∀ b ∈ fp, FpOk (compCx X N' scope cl C s3 H3 fp pins) pl H' b := fun {H' pl} hpl hn b hb => by
    subst hpl
    refine ⟨hn b hb, fun z => (okX.exf b hb).1 z, okX.exfs b hb, .inl hb, fun x d e => (okX.exf b hb).2 x d e, fun p hp => ?_⟩
    have hp' : p ∈ X.pn ++ pins := by simpa [compCx] using hp
    exact (f3 b hb).2.2.2.2.2 p hp'
  obtain ⟨bg, bq, be⟩ := hbody cl C s3 H3 fp pins
  have fr4 : FmIs X.K H3 (O1 ++ [D]) (List.replicate n none ++ idx.map fun j => (σ[j]?).join) (frC n idx ρ) := by
    have fσ := (r.f.mono stp).mono st3
    refine ⟨by simp [frC], fun i d hd => ?_⟩
    unfold frC at hd
    by_cases hin : i < n
    · rw [List.getElem?_append_left (by simpa using hin), List.getElem?_replicate, if_pos hin] at hd
      cases hd
    · rw [List.getElem?_append_right (by simpa using hin)] at hd ⊢
      simp only [List.length_replicate] at hd ⊢
      rw [List.getElem?_map] at hd ⊢
      cases e : idx[i - n]? with
      | none => rw [e] at hd; cases hd
      | some j =>
        rw [e] at hd
        have hd' : (ρ[j]?).join = some d := Option.some.inj hd
        have hρ : ρ[j]? = some (some d) := by
          cases q : ρ[j]? with
          | none => rw [q] at hd'; cases hd'
          | some o => rw [q] at hd'; cases o with
            | none => cases hd'
            | some w => cases hd'; rfl
        obtain ⟨v, hv, iv⟩ := fσ.at' j d hρ
        exact ⟨v, by simp [hv], iv⟩
  have loop : ∀ s₃ : Shared, s₃ = { s3 with heap := h₁, toks := s2.toks + ([] : List (Str × Value)).length } →
      codeAny (model X.prog X.w) X.A (.compLoop (.ListComp elt [⟨tg, iter, ifs, 0⟩] scope pos) 0 (.ref it) (.ref D) (compEnvC scope cl C X.env))
        (compPost (model X.prog X.w) X.A X.xe use Q' (.ref D) C) s₃ := by
    rintro s₃ rfl
    refine comp_loop (fun m s' => ∃ i σ' H' O' ρ' L', m = items.length - i ∧ i ≤ items.length ∧ Inv (compCx X N' scope cl C s3 H3 fp pins) [] σ' H' s' ∧ tn i s'.heap ∧ (∀ b ∈ fp, H' b = none) ∧
      Step H3 (O1 ++ [D]) H' O' ∧ Rep X.K H' O' σ' ρ' L' ∧ compL ok g c fe L1.length (items.drop i) ρ' L' = some L9) ?_ items.length
      ⟨0, _, H3, O1 ++ [D], frC n idx ρ, L1 ++ [.lst []], rfl, Nat.zero_le _, I4, tn4, fun b hb => (f3 b hb).1, .refl _ _, ⟨rs3, fr4⟩, by rw [List.drop_zero]; exact e2⟩
    rintro m s' ⟨i, σ', H', O', ρ', L', rfl, hi', I', tn', fr', st', r', el⟩
    by_cases hlt : i < items.length
    · have ed : items.drop i = items[i] :: items.drop (i + 1) := List.drop_eq_getElem_cons hlt
      rw [ed] at el
      simp only [compL] at el
      split at el
      · rename_i hok
        obtain ⟨q1, _⟩ := itis i H' O' L' (st3.trans st') r'.s hok
        obtain ⟨go, yl⟩ := q1 items[i] (by simp [hlt])
        refine thn (T.item (compCx X N' scope cl C s3 H3 fp pins) rfl rfl rfl hc i [] s' σ' H' (fun _ _ => False) I' (fp4 rfl fr') tn' go) fun rr s4 ⟨u, hr, h4⟩ => ?_
        subst hr
        refine thn h4 fun _ s5 ⟨x, H5, I5, r5, y5, st5, fr5⟩ => ?_
        obtain ⟨stp5, rs5, is5⟩ := yl x H5 y5
        have I5' := I5.pinned (fp4 rfl fr5) (T.obj _ _ st5)
        have back : ∀ {s7 : Shared} {σ7 : L2.St} {H7 : Hp}, Inv (compCx X N' scope cl C s3 H3 fp pins) ([] ++ pinsAt fp s5.heap) σ7 H7 s7 → tn (i + 1) s7.heap ∧ (∀ b ∈ fp, H7 b = none) := fun {s7 σ7 H7} I7 => by
          refine ⟨T.keep _ _ _ st5 fun b hb o e => (I7.pin (b, o) (List.mem_append_right _ (List.mem_append_right _ (mem_pinsAt hb e)))).1, fun b hb => ?_⟩
          obtain ⟨o, e, d⟩ := T.obj _ _ st5 b hb
          exact (I7.pin (b, o) (List.mem_append_right _ (List.mem_append_right _ (mem_pinsAt hb e)))).2.1
        cases eg : g items[i] ρ' with
        | none => rw [eg] at el; cases el
        | some ρ1 =>
          rw [eg] at el
          simp only [Option.bind_some] at el
          refine thn (bg _ s5 σ' H5 x u (fun σ2 Ha => Ha = H5 ∧ Rep X.K H5 O' σ2 ρ1 L') I5' r5 ⟨O', ρ', L', _, ρ1, r'.to stp5 rs5, is5, eg, fun σ2 r2 => ⟨rfl, r2⟩⟩) fun _ s6 ⟨σ6, H6, I6, q6a, q6⟩ => ?_
          subst q6a
          cases ec : c ρ1 L' with
          | none => rw [ec] at el; cases el
          | some pc =>
            rw [ec] at el
            obtain ⟨b1, L5⟩ := pc
            simp only [Option.bind_some] at el
            refine thn (bq _ s6 σ6 H6 (fun b Hb => b = b1 ∧ ∃ Ob, Step H6 O' Hb Ob ∧ RepS X.K Hb Ob L5) I6 ⟨O', ρ1, L', b1, L5, q6, ec, fun Hb Ob st rs => ⟨rfl, Ob, st, rs⟩⟩) fun okb s7 ⟨H7, I7, hb7, O7, st7, rs7⟩ => ?_
            subst hb7
            cases okb with
            | false =>
              rw [if_neg (by simp)] at el
              rw [if_neg (by simp)]
              obtain ⟨b1, b2⟩ := back I7
              exact ⟨items.length - (i + 1), by omega, i + 1, σ6, H7, O7, ρ1, L5, rfl, hlt, I7.unpinned, b1, b2, (st'.trans stp5).trans st7, q6.to st7 rs7, el⟩
            | true =>
              rw [if_pos rfl] at el
              rw [if_pos rfl]
              cases ee : fe ρ1 L5 with
              | none => rw [ee] at el; cases el
              | some pe =>
                rw [ee] at el
                obtain ⟨de, L6⟩ := pe
                simp only [Option.bind_some] at el
                refine thn (be _ s7 σ6 H7 (fun v Hb => ∃ Ob, Step H7 O7 Hb Ob ∧ RepS X.K Hb Ob L6 ∧ Is X.K Hb Ob v de) I7 ⟨O7, ρ1, L5, de, L6, q6.to st7 rs7, ee, fun v Hb Ob st rs is => ⟨Ob, st, rs, is⟩⟩) fun ue s8 ⟨ve, H8, I8, r8, O8, st8, rs8, is8⟩ => ?_
                cases ek : L6[L1.length]? with
                | none => rw [ek] at el; cases el
                | some oo =>
                  rw [ek] at el
                  cases oo with
                  | dk _ => cases el
                  | lst ys =>
                    simp only at el
                    split at el
                    · rename_i hys
                      have stA : Step H3 (O1 ++ [D]) H8 O8 := ((st'.trans stp5).trans st7).trans st8
                      have hD8 : O8[L1.length]? = some D := pref_get stA.2 hDs
                      obtain ⟨vs, hv, il⟩ := rs8.ob _ _ _ hD8 ek
                      refine thn (mt_append (X := compCx X N' scope cl C s3 H3 fp pins) _ s8 σ6 H8 (.ref D) [ve] (.ref D) [ue] (fun v Hb => Hb = upd H8 D (.lst (vs ++ [ve]))) I8 rfl (.cons r8 .nil) ⟨D, vs, ve, rfl, rfl, hv, by rw [il.length, sizeLine_eq]; exact hys, rfl⟩)
                        fun _ s9 ⟨_, H9, I9, _, q9⟩ => ?_
                      subst q9
                      have stw : Step H8 O8 (upd H8 D (.lst (vs ++ [ve]))) O8 := ⟨.write hv id, List.prefix_refl _⟩
                      obtain ⟨b1, b2⟩ := back I9
                      refine ⟨items.length - (i + 1), by omega, i + 1, σ6, _, O8, ρ1, _, rfl, hlt, I9.unpinned, b1, b2, stA.trans stw, ⟨rs8.write (o' := .lst (ys ++ [de])) hD8 ⟨_, upd_same, (il.mono stw).append (.cons (is8.mono stw) .nil)⟩, ((q6.f.mono st7).mono st8).mono stw⟩, el⟩
                    · cases el
      · cases el
    · have hi2 : i = items.length := by omega
      subst hi2
      rw [List.drop_length] at el
      simp only [compL] at el
      split at el
      · rename_i hok
        cases el
        obtain ⟨_, q2⟩ := itis _ H' O' _ (st3.trans st') r'.s hok
        refine thn (T.done (compCx X N' scope cl C s3 H3 fp pins) rfl rfl rfl hc _ [] s' σ' H' (fun _ _ => False) I' (fp4 rfl fr') tn' (q2 (Nat.le_refl _))) fun rr s4 ⟨hr, I4'⟩ => ?_
        subst hr
        obtain ⟨m, hm, _⟩ := I4'.loc
        have hos : s4.os = s3.os := I4'.os
        have J : Inv X pins σ H' s4 := I3.call' (s' := s4) (ch := fp) hos I4'.base I4'.hok I4'.bare fun b hb => ⟨(f3 b hb).2.2.2.1, (f3 b hb).2.1, (f3 b hb).2.2.2.2.1, (f3 b hb).2.2.2.2.2⟩
        exact fin C D s4 H' O' m J hm I4'.free CL C0 Ccell Cpin ((stp.trans st3).trans st') r'.s (pref_get st'.2 hDs)
      · cases el
  exact codeAny_compStart_list (loop _ rfl) (T.self X.A 0 _ _ _ tn4 (loop _ rfl))

theorem ef_comp (hc : X.calm = true) (hi : PIf X tg iter fi) (S : CompOk X scope N' n idx)
    (hbody : ∀ cl C s3 H3 fp pins, PGf (compCx X N' scope cl C s3 H3 fp pins) tg g ∧ PQf (compCx X N' scope cl C s3 H3 fp pins) ifs c ∧ PEf (compCx X N' scope cl C s3 H3 fp pins) elt fe)
    (hs : ∀ x, foldedSetIterable iter X.env x = pure x := by intro _; rfl) : PEf X (.ListComp elt [⟨tg, iter, ifs, 0⟩] scope pos) (compF fi n idx g c fe) := by
  intro pins s σ H Q I ⟨O, ρ, L, d, L', r, e, k⟩
  unfold compF at e
  cases e1 : fi ρ L with
  | none => rw [e1] at e; cases e
  | some p =>
    rw [e1] at e
    obtain ⟨⟨items, ok⟩, L1⟩ := p
    simp only [Option.bind_some] at e
    cases e2 : compL ok g c fe L1.length items (frC n idx ρ) (L1 ++ [.lst []]) with
    | none => rw [e2] at e; cases e
    | some L9 =>
      rw [e2] at e
      cases e
      rw [eval_ListComp]
      refine comp_core hc hi S hbody hs I r e1 e2 fun C D s' H' O' m J hn hfree hL h0 hcell hpin st rs hD => ?_
      refine ⟨m, hn, fun h' sb => ?_⟩
      exact ⟨.ref D, H', J.turned (t' := s'.toks) (fun b o hb e => (sb.2 b hb).trans e) hfree hL (.inr h0) hcell hpin, rfl, k _ _ _ st rs (.ref hD)⟩
theorem sf_setComp {i : Nat} {x : Str} {px : Pos} (hN : X.N.Nodup) (hc : X.calm = true) (hi : PIf X tg iter fi) (S : CompOk X scope N' n idx)
    (hbody : ∀ cl C s3 H3 fp pins, PGf (compCx X N' scope cl C s3 H3 fp pins) tg g ∧ PQf (compCx X N' scope cl C s3 H3 fp pins) ifs c ∧ PEf (compCx X N' scope cl C s3 H3 fp pins) elt fe)
    (hi2 : X.N[i]? = some x := by rfl) (hx : Loc X.env.scope x := by first | exact Or.inl rfl | exact Or.inr rfl)
    (hsw : swapsWith (.ListComp elt [⟨tg, iter, ifs, 0⟩] scope pos) (some (.Name x px)) pos'.line X.env = pure true := by rfl)
    (hf : X.fn x = true ∨ X.env.scope.names.lookup x = some .local := by first | exact .inl rfl | exact .inr rfl)
    (hs : ∀ x, foldedSetIterable iter X.env x = pure x := by intro _; rfl) : PSf X (.Assign [.Name x px] (.ListComp elt [⟨tg, iter, ifs, 0⟩] scope pos) pos') (setF i (compF fi n idx g c fe)) := by
  intro pins s σ H E I ⟨O, ρ, L, out, r, e, k⟩
  unfold setF compF at e
  cases e1 : fi ρ L with
  | none => rw [e1] at e; cases e
  | some p =>
    rw [e1] at e
    obtain ⟨⟨items, ok⟩, L1⟩ := p
    simp only [Option.bind_some] at e
    cases e2 : compL ok g c fe L1.length items (frC n idx ρ) (L1 ++ [.lst []]) with
    | none => rw [e2] at e; cases e
    | some L9 =>
      rw [e2] at e
      cases e
      rw [exec_Assign_Name_used _ _ _ _ hsw]
      refine wpAny_bind (wpAny_standAt (wpAny_bind ?_))
      show wpAny _ X.A (do let _ ← comprehension (.ListComp elt [⟨tg, iter, ifs, 0⟩] scope pos) scope X.env _ (newList []) false (eval iter X.env) (some (assign (.Name x px) X.env))) _ _ s
      refine wpAny_bind (wpAny_mono (comp_core (use := some (assign (.Name x px) X.env)) (Q' := fun _ s' => SP X pins E .next s') hc hi S hbody hs I r e1 e2
        fun C D s' H' O' m J hn hfree hL h0 hcell hpin st rs hD => ?_) (fun _ s' hq => wpAny_pure (wpAny_pure hq)) fun _ _ e => e)
      show wpAny _ X.A (assign (.Name x px) X.env (.ref D)) _ _ _
      refine wpAny_assign_Name (store_ok2 (v := .ref D) J hN hi2 hx rfl (fun s2 J2 ⟨a, sb, ha⟩ => ?_) hf)
      have aC : C ≠ a := by
        rcases ha with z | z
        · rw [z]; exact hL
        · exact (hcell x a z).symm
      refine ⟨m, hn.sameBut sb aC, fun h' sb' => ?_⟩
      exact ⟨_, H', J2.turned (t' := s2.toks) (fun b o hb e => (sb'.2 b hb).trans e) hfree hL (.inr h0) hcell hpin, k _ _ _ st ⟨rs, (r.f.mono st).set (.ref hD) i⟩⟩
end
end L3

set_option maxHeartbeats 4000000
namespace L3
open PySem PySem.Spec PyProof.Rows L2

section
variable {X : Cx} {pins : List (Addr × Obj)} {σ : L2.St} {H : Hp} {s : Shared} {h' : Heap}
/-- iterators have turned and a new object is laid and tracked -/
theorem turnNew {t' : Nat} {fp : List Addr} {T : Addr} {o : HO} (I : Inv X pins σ H s) (hf : ∀ b ∈ fp, FpOk X pins H b) (k : ∀ b o, b ∉ fp → s.heap.get? b = some o → h'.get? b = some o) (hT : s.heap.objs.size ≤ T) (nT : T ∉ fp)
    (there : ∀ b ∈ fp, ∃ o, h'.get? b = some o) (new : ObjOk X.prog X.w (upd H T o) h' T o) : Inv X pins σ (upd H T o) { s with heap := h', toks := t' } := by
  have fT : H T = none := I.hok.fresh hT
  have nit : ∀ b u, H b = some u → b ∉ fp := fun b u e z => by rw [(hf b z).1] at e; cases e
  have old : ∀ b o, s.heap.get? b = some o → b ≠ T := fun b o e => Nat.ne_of_lt (Nat.lt_of_lt_of_le (Heap.lt_size e) hT)
  refine I.step (g' := s.gens) (d' := s.drawn) (ch := fp) (fun b hb => ⟨(hf b hb).2.2.2.1, (hf b hb).2.1, (hf b hb).2.2.2.2.1, (hf b hb).2.2.2.2.2⟩) (fun b o _ _ hc e _ => k b o hc e) (fun b o _ _ hc e _ => ⟨o.slots, k b o hc e⟩)
    (fun b o _ e n => by rw [upd_ne (old b o e)]; exact n) (fun b o hc e => ⟨o, k b o hc e⟩) (fun b xs e => by rw [upd_ne (ne_of_none e fT)]; exact e) (fun b o u e => by rw [upd_ne (ne_of_none e fT)]; exact e)
    (fun b ps e => ⟨#[], by rw [upd_ne (ne_of_none e fT), e]; simp⟩) (fun m hm => ?_) (fun b u e => ?_) I.bare
  · obtain ⟨o, es, ep, ho, r⟩ := hm
    exact ⟨o, es, ep, k _ o (fun z => (hf _ z).2.1 rfl) ho, r⟩
  · by_cases hb : b = T
    · subst hb; rw [upd_same] at e; cases e; exact new
    · rw [upd_ne hb] at e
      refine (I.hok b u e).stay (fun c v hc q => k c v ?_ q) (fun c q => by rw [upd_ne (ne_of_none q fT)]; exact q) fun c xs q => by rw [upd_ne (ne_of_none q fT)]; exact q
      rcases hc with z | z
      · rw [z]; exact nit b u e
      · exact nit c _ z
end

/-! a text, sign by sign -/
def Its (x : Str) : It := ⟨fun i _ => i < x.cps.size, fun i H v H' => H' = H ∧ ∃ c, x.cps[i]? = some c ∧ v = .str ⟨#[c]⟩, fun i _ => x.cps.size ≤ i⟩
theorem turn_str {P : Program} {w : World} {K : PySem.W.Frag} {tg : Expr} (x : Str) (t : Tok) (it : Addr) (ty : String) (hty : ["enumerate", "zip", "dict_itemiterator", "dict_reverseitemiterator", "odict_iterator", "itertools.zip_longest", "itertools.pairwise"].contains ty = false)
    (W : ∀ A' : Around, A'.handled = none → Walks P w A' it [it] [it] x.cps.size (SignAt x) (fun i h => h.IsStrIter it ty x t i))
    (hself : ∀ (A : Around) (i : Nat) (s : Shared) (Q : Value → Shared → Prop) (E : Value → Shared → Prop), s.heap.IsStrIter it ty x t i → Q (.ref it) s → wpAny (model P w) A (pyIter (.ref it)) Q E s) :
    Turn P w K tg (Its x) [it] it (fun i h => h.IsStrIter it ty x t i ∧ i ≤ x.cps.size) where
  mem := by simp
  obj := fun i h st b hb => by
    have e : b = it := by simpa using hb
    subst e
    obtain ⟨⟨o, e, c, d⟩, _⟩ := st
    exact ⟨o, e, fun v z => by rw [d] at z; cases z⟩
  keep := fun i h h' st k => ⟨let ⟨o, ho, r⟩ := st.1; ⟨o, k it (by simp) o ho, r⟩, st.2⟩
  item := by
    intro X hP hw hK hc i pins s σ H E I hf st hg
    subst hP hw hK
    obtain ⟨f0, f1, f2, f3, f4, f5⟩ := hf it (by simp)
    refine (W X.A (I.ok.hd hc)).item i s _ _ hg st.1 fun v h' tk hv st' kk => ?_
    obtain ⟨c, u, hc', rfl⟩ := hv
    have I1 : Inv X pins σ H { s with heap := h', toks := tk } := I.turned (fun b o hb e => kk b o (by simpa using hb) e) f0 f1 f3 f4 f5
    obtain ⟨o, e, cc, d⟩ := id st'
    exact ⟨_, rfl, go_of (s := { s with heap := h', toks := tk }) e cc d hty ⟨.str ⟨#[c]⟩, H, I1, ⟨u, rfl⟩, ⟨rfl, c, hc', rfl⟩, ⟨st', hg⟩, fun b hb => (hf b hb).1⟩⟩
  done := by
    intro X hP hw hK hc i pins s σ H E I hf st hg
    subst hP hw hK
    obtain ⟨f0, f1, f2, f3, f4, f5⟩ := hf it (by simp)
    have hi : i = x.cps.size := Nat.le_antisymm st.2 hg
    have st1 := st.1
    rw [hi] at st1
    exact (W X.A (I.ok.hd hc)).done s _ _ st1 fun h' tk kk => ⟨rfl, I.turned (fun b o hb e => kk b o (by simpa using hb) e) f0 f1 f3 f4 f5⟩
  self := fun A i s Q E st h => hself A i s Q E st.1 h
section
variable {X : Cx} {tg l : Expr} {f : EF}
def iStr (tl : TE) : TI := fun σ H R => tl σ H fun v H1 => ∃ x, v = .str x ∧ R (Its x) H1
theorem pi_str {tl : TE} (hl : PE X l tl) : PI X tg l (iStr tl) := by
  intro pins s σ H R I h
  refine thn (hl pins s σ H _ I h) fun v s1 ⟨y, H1, I1, r1, x, e, q⟩ => ?_
  subst e
  obtain ⟨t, rfl⟩ := r1
  have hb : ∀ (o : Obj) (b : Addr), b ∈ [s1.heap.objs.size] → FpOk X pins H1 b := fun o b hb => by
    have e : b = s1.heap.objs.size := by simpa using hb
    subst e
    exact I1.fpOk (Nat.le_refl _) (I1.hok.fresh (Nat.le_refl _))
  cases ha : x.cps.all (· < 128)
  · refine wpAny_pyIter_wide ha ⟨s1.heap.objs.size, [s1.heap.objs.size], _, _, H1, rfl, I1.kept (t' := s1.toks) fun b o e => Heap.get?_push_of_some _ e, turn_str x t _ "str_iterator" (by decide) (fun A' hA => Walks.strWide hA _ x t) (fun _ _ _ _ _ st h => wpAny_pyIter_striter_wide st h),
      ⟨⟨_, Heap.get?_push_size _ rfl, rfl, rfl⟩, Nat.zero_le _⟩, hb default, q⟩
  · refine wpAny_pyIter_ascii ha ⟨s1.heap.objs.size, [s1.heap.objs.size], _, _, H1, rfl, I1.kept (t' := s1.toks) fun b o e => Heap.get?_push_of_some _ e, turn_str x t _ "str_ascii_iterator" (by decide) (fun A' hA => Walks.strAscii hA _ x t) (fun _ _ _ _ _ st h => wpAny_pyIter_striter_ascii st h),
      ⟨⟨_, Heap.get?_push_size _ rfl, rfl, rfl⟩, Nat.zero_le _⟩, hb default, q⟩
/-- the signs of a text as texts -/
def sgs (x : Str) : List D := x.cps.toList.map fun c => .str ⟨#[c]⟩
def iStrF (f : EF) : IF := fun ρ L => (f ρ L).bind fun x => match x.1 with | .str y => some (⟨sgs y, fun _ => true⟩, x.2) | _ => none
theorem pif_str (hl : PEf X l f) : PIf X tg l (iStrF f) := PI.weaken (pi_str hl) fun σ H R ⟨O, ρ, L, J, L', r, e, k⟩ => by
  unfold iStrF at e
  cases e1 : f ρ L with
  | none => rw [e1] at e; cases e
  | some p =>
    rw [e1] at e
    obtain ⟨d, L1⟩ := p
    cases d <;> simp only [Option.bind_some] at e <;> try (cases e; done)
    rename_i y
    cases e
    refine ⟨O, ρ, L, _, _, r, e1, fun v H1 O1 st rs is => ?_⟩
    cases is
    refine ⟨y, rfl, k _ _ _ st rs fun i H2 O2 L2 st2 rs2 _ => ⟨fun d hd => ?_, fun h => by show y.cps.size ≤ i; simpa [sgs] using h⟩⟩
    simp only [sgs, List.getElem?_map] at hd
    cases ec : y.cps[i]? with
    | none => simp [ec] at hd
    | some c =>
      simp [ec] at hd
      subst hd
      refine ⟨(Array.getElem?_eq_some_iff.mp ec).1, fun x H' y' => ?_⟩
      obtain ⟨e, c', h1, rfl⟩ := y'
      subst e
      rw [ec] at h1; cases h1
      exact ⟨.refl _ _, rs2, .str _ (by simp [Str.length])⟩
end

/-! enumerate of a text -/
def Ite (x : Str) : It := ⟨fun i _ => i < x.cps.size, fun i H v H' => ∃ T c, H T = none ∧ x.cps[i]? = some c ∧ v = .ref T ∧ H' = upd H T (.tup [.int (i : Int), .str ⟨#[c]⟩]), fun i _ => x.cps.size ≤ i⟩
theorem draws_str {P : Program} {w : World} {A : Around} (hh : A.handled = none) (it : Addr) (x : Str) (t : Tok) :
    Draws P w A it [it] x.cps.size (fun i v => ∃ c u, x.cps[i]? = some c ∧ v = .str ⟨#[c]⟩ u) (fun i h => h.IsStrIter it (strIterType x) x t i) := by
  unfold strIterType
  cases ha : x.cps.all (· < 128)
  · exact Draws.strWide hh it x t
  · exact Draws.strAscii hh it x t
theorem turn_enum {P : Program} {w : World} {K : PySem.W.Frag} {elts : List Expr} {x1 : Nat} {tp : Pos} (x : Str) (t : Tok) (e it : Addr) (hei : e ≠ it) :
    Turn P w K (.Tuple elts x1 tp) (Ite x) [e, it] e (fun i h => (∃ old, IsEnum h e it (i : Int) old) ∧ h.IsStrIter it (strIterType x) x t i ∧ i ≤ x.cps.size) where
  mem := by simp
  obj := fun i h st b hb => by
    obtain ⟨⟨old, he⟩, ⟨o, e1, c, d⟩, _⟩ := st
    rcases List.mem_cons.mp hb with rfl | hb
    · exact ⟨_, he, fun v z => by cases z⟩
    · have e' : b = it := by simpa using hb
      subst e'
      exact ⟨o, e1, fun v z => by rw [d] at z; cases z⟩
  keep := fun i h h' st k => by
    obtain ⟨⟨old, he⟩, ⟨o, e1, r⟩, hi⟩ := st
    exact ⟨⟨old, k e (by simp) _ he⟩, ⟨o, k it (by simp) o e1, r⟩, hi⟩
  item := by
    intro X hP hw hK hc i pins s σ H E I hf st hg
    subst hP hw hK
    obtain ⟨⟨old, he⟩, hs, hi⟩ := st
    have hh : X.A.in1.handled = none := I.ok.hd hc
    refine wpAny_pyNext_enum_itemD (draws_str hh it x t) he hs hg hei (by simpa using hei) fun v h' tk hv heo hs' ht hz kk => ⟨_, rfl, ?_⟩
    obtain ⟨c, u, hc', rfl⟩ := hv
    refine wpAny_letOwnedTupleGo_enum heo fun h2 he2 sb2 => ?_
    have hel : e < s.heap.objs.size := Heap.lt_size he
    have hil : it < s.heap.objs.size := by obtain ⟨o, e1, _⟩ := hs; exact Heap.lt_size e1
    have hs2 : h2.IsStrIter it (strIterType x) x t (i + 1) := by
      obtain ⟨o, e1, r⟩ := hs'
      exact ⟨o, (sb2.2 it (Ne.symm hei)).trans e1, r⟩
    have ht2 : h2.get? s.heap.objs.size = some { cls := .type "tuple", data := .seq #[.int i tk, .str ⟨#[c]⟩ u] } := (sb2.2 _ (Nat.ne_of_gt hel)).trans ht
    have new : ObjOk X.prog X.w (upd H s.heap.objs.size (.tup [.int (i : Int), .str ⟨#[c]⟩])) h2 s.heap.objs.size (.tup [.int (i : Int), .str ⟨#[c]⟩]) :=
      ⟨by rw [sizeLine_eq]; show 2 ≤ 16777216; decide, [.int i tk, .str ⟨#[c]⟩ u], .cons ⟨_, rfl⟩ (.cons ⟨_, rfl⟩ .nil), ⟨_, ht2, rfl, _, rfl⟩⟩
    have I1 := turnNew (t' := tk + 1) (h' := h2) I hf (fun b o hb q => by
        have hbe : b ≠ e := fun z => hb (by simp [z])
        have hbi : b ≠ it := fun z => hb (by simp [z])
        exact (sb2.2 b hbe).trans (kk b o hbe hbi q)) (Nat.le_refl _) (fun z => by
        rcases List.mem_cons.mp z with z | z
        · exact absurd z (Nat.ne_of_gt hel)
        · exact absurd (List.mem_singleton.mp z) (Nat.ne_of_gt hil)) (fun b hb => by
        rcases List.mem_cons.mp hb with rfl | hb
        · exact ⟨_, he2⟩
        · have e' : b = it := by simpa using hb
          subst e'
          obtain ⟨o, e1, _⟩ := hs2
          exact ⟨o, e1⟩) new
    refine ⟨.ref s.heap.objs.size, _, I1, rfl, ⟨s.heap.objs.size, c, I.hok.fresh (Nat.le_refl _), hc', rfl, rfl⟩, ⟨⟨.str ⟨#[c]⟩ u, ?_⟩, hs2, hg⟩, fun b hb => ?_⟩
    · have : ((i + 1 : Nat) : Int) = (i : Int) + 1 := by omega
      rw [this]
      exact he2
    · rw [upd_ne]
      · exact (hf b hb).1
      · rcases List.mem_cons.mp hb with z | z
        · rw [z]; exact Nat.ne_of_lt hel
        · rw [List.mem_singleton.mp z]; exact Nat.ne_of_lt hil
  done := by
    intro X hP hw hK hc i pins s σ H E I hf st hg
    subst hP hw hK
    obtain ⟨⟨old, he⟩, hs, hi⟩ := st
    have hh : X.A.in1.handled = none := I.ok.hd hc
    obtain ⟨f0, f1, f2, f3, f4, f5⟩ := hf it (by simp)
    have hi : i = x.cps.size := Nat.le_antisymm hi hg
    rw [hi] at hs
    exact wpAny_pyNext_enum_endD (draws_str hh it x t) he hs fun h' eb => ⟨rfl, I.turned (t' := s.toks) (fun b o hb q => eb b o hb q) f0 f1 f3 f4 f5⟩
  self := fun A i s Q E st h => by
    obtain ⟨⟨old, he⟩, _⟩ := st
    exact wpAny_pyIter_enum he h
def enumD (xs : List D) : List D := xs.zipIdx.map fun p => .tup [.int (p.2 : Int), p.1]
def iEnumF (f : AF) : IF := fun ρ L => (f ρ L).bind fun x => match x.1 with | [.str y] => some (⟨enumD (sgs y), fun _ => true⟩, x.2) | _ => none
theorem enumD_get (y : Str) (i : Nat) : (enumD (sgs y))[i]? = (y.cps[i]?).map fun c => .tup [.int (i : Int), .str ⟨#[c]⟩] := by
  unfold enumD sgs
  rw [List.getElem?_map, List.getElem?_zipIdx, List.getElem?_map, Array.getElem?_toList]
  cases y.cps[i]? <;> simp
theorem enumD_len (y : Str) : (enumD (sgs y)).length = y.cps.size := by simp [enumD, sgs]
section
variable {X : Cx} {elts : List Expr} {x1 : Nat} {tp p pos : Pos} {a : Expr} {fa : AF}
theorem pif_enumS (hm : X.mg "enumerate" = none) (ha : PAf X [a] fa) (hg : Gl X "enumerate" := by rfl) (hs : starEach [a] X.env = [(false, eval a X.env)] := by rfl) : PIf X (.Tuple elts x1 tp) (.Call (.Name "enumerate" p) [a] [] pos) (iEnumF fa) := by
  intro pins s σ H R I ⟨O, ρ, L, J, L', r, e, k⟩
  unfold iEnumF at e
  cases e1 : fa ρ L with
  | none => rw [e1] at e; cases e
  | some q =>
    rw [e1] at e
    obtain ⟨ds, L1⟩ := q
    simp only [Option.bind_some] at e
    split at e
    · rename_i y
      simp only [Option.some.injEq, Prod.mk.injEq] at e
      obtain ⟨hJ, hL⟩ := e
      subst hJ
      subst hL
      refine Call_ (ld_blt I hg hm (u := .type "enumerate") (by decide +kernel) (PyProof.Rows.callWith_type1 (thn (ha pos pins s σ H (fun vs H1 => vs = [.str y] ∧ ∃ O1, Step H O H1 O1 ∧ RepS X.K H1 O1 L1) I ⟨O, ρ, L, _, _, r, e1, fun vs H1 O1 st rs is => ?_⟩) fun us s1 ⟨vs, H1, I1, r1, ev, O1, st, rs⟩ => ?_) hs rfl))
      · cases is with
        | cons i1 i2 => cases i1; cases i2; exact ⟨rfl, O1, st, rs⟩
      · subst ev
        obtain ⟨u, rfl, t, rfl⟩ := vals1 r1
        refine call_enumerate_str fun h' he hs' hz kk => ?_
        refine wpAny_pyIter_enum he ?_
        have I2 : Inv X pins σ H1 { s1 with heap := h' } := I1.kept (t' := s1.toks) kk
        refine ⟨s1.heap.objs.size + 1, [s1.heap.objs.size + 1, s1.heap.objs.size], _, _, H1, rfl, I2, turn_enum y t _ _ (Nat.succ_ne_self _), ⟨⟨_, he⟩, hs', Nat.zero_le _⟩, fun b hb => ?_, k (Ite y) H1 O1 st rs fun i H2 O2 L2 st2 rs2 _ => ?_⟩
        · rcases List.mem_cons.mp hb with rfl | hb
          · exact I1.fpOk (Nat.le_succ _) (I1.hok.fresh (Nat.le_succ _))
          · have e' : b = s1.heap.objs.size := by simpa using hb
            subst e'
            exact I1.fpOk (Nat.le_refl _) (I1.hok.fresh (Nat.le_refl _))
        · refine ⟨fun d hd => ?_, fun h => by rw [enumD_len] at h; exact h⟩
          simp only at hd
          rw [enumD_get] at hd
          cases ec : y.cps[i]? with
          | none => simp [ec] at hd
          | some c =>
            simp [ec] at hd
            subst hd
            refine ⟨(Array.getElem?_eq_some_iff.mp ec).1, fun x H' yy => ?_⟩
            obtain ⟨T, c', hT, h1, rfl, rfl⟩ := yy
            rw [ec] at h1; cases h1
            have st3 : Step H2 O2 (upd H2 T (.tup [.int (i : Int), .str ⟨#[c]⟩])) O2 := ⟨.new hT, List.prefix_refl _⟩
            exact ⟨st3, rs2.ext fun a u e => by rw [upd_ne (ne_of_none e hT)]; exact e, .tup (SqT.of upd_same) (.cons (.int _) (.cons (.str _ (by simp [Str.length])) .nil))⟩
    · cases e
end
end L3

set_option maxHeartbeats 4000000
namespace L3
open PySem PySem.Spec PyProof.Rows L2

mutual
def D.noRef : D → Bool
  | .tup xs => D.noRefL xs
  | .fz xs => D.noRefL xs
  | .ref _ => false
  | _ => true
def D.noRefL : List D → Bool
  | [] => true
  | x :: xs => D.noRef x && D.noRefL xs
end
section
variable {K : PySem.W.Frag} {H H' H0 : Hp} {O O' : List Addr}
mutual
theorem Is.nr : ∀ {v : V} {d : D}, Is K H O v d → d.noRef = true → Is K H O' v d
  | _, _, .non, _ => .non
  | _, _, .bl b, _ => .bl b
  | _, _, .int b, _ => .int b
  | _, _, .str b h, _ => .str b h
  | _, _, .tup h r, e => .tup h (IsL.nr r (by simpa [D.noRef] using e))
  | _, _, .fz h r, e => .fz h (IsL.nr r (by simpa [D.noRef] using e))
  | _, _, .ref h, e => by simp [D.noRef] at e
  | _, _, .ty n, _ => .ty n
theorem IsL.nr : ∀ {v : List V} {d : List D}, IsL K H O v d → D.noRefL d = true → IsL K H O' v d
  | _, _, .nil, _ => .nil
  | _, _, .cons a b, e => by
    simp only [D.noRefL, Bool.and_eq_true] at e
    exact .cons (Is.nr a e.1) (IsL.nr b e.2)
end
mutual
theorem Is.back (p : O <+: O') : ∀ {v0 : V} {d : D}, Is K H0 O v0 d → ∀ {v : V}, Is K H' O' v d → Is K H' O v d
  | _, _, .non, _, h => by cases h; exact .non
  | _, _, .bl b, _, h => by cases h; exact .bl b
  | _, _, .int b, _, h => by cases h; exact .int b
  | _, _, .str b _, _, h => by cases h with | str _ q => exact .str b q
  | _, _, .ty n, _, h => by cases h; exact .ty n
  | _, _, .tup _ r, _, h => by cases h with | tup q r' => exact .tup q (IsL.back p r r')
  | _, _, .fz _ r, _, h => by cases h with | fz q r' => exact .fz q (IsL.back p r r')
  | _, _, .ref q, _, h => by
    cases h with
    | ref q' =>
      have := pref_get p q
      rw [q'] at this
      cases this
      exact .ref q
theorem IsL.back (p : O <+: O') : ∀ {v0 : List V} {d : List D}, IsL K H0 O v0 d → ∀ {v : List V}, IsL K H' O' v d → IsL K H' O v d
  | _, _, .nil, _, h => by cases h; exact .nil
  | _, _, .cons a b, _, h => by cases h with | cons a' b' => exact .cons (Is.back p a a') (IsL.back p b b')
end
theorem RepS.back {L M : Sto} (r0 : RepS K H O L) (st : Step H O H' O') (r1 : RepS K H' O' (L ++ M)) : RepS K H' O L := by
  refine ⟨r0.len, r0.nd, fun k a o e1 e2 => ?_⟩
  have q0 := r0.ob k a o e1 e2
  have q1 := r1.ob k a o (pref_get st.2 e1) (by rw [List.getElem?_append_left (List.getElem?_eq_some_iff.mp e2).1]; exact e2)
  cases o with
  | lst ds =>
    obtain ⟨vs0, _, i0⟩ := q0
    obtain ⟨vs, hv, i1⟩ := q1
    exact ⟨vs, hv, IsL.back st.2 i0 i1⟩
  | dk kvs =>
    obtain ⟨us0, _, _, i0⟩ := q0
    obtain ⟨us, hv, hk, i1⟩ := q1
    exact ⟨us, hv, hk, IsL.back st.2 i0 i1⟩
end

/-! ### defs -/
def startD (N : List Str) (ds : List D) : Fm := ds.map some ++ List.replicate (N.length - ds.length) none
def spF (K : PySem.W.Frag) (G : GL) : Sp := fun vs H Q _ => rC K G vs H Q
def Runs (B : SF) (N : List Str) (xs : List D) (L : Sto) (d : D) (L' : Sto) : Prop :=
  ∃ L'', (B (startD N xs) L = some (.ret d L'') ∨ (d = .non ∧ ∃ ρ', B (startD N xs) L = some (.next ρ' L''))) ∧ (L'' = L' ∨ (L' = L ∧ L <+: L'' ∧ d.noRef = true))
structure FnD (P : Program) (w : World) (K : PySem.W.Frag) (mg : Str → Option Value) (base : Heap) (k : Nat) (x : Str) (G : GL) : Prop where
  ex : ∃ f fd ps, FnOk P w K mg base CX0 k f fd ps (spF K G) ∧ mg x = some (.ref f) ∧ PySem.W.keepIn K (.ref f) = true ∧ Binds K fd ps []
section
variable {P : Program} {w : World} {K : PySem.W.Frag} {mg : Str → Option Value} {base : Heap}
theorem fmis_start {H : Hp} {O : List Addr} {N : List Str} {vs : List V} {ds : List D} (h : IsL K H O vs ds) : FmIs K H O (L2.start N vs) (startD N ds) := by
  refine ⟨by simp [L2.start, startD, h.length], fun i d e => ?_⟩
  unfold startD at e
  unfold L2.start
  by_cases hi : i < ds.length
  · rw [List.getElem?_append_left (by simpa using hi), List.getElem?_map] at e
    rw [List.getElem?_append_left (by simpa [h.length] using hi), List.getElem?_map]
    cases q : ds[i]? with
    | none => rw [q] at e; cases e
    | some d' =>
      rw [q] at e; cases e
      obtain ⟨v, hv, iv⟩ := h.get q
      exact ⟨v, by simp [hv], iv⟩
  · rw [List.getElem?_append_right (by simpa using hi), List.getElem?_replicate] at e
    split at e <;> cases e
theorem fn_f {x qual : Str} {st : Stmt} {f : Addr} {fd : FuncData} {N ps : List Str} {k : Nat} (F : Fun K x qual st f fd) (S : FnScope N ps (defScope st)) (G : GL) (B : SF) (hlen : ∀ xs L r, G xs L = some r → xs.length = ps.length)
    (hb : ∀ (cdv : Value) (A : Around) (outer : List Env) (s : Shared) (H : Hp) (E : XK), Room k (A.deeper (envOfC qual (defScope st) s.heap.objs.size f cdv)) →
      PSsf (cxOf CX0 P w K mg base N qual (defScope st) f cdv A outer s H E).nox (defBody st) B)
    (hG : ∀ xs L d L', G xs L = some (d, L') → Runs B N xs L d L') : FnOk P w K mg base CX0 (k + 1) f fd ps (spF K G) := by
  refine F.ok S (fun vs H Q E h => ?_) (fun cdv A outer s H vs Q E hr h => ?_)
  · obtain ⟨O, L, xs, d, L', _, is, e, _⟩ := h
    rw [is.length]
    exact hlen _ _ _ e
  · obtain ⟨O, L, xs, d, L', rs, is, e, kk⟩ := h
    refine ⟨_, hb cdv A outer s H E hr, ?_⟩
    obtain ⟨L'', hB, hd⟩ := hG _ _ _ _ e
    have close : ∀ v H' O', Step H O H' O' → RepS K H' O' L'' → Is K H' O' v d → Q v H' := fun v H' O' st' rs' is' => by
      rcases hd with rfl | ⟨rfl, ⟨M, rfl⟩, nr⟩
      · exact kk v H' O' st' rs' is'
      · exact kk v H' O ⟨st'.1, List.prefix_refl _⟩ (rs.back st' rs') (is'.nr nr)
    rcases hB with hB | ⟨rfl, ρ', hB⟩
    · exact ⟨O, startD N xs, L, _, ⟨rs, fmis_start is⟩, hB, close⟩
    · exact ⟨O, startD N xs, L, _, ⟨rs, fmis_start is⟩, hB, fun σ' H' O' st' r' => close _ H' O' st' r'.s .non⟩
theorem FnD.mono {j k : Nat} {x : Str} {G : GL} (F : FnD P w K mg base j x G) (h : j ≤ k) : FnD P w K mg base k x G := by
  obtain ⟨f, fd, ps, a, b⟩ := F.ex
  exact ⟨f, fd, ps, a.mono h, b⟩
theorem FnD.imp {k : Nat} {x : Str} {G G' : GL} (F : FnD P w K mg base k x G) (h : ∀ xs L r, G' xs L = some r → G xs L = some r) : FnD P w K mg base k x G' := by
  obtain ⟨f, fd, ps, a, b⟩ := F.ex
  exact ⟨f, fd, ps, a.imp fun vs H Q E ⟨O, L, xs, d, L', rs, is, e, kk⟩ => ⟨O, L, xs, d, L', rs, is, h _ _ _ e, kk⟩, b⟩
end
section
variable {X : Cx} {k : Nat} {x : Str} {G : GL} {p pos : Pos} {e : Expr} {es : List Expr} {f : AF}
theorem ef_call (F : FnD X.prog X.w X.K X.mg X.base k x G) (hr : Room k X.A) (ha : PAf X (e :: es) f) (hg : Gl X x := by rfl) (hdb : (x == ("__debug__" : Str)) = false := by decide)
    (he : notStar e = true := by rfl) (hpl : es.all notStar = true := by rfl) : PEf X (.Call (.Name x p) (e :: es) [] pos) (callB G f) := by
  obtain ⟨fa, fd, ps, a, b, c, d⟩ := F.ex
  exact PE.weaken (pe_call a hr hg b c d .nil pass0 ha hdb (starEach_cons he) (plain_of hpl)) fun σ H Q h => by
    have q := call_lift h
    obtain ⟨O, ρ, L, ds, L', r, e, k⟩ := q
    exact ⟨O, ρ, L, ds, L', r, e, fun vs H1 O1 st rs is => by show rC X.K G (vs ++ []) H1 Q; rw [List.append_nil]; exact k vs H1 O1 st rs is⟩
theorem ef_call0 (F : FnD X.prog X.w X.K X.mg X.base k x G) (hr : Room k X.A) (hg : Gl X x := by rfl) (hdb : (x == ("__debug__" : Str)) = false := by decide) : PEf X (.Call (.Name x p) [] [] pos) (callB G nilA) := by
  obtain ⟨fa, fd, ps, a, b, c, d⟩ := F.ex
  exact PE.weaken (pe_call0 a hr hg b c d .nil pass0 hdb) fun σ H Q h => by
    obtain ⟨O, ρ, L, ds, L', r, e, k⟩ := h
    exact ⟨O, L, [], ds, L', r.s, .nil, e, k⟩
end
end L3

set_option maxHeartbeats 4000000
namespace L3
open PySem PySem.Spec PyProof.Rows L2

instance decMul (a b : Int) : Decidable (IntMulOk a b) := by unfold IntMulOk; infer_instance
section
variable {X : Cx}
theorem opMulB : OpR X (binaryOp .Mult) (rI IntMulOk fun i j => .int (i * j)) := opI fun _ _ _ _ _ _ _ hc q => mul_int q hc

def gAdd : G2
  | .int i, .int j, L => some (.int (i + j), L)
  | .str x, .str y, L => if x.length + y.length ≤ 16777216 then some (.str (x ++ y), L) else none
  | .ref a, .ref b, L => match L[a]?, L[b]? with
    | some (.lst xs), some (.lst ys) => if xs.length + ys.length ≤ 16777216 then some (.ref L.length, L ++ [.lst (xs ++ ys)]) else none
    | _, _ => none
  | _, _, _ => none
theorem od_add : OpD X (binaryOp .Add) gAdd := OpR.weaken (OpR.or op_add (OpR.or op_add_str op_cat)) fun v u H Q ⟨O, L, x, y, d, L', rs, ix, iy, e, k⟩ => by
  unfold gAdd at e
  split at e
  · cases ix; cases iy; cases e
    exact .inl ⟨_, _, rfl, rfl, k _ _ _ (.refl _ _) rs (.int _)⟩
  · cases ix with | str _ h1 => cases iy with | str _ h2 =>
      split at e
      · rename_i hz
        cases e
        exact .inr (.inl ⟨_, _, rfl, rfl, by rw [sizeLine_eq]; exact hz, k _ _ _ (.refl _ _) rs (.str _ (by rw [strLen_append]; exact hz))⟩)
      · cases e
  · rename_i a b
    cases ix with | ref ha => cases iy with | ref hb =>
      split at e
      · rename_i xs ys e1 e2
        split at e
        · rename_i hz
          cases e
          obtain ⟨vs, hv, iv⟩ := rs.ob _ _ _ ha e1
          obtain ⟨ws, hw, iw⟩ := rs.ob _ _ _ hb e2
          refine .inr (.inr ⟨_, _, vs, ws, rfl, rfl, hv, hw, by rw [iv.length, iw.length, sizeLine_eq]; exact hz, fun p hp => ?_⟩)
          have st : Step H O (upd H p (.lst (vs ++ ws))) (O ++ [p]) := ⟨.new hp, List.prefix_append _ _⟩
          exact k _ _ _ st (rs.new hp ⟨_, upd_same, (iv.append iw).mono st⟩) (.ref (by rw [← rs.len]; simp))
        · cases e
      · cases e
  · cases e
def gI (C : Int → Int → Bool) (f : Int → Int → D) : G2 := fun x y L => match x, y with | .int i, .int j => if C i j = true then some (f i j, L) else none | _, _ => none
theorem od_int {f : Value → Value → Sem Value} {C : Int → Int → Prop} {Cb : Int → Int → Bool} {g : Int → Int → V} {gd : Int → Int → D} (h : OpR X f (rI C g)) (hc : ∀ i j, Cb i j = true → C i j) (hg : ∀ K H O i j, Is K H O (g i j) (gd i j)) : OpD X f (gI Cb gd) :=
  OpR.weaken h fun v u H Q ⟨O, L, x, y, d, L', rs, ix, iy, e, k⟩ => by
    unfold gI at e
    split at e
    · split at e
      · rename_i hcc
        cases ix; cases iy; cases e
        exact ⟨_, _, rfl, rfl, hc _ _ hcc, k _ _ _ (.refl _ _) rs (hg _ _ _ _ _)⟩
      · cases e
    · cases e
theorem rI_of {f : Value → Value → Sem Value} {g : Int → Int → V} (h : OpR X f (rI0 g)) : OpR X f (rI (fun _ _ => True) g) := OpR.weaken h fun x y H Q ⟨i, j, a, b, _, q⟩ => ⟨i, j, a, b, q⟩
def tt2 (_ _ : Int) : Bool := true
def cDiv (_ j : Int) : Bool := decide (0 < j) && decide (j < 1073741824)
def cMod (_ j : Int) : Bool := decide (0 < j)
def cPow (i j : Int) : Bool := decide (0 ≤ j) && decide (j ≤ 1000000) && decide (i.natAbs < 2 ^ 64)
def cMul (i j : Int) : Bool := decide (IntMulOk i j)
def gSub : G2 := gI tt2 fun i j => .int (i - j)
def gFdiv : G2 := gI cDiv fun i j => .int (i / j)
def gMod : G2 := gI cMod fun i j => .int (i % j)
def gPow : G2 := gI cPow fun i j => .int (i ^ j.toNat)
theorem od_sub : OpD X (binaryOp .Sub) gSub := od_int (rI_of op_sub) (fun _ _ _ => True.intro) fun _ _ _ _ _ => .int _
theorem od_fdiv : OpD X (binaryOp .FloorDiv) gFdiv := od_int op_fdiv (fun i j h => by simp [cDiv] at h; exact h) fun _ _ _ _ _ => .int _
theorem od_mod : OpD X (binaryOp .Mod) gMod := od_int op_mod (fun i j h => by simp [cMod] at h; exact h) fun _ _ _ _ _ => .int _
theorem od_pow : OpD X (binaryOp .Pow) gPow := od_int op_pow (fun i j h => by simp [cPow] at h; exact ⟨h.1.1, h.1.2, h.2⟩) fun _ _ _ _ _ => .int _
/-- times: numbers, or a text by a number -/
def mulSOk (x : Str) (n : Int) : Bool := decide (-1000000 ≤ n) && decide (n ≤ 1000000) && decide (x.length * n.toNat ≤ 16777216)
def gMul : G2 := fun x y L => match x, y with
  | .int i, .int j => if cMul i j = true then some (.int (i * j), L) else none
  | .str x, .int n => if mulSOk x n = true then some (.str (Txt.mul x n), L) else none
  | _, _ => none
theorem len_foldl_app : ∀ (l : List (Array Nat)) (a : Array Nat), (l.foldl (· ++ ·) a).size = a.size + (l.map (·.size)).sum
  | [], a => by simp
  | b :: r, a => by rw [List.foldl_cons, len_foldl_app r]; simp [Array.size_append]; omega
theorem mul_len (x : Str) (n : Int) : (Txt.mul x n).length ≤ x.length * n.toNat := by
  unfold Txt.mul
  split
  · exact Nat.zero_le _
  · split
    · rename_i h1 h2
      simp only [Bool.or_eq_true, beq_iff_eq] at h2
      rcases h2 with h2 | h2
      · subst h2; simp
      · rw [h2]; simp
    · show ((List.replicate n.toNat x.cps).foldl (· ++ ·) #[]).size ≤ _
      rw [len_foldl_app]
      simp [Str.length, Nat.mul_comm]
theorem op_mul_str : OpR X (binaryOp .Mult) (fun x y H Q => ∃ z n, x = .str z ∧ y = .int n ∧ mulSOk z n = true ∧ Q (.str (Txt.mul z n)) H) := by
  intro pins s σ H x y v u Q I rx ry h
  obtain ⟨z, n, rfl, rfl, hc, q⟩ := h
  obtain ⟨t, rfl⟩ := rx
  obtain ⟨t', rfl⟩ := ry
  simp only [mulSOk, Bool.and_eq_true, decide_eq_true_eq] at hc
  obtain ⟨⟨h1, h2⟩, h3⟩ := hc
  refine SB.mul ⟨?_, fun hn _ hz => ?_, fun _ _ => ?_⟩ fun t' k => ⟨.str _, H, I.tok _, ⟨_, rfl⟩, q⟩
  · have e1 : decide (n < -(2 ^ 63 : Int)) = false := decide_eq_false (by omega)
    have e2 : decide (n ≥ 2 ^ 63) = false := decide_eq_false (by omega)
    rw [e1, e2]; rfl
  · have e1 : (z.length : Int) * n ≤ 16777216 := by
      have h4 : ((z.length * n.toNat : Nat) : Int) ≤ ((16777216 : Nat) : Int) := Int.ofNat_le.mpr h3
      rw [Int.natCast_mul, Int.toNat_of_nonneg (by omega)] at h4
      omega
    have e2 : (z.length : Int) ≤ ((2 : Int) ^ 63 - 1) / n := Int.le_ediv_of_mul_le (by omega) (by omega)
    omega
  · have h5 : ¬ (z.length * n.toNat > sizeLine) := by rw [sizeLine_eq]; omega
    exact decide_eq_false h5
theorem od_mul : OpD X (binaryOp .Mult) gMul := OpR.weaken (OpR.or opMulB op_mul_str) fun v u H Q ⟨O, L, x, y, d, L', rs, ix, iy, e, k⟩ => by
  unfold gMul at e
  split at e
  · split at e
    · rename_i hc
      cases ix; cases iy; cases e
      exact .inl ⟨_, _, rfl, rfl, of_decide_eq_true hc, k _ _ _ (.refl _ _) rs (.int _)⟩
    · cases e
  · split at e
    · rename_i hc
      cases ix; cases iy; cases e
      refine .inr ⟨_, _, rfl, rfl, hc, k _ _ _ (.refl _ _) rs (.str _ ?_)⟩
      simp only [mulSOk, Bool.and_eq_true, decide_eq_true_eq] at hc
      exact Nat.le_trans (mul_len _ _) hc.2
    · cases e
  · cases e

/-! comparisons -/
def gLt : G2 := gI tt2 fun i j => .bl (decide (i < j))
def gLe : G2 := gI tt2 fun i j => .bl (decide (i ≤ j))
def gGt : G2 := gI tt2 fun i j => .bl (decide (j < i))
def gGe : G2 := gI tt2 fun i j => .bl (decide (j ≤ i))
theorem od_lt : OpD X (compareOp .Lt) gLt := od_int (rI_of op_lt) (fun _ _ _ => True.intro) fun _ _ _ _ _ => .bl _
theorem od_le : OpD X (compareOp .LtE) gLe := od_int (rI_of op_le) (fun _ _ _ => True.intro) fun _ _ _ _ _ => .bl _
theorem od_gt : OpD X (compareOp .Gt) gGt := od_int (rI_of op_gt) (fun _ _ _ => True.intro) fun _ _ _ _ _ => .bl _
theorem od_ge : OpD X (compareOp .GtE) gGe := od_int (rI_of op_ge) (fun _ _ _ => True.intro) fun _ _ _ _ _ => .bl _
/-- flat data and its value -/
def toV : D → V
  | .non => .non | .bl b => .bl b | .int i => .int i | .str x => .str x | _ => .non
def flatD : D → Bool
  | .non => true | .bl _ => true | .int _ => true | .str _ => true | _ => false
theorem flat_toV {K : PySem.W.Frag} {H : Hp} {O : List Addr} {v : V} {d : D} (h : Is K H O v d) (f : flatD d = true) : v = toV d := by
  cases h <;> first | rfl | (simp [flatD] at f)
theorem flatsL {K : PySem.W.Frag} {H : Hp} {O : List Addr} : ∀ {vs : List V} {ds : List D}, IsL K H O vs ds → ds.all flatD = true → vs = ds.map toV
  | _, _, .nil, _ => rfl
  | _, _, .cons a b, f => by
    rw [List.all_cons, Bool.and_eq_true] at f
    rw [List.map_cons, flat_toV a f.1, flatsL b f.2]
theorem flatV_toV {d : D} (f : flatD d = true) : flatV (toV d) = true := by cases d <;> simp_all [flatD, toV, flatV]
theorem toV_inj {a b : D} (fa : flatD a = true) (fb : flatD b = true) : (toV a = toV b) ↔ a = b := by
  cases a <;> simp [flatD] at fa <;> cases b <;> simp [flatD] at fb <;> simp [toV]
def scalD (a b : D) : Bool := flatD a && flatD b && scal (toV a) (toV b)
def gEq : G2 := fun x y L => if scalD x y = true then some (.bl (decide (x = y)), L) else none
def gNe : G2 := fun x y L => if scalD x y = true then some (.bl (!decide (x = y)), L) else none
theorem od_eq : OpD X (compareOp .Eq) gEq := OpR.weaken op_eq fun v u H Q ⟨O, L, x, y, d, L', rs, ix, iy, e, k⟩ => by
  unfold gEq at e
  split at e
  · rename_i h
    cases e
    simp only [scalD, Bool.and_eq_true] at h
    obtain ⟨⟨h1, h2⟩, h3⟩ := h
    rw [flat_toV ix h1, flat_toV iy h2]
    refine ⟨h3, ?_⟩
    have : decide (toV x = toV y) = decide (x = y) := by simp [toV_inj h1 h2]
    rw [this]
    exact k _ _ _ (.refl _ _) rs (.bl _)
  · cases e
theorem od_ne : OpD X (compareOp .NotEq) gNe := OpR.weaken op_ne fun v u H Q ⟨O, L, x, y, d, L', rs, ix, iy, e, k⟩ => by
  unfold gNe at e
  split at e
  · rename_i h
    cases e
    simp only [scalD, Bool.and_eq_true] at h
    obtain ⟨⟨h1, h2⟩, h3⟩ := h
    rw [flat_toV ix h1, flat_toV iy h2]
    refine ⟨h3, ?_⟩
    have : decide (toV x = toV y) = decide (x = y) := by simp [toV_inj h1 h2]
    rw [this]
    exact k _ _ _ (.refl _ _) rs (.bl _)
  · cases e
def isNon : D → Bool | .non => true | _ => false
theorem isNon_V {K : PySem.W.Frag} {H : Hp} {O : List Addr} {v : V} {d : D} (h : Is K H O v d) : decide (v = .non) = isNon d := by cases h <;> simp [isNon]
def gIs : G2 := fun x y L => match y with | .non => some (.bl (isNon x), L) | _ => none
def gIsNot : G2 := fun x y L => match y with | .non => some (.bl (!isNon x), L) | _ => none
theorem od_is : OpD X (compareOp .Is) gIs := OpR.weaken op_isN fun v u H Q ⟨O, L, x, y, d, L', rs, ix, iy, e, k⟩ => by
  unfold gIs at e
  split at e
  · cases e; cases iy
    exact ⟨rfl, by rw [isNon_V ix]; exact k _ _ _ (.refl _ _) rs (.bl _)⟩
  · cases e
theorem od_isnot : OpD X (compareOp .IsNot) gIsNot := OpR.weaken op_notN fun v u H Q ⟨O, L, x, y, d, L', rs, ix, iy, e, k⟩ => by
  unfold gIsNot at e
  split at e
  · cases e; cases iy
    exact ⟨rfl, by rw [isNon_V ix]; exact k _ _ _ (.refl _ _) rs (.bl _)⟩
  · cases e
def inStr (i j : Str) : Bool := !(Builtin.Str.occurrences j i 0 j.length 1).isEmpty
def eqP (a b : D) : Bool := eqV (toV a) (toV b)
def inD (x : D) (xs : List D) : Bool := xs.any fun y => eqP y x
def seqOf (d : D) (L : Sto) : Option (List D) := match d with
  | .tup xs => some xs | .fz xs => some xs
  | .ref k => match L[k]? with | some (.lst xs) => some xs | _ => none
  | _ => none
theorem seqOf_is {K : PySem.W.Frag} {H : Hp} {O : List Addr} {L : Sto} {v : V} {d : D} {xs : List D} (rs : RepS K H O L) (h : Is K H O v d) (e : seqOf d L = some xs) : ∃ a vs, v = .ref a ∧ (SqL K H a vs ∨ SqT K H a vs) ∧ IsL K H O vs xs := by
  cases h with
  | tup hq il => cases e; exact ⟨_, _, rfl, .inr hq, il⟩
  | fz hq il => cases e; exact ⟨_, _, rfl, .inl hq.sql, il⟩
  | ref hk =>
    simp only [seqOf] at e
    split at e
    · rename_i ys e2
      cases e
      obtain ⟨vs, hv, iv⟩ := rs.ob _ _ _ hk e2
      exact ⟨_, vs, rfl, .inl (SqL.of hv), iv⟩
    · cases e
  | _ => cases e
def gInN (neg : Bool) : G2 := fun x y L => match x, y with
  | .str i, .str j => some (.bl (if neg then !inStr i j else inStr i j), L)
  | _, _ => match seqOf y L with | some ys => if flatD x && ys.all flatD then some (.bl (if neg then !inD x ys else inD x ys), L) else none | none => none
theorem inD_V {x : D} {xs : List D} : inV (toV x) (xs.map toV) = inD x xs := by
  unfold inV inD eqP
  rw [List.any_map]; rfl
theorem allV {xs : List D} (h : xs.all flatD = true) : (xs.map toV).all flatV = true := by
  rw [List.all_map]
  rw [List.all_eq_true] at h ⊢
  exact fun d hd => flatV_toV (h d hd)
theorem gIn_seq {K : PySem.W.Frag} {H : Hp} {O : List Addr} {L L' : Sto} {v u : V} {x y d : D} {neg : Bool} {Q : VK} (rs : RepS K H O L) (ix : Is K H O v x) (iy : Is K H O u y)
    (e : (match seqOf y L with | some ys => if flatD x && ys.all flatD then some (D.bl (if neg then !inD x ys else inD x ys), L) else none | none => none) = some (d, L'))
    (k : ∀ w H' O', Step H O H' O' → RepS K H' O' L' → Is K H' O' w d → Q w H') : rIn K neg v u H Q := by
  split at e
  · rename_i ys hy
    split at e
    · rename_i hf
      cases e
      rw [Bool.and_eq_true] at hf
      obtain ⟨a, vs, rfl, hs, il⟩ := seqOf_is rs iy hy
      have e1 := flat_toV ix hf.1
      have e2 := flatsL il hf.2
      subst e1 e2
      refine ⟨a, _, rfl, hs, flatV_toV hf.1, allV hf.2, ?_⟩
      rw [inD_V]
      exact k _ _ _ (.refl _ _) rs (.bl _)
    · cases e
  · cases e
theorem od_in : OpD X (compareOp .In) (gInN false) := OpR.weaken (OpR.or op_in_str op_in_seq) fun v u H Q ⟨O, L, x, y, d, L', rs, ix, iy, e, k⟩ => by
  unfold gInN at e
  split at e
  · cases e; cases ix; cases iy
    exact .inl ⟨_, _, rfl, rfl, k _ _ _ (.refl _ _) rs (.bl _)⟩
  · exact .inr (gIn_seq rs ix iy e k)
theorem od_notin : OpD X (compareOp .NotIn) (gInN true) := OpR.weaken (OpR.or op_notin_str op_notIn_seq) fun v u H Q ⟨O, L, x, y, d, L', rs, ix, iy, e, k⟩ => by
  unfold gInN at e
  split at e
  · cases e; cases ix; cases iy
    exact .inl ⟨_, _, rfl, rfl, k _ _ _ (.refl _ _) rs (.bl _)⟩
  · exact .inr (gIn_seq rs ix iy e k)

/-! items and slices -/
def gIx : G2 := fun x y L => match y with
  | .int i => match x with
    | .str z => (match atI z.cps.toList i with | some c => some (.str ⟨#[c]⟩, L) | none => none)
    | _ => (match seqOf x L with | some xs => (match atI xs i with | some d => some (d, L) | none => none) | none => none)
  | _ => none
theorem atI_is {K : PySem.W.Frag} {H : Hp} {O : List Addr} {vs : List V} {xs : List D} {i : Int} {d : D} (il : IsL K H O vs xs) (e : atI xs i = some d) : ∃ v, atI vs i = some v ∧ Is K H O v d := by
  unfold atI at e ⊢
  rw [il.length]
  cases q : ixN xs.length i with
  | none => rw [q] at e; cases e
  | some j => rw [q] at e; exact il.get e
theorem xd_ix : IxD X gIx := IxR.weaken ix_seq fun v u H Q ⟨O, L, x, y, d, L', rs, ix, iy, e, k⟩ => by
  unfold gIx at e
  split at e
  · cases iy
    split at e
    · split at e
      · rename_i c hc
        cases e
        cases ix with | str _ hz =>
          exact .inr (.inr ⟨_, _, c, rfl, rfl, by rw [sizeLine_eq]; exact hz, hc, k _ _ _ (.refl _ _) rs (.str _ (by simp [Str.length]))⟩)
      · cases e
    · split at e
      · rename_i xs hx
        split at e
        · rename_i dd hd
          cases e
          obtain ⟨a, vs, rfl, hs, il⟩ := seqOf_is rs ix hx
          obtain ⟨w, hw, iw⟩ := atI_is il hd
          rcases hs with hs | hs
          · exact .inl ⟨a, vs, _, w, rfl, rfl, hs, hw, k _ _ _ (.refl _ _) rs iw⟩
          · exact .inr (.inl ⟨a, vs, _, w, rfl, rfl, hs, hw, k _ _ _ (.refl _ _) rs iw⟩)
        · cases e
      · cases e
  · cases e
end
end L3

set_option maxHeartbeats 4000000
namespace L3
open PySem PySem.Spec PyProof.Rows L2

/-! slices -/
abbrev OF := Fm → Sto → Option (Option Int × Sto)
def liftO (K : PySem.W.Frag) (f : OF) : TO := fun σ H Q => ∃ O ρ L d L', Rep K H O σ ρ L ∧ f ρ L = some (d, L') ∧ ∀ H' O', Step H O H' O' → RepS K H' O' L' → Q d H'
def POf (X : Cx) (e : Option Expr) (f : OF) : Prop := PO X e (liftO X.K f)
def noO : OF := fun _ L => some (none, L)
def asO (f : EF) : OF := fun ρ L => (f ρ L).bind fun x => match x.1 with | .int i => some (some i, x.2) | _ => none
section
variable {X : Cx} {e : Expr} {f : EF} {lo hi : Option Expr} {fl fh : OF} {pos p2 : Pos}
theorem of_none : POf X none noO := fun pins s σ H Q I ⟨O, ρ, L, d, L', r, e, k⟩ => by
  cases e
  exact po_none pins s σ H Q I (k H O (.refl _ _) r.s)
theorem of_some (h : PEf X e f) : POf X (some e) (asO f) := fun pins s σ H Q I ⟨O, ρ, L, d, L', r, ee, k⟩ => by
  refine po_some h pins s σ H Q I ?_
  unfold asO at ee
  cases e1 : f ρ L with
  | none => rw [e1] at ee; cases ee
  | some p =>
    rw [e1] at ee
    obtain ⟨x, L1⟩ := p
    cases x <;> simp only [Option.bind_some] at ee <;> try (cases ee; done)
    cases ee
    refine ⟨O, ρ, L, _, _, r, e1, fun v H' O' st rs is => ?_⟩
    cases is
    exact ⟨_, rfl, k H' O' st rs⟩
theorem sl_str : SlR X (fun x lo hi H Q => ∃ z, x = .str z ∧ z.length ≤ sizeLine ∧ Q (.str (Txt.slice z lo hi)) H) := by
  intro pins s σ H x v vl vu lo hi sl Q I rx hs pl pu h
  obtain ⟨z, rfl, hz, q⟩ := h
  obtain ⟨t, rfl⟩ := rx
  refine ⟨"str", _, F.slot_str_getitem.lookup, typeIs_str _ _ _, ?_⟩
  have fin : ∀ t' k, EP X pins σ Q (.str (Txt.slice z lo hi) t') { s with toks := k } := fun t' k => ⟨.str _, H, I.tok _, ⟨_, rfl⟩, q⟩
  have hl : (Txt.slice z lo hi).length ≤ sizeLine := Nat.le_trans (Txt.slice_le z _ _) hz
  cases pl with
  | none => cases pu with
    | none => exact wpAny_getItem_str_slice (l := none) (u := none) (st := none) hs rfl (post_val_or_str ⟨hl, fin⟩)
    | int j tj => exact wpAny_getItem_str_slice (l := none) (u := some (j, tj)) (st := none) hs rfl (post_val_or_str ⟨hl, fin⟩)
  | int i ti => cases pu with
    | none => exact wpAny_getItem_str_slice (l := some (i, ti)) (u := none) (st := none) hs rfl (post_val_or_str ⟨hl, fin⟩)
    | int j tj => exact wpAny_getItem_str_slice (l := some (i, ti)) (u := some (j, tj)) (st := none) hs rfl (post_val_or_str ⟨hl, fin⟩)
def cutD (xs : List D) (lo hi : Option Int) : List D := (xs.drop (HT.sIx xs.length 0 lo)).take (HT.sIx xs.length xs.length hi - HT.sIx xs.length 0 lo)
def gSl (x : D) (lo hi : Option Int) (L : Sto) : Option (D × Sto) := match x with
  | .str z => some (.str (Txt.slice z lo hi), L)
  | .fz xs => some (.ref L.length, L ++ [.lst (cutD xs lo hi)])
  | .ref k => (match L[k]? with | some (.lst xs) => some (.ref L.length, L ++ [.lst (cutD xs lo hi)]) | _ => none)
  | _ => none
def slF (f : EF) (fl fh : OF) : EF := fun ρ L => (f ρ L).bind fun x => (fl ρ x.2).bind fun l => (fh ρ l.2).bind fun h => gSl x.1 l.1 h.1 h.2
theorem cut_is {K : PySem.W.Frag} {H : Hp} {O : List Addr} {vs : List V} {xs : List D} (il : IsL K H O vs xs) (lo hi : Option Int) : IsL K H O (cutV vs lo hi) (cutD xs lo hi) := by
  unfold cutV cutD
  rw [il.length]
  exact (il.drop _).take _
theorem ef_slice (he : PEf X e f) (hl : POf X lo fl) (hh : POf X hi fh) : PEf X (.Subscript e (.Slice lo hi none p2) pos) (slF f fl fh) :=
  PE.weaken (pe_slice (SlR.or sl_str sl_list) he hl hh) fun σ H Q ⟨O, ρ, L, d, L', r, ee, k⟩ => by
    unfold slF at ee
    cases e1 : f ρ L with
    | none => rw [e1] at ee; cases ee
    | some p =>
      rw [e1] at ee
      simp only [Option.bind_some] at ee
      cases e2 : fl ρ p.2 with
      | none => rw [e2] at ee; cases ee
      | some q =>
        rw [e2] at ee
        simp only [Option.bind_some] at ee
        cases e3 : fh ρ q.2 with
        | none => rw [e3] at ee; cases ee
        | some w =>
          rw [e3] at ee
          simp only [Option.bind_some] at ee
          refine ⟨O, ρ, L, p.1, p.2, r, e1, fun v H1 O1 st1 rs1 is1 => ⟨O1, ρ, p.2, q.1, q.2, r.to st1 rs1, e2, fun H2 O2 st2 rs2 => ⟨O2, ρ, q.2, w.1, w.2, r.to (st1.trans st2) rs2, e3, fun H3 O3 st3 rs3 => ?_⟩⟩⟩
          have is3 := (is1.mono st2).mono st3
          have stA := (st1.trans st2).trans st3
          unfold gSl at ee
          split at ee
          · rename_i z hz
            rw [hz] at is3
            cases ee
            cases is3 with | str _ hl =>
              exact .inl ⟨_, rfl, by rw [sizeLine_eq]; exact hl, k _ _ _ stA rs3 (.str _ (Nat.le_trans (Txt.slice_le _ _ _) hl))⟩
          · rename_i xs hx
            rw [hx] at is3
            cases ee
            cases is3 with | @fz a vs ds hq il =>
              refine .inr ⟨_, _, rfl, hq.sql, fun pa hp => ?_⟩
              have st4 : Step H3 O3 (upd H3 pa (.lst (cutV vs q.1 w.1))) (O3 ++ [pa]) := ⟨.new hp, List.prefix_append _ _⟩
              exact k _ _ _ (stA.trans st4) (rs3.new hp ⟨_, upd_same, (cut_is il _ _).mono st4⟩) (.ref (by rw [← rs3.len]; simp))
          · rename_i kk hx
            rw [hx] at is3
            split at ee
            · rename_i xs e4
              cases ee
              cases is3 with | ref hk =>
                obtain ⟨vs, hv, il⟩ := rs3.ob _ _ _ hk e4
                refine .inr ⟨_, _, rfl, SqL.of hv, fun pa hp => ?_⟩
                have st4 : Step H3 O3 (upd H3 pa (.lst (cutV vs q.1 w.1))) (O3 ++ [pa]) := ⟨.new hp, List.prefix_append _ _⟩
                exact k _ _ _ (stA.trans st4) (rs3.new hp ⟨_, upd_same, (cut_is il _ _).mono st4⟩) (.ref (by rw [← rs3.len]; simp))
            · cases ee
          · cases ee
end

/-! calls of builtins -/
section
variable {X : Cx}
def gLen : GL := fun xs L => match xs with
  | [.str z] => some (.int (z.length : Int), L)
  | [x] => (match seqOf x L with | some ys => some (.int (ys.length : Int), L) | none => none)
  | _ => none
theorem cd_len : CallD X (.builtin "len") gLen := CallR.weaken (CallR.or call_len_str call_len_seq) fun vs H Q ⟨O, L, xs, d, L', rs, is, e, k⟩ => by
  unfold gLen at e
  split at e
  · cases e
    cases is with | cons i1 i2 => cases i2; cases i1 with | str _ hz =>
      exact .inl ⟨_, rfl, by rw [sizeLine_eq]; exact hz, k _ _ _ (.refl _ _) rs (.int _)⟩
  · split at e
    · rename_i ys hy
      cases e
      cases is with | cons i1 i2 =>
        cases i2
        obtain ⟨a, vs, rfl, hs, il⟩ := seqOf_is rs i1 hy
        exact .inr ⟨a, vs, rfl, hs, by rw [il.length]; exact k _ _ _ (.refl _ _) rs (.int _)⟩
    · cases e
  · cases e
def gAbs : GL := fun xs L => match xs with | [.int i] => some (.int (if i < 0 then -i else i), L) | _ => none
theorem cd_abs : CallD X (.builtin "abs") gAbs := CallR.weaken call_abs fun vs H Q ⟨O, L, xs, d, L', rs, is, e, k⟩ => by
  unfold gAbs at e
  split at e
  · cases e
    cases is with | cons i1 i2 => cases i2; cases i1; exact ⟨_, rfl, k _ _ _ (.refl _ _) rs (.int _)⟩
  · cases e
def gMax : GL := fun xs L => match xs with | [.int i, .int j] => some (.int (if j > i then j else i), L) | _ => none
def gMin : GL := fun xs L => match xs with | [.int i, .int j] => some (.int (if j < i then j else i), L) | _ => none
theorem cd_max (hc : X.calm = true) : CallD X (.builtin "max") gMax := CallR.weaken (call_max2 hc) fun vs H Q ⟨O, L, xs, d, L', rs, is, e, k⟩ => by
  unfold gMax at e
  split at e
  · cases e
    cases is with | cons i1 i2 => cases i2 with | cons i3 i4 => cases i4; cases i1; cases i3; exact ⟨_, _, rfl, k _ _ _ (.refl _ _) rs (.int _)⟩
  · cases e
theorem cd_min (hc : X.calm = true) : CallD X (.builtin "min") gMin := CallR.weaken (call_min2 hc) fun vs H Q ⟨O, L, xs, d, L', rs, is, e, k⟩ => by
  unfold gMin at e
  split at e
  · cases e
    cases is with | cons i1 i2 => cases i2 with | cons i3 i4 => cases i4; cases i1; cases i3; exact ⟨_, _, rfl, k _ _ _ (.refl _ _) rs (.int _)⟩
  · cases e
def gInt : GL := fun xs L => match xs with | [.int i] => some (.int i, L) | [.bl b] => some (.int (if b then 1 else 0), L) | _ => none
theorem cd_int : CallD X (.type "int") gInt := CallR.weaken call_int1 fun vs H Q ⟨O, L, xs, d, L', rs, is, e, k⟩ => by
  unfold gInt at e
  split at e
  · cases e
    cases is with | cons i1 i2 => cases i2; cases i1; exact .inl ⟨_, rfl, k _ _ _ (.refl _ _) rs (.int _)⟩
  · cases e
    cases is with | cons i1 i2 => cases i2; cases i1; exact .inr ⟨_, rfl, k _ _ _ (.refl _ _) rs (.int _)⟩
  · cases e
def gStrI : GL := fun xs L => match xs with | [.int i] => if i.natAbs.log2 < 1920 ∧ (toString i : Str).length ≤ 16777216 then some (.str (toString i), L) else none | _ => none
theorem cd_str : CallD X (.type "str") gStrI := CallR.weaken call_str_int fun vs H Q ⟨O, L, xs, d, L', rs, is, e, k⟩ => by
  unfold gStrI at e
  split at e
  · split at e
    · rename_i h
      cases e
      cases is with | cons i1 i2 => cases i2; cases i1; exact ⟨_, rfl, h.1, k _ _ _ (.refl _ _) rs (.str _ h.2)⟩
    · cases e
  · cases e
def gTuple : GL := fun xs L => match xs with
  | [.tup ys] => some (.tup ys, L)
  | [x] => (match seqOf x L with | some ys => some (.tup ys, L) | none => none)
  | _ => none
theorem cd_tuple : CallD X (.type "tuple") gTuple := CallR.weaken call_tuple_of fun vs H Q ⟨O, L, xs, d, L', rs, is, e, k⟩ => by
  unfold gTuple at e
  split at e
  · cases e
    cases is with | cons i1 i2 => cases i2; cases i1 with | tup hq il => exact ⟨_, _, rfl, .inr ⟨hq, k _ _ _ (.refl _ _) rs (.tup hq il)⟩⟩
  · split at e
    · rename_i ys hy
      cases e
      cases is with | cons i1 i2 =>
        cases i2
        obtain ⟨a, vs, rfl, hs, il⟩ := seqOf_is rs i1 hy
        rcases hs with hs | hs
        · refine ⟨a, vs, rfl, .inl ⟨hs, fun l hl => ?_⟩⟩
          have st : Step H O (upd H l (.tup vs)) O := ⟨.new hl, List.prefix_refl _⟩
          exact k _ _ _ st (rs.ext fun b u e => by rw [upd_ne (ne_of_none e hl)]; exact e) (.tup (SqT.of upd_same) (il.mono st))
        · exact ⟨a, vs, rfl, .inr ⟨hs, k _ _ _ (.refl _ _) rs (.tup hs il)⟩⟩
    · cases e
  · cases e
def gList : GL := fun xs L => match xs with
  | [x] => (match seqOf x L with | some ys => some (.ref L.length, L ++ [.lst ys]) | none => none)
  | _ => none
theorem cd_list : CallD X (.type "list") gList := CallR.weaken call_list_of fun vs H Q ⟨O, L, xs, d, L', rs, is, e, k⟩ => by
  unfold gList at e
  split at e
  · split at e
    · rename_i ys hy
      cases e
      cases is with | cons i1 i2 =>
        cases i2
        obtain ⟨a, vs, rfl, hs, il⟩ := seqOf_is rs i1 hy
        refine ⟨a, vs, rfl, hs, fun l hl => ?_⟩
        have st : Step H O (upd H l (.lst vs)) (O ++ [l]) := ⟨.new hl, List.prefix_append _ _⟩
        exact k _ _ _ st (rs.new hl ⟨_, upd_same, il.mono st⟩) (.ref (by rw [← rs.len]; simp))
    · cases e
  · cases e

/-! all of a list of truths -/
theorem call_all_bls (hc : X.calm = true) : CallR X (.builtin "all") (fun xs H Q => ∃ (p : Addr) (bs : List Bool), xs = [.ref p] ∧ SqL X.K H p (bs.map V.bl) ∧ Q (.bl (bs.all id)) H) := by
  intro pins s σ H xs us Q I r h
  obtain ⟨p, bs, rfl, hq, q⟩ := h
  obtain ⟨u, rfl, rx⟩ := vals1 r
  cases rx
  obtain ⟨its, rv, pl, hz⟩ := I.list hq
  have hI : ∀ b o, s.heap.get? b = some o → b ≠ s.heap.objs.size := fun b o e => Nat.ne_of_lt (Heap.lt_size e)
  obtain ⟨ol, hol, hcl, nl, hdl⟩ := pl.isList
  have hbs : bs.length = its.length := by have := rv.length; simpa using this
  refine call_all_walk (wpAny_pyIter_list pl.isList ⟨s.heap.objs.size, _, _, _, _, _, fun i => (bs[i]?).getD true, rfl,
    Walks.list (A := X.A.in1) (show X.A.in1.handled = none from I.ok.hd hc) s.heap.objs.size p (hI p ol hol) its.toArray, ⟨⟨_, Heap.get?_push_size _ rfl, rfl, rfl⟩, ⟨ol, Heap.get?_push_of_some _ hol, hcl, nl, hdl⟩⟩, ?_, ?_⟩)
  · intro i v s' Q' E' hv hQ
    have hv' : its[i]? = some v := by simpa using hv
    have hi : i < its.length := (List.getElem?_eq_some_iff.mp hv').1
    have hb : bs[i]? = some bs[i] := by simp [hbs, hi]
    obtain ⟨w', hw, rw'⟩ := rv.get (i := i) (x := .bl bs[i]) (by simp [hbs, hi])
    rw [hv'] at hw; cases hw
    cases rw'
    dsimp only at hQ
    rw [hb] at hQ
    exact wpAny_truthy_bool hQ
  · intro h' tk kk
    have I1 : Inv X pins σ H { s with heap := h', toks := tk } := I.kept fun b o e => kk b o (by simpa using hI b o e) (Heap.get?_push_of_some _ e)
    refine ⟨.bl (bs.all id), H, I1, ?_, q⟩
    show Value.bool _ = Value.bool _
    congr 1
    rw [List.size_toArray, ← hbs]
    rw [Bool.eq_iff_iff, List.all_eq_true, List.all_eq_true]
    constructor
    · intro h b hb
      obtain ⟨i, hi, rfl⟩ := List.getElem_of_mem hb
      have := h i (List.mem_range.mpr hi)
      simpa [hi] using this
    · intro h i hi
      have hi' := List.mem_range.mp hi
      simpa [hi'] using h _ (List.getElem_mem hi')
def blsD : List D → Option (List Bool)
  | [] => some []
  | .bl b :: r => (blsD r).map (b :: ·)
  | _ => none
theorem blsD_is {K : PySem.W.Frag} {H : Hp} {O : List Addr} : ∀ {vs : List V} {ds : List D} {bs : List Bool}, IsL K H O vs ds → blsD ds = some bs → vs = bs.map V.bl
  | _, _, _, .nil, e => by cases e; rfl
  | _, d :: ds, bs, .cons a b, e => by
    cases a <;> simp only [blsD] at e <;> try (cases e; done)
    cases q : blsD ds with
    | none => rw [q] at e; cases e
    | some r =>
      rw [q] at e
      cases e
      rw [blsD_is b q]; rfl
def gAll : GL := fun xs L => match xs with
  | [.ref k] => (match L[k]? with | some (.lst ds) => (match blsD ds with | some bs => some (.bl (bs.all id), L) | none => none) | _ => none)
  | _ => none
theorem cd_all (hc : X.calm = true) : CallD X (.builtin "all") gAll := CallR.weaken (call_all_bls hc) fun vs H Q ⟨O, L, xs, d, L', rs, is, e, k⟩ => by
  unfold gAll at e
  split at e
  · split at e
    · rename_i ds hd
      split at e
      · rename_i bs hb
        cases e
        cases is with | cons i1 i2 =>
          cases i2
          cases i1 with | ref hk =>
            obtain ⟨vs, hv, il⟩ := rs.ob _ _ _ hk hd
            rw [blsD_is il hb] at hv
            exact ⟨_, bs, rfl, SqL.of hv, k _ _ _ (.refl _ _) rs (.bl _)⟩
      · cases e
    · cases e
  · cases e
end
end L3

set_option maxHeartbeats 4000000
namespace L3
open PySem PySem.Spec PyProof.Rows L2

/-! methods of builtin values -/
abbrev GM := D → List D → Sto → Option (D × Sto)
def rM (K : PySem.W.Frag) (g : GM) : V → List V → Hp → VK → Prop := fun v vs H Q => ∃ O L x xs d L', RepS K H O L ∧ Is K H O v x ∧ IsL K H O vs xs ∧ g x xs L = some (d, L') ∧
  ∀ w H' O', Step H O H' O' → RepS K H' O' L' → Is K H' O' w d → Q w H'
def MtD (X : Cx) (id : String) (g : GM) : Prop := MtR X id (rM X.K g)
theorem MtR.weaken {X : Cx} {id : String} {r r' : V → List V → Hp → VK → Prop} (h : MtR X id r) (i : ∀ x xs H Q, r' x xs H Q → r x xs H Q) : MtR X id r' :=
  fun pins s σ H x xs v us Q I rx rs q => h pins s σ H x xs v us Q I rx rs (i _ _ _ _ q)
def tyD (T : String) (x : D) (L : Sto) : Bool := match x with
  | .str _ => T == "str"
  | .fz _ => T == "list"
  | .ref k => match L[k]? with | some (.lst _) => T == "list" | some (.dk _) => T == "dict" | _ => false
  | _ => false
theorem tyD_is {K : PySem.W.Frag} {H : Hp} {O : List Addr} {L : Sto} {T : String} {v : V} {x : D} (rs : RepS K H O L) (i : Is K H O v x) (h : tyD T x L = true) : tyV K T v H := by
  unfold tyD at h
  split at h
  · cases i
    exact beq_iff_eq.mp h
  · cases i with | fz hq il => exact .inl ⟨beq_iff_eq.mp h, _, hq.sql⟩
  · cases i with | ref hk =>
      split at h
      · rename_i e
        obtain ⟨vs, hv, _⟩ := rs.ob _ _ _ hk e
        exact .inl ⟨beq_iff_eq.mp h, _, SqL.of hv⟩
      · rename_i e
        obtain ⟨vs, hv, _⟩ := rs.ob _ _ _ hk e
        exact .inr (.inr (.inl ⟨beq_iff_eq.mp h, .inl ⟨_, hv⟩⟩))
      · cases h
  · cases h
def mthF (T : String) (g : GM) (fo : EF) (fa : AF) : EF := fun ρ L => (fo ρ L).bind fun x => if tyD T x.1 x.2 = true then (fa ρ x.2).bind fun y => g x.1 y.1 y.2 else none
section
variable {X : Cx} {o e : Expr} {es : List Expr} {fo : EF} {fa : AF} {name : Str} {apos cpos : Pos} {T id : String} {g : GM}
theorem ef_bm0 (pa : PlainAttrs T) (slot : Slot T name id) (hty : typeOf (.builtin id) = pure (.type "method_descriptor")) (hm : MtD X id g) (ho : PEf X o fo)
    (hbase : attributeBase o name X.env (eval o X.env) = eval o X.env := by rfl) (hline : (apos.endLine == cpos.line) = true := by rfl) : PEf X (.Call (.Attribute o name apos) [] [] cpos) (mthF T g fo nilA) :=
  PE.weaken (pe_bm0 pa slot hty hm ho hbase hline) fun σ H Q ⟨O, ρ, L, d, L', r, e, k⟩ => by
    unfold mthF at e
    cases e1 : fo ρ L with
    | none => rw [e1] at e; cases e
    | some p =>
      rw [e1] at e
      simp only [Option.bind_some] at e
      split at e
      · rename_i ht
        refine ⟨O, ρ, L, p.1, p.2, r, e1, fun v H1 O1 st rs is => ⟨tyD_is rs is ht, O1, p.2, p.1, [], d, L', rs, is, .nil, e, fun w H' O' st' rs' is' => k w H' O' (st.trans st') rs' is'⟩⟩
      · cases e
theorem ef_bm (pa : PlainAttrs T) (slot : Slot T name id) (hty : typeOf (.builtin id) = pure (.type "method_descriptor")) (hm : MtD X id g) (ho : PEf X o fo) (ha : PAf X (e :: es) fa)
    (hbase : attributeBase o name X.env (eval o X.env) = eval o X.env := by rfl)
    (hfew : decide ((e :: es).length + ([] : List Keyword).length + (if ([] : List Keyword).isEmpty then 0 else 1) < 30) = true := by rfl)
    (hline : (apos.endLine == cpos.line) = true := by rfl) (hs : notStar e = true := by rfl) (hplain : es.all notStar = true := by rfl) :
    PEf X (.Call (.Attribute o name apos) (e :: es) [] cpos) (mthF T g fo fa) :=
  PE.weaken (pe_bm pa slot hty hm ho ha hbase (by rw [plain_all (by rw [List.all_cons, hs, hplain]; rfl), hfew]; rfl) hline (starEach_cons hs) (plain_of hplain)) fun σ H Q ⟨O, ρ, L, d, L', r, e, k⟩ => by
    unfold mthF at e
    cases e1 : fo ρ L with
    | none => rw [e1] at e; cases e
    | some p =>
      rw [e1] at e
      simp only [Option.bind_some] at e
      split at e
      · rename_i ht
        cases e2 : fa ρ p.2 with
        | none => rw [e2] at e; cases e
        | some q =>
          rw [e2] at e
          simp only [Option.bind_some] at e
          refine ⟨O, ρ, L, p.1, p.2, r, e1, fun v H1 O1 st rs is => ⟨tyD_is rs is ht, O1, ρ, p.2, q.1, q.2, r.to st rs, e2, fun vs H2 O2 st2 rs2 is2 => ?_⟩⟩
          exact ⟨O2, q.2, p.1, q.1, d, L', rs2, is.mono st2, is2, e, fun w H' O' st' rs' is' => k w H' O' ((st.trans st2).trans st') rs' is'⟩
      · cases e
/-! texts -/
def gS0b (f : Str → Bool) : GM := fun x xs L => match x, xs with | .str z, [] => some (.bl (f z), L) | _, _ => none
def gS0s (f : Str → Str) : GM := fun x xs L => match x, xs with | .str z, [] => if (f z).length ≤ 16777216 then some (.str (f z), L) else none | _, _ => none
theorem md_b {id : String} {f : Str → Bool} (h : ∀ (z : Str) (t : Tok) (s : Shared) (Q E : Value → Shared → Prop), Q (.bool (f z)) s → wpAny (model X.prog X.w) X.A (call (.builtin id) [.str z t]) Q E s) : MtD X id (gS0b f) :=
  fun pins s σ H x xs v us Q I rx rs ⟨O, L, dx, dxs, d, L', rp, ix, ixs, e, k⟩ => by
    unfold gS0b at e
    split at e
    · cases e; cases ix; cases ixs; cases rs
      obtain ⟨t, rfl⟩ := rx
      exact h _ _ _ _ _ ⟨.bl _, H, I, rfl, k _ _ _ (.refl _ _) rp (.bl _)⟩
    · cases e
theorem md_s {id : String} {f : Str → Str} (h : ∀ (z : Str) (t : Tok) (s : Shared) (Q E : Value → Shared → Prop), Builtin.Str.tooLong (f z).length = false → Q (.str (f z) s.toks) { s with toks := s.toks + 1 } → wpAny (model X.prog X.w) X.A (call (.builtin id) [.str z t]) Q E s) : MtD X id (gS0s f) :=
  fun pins s σ H x xs v us Q I rx rs ⟨O, L, dx, dxs, d, L', rp, ix, ixs, e, k⟩ => by
    unfold gS0s at e
    split at e
    · split at e
      · rename_i hz
        cases e; cases ix; cases ixs; cases rs
        obtain ⟨t, rfl⟩ := rx
        exact h _ _ _ _ _ (decide_eq_false (by rw [sizeLine_eq]; omega)) ⟨.str _, H, I.tok _, ⟨_, rfl⟩, k _ _ _ (.refl _ _) rp (.str _ hz)⟩
      · cases e
    · cases e
theorem md_islower : MtD X "str.islower" (gS0b Txt.islower) := md_b fun _ _ _ _ _ h => SC.islower h
theorem md_isupper : MtD X "str.isupper" (gS0b Txt.isupper) := md_b fun _ _ _ _ _ h => SC.isupper h
theorem md_isdigit : MtD X "str.isdigit" (gS0b Txt.isdigit) := md_b fun _ _ _ _ _ h => SC.isdigit h
theorem md_upper : MtD X "str.upper" (gS0s Txt.upper) := md_s fun _ _ _ _ _ hz h => SC.upper hz h
theorem md_lower : MtD X "str.lower" (gS0s Txt.lower) := md_s fun _ _ _ _ _ hz h => SC.lower hz h
def strsD : List D → Option (List Str)
  | [] => some []
  | .str x :: r => (strsD r).map (x :: ·)
  | _ => none
theorem strsD_is {K : PySem.W.Frag} {H : Hp} {O : List Addr} : ∀ {vs : List V} {ds : List D} {ys : List Str}, IsL K H O vs ds → strsD ds = some ys → vs = ys.map V.str
  | _, _, _, .nil, e => by cases e; rfl
  | _, d :: ds, ys, .cons a b, e => by
    cases a <;> simp only [strsD] at e <;> try (cases e; done)
    cases q : strsD ds with
    | none => rw [q] at e; cases e
    | some r =>
      rw [q] at e
      cases e
      rw [strsD_is b q]; rfl
theorem strsAre_of : ∀ {ys : List Str} {us : List Value}, Vals (ys.map V.str) us → StrsAre us ys
  | [], _, r => by rw [List.map_nil] at r; cases r; exact .nil
  | y :: ys, _, r => by
    rw [List.map_cons] at r
    cases r with
    | cons r1 r2 => obtain ⟨t, rfl⟩ := r1; exact .cons y t (strsAre_of r2)
def gJoin : GM := fun x xs L => match x, xs with
  | .str sep, [y] => (match seqOf y L with | some ds => (match strsD ds with | some ys => if (ys.map (·.length)).sum + ys.length * sep.length ≤ 16777216 then some (.str (Txt.join sep ys), L) else none | none => none) | none => none)
  | _, _ => none
theorem join_len (sep : Str) (ys : List Str) : (Txt.join sep ys).length ≤ (ys.map (·.length)).sum + ys.length * sep.length := by
  show (Builtin.Str.glued sep ys).length ≤ _
  rw [size_glued]
  exact Nat.add_le_add_left (Nat.mul_le_mul_right _ (Nat.sub_le _ _)) _
theorem md_join : MtD X "str.join" gJoin := fun pins s σ H x xs v us Q I rx rs ⟨O, L, dx, dxs, d, L', rp, ix, ixs, e, k⟩ => by
  unfold gJoin at e
  split at e
  · split at e
    · rename_i ds hd
      split at e
      · rename_i ys hy
        split at e
        · rename_i hz
          cases e
          cases ix
          cases ixs with | cons i1 i2 =>
            cases i2
            obtain ⟨t, rfl⟩ := rx
            obtain ⟨u, rfl, ru⟩ := vals1 rs
            obtain ⟨a, vs, rfl, hs, il⟩ := seqOf_is rp i1 hd
            cases ru
            have e1 := strsD_is il hy
            subst e1
            have fin : ∀ t' k', EP X pins σ Q (.str (Txt.join _ ys) t') { s with toks := k' } := fun t' k' => ⟨.str _, H, I.tok _, ⟨_, rfl⟩, k _ _ _ (.refl _ _) rp (.str _ (Nat.le_trans (join_len _ _) hz))⟩
            rcases hs with hs | hs
            · obtain ⟨its, rv, pl, _⟩ := I.list hs
              exact join_list pl.isList (by simpa using strsAre_of rv) hz fin
            · obtain ⟨its, rv, pl, _⟩ := I.tuple hs
              exact join_tuple pl (by simpa using strsAre_of rv) hz fin
        · cases e
      · cases e
    · cases e
  · cases e
/-! append -/
def gAppend : GM := fun x xs L => match x, xs with
  | .ref k, [y] => (match L[k]? with | some (.lst ds) => if ds.length < 16777216 then some (.non, L.set k (.lst (ds ++ [y]))) else none | _ => none)
  | _, _ => none
theorem md_append : MtD X "list.append" gAppend := MtR.weaken (show MtR X "list.append" rAppend from mt_append) fun v vs H Q ⟨O, L, dx, dxs, d, L', rp, ix, ixs, e, k⟩ => by
  unfold gAppend at e
  split at e
  · split at e
    · rename_i ds hd
      split at e
      · rename_i hz
        cases e
        cases ix with | @ref kk a hk =>
          cases ixs with | @cons v1 y1 _ _ i1 i2 =>
            cases i2
            obtain ⟨ws, hw, il⟩ := rp.ob _ _ _ hk hd
            refine ⟨_, ws, _, rfl, rfl, hw, by rw [il.length, sizeLine_eq]; exact hz, ?_⟩
            have st : Step H O (upd H a (.lst (ws ++ [v1]))) O := ⟨.write hw id, List.prefix_refl _⟩
            exact k _ _ _ st (rp.write (o' := .lst (ds ++ [_])) hk ⟨_, upd_same, (il.mono st).append (.cons (i1.mono st) .nil)⟩) .non
      · cases e
    · cases e
  · cases e
end

/-! isinstance -/
def tyName (x : D) (L : Sto) : Option String := match x with
  | .non => some "NoneType" | .bl _ => some "bool" | .int _ => some "int" | .str _ => some "str" | .tup _ => some "tuple" | .fz _ => some "list"
  | .ref k => (match L[k]? with | some (.lst _) => some "list" | some (.dk _) => some "dict" | none => none)
  | .ty _ => none
def instOf (t T : String) : Bool := t == T || (t == "bool" && T == "int")
def gInst : GL := fun xs L => match xs with
  | [x, .ty T] => if ["int", "str", "bool", "list", "tuple", "dict"].contains T then (tyName x L).map fun t => (.bl (instOf t T), L) else none
  | _ => none
section
variable {X : Cx}
theorem kit_tab (K : PySem.W.Frag) {t T : String} (ht : t ∈ ["NoneType", "bool", "int", "str", "tuple", "list", "dict"]) (hT : T ∈ ["int", "str", "bool", "list", "tuple", "dict"]) : PySem.W.kitOne K (.type t) (.type T) = some (instOf t T) := by
  simp only [List.mem_cons, List.not_mem_nil, or_false] at ht hT
  rcases ht with rfl | rfl | rfl | rfl | rfl | rfl | rfl <;> rcases hT with rfl | rfl | rfl | rfl | rfl | rfl <;> first | rfl | decide
theorem cd_inst : CallD X (.builtin "isinstance") gInst := fun pins s σ H xs us Q I r ⟨O, L, ds, d, L', rp, is, e, k⟩ => by
  unfold gInst at e
  split at e
  · rename_i x T
    split at e
    · rename_i hT
      have hT' : T ∈ ["int", "str", "bool", "list", "tuple", "dict"] := by simpa using hT
      cases is with | cons i1 i2 => cases i2 with | cons i3 i4 =>
        cases i4
        cases i3
        obtain ⟨u, u2, rfl, r1, r2⟩ := vals2 r
        cases r2
        cases ht : tyName x L with
        | none => rw [ht] at e; cases e
        | some t =>
          rw [ht] at e
          cases e
          have fin : ∀ tk, EP X pins σ Q (.bool (instOf t T)) { s with toks := tk } := fun tk => ⟨.bl _, H, I.tok _, rfl, k _ _ _ (.refl _ _) rp (.bl _)⟩
          cases i1 with
          | non => cases ht; exact isinst_ok I r1 .non (kit_tab _ (by simp) hT') fin
          | bl b => cases ht; exact isinst_ok I r1 (.bl b) (kit_tab _ (by simp) hT') fin
          | int b => cases ht; exact isinst_ok I r1 (.int b) (kit_tab _ (by simp) hT') fin
          | str b _ => cases ht; exact isinst_ok I r1 (.str b) (kit_tab _ (by simp) hT') fin
          | tup hq il =>
            cases ht
            cases r1
            obtain ⟨its, rv, pl, _⟩ := I.tuple hq
            obtain ⟨o, h1, h2, _⟩ := pl
            exact PySem.W.kia_one PySem.W.kitx_tuple I.kIn ⟨o, h1, h2⟩ (kit_tab _ (by simp) hT') (fun z => nomatch z) fin
          | fz hq il =>
            cases ht
            cases r1
            obtain ⟨its, rv, pl, _⟩ := I.list hq.sql
            obtain ⟨o, h1, h2, _⟩ := pl.isList
            exact PySem.W.kia_one PySem.W.kitx_list I.kIn ⟨o, h1, h2⟩ (kit_tab _ (by simp) hT') (fun z => nomatch z) fin
          | ref hk =>
            simp only [tyName] at ht
            split at ht
            · rename_i e2
              cases ht
              obtain ⟨vs, hv, _⟩ := rp.ob _ _ _ hk e2
              exact isinst_ok I r1 (.lst hv) (kit_tab _ (by simp) hT') fin
            · rename_i e2
              cases ht
              obtain ⟨vs, hv, _⟩ := rp.ob _ _ _ hk e2
              exact isinst_ok I r1 (.dK hv) (kit_tab _ (by simp) hT') fin
            · cases ht
          | ty n => cases ht
    · cases e
  · cases e
/-- a builtin class as a value -/
theorem ef_ty {x : Str} {T : String} {pos : Pos} (hm : X.mg x = none) (hv : bootBuiltins x = some (.type T)) (hg : Gl X x := by rfl) (hn : x ≠ "__name__" := by decide) (hd : (x == ("__debug__" : Str)) = false := by decide) : PEf X (.Name x pos) (cst (.ty T)) :=
  ef_const (pe_bltn hg hm hv (v := .ty T) rfl hn hd) fun _ _ => .ty T
/-- a constant of the module -/
theorem ef_glob {x : Str} {v : V} {u : Value} {d : D} {pos : Pos} (hm : X.mg x = some u) (r : RelV v u) (i : ∀ H O, Is X.K H O v d) (hg : Gl X x := by rfl) (hd : (x == ("__debug__" : Str)) = false := by decide) : PEf X (.Name x pos) (cst d) := ef_const (pe_glob hg hm r hd) i
end
end L3

set_option maxHeartbeats 4000000
namespace L3
open PySem PySem.Spec PyProof.Rows L2

/-! a comprehension's scope, by a test -/
def compChk (names fnames : List (Str × NameKind)) (N N' : List Str) (n : Nat) (idx : List Nat) : Bool :=
  names.all (fun p => !(p.2 == .cell)) && names.all (fun p => !(p.2 == .local) || names.lookup p.1 == some .local) && names.all (fun p => !(p.2 == .free) || fnames.lookup p.1 == some .cell || fnames.lookup p.1 == some .free) &&
  N'.length == n + idx.length && (List.range idx.length).all fun j => match idx[j]? with
    | some i => (match N'[n + j]?, N[i]? with | some x, some y => x == y && names.contains (x, .free) && names.all (fun p => !(p.1 == x) || p.2 == .free) | _, _ => false)
    | none => false
theorem compOk_of {X : Cx} {scope : Scope} {N N' : List Str} {n : Nat} {idx : List Nat} {fnames : List (Str × NameKind)} (h1 : scope.kind = .function) (hk : ∀ x, X.env.kindOf x = fnames.lookup x) (hN : X.N = N) (hc : compChk scope.names fnames N N' n idx = true) : CompOk X scope N' n idx := by
  subst hN
  unfold compChk at hc
  simp only [Bool.and_eq_true] at hc
  obtain ⟨⟨⟨⟨c1, c2⟩, c3⟩, c4⟩, c5⟩ := hc
  rw [List.all_eq_true] at c1 c2 c3 c5
  refine ⟨h1, fun y hy e => ?_, fun y hy e => ?_, fun y hy e => ?_, beq_iff_eq.mp c4, fun j i e => ?_⟩
  · have := c1 y hy
    rw [e] at this
    exact absurd this (by decide)
  · have := c2 y hy
    rw [e] at this
    simpa using this
  · have := c3 y hy
    rw [e] at this
    rw [hk]
    simpa using this
  · have hj := (List.getElem?_eq_some_iff.mp e).1
    have := c5 j (List.mem_range.mpr hj)
    rw [e] at this
    simp only at this
    cases q1 : N'[n + j]? with
    | none => simp [q1] at this
    | some x =>
      cases q2 : X.N[i]? with
      | none => simp [q1, q2] at this
      | some y =>
        simp only [q1, q2, Bool.and_eq_true] at this
        obtain ⟨⟨a1, a2⟩, a3⟩ := this
        have a1' : x = y := beq_iff_eq.mp a1
        subst a1'
        refine ⟨x, rfl, rfl, by simpa using a2, fun k hk' => ?_⟩
        rw [List.all_eq_true] at a3
        have := a3 _ hk'
        simpa using this

/-! dicts that are only handed on -/
def dNewV : EF := fun _ L => some (.ref L.length, L ++ [.dk []])
section
variable {X : Cx} {pos : Pos}
theorem ef_dnew : PEf X (.Dict [] [] pos) dNewV := PE.weaken pe_dnewK fun σ H Q ⟨O, ρ, L, d, L', r, e, k⟩ => by
  cases e
  intro p hp
  have st : Step H O (upd H p (.dK [])) (O ++ [p]) := ⟨.new hp, List.prefix_append _ _⟩
  exact k _ _ _ st (r.s.new hp ⟨[], upd_same, rfl, .nil⟩) (.ref (by rw [← r.s.len]; simp))
def dOneV (fk fv : EF) : EF := fun ρ L => (fk ρ (L ++ [.dk []])).bind fun x => (fv ρ x.2).bind fun y => match x.1 with
  | .str z => if y.2[L.length]? = some (.dk []) then some (.ref L.length, y.2.set L.length (.dk [(.inr z, y.1)])) else none
  | _ => none
theorem ef_done {k v : Expr} {fk fv : EF} (hk : PEf X k fk) (hv : PEf X v fv) : PEf X (.Dict [some k] [v] pos) (dOneV fk fv) :=
  PE.weaken (pe_disp (pps_cons hk hv pps_nil) rfl rfl (by simp) (by simp)) fun σ H Q ⟨O, ρ, L, d, L', r, e, kk⟩ => by
    intro p hp
    have st : Step H O (upd H p (.dK [])) (O ++ [p]) := ⟨.new hp, List.prefix_append _ _⟩
    have rs := r.s.new hp (o := .dk []) ⟨[], upd_same, rfl, .nil⟩
    have hO : (O ++ [p])[L.length]? = some p := by rw [← r.s.len]; simp
    unfold dOneV at e
    cases e1 : fk ρ (L ++ [.dk []]) with
    | none => rw [e1] at e; cases e
    | some x =>
      rw [e1] at e
      simp only [Option.bind_some] at e
      cases e2 : fv ρ x.2 with
      | none => rw [e2] at e; cases e
      | some y =>
        rw [e2] at e
        simp only [Option.bind_some] at e
        split at e
        · rename_i z hz
          split at e
          · rename_i hy
            cases e
            refine ⟨O ++ [p], ρ, _, x.1, x.2, r.to st rs, e1, fun v1 H1 O1 st1 rs1 is1 => ⟨O1, ρ, x.2, y.1, y.2, r.to (st.trans st1) rs1, e2, fun v2 H2 O2 st2 rs2 is2 => ?_⟩⟩
            have hO2 := pref_get (st1.trans st2).2 hO
            obtain ⟨us, hu, hk2, hl2⟩ := rs2.ob _ _ _ hO2 hy
            have hus : us = [] := by simpa using hk2
            subst hus
            rw [hz] at is1
            cases is1
            refine ⟨hu, [(.inr z, v2)], rfl, by simp, ?_⟩
            have stw : Step H2 O2 (upd H2 p (.dK [(.inr z, v2)])) O2 := ⟨.write hu id, List.prefix_refl _⟩
            exact kk _ _ _ (((st.trans st1).trans st2).trans stw) (rs2.write (o' := .dk [(.inr z, y.1)]) hO2 ⟨[(.inr z, v2)], upd_same, rfl, .cons (is2.mono stw) .nil⟩) (.ref hO2)
          · cases e
        · cases e
end

/-! the law's head -/
open PySem.W in
theorem attach_bits {l : OpenLaw} {n : Nat} {q : Program} {loose : List Str} {XP : (Str → Option Value) → Heap → Prop} {YP : World → Heap → Prop} {d : DefRec}
    (hn : l.most = some n) (hdf : d.params.defaults = [])
    (call : ∀ (w : World) (s₀ s₁ : Shared) (mg mb : Str → Option Value) (fa : Addr) (a : Addr) (vs : List Value) (ns : List Int),
      Ground q loose [] XP w s₀ mg mb s₁.heap → YP w s₁.heap → mg d.name = some (.ref fa) →
      s₁.heap.get? a = some { cls := .type "list", data := .seq vs.toArray } → IntsAre vs ns → ns.length ≤ n → (∀ z ∈ ns, Builtin.Int.intBits z ≤ 1048576) → s₁.gens = #[] →
      codeAny (model l.prog w) callerA (.call (.ref fa) ⟨[.ref a], []⟩) (fun r s' => r = .ok (.ret (.bool true)) ∧ OldK s₁.heap s'.heap ∧ s'.os = s₁.os ∧ AllBare s'.gens) s₁) :
    WalkO q loose XP YP l.row.toRowW d [] (fun f vs => PySem.call f vs) := by
  intro w s₀ s₁ mg mb G Y fa o pm cd doc dV kV ho hd hcd hD hmg hg args vals as hpre hlay hrd hwl hlo
  obtain rfl : dV = .none := Dflts.none hD hdf
  obtain rfl : kV = .none := Dflts.noKw hD
  obtain ⟨a, vs, ns, rfl, rfl, hobj, hints, hlen⟩ := Att.script_of hn hpre hwl
  have hb : ∀ z ∈ ns, Builtin.Int.intBits z ≤ 1048576 := fun z hz => by
    have h1 := layableW_arg hlay _ List.mem_cons_self
    have h2 := layableW_item h1 (.int z) (List.mem_map.mpr ⟨z, hz, rfl⟩)
    have h3 := (layableW_iff.mp h2).2.2
    simpa only [WData.weight, Builtin.Int.intBits] using h3
  refine enter_call (codeAny_mono (call w s₀ s₁ mg mb fa a vs ns G Y hmg hobj hints hlen hb hg) fun r s' hq => ?_)
  obtain ⟨rfl, h2, h3, h4⟩ := hq
  exact ⟨.inl ⟨.bool true, .bool true, [], rfl, fun _ => rfl, .bool true, Att.post_true l _, fun _ => ⟨List.Pairwise.nil, fun _ hm => (nomatch hm)⟩⟩, h2, h3, h4⟩
theorem isl_ints {K : PySem.W.Frag} {H : Hp} {O : List Addr} : ∀ ns : List Int, IsL K H O (ns.map V.int) (ns.map D.int)
  | [] => .nil
  | n :: ns => .cons (.int n) (isl_ints ns)
theorem walk_f {l : PySem.W.OpenLaw} {n k : Nat} {q : Program} {loose : List Str} {XP : (Str → Option Value) → Heap → Prop} {YP : World → Heap → Prop} {d : DefRec} {K : Params → PySem.W.Frag} {x : Str} {G : GL}
    (hn : l.most = some n) (hn2 : n ≤ sizeLine) (hdf : d.params.defaults = []) (hr : Room k callerA)
    (hY : ∀ (w : World) (h : Heap), YP w h → (K w.params).In h)
    (F : ∀ (w : World) (mg : Str → Option Value) (fa : Addr) (h : Heap), (K w.params).In h → h.Ns mainGlobals mg → mg d.name = some (.ref fa) →
      ∃ fd : FuncData, (∀ (s : Shared) (u : Value), BindsTo s fd ⟨[u], []⟩ [(x, u)]) ∧
        ∀ base : Heap, (K w.params).In base → base.Ns mainGlobals mg → FnOk l.prog w (K w.params) mg base CX0 k fa fd [x] (spF (K w.params) G))
    (hG : ∀ ns : List Int, ns.length ≤ n → (∀ z ∈ ns, Builtin.Int.intBits z ≤ 1048576) → ∃ L', G [.fz (ns.map .int)] [] = some (.bl true, L')) :
    PySem.W.WalkO q loose XP YP l.row.toRowW d [] (fun f vs => PySem.call f vs) := by
  refine attach_bits hn hdf fun w s₀ s₁ mg mb fa a vs ns GG Y hmg hobj hints hlen hb hg => ?_
  have KX := hY w _ Y
  obtain ⟨fd, hbd, hF⟩ := F w mg fa _ KX GG.T.g hmg
  refine law_call KX GG.T.g GG.T.b GG.T.builtins GG.T.nolimit hg hobj hints (Nat.le_trans hlen hn2) hr hF hbd (fun H hO hS => ?_) fun H e s' h => h
  obtain ⟨L', e⟩ := hG ns hlen hb
  have hS' : SqF (K w.params) H a (ns.map V.int) := by
    rcases hS with (h | h) | h
    · rcases hO a with z | ⟨o, xs, z⟩
      · rw [h] at z; cases z
      · rw [h] at z; cases z
    · exact .inl h
    · exact .inr h
  exact ⟨[], [], [.fz (ns.map .int)], .bl true, L', ⟨rfl, List.nodup_nil, fun k a o e => by simp at e⟩, .cons (.fz hS' (isl_ints ns)) .nil, e, fun w' H' O' st rs is => by cases is; rfl⟩
end L3

set_option maxHeartbeats 4000000
namespace L3
open PySem PySem.Spec PyProof.Rows L2
section
variable {X : Cx} {a l tg : Expr} {f : EF} {pos : Pos}
def gNeg : G1 := fun x L => match x with | .int i => some (.int (-i), L) | _ => none
theorem ef_neg (ha : PEf X a f) : PEf X (.UnaryOp .USub a pos) (un1 gNeg f) := PE.weaken (pe_un un_neg ha) fun σ H Q ⟨O, ρ, L, d, L', r, e, k⟩ => by
  unfold un1 at e
  cases e1 : f ρ L with
  | none => rw [e1] at e; cases e
  | some p =>
    rw [e1] at e
    obtain ⟨x, L1⟩ := p
    cases x <;> simp only [Option.bind_some, gNeg] at e <;> try (cases e; done)
    cases e
    refine ⟨O, ρ, L, _, _, r, e1, fun v H1 O1 st rs is => ?_⟩
    cases is
    exact ⟨_, rfl, k _ _ _ st rs (.int _)⟩
/-- a module's constant and what it is worth -/
structure GCon (K : PySem.W.Frag) (mg : Str → Option Value) (x : Str) (d : D) : Prop where
  ex : ∃ v u, mg x = some u ∧ RelV v u ∧ ∀ H O, Is K H O v d
theorem ef_gcon {x : Str} {d : D} (h : GCon X.K X.mg x d) (hg : Gl X x := by rfl) (hd : (x == ("__debug__" : Str)) = false := by decide) : PEf X (.Name x pos) (cst d) := by
  obtain ⟨v, u, a, b, c⟩ := h.ex
  exact ef_glob a b c hg hd
def itOf (d : D) (L : Sto) : Option ItD := match d with
  | .tup xs => some ⟨xs, fun _ => true⟩
  | .fz xs => some ⟨xs, fun _ => true⟩
  | .ref k => (match L[k]? with | some (.lst xs) => some ⟨xs, fun L' => decide (L'[k]? = some (.lst xs))⟩ | _ => none)
  | .str y => some ⟨sgs y, fun _ => true⟩
  | _ => none
def iAnyF (f : EF) : IF := fun ρ L => (f ρ L).bind fun x => (itOf x.1 x.2).bind fun J => some (J, x.2)
theorem pif_any (hl : PEf X l f) : PIf X tg l (iAnyF f) := fun pins s σ H R I ⟨O, ρ, L, J, L', r, e, k⟩ => by
  unfold iAnyF at e
  cases e1 : f ρ L with
  | none => rw [e1] at e; cases e
  | some p =>
    rw [e1] at e
    obtain ⟨d, L1⟩ := p
    simp only [Option.bind_some] at e
    cases d <;> simp only [itOf, Option.bind_some, Option.bind_none] at e <;> try (cases e; done)
    · exact pif_str hl pins s σ H R I ⟨O, ρ, L, J, L', r, by simp only [iStrF, e1, Option.bind_some]; exact e, k⟩
    · exact pif_tup hl pins s σ H R I ⟨O, ρ, L, J, L', r, by simp only [iTupF, e1, Option.bind_some]; exact e, k⟩
    · exact pif_lst hl pins s σ H R I ⟨O, ρ, L, J, L', r, by simp only [iLstF, e1, Option.bind_some]; exact e, k⟩
    · rename_i kk
      refine pif_lst hl pins s σ H R I ⟨O, ρ, L, J, L', r, ?_, k⟩
      simp only [iLstF, e1, Option.bind_some]
      cases e2 : L1[kk]? with
      | none => rw [e2] at e; cases e
      | some o => rw [e2] at e; cases o <;> simp at e ⊢ <;> exact e
end
theorem bt_int : bootBuiltins "int" = some (.type "int") := by decide +kernel
theorem bt_str : bootBuiltins "str" = some (.type "str") := by decide +kernel
theorem bt_bool : bootBuiltins "bool" = some (.type "bool") := by decide +kernel
theorem bt_list : bootBuiltins "list" = some (.type "list") := by decide +kernel
theorem bt_tuple : bootBuiltins "tuple" = some (.type "tuple") := by decide +kernel
theorem bt_dict : bootBuiltins "dict" = some (.type "dict") := by decide +kernel
theorem bt_len : bootBuiltins "len" = some (.builtin "len") := by decide +kernel
theorem bt_abs : bootBuiltins "abs" = some (.builtin "abs") := by decide +kernel
theorem bt_min : bootBuiltins "min" = some (.builtin "min") := by decide +kernel
theorem bt_max : bootBuiltins "max" = some (.builtin "max") := by decide +kernel
theorem bt_all : bootBuiltins "all" = some (.builtin "all") := by decide +kernel
theorem bt_isinstance : bootBuiltins "isinstance" = some (.builtin "isinstance") := by decide +kernel
/-- the builtins' names that the text uses and does not bind -/
def NB : List Str := ["int", "str", "bool", "list", "tuple", "dict", "len", "abs", "min", "max", "all", "isinstance", "range", "enumerate", "sum", "any", "sorted", "zip", "reversed", "repr"]
def BlOk (mg : Str → Option Value) (ns : List Str) : Prop := ∀ x ∈ ns, mg x = none
theorem BlOk.get {mg : Str → Option Value} {ns : List Str} (h : BlOk mg ns) (x : Str) (hx : x ∈ ns := by decide) : mg x = none := h x hx
/-- the text by places -/
def atTop (p : Program) (i : Nat) : Stmt := p.main.body.getD i (.Pass ⟨0, 0, 0, 0⟩)
end L3

set_option maxHeartbeats 4000000
namespace L3
open PySem PySem.Spec PyProof.Rows L2
/-- a def's worth: its own body's run (what it made and no one holds is dropped) -/
def runG (B : SF) (N : List Str) (n : Nat) : GL := fun xs L => if xs.length = n then
    (match B (startD N xs) L with
      | some (.ret d L2) => some (if d.noRef = true ∧ L2.take L.length = L then (d, L) else (d, L2))
      | some (.next _ L2) => some (if L2.take L.length = L then (.non, L) else (.non, L2))
      | _ => none)
  else none
theorem pre_of_take {L L2 : Sto} (h : L2.take L.length = L) : L <+: L2 := ⟨L2.drop L.length, by have := List.take_append_drop L.length L2; rw [h] at this; exact this⟩
theorem runG_runs {B : SF} {N : List Str} {n : Nat} {xs : List D} {L : Sto} {d : D} {L' : Sto} (h : runG B N n xs L = some (d, L')) : Runs B N xs L d L' := by
  unfold runG at h
  split at h
  · split at h
    · rename_i d2 L2 e
      split at h
      · rename_i c
        cases h
        exact ⟨L2, .inl e, .inr ⟨rfl, pre_of_take c.2, c.1⟩⟩
      · cases h
        exact ⟨_, .inl e, .inl rfl⟩
    · rename_i ρ L2 e
      split at h
      · rename_i c
        cases h
        exact ⟨L2, .inr ⟨rfl, ρ, e⟩, .inr ⟨rfl, pre_of_take c, rfl⟩⟩
      · cases h
        exact ⟨_, .inr ⟨rfl, ρ, e⟩, .inl rfl⟩
    · cases h
  · cases h
/-- as one uses it -/
theorem runG_pure {B : SF} {N : List Str} {n : Nat} {xs : List D} {L M : Sto} {d : D} (hn : xs.length = n) (h : B (startD N xs) L = some (.ret d (L ++ M))) (hd : d.noRef = true) : runG B N n xs L = some (d, L) := by
  unfold runG
  rw [if_pos hn, h]
  simp [hd]
theorem runG_pure0 {B : SF} {N : List Str} {n : Nat} {xs : List D} {L : Sto} {d : D} (hn : xs.length = n) (h : B (startD N xs) L = some (.ret d L)) : runG B N n xs L = some (d, L) := by
  unfold runG
  rw [if_pos hn, h]
  simp
theorem runG_ret {B : SF} {N : List Str} {n : Nat} {xs : List D} {L L2 : Sto} {d : D} (hn : xs.length = n) (h : B (startD N xs) L = some (.ret d L2)) (hd : d.noRef = false) : runG B N n xs L = some (d, L2) := by
  unfold runG
  rw [if_pos hn, h]
  simp [hd]
theorem runG_len {B : SF} {N : List Str} {n : Nat} {xs : List D} {L : Sto} {r : D × Sto} (h : runG B N n xs L = some r) : xs.length = n := by
  unfold runG at h
  split at h
  · assumption
  · cases h
section
variable {P : Program} {w : World} {K : PySem.W.Frag} {mg : Str → Option Value} {base : Heap}
theorem fnd_of {x qual : Str} {st : Stmt} {f : Addr} {fd : FuncData} {N ps : List Str} {k : Nat} {B : SF} (Fn : Fun K x qual st f fd) (S : FnScope N ps (defScope st))
    (hb : ∀ (cdv : Value) (A : Around) (outer : List Env) (s : Shared) (H : Hp) (E : XK), Room k (A.deeper (envOfC qual (defScope st) s.heap.objs.size f cdv)) →
      PSsf (cxOf CX0 P w K mg base N qual (defScope st) f cdv A outer s H E).nox (defBody st) B)
    (bi : Binds K fd ps []) (m : mg x = some (.ref f)) (kp : PySem.W.keepIn K (.ref f) = true) : FnD P w K mg base (k + 1) x (runG B N ps.length) :=
  ⟨f, fd, ps, fn_f Fn S _ B (fun _ _ _ h => runG_len h) hb (fun _ _ _ _ h => runG_runs h), m, kp, bi⟩
theorem gcon_int {x : Str} {i : Int} {t : Tok} (h : mg x = some (.int i t)) : GCon K mg x (.int i) := ⟨.int i, _, h, ⟨t, rfl⟩, fun _ _ => .int i⟩
theorem gcon_str {x y : Str} {t : Tok} (h : mg x = some (.str y t)) (hz : y.length ≤ 16777216) : GCon K mg x (.str y) := ⟨.str y, _, h, ⟨t, rfl⟩, fun _ _ => .str y hz⟩
/-- a tuple of the module, its items by value -/
structure TupK (K : PySem.W.Frag) (u : Value) (d : D) : Prop where
  ex : ∃ v, RelV v u ∧ ∀ H O, Is K H O v d
theorem tupk_int {i : Int} {t : Tok} : TupK K (.int i t) (.int i) := ⟨.int i, ⟨t, rfl⟩, fun _ _ => .int i⟩
theorem tupk_str {x : Str} {t : Tok} (h : x.length ≤ 16777216) : TupK K (.str x t) (.str x) := ⟨.str x, ⟨t, rfl⟩, fun _ _ => .str x h⟩
theorem tupk_non : TupK K .none .non := ⟨.non, rfl, fun _ _ => .non⟩
theorem tupk_bl {b : Bool} : TupK K (.bool b) (.bl b) := ⟨.bl b, rfl, fun _ _ => .bl b⟩
inductive TupsK (K : PySem.W.Frag) : List Value → List D → Prop
  | nil : TupsK K [] []
  | cons {u : Value} {d : D} {us : List Value} {ds : List D} : TupK K u d → TupsK K us ds → TupsK K (u :: us) (d :: ds)
theorem TupsK.get : ∀ {us : List Value} {ds : List D}, TupsK K us ds → ∃ vs, Vals vs us ∧ ∀ H O, IsL K H O vs ds
  | _, _, .nil => ⟨[], .nil, fun _ _ => .nil⟩
  | _, _, .cons a b => by
    obtain ⟨v, r, i⟩ := a.ex
    obtain ⟨vs, rs, is⟩ := b.get
    exact ⟨v :: vs, .cons r rs, fun H O => .cons (i H O) (is H O)⟩
theorem tupk_tup {a : Addr} {od : Option Addr} {its : List Value} {n : Nat} {sl : Array (Option Value)} {ds : List D} (l : K.lookup a = some ⟨.type "tuple", od, .seq its.toArray n, sl⟩) (hz : its.length ≤ sizeLine) (t : TupsK K its ds) : TupK K (.ref a) (.tup ds) := by
  obtain ⟨vs, rv, is⟩ := t.get
  exact ⟨.ref a, rfl, fun H O => .tup (.inr ⟨_, its.toArray, n, l, rfl, rfl, by simpa using hz, by simpa using rv⟩) (is H O)⟩
theorem tupk_fz {a : Addr} {its : List Value} {n : Nat} {sl : Array (Option Value)} {ds : List D} (l : K.lookup a = some ⟨.type "list", none, .seq its.toArray n, sl⟩) (hz : its.length ≤ sizeLine) (t : TupsK K its ds) : TupK K (.ref a) (.fz ds) := by
  obtain ⟨vs, rv, is⟩ := t.get
  exact ⟨.ref a, rfl, fun H O => .fz (.inr ⟨_, its.toArray, n, l, rfl, rfl, rfl, by simpa using hz, by simpa using rv⟩) (is H O)⟩
theorem gcon_of {x : Str} {u : Value} {d : D} (m : mg x = some u) (t : TupK K u d) : GCon K mg x d := by
  obtain ⟨v, r, i⟩ := t.ex
  exact ⟨v, u, m, r, i⟩
end
end L3

set_option maxHeartbeats 4000000
namespace L3
open PySem PySem.Spec PyProof.Rows L2
/-! == at any depth -/
def shp (x : D) (L : Sto) : Option (Bool × List D) := match x with
  | .tup xs => some (true, xs)
  | .fz xs => some (false, xs)
  | .ref k => (match L[k]? with | some (.lst xs) => some (false, xs) | _ => none)
  | _ => none
def allO : List (Option Bool) → Option Bool
  | [] => some true
  | none :: _ => none
  | some b :: r => (allO r).map (b && ·)
def eqN : Nat → Sto → D → D → Option Bool
  | 0, _, _, _ => none
  | n + 1, L, x, y =>
    if flatD x = true then (if flatD y = true then some (eqP x y) else (shp y L).map fun _ => false)
    else (shp x L).bind fun p => if flatD y = true then some false else (shp y L).bind fun q =>
      if p.1 = q.1 then (allO ((p.2.zip q.2).map fun z => eqN n L z.1 z.2)).map (· && p.2.length == q.2.length) else some false
theorem eqN_succ (n : Nat) (L : Sto) (x y : D) : eqN (n + 1) L x y = if flatD x = true then (if flatD y = true then some (eqP x y) else (shp y L).map fun _ => false)
    else (shp x L).bind fun p => if flatD y = true then some false else (shp y L).bind fun q =>
      if p.1 = q.1 then (allO ((p.2.zip q.2).map fun z => eqN n L z.1 z.2)).map (· && p.2.length == q.2.length) else some false := rfl
theorem allO_get : ∀ {os : List (Option Bool)} {b : Bool}, allO os = some b → ∃ bs : List Bool, os = bs.map some ∧ b = bs.all id
  | [], b, h => by cases h; exact ⟨[], rfl, rfl⟩
  | none :: _, b, h => by cases h
  | some c :: r, b, h => by
    simp only [allO] at h
    cases e : allO r with
    | none => rw [e] at h; cases h
    | some d =>
      rw [e] at h
      cases h
      obtain ⟨bs, e1, e2⟩ := allO_get e
      exact ⟨c :: bs, by rw [e1]; rfl, by rw [e2]; rfl⟩
section
variable {X : Cx} {pins : List (Addr × Obj)} {σ : L2.St} {H : Hp} {s : Shared} {O : List Addr} {L : Sto}
/-- the heap's word of what a shape says -/
theorem shp_is (I : Inv X pins σ H s) (rs : RepS X.K H O L) {v : V} {x : D} {t : Bool} {xs : List D} (i : Is X.K H O v x) (e : shp x L = some (t, xs)) :
    ∃ (a : Addr) (vs : List V) (its : List Value), v = .ref a ∧ IsL X.K H O vs xs ∧ Vals vs its ∧ (if t = true then s.heap.IsTuple a its.toArray else s.heap.IsList a its.toArray) := by
  cases i with
  | tup h il =>
    cases e
    obtain ⟨its, r, hp, _⟩ := I.tuple h
    exact ⟨_, _, its, rfl, il, r, hp⟩
  | fz h il =>
    cases e
    obtain ⟨its, r, hp, _⟩ := I.list h.sql
    exact ⟨_, _, its, rfl, il, r, hp.isList⟩
  | ref hk =>
    simp only [shp] at e
    split at e
    · rename_i ys e2
      cases e
      obtain ⟨vs, hv, iv⟩ := rs.ob _ _ _ hk e2
      obtain ⟨its, r, hp, _⟩ := I.list (SqL.of hv)
      exact ⟨_, vs, its, rfl, iv, r, hp.isList⟩
    · cases e
  | _ => cases e
theorem seq_inj {a : Addr} {us ws : List Value} {t : Bool} (h1 : if t = true then s.heap.IsTuple a us.toArray else s.heap.IsList a us.toArray) (h2 : if t = true then s.heap.IsTuple a ws.toArray else s.heap.IsList a ws.toArray) : us = ws := by
  have q : us.toArray = ws.toArray := by
    cases t
    · obtain ⟨o, ho, hc, n, hd⟩ := h1
      obtain ⟨o2, ho2, hc2, n2, hd2⟩ := h2
      rw [ho] at ho2; cases ho2
      rw [hd] at hd2; cases hd2; rfl
    · obtain ⟨o, ho, hc, n, hd⟩ := h1
      obtain ⟨o2, ho2, hc2, n2, hd2⟩ := h2
      rw [ho] at ho2; cases ho2
      rw [hd] at hd2; cases hd2; rfl
  simpa using congrArg Array.toList q
theorem flat_ne_ref {v : V} {x : D} {a : Addr} (i : Is X.K H O v x) (f : flatD x = true) : v ≠ .ref a := by
  cases i <;> first | (intro z; cases z; done) | (simp [flatD] at f)
theorem eqP_self {x : D} (f : flatD x = true) : eqP x x = true := by
  cases x <;> simp [flatD] at f <;> simp [eqP, toV, eqV]
/-- the same value: equal -/
theorem eqN_same (I : Inv X pins σ H s) (rs : RepS X.K H O L) : ∀ (n : Nat) {v : V} {x y : D} {b : Bool}, Is X.K H O v x → Is X.K H O v y → eqN n L x y = some b → b = true
  | 0, _, _, _, _, _, _, e => by cases e
  | n + 1, v, x, y, b, ix, iy, e => by
    simp only [eqN] at e
    by_cases fx : flatD x = true
    · rw [if_pos fx] at e
      by_cases fy : flatD y = true
      · rw [if_pos fy] at e
        cases e
        have : x = y := (toV_inj fx fy).mp ((flat_toV ix fx).symm.trans (flat_toV iy fy))
        subst this
        exact eqP_self fx
      · rw [if_neg fy] at e
        cases hy : shp y L with
        | none => rw [hy] at e; cases e
        | some q =>
          obtain ⟨a, _, _, hv, _⟩ := shp_is I rs iy hy
          exact absurd hv (flat_ne_ref ix fx)
    · rw [if_neg fx] at e
      cases hx : shp x L with
      | none => rw [hx] at e; cases e
      | some p =>
        rw [hx] at e
        simp only [Option.bind_some] at e
        obtain ⟨a, vs, its, hv, il, r, hp⟩ := shp_is I rs ix hx
        by_cases fy : flatD y = true
        · exact absurd hv (flat_ne_ref iy fy)
        · rw [if_neg fy] at e
          cases hy : shp y L with
          | none => rw [hy] at e; cases e
          | some q =>
            rw [hy] at e
            simp only [Option.bind_some] at e
            obtain ⟨a', vs', its', hv', il', r', hp'⟩ := shp_is I rs iy hy
            rw [hv] at hv'
            cases hv'
            obtain ⟨t, xs⟩ := p
            obtain ⟨t', ys⟩ := q
            simp only at e hp hp' il il'
            by_cases ht : t = t'
            · subst ht
              rw [if_pos rfl] at e
              have hits := seq_inj hp hp'
              subst hits
              have hvs := r.inj r'
              subst hvs
              cases q : allO ((xs.zip ys).map fun z => eqN n L z.1 z.2) with
              | none => rw [q] at e; cases e
              | some c =>
                rw [q] at e
                cases e
                obtain ⟨bs, e1, rfl⟩ := allO_get q
                rw [Bool.and_eq_true]
                refine ⟨?_, beq_iff_eq.mpr (il.length.symm.trans il'.length)⟩
                rw [List.all_eq_true]
                intro c hc
                obtain ⟨j, hj, rfl⟩ := List.getElem_of_mem hc
                have e2 : ((xs.zip ys).map fun z => eqN n L z.1 z.2)[j]? = some (some bs[j]) := by rw [e1]; simp [hj]
                rw [List.getElem?_map] at e2
                cases e3 : (xs.zip ys)[j]? with
                | none => rw [e3] at e2; cases e2
                | some z =>
                  rw [e3] at e2
                  simp only [Option.map_some, Option.some.injEq] at e2
                  rw [List.getElem?_zip_eq_some] at e3
                  obtain ⟨v1, h1, i1⟩ := il.get e3.1
                  obtain ⟨v2, h2, i2⟩ := il'.get e3.2
                  rw [h1] at h2; cases h2
                  exact eqN_same I rs n i1 i2 e2
            · exfalso
              cases t <;> cases t' <;> first | exact ht rfl | skip
              · exact SeqAt.ne_of_list_tuple hp hp' rfl
              · exact SeqAt.ne_of_list_tuple hp' hp rfl
theorem flat_seq_eqAt {A : Around} {v u : V} {a : Addr} {w w' : Value} {its : List Value} {t : Bool} (hu : A.units < cLine) (f : flatV v = true) (rv : RelV v w) (hp : if t = true then s.heap.IsTuple a its.toArray else s.heap.IsList a its.toArray) :
    SeqAt.EqAt A s w (.ref a) false ∧ SeqAt.EqAt A s (.ref a) w false := by
  cases v with
  | non => cases rv; cases t; exact ⟨.none_list hp hu, .list_none hp hu⟩; exact ⟨.none_tuple hp hu, .tuple_none hp hu⟩
  | bl b => cases rv; cases t; exact ⟨.bool_list b hp hu, .list_bool b hp hu⟩; exact ⟨.bool_tuple b hp hu, .tuple_bool b hp hu⟩
  | int b => obtain ⟨k, rfl⟩ := rv; cases t; exact ⟨.int_list b k hp hu, .list_int b k hp hu⟩; exact ⟨.int_tuple b k hp hu, .tuple_int b k hp hu⟩
  | str b => obtain ⟨k, rfl⟩ := rv; cases t; exact ⟨.str_list b k hp hu, .list_str b k hp hu⟩; exact ⟨.str_tuple b k hp hu, .tuple_str b k hp hu⟩
  | _ => cases f
theorem all_range (bs : List Bool) : (List.range bs.length).all (fun j => bs.getD j false) = bs.all id := by
  rw [Bool.eq_iff_iff, List.all_eq_true, List.all_eq_true]
  constructor
  · intro h c hc
    obtain ⟨j, hj, rfl⟩ := List.getElem_of_mem hc
    have := h j (List.mem_range.mpr hj)
    simpa [hj] using this
  · intro h j hj
    have hj' := List.mem_range.mp hj
    have := h bs[j] (List.getElem_mem hj')
    simpa [hj'] using this
/-- pairs of items: each pair's word -/
theorem pairs_eqAt {A : Around} {xs ys : List D} {vs ws : List V} {us zs : List Value} {n : Nat} {bs : List Bool} (ix : IsL X.K H O vs xs) (iy : IsL X.K H O ws ys) (rx : Vals vs us) (ry : Vals ws zs)
    (e1 : (xs.zip ys).map (fun z => eqN n L z.1 z.2) = bs.map some)
    (rec : ∀ {v w : V} {x y : D} {u z : Value} {b : Bool}, Is X.K H O v x → Is X.K H O w y → RelV v u → RelV w z → eqN n L x y = some b → SeqAt.EqAt A s u z b) :
    ∀ j (h1 : j < us.toArray.size) (h2 : j < zs.toArray.size), SeqAt.EqAt A s us.toArray[j] zs.toArray[j] (bs.getD j false) := by
  intro j h1 h2
  have h1' : j < us.length := by simpa using h1
  have h2' : j < zs.length := by simpa using h2
  have hx : j < xs.length := by rw [← ix.length, rx.length]; exact h1'
  have hy : j < ys.length := by rw [← iy.length, ry.length]; exact h2'
  obtain ⟨v, hv, iv⟩ := ix.get (i := j) (d := xs[j]) (by simp [hx])
  obtain ⟨w, hw, iw⟩ := iy.get (i := j) (d := ys[j]) (by simp [hy])
  obtain ⟨u, hu, ru⟩ := rx.get hv
  obtain ⟨z, hz, rz⟩ := ry.get hw
  have eu : us.toArray[j] = u := by
    have := List.getElem?_eq_some_iff.mp hu
    obtain ⟨_, q⟩ := this; simpa using q
  have ez : zs.toArray[j] = z := by
    have := List.getElem?_eq_some_iff.mp hz
    obtain ⟨_, q⟩ := this; simpa using q
  rw [eu, ez]
  have hb : j < bs.length := by
    have := congrArg List.length e1
    simp at this
    omega
  have e2 : ((xs.zip ys).map fun z => eqN n L z.1 z.2)[j]? = some (some bs[j]) := by rw [e1]; simp [hb]
  have e3 : (xs.zip ys)[j]? = some (xs[j], ys[j]) := by rw [List.getElem?_zip_eq_some]; exact ⟨by simp [hx], by simp [hy]⟩
  rw [List.getElem?_map, e3] at e2
  simp only [Option.map_some, Option.some.injEq] at e2
  have e4 : bs.getD j false = bs[j] := by simp [hb]
  rw [e4]
  exact rec iv iw ru rz e2
theorem seq_rcAt {A : Around} {a c : Addr} {xs ys : List D} {vs ws : List V} {us zs : List Value} {n : Nat} {t b : Bool} (hu : A.units < cLine) (ix : IsL X.K H O vs xs) (iy : IsL X.K H O ws ys) (rx : Vals vs us) (ry : Vals ws zs)
    (hp : if t = true then s.heap.IsTuple a us.toArray else s.heap.IsList a us.toArray) (hq : if t = true then s.heap.IsTuple c zs.toArray else s.heap.IsList c zs.toArray)
    (e : (allO ((xs.zip ys).map fun z => eqN n L z.1 z.2)).map (· && xs.length == ys.length) = some b)
    (rec : ∀ {v w : V} {x y : D} {u z : Value} {b : Bool}, Is X.K H O v x → Is X.K H O w y → RelV v u → RelV w z → eqN n L x y = some b → SeqAt.EqAt A.in1 s u z b) :
    SeqAt.RcAt A s (.ref a) (.ref c) b ∧ SeqAt.RcNeAt A s (.ref a) (.ref c) (!b) := by
  cases q : allO ((xs.zip ys).map fun z => eqN n L z.1 z.2) with
  | none => rw [q] at e; cases e
  | some k =>
    rw [q] at e
    cases e
    obtain ⟨bs, e1, rfl⟩ := allO_get q
    have he := pairs_eqAt ix iy rx ry e1 rec
    have lx : us.toArray.size = xs.length := by simp [← rx.length, ix.length]
    have ly : zs.toArray.size = ys.length := by simp [← ry.length, iy.length]
    have lb : bs.length = min xs.length ys.length := by
      have := congrArg List.length e1
      simpa using this.symm
    cases t
    · by_cases hl : xs.length = ys.length
      · have h1 := SeqAt.RcAt.lists hp hq (by omega) hu he
        have h2 := SeqAt.RcNeAt.lists hp hq (by omega) hu he
        rw [show us.toArray.size = bs.length by omega, all_range] at h1 h2
        have : (xs.length == ys.length) = true := beq_iff_eq.mpr hl
        rw [this]
        simp only [Bool.and_true]
        exact ⟨h1, h2⟩
      · have : (xs.length == ys.length) = false := by simpa using hl
        rw [this]
        simp only [Bool.and_false]
        have hne : (us.toArray.size != zs.toArray.size) = true := by rw [lx, ly]; simpa using hl
        exact ⟨SeqAt.RcAt.lists_lengths hp hq hne hu, SeqAt.RcNeAt.lists_lengths hp hq hne hu⟩
    · have h1 := SeqAt.RcAt.tuples hp hq hu he
      have h2 := SeqAt.RcNeAt.tuples hp hq hu he
      rw [lx, ly, ← lb, all_range] at h1 h2
      exact ⟨h1, h2⟩
theorem eqN_eqAt (I : Inv X pins σ H s) (rs : RepS X.K H O L) : ∀ (n : Nat) {A : Around} {v w : V} {x y : D} {u z : Value} {b : Bool}, A.units + n < cLine → Is X.K H O v x → Is X.K H O w y → RelV v u → RelV w z → eqN n L x y = some b → SeqAt.EqAt A s u z b
  | 0, _, _, _, _, _, _, _, _, _, _, _, _, _, e => by cases e
  | n + 1, A, v, w, x, y, u, z, b, hu, ix, iy, ru, rz, e => by
    have e0 := e
    simp only [eqN] at e
    by_cases fx : flatD x = true
    · rw [if_pos fx] at e
      by_cases fy : flatD y = true
      · rw [if_pos fy] at e
        cases e
        have h1 := flat_toV ix fx
        have h2 := flat_toV iy fy
        subst h1 h2
        exact eqAt_V ru rz (flatV_toV fx) (flatV_toV fy)
      · rw [if_neg fy] at e
        cases hy : shp y L with
        | none => rw [hy] at e; cases e
        | some q =>
          rw [hy] at e
          cases e
          obtain ⟨a, _, its, rfl, _, _, hp⟩ := shp_is I rs iy hy
          cases rz
          have h1 := flat_toV ix fx
          subst h1
          exact (flat_seq_eqAt (u := .non) (w' := .none) (by omega) (flatV_toV fx) ru hp).1
    · rw [if_neg fx] at e
      cases hx : shp x L with
      | none => rw [hx] at e; cases e
      | some p =>
        rw [hx] at e
        simp only [Option.bind_some] at e
        obtain ⟨a, vs, its, rfl, il, r, hp⟩ := shp_is I rs ix hx
        cases ru
        by_cases fy : flatD y = true
        · rw [if_pos fy] at e
          cases e
          have h1 := flat_toV iy fy
          subst h1
          exact (flat_seq_eqAt (u := .non) (w' := .none) (by omega) (flatV_toV fy) rz hp).2
        · rw [if_neg fy] at e
          cases hy : shp y L with
          | none => rw [hy] at e; cases e
          | some q =>
            rw [hy] at e
            simp only [Option.bind_some] at e
            obtain ⟨c, ws, zs, rfl, il', r', hp'⟩ := shp_is I rs iy hy
            cases rz
            obtain ⟨t, xs⟩ := p
            obtain ⟨t', ys⟩ := q
            simp only at e hp hp' il il'
            by_cases ht : t = t'
            · subst ht
              rw [if_pos rfl] at e
              by_cases hac : a = c
              · subst hac
                have := eqN_same I rs (n + 1) ix iy e0
                subst this
                exact .same _
              · refine .of_refs hac (seq_rcAt (by omega) il il' r r' hp hp' e fun a1 a2 a3 a4 a5 => eqN_eqAt I rs n ?_ a1 a2 a3 a4 a5).1
                rw [Around.in1_units]; omega
            · rw [if_neg ht] at e
              cases e
              cases t <;> cases t' <;> first | exact absurd rfl ht | skip
              · exact .list_tuple hp hp' (by omega)
              · exact .tuple_list hp hp' (by omega)
end
/-! == and != as operations -/
def seqD (x : D) (L : Sto) : Bool := (shp x L).isSome
def gEqD : G2 := fun x y L => if scalD x y = true then some (.bl (decide (x = y)), L) else if (seqD x L && seqD y L) = true then (eqN 30 L x y).map fun b => (.bl b, L) else none
def gNeD : G2 := fun x y L => if scalD x y = true then some (.bl (!decide (x = y)), L) else if (seqD x L && seqD y L) = true then (match shp x L, shp y L with
    | some (t, _), some (t', _) => if t = t' then (eqN 30 L x y).map fun b => (.bl (!b), L) else none
    | _, _ => none) else none
section
variable {X : Cx}
theorem shp_flat {x : D} {L : Sto} {p : Bool × List D} (h : shp x L = some p) : flatD x = false := by cases x <;> first | rfl | (simp [shp] at h)
theorem eq_deep (hu : X.A.units + 64 < cLine) : OpR X (compareOp .Eq) (fun v u H Q => ∃ O L x y b, RepS X.K H O L ∧ Is X.K H O v x ∧ Is X.K H O u y ∧ seqD x L = true ∧ seqD y L = true ∧ eqN 30 L x y = some b ∧ Q (.bl b) H) := by
  intro pins s σ H v u w z Q I rv ru h
  obtain ⟨O, L, x, y, b, rs, ix, iy, sx, sy, e, q⟩ := h
  unfold seqD at sx sy
  obtain ⟨⟨t, xs⟩, hx⟩ := Option.isSome_iff_exists.mp sx
  obtain ⟨⟨t', ys⟩, hy⟩ := Option.isSome_iff_exists.mp sy
  have fx := shp_flat hx
  have fy := shp_flat hy
  rw [show (30 : Nat) = 29 + 1 from rfl, eqN_succ, if_neg (by rw [fx]; exact Bool.false_ne_true), hx, Option.bind_some, if_neg (by rw [fy]; exact Bool.false_ne_true), hy, Option.bind_some] at e
  obtain ⟨a, vs, its, rfl, il, r, hp⟩ := shp_is I rs ix hx
  obtain ⟨c, ws, zs, rfl, il', r', hp'⟩ := shp_is I rs iy hy
  cases rv
  cases ru
  simp only at e
  by_cases ht : t = t'
  · subst ht
    rw [if_pos rfl] at e
    exact (seq_rcAt (by omega) il il' r r' hp hp' e fun a1 a2 a3 a4 a5 => eqN_eqAt I rs 29 (by rw [Around.in1_units]; omega) a1 a2 a3 a4 a5).1 _ _ _ _ ⟨.bl b, H, I, rfl, q⟩
  · rw [if_neg ht] at e
    cases e
    cases t <;> cases t' <;> first | exact absurd rfl ht | skip
    · exact SeqAt.RcAt.list_tuple hp hp' (by omega) _ _ _ _ ⟨.bl _, H, I, rfl, q⟩
    · exact SeqAt.RcAt.tuple_list hp hp' (by omega) _ _ _ _ ⟨.bl _, H, I, rfl, q⟩
theorem ne_deep (hu : X.A.units + 64 < cLine) : OpR X (compareOp .NotEq) (fun v u H Q => ∃ O L x y b t xs ys, RepS X.K H O L ∧ Is X.K H O v x ∧ Is X.K H O u y ∧ shp x L = some (t, xs) ∧ shp y L = some (t, ys) ∧ eqN 30 L x y = some b ∧ Q (.bl (!b)) H) := by
  intro pins s σ H v u w z Q I rv ru h
  obtain ⟨O, L, x, y, b, t, xs, ys, rs, ix, iy, hx, hy, e, q⟩ := h
  have fx := shp_flat hx
  have fy := shp_flat hy
  rw [show (30 : Nat) = 29 + 1 from rfl, eqN_succ, if_neg (by rw [fx]; exact Bool.false_ne_true), hx, Option.bind_some, if_neg (by rw [fy]; exact Bool.false_ne_true), hy, Option.bind_some] at e
  obtain ⟨a, vs, its, rfl, il, r, hp⟩ := shp_is I rs ix hx
  obtain ⟨c, ws, zs, rfl, il', r', hp'⟩ := shp_is I rs iy hy
  cases rv
  cases ru
  rw [if_pos rfl] at e
  exact (seq_rcAt (by omega) il il' r r' hp hp' e fun a1 a2 a3 a4 a5 => eqN_eqAt I rs 29 (by rw [Around.in1_units]; omega) a1 a2 a3 a4 a5).2 _ _ _ _ ⟨.bl _, H, I, rfl, q⟩
theorem od_eqD (hu : X.A.units + 64 < cLine) : OpD X (compareOp .Eq) gEqD := OpR.weaken (OpR.or op_eq (eq_deep hu)) fun v u H Q ⟨O, L, x, y, d, L', rs, ix, iy, e, k⟩ => by
  unfold gEqD at e
  split at e
  · rename_i hs
    cases e
    have hs' := hs
    simp only [scalD, Bool.and_eq_true] at hs
    have h1 := flat_toV ix hs.1.1
    have h2 := flat_toV iy hs.1.2
    subst h1 h2
    refine .inl ⟨hs.2, ?_⟩
    have := k (.bl (decide (x = y))) _ _ (.refl _ _) rs (.bl _)
    have e : decide (toV x = toV y) = decide (x = y) := by
      by_cases h : x = y
      · rw [decide_eq_true h, decide_eq_true ((toV_inj hs.1.1 hs.1.2).mpr h)]
      · rw [decide_eq_false h, decide_eq_false (fun z => h ((toV_inj hs.1.1 hs.1.2).mp z))]
    rw [e]; exact this
  · split at e
    · rename_i hq
      rw [Bool.and_eq_true] at hq
      cases q : eqN 30 L x y with
      | none => rw [q] at e; cases e
      | some b =>
        rw [q] at e
        cases e
        exact .inr ⟨O, L, x, y, b, rs, ix, iy, hq.1, hq.2, q, k _ _ _ (.refl _ _) rs (.bl _)⟩
    · cases e
theorem od_neD (hu : X.A.units + 64 < cLine) : OpD X (compareOp .NotEq) gNeD := OpR.weaken (OpR.or op_ne (ne_deep hu)) fun v u H Q ⟨O, L, x, y, d, L', rs, ix, iy, e, k⟩ => by
  unfold gNeD at e
  split at e
  · rename_i hs
    cases e
    simp only [scalD, Bool.and_eq_true] at hs
    have h1 := flat_toV ix hs.1.1
    have h2 := flat_toV iy hs.1.2
    subst h1 h2
    refine .inl ⟨hs.2, ?_⟩
    have := k (.bl (!decide (x = y))) _ _ (.refl _ _) rs (.bl _)
    have e : decide (toV x = toV y) = decide (x = y) := by
      by_cases h : x = y
      · rw [decide_eq_true h, decide_eq_true ((toV_inj hs.1.1 hs.1.2).mpr h)]
      · rw [decide_eq_false h, decide_eq_false (fun z => h ((toV_inj hs.1.1 hs.1.2).mp z))]
    rw [e]; exact this
  · split at e
    · split at e
      · rename_i t xs t' ys hx hy
        split at e
        · rename_i ht
          subst ht
          cases q : eqN 30 L x y with
          | none => rw [q] at e; cases e
          | some b =>
            rw [q] at e
            cases e
            exact .inr ⟨O, L, x, y, b, t, xs, ys, rs, ix, iy, hx, hy, q, k _ _ _ (.refl _ _) rs (.bl _)⟩
        · cases e
      · cases e
    · cases e
end
end L3

set_option maxHeartbeats 4000000
namespace L3
open PySem PySem.Spec PyProof.Rows L2

/-! what holds behind a run, in the order of the run -/
def W2 {α : Type} (o : Option (α × Sto)) (Q : α → Sto → Prop) : Prop := ∃ a L, o = some (a, L) ∧ Q a L
def W1 {α : Type} (o : Option α) (Q : α → Prop) : Prop := ∃ a, o = some a ∧ Q a
def WI (o : Option (ItD × Sto)) (Q : List D → (Sto → Bool) → Sto → Prop) : Prop := ∃ a k L, o = some (⟨a, k⟩, L) ∧ Q a k L
structure EndP where
  nx : Fm → Sto → Prop
  rt : D → Sto → Prop
  bk : Fm → Sto → Prop
  ct : Fm → Sto → Prop
def EndP.of (E : EndP) : Out → Prop
  | .next ρ L => E.nx ρ L
  | .ret d L => E.rt d L
  | .brk ρ L => E.bk ρ L
  | .cont ρ L => E.ct ρ L
def WS (o : Option Out) (nx : Fm → Sto → Prop) (rt : D → Sto → Prop) (bk ct : Fm → Sto → Prop) : Prop := ∃ x, o = some x ∧ EndP.of ⟨nx, rt, bk, ct⟩ x
def Br (b : Bool) (p q : Prop) : Prop := if b = true then p else q
def IsB (d : D) (Q : Bool → Prop) : Prop := ∃ b, d = .bl b ∧ Q b
def IsI (d : D) (Q : Int → Prop) : Prop := ∃ b, d = .int b ∧ Q b
def Le16 (n : Nat) (p : Prop) : Prop := n ≤ 16777216 ∧ p
def TyIs (T : String) (x : D) (L : Sto) (p : Prop) : Prop := tyD T x L = true ∧ p

section
variable {α β : Type} {ρ : Fm} {L : Sto} {p q : Prop} {b : Bool} {c : Prop}
theorem br_t (h : p) : Br true p q := h
theorem br_f (h : q) : Br false p q := h
theorem br_not (h : Br b q p) : Br (!b) p q := by cases b <;> exact h
theorem br_dec [Decidable c] (h1 : c → p) (h2 : ¬ c → q) : Br (decide c) p q := by
  by_cases h : c
  · rw [decide_eq_true h]; exact h1 h
  · rw [decide_eq_false h]; exact h2 h
theorem br_decT [Decidable c] (h : c) (h1 : p) : Br (decide c) p q := br_dec (fun _ => h1) (fun n => absurd h n)
theorem br_decF [Decidable c] (h : ¬ c) (h1 : q) : Br (decide c) p q := br_dec (fun n => absurd n h) (fun _ => h1)
theorem br_on (e : b = true) (h : p) : Br b p q := by rw [e]; exact h
theorem br_off (e : b = false) (h : q) : Br b p q := by rw [e]; exact h
theorem br_both (h1 : b = true → p) (h2 : b = false → q) : Br b p q := by
  cases b
  · exact h2 rfl
  · exact h1 rfl
theorem isB_mk {Q : Bool → Prop} (h : Q b) : IsB (.bl b) Q := ⟨_, rfl, h⟩
theorem isI_mk {i : Int} {Q : Int → Prop} (h : Q i) : IsI (.int i) Q := ⟨_, rfl, h⟩
theorem le16 {n : Nat} (h : n ≤ 16777216) (hp : p) : Le16 n p := ⟨h, hp⟩
theorem ty_str {z : Str} (h : p) : TyIs "str" (.str z) L p := ⟨rfl, h⟩
theorem ty_fz {z : List D} (h : p) : TyIs "list" (.fz z) L p := ⟨rfl, h⟩
theorem ty_lst {k : Nat} {xs : List D} (e : L[k]? = some (.lst xs)) (h : p) : TyIs "list" (.ref k) L p := ⟨by simp [tyD, e], h⟩
theorem ty_dk {k : Nat} {xs : List (Key × D)} (e : L[k]? = some (.dk xs)) (h : p) : TyIs "dict" (.ref k) L p := ⟨by simp [tyD, e], h⟩

theorem W2.mono {o : Option (α × Sto)} {Q Q' : α → Sto → Prop} (h : W2 o Q) (i : ∀ a L, Q a L → Q' a L) : W2 o Q' := let ⟨a, L, e, q⟩ := h; ⟨a, L, e, i a L q⟩
theorem W2.mk {o : Option (α × Sto)} {Q : α → Sto → Prop} {a : α} (e : o = some (a, L)) (h : Q a L) : W2 o Q := ⟨a, L, e, h⟩
theorem W2.get {o : Option (α × Sto)} {a : α} (h : W2 o fun a' L' => a' = a ∧ L' = L) : o = some (a, L) := by obtain ⟨a', L', e, rfl, rfl⟩ := h; exact e
theorem W1.mk {o : Option α} {Q : α → Prop} {a : α} (e : o = some a) (h : Q a) : W1 o Q := ⟨a, e, h⟩
theorem WS.mono {o : Option Out} {nx nx' : Fm → Sto → Prop} {rt rt' : D → Sto → Prop} {bk bk' ct ct' : Fm → Sto → Prop} (h : WS o nx rt bk ct) (i1 : ∀ a L, nx a L → nx' a L) (i2 : ∀ a L, rt a L → rt' a L) (i3 : ∀ a L, bk a L → bk' a L) (i4 : ∀ a L, ct a L → ct' a L) : WS o nx' rt' bk' ct' := by
  obtain ⟨x, e, h⟩ := h
  refine ⟨x, e, ?_⟩
  cases x
  · exact i1 _ _ h
  · exact i2 _ _ h
  · exact i3 _ _ h
  · exact i4 _ _ h

/-! expressions -/
section
variable {Q : D → Sto → Prop} {QT : Bool → Sto → Prop} {QA : List D → Sto → Prop} {QO : Option Int → Sto → Prop} {f g h : EF} {t u : TF} {a : AF}
theorem w_cst {d : D} (h : Q d L) : W2 (cst d ρ L) Q := ⟨d, L, rfl, h⟩
theorem w_var {i : Nat} {d : D} (e : ρ[i]? = some (some d)) (h : Q d L) : W2 (var i ρ L) Q := ⟨d, L, by unfold var; rw [e], h⟩
theorem w_bin {o : G2} (h : W2 (f ρ L) fun x L1 => W2 (g ρ L1) fun y L2 => W2 (o x y L2) Q) : W2 (bin2 o f g ρ L) Q := by
  obtain ⟨x, L1, e1, y, L2, e2, z, L3, e3, q⟩ := h
  exact ⟨z, L3, by unfold bin2; rw [e1, Option.bind_some, e2, Option.bind_some]; exact e3, q⟩
theorem w_un {o : G1} (h : W2 (f ρ L) fun x L1 => W2 (o x L1) Q) : W2 (un1 o f ρ L) Q := by
  obtain ⟨x, L1, e1, z, L3, e3, q⟩ := h
  exact ⟨z, L3, by unfold un1; rw [e1, Option.bind_some]; exact e3, q⟩
theorem w_asT (h : W2 (f ρ L) fun d L1 => IsB d fun b => QT b L1) : W2 (asT f ρ L) QT := by
  obtain ⟨x, L1, e1, b, rfl, q⟩ := h
  exact ⟨b, L1, by unfold asT; rw [e1]; rfl, q⟩
theorem w_notT (h : W2 (t ρ L) fun b L1 => QT (!b) L1) : W2 (notT t ρ L) QT := by
  obtain ⟨x, L1, e1, q⟩ := h
  exact ⟨_, L1, by unfold notT; rw [e1]; rfl, q⟩
theorem w_andT (h : W2 (t ρ L) fun b L1 => Br b (W2 (u ρ L1) QT) (QT false L1)) : W2 (andT t u ρ L) QT := by
  obtain ⟨x, L1, e1, q⟩ := h
  cases x
  · exact ⟨false, L1, by unfold andT; rw [e1]; rfl, q⟩
  · obtain ⟨y, L2, e2, q⟩ := q
    exact ⟨y, L2, by unfold andT; rw [e1]; exact e2, q⟩
theorem w_orT (h : W2 (t ρ L) fun b L1 => Br b (QT true L1) (W2 (u ρ L1) QT)) : W2 (orT t u ρ L) QT := by
  obtain ⟨x, L1, e1, q⟩ := h
  cases x
  · obtain ⟨y, L2, e2, q⟩ := q
    exact ⟨y, L2, by unfold orT; rw [e1]; exact e2, q⟩
  · exact ⟨true, L1, by unfold orT; rw [e1]; rfl, q⟩
theorem w_trueT (h : QT true L) : W2 (trueT ρ L) QT := ⟨_, _, rfl, h⟩
theorem w_andV (h : W2 (f ρ L) fun d L1 => IsB d fun b => Br b (W2 (g ρ L1) Q) (Q (.bl false) L1)) : W2 (andV f g ρ L) Q := by
  obtain ⟨x, L1, e1, b, rfl, q⟩ := h
  cases b
  · exact ⟨_, L1, by unfold andV; rw [e1]; rfl, q⟩
  · obtain ⟨y, L2, e2, q⟩ := q
    exact ⟨y, L2, by unfold andV; rw [e1]; exact e2, q⟩
theorem w_orV (h : W2 (f ρ L) fun d L1 => IsB d fun b => Br b (Q (.bl true) L1) (W2 (g ρ L1) Q)) : W2 (orV f g ρ L) Q := by
  obtain ⟨x, L1, e1, b, rfl, q⟩ := h
  cases b
  · obtain ⟨y, L2, e2, q⟩ := q
    exact ⟨y, L2, by unfold orV; rw [e1]; exact e2, q⟩
  · exact ⟨_, L1, by unfold orV; rw [e1]; rfl, q⟩
theorem w_notV (h : W2 (f ρ L) fun d L1 => IsB d fun b => Q (.bl (!b)) L1) : W2 (notV f ρ L) Q := by
  obtain ⟨x, L1, e1, b, rfl, q⟩ := h
  exact ⟨_, L1, by unfold notV; rw [e1]; rfl, q⟩
theorem w_ifV (h : W2 (t ρ L) fun b L1 => Br b (W2 (f ρ L1) Q) (W2 (g ρ L1) Q)) : W2 (ifV t f g ρ L) Q := by
  obtain ⟨x, L1, e1, q⟩ := h
  cases x
  · obtain ⟨y, L2, e2, q⟩ := q
    exact ⟨y, L2, by unfold ifV; rw [e1]; exact e2, q⟩
  · obtain ⟨y, L2, e2, q⟩ := q
    exact ⟨y, L2, by unfold ifV; rw [e1]; exact e2, q⟩
theorem w_nilA (h : QA [] L) : W2 (nilA ρ L) QA := ⟨_, _, rfl, h⟩
theorem w_consA (h : W2 (f ρ L) fun d L1 => W2 (a ρ L1) fun ds L2 => QA (d :: ds) L2) : W2 (consA f a ρ L) QA := by
  obtain ⟨x, L1, e1, y, L2, e2, q⟩ := h
  exact ⟨_, L2, by unfold consA; rw [e1, Option.bind_some, e2]; rfl, q⟩
theorem w_tupV (h : W2 (a ρ L) fun ds L1 => Le16 ds.length (Q (.tup ds) L1)) : W2 (tupV a ρ L) Q := by
  obtain ⟨x, L1, e1, hz, q⟩ := h
  exact ⟨_, L1, by unfold tupV; rw [e1, Option.bind_some]; simp only; rw [if_pos hz], q⟩
theorem w_lstV (h : W2 (a ρ L) fun ds L1 => Le16 ds.length (Q (.ref L1.length) (L1 ++ [.lst ds]))) : W2 (lstV a ρ L) Q := by
  obtain ⟨x, L1, e1, hz, q⟩ := h
  exact ⟨_, _, by unfold lstV; rw [e1, Option.bind_some]; simp only; rw [if_pos hz], q⟩
theorem w_callB {o : GL} (h : W2 (a ρ L) fun ds L1 => W2 (o ds L1) Q) : W2 (callB o a ρ L) Q := by
  obtain ⟨x, L1, e1, y, L2, e2, q⟩ := h
  exact ⟨_, L2, by unfold callB; rw [e1, Option.bind_some]; exact e2, q⟩
theorem w_mthF {T : String} {o : GM} (h : W2 (f ρ L) fun x L1 => TyIs T x L1 (W2 (a ρ L1) fun ys L2 => W2 (o x ys L2) Q)) : W2 (mthF T o f a ρ L) Q := by
  obtain ⟨x, L1, e1, ty, y, L2, e2, z, L3, e3, q⟩ := h
  exact ⟨_, L3, by unfold mthF; rw [e1, Option.bind_some]; simp only; rw [if_pos ty, e2, Option.bind_some]; exact e3, q⟩
theorem w_noO (h : QO none L) : W2 (noO ρ L) QO := ⟨_, _, rfl, h⟩
theorem w_asO (h : W2 (f ρ L) fun d L1 => IsI d fun i => QO (some i) L1) : W2 (asO f ρ L) QO := by
  obtain ⟨x, L1, e1, b, rfl, q⟩ := h
  exact ⟨_, L1, by unfold asO; rw [e1]; rfl, q⟩
theorem w_slF {fl fh : OF} (h : W2 (f ρ L) fun x L1 => W2 (fl ρ L1) fun lo L2 => W2 (fh ρ L2) fun hi L3 => W2 (gSl x lo hi L3) Q) : W2 (slF f fl fh ρ L) Q := by
  obtain ⟨x, L1, e1, y, L2, e2, z, L3, e3, v, L4, e4, q⟩ := h
  exact ⟨_, L4, by unfold slF; rw [e1, Option.bind_some, e2, Option.bind_some, e3, Option.bind_some]; exact e4, q⟩
theorem w_dNew (h : Q (.ref L.length) (L ++ [.dk []])) : W2 (dNewV ρ L) Q := ⟨_, _, rfl, h⟩
theorem w_dOne (h : W2 (f ρ (L ++ [.dk []])) fun x L1 => W2 (g ρ L1) fun y L2 => ∃ z, x = .str z ∧ L2[L.length]? = some (.dk []) ∧ Q (.ref L.length) (L2.set L.length (.dk [(.inr z, y)]))) : W2 (dOneV f g ρ L) Q := by
  obtain ⟨x, L1, e1, y, L2, e2, z, rfl, hz, q⟩ := h
  exact ⟨_, _, by unfold dOneV; rw [e1, Option.bind_some, e2, Option.bind_some]; simp only; rw [if_pos hz], q⟩
theorem w_comp {fi : IF} {n : Nat} {idx : List Nat} {gf : GF} {c : TF} {elt : EF} (h : WI (fi ρ L) fun items ok L1 => W1 (compL ok gf c elt L1.length items (frC n idx ρ) (L1 ++ [.lst []])) fun L2 => Q (.ref L1.length) L2) : W2 (compF fi n idx gf c elt ρ L) Q := by
  obtain ⟨x, k, L1, e1, L2, e2, q⟩ := h
  exact ⟨_, _, by unfold compF; rw [e1, Option.bind_some]; simp only; rw [e2]; rfl, q⟩
end

/-! what is walked -/
section
variable {Q : List D → (Sto → Bool) → Sto → Prop} {f : EF} {a : AF}
theorem wi_any (h : W2 (f ρ L) fun d L1 => WI ((itOf d L1).bind fun J => some (J, L1)) Q) : WI (iAnyF f ρ L) Q := by
  obtain ⟨x, L1, e1, y, k, L2, e2, q⟩ := h
  exact ⟨y, k, L2, by unfold iAnyF; rw [e1, Option.bind_some]; exact e2, q⟩
theorem wi_tup {xs : List D} (h : Q xs (fun _ => true) L) : WI ((itOf (.tup xs) L).bind fun J => some (J, L)) Q := ⟨_, _, _, rfl, h⟩
theorem wi_fz {xs : List D} (h : Q xs (fun _ => true) L) : WI ((itOf (.fz xs) L).bind fun J => some (J, L)) Q := ⟨_, _, _, rfl, h⟩
theorem wi_str {y : Str} (h : Q (sgs y) (fun _ => true) L) : WI ((itOf (.str y) L).bind fun J => some (J, L)) Q := ⟨_, _, _, rfl, h⟩
theorem wi_ref {k : Nat} {xs : List D} (e : L[k]? = some (.lst xs)) (h : Q xs (fun L' => decide (L'[k]? = some (.lst xs))) L) : WI ((itOf (.ref k) L).bind fun J => some (J, L)) Q := ⟨_, _, _, by simp only [itOf, e]; rfl, h⟩
theorem wi_rng1 (h : W2 (a ρ L) fun ds L1 => ∃ j : Int, ds = [.int j] ∧ (j ≤ 4611686018427387903 ∧ -4611686018427387904 ≤ j) ∧ Q (rngD 0 j.toNat) (fun _ => true) L1) : WI (iRng1F a ρ L) Q := by
  obtain ⟨x, L1, e1, j, rfl, hj, q⟩ := h
  exact ⟨_, _, L1, by unfold iRng1F; rw [e1, Option.bind_some]; simp only; rw [if_pos hj], q⟩
theorem wi_rng2 (h : W2 (a ρ L) fun ds L1 => ∃ i j : Int, ds = [.int i, .int j] ∧ ((i ≤ 4611686018427387903 ∧ -4611686018427387904 ≤ i) ∧ (j ≤ 4611686018427387903 ∧ -4611686018427387904 ≤ j)) ∧ Q (rngD i (j - i).toNat) (fun _ => true) L1) : WI (iRng2F a ρ L) Q := by
  obtain ⟨x, L1, e1, i, j, rfl, hj, q⟩ := h
  exact ⟨_, _, L1, by unfold iRng2F; rw [e1, Option.bind_some]; simp only; rw [if_pos hj], q⟩
theorem wi_enum (h : W2 (a ρ L) fun ds L1 => ∃ y : Str, ds = [.str y] ∧ Q (enumD (sgs y)) (fun _ => true) L1) : WI (iEnumF a ρ L) Q := by
  obtain ⟨x, L1, e1, y, rfl, q⟩ := h
  exact ⟨_, _, L1, by unfold iEnumF; rw [e1, Option.bind_some], q⟩
end

/-! statements -/
theorem WS.inx {o : Option Out} {nx : Fm → Sto → Prop} {rt : D → Sto → Prop} {bk ct : Fm → Sto → Prop} {ρ' : Fm} {L' : Sto} (e : o = some (.next ρ' L')) (q : nx ρ' L') : WS o nx rt bk ct := ⟨_, e, q⟩
theorem WS.irt {o : Option Out} {nx : Fm → Sto → Prop} {rt : D → Sto → Prop} {bk ct : Fm → Sto → Prop} {d : D} {L' : Sto} (e : o = some (.ret d L')) (q : rt d L') : WS o nx rt bk ct := ⟨_, e, q⟩
theorem WS.ibk {o : Option Out} {nx : Fm → Sto → Prop} {rt : D → Sto → Prop} {bk ct : Fm → Sto → Prop} {ρ' : Fm} {L' : Sto} (e : o = some (.brk ρ' L')) (q : bk ρ' L') : WS o nx rt bk ct := ⟨_, e, q⟩
theorem WS.ict {o : Option Out} {nx : Fm → Sto → Prop} {rt : D → Sto → Prop} {bk ct : Fm → Sto → Prop} {ρ' : Fm} {L' : Sto} (e : o = some (.cont ρ' L')) (q : ct ρ' L') : WS o nx rt bk ct := ⟨_, e, q⟩
section
variable {nx : Fm → Sto → Prop} {rt : D → Sto → Prop} {bk ct : Fm → Sto → Prop} {f g : SF} {t : TF} {e : EF}
theorem ws_next (h : nx ρ L) : WS (nextF ρ L) nx rt bk ct := ⟨_, rfl, h⟩
theorem ws_brk (h : bk ρ L) : WS (brkF ρ L) nx rt bk ct := ⟨_, rfl, h⟩
theorem ws_cont (h : ct ρ L) : WS (contF ρ L) nx rt bk ct := ⟨_, rfl, h⟩
theorem ws_retN (h : rt .non L) : WS (retNF ρ L) nx rt bk ct := ⟨_, rfl, h⟩
theorem ws_seq (h : WS (f ρ L) (fun ρ' L' => WS (g ρ' L') nx rt bk ct) rt bk ct) : WS (seqF f g ρ L) nx rt bk ct := by
  obtain ⟨x, e1, q⟩ := h
  cases x with
  | next ρ' L' => obtain ⟨y, e2, q⟩ := q; exact ⟨y, by unfold seqF; rw [e1]; exact e2, q⟩
  | ret d L' => exact WS.irt (by unfold seqF; rw [e1]; rfl) q
  | brk d L' => exact WS.ibk (by unfold seqF; rw [e1]; rfl) q
  | cont d L' => exact WS.ict (by unfold seqF; rw [e1]; rfl) q
theorem ws_set {i : Nat} (h : W2 (e ρ L) fun d L' => nx (ρ.set i (some d)) L') : WS (setF i e ρ L) nx rt bk ct := by
  obtain ⟨x, L1, e1, q⟩ := h
  exact WS.inx (by unfold setF; rw [e1]; rfl) q
theorem ws_ret (h : W2 (e ρ L) rt) : WS (retF e ρ L) nx rt bk ct := by
  obtain ⟨x, L1, e1, q⟩ := h
  exact WS.irt (by unfold retF; rw [e1]; rfl) q
theorem ws_expr (h : W2 (e ρ L) fun _ L' => nx ρ L') : WS (exprF e ρ L) nx rt bk ct := by
  obtain ⟨x, L1, e1, q⟩ := h
  exact WS.inx (by unfold exprF; rw [e1]; rfl) q
theorem ws_if (h : W2 (t ρ L) fun b L' => Br b (WS (f ρ L') nx rt bk ct) (WS (g ρ L') nx rt bk ct)) : WS (ifF t f g ρ L) nx rt bk ct := by
  obtain ⟨x, L1, e1, q⟩ := h
  cases x
  · obtain ⟨y, e2, q⟩ := q
    exact ⟨y, by unfold ifF; rw [e1]; exact e2, q⟩
  · obtain ⟨y, e2, q⟩ := q
    exact ⟨y, by unfold ifF; rw [e1]; exact e2, q⟩
theorem ws_asg {gf : GF} (h : W2 (e ρ L) fun d L' => W1 (gf d ρ) fun ρ' => nx ρ' L') : WS (asgF e gf ρ L) nx rt bk ct := by
  obtain ⟨x, L1, e1, ρ', e2, q⟩ := h
  exact WS.inx (by unfold asgF; rw [e1, Option.bind_some, e2]; rfl) q
theorem ws_for {fi : IF} {gf : GF} {body : SF} (h : WI (fi ρ L) fun items ok L1 => WS (loopL ok gf body items ρ L1) nx rt bk ct) : WS (forF fi gf body ρ L) nx rt bk ct := by
  obtain ⟨x, k, L1, e1, y, e2, q⟩ := h
  exact ⟨y, by unfold forF; rw [e1, Option.bind_some]; exact e2, q⟩
theorem ws_loop_nil {ok : Sto → Bool} {gf : GF} {body : SF} (hk : ok L = true) (h : nx ρ L) : WS (loopL ok gf body [] ρ L) nx rt bk ct := WS.inx (by unfold loopL; rw [if_pos hk]) h
theorem ws_loop_cons {ok : Sto → Bool} {gf : GF} {body : SF} {x : D} {xs : List D} (hk : ok L = true) (h : W1 (gf x ρ) fun ρ1 => WS (body ρ1 L) (fun ρ2 L2 => WS (loopL ok gf body xs ρ2 L2) nx rt bk ct) rt nx (fun ρ2 L2 => WS (loopL ok gf body xs ρ2 L2) nx rt bk ct)) : WS (loopL ok gf body (x :: xs) ρ L) nx rt bk ct := by
  obtain ⟨ρ1, e1, y, e2, q⟩ := h
  cases y with
  | next ρ2 L2 => obtain ⟨z, e3, q⟩ := q; exact ⟨z, by unfold loopL; rw [if_pos hk, e1, Option.bind_some, e2]; exact e3, q⟩
  | cont ρ2 L2 => obtain ⟨z, e3, q⟩ := q; exact ⟨z, by unfold loopL; rw [if_pos hk, e1, Option.bind_some, e2]; exact e3, q⟩
  | ret d L2 => exact WS.irt (by unfold loopL; rw [if_pos hk, e1, Option.bind_some, e2]; rfl) q
  | brk ρ2 L2 => exact WS.inx (by unfold loopL; rw [if_pos hk, e1, Option.bind_some, e2]; rfl) q
/-- a loop by what holds ahead of each turn -/
theorem ws_loop {ok : Sto → Bool} {gf : GF} {body : SF} (I : Nat → Fm → Sto → Prop) : ∀ (items : List D) (j : Nat) (ρ : Fm) (L : Sto), I j ρ L →
    (∀ i x ρ L, items[i]? = some x → I (j + i) ρ L → ok L = true ∧ W1 (gf x ρ) fun ρ1 => WS (body ρ1 L) (I (j + i + 1)) rt nx (I (j + i + 1))) →
    (∀ ρ L, I (j + items.length) ρ L → ok L = true ∧ nx ρ L) → WS (loopL ok gf body items ρ L) nx rt bk ct
  | [], j, ρ, L, h0, _, fin => ws_loop_nil (fin ρ L h0).1 (fin ρ L h0).2
  | x :: xs, j, ρ, L, h0, st, fin => by
    obtain ⟨hk, hw⟩ := st 0 x ρ L rfl h0
    have go : ∀ ρ2 L2, I (j + 1) ρ2 L2 → WS (loopL ok gf body xs ρ2 L2) nx rt bk ct := fun ρ2 L2 h2 => ws_loop I xs (j + 1) ρ2 L2 h2
      (fun i y ρ L e h => by
        have e' : j + (i + 1) = j + 1 + i := by omega
        have := st (i + 1) y ρ L (by simpa using e) (by rw [e']; exact h)
        rw [e'] at this
        exact this)
      (fun ρ L h => fin ρ L (by have e' : j + (x :: xs).length = j + 1 + xs.length := by simp; omega
                                rw [e']; exact h))
    refine ws_loop_cons hk ?_
    obtain ⟨ρ1, e1, hb⟩ := hw
    exact ⟨ρ1, e1, hb.mono go (fun _ _ h => h) (fun _ _ h => h) go⟩
end

/-! targets -/
section
variable {Q : Fm → Prop} {gf : GF} {gs : GsF}
theorem wg_name {i : Nat} {d : D} (h : Q (ρ.set i (some d))) : W1 (gNameF i d ρ) Q := ⟨_, rfl, h⟩
theorem wg_tup {n : Nat} {ds : List D} (e : ds.length = n) (h : W1 (gs ds ρ) Q) : W1 (gTupF n gs (.tup ds) ρ) Q := by
  obtain ⟨ρ', e1, q⟩ := h
  exact ⟨ρ', by unfold gTupF; simp only; rw [if_pos e]; exact e1, q⟩
theorem wg_nil (h : Q ρ) : W1 (gNilF [] ρ) Q := ⟨_, rfl, h⟩
theorem wg_cons {d : D} {ds : List D} (h : W1 (gf d ρ) fun ρ' => W1 (gs ds ρ') Q) : W1 (gConsF gf gs (d :: ds) ρ) Q := by
  obtain ⟨ρ1, e1, ρ2, e2, q⟩ := h
  exact ⟨ρ2, by unfold gConsF; simp only; rw [e1]; exact e2, q⟩
end

/-! comprehensions -/
theorem wc_nil {ok : Sto → Bool} {g : GF} {c : TF} {elt : EF} {k : Nat} {Q : Sto → Prop} (hk : ok L = true) (h : Q L) : W1 (compL ok g c elt k [] ρ L) Q := ⟨_, by unfold compL; rw [if_pos hk], h⟩
theorem wc_cons {ok : Sto → Bool} {g : GF} {c : TF} {elt : EF} {k : Nat} {x : D} {xs : List D} {Q : Sto → Prop} (hk : ok L = true)
    (h : W1 (g x ρ) fun ρ1 => W2 (c ρ1 L) fun b L1 => Br b (W2 (elt ρ1 L1) fun d L2 => ∃ ys, L2[k]? = some (.lst ys) ∧ ys.length < 16777216 ∧ W1 (compL ok g c elt k xs ρ1 (L2.set k (.lst (ys ++ [d])))) Q) (W1 (compL ok g c elt k xs ρ1 L1) Q)) :
    W1 (compL ok g c elt k (x :: xs) ρ L) Q := by
  obtain ⟨ρ1, e1, b, L1, e2, q⟩ := h
  cases b
  · obtain ⟨z, e3, q⟩ := q
    exact ⟨z, by unfold compL; rw [if_pos hk, e1, Option.bind_some, e2, Option.bind_some]; exact e3, q⟩
  · obtain ⟨d, L2, e3, ys, e4, hz, z, e5, q⟩ := q
    refine ⟨z, ?_, q⟩
    unfold compL
    rw [if_pos hk, e1, Option.bind_some, e2, Option.bind_some]
    simp only [if_true]
    rw [e3, Option.bind_some]
    simp only
    rw [e4]
    simp only
    rw [if_pos hz]
    exact e5
/-- a comprehension by what holds ahead of each turn -/
theorem wc_inv {ok : Sto → Bool} {g : GF} {c : TF} {elt : EF} {k : Nat} {Q : Sto → Prop} (I : Nat → Fm → Sto → Prop) : ∀ (items : List D) (j : Nat) (ρ : Fm) (L : Sto), I j ρ L →
    (∀ i x ρ L, items[i]? = some x → I (j + i) ρ L → ok L = true ∧ W1 (g x ρ) fun ρ1 => W2 (c ρ1 L) fun b L1 => Br b (W2 (elt ρ1 L1) fun d L2 => ∃ ys, L2[k]? = some (.lst ys) ∧ ys.length < 16777216 ∧ I (j + i + 1) ρ1 (L2.set k (.lst (ys ++ [d])))) (I (j + i + 1) ρ1 L1)) →
    (∀ ρ L, I (j + items.length) ρ L → ok L = true ∧ Q L) → W1 (compL ok g c elt k items ρ L) Q
  | [], j, ρ, L, h0, _, fin => wc_nil (fin ρ L h0).1 (fin ρ L h0).2
  | x :: xs, j, ρ, L, h0, st, fin => by
    obtain ⟨hk, ρ1, e1, b, L1, e2, q⟩ := st 0 x ρ L rfl h0
    have go : ∀ ρ2 L2, I (j + 1) ρ2 L2 → W1 (compL ok g c elt k xs ρ2 L2) Q := fun ρ2 L2 h2 => wc_inv I xs (j + 1) ρ2 L2 h2
      (fun i y ρ L e h => by
        have e' : j + (i + 1) = j + 1 + i := by omega
        have := st (i + 1) y ρ L (by simpa using e) (by rw [e']; exact h)
        rw [e'] at this
        exact this)
      (fun ρ L h => fin ρ L (by have e' : j + (x :: xs).length = j + 1 + xs.length := by simp; omega
                                rw [e']; exact h))
    refine wc_cons hk ⟨ρ1, e1, b, L1, e2, ?_⟩
    cases b
    · exact go _ _ q
    · obtain ⟨d, L2, e3, ys, e4, hz, q⟩ := q
      exact ⟨d, L2, e3, ys, e4, hz, go _ _ q⟩
/-- a comprehension that makes nothing beside its list -/
theorem wc_pure {g : GF} {c : TF} {elt : EF} {L0 : Sto} {Q : Sto → Prop} (P : Fm → Prop) (f : D → Option D) (items : List D) (ρ : Fm)
    (hp : P ρ) (hz : items.length ≤ 16777216)
    (h : ∀ x ∈ items, ∀ ρ, P ρ → W1 (g x ρ) fun ρ1 => P ρ1 ∧ ∀ acc, W2 (c ρ1 (L0 ++ [.lst acc])) fun b L1 => L1 = L0 ++ [.lst acc] ∧ Br b (W2 (elt ρ1 (L0 ++ [.lst acc])) fun d L2 => L2 = L0 ++ [.lst acc] ∧ f x = some d) (f x = none))
    (q : Q (L0 ++ [.lst (items.filterMap f)])) : W1 (compL (fun _ => true) g c elt L0.length items ρ (L0 ++ [.lst []])) Q := by
  refine wc_inv (I := fun j ρ L => P ρ ∧ L = L0 ++ [.lst ((items.take j).filterMap f)]) items 0 ρ _ ⟨hp, by simp⟩ ?_ ?_
  · rintro i x ρ L e ⟨hp, rfl⟩
    refine ⟨rfl, ?_⟩
    have hi : i < items.length := (List.getElem?_eq_some_iff.mp e).1
    have hx : x ∈ items := List.mem_of_getElem? e
    obtain ⟨ρ1, e1, hp1, h2⟩ := h x hx ρ hp
    obtain ⟨b, L1, e2, rfl, q⟩ := h2 ((items.take (0 + i)).filterMap f)
    refine ⟨ρ1, e1, b, _, e2, ?_⟩
    have ht : items.take (0 + i + 1) = items.take (0 + i) ++ [x] := by
      rw [Nat.zero_add, List.take_add_one, e]; rfl
    cases b
    · have q' : f x = none := q
      refine ⟨hp1, ?_⟩
      rw [ht, List.filterMap_append]
      simp [q']
    · obtain ⟨d, L2, e3, rfl, q⟩ := q
      refine ⟨d, _, e3, (items.take (0 + i)).filterMap f, by simp, ?_, hp1, ?_⟩
      · refine Nat.lt_of_le_of_lt (List.length_filterMap_le _ _) ?_
        simp; omega
      · rw [ht, List.filterMap_append]
        simp [q]
  · rintro ρ L ⟨_, rfl⟩
    exact ⟨rfl, by simpa using q⟩

/-! a def's run -/
section
variable {Q : D → Sto → Prop} {B : SF} {N : List Str} {n : Nat} {xs : List D}
theorem w_run (hn : xs.length = n) (h : WS (B (startD N xs) L) (fun _ L2 => L <+: L2 ∧ Q .non L) (fun d L2 => d.noRef = true ∧ L <+: L2 ∧ Q d L) (fun _ _ => False) (fun _ _ => False)) : W2 (runG B N n xs L) Q := by
  obtain ⟨x, e, q⟩ := h
  have tk : ∀ L2 : Sto, L <+: L2 → L2.take L.length = L := fun L2 hp => by obtain ⟨M, rfl⟩ := hp; simp
  cases x with
  | next ρ L2 => exact ⟨_, _, by unfold runG; rw [if_pos hn, e]; simp only; rw [if_pos (tk _ q.1)], q.2⟩
  | ret d L2 => exact ⟨_, _, by unfold runG; rw [if_pos hn, e]; simp only; rw [if_pos ⟨q.1, tk _ q.2.1⟩], q.2.2⟩
  | brk ρ L2 => exact q.elim
  | cont ρ L2 => exact q.elim
theorem w_runR (hn : xs.length = n) (h : WS (B (startD N xs) L) (fun _ _ => False) (fun d L2 => d.noRef = false ∧ Q d L2) (fun _ _ => False) (fun _ _ => False)) : W2 (runG B N n xs L) Q := by
  obtain ⟨x, e, q⟩ := h
  cases x with
  | next ρ L2 => exact q.elim
  | ret d L2 => exact ⟨_, _, by unfold runG; rw [if_pos hn, e]; simp only; rw [if_neg (fun h => by rw [q.1] at h; cases h.1)], q.2⟩
  | brk ρ L2 => exact q.elim
  | cont ρ L2 => exact q.elim
end

/-! operations -/
section
variable {Q : D → Sto → Prop} {i j : Int} {x y : Str}
theorem g_addI (h : Q (.int (i + j)) L) : W2 (gAdd (.int i) (.int j) L) Q := ⟨_, _, rfl, h⟩
theorem g_addS (hz : x.length + y.length ≤ 16777216) (h : Q (.str (x ++ y)) L) : W2 (gAdd (.str x) (.str y) L) Q := ⟨_, _, by unfold gAdd; simp only; rw [if_pos hz], h⟩
theorem g_addL {a b : Nat} {xs ys : List D} (e1 : L[a]? = some (.lst xs)) (e2 : L[b]? = some (.lst ys)) (hz : xs.length + ys.length ≤ 16777216) (h : Q (.ref L.length) (L ++ [.lst (xs ++ ys)])) : W2 (gAdd (.ref a) (.ref b) L) Q := ⟨_, _, by unfold gAdd; simp only; rw [e1, e2]; simp only; rw [if_pos hz], h⟩
theorem g_sub (h : Q (.int (i - j)) L) : W2 (gSub (.int i) (.int j) L) Q := ⟨_, _, rfl, h⟩
theorem g_mulI (hc : cMul i j = true) (h : Q (.int (i * j)) L) : W2 (gMul (.int i) (.int j) L) Q := ⟨_, _, by unfold gMul; simp only; rw [if_pos hc], h⟩
theorem g_mulS (hc : mulSOk x j = true) (h : Q (.str (Txt.mul x j)) L) : W2 (gMul (.str x) (.int j) L) Q := ⟨_, _, by unfold gMul; simp only; rw [if_pos hc], h⟩
theorem g_fdiv (hc : cDiv i j = true) (h : Q (.int (i / j)) L) : W2 (gFdiv (.int i) (.int j) L) Q := ⟨_, _, by unfold gFdiv gI; simp only; rw [if_pos hc], h⟩
theorem g_mod (hc : cMod i j = true) (h : Q (.int (i % j)) L) : W2 (gMod (.int i) (.int j) L) Q := ⟨_, _, by unfold gMod gI; simp only; rw [if_pos hc], h⟩
theorem g_pow (hc : cPow i j = true) (h : Q (.int (i ^ j.toNat)) L) : W2 (gPow (.int i) (.int j) L) Q := ⟨_, _, by unfold gPow gI; simp only; rw [if_pos hc], h⟩
theorem g_neg (h : Q (.int (-i)) L) : W2 (gNeg (.int i) L) Q := ⟨_, _, rfl, h⟩
theorem g_lt (h : Q (.bl (decide (i < j))) L) : W2 (gLt (.int i) (.int j) L) Q := ⟨_, _, rfl, h⟩
theorem g_le (h : Q (.bl (decide (i ≤ j))) L) : W2 (gLe (.int i) (.int j) L) Q := ⟨_, _, rfl, h⟩
theorem g_gt (h : Q (.bl (decide (j < i))) L) : W2 (gGt (.int i) (.int j) L) Q := ⟨_, _, rfl, h⟩
theorem g_ge (h : Q (.bl (decide (j ≤ i))) L) : W2 (gGe (.int i) (.int j) L) Q := ⟨_, _, rfl, h⟩
theorem dec_congr {p q : Prop} [Decidable p] [Decidable q] (h : p ↔ q) : decide p = decide q := by
  by_cases a : p
  · rw [decide_eq_true a, decide_eq_true (h.mp a)]
  · rw [decide_eq_false a, decide_eq_false (fun b => a (h.mpr b))]
theorem gEq_is {a b : D} (hs : scalD a b = true) (h : Q (.bl (decide (a = b))) L) : W2 (gEq a b L) Q := ⟨_, _, by unfold gEq; rw [if_pos hs], h⟩
theorem gNe_is {a b : D} (hs : scalD a b = true) (h : Q (.bl (!decide (a = b))) L) : W2 (gNe a b L) Q := ⟨_, _, by unfold gNe; rw [if_pos hs], h⟩
theorem g_eqI (h : Q (.bl (decide (i = j))) L) : W2 (gEq (.int i) (.int j) L) Q := gEq_is rfl (by rw [dec_congr (show D.int i = D.int j ↔ i = j by simp)]; exact h)
theorem g_eqS (h : Q (.bl (decide (x = y))) L) : W2 (gEq (.str x) (.str y) L) Q := gEq_is rfl (by rw [dec_congr (show D.str x = D.str y ↔ x = y by simp)]; exact h)
theorem g_eqB {a b : Bool} (h : Q (.bl (decide (a = b))) L) : W2 (gEq (.bl a) (.bl b) L) Q := gEq_is rfl (by rw [dec_congr (show D.bl a = D.bl b ↔ a = b by simp)]; exact h)
theorem g_neI (h : Q (.bl (!decide (i = j))) L) : W2 (gNe (.int i) (.int j) L) Q := gNe_is rfl (by rw [dec_congr (show D.int i = D.int j ↔ i = j by simp)]; exact h)
theorem g_neS (h : Q (.bl (!decide (x = y))) L) : W2 (gNe (.str x) (.str y) L) Q := gNe_is rfl (by rw [dec_congr (show D.str x = D.str y ↔ x = y by simp)]; exact h)
theorem g_eqNS (h : Q (.bl false) L) : W2 (gEq .non (.str y) L) Q := gEq_is rfl (by rw [decide_eq_false (by intro z; cases z)]; exact h)
theorem g_is {a : D} (h : Q (.bl (isNon a)) L) : W2 (gIs a .non L) Q := ⟨_, _, rfl, h⟩
theorem g_isnot {a : D} (h : Q (.bl (!isNon a)) L) : W2 (gIsNot a .non L) Q := ⟨_, _, rfl, h⟩
theorem g_inS (h : Q (.bl (inStr x y)) L) : W2 (gInN false (.str x) (.str y) L) Q := ⟨_, _, rfl, h⟩
theorem gIn_is {neg : Bool} {d e : D} {ys : List D} (h0 : ∀ i j, d = .str i → e = .str j → False) (e1 : seqOf e L = some ys) (hf : (flatD d && ys.all flatD) = true) (h : Q (.bl (if neg then !inD d ys else inD d ys)) L) : W2 (gInN neg d e L) Q := by
  refine ⟨_, _, ?_, h⟩
  unfold gInN
  split
  · exact (h0 _ _ rfl rfl).elim
  · rw [e1]
    simp only
    rw [if_pos hf]
theorem g_inT {d : D} {ys : List D} (hf : (flatD d && ys.all flatD) = true) (h : Q (.bl (inD d ys)) L) : W2 (gInN false d (.tup ys) L) Q := gIn_is (fun _ _ _ z => by cases z) rfl hf h
theorem g_notinT {d : D} {ys : List D} (hf : (flatD d && ys.all flatD) = true) (h : Q (.bl (!inD d ys)) L) : W2 (gInN true d (.tup ys) L) Q := gIn_is (fun _ _ _ z => by cases z) rfl hf h
theorem g_inR {d : D} {k : Nat} {ys : List D} (e : L[k]? = some (.lst ys)) (hf : (flatD d && ys.all flatD) = true) (h : Q (.bl (inD d ys)) L) : W2 (gInN false d (.ref k) L) Q := gIn_is (fun _ _ _ z => by cases z) (by simp [seqOf, e]) hf h
theorem g_notinR {d : D} {k : Nat} {ys : List D} (e : L[k]? = some (.lst ys)) (hf : (flatD d && ys.all flatD) = true) (h : Q (.bl (!inD d ys)) L) : W2 (gInN true d (.ref k) L) Q := gIn_is (fun _ _ _ z => by cases z) (by simp [seqOf, e]) hf h
theorem g_ixS {c : Nat} (e : atI x.cps.toList i = some c) (h : Q (.str ⟨#[c]⟩) L) : W2 (gIx (.str x) (.int i) L) Q := ⟨_, _, by unfold gIx; simp only; rw [e], h⟩
theorem g_ixT {xs : List D} {d : D} (e : atI xs i = some d) (h : Q d L) : W2 (gIx (.tup xs) (.int i) L) Q := ⟨_, _, by unfold gIx; simp only [seqOf]; rw [e], h⟩
theorem g_ixF {xs : List D} {d : D} (e : atI xs i = some d) (h : Q d L) : W2 (gIx (.fz xs) (.int i) L) Q := ⟨_, _, by unfold gIx; simp only [seqOf]; rw [e], h⟩
theorem g_ixR {k : Nat} {xs : List D} {d : D} (e1 : L[k]? = some (.lst xs)) (e : atI xs i = some d) (h : Q d L) : W2 (gIx (.ref k) (.int i) L) Q := ⟨_, _, by unfold gIx; simp only [seqOf, e1]; rw [e], h⟩
theorem g_slS {lo hi : Option Int} (h : Q (.str (Txt.slice x lo hi)) L) : W2 (gSl (.str x) lo hi L) Q := ⟨_, _, rfl, h⟩
theorem g_slR {lo hi : Option Int} {k : Nat} {xs : List D} (e : L[k]? = some (.lst xs)) (h : Q (.ref L.length) (L ++ [.lst (cutD xs lo hi)])) : W2 (gSl (.ref k) lo hi L) Q := ⟨_, _, by unfold gSl; simp only [e], h⟩
theorem g_lenS (h : Q (.int (x.length : Int)) L) : W2 (gLen [.str x] L) Q := ⟨_, _, rfl, h⟩
theorem g_lenT {xs : List D} (h : Q (.int (xs.length : Int)) L) : W2 (gLen [.tup xs] L) Q := ⟨_, _, rfl, h⟩
theorem g_lenF {xs : List D} (h : Q (.int (xs.length : Int)) L) : W2 (gLen [.fz xs] L) Q := ⟨_, _, rfl, h⟩
theorem g_lenR {k : Nat} {xs : List D} (e : L[k]? = some (.lst xs)) (h : Q (.int (xs.length : Int)) L) : W2 (gLen [.ref k] L) Q := ⟨_, _, by simp only [gLen, seqOf, e], h⟩
theorem g_abs (h : Q (.int (if i < 0 then -i else i)) L) : W2 (gAbs [.int i] L) Q := ⟨_, _, rfl, h⟩
theorem g_max (h : Q (.int (if j > i then j else i)) L) : W2 (gMax [.int i, .int j] L) Q := ⟨_, _, rfl, h⟩
theorem g_min (h : Q (.int (if j < i then j else i)) L) : W2 (gMin [.int i, .int j] L) Q := ⟨_, _, rfl, h⟩
theorem g_intI (h : Q (.int i) L) : W2 (gInt [.int i] L) Q := ⟨_, _, rfl, h⟩
theorem g_intB {b : Bool} (h : Q (.int (if b then 1 else 0)) L) : W2 (gInt [.bl b] L) Q := ⟨_, _, rfl, h⟩
theorem g_tupT {xs : List D} (h : Q (.tup xs) L) : W2 (gTuple [.tup xs] L) Q := ⟨_, _, rfl, h⟩
theorem g_tupR {k : Nat} {xs : List D} (e : L[k]? = some (.lst xs)) (h : Q (.tup xs) L) : W2 (gTuple [.ref k] L) Q := ⟨_, _, by simp only [gTuple, seqOf, e], h⟩
theorem g_listT {xs : List D} (h : Q (.ref L.length) (L ++ [.lst xs])) : W2 (gList [.tup xs] L) Q := ⟨_, _, rfl, h⟩
theorem g_listR {k : Nat} {xs : List D} (e : L[k]? = some (.lst xs)) (h : Q (.ref L.length) (L ++ [.lst xs])) : W2 (gList [.ref k] L) Q := ⟨_, _, by simp only [gList, seqOf, e], h⟩
theorem g_inst {d : D} {t T : String} {b : Bool} (hT : ["int", "str", "bool", "list", "tuple", "dict"].contains T = true) (e : tyName d L = some t) (eb : instOf t T = b) (h : Q (.bl b) L) : W2 (gInst [d, .ty T] L) Q := ⟨_, _, by simp only [gInst]; rw [if_pos hT, e, ← eb]; rfl, h⟩
theorem g_all {k : Nat} {ds : List D} {bs : List Bool} (e : L[k]? = some (.lst ds)) (e2 : blsD ds = some bs) (h : Q (.bl (bs.all id)) L) : W2 (gAll [.ref k] L) Q := ⟨_, _, by simp only [gAll, e, e2], h⟩
theorem g_join {k : Nat} {ds : List D} {ys : List Str} (e : L[k]? = some (.lst ds)) (e2 : strsD ds = some ys) (hz : (ys.map (·.length)).sum + ys.length * x.length ≤ 16777216) (h : Q (.str (Txt.join x ys)) L) : W2 (gJoin (.str x) [.ref k] L) Q := ⟨_, _, by simp only [gJoin, seqOf, e, e2]; rw [if_pos hz], h⟩
theorem g_append {k : Nat} {ds : List D} {d : D} (e : L[k]? = some (.lst ds)) (hz : ds.length < 16777216) (h : Q .non (L.set k (.lst (ds ++ [d])))) : W2 (gAppend (.ref k) [d] L) Q := ⟨_, _, by simp only [gAppend, e]; rw [if_pos hz], h⟩
theorem g_s0b {f : Str → Bool} (h : Q (.bl (f x)) L) : W2 (gS0b f (.str x) [] L) Q := ⟨_, _, rfl, h⟩
theorem g_s0s {f : Str → Str} (hz : (f x).length ≤ 16777216) (h : Q (.str (f x)) L) : W2 (gS0s f (.str x) [] L) Q := ⟨_, _, by simp only [gS0s]; rw [if_pos hz], h⟩
end
end
theorem le16c {n : Nat} {p : Prop} (h : Nat.ble n 16777216 = true) (hp : p) : Le16 n p := ⟨Nat.le_of_ble_eq_true h, hp⟩
end L3

set_option maxHeartbeats 4000000
namespace L3
open PySem PySem.Spec PyProof.Rows L2
theorem get_last {α : Type} {L : List α} {a : α} : (L ++ [a])[L.length]? = some a := by simp
theorem get_app {α : Type} {L M : List α} {k : Nat} {a : α} (h : L[k]? = some a) : (L ++ M)[k]? = some a := by
  rw [List.getElem?_append_left (List.getElem?_eq_some_iff.mp h).1]; exact h
theorem get_setS {α : Type} {L : List α} {k : Nat} {a b : α} (h : L[k]? = some b) : (L.set k a)[k]? = some a := by
  rw [List.getElem?_set_self (List.getElem?_eq_some_iff.mp h).1]
theorem get_setN {α : Type} {L : List α} {k j : Nat} {a b : α} (n : j ≠ k) (h : L[k]? = some b) : (L.set j a)[k]? = some b := by
  rw [List.getElem?_set_ne n]; exact h
theorem pre_set {α : Type} {L L2 : List α} {k : Nat} {a : α} (h : L <+: L2) (hk : L.length ≤ k) : L <+: L2.set k a := by
  obtain ⟨M, rfl⟩ := h
  rw [List.set_append, if_neg (by omega)]
  exact List.prefix_append _ _
section
variable {Q : D → Sto → Prop} {L : Sto}
theorem g_pow40 (h : Q (.int 10000000000000000000000000000000000000000) L) : W2 (gPow (.int 10) (.int 40) L) Q := g_pow (by decide) (by have e : (10 : Int) ^ (40 : Int).toNat = 10000000000000000000000000000000000000000 := (by decide); (rw [e]; exact h))
theorem g_pow30 (h : Q (.int 1000000000000000000000000000000) L) : W2 (gPow (.int 10) (.int 30) L) Q := g_pow (by decide) (by have e : (10 : Int) ^ (30 : Int).toNat = 1000000000000000000000000000000 := (by decide); (rw [e]; exact h))
theorem g_pow60 (h : Q (.int 1000000000000000000000000000000000000000000000000000000000000) L) : W2 (gPow (.int 10) (.int 60) L) Q := g_pow (by decide) (by have e : (10 : Int) ^ (60 : Int).toNat = 1000000000000000000000000000000000000000000000000000000000000 := (by decide); (rw [e]; exact h))
theorem g_pow6 (h : Q (.int 1000000) L) : W2 (gPow (.int 10) (.int 6) L) Q := g_pow (by decide) (by have e : (10 : Int) ^ (6 : Int).toNat = 1000000 := (by decide); (rw [e]; exact h))
end
section
variable {p q : Prop}
theorem br_nN (h : p) : Br (isNon .non) p q := h
theorem br_nI {i : Int} (h : q) : Br (isNon (.int i)) p q := h
theorem br_nS {i : Str} (h : q) : Br (isNon (.str i)) p q := h
theorem br_nT {i : List D} (h : q) : Br (isNon (.tup i)) p q := h
theorem br_nB {i : Bool} (h : q) : Br (isNon (.bl i)) p q := h
theorem br_nR {i : Nat} (h : q) : Br (isNon (.ref i)) p q := h
end
theorem ty_of_lst {L : Sto} {k : Nat} {xs : List D} (h : L[k]? = some (.lst xs)) : tyName (.ref k) L = some "list" := by simp [tyName, h]
theorem ty_of_dk {L : Sto} {k : Nat} {xs : List (Key × D)} (h : L[k]? = some (.dk xs)) : tyName (.ref k) L = some "dict" := by simp [tyName, h]
theorem g_instT {Q : D → Sto → Prop} {L : Sto} {d : D} {t T : String} (hT : ["int", "str", "bool", "list", "tuple", "dict"].contains T = true) (e : tyName d L = some t) (eb : instOf t T = true) (h : Q (.bl true) L) : W2 (gInst [d, .ty T] L) Q := g_inst hT e eb h
theorem g_instF {Q : D → Sto → Prop} {L : Sto} {d : D} {t T : String} (hT : ["int", "str", "bool", "list", "tuple", "dict"].contains T = true) (e : tyName d L = some t) (eb : instOf t T = false) (h : Q (.bl false) L) : W2 (gInst [d, .ty T] L) Q := g_inst hT e eb h
theorem w_runX {Q : D → Sto → Prop} {B : SF} {N : List Str} {n : Nat} {xs : List D} {L : Sto} (hn : xs.length = n) (h : WS (B (startD N xs) L) (fun _ _ => False) (fun d L2 => L <+: L2 ∧ (d.noRef = true → Q d L) ∧ (d.noRef = false → Q d L2)) (fun _ _ => False) (fun _ _ => False)) : W2 (runG B N n xs L) Q := by
  obtain ⟨x, e, q⟩ := h
  have tk : ∀ L2 : Sto, L <+: L2 → L2.take L.length = L := fun L2 hp => by obtain ⟨M, rfl⟩ := hp; simp
  cases x with
  | next ρ L2 => exact q.elim
  | ret d L2 =>
    cases hd : d.noRef with
    | true => exact ⟨_, _, by unfold runG; rw [if_pos hn, e]; simp only; rw [if_pos ⟨hd, tk _ q.1⟩], q.2.1 hd⟩
    | false => exact ⟨_, _, by unfold runG; rw [if_pos hn, e]; simp only; rw [if_neg (fun h => by rw [hd] at h; cases h.1)], q.2.2 hd⟩
  | brk ρ L2 => exact q.elim
  | cont ρ L2 => exact q.elim
theorem g_strI {Q : D → Sto → Prop} {L : Sto} {i : Int} (hc : i.natAbs.log2 < 1920 ∧ (toString i : Str).length ≤ 16777216) (h : Q (.str (toString i)) L) : W2 (gStrI [.int i] L) Q := ⟨_, _, by simp only [gStrI]; rw [if_pos hc], h⟩
theorem rng1_mk {j0 : Int} {Q : Int → Prop} (hb : j0 ≤ 4611686018427387903 ∧ -4611686018427387904 ≤ j0) (h : Q j0) : ∃ j : Int, [D.int j0] = [.int j] ∧ (j ≤ 4611686018427387903 ∧ -4611686018427387904 ≤ j) ∧ Q j := ⟨j0, rfl, hb, h⟩
theorem rng2_mk {i0 j0 : Int} {Q : Int → Int → Prop} (hb : (i0 ≤ 4611686018427387903 ∧ -4611686018427387904 ≤ i0) ∧ (j0 ≤ 4611686018427387903 ∧ -4611686018427387904 ≤ j0)) (h : Q i0 j0) :
    ∃ i j : Int, [D.int i0, .int j0] = [.int i, .int j] ∧ ((i ≤ 4611686018427387903 ∧ -4611686018427387904 ≤ i) ∧ (j ≤ 4611686018427387903 ∧ -4611686018427387904 ≤ j)) ∧ Q i j := ⟨i0, j0, rfl, hb, h⟩
theorem enum_mk {y0 : Str} {Q : Str → Prop} (h : Q y0) : ∃ y : Str, [D.str y0] = [.str y] ∧ Q y := ⟨y0, rfl, h⟩
end L3

set_option maxHeartbeats 4000000
namespace L3
open PySem PySem.Spec PyProof.Rows L2
/-! mathematics without a program's defs -/
def sg (y : Str) (i : Nat) : Str := ⟨#[y.cps.getD i 0]⟩
theorem enumD_range (y : Str) : enumD (sgs y) = (List.range y.cps.size).map fun (i : Nat) => D.tup [.int (i : Int), .str (sg y i)] := by
  apply List.ext_getElem?
  intro i
  rw [enumD_get, List.getElem?_map]
  by_cases h : i < y.cps.size
  · rw [List.getElem?_range h]
    simp [sg, h, Array.getD]
  · have h1 : y.cps[i]? = none := by simp; omega
    have h2 : (List.range y.cps.size)[i]? = none := by simp; omega
    rw [h1, h2]; rfl
theorem fm_congr {α β : Type} {f g : α → Option β} : ∀ {l : List α}, (∀ x ∈ l, f x = g x) → l.filterMap f = l.filterMap g
  | [], _ => rfl
  | x :: xs, h => by
    have ih := fm_congr fun y hy => h y (List.mem_cons_of_mem x hy)
    rw [List.filterMap_cons, List.filterMap_cons, h x List.mem_cons_self, ih]
theorem atI_map {α β : Type} (f : α → β) (xs : List α) (i : Int) : atI (xs.map f) i = (atI xs i).map f := by
  unfold atI
  rw [List.length_map]
  cases ixN xs.length i with
  | none => rfl
  | some j => simp
theorem atI_some {α : Type} {xs : List α} {i : Int} (h : -(xs.length : Int) ≤ i ∧ i < xs.length) : ∃ v, atI xs i = some v := by
  unfold atI ixN
  by_cases h0 : 0 ≤ i
  · rw [if_pos h0, if_pos h.2]
    have : i.toNat < xs.length := by omega
    exact ⟨xs[i.toNat], by simp [this]⟩
  · rw [if_neg h0, if_pos h.1]
    have : (i + xs.length).toNat < xs.length := by omega
    exact ⟨xs[(i + xs.length).toNat], by simp [this]⟩
theorem atI_mem {α : Type} {xs : List α} {i : Int} {v : α} (h : atI xs i = some v) : v ∈ xs := by
  obtain ⟨j, _, hj, _⟩ := atI_get h
  exact List.mem_of_getElem? hj
/-- an item of a list at a rest by its length -/
theorem atI_mod {α : Type} {xs : List α} {n : Int} (c : Int) (h0 : 0 < n) (h : n ≤ xs.length) : ∃ v ∈ xs, atI xs (c % n) = some v := by
  have h1 := Int.emod_nonneg c (b := n) (by omega)
  have h2 := Int.emod_lt_of_pos c h0
  obtain ⟨v, hv⟩ := atI_some (xs := xs) (i := c % n) ⟨by omega, by omega⟩
  exact ⟨v, atI_mem hv, hv⟩
theorem rngD_range (n : Nat) : rngD 0 n = (List.range n).map fun (i : Nat) => D.int (i : Int) := by simp [rngD]
theorem rngD_mem {lo : Int} {n : Nat} {d : D} (h : d ∈ rngD lo n) : ∃ i : Nat, i < n ∧ d = .int (lo + (i : Int)) := by
  unfold rngD at h
  rw [List.mem_map] at h
  obtain ⟨i, hi, rfl⟩ := h
  exact ⟨i, List.mem_range.mp hi, rfl⟩
theorem rngD_at {lo : Int} {n i : Nat} {d : D} (h : (rngD lo n)[i]? = some d) : i < n ∧ d = .int (lo + (i : Int)) := by
  rw [rngD_get] at h
  split at h
  · rename_i hi; cases h; exact ⟨hi, rfl⟩
  · cases h
/-! numbers that may be multiplied -/
open Builtin.Int in
theorem mulOk_le {a b : Int} {m n : Nat} (ha : intBits a ≤ m) (hb : intBits b ≤ n) (h : m + n ≤ 134217728) : cMul a b = true := decide_eq_true (PySem.IntMulOk.of_le ha hb h)
theorem bits_of_lt {a : Int} {n : Nat} (h : a.natAbs < 2 ^ n) : Builtin.Int.intBits a ≤ n := PySem.intBits_le_iff.mpr h
theorem mulOk_l {a b : Int} (h : -18446744073709551616 < a ∧ a < 18446744073709551616) : cMul a b = true := decide_eq_true (.of_left (intBits_le_64 (by omega) (by omega)))
theorem mulOk_r {a b : Int} (h : -18446744073709551616 < b ∧ b < 18446744073709551616) : cMul a b = true := decide_eq_true (.of_right (intBits_le_64 (by omega) (by omega)))
theorem atI_ints {ns : List Int} {k : Int} (h0 : 0 ≤ k) (h1 : k < ns.length) : ∃ z ∈ ns, atI (ns.map D.int) k = some (.int z) := by
  have hk : k.toNat < ns.length := by omega
  refine ⟨ns[k.toNat], List.getElem_mem _, ?_⟩
  have e : ((k.toNat : Nat) : Int) = k := by omega
  have q := atI_nat (xs := ns.map D.int) (j := k.toNat) (v := .int ns[k.toNat]) (by simp [hk])
  rw [e] at q
  exact q
/-! signs -/
def codes : List Nat := [97, 98, 99, 100, 101, 102, 103, 104, 105, 106, 107, 108, 109, 110, 111, 112, 113, 114, 115, 116, 117, 118, 119, 120, 121, 122, 65, 66, 67, 68, 69, 70, 71, 72, 73, 74, 75, 76, 77, 78, 79, 80, 81, 82, 83, 84, 85, 86, 87, 88, 89, 90, 48, 49, 50, 51, 52, 53, 54, 55, 56, 57, 32, 45, 46, 44, 47]
def allS : Str := "abcdefghijklmnopqrstuvwxyzABCDEFGHIJKLMNOPQRSTUVWXYZ0123456789 -.,/"
theorem allS_codes : allS.cps.toList = codes := by decide +kernel
def SgOk (y : Str) : Prop := ∀ c ∈ y.cps.toList, c ∈ codes
instance (y : Str) : Decidable (SgOk y) := by unfold SgOk; infer_instance
theorem SgOk.at {y : Str} (h : SgOk y) {i : Nat} (hi : i < y.cps.size) : y.cps.getD i 0 ∈ codes := by
  have : y.cps.getD i 0 = y.cps[i] := by simp [Array.getD, hi]
  rw [this]
  exact h _ (by simp)
theorem SgOk.one {c : Nat} (h : c ∈ codes) : SgOk ⟨#[c]⟩ := fun z hz => by
  have : z = c := by simpa using hz
  rw [this]; exact h
theorem app_toList (x y : Str) : (x ++ y).cps.toList = x.cps.toList ++ y.cps.toList := by show (x.cps ++ y.cps).toList = _; simp
theorem app_size (x y : Str) : (x ++ y).cps.size = x.cps.size + y.cps.size := by show (x.cps ++ y.cps).size = _; simp
theorem app_length (x y : Str) : (x ++ y).length = x.length + y.length := app_size x y
theorem SgOk.app {x y : Str} (hx : SgOk x) (hy : SgOk y) : SgOk (x ++ y) := fun c hc => by
  rw [app_toList, List.mem_append] at hc
  rcases hc with h | h
  · exact hx c h
  · exact hy c h
theorem slice_mem {x : Str} {l u : Option Int} {c : Nat} (h : c ∈ (Txt.slice x l u).cps.toList) : c ∈ x.cps.toList := by
  unfold Txt.slice at h
  split at h
  · exact h
  · simp only [List.mem_filterMap] at h
    obtain ⟨j, _, hj⟩ := h
    have := Array.getElem?_eq_some_iff.mp hj
    obtain ⟨h1, rfl⟩ := this; simp
theorem SgOk.slice {x : Str} (h : SgOk x) (l u : Option Int) : SgOk (Txt.slice x l u) := fun c hc => h c (slice_mem hc)
theorem SgOk.join : ∀ {ys : List Str}, (∀ y ∈ ys, SgOk y) → SgOk (Txt.join "" ys) := fun {ys} h => by
  show SgOk (Builtin.Str.glued "" ys)
  rw [StrLaws.glued_eq_join]
  induction ys with
  | nil => exact (by decide)
  | cons x r ih =>
    cases r with
    | nil => exact h x List.mem_cons_self
    | cons y r =>
      show SgOk (x ++ ("" : Str) ++ Str.join "" (y :: r))
      exact ((h x List.mem_cons_self).app (by decide)).app (ih fun z hz => h z (List.mem_cons_of_mem _ hz))
theorem mul_size (x : Str) {n : Int} (h : 0 ≤ n) : (Txt.mul x n).cps.size = x.cps.size * n.toNat := by
  unfold Txt.mul
  split
  · have : n = 0 := by omega
    subst this
    simp [Str.empty]
  · split
    · rename_i h1 h2
      simp only [Bool.or_eq_true, beq_iff_eq] at h2
      rcases h2 with h2 | h2
      · subst h2; simp
      · have : x.cps.size = 0 := h2
        rw [this]; simp
    · show ((List.replicate n.toNat x.cps).foldl (· ++ ·) #[]).size = _
      rw [len_foldl_app]
      simp [Nat.mul_comm]
theorem mem_foldl_app {c : Nat} : ∀ (l : List (Array Nat)) (a : Array Nat), c ∈ (l.foldl (· ++ ·) a).toList → c ∈ a.toList ∨ ∃ b ∈ l, c ∈ b.toList
  | [], a, h => .inl h
  | b :: r, a, h => by
    rw [List.foldl_cons] at h
    rcases mem_foldl_app r _ h with h | ⟨b', h1, h2⟩
    · rw [Array.toList_append, List.mem_append] at h
      rcases h with h | h
      · exact .inl h
      · exact .inr ⟨b, List.mem_cons_self, h⟩
    · exact .inr ⟨b', List.mem_cons_of_mem _ h1, h2⟩
theorem mul_mem {x : Str} {n : Int} {c : Nat} (h : c ∈ (Txt.mul x n).cps.toList) : c ∈ x.cps.toList := by
  unfold Txt.mul at h
  split at h
  · simp [Str.empty] at h
  · split at h
    · exact h
    · rcases mem_foldl_app _ _ h with h | ⟨b, h1, h2⟩
      · simp at h
      · rw [List.eq_of_mem_replicate h1] at h2; exact h2
theorem SgOk.mul {x : Str} (h : SgOk x) (n : Int) : SgOk (Txt.mul x n) := fun c hc => h c (mul_mem hc)
/-! lists of texts -/
theorem strsD_of : ∀ {ds : List D}, (∀ d ∈ ds, ∃ s : Str, d = .str s) → ∃ ys, strsD ds = some ys ∧ ds = ys.map D.str
  | [], _ => ⟨[], rfl, rfl⟩
  | d :: ds, h => by
    obtain ⟨s, rfl⟩ := h d List.mem_cons_self
    obtain ⟨ys, e, e2⟩ := strsD_of fun z hz => h z (List.mem_cons_of_mem _ hz)
    exact ⟨s :: ys, by simp [strsD, e], by simp [← e2]⟩
theorem strsD_map (ys : List Str) : strsD (ys.map D.str) = some ys := by
  induction ys with
  | nil => rfl
  | cons y r ih => simp [strsD, ih]
theorem sum_le {ys : List Str} {n : Nat} (h : ∀ y ∈ ys, y.length ≤ n) : (ys.map (·.length)).sum ≤ ys.length * n := by
  induction ys with
  | nil => simp
  | cons y r ih =>
    have h1 := h y List.mem_cons_self
    have h2 := ih fun z hz => h z (List.mem_cons_of_mem _ hz)
    simp only [List.map_cons, List.sum_cons, List.length_cons, Nat.add_mul]
    omega
/-- join of texts of few signs each -/
theorem w_joinN {L : Sto} {Q : D → Sto → Prop} {k n : Nat} {ds : List D} (e : L[k]? = some (.lst ds)) (h : ∀ d ∈ ds, ∃ s : Str, d = .str s ∧ SgOk s ∧ s.length ≤ n) (hz : ds.length * n ≤ 16777216)
    (q : ∀ t : Str, SgOk t → t.length ≤ ds.length * n → Q (.str t) L) : W2 (gJoin (.str "") [.ref k] L) Q := by
  obtain ⟨ys, e2, e3⟩ := strsD_of fun d hd => let ⟨s, a, _⟩ := h d hd; ⟨s, a⟩
  have hy : ∀ y ∈ ys, SgOk y ∧ y.length ≤ n := fun y hy => by
    obtain ⟨s, a, b, c⟩ := h (.str y) (by rw [e3]; exact List.mem_map_of_mem hy)
    cases a; exact ⟨b, c⟩
  have hl : ds.length = ys.length := by rw [e3]; simp
  have e0 : (Str.ofString "").length = 0 := rfl
  have hs := sum_le (n := n) fun y h => (hy y h).2
  rw [hl] at hz
  refine g_join e e2 (by rw [e0]; omega) (q _ (SgOk.join fun y h => (hy y h).1) ?_)
  rw [hl]
  have := join_len "" ys
  rw [e0] at this
  omega
/-- a comprehension that makes nothing beside its list: what holds of each item -/
theorem wc_all {g : GF} {c : TF} {elt : EF} {L0 : Sto} {Q : Sto → Prop} (P : Fm → Prop) (E : D → Prop) {items : List D} {ρ : Fm}
    (hp : P ρ) (hz : items.length ≤ 16777216)
    (h : ∀ x ∈ items, ∀ ρ, P ρ → W1 (g x ρ) fun ρ1 => P ρ1 ∧ ∀ acc, W2 (c ρ1 (L0 ++ [.lst acc])) fun b L1 => L1 = L0 ++ [.lst acc] ∧ Br b (W2 (elt ρ1 (L0 ++ [.lst acc])) fun d L2 => L2 = L0 ++ [.lst acc] ∧ E d) True)
    (q : ∀ ds : List D, ds.length ≤ items.length → (∀ d ∈ ds, E d) → Q (L0 ++ [.lst ds])) : W1 (compL (fun _ => true) g c elt L0.length items ρ (L0 ++ [.lst []])) Q := by
  refine wc_inv (I := fun j ρ L => P ρ ∧ ∃ ds : List D, ds.length ≤ j ∧ (∀ d ∈ ds, E d) ∧ L = L0 ++ [.lst ds]) items 0 ρ _ ⟨hp, [], Nat.le_refl _, fun d hd => (nomatch hd), rfl⟩ ?_ ?_
  · rintro i x ρ L e ⟨hp, ds, hl, hE, rfl⟩
    refine ⟨rfl, ?_⟩
    have hi : i < items.length := (List.getElem?_eq_some_iff.mp e).1
    obtain ⟨ρ1, e1, hp1, h2⟩ := h x (List.mem_of_getElem? e) ρ hp
    obtain ⟨b, L1, e2, rfl, q⟩ := h2 ds
    refine ⟨ρ1, e1, b, _, e2, ?_⟩
    cases b
    · exact ⟨hp1, ds, by omega, hE, rfl⟩
    · obtain ⟨d, L2, e3, rfl, q⟩ := q
      refine ⟨d, _, e3, ds, by simp, by omega, hp1, ds ++ [d], by simp; omega, fun z hz => ?_, by simp⟩
      rcases List.mem_append.mp hz with h | h
      · exact hE z h
      · have : z = d := by simpa using h
        rw [this]; exact q
  · rintro ρ L ⟨_, ds, hl, hE, rfl⟩
    exact ⟨rfl, q ds (by omega) hE⟩
theorem bls_all {ds : List D} (h : ∀ d ∈ ds, ∃ b : Bool, d = .bl b) : ∃ bs, blsD ds = some bs ∧ ds = bs.map D.bl := by
  induction ds with
  | nil => exact ⟨[], rfl, rfl⟩
  | cons d r ih =>
    obtain ⟨b, rfl⟩ := h d List.mem_cons_self
    obtain ⟨bs, e, e2⟩ := ih fun z hz => h z (List.mem_cons_of_mem _ hz)
    exact ⟨b :: bs, by simp [blsD, e], by simp [← e2]⟩
end L3

set_option maxHeartbeats 4000000
namespace L3
open PySem PySem.Spec PyProof.Rows L2
/-! == at any depth: what holds -/
def okD : Nat → D → Bool
  | 0, _ => false
  | n + 1, .tup xs => xs.all (okD n)
  | n + 1, .fz xs => xs.all (okD n)
  | _ + 1, .ref _ => false
  | _ + 1, .ty _ => false
  | _ + 1, _ => true
theorem allO_true : ∀ {os : List (Option Bool)}, (∀ o ∈ os, o = some true) → allO os = some true
  | [], _ => rfl
  | o :: r, h => by
    have h1 := h o List.mem_cons_self
    subst h1
    rw [allO, allO_true fun o ho => h o (List.mem_cons_of_mem _ ho)]
    rfl
theorem zip_self_mem {xs : List D} {z : D × D} (h : z ∈ xs.zip xs) : z.1 = z.2 ∧ z.1 ∈ xs := by
  induction xs with
  | nil => simp at h
  | cons x r ih =>
    rw [List.zip_cons_cons] at h
    rcases List.mem_cons.mp h with rfl | h
    · exact ⟨rfl, List.mem_cons_self⟩
    · exact ⟨(ih h).1, List.mem_cons_of_mem _ (ih h).2⟩
theorem eqN_refl : ∀ (n : Nat) (L : Sto) (x : D), okD n x = true → eqN n L x x = some true
  | 0, _, _, h => by cases h
  | n + 1, L, x, h => by
    have seqs : ∀ xs : List D, xs.all (okD n) = true → allO ((xs.zip xs).map fun z => eqN n L z.1 z.2) = some true := fun xs hx => by
      refine allO_true fun o ho => ?_
      rw [List.mem_map] at ho
      obtain ⟨z, hz, rfl⟩ := ho
      obtain ⟨e1, e2⟩ := zip_self_mem hz
      rw [← e1]
      exact eqN_refl n L z.1 (List.all_eq_true.mp hx _ e2)
    rw [eqN_succ]
    cases x with
    | tup xs =>
      simp only [okD] at h
      simp [flatD, shp, seqs xs h]
    | fz xs =>
      simp only [okD] at h
      simp [flatD, shp, seqs xs h]
    | ref k => simp [okD] at h
    | ty k => simp [okD] at h
    | non => simp only [flatD, if_true]; rw [eqP_self rfl]
    | bl b => simp only [flatD, if_true]; rw [eqP_self rfl]
    | int b => simp only [flatD, if_true]; rw [eqP_self rfl]
    | str b => simp only [flatD, if_true]; rw [eqP_self rfl]
section
variable {Q : D → Sto → Prop} {L : Sto}
theorem eqN_lists {a b : Nat} {xs : List D} (e1 : L[a]? = some (.lst xs)) (e2 : L[b]? = some (.lst xs)) (h : xs.all (okD 29) = true) : eqN 30 L (.ref a) (.ref b) = some true := by
  rw [show (30 : Nat) = 29 + 1 from rfl, eqN_succ]
  have : allO ((xs.zip xs).map fun z => eqN 29 L z.1 z.2) = some true := by
    refine allO_true fun o ho => ?_
    rw [List.mem_map] at ho
    obtain ⟨z, hz, rfl⟩ := ho
    obtain ⟨e1, e2⟩ := zip_self_mem hz
    rw [← e1]
    exact eqN_refl 29 L z.1 (List.all_eq_true.mp h _ e2)
  simp [flatD, shp, e1, e2, this]
theorem gEqD_lists {a b : Nat} {xs : List D} (e1 : L[a]? = some (.lst xs)) (e2 : L[b]? = some (.lst xs)) (h : xs.all (okD 29) = true) (q : Q (.bl true) L) : W2 (gEqD (.ref a) (.ref b) L) Q := by
  refine ⟨_, _, ?_, q⟩
  unfold gEqD
  rw [if_neg (by simp [scalD, flatD]), if_pos (by simp [seqD, shp, e1, e2]), eqN_lists e1 e2 h]
  rfl
theorem gNeD_lists {a b : Nat} {xs : List D} (e1 : L[a]? = some (.lst xs)) (e2 : L[b]? = some (.lst xs)) (h : xs.all (okD 29) = true) (q : Q (.bl false) L) : W2 (gNeD (.ref a) (.ref b) L) Q := by
  refine ⟨_, _, ?_, q⟩
  unfold gNeD
  rw [if_neg (by simp [scalD, flatD]), if_pos (by simp [seqD, shp, e1, e2]), eqN_lists e1 e2 h]
  simp [shp, e1, e2]
/-! a loop that appends -/
def Keep (k : Nat) (L L' : Sto) : Prop := L.length ≤ L'.length ∧ ∀ j, j ≠ k → j < L.length → L'[j]? = L[j]?
theorem Keep.refl (k : Nat) (L : Sto) : Keep k L L := ⟨Nat.le_refl _, fun _ _ _ => rfl⟩
theorem Keep.trans {k : Nat} {L L1 L2 : Sto} (a : Keep k L L1) (b : Keep k L1 L2) : Keep k L L2 := ⟨Nat.le_trans a.1 b.1, fun j h1 h2 => by rw [b.2 j h1 (by have := a.1; omega), a.2 j h1 h2]⟩
theorem Keep.app (k : Nat) (L M : Sto) : Keep k L (L ++ M) := ⟨by simp, fun j _ h => by rw [List.getElem?_append_left h]⟩
theorem Keep.set (k : Nat) (L : Sto) (o : Ob) : Keep k L (L.set k o) := ⟨by simp, fun j h _ => by rw [List.getElem?_set_ne (Ne.symm h)]⟩
theorem Keep.get {k j : Nat} {L L' : Sto} {o : Ob} (h : Keep k L L') (n : j ≠ k) (e : L[j]? = some o) : L'[j]? = some o := by
  rw [h.2 j n (List.getElem?_eq_some_iff.mp e).1]; exact e
theorem ws_app {nx : Fm → Sto → Prop} {rt : D → Sto → Prop} {bk ct : Fm → Sto → Prop} {ok : Sto → Bool} {gf : GF} {body : SF} (P : Fm → Prop) (k m B : Nat) (f : D → List D) {items : List D} {ρ : Fm} {acc : List D}
    (hk : L[k]? = some (.lst acc)) (hp : P ρ) (hm : ∀ x ∈ items, (f x).length ≤ m) (hB : acc.length + items.length * m ≤ B)
    (turn : ∀ x ∈ items, ∀ ρ L' acc', P ρ → Keep k L L' → L'[k]? = some (.lst acc') → acc'.length ≤ B → ok L' = true ∧ W1 (gf x ρ) fun ρ1 => WS (body ρ1 L') (fun ρ2 L2 => P ρ2 ∧ Keep k L' L2 ∧ L2[k]? = some (.lst (acc' ++ f x))) rt (fun _ _ => False) (fun ρ2 L2 => P ρ2 ∧ Keep k L' L2 ∧ L2[k]? = some (.lst (acc' ++ f x))))
    (fin : ∀ ρ L', P ρ → Keep k L L' → L'[k]? = some (.lst (acc ++ items.flatMap f)) → ok L' = true ∧ nx ρ L') : WS (loopL ok gf body items ρ L) nx rt bk ct := by
  refine ws_loop (fun j ρ L' => P ρ ∧ Keep k L L' ∧ L'[k]? = some (.lst (acc ++ (items.take j).flatMap f))) items 0 ρ L ⟨hp, .refl k L, by simpa using hk⟩ ?_ ?_
  · rintro i x ρ L' hx ⟨hp, hkp, hl⟩
    have hi : i < items.length := (List.getElem?_eq_some_iff.mp hx).1
    have hxm := List.mem_of_getElem? hx
    have ht : items.take (0 + i + 1) = items.take (0 + i) ++ [x] := by rw [Nat.zero_add, List.take_add_one, hx]; rfl
    have hlen : (acc ++ (items.take (0 + i)).flatMap f).length ≤ B := by
      have h1 : ∀ (l : List D), (∀ x ∈ l, (f x).length ≤ m) → (l.flatMap f).length ≤ l.length * m := fun l => by
        induction l with
        | nil => intro _; simp
        | cons y r ih =>
          intro h
          have := ih fun z hz => h z (List.mem_cons_of_mem _ hz)
          have := h y List.mem_cons_self
          simp only [List.flatMap_cons, List.length_append, List.length_cons, Nat.add_mul]
          omega
      have h2 := h1 (items.take (0 + i)) fun x hx => hm x (List.mem_of_mem_take hx)
      have h3 : (items.take (0 + i)).length * m ≤ items.length * m := Nat.mul_le_mul_right _ (by simp; omega)
      rw [List.length_append]
      omega
    obtain ⟨h1, ρ1, e1, h2⟩ := turn x hxm ρ L' _ hp hkp hl hlen
    refine ⟨h1, ρ1, e1, ?_⟩
    have go : ∀ ρ2 L2, (P ρ2 ∧ Keep k L' L2 ∧ L2[k]? = some (.lst ((acc ++ (items.take (0 + i)).flatMap f) ++ f x))) → P ρ2 ∧ Keep k L L2 ∧ L2[k]? = some (.lst (acc ++ (items.take (0 + i + 1)).flatMap f)) := fun ρ2 L2 ⟨a, b, c⟩ => ⟨a, hkp.trans b, by rw [c, ht]; simp⟩
    exact h2.mono go (fun _ _ h => h) (fun _ _ h => h.elim) go
  · rintro ρ L' ⟨hp, hkp, hl⟩
    exact fin ρ L' hp hkp (by simpa using hl)
theorem g_addLc {a b : Nat} {xs ys : List D} (e1 : L[a]? = some (.lst xs)) (e2 : L[b]? = some (.lst ys)) (hz : Nat.ble (xs.length + ys.length) 16777216 = true) (h : Q (.ref L.length) (L ++ [.lst (xs ++ ys)])) : W2 (gAdd (.ref a) (.ref b) L) Q := g_addL e1 e2 (Nat.le_of_ble_eq_true hz) h
theorem gEqD_S {x y : Str} (h : Q (.bl (decide (x = y))) L) : W2 (gEqD (.str x) (.str y) L) Q := ⟨_, _, by unfold gEqD; rw [if_pos (show scalD (D.str x) (D.str y) = true from rfl), dec_congr (show D.str x = D.str y ↔ x = y by simp)], h⟩
theorem gEqD_I {x y : Int} (h : Q (.bl (decide (x = y))) L) : W2 (gEqD (.int x) (.int y) L) Q := ⟨_, _, by unfold gEqD; rw [if_pos (show scalD (D.int x) (D.int y) = true from rfl), dec_congr (show D.int x = D.int y ↔ x = y by simp)], h⟩
theorem gEqD_B {x y : Bool} (h : Q (.bl (decide (x = y))) L) : W2 (gEqD (.bl x) (.bl y) L) Q := ⟨_, _, by unfold gEqD; rw [if_pos (show scalD (D.bl x) (D.bl y) = true from rfl), dec_congr (show D.bl x = D.bl y ↔ x = y by simp)], h⟩
theorem gNeD_S {x y : Str} (h : Q (.bl (!decide (x = y))) L) : W2 (gNeD (.str x) (.str y) L) Q := ⟨_, _, by unfold gNeD; rw [if_pos (show scalD (D.str x) (D.str y) = true from rfl), dec_congr (show D.str x = D.str y ↔ x = y by simp)], h⟩
theorem gNeD_I {x y : Int} (h : Q (.bl (!decide (x = y))) L) : W2 (gNeD (.int x) (.int y) L) Q := ⟨_, _, by unfold gNeD; rw [if_pos (show scalD (D.int x) (D.int y) = true from rfl), dec_congr (show D.int x = D.int y ↔ x = y by simp)], h⟩
end
end L3

set_option maxHeartbeats 8000000
namespace L3
open PySem PySem.Spec PyProof.Rows L2
def c_KINDS : D := D.tup [D.str "small", D.str "great", D.str "figure", D.str "mark", D.str "any"]
def c_NTHS : D := D.tup [D.int (1), D.int (2), D.int (-1), D.int (-2)]
def c_EDGES : D := D.tup [D.str "ahead", D.str "behind"]
/-! all_places -/
def N_all_places : List Str := ["places", "kind", "nth", "edge"]
def B_all_places : SF :=
  (seqF (setF 0 (lstV nilA))
  (seqF (forF (iAnyF (cst c_KINDS)) (gNameF 1) (forF (iAnyF (cst c_NTHS)) (gNameF 2) (forF (iAnyF (cst c_EDGES)) (gNameF 3) (exprF (mthF "list" gAppend (var 0) (consA (tupV (consA (var 1) (consA (var 2) (consA (var 3) nilA)))) nilA))))))
  (retF (var 0))))
def G_all_places : GL := runG (B_all_places) N_all_places 0
/-! is_word_among -/
def N_is_word_among : List Str := ["thing", "words"]
def B_is_word_among : SF :=
  (retF (andV (callB gInst (consA (var 0) (consA (cst (.ty "str")) nilA))) (bin2 (gInN false) (var 0) (var 1))))
def G_is_word_among : GL := runG (B_is_word_among) N_is_word_among 2
/-! is_nth -/
def N_is_nth : List Str := ["thing"]
def B_is_nth : SF :=
  (retF (andV (callB gInst (consA (var 0) (consA (cst (.ty "int")) nilA))) (andV (notV (callB gInst (consA (var 0) (consA (cst (.ty "bool")) nilA)))) (bin2 (gInN false) (var 0) (cst c_NTHS)))))
def G_is_nth : GL := runG (B_is_nth) N_is_nth 1
/-! is_place -/
def N_is_place : List Str := ["thing"]
def B_is_place (G_is_word_among : GL) (G_is_nth : GL) : SF :=
  (seqF (ifF (orT (notT (asT (callB gInst (consA (var 0) (consA (cst (.ty "tuple")) nilA))))) (asT (bin2 gNe (callB gLen (consA (var 0) nilA)) (cst (.int 3))))) (retF (cst (.bl false))) nextF)
  (retF (andV (callB G_is_word_among (consA (bin2 gIx (var 0) (cst (.int 0))) (consA (cst c_KINDS) nilA))) (andV (callB G_is_nth (consA (bin2 gIx (var 0) (cst (.int 1))) nilA)) (callB G_is_word_among (consA (bin2 gIx (var 0) (cst (.int 2))) (consA (cst c_EDGES) nilA)))))))
def G_is_place : GL := runG (B_is_place G_is_word_among G_is_nth) N_is_place 1
/-! lw_cell -/
def N_lw_cell : List Str := ["_law_script", "_law_k", "_law_number"]
def B_lw_cell : SF :=
  (seqF (ifF (asT (bin2 gLt (var 1) (callB gLen (consA (var 0) nilA)))) (retF (bin2 gMod (bin2 gMul (bin2 gAdd (bin2 gIx (var 0) (var 1)) (cst (.int 7919))) (cst (.int 2718281828459045235360287471352662497757))) (bin2 gPow (cst (.int 10)) (cst (.int 40))))) nextF)
  (seqF (setF 2 (bin2 gAdd (bin2 gMul (bin2 gMul (var 1) (var 1)) (cst (.int 7919))) (cst (.int 5))))
  (seqF (ifF (asT (bin2 gGt (callB gLen (consA (var 0) nilA)) (cst (.int 0)))) (setF 2 (bin2 gAdd (var 2) (bin2 gMul (bin2 gMod (bin2 gIx (var 0) (bin2 gMod (bin2 gMul (var 1) (cst (.int 7))) (callB gLen (consA (var 0) nilA)))) (bin2 gPow (cst (.int 10)) (cst (.int 40)))) (cst (.int 48271))))) nextF)
  (retF (bin2 gMod (bin2 gMul (bin2 gMod (bin2 gMul (var 2) (var 2)) (cst (.int 2147483629))) (cst (.int 2718281828459045235360287471352662497757))) (bin2 gPow (cst (.int 10)) (cst (.int 40))))))))
def G_lw_cell : GL := runG (B_lw_cell) N_lw_cell 2
/-! lw_place -/
def N_lw_place : List Str := ["_law_cell_here", "_law_kind"]
def B_lw_place : SF :=
  (seqF (setF 1 (bin2 gIx (lstV (consA (cst (.str "small")) (consA (cst (.str "great")) (consA (cst (.str "figure")) (consA (cst (.str "mark")) (consA (cst (.str "any")) nilA)))))) (bin2 gMod (var 0) (cst (.int 5)))))
  (retF (tupV (consA (var 1) (consA (bin2 gIx (lstV (consA (cst (.int 1)) (consA (cst (.int 2)) (consA (un1 gNeg (cst (.int 1))) (consA (un1 gNeg (cst (.int 2))) nilA))))) (bin2 gMod (bin2 gFdiv (var 0) (cst (.int 5))) (cst (.int 4)))) (consA (bin2 gIx (lstV (consA (cst (.str "ahead")) (consA (cst (.str "behind")) nilA))) (bin2 gMod (bin2 gFdiv (var 0) (cst (.int 20))) (cst (.int 2)))) nilA))))))
def G_lw_place : GL := runG (B_lw_place) N_lw_place 1
/-! lw_is_place -/
def N_lw_is_place : List Str := ["_law_thing"]
def B_lw_is_place : SF :=
  (seqF (ifF (orT (notT (asT (callB gInst (consA (var 0) (consA (cst (.ty "tuple")) nilA))))) (asT (bin2 gNe (callB gLen (consA (var 0) nilA)) (cst (.int 3))))) (retF (cst (.bl false))) nextF)
  (seqF (ifF (orT (notT (asT (callB gInst (consA (bin2 gIx (var 0) (cst (.int 1))) (consA (cst (.ty "int")) nilA))))) (orT (asT (callB gInst (consA (bin2 gIx (var 0) (cst (.int 1))) (consA (cst (.ty "bool")) nilA)))) (asT (bin2 (gInN true) (bin2 gIx (var 0) (cst (.int 1))) (tupV (consA (cst (.int 1)) (consA (cst (.int 2)) (consA (un1 gNeg (cst (.int 1))) (consA (un1 gNeg (cst (.int 2))) nilA))))))))) (retF (cst (.bl false))) nextF)
  (seqF (ifF (orT (notT (asT (callB gInst (consA (bin2 gIx (var 0) (cst (.int 0))) (consA (cst (.ty "str")) nilA))))) (notT (asT (callB gInst (consA (bin2 gIx (var 0) (cst (.int 2))) (consA (cst (.ty "str")) nilA)))))) (retF (cst (.bl false))) nextF)
  (retF (andV (bin2 (gInN false) (bin2 gIx (var 0) (cst (.int 0))) (tupV (consA (cst (.str "small")) (consA (cst (.str "great")) (consA (cst (.str "figure")) (consA (cst (.str "mark")) (consA (cst (.str "any")) nilA))))))) (bin2 (gInN false) (bin2 gIx (var 0) (cst (.int 2))) (tupV (consA (cst (.str "ahead")) (consA (cst (.str "behind")) nilA)))))))))
def G_lw_is_place : GL := runG (B_lw_is_place) N_lw_is_place 1
/-! lw_told -/
def N_lw_told : List Str := ["_law_found", "_law_due_here"]
def B_lw_told : SF :=
  (retF (andV (callB gInst (consA (var 0) (consA (cst (.ty "bool")) nilA))) (bin2 gEq (var 0) (var 1))))
def G_lw_told : GL := runG (B_lw_told) N_lw_told 2
/-! lw_due -/
def N_lw_due : List Str := ["_law_found", "_law_kind", "_law_nth", "_law_edge"]
def B_lw_due : SF :=
  (seqF (setF 0 (lstV nilA))
  (seqF (forF (iAnyF (lstV (consA (cst (.str "small")) (consA (cst (.str "great")) (consA (cst (.str "figure")) (consA (cst (.str "mark")) (consA (cst (.str "any")) nilA))))))) (gNameF 1) (forF (iAnyF (lstV (consA (cst (.int 1)) (consA (cst (.int 2)) (consA (un1 gNeg (cst (.int 1))) (consA (un1 gNeg (cst (.int 2))) nilA)))))) (gNameF 2) (forF (iAnyF (lstV (consA (cst (.str "ahead")) (consA (cst (.str "behind")) nilA)))) (gNameF 3) (exprF (mthF "list" gAppend (var 0) (consA (tupV (consA (var 1) (consA (var 2) (consA (var 3) nilA)))) nilA))))))
  (retF (var 0))))
def G_lw_due : GL := runG (B_lw_due) N_lw_due 0
/-! lw_spoiled -/
def N_lw_spoiled : List Str := ["_law_place_here", "_law_cell_here", "_law_kind", "_law_nth", "_law_edge", "_law_number", "_law_words", "_law_edges", "_law_some"]
def B_lw_spoiled : SF :=
  (seqF (asgF (var 0) (gTupF 3 (gConsF (gNameF 2) (gConsF (gNameF 3) (gConsF (gNameF 4) gNilF)))))
  (seqF (setF 5 (bin2 gMod (bin2 gFdiv (var 1) (cst (.int 64))) (bin2 gPow (cst (.int 10)) (cst (.int 30)))))
  (seqF (setF 6 (lstV (consA (cst (.str "")) (consA (cst (.str "Small")) (consA (cst (.str "any ")) (consA (cst (.str "ahead")) (consA (cst (.str "sign")) (consA (cst (.str "figures")) (consA (cst (.str "smal")) nilA)))))))))
  (seqF (setF 7 (lstV (consA (cst (.str "")) (consA (cst (.str "Ahead")) (consA (cst (.str "before")) (consA (cst (.str "any")) (consA (cst (.str "behind ")) (consA (cst (.str "ahea")) (consA (cst (.str "aheadbehind")) nilA)))))))))
  (seqF (setF 8 (lstV (consA (tupV (consA (bin2 gIx (var 6) (bin2 gMod (var 5) (cst (.int 7)))) (consA (var 3) (consA (var 4) nilA)))) (consA (tupV (consA (cst .non) (consA (var 3) (consA (var 4) nilA)))) (consA (tupV (consA (var 2) (consA (var 3) (consA (bin2 gIx (var 7) (bin2 gMod (var 5) (cst (.int 7)))) nilA)))) (consA (tupV (consA (var 2) (consA (var 3) (consA (cst .non) nilA)))) nilA))))))
  (seqF (setF 8 (bin2 gAdd (var 8) (lstV (consA (tupV (consA (var 2) (consA (cst (.int 0)) (consA (var 4) nilA)))) (consA (tupV (consA (var 2) (consA (bin2 gAdd (cst (.int 3)) (var 5)) (consA (var 4) nilA)))) (consA (tupV (consA (var 2) (consA (bin2 gSub (un1 gNeg (cst (.int 3))) (var 5)) (consA (var 4) nilA)))) (consA (tupV (consA (var 2) (consA (bin2 gEq (var 3) (cst (.int 1))) (consA (var 4) nilA)))) nilA)))))))
  (seqF (setF 8 (bin2 gAdd (var 8) (lstV (consA (tupV (consA (var 2) (consA (cst (.bl true)) (consA (var 4) nilA)))) (consA (tupV (consA (var 2) (consA (callB gStrI (consA (var 3) nilA)) (consA (var 4) nilA)))) (consA (tupV (consA (var 2) (consA (cst .non) (consA (var 4) nilA)))) (consA (tupV (consA (var 2) (consA (var 3) nilA))) (consA (tupV (consA (var 2) (consA (var 3) (consA (var 4) (consA (var 3) nilA))))) nilA))))))))
  (seqF (setF 8 (bin2 gAdd (var 8) (lstV (consA (lstV (consA (var 2) (consA (var 3) (consA (var 4) nilA)))) (consA (tupV (consA (var 4) (consA (var 3) (consA (var 2) nilA)))) (consA (tupV (consA (var 3) (consA (var 2) (consA (var 4) nilA)))) (consA (tupV (consA (var 2) (consA (tupV (consA (var 3) nilA)) (consA (var 4) nilA)))) (consA (bin2 gAdd (var 2) (var 4)) nilA))))))))
  (seqF (setF 8 (bin2 gAdd (var 8) (lstV (consA (tupV (consA (lstV (consA (var 2) nilA)) (consA (var 3) (consA (var 4) nilA)))) (consA (tupV (consA (var 2) (consA (lstV (consA (var 3) nilA)) (consA (var 4) nilA)))) (consA (tupV (consA (var 2) (consA (var 3) (consA dNewV nilA)))) (consA (tupV (consA (var 2) (consA (var 3) (consA (lstV (consA (var 4) nilA)) nilA)))) (consA (tupV (consA dNewV (consA (var 3) (consA (var 4) nilA)))) nilA))))))))
  (retF (bin2 gIx (var 8) (bin2 gMod (var 1) (callB gLen (consA (var 8) nilA))))))))))))))
def G_lw_spoiled : GL := runG (B_lw_spoiled) N_lw_spoiled 2
/-! law -/
def N_law : List Str := ["_law_script", "_law_due_here", "_law_found", "_law_place_here", "_law_cells", "_law_cell_here", "_law_thing"]
def B_law (G_all_places : GL) (G_is_place : GL) (G_lw_cell : GL) (G_lw_place : GL) (G_lw_is_place : GL) (G_lw_told : GL) (G_lw_due : GL) (G_lw_spoiled : GL) : SF :=
  (seqF (setF 1 (callB G_lw_due nilA))
  (seqF (setF 2 (callB G_all_places nilA))
  (seqF (ifF (orT (notT (asT (callB gInst (consA (var 2) (consA (cst (.ty "list")) nilA))))) (asT (bin2 gNeD (var 2) (var 1)))) (retF (cst (.bl false))) nextF)
  (seqF (forF (iAnyF (var 2)) (gNameF 3) (ifF (orT (notT (asT (callB G_lw_is_place (consA (var 3) nilA)))) (notT (asT (callB G_lw_told (consA (callB G_is_place (consA (var 3) nilA)) (consA (cst (.bl true)) nilA)))))) (retF (cst (.bl false))) nextF))
  (seqF (exprF (mthF "list" gAppend (var 2) (consA (cst (.int 1)) nilA)))
  (seqF (setF 4 (compF (iRng1F (consA (callB gMin (consA (cst (.int 30)) (consA (callB gMax (consA (cst (.int 1)) (consA (callB gLen (consA (var 0) nilA)) nilA))) nilA))) nilA)) 1 [0] (gNameF 0) trueT (callB G_lw_cell (consA (var 1) (consA (var 0) nilA)))))
  (seqF (forF (iAnyF (var 4)) (gNameF 5) (seqF (setF 3 (callB G_lw_place (consA (var 5) nilA)))
  (ifF (orT (notT (asT (callB G_lw_told (consA (callB G_is_place (consA (var 3) nilA)) (consA (cst (.bl true)) nilA))))) (notT (asT (callB G_lw_told (consA (callB G_is_place (consA (callB G_lw_spoiled (consA (var 3) (consA (bin2 gFdiv (var 5) (cst (.int 40))) nilA))) nilA)) (consA (cst (.bl false)) nilA)))))) (retF (cst (.bl false))) nextF)))
  (seqF (forF (iAnyF (lstV (consA (cst .non) (consA (cst (.bl true)) (consA (cst (.int 1)) (consA (cst (.str "any")) (consA (tupV nilA) (consA (lstV nilA) (consA dNewV (consA (tupV (consA (cst (.str "any")) nilA)) (consA (cst (.str "any 1 ahead")) nilA))))))))))) (gNameF 6) (ifF (notT (asT (callB G_lw_told (consA (callB G_is_place (consA (var 6) nilA)) (consA (cst (.bl false)) nilA))))) (retF (cst (.bl false))) nextF))
  (retF (andV (bin2 gEqD (callB G_all_places nilA) (var 1)) (bin2 gEqD (var 2) (bin2 gAdd (var 1) (lstV (consA (cst (.int 1)) nilA))))))))))))))
def G_law : GL := runG (B_law G_all_places G_is_place G_lw_cell G_lw_place G_lw_is_place G_lw_told G_lw_due G_lw_spoiled) N_law 1
end L3

set_option maxHeartbeats 4000000
--BEGIN WPT
local macro_rules | `(tactic| wtm_at "z_lk") => `(tactic| first | (with_reducible assumption) | (with_reducible exact L3.get_last) | ((with_reducible refine L3.get_app ?_); wtm_at "z_lk") | ((with_reducible refine L3.get_setS ?_); wtm_at "z_lk") | fail)
local macro_rules | `(tactic| wtm_at "z_pf") => `(tactic| first | exact List.prefix_refl _ | assumption | ((with_reducible refine List.IsPrefix.trans ?_ (List.prefix_append _ _)); wtm_at "z_pf") | ((with_reducible refine L3.pre_set ?_ ?_); (focus wtm_at "z_pf"); (focus (first | exact Nat.le_refl _ | simp))) | fail)
local macro_rules | `(tactic| wtm_at "z_u") => `(tactic| fail)
local macro_rules | `(tactic| wtm_at "z_1") => `(tactic| first | wtm_at "z_u" | (with_reducible refine L3.ws_seq ?_) | (with_reducible refine L3.ws_set ?_) | (with_reducible refine L3.ws_if ?_) | (with_reducible refine L3.ws_ret ?_) | (with_reducible refine L3.ws_next ?_) | (with_reducible refine L3.ws_expr ?_) | (with_reducible refine L3.ws_asg ?_) | (with_reducible refine L3.ws_for ?_) | (with_reducible refine L3.ws_brk ?_) | (with_reducible refine L3.ws_cont ?_) | (with_reducible refine L3.ws_retN ?_) | ((with_reducible refine' L3.w_var ?k1 ?_); (case k1 => with_unfolding_all rfl)) | (with_reducible refine L3.w_cst ?_) | (with_reducible refine L3.w_bin ?_) | (with_reducible refine L3.w_callB ?_) | (with_reducible refine L3.w_consA ?_) | (with_reducible refine L3.w_nilA ?_) | (with_reducible refine L3.w_asT ?_) | (with_reducible refine L3.w_notT ?_) | (with_reducible refine L3.w_andT ?_) | (with_reducible refine L3.w_orT ?_) | (with_reducible refine L3.w_trueT ?_) | (with_reducible refine L3.w_tupV ?_) | (with_reducible refine L3.w_lstV ?_) | (with_reducible refine L3.w_mthF ?_) | (with_reducible refine L3.w_ifV ?_) | (with_reducible refine L3.w_andV ?_) | (with_reducible refine L3.w_orV ?_) | (with_reducible refine L3.w_notV ?_) | (with_reducible refine L3.w_slF ?_) | (with_reducible refine L3.w_noO ?_) | (with_reducible refine L3.w_asO ?_) | (with_reducible refine L3.w_un ?_) | (with_reducible refine L3.w_comp ?_) | (with_reducible refine L3.w_dNew ?_) | (with_reducible refine L3.w_dOne ?_) | (with_reducible refine L3.wi_any ?_) | (with_reducible refine L3.wi_tup ?_) | (with_reducible refine L3.wi_fz ?_) | (with_reducible refine L3.wi_str ?_) | (with_reducible refine L3.wi_rng1 ?_) | (with_reducible refine L3.wi_rng2 ?_) | (with_reducible refine L3.wi_enum ?_) | (with_reducible refine L3.enum_mk ?_) | (with_reducible refine L3.br_t ?_) | (with_reducible refine L3.br_f ?_) | (with_reducible refine L3.br_not ?_) | (with_reducible refine L3.br_nN ?_) | (with_reducible refine L3.br_nI ?_) | (with_reducible refine L3.br_nS ?_) | (with_reducible refine L3.br_nT ?_) | (with_reducible refine L3.br_nB ?_) | (with_reducible refine L3.br_nR ?_) | (with_reducible refine L3.isB_mk ?_) | (with_reducible refine L3.isI_mk ?_) | (with_reducible refine L3.ty_str ?_) | (with_reducible refine L3.ty_fz ?_) | (with_reducible refine L3.wg_name ?_) | (with_reducible refine L3.wg_nil ?_) | (with_reducible refine L3.wg_cons ?_) | (with_reducible refine L3.g_addI ?_) | (with_reducible refine L3.g_sub ?_) | (with_reducible refine L3.g_neg ?_) | (with_reducible refine L3.g_lt ?_) | (with_reducible refine L3.g_le ?_) | (with_reducible refine L3.g_gt ?_) | (with_reducible refine L3.g_ge ?_) | (with_reducible refine L3.g_eqI ?_) | (with_reducible refine L3.g_eqS ?_) | (with_reducible refine L3.g_eqB ?_) | (with_reducible refine L3.g_neI ?_) | (with_reducible refine L3.g_neS ?_) | (with_reducible refine L3.g_eqNS ?_) | (with_reducible refine L3.g_is ?_) | (with_reducible refine L3.g_isnot ?_) | (with_reducible refine L3.g_inS ?_) | (with_reducible refine L3.g_slS ?_) | (with_reducible refine L3.g_lenS ?_) | (with_reducible refine L3.g_lenT ?_) | (with_reducible refine L3.g_lenF ?_) | (with_reducible refine L3.g_abs ?_) | (with_reducible refine L3.g_max ?_) | (with_reducible refine L3.g_min ?_) | (with_reducible refine L3.g_intI ?_) | (with_reducible refine L3.g_intB ?_) | (with_reducible refine L3.g_tupT ?_) | (with_reducible refine L3.g_listT ?_) | (with_reducible refine L3.g_s0b ?_) | ((with_reducible refine' L3.wg_tup ?k1 ?_); (case k1 => with_unfolding_all rfl)) | ((with_reducible refine' L3.le16c ?k1 ?_); (case k1 => with_unfolding_all rfl)) | ((with_reducible refine' L3.g_mod ?k1 ?_); (case k1 => first | rfl | (unfold L3.cMod; refine decide_eq_true ?_; omega))) | ((with_reducible refine' L3.g_fdiv ?k1 ?_); (case k1 => first | rfl | (unfold L3.cDiv; rw [Bool.and_eq_true]; constructor <;> refine decide_eq_true ?_ <;> omega))) | (with_reducible refine L3.g_pow40 ?_) | (with_reducible refine L3.g_pow30 ?_) | (with_reducible refine L3.g_pow6 ?_) | (with_reducible refine L3.g_pow60 ?_) | ((with_reducible refine' L3.g_ixT ?k1 ?_); (case k1 => with_unfolding_all rfl)) | ((with_reducible refine' L3.g_ixS ?k1 ?_); (case k1 => with_unfolding_all rfl)) | ((with_reducible refine' L3.g_lenR ?k1 ?_); (case k1 => wtm_at "z_lk")) | ((with_reducible refine' L3.ty_lst ?k1 ?_); (case k1 => wtm_at "z_lk")) | ((with_reducible refine' L3.wi_ref ?k1 ?_); (case k1 => wtm_at "z_lk")) | ((with_reducible refine' L3.g_tupR ?k1 ?_); (case k1 => wtm_at "z_lk")) | ((with_reducible refine' L3.g_listR ?k1 ?_); (case k1 => wtm_at "z_lk")) | ((with_reducible refine' L3.g_slR ?k1 ?_); (case k1 => wtm_at "z_lk")) | ((with_reducible refine' L3.g_instT ?k1 ?k2 ?k3 ?_); (case k1 => with_unfolding_all rfl); (case k2 => (first | with_unfolding_all rfl | (refine L3.ty_of_lst ?_; wtm_at "z_lk") | (refine L3.ty_of_dk ?_; wtm_at "z_lk"))); (case k3 => with_unfolding_all rfl)) | ((with_reducible refine' L3.g_instF ?k1 ?k2 ?k3 ?_); (case k1 => with_unfolding_all rfl); (case k2 => (first | with_unfolding_all rfl | (refine L3.ty_of_lst ?_; wtm_at "z_lk") | (refine L3.ty_of_dk ?_; wtm_at "z_lk"))); (case k3 => with_unfolding_all rfl)) | ((with_reducible refine' L3.g_addLc ?k1 ?k2 ?k3 ?_); (case k1 => wtm_at "z_lk"); (case k2 => wtm_at "z_lk"); (case k3 => with_unfolding_all rfl)) | (with_reducible refine L3.gEqD_S ?_) | (with_reducible refine L3.gEqD_I ?_) | (with_reducible refine L3.gEqD_B ?_) | (with_reducible refine L3.gNeD_S ?_) | (with_reducible refine L3.gNeD_I ?_) | ((with_reducible refine' L3.rng1_mk ?k1 ?_); (case k1 => first | decide | omega)) | ((with_reducible refine' L3.rng2_mk ?k1 ?_); (case k1 => first | decide | omega)) | ((with_reducible refine' L3.br_decT ?k1 ?_); (case k1 => first | rfl | assumption | decide | omega)) | ((with_reducible refine' L3.br_decF ?k1 ?_); (case k1 => first | rfl | assumption | decide | omega)) | fail)
local macro_rules | `(tactic| wtm_at "z") => `(tactic| repeat' (wtm_at "z_1"))
--END WPT
namespace L3
open PySem PySem.Spec PyProof.Rows L2
def NthOk (n : Int) : Prop := n = 1 ∨ n = 2 ∨ n = -1 ∨ n = -2
def IsPlace (d : D) : Prop := ∃ (kind : Str) (nth : Int) (edge : Str), d = .tup [.str kind, .int nth, .str edge] ∧ NthOk nth ∧ (edge = "ahead" ∨ edge = "behind") ∧ kind ∈ ([("small" : Str), "great", "figure", "mark", "any"] : List Str)
theorem cell_w {Q : D → Sto → Prop} {L : Sto} {ns : List Int} (hb : ∀ z ∈ ns, Builtin.Int.intBits z ≤ 1048576) (hn : ns.length ≤ 63) {k : Int} (h0 : 0 ≤ k) (h1 : k < 1000) (q : ∀ v : Int, 0 ≤ v → v < 10000000000000000000000000000000000000000 → Q (.int v) L) : W2 (G_lw_cell [.fz (ns.map .int), .int k] L) Q := by
  have hC : Builtin.Int.intBits 2718281828459045235360287471352662497757 ≤ 132 := by decide
  have hlen : ((ns.map D.int).length : Int) = ns.length := by simp
  unfold G_lw_cell
  refine w_run rfl ?_
  unfold B_lw_cell
  have fin : ∀ x : Int, 0 ≤ x % 10000000000000000000000000000000000000000 ∧ x % 10000000000000000000000000000000000000000 < 10000000000000000000000000000000000000000 := fun x => ⟨Int.emod_nonneg _ (by decide), Int.emod_lt_of_pos _ (by decide)⟩
  wtm_at "z"
  refine br_dec (fun hk => ?_) (fun hk => ?_)
  · obtain ⟨z, hz, ez⟩ := atI_ints h0 (hlen ▸ hk)
    wtm_at "z"
    refine g_ixF ez ?_
    wtm_at "z"
    refine g_mulI (mulOk_le (m := 1048577) (PySem.intBits_add_le (m := 1048576) (n := 13) (hb z hz) (by decide)) hC (by decide)) ?_
    wtm_at "z"
    exact ⟨rfl, List.prefix_refl _, q _ (fin _).1 (fin _).2⟩
  · wtm_at "z"
    have hkk : 0 ≤ k * k ∧ k * k ≤ 1000000 := by
      have a1 : k * k ≤ 1000 * 1000 := Int.mul_le_mul (by omega) (by omega) h0 (by omega)
      exact ⟨Int.mul_nonneg h0 h0, by omega⟩
    refine g_mulI (mulOk_l (by omega)) ?_
    wtm_at "z"
    refine g_mulI (mulOk_r (by omega)) ?_
    wtm_at "z"
    have rest : ∀ v : Int, 0 ≤ v → v < 100000000000000000000000000000000000000000000000 → cMul v v = true ∧ ∀ x : Int, cMul (x % 2147483629) 2718281828459045235360287471352662497757 = true := fun v a b => by
      have hv : Builtin.Int.intBits v ≤ 160 := bits_of_lt (by
        have : (v.natAbs : Int) < ((2 ^ 160 : Nat) : Int) := by
          have e : ((2 ^ 160 : Nat) : Int) = 1461501637330902918203684832716283019655932542976 := by decide
          rw [e]
          omega
        exact Int.ofNat_lt.mp this)
      refine ⟨mulOk_le hv hv (by decide), fun x => mulOk_l ?_⟩
      have := Int.emod_nonneg x (b := 2147483629) (by decide)
      have := Int.emod_lt_of_pos x (b := 2147483629) (by decide)
      omega
    refine br_dec (fun hl => ?_) (fun hl => ?_)
    · have hpos : 0 < (ns.length : Int) := by omega
      wtm_at "z"
      refine g_mulI (mulOk_r (by omega)) ?_
      wtm_at "z"
      obtain ⟨z, hz, ez⟩ := atI_ints (ns := ns) (k := k * 7 % ((ns.map D.int).length : Int)) (Int.emod_nonneg _ (by omega)) (by have := Int.emod_lt_of_pos (k * 7) (b := ((ns.map D.int).length : Int)) (by omega); omega)
      refine g_ixF ez ?_
      wtm_at "z"
      refine g_mulI (mulOk_r (by omega)) ?_
      have hr := fin z
      wtm_at "z"
      obtain ⟨f1, f2⟩ := rest (k * k * 7919 + 5 + z % 10000000000000000000000000000000000000000 * 48271) (by omega) (by omega)
      refine g_mulI f1 ?_
      wtm_at "z"
      refine g_mulI (f2 _) ?_
      wtm_at "z"
      exact ⟨rfl, List.prefix_refl _, q _ (fin _).1 (fin _).2⟩
    · wtm_at "z"
      obtain ⟨f1, f2⟩ := rest (k * k * 7919 + 5) (by omega) (by omega)
      refine g_mulI f1 ?_
      wtm_at "z"
      refine g_mulI (f2 _) ?_
      wtm_at "z"
      exact ⟨rfl, List.prefix_refl _, q _ (fin _).1 (fin _).2⟩
def inL (d : D) (ws : List D) : Bool := match d with | .str _ => inD d ws | _ => false
def nthB (d : D) : Bool := match d with | .int i => inD (.int i) [.int 1, .int 2, .int (-1), .int (-2)] | _ => false
def kindsL : List D := [.str "small", .str "great", .str "figure", .str "mark", .str "any"]
def edgesL : List D := [.str "ahead", .str "behind"]
theorem among_w {Q : D → Sto → Prop} {L : Sto} {d : D} {ws : List D} {t : String} (ht : tyName d L = some t) (hw : ws.all flatD = true) (h : Q (.bl (inL d ws)) L) : W2 (G_is_word_among [d, .tup ws] L) Q := by
  unfold G_is_word_among
  refine w_run rfl ?_
  unfold B_is_word_among
  wtm_at "z"
  cases d with
  | str s =>
    refine g_instT rfl rfl rfl ?_
    wtm_at "z"
    refine g_inT (by rw [hw]; rfl) ?_
    exact ⟨rfl, List.prefix_refl _, h⟩
  | non => refine g_instF rfl rfl rfl ?_; wtm_at "z"; exact ⟨rfl, List.prefix_refl _, h⟩
  | bl b => refine g_instF rfl rfl rfl ?_; wtm_at "z"; exact ⟨rfl, List.prefix_refl _, h⟩
  | int b => refine g_instF rfl rfl rfl ?_; wtm_at "z"; exact ⟨rfl, List.prefix_refl _, h⟩
  | tup b => refine g_instF rfl rfl rfl ?_; wtm_at "z"; exact ⟨rfl, List.prefix_refl _, h⟩
  | fz b => refine g_instF rfl rfl rfl ?_; wtm_at "z"; exact ⟨rfl, List.prefix_refl _, h⟩
  | ty b => cases ht
  | ref k =>
    have : t = "list" ∨ t = "dict" := by
      simp only [tyName] at ht
      split at ht
      · cases ht; exact .inl rfl
      · cases ht; exact .inr rfl
      · cases ht
    rcases this with rfl | rfl
    · refine g_instF rfl ht rfl ?_; wtm_at "z"; exact ⟨rfl, List.prefix_refl _, h⟩
    · refine g_instF rfl ht rfl ?_; wtm_at "z"; exact ⟨rfl, List.prefix_refl _, h⟩
theorem nth_w {Q : D → Sto → Prop} {L : Sto} {d : D} {t : String} (ht : tyName d L = some t) (h : Q (.bl (nthB d)) L) : W2 (G_is_nth [d] L) Q := by
  unfold G_is_nth
  refine w_run rfl ?_
  simp only [B_is_nth, c_NTHS]
  wtm_at "z"
  cases d with
  | int i =>
    refine g_instT rfl rfl rfl ?_
    wtm_at "z"
    refine g_inT rfl ?_
    exact ⟨rfl, List.prefix_refl _, h⟩
  | non => refine g_instF rfl rfl rfl ?_; wtm_at "z"; exact ⟨rfl, List.prefix_refl _, h⟩
  | bl b => refine g_instT rfl rfl rfl ?_; wtm_at "z"; exact ⟨rfl, List.prefix_refl _, h⟩
  | str b => refine g_instF rfl rfl rfl ?_; wtm_at "z"; exact ⟨rfl, List.prefix_refl _, h⟩
  | tup b => refine g_instF rfl rfl rfl ?_; wtm_at "z"; exact ⟨rfl, List.prefix_refl _, h⟩
  | fz b => refine g_instF rfl rfl rfl ?_; wtm_at "z"; exact ⟨rfl, List.prefix_refl _, h⟩
  | ty b => cases ht
  | ref k =>
    have : t = "list" ∨ t = "dict" := by
      simp only [tyName] at ht
      split at ht
      · cases ht; exact .inl rfl
      · cases ht; exact .inr rfl
      · cases ht
    rcases this with rfl | rfl
    · refine g_instF rfl ht rfl ?_; wtm_at "z"; exact ⟨rfl, List.prefix_refl _, h⟩
    · refine g_instF rfl ht rfl ?_; wtm_at "z"; exact ⟨rfl, List.prefix_refl _, h⟩
/-- a tuple of three -/
theorem place3_w {Q : D → Sto → Prop} {L : Sto} {a b c : D} {ta tb tc : String} (ha : tyName a L = some ta) (hb : tyName b L = some tb) (hc : tyName c L = some tc) (h : Q (.bl (inL a kindsL && (nthB b && inL c edgesL))) L) : W2 (G_is_place [.tup [a, b, c]] L) Q := by
  unfold G_is_place
  refine w_run rfl ?_
  simp only [B_is_place, c_KINDS, c_EDGES]
  wtm_at "z"
  refine among_w ha rfl ?_
  wtm_at "z"
  have ea : inL a [.str "small", .str "great", .str "figure", .str "mark", .str "any"] = inL a kindsL := rfl
  have ec : inL c [.str "ahead", .str "behind"] = inL c edgesL := rfl
  rw [ea]
  cases h1 : inL a kindsL with
  | false => rw [h1] at h; wtm_at "z"; exact ⟨rfl, List.prefix_refl _, h⟩
  | true =>
    rw [h1, Bool.true_and] at h
    wtm_at "z"
    refine nth_w hb ?_
    wtm_at "z"
    cases h2 : nthB b with
    | false => rw [h2] at h; wtm_at "z"; exact ⟨rfl, List.prefix_refl _, h⟩
    | true =>
      rw [h2, Bool.true_and] at h
      wtm_at "z"
      refine among_w hc rfl ?_
      rw [ec]
      exact ⟨rfl, List.prefix_refl _, h⟩
theorem placeLen_w {Q : D → Sto → Prop} {L : Sto} {xs : List D} (hl : xs.length ≠ 3) (h : Q (.bl false) L) : W2 (G_is_place [.tup xs] L) Q := by
  unfold G_is_place
  refine w_run rfl ?_
  unfold B_is_place
  have hl' : ¬ ((xs.length : Int) = 3) := by omega
  wtm_at "z"
  exact ⟨rfl, List.prefix_refl _, h⟩
theorem placeOth_w {Q : D → Sto → Prop} {L : Sto} {d : D} {t : String} (ht : tyName d L = some t) (n : instOf t "tuple" = false) (h : Q (.bl false) L) : W2 (G_is_place [d] L) Q := by
  unfold G_is_place
  refine w_run rfl ?_
  unfold B_is_place
  wtm_at "z"
  refine g_instF rfl ht n ?_
  wtm_at "z"
  exact ⟨rfl, List.prefix_refl _, h⟩
theorem kind_in {kind : Str} (h : kind ∈ ([("small" : Str), "great", "figure", "mark", "any"] : List Str)) : inL (.str kind) kindsL = true := by
  simp only [List.mem_cons, List.not_mem_nil, or_false] at h
  rcases h with rfl | rfl | rfl | rfl | rfl <;> decide +kernel
theorem edge_in {edge : Str} (h : edge = "ahead" ∨ edge = "behind") : inL (.str edge) edgesL = true := by rcases h with rfl | rfl <;> decide +kernel
theorem nth_in {n : Int} (h : NthOk n) : nthB (.int n) = true := by rcases h with rfl | rfl | rfl | rfl <;> decide +kernel
theorem isplace_w {Q : D → Sto → Prop} {L : Sto} {p : D} (hp : IsPlace p) (h : Q (.bl true) L) : W2 (G_is_place [p] L) Q := by
  obtain ⟨kind, nth, edge, rfl, hn, he, hk⟩ := hp
  refine place3_w rfl rfl rfl ?_
  rw [kind_in hk, nth_in hn, edge_in he]
  exact h
theorem menu_mem {L : Sto} {Q : D → Sto → Prop} {k : Nat} {xs : List D} {n : Int} (c : Int) (e : L[k]? = some (.lst xs)) (h0 : 0 < n) (h : n ≤ xs.length) (q : ∀ d ∈ xs, Q d L) : W2 (gIx (.ref k) (.int (c % n)) L) Q := by
  obtain ⟨d, hd, e2⟩ := atI_mod (xs := xs) c h0 h
  exact g_ixR e e2 (q d hd)
theorem lw_place_w {Q : D → Sto → Prop} {L : Sto} (c : Int) (q : ∀ p, IsPlace p → Q p L) : W2 (G_lw_place [.int c] L) Q := by
  unfold G_lw_place
  refine w_run rfl ?_
  unfold B_lw_place
  wtm_at "z"
  refine menu_mem c get_last (by decide) (by decide) fun d hd => ?_
  wtm_at "z"
  refine menu_mem (c / 5) get_last (by decide) (by decide) fun d2 hd2 => ?_
  wtm_at "z"
  refine menu_mem (c / 20) get_last (by decide) (by decide) fun d3 hd3 => ?_
  wtm_at "z"
  simp only [List.mem_cons, List.not_mem_nil, or_false] at hd hd2 hd3
  have hk : ∃ kind : Str, d = .str kind ∧ kind ∈ ([("small" : Str), "great", "figure", "mark", "any"] : List Str) := by
    rcases hd with rfl | rfl | rfl | rfl | rfl
    · exact ⟨_, rfl, by decide⟩
    · exact ⟨_, rfl, by decide⟩
    · exact ⟨_, rfl, by decide⟩
    · exact ⟨_, rfl, by decide⟩
    · exact ⟨_, rfl, by decide⟩
  have hn : ∃ n : Int, d2 = .int n ∧ NthOk n := by
    rcases hd2 with rfl | rfl | rfl | rfl
    · exact ⟨_, rfl, .inl rfl⟩
    · exact ⟨_, rfl, .inr (.inl rfl)⟩
    · exact ⟨_, rfl, .inr (.inr (.inl rfl))⟩
    · exact ⟨_, rfl, .inr (.inr (.inr rfl))⟩
  have he : ∃ e : Str, d3 = .str e ∧ (e = "ahead" ∨ e = "behind") := by
    rcases hd3 with rfl | rfl
    · exact ⟨_, rfl, .inl rfl⟩
    · exact ⟨_, rfl, .inr rfl⟩
  obtain ⟨kind, rfl, hk⟩ := hk
  obtain ⟨n, rfl, hn⟩ := hn
  obtain ⟨e, rfl, he⟩ := he
  exact ⟨rfl, by wtm_at "z_pf", q _ ⟨kind, n, e, rfl, hn, he, hk⟩⟩
end L3

set_option maxHeartbeats 4000000
--BEGIN WPT
local macro_rules | `(tactic| wtm_at "z_lk") => `(tactic| first | (with_reducible assumption) | (with_reducible exact L3.get_last) | ((with_reducible refine L3.get_app ?_); wtm_at "z_lk") | ((with_reducible refine L3.get_setS ?_); wtm_at "z_lk") | fail)
local macro_rules | `(tactic| wtm_at "z_pf") => `(tactic| first | exact List.prefix_refl _ | assumption | ((with_reducible refine List.IsPrefix.trans ?_ (List.prefix_append _ _)); wtm_at "z_pf") | ((with_reducible refine L3.pre_set ?_ ?_); (focus wtm_at "z_pf"); (focus (first | exact Nat.le_refl _ | simp))) | fail)
local macro_rules | `(tactic| wtm_at "z_u") => `(tactic| fail)
local macro_rules | `(tactic| wtm_at "z_1") => `(tactic| first | wtm_at "z_u" | (with_reducible refine L3.ws_seq ?_) | (with_reducible refine L3.ws_set ?_) | (with_reducible refine L3.ws_if ?_) | (with_reducible refine L3.ws_ret ?_) | (with_reducible refine L3.ws_next ?_) | (with_reducible refine L3.ws_expr ?_) | (with_reducible refine L3.ws_asg ?_) | (with_reducible refine L3.ws_for ?_) | (with_reducible refine L3.ws_brk ?_) | (with_reducible refine L3.ws_cont ?_) | (with_reducible refine L3.ws_retN ?_) | ((with_reducible refine' L3.w_var ?k1 ?_); (case k1 => with_unfolding_all rfl)) | (with_reducible refine L3.w_cst ?_) | (with_reducible refine L3.w_bin ?_) | (with_reducible refine L3.w_callB ?_) | (with_reducible refine L3.w_consA ?_) | (with_reducible refine L3.w_nilA ?_) | (with_reducible refine L3.w_asT ?_) | (with_reducible refine L3.w_notT ?_) | (with_reducible refine L3.w_andT ?_) | (with_reducible refine L3.w_orT ?_) | (with_reducible refine L3.w_trueT ?_) | (with_reducible refine L3.w_tupV ?_) | (with_reducible refine L3.w_lstV ?_) | (with_reducible refine L3.w_mthF ?_) | (with_reducible refine L3.w_ifV ?_) | (with_reducible refine L3.w_andV ?_) | (with_reducible refine L3.w_orV ?_) | (with_reducible refine L3.w_notV ?_) | (with_reducible refine L3.w_slF ?_) | (with_reducible refine L3.w_noO ?_) | (with_reducible refine L3.w_asO ?_) | (with_reducible refine L3.w_un ?_) | (with_reducible refine L3.w_comp ?_) | (with_reducible refine L3.w_dNew ?_) | (with_reducible refine L3.w_dOne ?_) | (with_reducible refine L3.wi_any ?_) | (with_reducible refine L3.wi_tup ?_) | (with_reducible refine L3.wi_fz ?_) | (with_reducible refine L3.wi_str ?_) | (with_reducible refine L3.wi_rng1 ?_) | (with_reducible refine L3.wi_rng2 ?_) | (with_reducible refine L3.wi_enum ?_) | (with_reducible refine L3.enum_mk ?_) | (with_reducible refine L3.br_t ?_) | (with_reducible refine L3.br_f ?_) | (with_reducible refine L3.br_not ?_) | (with_reducible refine L3.br_nN ?_) | (with_reducible refine L3.br_nI ?_) | (with_reducible refine L3.br_nS ?_) | (with_reducible refine L3.br_nT ?_) | (with_reducible refine L3.br_nB ?_) | (with_reducible refine L3.br_nR ?_) | (with_reducible refine L3.isB_mk ?_) | (with_reducible refine L3.isI_mk ?_) | (with_reducible refine L3.ty_str ?_) | (with_reducible refine L3.ty_fz ?_) | (with_reducible refine L3.wg_name ?_) | (with_reducible refine L3.wg_nil ?_) | (with_reducible refine L3.wg_cons ?_) | (with_reducible refine L3.g_addI ?_) | (with_reducible refine L3.g_sub ?_) | (with_reducible refine L3.g_neg ?_) | (with_reducible refine L3.g_lt ?_) | (with_reducible refine L3.g_le ?_) | (with_reducible refine L3.g_gt ?_) | (with_reducible refine L3.g_ge ?_) | (with_reducible refine L3.g_eqI ?_) | (with_reducible refine L3.g_eqS ?_) | (with_reducible refine L3.g_eqB ?_) | (with_reducible refine L3.g_neI ?_) | (with_reducible refine L3.g_neS ?_) | (with_reducible refine L3.g_eqNS ?_) | (with_reducible refine L3.g_is ?_) | (with_reducible refine L3.g_isnot ?_) | (with_reducible refine L3.g_inS ?_) | (with_reducible refine L3.g_slS ?_) | (with_reducible refine L3.g_lenS ?_) | (with_reducible refine L3.g_lenT ?_) | (with_reducible refine L3.g_lenF ?_) | (with_reducible refine L3.g_abs ?_) | (with_reducible refine L3.g_max ?_) | (with_reducible refine L3.g_min ?_) | (with_reducible refine L3.g_intI ?_) | (with_reducible refine L3.g_intB ?_) | (with_reducible refine L3.g_tupT ?_) | (with_reducible refine L3.g_listT ?_) | (with_reducible refine L3.g_s0b ?_) | ((with_reducible refine' L3.wg_tup ?k1 ?_); (case k1 => with_unfolding_all rfl)) | ((with_reducible refine' L3.le16c ?k1 ?_); (case k1 => with_unfolding_all rfl)) | ((with_reducible refine' L3.g_mod ?k1 ?_); (case k1 => first | rfl | (unfold L3.cMod; refine decide_eq_true ?_; omega))) | ((with_reducible refine' L3.g_fdiv ?k1 ?_); (case k1 => first | rfl | (unfold L3.cDiv; rw [Bool.and_eq_true]; constructor <;> refine decide_eq_true ?_ <;> omega))) | (with_reducible refine L3.g_pow40 ?_) | (with_reducible refine L3.g_pow30 ?_) | (with_reducible refine L3.g_pow6 ?_) | (with_reducible refine L3.g_pow60 ?_) | ((with_reducible refine' L3.g_ixT ?k1 ?_); (case k1 => with_unfolding_all rfl)) | ((with_reducible refine' L3.g_ixS ?k1 ?_); (case k1 => with_unfolding_all rfl)) | ((with_reducible refine' L3.g_lenR ?k1 ?_); (case k1 => wtm_at "z_lk")) | ((with_reducible refine' L3.ty_lst ?k1 ?_); (case k1 => wtm_at "z_lk")) | ((with_reducible refine' L3.wi_ref ?k1 ?_); (case k1 => wtm_at "z_lk")) | ((with_reducible refine' L3.g_tupR ?k1 ?_); (case k1 => wtm_at "z_lk")) | ((with_reducible refine' L3.g_listR ?k1 ?_); (case k1 => wtm_at "z_lk")) | ((with_reducible refine' L3.g_slR ?k1 ?_); (case k1 => wtm_at "z_lk")) | ((with_reducible refine' L3.g_instT ?k1 ?k2 ?k3 ?_); (case k1 => with_unfolding_all rfl); (case k2 => (first | with_unfolding_all rfl | (refine L3.ty_of_lst ?_; wtm_at "z_lk") | (refine L3.ty_of_dk ?_; wtm_at "z_lk"))); (case k3 => with_unfolding_all rfl)) | ((with_reducible refine' L3.g_instF ?k1 ?k2 ?k3 ?_); (case k1 => with_unfolding_all rfl); (case k2 => (first | with_unfolding_all rfl | (refine L3.ty_of_lst ?_; wtm_at "z_lk") | (refine L3.ty_of_dk ?_; wtm_at "z_lk"))); (case k3 => with_unfolding_all rfl)) | ((with_reducible refine' L3.g_addLc ?k1 ?k2 ?k3 ?_); (case k1 => wtm_at "z_lk"); (case k2 => wtm_at "z_lk"); (case k3 => with_unfolding_all rfl)) | (with_reducible refine L3.gEqD_S ?_) | (with_reducible refine L3.gEqD_I ?_) | (with_reducible refine L3.gEqD_B ?_) | (with_reducible refine L3.gNeD_S ?_) | (with_reducible refine L3.gNeD_I ?_) | ((with_reducible refine' L3.rng1_mk ?k1 ?_); (case k1 => first | decide | omega)) | ((with_reducible refine' L3.rng2_mk ?k1 ?_); (case k1 => first | decide | omega)) | ((with_reducible refine' L3.br_decT ?k1 ?_); (case k1 => first | rfl | assumption | decide | omega)) | ((with_reducible refine' L3.br_decF ?k1 ?_); (case k1 => first | rfl | assumption | decide | omega)) | fail)
local macro_rules | `(tactic| wtm_at "z") => `(tactic| repeat' (wtm_at "z_1"))
--END WPT
namespace L3
open PySem PySem.Spec PyProof.Rows L2
theorem told_w {Q : D → Sto → Prop} {L : Sto} {a b : Bool} (h : Q (.bl (decide (a = b))) L) : W2 (G_lw_told [.bl a, .bl b] L) Q := by
  unfold G_lw_told
  refine w_run rfl ?_
  unfold B_lw_told
  wtm_at "z"
  exact ⟨rfl, List.prefix_refl _, h⟩
def p1 (k : D) : List D := [D.int 1, .int 2, .int (-1), .int (-2)].flatMap fun n => edgesL.flatMap fun e => [D.tup [k, n, e]]
def places : List D := kindsL.flatMap p1
theorem places_is : ∀ p ∈ places, IsPlace p := by
  intro p hp
  simp only [places, p1, kindsL, edgesL, List.mem_flatMap, List.mem_cons, List.not_mem_nil, or_false] at hp
  obtain ⟨k, hk, n, hn, e, he, rfl⟩ := hp
  have h1 : ∃ s : Str, k = .str s ∧ s ∈ ([("small" : Str), "great", "figure", "mark", "any"] : List Str) := by
    rcases hk with rfl | rfl | rfl | rfl | rfl <;> exact ⟨_, rfl, by decide +kernel⟩
  have h2 : ∃ i : Int, n = .int i ∧ NthOk i := by
    rcases hn with rfl | rfl | rfl | rfl
    · exact ⟨_, rfl, .inl rfl⟩
    · exact ⟨_, rfl, .inr (.inl rfl)⟩
    · exact ⟨_, rfl, .inr (.inr (.inl rfl))⟩
    · exact ⟨_, rfl, .inr (.inr (.inr rfl))⟩
  have h3 : ∃ s : Str, e = .str s ∧ (s = "ahead" ∨ s = "behind") := by
    clear hk hn h1 h2
    rcases he with rfl | rfl
    · exact ⟨_, rfl, .inl rfl⟩
    · exact ⟨_, rfl, .inr rfl⟩
  obtain ⟨s, rfl, hs⟩ := h1
  obtain ⟨i, rfl, hi⟩ := h2
  obtain ⟨e, rfl, he'⟩ := h3
  exact ⟨s, i, e, rfl, hi, he', hs⟩
theorem places_len : places.length = 40 := by decide +kernel
theorem places_ok : places.all (okD 29) = true := by decide +kernel
theorem keep_pre {L L' : Sto} {o : Ob} (h : Keep L.length (L ++ [o]) L') : L <+: L' := by
  rw [List.prefix_iff_getElem?]
  intro j hj
  rw [h.2 j (by omega) (by simp; omega), List.getElem?_append_left hj]
  simp [hj]
theorem all_places_w {Q : D → Sto → Prop} {L : Sto} (h : ∀ L', L'[L.length]? = some (.lst places) → L <+: L' → Q (.ref L.length) L') : W2 (G_all_places [] L) Q := by
  unfold G_all_places
  refine w_runR rfl ?_
  simp only [B_all_places, c_KINDS, c_NTHS, c_EDGES]
  wtm_at "z"
  refine ws_app (fun ρ => ∃ a b c, ρ = [some (.ref L.length), a, b, c]) L.length 8 40 p1 get_last ⟨none, none, none, rfl⟩ (fun x _ => Nat.le_refl _) (by decide) ?_ ?_
  · rintro x hx ρ L1 acc1 ⟨a, b, c, rfl⟩ hkp hl hB
    refine ⟨rfl, ?_⟩
    wtm_at "z"
    refine ws_app (fun ρ => ∃ b c, ρ = [some (.ref L.length), some x, b, c]) L.length 2 48 (fun n => edgesL.flatMap fun e => [D.tup [x, n, e]]) hl ⟨_, _, rfl⟩ (fun x _ => Nat.le_refl _) (by show acc1.length + 8 ≤ 48; omega) ?_ ?_
    · rintro n hn ρ L2 acc2 ⟨b, c, rfl⟩ hkp2 hl2 hB2
      refine ⟨rfl, ?_⟩
      wtm_at "z"
      refine ws_app (fun ρ => ∃ c, ρ = [some (.ref L.length), some x, some n, c]) L.length 1 50 (fun e => [D.tup [x, n, e]]) hl2 ⟨_, rfl⟩ (fun x _ => Nat.le_refl _) (by show acc2.length + 2 ≤ 50; omega) ?_ ?_
      · rintro e he ρ L3 acc3 ⟨c, rfl⟩ hkp3 hl3 hB3
        refine ⟨rfl, ?_⟩
        wtm_at "z"
        refine g_append hl3 (by omega) ?_
        exact ⟨⟨_, rfl⟩, .set _ _ _, get_setS hl3⟩
      · rintro ρ L3 ⟨c, rfl⟩ hkp3 hl3
        exact ⟨rfl, ⟨_, _, rfl⟩, hkp3, hl3⟩
    · rintro ρ L2 ⟨b, c, rfl⟩ hkp2 hl2
      exact ⟨rfl, ⟨_, _, _, rfl⟩, hkp2, hl2⟩
  · rintro ρ L1 ⟨a, b, c, rfl⟩ hkp hl
    refine ⟨rfl, ?_⟩
    wtm_at "z"
    exact ⟨rfl, h _ hl (keep_pre hkp)⟩
theorem due_w {Q : D → Sto → Prop} {L : Sto} (h : ∀ L', L'[L.length]? = some (.lst places) → L <+: L' → Q (.ref L.length) L') : W2 (G_lw_due [] L) Q := by
  unfold G_lw_due
  refine w_runR rfl ?_
  unfold B_lw_due
  wtm_at "z"
  generalize hL0 : L ++ [Ob.lst []] = L0
  have hlen : L0.length = L.length + 1 := by rw [← hL0]; simp
  have hk0 : L0[L.length]? = some (.lst []) := by rw [← hL0]; exact get_last
  refine ws_app (fun ρ => ∃ a b c, ρ = [some (.ref L.length), a, b, c]) L.length 8 40 p1 (get_app hk0) ⟨none, none, none, rfl⟩ (fun x _ => Nat.le_refl _) (by decide) ?_ ?_
  · rintro x hx ρ L1 acc1 ⟨a, b, c, rfl⟩ hkp hl hB
    refine ⟨decide_eq_true (hkp.get (by omega) get_last), ?_⟩
    have hlt1 : L.length < L1.length := (List.getElem?_eq_some_iff.mp hl).1
    wtm_at "z"
    refine ws_app (fun ρ => ∃ b c, ρ = [some (.ref L.length), some x, b, c]) L.length 2 48 (fun n => edgesL.flatMap fun e => [D.tup [x, n, e]]) (get_app hl) ⟨_, _, rfl⟩ (fun x _ => Nat.le_refl _) (by show acc1.length + 8 ≤ 48; omega) ?_ ?_
    · rintro n hn ρ L2 acc2 ⟨b, c, rfl⟩ hkp2 hl2 hB2
      refine ⟨decide_eq_true (hkp2.get (by omega) get_last), ?_⟩
      have hlt2 : L.length < L2.length := (List.getElem?_eq_some_iff.mp hl2).1
      wtm_at "z"
      refine ws_app (fun ρ => ∃ c, ρ = [some (.ref L.length), some x, some n, c]) L.length 1 50 (fun e => [D.tup [x, n, e]]) (get_app hl2) ⟨_, rfl⟩ (fun x _ => Nat.le_refl _) (by show acc2.length + 2 ≤ 50; omega) ?_ ?_
      · rintro e he ρ L3 acc3 ⟨c, rfl⟩ hkp3 hl3 hB3
        refine ⟨decide_eq_true (hkp3.get (by omega) get_last), ?_⟩
        wtm_at "z"
        refine g_append hl3 (by omega) ?_
        exact ⟨⟨_, rfl⟩, .set _ _ _, get_setS hl3⟩
      · rintro ρ L3 ⟨c, rfl⟩ hkp3 hl3
        exact ⟨decide_eq_true (hkp3.get (by omega) get_last), ⟨_, _, rfl⟩, (Keep.app _ _ _).trans hkp3, hl3⟩
    · rintro ρ L2 ⟨b, c, rfl⟩ hkp2 hl2
      exact ⟨decide_eq_true (hkp2.get (by omega) get_last), ⟨_, _, _, rfl⟩, (Keep.app _ _ _).trans hkp2, hl2⟩
  · rintro ρ L1 ⟨a, b, c, rfl⟩ hkp hl
    refine ⟨decide_eq_true (hkp.get (by omega) get_last), ?_⟩
    wtm_at "z"
    refine ⟨rfl, h _ hl (keep_pre (o := .lst []) ?_)⟩
    rw [hL0]
    exact (Keep.app _ _ _).trans hkp
theorem lw_isplace_w {Q : D → Sto → Prop} {L : Sto} {p : D} (hp : IsPlace p) (h : Q (.bl true) L) : W2 (G_lw_is_place [p] L) Q := by
  obtain ⟨kind, nth, edge, rfl, hn, he, hk⟩ := hp
  unfold G_lw_is_place
  refine w_run rfl ?_
  unfold B_lw_is_place
  wtm_at "z"
  refine g_notinT rfl ?_
  have e1 : inD (.int nth) [.int 1, .int 2, .int (-1), .int (-2)] = true := nth_in hn
  rw [e1]
  wtm_at "z"
  refine g_inT rfl ?_
  have e2 : inD (.str kind) [.str "small", .str "great", .str "figure", .str "mark", .str "any"] = true := kind_in hk
  rw [e2]
  wtm_at "z"
  refine g_inT rfl ?_
  have e3 : inD (.str edge) [.str "ahead", .str "behind"] = true := edge_in he
  rw [e3]
  exact ⟨rfl, List.prefix_refl _, h⟩
theorem pre_in {L M : Sto} {p : Prop} (h : L <+: M) (k : L <+: M → p) : L <+: M ∧ p := ⟨h, k h⟩
theorem nth_out {n : Int} (h1 : n ≠ 1) (h2 : n ≠ 2) (h3 : n ≠ -1) (h4 : n ≠ -2) : nthB (.int n) = false := by
  simp only [nthB, inD, eqP, toV, eqV, List.any_cons, List.any_nil, Bool.or_false, Bool.or_eq_false_iff, beq_eq_false_iff_ne]
  omega
theorem edge_out {e : Str} (h : e = "ahead" ∨ e = "behind") : inL (.str e) kindsL = false := by rcases h with rfl | rfl <;> decide +kernel
/-- what is no place -/
def NoPlace (d : D) (L : Sto) : Prop := ∀ {Q : D → Sto → Prop}, Q (.bl false) L → W2 (G_is_place [d] L) Q
theorem np3 {L : Sto} {a b c : D} {ta tb tc : String} (ha : tyName a L = some ta) (hb : tyName b L = some tb) (hc : tyName c L = some tc) (h : (inL a kindsL && (nthB b && inL c edgesL)) = false) : NoPlace (.tup [a, b, c]) L := fun q => place3_w ha hb hc (by rw [h]; exact q)
theorem and3a {a b c : Bool} (h : a = false) : (a && (b && c)) = false := by rw [h]; rfl
theorem and3b {a b c : Bool} (h : b = false) : (a && (b && c)) = false := by rw [h]; cases a <;> rfl
theorem and3c {a b c : Bool} (h : c = false) : (a && (b && c)) = false := by rw [h]; cases a <;> cases b <;> rfl
theorem spoiled_w {Q : D → Sto → Prop} {L : Sto} {p : D} {c : Int} (hp : IsPlace p) (h0 : 0 ≤ c) (h : ∀ d L', NoPlace d L' → L <+: L' → Q d L') : W2 (G_lw_spoiled [p, .int c] L) Q := by
  obtain ⟨kind, nth, edge, rfl, hn, he, hk⟩ := hp
  unfold G_lw_spoiled
  refine w_runX rfl ?_
  unfold B_lw_spoiled
  have hkl : kind.length ≤ 6 := by
    simp only [List.mem_cons, List.not_mem_nil, or_false] at hk
    rcases hk with rfl | rfl | rfl | rfl | rfl <;> decide +kernel
  have hel : edge.length ≤ 6 := by rcases he with rfl | rfl <;> decide +kernel
  have hns : nth.natAbs.log2 < 1920 ∧ (toString nth : Str).length ≤ 16777216 := by rcases hn with rfl | rfl | rfl | rfl <;> decide +kernel
  have hnum := Int.emod_nonneg (c / 64) (b := 1000000000000000000000000000000) (by decide)
  wtm_at "z"
  refine menu_mem _ (by wtm_at "z_lk") (by decide) (by decide) fun w1 hw1 => ?_
  wtm_at "z"
  refine menu_mem _ (by wtm_at "z_lk") (by decide) (by decide) fun w2 hw2 => ?_
  wtm_at "z"
  refine g_strI hns ?_
  wtm_at "z"
  refine g_addS (by omega) ?_
  wtm_at "z"
  have hw1t : ∀ L, tyName w1 L = some "str" := fun L => by
    simp only [List.mem_cons, List.not_mem_nil, or_false] at hw1
    rcases hw1 with rfl | rfl | rfl | rfl | rfl | rfl | rfl <;> rfl
  have hw1f : inL w1 kindsL = false := by
    simp only [List.mem_cons, List.not_mem_nil, or_false] at hw1
    rcases hw1 with rfl | rfl | rfl | rfl | rfl | rfl | rfl <;> decide +kernel
  have hw2t : ∀ L, tyName w2 L = some "str" := fun L => by
    simp only [List.mem_cons, List.not_mem_nil, or_false] at hw2
    rcases hw2 with rfl | rfl | rfl | rfl | rfl | rfl | rfl <;> rfl
  have hw2f : inL w2 edgesL = false := by
    simp only [List.mem_cons, List.not_mem_nil, or_false] at hw2
    rcases hw2 with rfl | rfl | rfl | rfl | rfl | rfl | rfl <;> decide +kernel
  refine menu_mem _ get_last (by simp) (Int.le_refl _) fun d hd => ?_
  refine pre_in ?_ fun hpre => ?_
  · wtm_at "z_pf"
  simp only [List.mem_append, List.mem_cons, List.not_mem_nil, or_false] at hd
  rcases hd with ((((rfl | rfl | rfl | rfl) | rfl | rfl | rfl | rfl) | rfl | rfl | rfl | rfl | rfl) | rfl | rfl | rfl | rfl | rfl) | rfl | rfl | rfl | rfl | rfl
  · exact ⟨fun _ => h _ _ (np3 (hw1t L) rfl rfl (and3a hw1f)) (List.prefix_refl _), fun z => h _ _ (np3 (hw1t _) rfl rfl (and3a hw1f)) hpre⟩
  · exact ⟨fun _ => h _ _ (np3 rfl rfl rfl (and3a rfl)) (List.prefix_refl _), (fun z => by cases z)⟩
  · exact ⟨fun _ => h _ _ (np3 rfl rfl (hw2t L) (and3c hw2f)) (List.prefix_refl _), fun z => h _ _ (np3 rfl rfl (hw2t _) (and3c hw2f)) hpre⟩
  · exact ⟨fun _ => h _ _ (np3 rfl rfl rfl (and3c rfl)) (List.prefix_refl _), (fun z => by cases z)⟩
  · exact ⟨fun _ => h _ _ (np3 rfl rfl rfl (and3b rfl)) (List.prefix_refl _), (fun z => by cases z)⟩
  · exact ⟨fun _ => h _ _ (np3 rfl rfl rfl (and3b (nth_out (by omega) (by omega) (by omega) (by omega)))) (List.prefix_refl _), (fun z => by cases z)⟩
  · exact ⟨fun _ => h _ _ (np3 rfl rfl rfl (and3b (nth_out (by omega) (by omega) (by omega) (by omega)))) (List.prefix_refl _), (fun z => by cases z)⟩
  · exact ⟨fun _ => h _ _ (np3 rfl rfl rfl (and3b rfl)) (List.prefix_refl _), (fun z => by cases z)⟩
  · exact ⟨fun _ => h _ _ (np3 rfl rfl rfl (and3b rfl)) (List.prefix_refl _), (fun z => by cases z)⟩
  · exact ⟨fun _ => h _ _ (np3 rfl rfl rfl (and3b rfl)) (List.prefix_refl _), (fun z => by cases z)⟩
  · exact ⟨fun _ => h _ _ (np3 rfl rfl rfl (and3b rfl)) (List.prefix_refl _), (fun z => by cases z)⟩
  · exact ⟨fun _ => h _ _ (fun q => placeLen_w (by simp) q) (List.prefix_refl _), (fun z => by cases z)⟩
  · exact ⟨fun _ => h _ _ (fun q => placeLen_w (by simp) q) (List.prefix_refl _), (fun z => by cases z)⟩
  · exact ⟨(fun z => by cases z), fun _ => h _ _ (fun q => placeOth_w (ty_of_lst (by wtm_at "z_lk")) rfl q) hpre⟩
  · exact ⟨fun _ => h _ _ (np3 rfl rfl rfl (and3a (edge_out he))) (List.prefix_refl _), (fun z => by cases z)⟩
  · exact ⟨fun _ => h _ _ (np3 rfl rfl rfl (and3a rfl)) (List.prefix_refl _), (fun z => by cases z)⟩
  · exact ⟨fun _ => h _ _ (np3 rfl rfl rfl (and3b rfl)) (List.prefix_refl _), (fun z => by cases z)⟩
  · exact ⟨fun _ => h _ _ (fun q => placeOth_w rfl rfl q) (List.prefix_refl _), (fun z => by cases z)⟩
  · exact ⟨(fun z => by cases z), fun _ => h _ _ (np3 (ty_of_lst (by wtm_at "z_lk")) rfl rfl (and3a rfl)) hpre⟩
  · exact ⟨(fun z => by cases z), fun _ => h _ _ (np3 rfl (ty_of_lst (by wtm_at "z_lk")) rfl (and3b rfl)) hpre⟩
  · exact ⟨(fun z => by cases z), fun _ => h _ _ (np3 rfl rfl (ty_of_dk (by wtm_at "z_lk")) (and3c rfl)) hpre⟩
  · exact ⟨(fun z => by cases z), fun _ => h _ _ (np3 rfl rfl (ty_of_lst (by wtm_at "z_lk")) (and3c rfl)) hpre⟩
  · exact ⟨(fun z => by cases z), fun _ => h _ _ (np3 (ty_of_dk (by wtm_at "z_lk")) rfl rfl (and3a rfl)) hpre⟩
end L3

set_option maxHeartbeats 4000000
--BEGIN WPT
local macro_rules | `(tactic| wtm_at "z_lk") => `(tactic| first | (with_reducible assumption) | (with_reducible exact L3.get_last) | ((with_reducible refine L3.get_app ?_); wtm_at "z_lk") | ((with_reducible refine L3.get_setS ?_); wtm_at "z_lk") | fail)
local macro_rules | `(tactic| wtm_at "z_pf") => `(tactic| first | exact List.prefix_refl _ | assumption | ((with_reducible refine List.IsPrefix.trans ?_ (List.prefix_append _ _)); wtm_at "z_pf") | ((with_reducible refine L3.pre_set ?_ ?_); (focus wtm_at "z_pf"); (focus (first | exact Nat.le_refl _ | simp))) | fail)
local macro_rules | `(tactic| wtm_at "z_u") => `(tactic| fail)
local macro_rules | `(tactic| wtm_at "z_1") => `(tactic| first | wtm_at "z_u" | (with_reducible refine L3.ws_seq ?_) | (with_reducible refine L3.ws_set ?_) | (with_reducible refine L3.ws_if ?_) | (with_reducible refine L3.ws_ret ?_) | (with_reducible refine L3.ws_next ?_) | (with_reducible refine L3.ws_expr ?_) | (with_reducible refine L3.ws_asg ?_) | (with_reducible refine L3.ws_for ?_) | (with_reducible refine L3.ws_brk ?_) | (with_reducible refine L3.ws_cont ?_) | (with_reducible refine L3.ws_retN ?_) | ((with_reducible refine' L3.w_var ?k1 ?_); (case k1 => with_unfolding_all rfl)) | (with_reducible refine L3.w_cst ?_) | (with_reducible refine L3.w_bin ?_) | (with_reducible refine L3.w_callB ?_) | (with_reducible refine L3.w_consA ?_) | (with_reducible refine L3.w_nilA ?_) | (with_reducible refine L3.w_asT ?_) | (with_reducible refine L3.w_notT ?_) | (with_reducible refine L3.w_andT ?_) | (with_reducible refine L3.w_orT ?_) | (with_reducible refine L3.w_trueT ?_) | (with_reducible refine L3.w_tupV ?_) | (with_reducible refine L3.w_lstV ?_) | (with_reducible refine L3.w_mthF ?_) | (with_reducible refine L3.w_ifV ?_) | (with_reducible refine L3.w_andV ?_) | (with_reducible refine L3.w_orV ?_) | (with_reducible refine L3.w_notV ?_) | (with_reducible refine L3.w_slF ?_) | (with_reducible refine L3.w_noO ?_) | (with_reducible refine L3.w_asO ?_) | (with_reducible refine L3.w_un ?_) | (with_reducible refine L3.w_comp ?_) | (with_reducible refine L3.w_dNew ?_) | (with_reducible refine L3.w_dOne ?_) | (with_reducible refine L3.wi_any ?_) | (with_reducible refine L3.wi_tup ?_) | (with_reducible refine L3.wi_fz ?_) | (with_reducible refine L3.wi_str ?_) | (with_reducible refine L3.wi_rng1 ?_) | (with_reducible refine L3.wi_rng2 ?_) | (with_reducible refine L3.wi_enum ?_) | (with_reducible refine L3.enum_mk ?_) | (with_reducible refine L3.br_t ?_) | (with_reducible refine L3.br_f ?_) | (with_reducible refine L3.br_not ?_) | (with_reducible refine L3.br_nN ?_) | (with_reducible refine L3.br_nI ?_) | (with_reducible refine L3.br_nS ?_) | (with_reducible refine L3.br_nT ?_) | (with_reducible refine L3.br_nB ?_) | (with_reducible refine L3.br_nR ?_) | (with_reducible refine L3.isB_mk ?_) | (with_reducible refine L3.isI_mk ?_) | (with_reducible refine L3.ty_str ?_) | (with_reducible refine L3.ty_fz ?_) | (with_reducible refine L3.wg_name ?_) | (with_reducible refine L3.wg_nil ?_) | (with_reducible refine L3.wg_cons ?_) | (with_reducible refine L3.g_addI ?_) | (with_reducible refine L3.g_sub ?_) | (with_reducible refine L3.g_neg ?_) | (with_reducible refine L3.g_lt ?_) | (with_reducible refine L3.g_le ?_) | (with_reducible refine L3.g_gt ?_) | (with_reducible refine L3.g_ge ?_) | (with_reducible refine L3.g_eqI ?_) | (with_reducible refine L3.g_eqS ?_) | (with_reducible refine L3.g_eqB ?_) | (with_reducible refine L3.g_neI ?_) | (with_reducible refine L3.g_neS ?_) | (with_reducible refine L3.g_eqNS ?_) | (with_reducible refine L3.g_is ?_) | (with_reducible refine L3.g_isnot ?_) | (with_reducible refine L3.g_inS ?_) | (with_reducible refine L3.g_slS ?_) | (with_reducible refine L3.g_lenS ?_) | (with_reducible refine L3.g_lenT ?_) | (with_reducible refine L3.g_lenF ?_) | (with_reducible refine L3.g_abs ?_) | (with_reducible refine L3.g_max ?_) | (with_reducible refine L3.g_min ?_) | (with_reducible refine L3.g_intI ?_) | (with_reducible refine L3.g_intB ?_) | (with_reducible refine L3.g_tupT ?_) | (with_reducible refine L3.g_listT ?_) | (with_reducible refine L3.g_s0b ?_) | ((with_reducible refine' L3.wg_tup ?k1 ?_); (case k1 => with_unfolding_all rfl)) | ((with_reducible refine' L3.le16c ?k1 ?_); (case k1 => with_unfolding_all rfl)) | ((with_reducible refine' L3.g_mod ?k1 ?_); (case k1 => first | rfl | (unfold L3.cMod; refine decide_eq_true ?_; omega))) | ((with_reducible refine' L3.g_fdiv ?k1 ?_); (case k1 => first | rfl | (unfold L3.cDiv; rw [Bool.and_eq_true]; constructor <;> refine decide_eq_true ?_ <;> omega))) | (with_reducible refine L3.g_pow40 ?_) | (with_reducible refine L3.g_pow30 ?_) | (with_reducible refine L3.g_pow6 ?_) | (with_reducible refine L3.g_pow60 ?_) | ((with_reducible refine' L3.g_ixT ?k1 ?_); (case k1 => with_unfolding_all rfl)) | ((with_reducible refine' L3.g_ixS ?k1 ?_); (case k1 => with_unfolding_all rfl)) | ((with_reducible refine' L3.g_lenR ?k1 ?_); (case k1 => wtm_at "z_lk")) | ((with_reducible refine' L3.ty_lst ?k1 ?_); (case k1 => wtm_at "z_lk")) | ((with_reducible refine' L3.wi_ref ?k1 ?_); (case k1 => wtm_at "z_lk")) | ((with_reducible refine' L3.g_tupR ?k1 ?_); (case k1 => wtm_at "z_lk")) | ((with_reducible refine' L3.g_listR ?k1 ?_); (case k1 => wtm_at "z_lk")) | ((with_reducible refine' L3.g_slR ?k1 ?_); (case k1 => wtm_at "z_lk")) | ((with_reducible refine' L3.g_instT ?k1 ?k2 ?k3 ?_); (case k1 => with_unfolding_all rfl); (case k2 => (first | with_unfolding_all rfl | (refine L3.ty_of_lst (xs := ?y1) ?y2; (case y2 => wtm_at "z_lk")) | (refine L3.ty_of_dk (xs := ?y1) ?y2; (case y2 => wtm_at "z_lk")))); (case k3 => with_unfolding_all rfl)) | ((with_reducible refine' L3.g_instF ?k1 ?k2 ?k3 ?_); (case k1 => with_unfolding_all rfl); (case k2 => (first | with_unfolding_all rfl | (refine L3.ty_of_lst (xs := ?y1) ?y2; (case y2 => wtm_at "z_lk")) | (refine L3.ty_of_dk (xs := ?y1) ?y2; (case y2 => wtm_at "z_lk")))); (case k3 => with_unfolding_all rfl)) | ((with_reducible refine' L3.g_addLc ?k1 ?k2 ?k3 ?_); (case k1 => wtm_at "z_lk"); (case k2 => wtm_at "z_lk"); (case k3 => with_unfolding_all rfl)) | (with_reducible refine L3.gEqD_S ?_) | (with_reducible refine L3.gEqD_I ?_) | (with_reducible refine L3.gEqD_B ?_) | (with_reducible refine L3.gNeD_S ?_) | (with_reducible refine L3.gNeD_I ?_) | ((with_reducible refine' L3.rng1_mk ?k1 ?_); (case k1 => first | decide | omega)) | ((with_reducible refine' L3.rng2_mk ?k1 ?_); (case k1 => first | decide | omega)) | ((with_reducible refine' L3.br_decT ?k1 ?_); (case k1 => first | rfl | assumption | decide | omega)) | ((with_reducible refine' L3.br_decF ?k1 ?_); (case k1 => first | rfl | assumption | decide | omega)) | fail)
local macro_rules | `(tactic| wtm_at "z") => `(tactic| repeat' (wtm_at "z_1"))
--END WPT
namespace L3
open PySem PySem.Spec PyProof.Rows L2
theorem law_w (ns : List Int) (hn : ns.length ≤ 63) (hb : ∀ z ∈ ns, Builtin.Int.intBits z ≤ 1048576) : W2 (G_law [.fz (ns.map .int)] []) fun d _ => d = .bl true := by
  unfold G_law
  refine w_run rfl ?_
  unfold B_law
  have hlen : ((ns.map D.int).length : Int) = ns.length := by simp
  wtm_at "z"
  refine due_w fun L1 hd1 hp1 => ?_
  wtm_at "z"
  refine all_places_w fun L2 hd2 hp2 => ?_
  have hdue : L2[0]? = some (.lst places) := pref_get hp2 hd1
  have h1 : 0 < L1.length := (List.getElem?_eq_some_iff.mp hd1).1
  wtm_at "z"
  refine gNeD_lists hd2 hdue places_ok ?_
  wtm_at "z"
  refine ws_loop (fun j ρ L => L = L2 ∧ ∃ a, ρ = [some (.fz (ns.map .int)), some (.ref 0), some (.ref L1.length), a, none, none, none]) _ 0 _ _ ⟨rfl, none, rfl⟩ ?_ ?_
  · rintro i x ρ L hx ⟨rfl, a, rfl⟩
    have hx' := places_is x (List.mem_of_getElem? hx)
    refine ⟨decide_eq_true hd2, ?_⟩
    wtm_at "z"
    refine lw_isplace_w hx' ?_
    wtm_at "z"
    refine isplace_w hx' ?_
    wtm_at "z"
    refine told_w ?_
    wtm_at "z"
    exact ⟨rfl, _, rfl⟩
  rintro ρ L ⟨rfl, a, rfl⟩
  refine ⟨decide_eq_true hd2, ?_⟩
  wtm_at "z"
  refine g_append hd2 (by rw [places_len]; decide) ?_
  have hf1 := get_setS (a := Ob.lst (places ++ [D.int 1])) hd2
  have hdue1 := get_setN (a := Ob.lst (places ++ [D.int 1])) (j := L1.length) (k := 0) (by omega) hdue
  generalize L.set L1.length (Ob.lst (places ++ [D.int 1])) = L3 at hf1 hdue1 ⊢
  wtm_at "z"
  refine wc_all (fun ρ => ∃ a, ρ = [a, some (.fz (ns.map .int))]) (fun d => ∃ v : Int, 0 ≤ v ∧ d = .int v) ⟨none, rfl⟩ ?_ ?_ ?_
  · rw [rngD_len]
    split <;> (try split) <;> omega
  · rintro x hx ρ ⟨a, rfl⟩
    obtain ⟨i, hi, rfl⟩ := rngD_mem hx
    wtm_at "z"
    refine ⟨⟨_, rfl⟩, fun acc => ?_⟩
    wtm_at "z"
    refine ⟨rfl, ?_⟩
    wtm_at "z"
    refine cell_w hb hn (by omega) ?_ fun v hv1 hv2 => ?_
    · revert hi
      split <;> (try split) <;> omega
    exact ⟨rfl, v, hv1, rfl⟩
  intro ds hd hE
  clear hd
  have hcl : (L3 ++ [Ob.lst ds])[L3.length]? = some (.lst ds) := get_last
  have hf2 := get_app (M := [Ob.lst ds]) hf1
  have hdue2 := get_app (M := [Ob.lst ds]) hdue1
  generalize L3 ++ [Ob.lst ds] = L4 at hcl hf2 hdue2 ⊢
  wtm_at "z"
  refine ws_loop (fun j ρ L => L4 <+: L ∧ ∃ a b, ρ = [some (.fz (ns.map .int)), some (.ref 0), some (.ref L1.length), a, some (.ref L3.length), b, none]) _ 0 _ _ ⟨List.prefix_refl _, _, none, rfl⟩ ?_ ?_
  · rintro i x ρ L hx ⟨hpre, a, b, rfl⟩
    obtain ⟨v, hv0, rfl⟩ := hE x (List.mem_of_getElem? hx)
    refine ⟨decide_eq_true (pref_get hpre hcl), ?_⟩
    wtm_at "z"
    refine lw_place_w _ fun p hp => ?_
    wtm_at "z"
    refine isplace_w hp ?_
    wtm_at "z"
    refine told_w ?_
    wtm_at "z"
    refine spoiled_w hp (Int.ediv_nonneg hv0 (by decide)) fun d L' hnp hpre2 => ?_
    wtm_at "z"
    refine hnp ?_
    wtm_at "z"
    refine told_w ?_
    wtm_at "z"
    exact ⟨hpre.trans hpre2, _, _, rfl⟩
  rintro ρ L5 ⟨hpre, a, b, rfl⟩
  have hf3 := pref_get hpre hf2
  have hdue3 := pref_get hpre hdue2
  refine ⟨decide_eq_true (pref_get hpre hcl), ?_⟩
  wtm_at "z"
  refine ws_loop_cons (decide_eq_true ?_) ?_
  · wtm_at "z_lk"
  wtm_at "z"
  refine placeOth_w rfl rfl ?_
  wtm_at "z"
  refine told_w ?_
  wtm_at "z"
  refine ws_loop_cons (decide_eq_true ?_) ?_
  · wtm_at "z_lk"
  wtm_at "z"
  refine placeOth_w rfl rfl ?_
  wtm_at "z"
  refine told_w ?_
  wtm_at "z"
  refine ws_loop_cons (decide_eq_true ?_) ?_
  · wtm_at "z_lk"
  wtm_at "z"
  refine placeOth_w rfl rfl ?_
  wtm_at "z"
  refine told_w ?_
  wtm_at "z"
  refine ws_loop_cons (decide_eq_true ?_) ?_
  · wtm_at "z_lk"
  wtm_at "z"
  refine placeOth_w rfl rfl ?_
  wtm_at "z"
  refine told_w ?_
  wtm_at "z"
  refine ws_loop_cons (decide_eq_true ?_) ?_
  · wtm_at "z_lk"
  wtm_at "z"
  refine placeLen_w (by decide) ?_
  wtm_at "z"
  refine told_w ?_
  wtm_at "z"
  refine ws_loop_cons (decide_eq_true ?_) ?_
  · wtm_at "z_lk"
  wtm_at "z"
  refine placeOth_w (ty_of_lst (by wtm_at "z_lk")) rfl ?_
  wtm_at "z"
  refine told_w ?_
  wtm_at "z"
  refine ws_loop_cons (decide_eq_true ?_) ?_
  · wtm_at "z_lk"
  wtm_at "z"
  refine placeOth_w (ty_of_dk (by wtm_at "z_lk")) rfl ?_
  wtm_at "z"
  refine told_w ?_
  wtm_at "z"
  refine ws_loop_cons (decide_eq_true ?_) ?_
  · wtm_at "z_lk"
  wtm_at "z"
  refine placeLen_w (by decide) ?_
  wtm_at "z"
  refine told_w ?_
  wtm_at "z"
  refine ws_loop_cons (decide_eq_true ?_) ?_
  · wtm_at "z_lk"
  wtm_at "z"
  refine placeOth_w rfl rfl ?_
  wtm_at "z"
  refine told_w ?_
  wtm_at "z"
  refine ws_loop_nil (decide_eq_true ?_) ?_
  · wtm_at "z_lk"
  wtm_at "z"
  refine all_places_w fun L6 hd6 hp6 => ?_
  have hp6' : L5 <+: L6 := List.IsPrefix.trans (by wtm_at "z_pf") hp6
  have hf4 := pref_get hp6' hf3
  have hdue4 := pref_get hp6' hdue3
  wtm_at "z"
  refine gEqD_lists hd6 hdue4 places_ok ?_
  wtm_at "z"
  refine gEqD_lists (xs := places ++ [D.int 1]) (get_app (get_app hf4)) get_last (by rw [List.all_append, places_ok]; rfl) ?_
  exact ⟨rfl, List.nil_prefix, rfl⟩
theorem law_true (ns : List Int) (hn : ns.length ≤ 63) (hb : ∀ z ∈ ns, Builtin.Int.intBits z ≤ 1048576) : ∃ L', G_law [.fz (ns.map .int)] [] = some (.bl true, L') := by
  obtain ⟨d, L', e, rfl⟩ := law_w ns hn hb
  exact ⟨L', e⟩
end L3

set_option maxHeartbeats 8000000
namespace L3
open PySem PySem.Spec PyProof.Rows L2
seal PEf PTf PWf PAf PSf PSsf PGf PGsf PIf PQf POf OpD CallD IxD MtD
def NBl : List Str := ["bool", "int", "isinstance", "len", "list", "max", "min", "range", "str", "tuple"]
/-! all_places -/
abbrev s_all_places : Stmt := atTop PySem.Challenge.pw_byexample_k03_all_places 4
theorem sc_all_places : FnScope N_all_places [] (defScope s_all_places) := ⟨rfl, rfl, rfl, by decide +kernel, rfl, by decide +kernel, by decide +kernel⟩
theorem d_all_places {P : Program} {w : World} {K : PySem.W.Frag} {mg : Str → Option Value} {base : Heap} {k : Nat} {f : Addr} {cdv : Value} {A : Around} {outer : List Env} {s : Shared} {H : Hp} {E : XK}
    (hr : Room k (A.deeper (envOfC "all_places" (defScope s_all_places) s.heap.objs.size f cdv))) (hb : BlOk mg NBl) (C_EDGES : GCon K mg "EDGES" c_EDGES) (C_KINDS : GCon K mg "KINDS" c_KINDS) (C_NTHS : GCon K mg "NTHS" c_NTHS) :
    PSsf (cxOf CX0 P w K mg base N_all_places "all_places" (defScope s_all_places) f cdv A outer s H E).nox (defBody s_all_places) (B_all_places) := by
  have nd : N_all_places.Nodup := sc_all_places.nd
  exact (ssf_cons (sf_set (i := 0) nd (ef_lst af_nil)) (ssf_cons (sf_for PassesOwn.never rfl (pif_any (ef_gcon C_KINDS)) (gf_name (i := 1) nd) (ssf_one (sf_for PassesOwn.never rfl (pif_any (ef_gcon C_NTHS)) (gf_name (i := 2) nd) (ssf_one (sf_for PassesOwn.never rfl (pif_any (ef_gcon C_EDGES)) (gf_name (i := 3) nd) (ssf_one (sf_expr (ef_bm PySem.F.plainAttrs_list PySem.F.slot_list_append PySem.F.type_list_append md_append (ef_var (pv 0)) (af_cons (ef_tup (af_cons (ef_var (pv 1)) (af_cons (ef_var (pv 2)) (af_cons (ef_var (pv 3)) af_nil)))) af_nil))))))))) (ssf_one (sf_ret (ef_var (pv 0))))))
/-! is_word_among -/
abbrev s_is_word_among : Stmt := atTop PySem.Challenge.pw_byexample_k03_all_places 5
theorem sc_is_word_among : FnScope N_is_word_among ["thing", "words"] (defScope s_is_word_among) := ⟨rfl, rfl, rfl, by decide +kernel, rfl, by decide +kernel, by decide +kernel⟩
theorem d_is_word_among {P : Program} {w : World} {K : PySem.W.Frag} {mg : Str → Option Value} {base : Heap} {k : Nat} {f : Addr} {cdv : Value} {A : Around} {outer : List Env} {s : Shared} {H : Hp} {E : XK}
    (hr : Room k (A.deeper (envOfC "is_word_among" (defScope s_is_word_among) s.heap.objs.size f cdv))) (hb : BlOk mg NBl) :
    PSsf (cxOf CX0 P w K mg base N_is_word_among "is_word_among" (defScope s_is_word_among) f cdv A outer s H E).nox (defBody s_is_word_among) (B_is_word_among) := by
  have nd : N_is_word_among.Nodup := sc_is_word_among.nd
  exact (ssf_one (sf_ret (ef_and (ef_callB cd_inst (hb.get "isinstance") bt_isinstance (af_cons (ef_var (pv 0)) (af_cons (ef_ty (hb.get "str") bt_str) af_nil))) (ef_one (ef_cmp od_in (ef_var (pv 0)) (ef_var (pv 1)) rfl)))))
/-! is_nth -/
abbrev s_is_nth : Stmt := atTop PySem.Challenge.pw_byexample_k03_all_places 6
theorem sc_is_nth : FnScope N_is_nth ["thing"] (defScope s_is_nth) := ⟨rfl, rfl, rfl, by decide +kernel, rfl, by decide +kernel, by decide +kernel⟩
theorem d_is_nth {P : Program} {w : World} {K : PySem.W.Frag} {mg : Str → Option Value} {base : Heap} {k : Nat} {f : Addr} {cdv : Value} {A : Around} {outer : List Env} {s : Shared} {H : Hp} {E : XK}
    (hr : Room k (A.deeper (envOfC "is_nth" (defScope s_is_nth) s.heap.objs.size f cdv))) (hb : BlOk mg NBl) (C_NTHS : GCon K mg "NTHS" c_NTHS) :
    PSsf (cxOf CX0 P w K mg base N_is_nth "is_nth" (defScope s_is_nth) f cdv A outer s H E).nox (defBody s_is_nth) (B_is_nth) := by
  have nd : N_is_nth.Nodup := sc_is_nth.nd
  exact (ssf_one (sf_ret (ef_and (ef_callB cd_inst (hb.get "isinstance") bt_isinstance (af_cons (ef_var (pv 0)) (af_cons (ef_ty (hb.get "int") bt_int) af_nil))) (ef_and (ef_not (ef_callB cd_inst (hb.get "isinstance") bt_isinstance (af_cons (ef_var (pv 0)) (af_cons (ef_ty (hb.get "bool") bt_bool) af_nil)))) (ef_one (ef_cmp od_in (ef_var (pv 0)) (ef_gcon C_NTHS) rfl))))))
/-! is_place -/
abbrev s_is_place : Stmt := atTop PySem.Challenge.pw_byexample_k03_all_places 7
theorem sc_is_place : FnScope N_is_place ["thing"] (defScope s_is_place) := ⟨rfl, rfl, rfl, by decide +kernel, rfl, by decide +kernel, by decide +kernel⟩
theorem d_is_place {P : Program} {w : World} {K : PySem.W.Frag} {mg : Str → Option Value} {base : Heap} {k : Nat} {f : Addr} {cdv : Value} {A : Around} {outer : List Env} {s : Shared} {H : Hp} {E : XK}
    (hr : Room k (A.deeper (envOfC "is_place" (defScope s_is_place) s.heap.objs.size f cdv))) (hb : BlOk mg NBl) (C_EDGES : GCon K mg "EDGES" c_EDGES) (C_KINDS : GCon K mg "KINDS" c_KINDS) {G_is_word_among : GL} (F_is_word_among : FnD P w K mg base k "is_word_among" G_is_word_among) {G_is_nth : GL} (F_is_nth : FnD P w K mg base k "is_nth" G_is_nth) :
    PSsf (cxOf CX0 P w K mg base N_is_place "is_place" (defScope s_is_place) f cdv A outer s H E).nox (defBody s_is_place) (B_is_place G_is_word_among G_is_nth) := by
  have nd : N_is_place.Nodup := sc_is_place.nd
  exact (ssf_cons (sf_if (tf_w (wf_or (tf_not (tf_val (ef_callB cd_inst (hb.get "isinstance") bt_isinstance (af_cons (ef_var (pv 0)) (af_cons (ef_ty (hb.get "tuple") bt_tuple) af_nil))))) (wf_one_or (tf_cmp od_ne (ef_callB cd_len (hb.get "len") bt_len (af_cons (ef_var (pv 0)) af_nil)) ef_int rfl)))) (ssf_one (sf_ret ef_bl)) ssf_nil) (ssf_one (sf_ret (ef_and (ef_call F_is_word_among hr (af_cons (ef_ix xd_ix (ef_var (pv 0)) ef_int (fun _ _ => rfl)) (af_cons (ef_gcon C_KINDS) af_nil))) (ef_and (ef_call F_is_nth hr (af_cons (ef_ix xd_ix (ef_var (pv 0)) ef_int (fun _ _ => rfl)) af_nil)) (ef_one (ef_call F_is_word_among hr (af_cons (ef_ix xd_ix (ef_var (pv 0)) ef_int (fun _ _ => rfl)) (af_cons (ef_gcon C_EDGES) af_nil)))))))))
/-! lw_cell -/
abbrev s_lw_cell : Stmt := atTop PySem.Challenge.pw_byexample_k03_all_places 9
theorem sc_lw_cell : FnScope N_lw_cell ["_law_script", "_law_k"] (defScope s_lw_cell) := ⟨rfl, rfl, rfl, by decide +kernel, rfl, by decide +kernel, by decide +kernel⟩
theorem d_lw_cell {P : Program} {w : World} {K : PySem.W.Frag} {mg : Str → Option Value} {base : Heap} {k : Nat} {f : Addr} {cdv : Value} {A : Around} {outer : List Env} {s : Shared} {H : Hp} {E : XK}
    (hr : Room k (A.deeper (envOfC "_law_cell" (defScope s_lw_cell) s.heap.objs.size f cdv))) (hb : BlOk mg NBl) :
    PSsf (cxOf CX0 P w K mg base N_lw_cell "_law_cell" (defScope s_lw_cell) f cdv A outer s H E).nox (defBody s_lw_cell) (B_lw_cell) := by
  have nd : N_lw_cell.Nodup := sc_lw_cell.nd
  exact (ssf_cons (sf_if (tf_cmp od_lt (ef_var (pv 1)) (ef_callB cd_len (hb.get "len") bt_len (af_cons (ef_var (pv 0)) af_nil)) rfl) (ssf_one (sf_ret (ef_op od_mod (ef_op od_mul (ef_op od_add (ef_ix xd_ix (ef_var (pv 0)) (ef_var (pv 1)) (fun _ _ => rfl)) ef_int) ef_int) (ef_op od_pow ef_int ef_int)))) ssf_nil) (ssf_cons (sf_set (i := 2) nd (ef_op od_add (ef_op od_mul (ef_op od_mul (ef_var (pv 1)) (ef_var (pv 1))) ef_int) ef_int)) (ssf_cons (sf_if (tf_cmp od_gt (ef_callB cd_len (hb.get "len") bt_len (af_cons (ef_var (pv 0)) af_nil)) ef_int rfl) (ssf_one (sf_set (i := 2) nd (ef_op od_add (ef_var (pv 2)) (ef_op od_mul (ef_op od_mod (ef_ix xd_ix (ef_var (pv 0)) (ef_op od_mod (ef_op od_mul (ef_var (pv 1)) ef_int) (ef_callB cd_len (hb.get "len") bt_len (af_cons (ef_var (pv 0)) af_nil))) (fun _ _ => rfl)) (ef_op od_pow ef_int ef_int)) ef_int)))) ssf_nil) (ssf_one (sf_ret (ef_op od_mod (ef_op od_mul (ef_op od_mod (ef_op od_mul (ef_var (pv 2)) (ef_var (pv 2))) ef_int) ef_int) (ef_op od_pow ef_int ef_int)))))))
/-! lw_place -/
abbrev s_lw_place : Stmt := atTop PySem.Challenge.pw_byexample_k03_all_places 10
theorem sc_lw_place : FnScope N_lw_place ["_law_cell_here"] (defScope s_lw_place) := ⟨rfl, rfl, rfl, by decide +kernel, rfl, by decide +kernel, by decide +kernel⟩
theorem d_lw_place {P : Program} {w : World} {K : PySem.W.Frag} {mg : Str → Option Value} {base : Heap} {k : Nat} {f : Addr} {cdv : Value} {A : Around} {outer : List Env} {s : Shared} {H : Hp} {E : XK}
    (hr : Room k (A.deeper (envOfC "_law_place" (defScope s_lw_place) s.heap.objs.size f cdv))) (hb : BlOk mg NBl) :
    PSsf (cxOf CX0 P w K mg base N_lw_place "_law_place" (defScope s_lw_place) f cdv A outer s H E).nox (defBody s_lw_place) (B_lw_place) := by
  have nd : N_lw_place.Nodup := sc_lw_place.nd
  exact (ssf_cons (sf_set (i := 1) nd (ef_ix xd_ix (ef_lst (af_cons ef_str (af_cons ef_str (af_cons ef_str (af_cons ef_str (af_cons ef_str af_nil)))))) (ef_op od_mod (ef_var (pv 0)) ef_int) (fun _ _ => rfl))) (ssf_one (sf_ret (ef_tup (af_cons (ef_var (pv 1)) (af_cons (ef_ix xd_ix (ef_lst (af_cons ef_int (af_cons ef_int (af_cons (ef_neg ef_int) (af_cons (ef_neg ef_int) af_nil))))) (ef_op od_mod (ef_op od_fdiv (ef_var (pv 0)) ef_int) ef_int) (fun _ _ => rfl)) (af_cons (ef_ix xd_ix (ef_lst (af_cons ef_str (af_cons ef_str af_nil))) (ef_op od_mod (ef_op od_fdiv (ef_var (pv 0)) ef_int) ef_int) (fun _ _ => rfl)) af_nil)))))))
/-! lw_is_place -/
abbrev s_lw_is_place : Stmt := atTop PySem.Challenge.pw_byexample_k03_all_places 11
theorem sc_lw_is_place : FnScope N_lw_is_place ["_law_thing"] (defScope s_lw_is_place) := ⟨rfl, rfl, rfl, by decide +kernel, rfl, by decide +kernel, by decide +kernel⟩
theorem d_lw_is_place {P : Program} {w : World} {K : PySem.W.Frag} {mg : Str → Option Value} {base : Heap} {k : Nat} {f : Addr} {cdv : Value} {A : Around} {outer : List Env} {s : Shared} {H : Hp} {E : XK}
    (hr : Room k (A.deeper (envOfC "_law_is_place" (defScope s_lw_is_place) s.heap.objs.size f cdv))) (hb : BlOk mg NBl) :
    PSsf (cxOf CX0 P w K mg base N_lw_is_place "_law_is_place" (defScope s_lw_is_place) f cdv A outer s H E).nox (defBody s_lw_is_place) (B_lw_is_place) := by
  have nd : N_lw_is_place.Nodup := sc_lw_is_place.nd
  exact (ssf_cons (sf_if (tf_w (wf_or (tf_not (tf_val (ef_callB cd_inst (hb.get "isinstance") bt_isinstance (af_cons (ef_var (pv 0)) (af_cons (ef_ty (hb.get "tuple") bt_tuple) af_nil))))) (wf_one_or (tf_cmp od_ne (ef_callB cd_len (hb.get "len") bt_len (af_cons (ef_var (pv 0)) af_nil)) ef_int rfl)))) (ssf_one (sf_ret ef_bl)) ssf_nil) (ssf_cons (sf_if (tf_w (wf_or (tf_not (tf_val (ef_callB cd_inst (hb.get "isinstance") bt_isinstance (af_cons (ef_ix xd_ix (ef_var (pv 0)) ef_int (fun _ _ => rfl)) (af_cons (ef_ty (hb.get "int") bt_int) af_nil))))) (wf_or (tf_val (ef_callB cd_inst (hb.get "isinstance") bt_isinstance (af_cons (ef_ix xd_ix (ef_var (pv 0)) ef_int (fun _ _ => rfl)) (af_cons (ef_ty (hb.get "bool") bt_bool) af_nil)))) (wf_one_or (tf_cmp od_notin (ef_ix xd_ix (ef_var (pv 0)) ef_int (fun _ _ => rfl)) (ef_tup (af_cons ef_int (af_cons ef_int (af_cons (ef_neg ef_int) (af_cons (ef_neg ef_int) af_nil))))) rfl))))) (ssf_one (sf_ret ef_bl)) ssf_nil) (ssf_cons (sf_if (tf_w (wf_or (tf_not (tf_val (ef_callB cd_inst (hb.get "isinstance") bt_isinstance (af_cons (ef_ix xd_ix (ef_var (pv 0)) ef_int (fun _ _ => rfl)) (af_cons (ef_ty (hb.get "str") bt_str) af_nil))))) (wf_one_or (tf_not (tf_val (ef_callB cd_inst (hb.get "isinstance") bt_isinstance (af_cons (ef_ix xd_ix (ef_var (pv 0)) ef_int (fun _ _ => rfl)) (af_cons (ef_ty (hb.get "str") bt_str) af_nil)))))))) (ssf_one (sf_ret ef_bl)) ssf_nil) (ssf_one (sf_ret (ef_and (ef_cmp od_in (ef_ix xd_ix (ef_var (pv 0)) ef_int (fun _ _ => rfl)) (ef_tup (af_cons ef_str (af_cons ef_str (af_cons ef_str (af_cons ef_str (af_cons ef_str af_nil)))))) rfl) (ef_one (ef_cmp od_in (ef_ix xd_ix (ef_var (pv 0)) ef_int (fun _ _ => rfl)) (ef_tup (af_cons ef_str (af_cons ef_str af_nil))) rfl))))))))
/-! lw_told -/
abbrev s_lw_told : Stmt := atTop PySem.Challenge.pw_byexample_k03_all_places 12
theorem sc_lw_told : FnScope N_lw_told ["_law_found", "_law_due_here"] (defScope s_lw_told) := ⟨rfl, rfl, rfl, by decide +kernel, rfl, by decide +kernel, by decide +kernel⟩
theorem d_lw_told {P : Program} {w : World} {K : PySem.W.Frag} {mg : Str → Option Value} {base : Heap} {k : Nat} {f : Addr} {cdv : Value} {A : Around} {outer : List Env} {s : Shared} {H : Hp} {E : XK}
    (hr : Room k (A.deeper (envOfC "_law_told" (defScope s_lw_told) s.heap.objs.size f cdv))) (hb : BlOk mg NBl) :
    PSsf (cxOf CX0 P w K mg base N_lw_told "_law_told" (defScope s_lw_told) f cdv A outer s H E).nox (defBody s_lw_told) (B_lw_told) := by
  have nd : N_lw_told.Nodup := sc_lw_told.nd
  exact (ssf_one (sf_ret (ef_and (ef_callB cd_inst (hb.get "isinstance") bt_isinstance (af_cons (ef_var (pv 0)) (af_cons (ef_ty (hb.get "bool") bt_bool) af_nil))) (ef_one (ef_cmp od_eq (ef_var (pv 0)) (ef_var (pv 1)) rfl)))))
/-! lw_due -/
abbrev s_lw_due : Stmt := atTop PySem.Challenge.pw_byexample_k03_all_places 13
theorem sc_lw_due : FnScope N_lw_due [] (defScope s_lw_due) := ⟨rfl, rfl, rfl, by decide +kernel, rfl, by decide +kernel, by decide +kernel⟩
theorem d_lw_due {P : Program} {w : World} {K : PySem.W.Frag} {mg : Str → Option Value} {base : Heap} {k : Nat} {f : Addr} {cdv : Value} {A : Around} {outer : List Env} {s : Shared} {H : Hp} {E : XK}
    (hr : Room k (A.deeper (envOfC "_law_due" (defScope s_lw_due) s.heap.objs.size f cdv))) (hb : BlOk mg NBl) :
    PSsf (cxOf CX0 P w K mg base N_lw_due "_law_due" (defScope s_lw_due) f cdv A outer s H E).nox (defBody s_lw_due) (B_lw_due) := by
  have nd : N_lw_due.Nodup := sc_lw_due.nd
  exact (ssf_cons (sf_set (i := 0) nd (ef_lst af_nil)) (ssf_cons (sf_for PassesOwn.never rfl (pif_any (ef_lst (af_cons ef_str (af_cons ef_str (af_cons ef_str (af_cons ef_str (af_cons ef_str af_nil))))))) (gf_name (i := 1) nd) (ssf_one (sf_for PassesOwn.never rfl (pif_any (ef_lst (af_cons ef_int (af_cons ef_int (af_cons (ef_neg ef_int) (af_cons (ef_neg ef_int) af_nil)))))) (gf_name (i := 2) nd) (ssf_one (sf_for PassesOwn.never rfl (pif_any (ef_lst (af_cons ef_str (af_cons ef_str af_nil)))) (gf_name (i := 3) nd) (ssf_one (sf_expr (ef_bm PySem.F.plainAttrs_list PySem.F.slot_list_append PySem.F.type_list_append md_append (ef_var (pv 0)) (af_cons (ef_tup (af_cons (ef_var (pv 1)) (af_cons (ef_var (pv 2)) (af_cons (ef_var (pv 3)) af_nil)))) af_nil))))))))) (ssf_one (sf_ret (ef_var (pv 0))))))
/-! lw_spoiled -/
abbrev s_lw_spoiled : Stmt := atTop PySem.Challenge.pw_byexample_k03_all_places 14
theorem sc_lw_spoiled : FnScope N_lw_spoiled ["_law_place_here", "_law_cell_here"] (defScope s_lw_spoiled) := ⟨rfl, rfl, rfl, by decide +kernel, rfl, by decide +kernel, by decide +kernel⟩
theorem d_lw_spoiled {P : Program} {w : World} {K : PySem.W.Frag} {mg : Str → Option Value} {base : Heap} {k : Nat} {f : Addr} {cdv : Value} {A : Around} {outer : List Env} {s : Shared} {H : Hp} {E : XK}
    (hr : Room k (A.deeper (envOfC "_law_spoiled" (defScope s_lw_spoiled) s.heap.objs.size f cdv))) (hb : BlOk mg NBl) :
    PSsf (cxOf CX0 P w K mg base N_lw_spoiled "_law_spoiled" (defScope s_lw_spoiled) f cdv A outer s H E).nox (defBody s_lw_spoiled) (B_lw_spoiled) := by
  have nd : N_lw_spoiled.Nodup := sc_lw_spoiled.nd
  exact (ssf_cons (sf_asg (ef_var (pv 0)) (gf_tup (n := 3) rfl (gsf_cons (gf_name (i := 2) nd) (gsf_cons (gf_name (i := 3) nd) (gsf_cons (gf_name (i := 4) nd) gsf_nil))))) (ssf_cons (sf_set (i := 5) nd (ef_op od_mod (ef_op od_fdiv (ef_var (pv 1)) ef_int) (ef_op od_pow ef_int ef_int))) (ssf_cons (sf_set (i := 6) nd (ef_lst (af_cons ef_str (af_cons ef_str (af_cons ef_str (af_cons ef_str (af_cons ef_str (af_cons ef_str (af_cons ef_str af_nil))))))))) (ssf_cons (sf_set (i := 7) nd (ef_lst (af_cons ef_str (af_cons ef_str (af_cons ef_str (af_cons ef_str (af_cons ef_str (af_cons ef_str (af_cons ef_str af_nil))))))))) (ssf_cons (sf_set (i := 8) nd (ef_lst (af_cons (ef_tup (af_cons (ef_ix xd_ix (ef_var (pv 6)) (ef_op od_mod (ef_var (pv 5)) ef_int) (fun _ _ => rfl)) (af_cons (ef_var (pv 3)) (af_cons (ef_var (pv 4)) af_nil)))) (af_cons (ef_tup (af_cons ef_non (af_cons (ef_var (pv 3)) (af_cons (ef_var (pv 4)) af_nil)))) (af_cons (ef_tup (af_cons (ef_var (pv 2)) (af_cons (ef_var (pv 3)) (af_cons (ef_ix xd_ix (ef_var (pv 7)) (ef_op od_mod (ef_var (pv 5)) ef_int) (fun _ _ => rfl)) af_nil)))) (af_cons (ef_tup (af_cons (ef_var (pv 2)) (af_cons (ef_var (pv 3)) (af_cons ef_non af_nil)))) af_nil)))))) (ssf_cons (sf_set (i := 8) nd (ef_op od_add (ef_var (pv 8)) (ef_lst (af_cons (ef_tup (af_cons (ef_var (pv 2)) (af_cons ef_int (af_cons (ef_var (pv 4)) af_nil)))) (af_cons (ef_tup (af_cons (ef_var (pv 2)) (af_cons (ef_op od_add ef_int (ef_var (pv 5))) (af_cons (ef_var (pv 4)) af_nil)))) (af_cons (ef_tup (af_cons (ef_var (pv 2)) (af_cons (ef_op od_sub (ef_neg ef_int) (ef_var (pv 5))) (af_cons (ef_var (pv 4)) af_nil)))) (af_cons (ef_tup (af_cons (ef_var (pv 2)) (af_cons (ef_cmp od_eq (ef_var (pv 3)) ef_int rfl) (af_cons (ef_var (pv 4)) af_nil)))) af_nil))))))) (ssf_cons (sf_set (i := 8) nd (ef_op od_add (ef_var (pv 8)) (ef_lst (af_cons (ef_tup (af_cons (ef_var (pv 2)) (af_cons ef_bl (af_cons (ef_var (pv 4)) af_nil)))) (af_cons (ef_tup (af_cons (ef_var (pv 2)) (af_cons (ef_callTy cd_str (hb.get "str") bt_str (af_cons (ef_var (pv 3)) af_nil)) (af_cons (ef_var (pv 4)) af_nil)))) (af_cons (ef_tup (af_cons (ef_var (pv 2)) (af_cons ef_non (af_cons (ef_var (pv 4)) af_nil)))) (af_cons (ef_tup (af_cons (ef_var (pv 2)) (af_cons (ef_var (pv 3)) af_nil))) (af_cons (ef_tup (af_cons (ef_var (pv 2)) (af_cons (ef_var (pv 3)) (af_cons (ef_var (pv 4)) (af_cons (ef_var (pv 3)) af_nil))))) af_nil)))))))) (ssf_cons (sf_set (i := 8) nd (ef_op od_add (ef_var (pv 8)) (ef_lst (af_cons (ef_lst (af_cons (ef_var (pv 2)) (af_cons (ef_var (pv 3)) (af_cons (ef_var (pv 4)) af_nil)))) (af_cons (ef_tup (af_cons (ef_var (pv 4)) (af_cons (ef_var (pv 3)) (af_cons (ef_var (pv 2)) af_nil)))) (af_cons (ef_tup (af_cons (ef_var (pv 3)) (af_cons (ef_var (pv 2)) (af_cons (ef_var (pv 4)) af_nil)))) (af_cons (ef_tup (af_cons (ef_var (pv 2)) (af_cons (ef_tup (af_cons (ef_var (pv 3)) af_nil)) (af_cons (ef_var (pv 4)) af_nil)))) (af_cons (ef_op od_add (ef_var (pv 2)) (ef_var (pv 4))) af_nil)))))))) (ssf_cons (sf_set (i := 8) nd (ef_op od_add (ef_var (pv 8)) (ef_lst (af_cons (ef_tup (af_cons (ef_lst (af_cons (ef_var (pv 2)) af_nil)) (af_cons (ef_var (pv 3)) (af_cons (ef_var (pv 4)) af_nil)))) (af_cons (ef_tup (af_cons (ef_var (pv 2)) (af_cons (ef_lst (af_cons (ef_var (pv 3)) af_nil)) (af_cons (ef_var (pv 4)) af_nil)))) (af_cons (ef_tup (af_cons (ef_var (pv 2)) (af_cons (ef_var (pv 3)) (af_cons ef_dnew af_nil)))) (af_cons (ef_tup (af_cons (ef_var (pv 2)) (af_cons (ef_var (pv 3)) (af_cons (ef_lst (af_cons (ef_var (pv 4)) af_nil)) af_nil)))) (af_cons (ef_tup (af_cons ef_dnew (af_cons (ef_var (pv 3)) (af_cons (ef_var (pv 4)) af_nil)))) af_nil)))))))) (ssf_one (sf_ret (ef_ix xd_ix (ef_var (pv 8)) (ef_op od_mod (ef_var (pv 1)) (ef_callB cd_len (hb.get "len") bt_len (af_cons (ef_var (pv 8)) af_nil))) (fun _ _ => rfl)))))))))))))
/-! law -/
abbrev s_law : Stmt := atTop PySem.Challenge.pw_byexample_k03_all_places 15
theorem sc_law : FnScope N_law ["_law_script"] (defScope s_law) := ⟨rfl, rfl, rfl, by decide +kernel, rfl, by decide +kernel, by decide +kernel⟩
theorem d_law {P : Program} {w : World} {K : PySem.W.Frag} {mg : Str → Option Value} {base : Heap} {k : Nat} {f : Addr} {cdv : Value} {A : Around} {outer : List Env} {s : Shared} {H : Hp} {E : XK}
    (hr : Room k (A.deeper (envOfC "law" (defScope s_law) s.heap.objs.size f cdv))) (hb : BlOk mg NBl) {G_all_places : GL} (F_all_places : FnD P w K mg base k "all_places" G_all_places) {G_is_place : GL} (F_is_place : FnD P w K mg base k "is_place" G_is_place) {G_lw_cell : GL} (F_lw_cell : FnD P w K mg base k "_law_cell" G_lw_cell) {G_lw_place : GL} (F_lw_place : FnD P w K mg base k "_law_place" G_lw_place) {G_lw_is_place : GL} (F_lw_is_place : FnD P w K mg base k "_law_is_place" G_lw_is_place) {G_lw_told : GL} (F_lw_told : FnD P w K mg base k "_law_told" G_lw_told) {G_lw_due : GL} (F_lw_due : FnD P w K mg base k "_law_due" G_lw_due) {G_lw_spoiled : GL} (F_lw_spoiled : FnD P w K mg base k "_law_spoiled" G_lw_spoiled) :
    PSsf (cxOf CX0 P w K mg base N_law "law" (defScope s_law) f cdv A outer s H E).nox (defBody s_law) (B_law G_all_places G_is_place G_lw_cell G_lw_place G_lw_is_place G_lw_told G_lw_due G_lw_spoiled) := by
  have nd : N_law.Nodup := sc_law.nd
  exact (ssf_cons (sf_set (i := 1) nd (ef_call0 F_lw_due hr)) (ssf_cons (sf_set (i := 2) nd (ef_call0 F_all_places hr)) (ssf_cons (sf_if (tf_w (wf_or (tf_not (tf_val (ef_callB cd_inst (hb.get "isinstance") bt_isinstance (af_cons (ef_var (pv 2)) (af_cons (ef_ty (hb.get "list") bt_list) af_nil))))) (wf_one_or (tf_cmp (od_neD hr.units) (ef_var (pv 2)) (ef_var (pv 1)) rfl)))) (ssf_one (sf_ret ef_bl)) ssf_nil) (ssf_cons (sf_for PassesOwn.never rfl (pif_any (ef_var (pv 2))) (gf_name (i := 3) nd) (ssf_one (sf_if (tf_w (wf_or (tf_not (tf_val (ef_call F_lw_is_place hr (af_cons (ef_var (pv 3)) af_nil)))) (wf_one_or (tf_not (tf_val (ef_call F_lw_told hr (af_cons (ef_call F_is_place hr (af_cons (ef_var (pv 3)) af_nil)) (af_cons ef_bl af_nil)))))))) (ssf_one (sf_ret ef_bl)) ssf_nil))) (ssf_cons (sf_expr (ef_bm PySem.F.plainAttrs_list PySem.F.slot_list_append PySem.F.type_list_append md_append (ef_var (pv 2)) (af_cons ef_int af_nil))) (ssf_cons (sf_setComp (i := 4) nd rfl (pif_range1 (hb.get "range") (af_cons (ef_callB (cd_min rfl) (hb.get "min") bt_min (af_cons ef_int (af_cons (ef_callB (cd_max rfl) (hb.get "max") bt_max (af_cons ef_int (af_cons (ef_callB cd_len (hb.get "len") bt_len (af_cons (ef_var (pv 0)) af_nil)) af_nil))) af_nil))) af_nil)) (compOk_of (N := N_law) (N' := ["_law_k", "_law_script"]) (n := 1) (idx := [0]) (fnames := (defScope s_law).names) rfl (fun _ => rfl) rfl (by decide +kernel)) (fun _ _ _ _ _ _ => ⟨(gf_name (i := 0) (show (["_law_k", "_law_script"] : List Str).Nodup by decide +kernel)), qf_nil, (ef_call F_lw_cell hr (af_cons (ef_var (pv 1)) (af_cons (ef_var (pv 0)) af_nil)))⟩)) (ssf_cons (sf_for PassesOwn.never rfl (pif_any (ef_var (pv 4))) (gf_name (i := 5) nd) (ssf_cons (sf_set (i := 3) nd (ef_call F_lw_place hr (af_cons (ef_var (pv 5)) af_nil))) (ssf_one (sf_if (tf_w (wf_or (tf_not (tf_val (ef_call F_lw_told hr (af_cons (ef_call F_is_place hr (af_cons (ef_var (pv 3)) af_nil)) (af_cons ef_bl af_nil))))) (wf_one_or (tf_not (tf_val (ef_call F_lw_told hr (af_cons (ef_call F_is_place hr (af_cons (ef_call F_lw_spoiled hr (af_cons (ef_var (pv 3)) (af_cons (ef_op od_fdiv (ef_var (pv 5)) ef_int) af_nil))) af_nil)) (af_cons ef_bl af_nil)))))))) (ssf_one (sf_ret ef_bl)) ssf_nil)))) (ssf_cons (sf_for PassesOwn.never rfl (pif_any (ef_lst (af_cons ef_non (af_cons ef_bl (af_cons ef_int (af_cons ef_str (af_cons (ef_tup af_nil) (af_cons (ef_lst af_nil) (af_cons ef_dnew (af_cons (ef_tup (af_cons ef_str af_nil)) (af_cons ef_str af_nil))))))))))) (gf_name (i := 6) nd) (ssf_one (sf_if (tf_not (tf_val (ef_call F_lw_told hr (af_cons (ef_call F_is_place hr (af_cons (ef_var (pv 6)) af_nil)) (af_cons ef_bl af_nil))))) (ssf_one (sf_ret ef_bl)) ssf_nil))) (ssf_one (sf_ret (ef_and (ef_cmp (od_eqD hr.units) (ef_call0 F_all_places hr) (ef_var (pv 1)) rfl) (ef_one (ef_cmp (od_eqD hr.units) (ef_var (pv 2)) (ef_op od_add (ef_var (pv 1)) (ef_lst (af_cons ef_int af_nil))) rfl)))))))))))))
/-! the head -/
theorem all_mk {l : PySem.W.OpenLaw} {w : World} {K : PySem.W.Frag} {h : Heap} {mg : Str → Option Value} {fa : Addr} (X : K.In h) (G : h.Ns mainGlobals mg) (hfa : mg "law" = some (.ref fa))
    {r1 : Addr} {o1 : Option Addr} {n1 : Nat} {l1 : Array (Option Value)}
    {t2 : Tok}
    {t3 : Tok}
    {r6 : Addr} {o6 : Option Addr} {n6 : Nat} {l6 : Array (Option Value)}
    {t7 : Tok}
    {t8 : Tok}
    {t9 : Tok}
    {t10 : Tok}
    {t11 : Tok}
    {r14 : Addr} {o14 : Option Addr} {n14 : Nat} {l14 : Array (Option Value)}
    {t15 : Tok}
    {t16 : Tok}
    {t17 : Tok}
    {t18 : Tok}
    {f_all_places : Addr} {oc_all_places kV_all_places dc_all_places pm_all_places cd_all_places ct_all_places : Value} {od_all_places an_all_places : Option Addr} {sl_all_places : Array (Option Value)}
    {f_is_word_among : Addr} {oc_is_word_among kV_is_word_among dc_is_word_among pm_is_word_among cd_is_word_among ct_is_word_among : Value} {od_is_word_among an_is_word_among : Option Addr} {sl_is_word_among : Array (Option Value)}
    {f_is_nth : Addr} {oc_is_nth kV_is_nth dc_is_nth pm_is_nth cd_is_nth ct_is_nth : Value} {od_is_nth an_is_nth : Option Addr} {sl_is_nth : Array (Option Value)}
    {f_is_place : Addr} {oc_is_place kV_is_place dc_is_place pm_is_place cd_is_place ct_is_place : Value} {od_is_place an_is_place : Option Addr} {sl_is_place : Array (Option Value)}
    {f_lw_cell : Addr} {oc_lw_cell kV_lw_cell dc_lw_cell pm_lw_cell cd_lw_cell ct_lw_cell : Value} {od_lw_cell an_lw_cell : Option Addr} {sl_lw_cell : Array (Option Value)}
    {f_lw_place : Addr} {oc_lw_place kV_lw_place dc_lw_place pm_lw_place cd_lw_place ct_lw_place : Value} {od_lw_place an_lw_place : Option Addr} {sl_lw_place : Array (Option Value)}
    {f_lw_is_place : Addr} {oc_lw_is_place kV_lw_is_place dc_lw_is_place pm_lw_is_place cd_lw_is_place ct_lw_is_place : Value} {od_lw_is_place an_lw_is_place : Option Addr} {sl_lw_is_place : Array (Option Value)}
    {f_lw_told : Addr} {oc_lw_told kV_lw_told dc_lw_told pm_lw_told cd_lw_told ct_lw_told : Value} {od_lw_told an_lw_told : Option Addr} {sl_lw_told : Array (Option Value)}
    {f_lw_due : Addr} {oc_lw_due kV_lw_due dc_lw_due pm_lw_due cd_lw_due ct_lw_due : Value} {od_lw_due an_lw_due : Option Addr} {sl_lw_due : Array (Option Value)}
    {f_lw_spoiled : Addr} {oc_lw_spoiled kV_lw_spoiled dc_lw_spoiled pm_lw_spoiled cd_lw_spoiled ct_lw_spoiled : Value} {od_lw_spoiled an_lw_spoiled : Option Addr} {sl_lw_spoiled : Array (Option Value)}
    {f_law : Addr} {oc_law kV_law dc_law pm_law cd_law ct_law : Value} {od_law an_law : Option Addr} {sl_law : Array (Option Value)}
    (q5 : PySem.W.nsIn K mainGlobals "EDGES" = some (some (.ref r1)))
    (q4 : K.lookup r1 = some ⟨.type "tuple", o1, .seq ([.str "ahead" t2, .str "behind" t3] : List Value).toArray n1, l1⟩)
    (q13 : PySem.W.nsIn K mainGlobals "KINDS" = some (some (.ref r6)))
    (q12 : K.lookup r6 = some ⟨.type "tuple", o6, .seq ([.str "small" t7, .str "great" t8, .str "figure" t9, .str "mark" t10, .str "any" t11] : List Value).toArray n6, l6⟩)
    (q20 : PySem.W.nsIn K mainGlobals "NTHS" = some (some (.ref r14)))
    (q19 : K.lookup r14 = some ⟨.type "tuple", o14, .seq ([.int (1) t15, .int (2) t16, .int (-1) t17, .int (-2) t18] : List Value).toArray n14, l14⟩)
    (q21 : PySem.W.nsIn K mainGlobals "bool" = some none)
    (q22 : PySem.W.nsIn K mainGlobals "int" = some none)
    (q23 : PySem.W.nsIn K mainGlobals "isinstance" = some none)
    (q24 : PySem.W.nsIn K mainGlobals "len" = some none)
    (q25 : PySem.W.nsIn K mainGlobals "list" = some none)
    (q26 : PySem.W.nsIn K mainGlobals "max" = some none)
    (q27 : PySem.W.nsIn K mainGlobals "min" = some none)
    (q28 : PySem.W.nsIn K mainGlobals "range" = some none)
    (q29 : PySem.W.nsIn K mainGlobals "str" = some none)
    (q30 : PySem.W.nsIn K mainGlobals "tuple" = some none)
    (q31 : PySem.W.nsIn K mainGlobals "all_places" = some (some (.ref f_all_places)))
    (q32 : K.lookup f_all_places = some ⟨oc_all_places, od_all_places, .func (PySem.W.fnOf "all_places" "all_places" (defArgs s_all_places) (defBody s_all_places) (defScope s_all_places) .none kV_all_places dc_all_places pm_all_places an_all_places cd_all_places ct_all_places), sl_all_places⟩)
    (q33 : PySem.W.codeIn K cd_all_places "all_places" = true)
    (q34 : PySem.W.keepIn K (.ref f_all_places) = true)
    (q35 : PySem.W.nsIn K mainGlobals "is_word_among" = some (some (.ref f_is_word_among)))
    (q36 : K.lookup f_is_word_among = some ⟨oc_is_word_among, od_is_word_among, .func (PySem.W.fnOf "is_word_among" "is_word_among" (defArgs s_is_word_among) (defBody s_is_word_among) (defScope s_is_word_among) .none kV_is_word_among dc_is_word_among pm_is_word_among an_is_word_among cd_is_word_among ct_is_word_among), sl_is_word_among⟩)
    (q37 : PySem.W.codeIn K cd_is_word_among "is_word_among" = true)
    (q38 : PySem.W.keepIn K (.ref f_is_word_among) = true)
    (q39 : PySem.W.nsIn K mainGlobals "is_nth" = some (some (.ref f_is_nth)))
    (q40 : K.lookup f_is_nth = some ⟨oc_is_nth, od_is_nth, .func (PySem.W.fnOf "is_nth" "is_nth" (defArgs s_is_nth) (defBody s_is_nth) (defScope s_is_nth) .none kV_is_nth dc_is_nth pm_is_nth an_is_nth cd_is_nth ct_is_nth), sl_is_nth⟩)
    (q41 : PySem.W.codeIn K cd_is_nth "is_nth" = true)
    (q42 : PySem.W.keepIn K (.ref f_is_nth) = true)
    (q43 : PySem.W.nsIn K mainGlobals "is_place" = some (some (.ref f_is_place)))
    (q44 : K.lookup f_is_place = some ⟨oc_is_place, od_is_place, .func (PySem.W.fnOf "is_place" "is_place" (defArgs s_is_place) (defBody s_is_place) (defScope s_is_place) .none kV_is_place dc_is_place pm_is_place an_is_place cd_is_place ct_is_place), sl_is_place⟩)
    (q45 : PySem.W.codeIn K cd_is_place "is_place" = true)
    (q46 : PySem.W.keepIn K (.ref f_is_place) = true)
    (q47 : PySem.W.nsIn K mainGlobals "_law_cell" = some (some (.ref f_lw_cell)))
    (q48 : K.lookup f_lw_cell = some ⟨oc_lw_cell, od_lw_cell, .func (PySem.W.fnOf "_law_cell" "_law_cell" (defArgs s_lw_cell) (defBody s_lw_cell) (defScope s_lw_cell) .none kV_lw_cell dc_lw_cell pm_lw_cell an_lw_cell cd_lw_cell ct_lw_cell), sl_lw_cell⟩)
    (q49 : PySem.W.codeIn K cd_lw_cell "_law_cell" = true)
    (q50 : PySem.W.keepIn K (.ref f_lw_cell) = true)
    (q51 : PySem.W.nsIn K mainGlobals "_law_place" = some (some (.ref f_lw_place)))
    (q52 : K.lookup f_lw_place = some ⟨oc_lw_place, od_lw_place, .func (PySem.W.fnOf "_law_place" "_law_place" (defArgs s_lw_place) (defBody s_lw_place) (defScope s_lw_place) .none kV_lw_place dc_lw_place pm_lw_place an_lw_place cd_lw_place ct_lw_place), sl_lw_place⟩)
    (q53 : PySem.W.codeIn K cd_lw_place "_law_place" = true)
    (q54 : PySem.W.keepIn K (.ref f_lw_place) = true)
    (q55 : PySem.W.nsIn K mainGlobals "_law_is_place" = some (some (.ref f_lw_is_place)))
    (q56 : K.lookup f_lw_is_place = some ⟨oc_lw_is_place, od_lw_is_place, .func (PySem.W.fnOf "_law_is_place" "_law_is_place" (defArgs s_lw_is_place) (defBody s_lw_is_place) (defScope s_lw_is_place) .none kV_lw_is_place dc_lw_is_place pm_lw_is_place an_lw_is_place cd_lw_is_place ct_lw_is_place), sl_lw_is_place⟩)
    (q57 : PySem.W.codeIn K cd_lw_is_place "_law_is_place" = true)
    (q58 : PySem.W.keepIn K (.ref f_lw_is_place) = true)
    (q59 : PySem.W.nsIn K mainGlobals "_law_told" = some (some (.ref f_lw_told)))
    (q60 : K.lookup f_lw_told = some ⟨oc_lw_told, od_lw_told, .func (PySem.W.fnOf "_law_told" "_law_told" (defArgs s_lw_told) (defBody s_lw_told) (defScope s_lw_told) .none kV_lw_told dc_lw_told pm_lw_told an_lw_told cd_lw_told ct_lw_told), sl_lw_told⟩)
    (q61 : PySem.W.codeIn K cd_lw_told "_law_told" = true)
    (q62 : PySem.W.keepIn K (.ref f_lw_told) = true)
    (q63 : PySem.W.nsIn K mainGlobals "_law_due" = some (some (.ref f_lw_due)))
    (q64 : K.lookup f_lw_due = some ⟨oc_lw_due, od_lw_due, .func (PySem.W.fnOf "_law_due" "_law_due" (defArgs s_lw_due) (defBody s_lw_due) (defScope s_lw_due) .none kV_lw_due dc_lw_due pm_lw_due an_lw_due cd_lw_due ct_lw_due), sl_lw_due⟩)
    (q65 : PySem.W.codeIn K cd_lw_due "_law_due" = true)
    (q66 : PySem.W.keepIn K (.ref f_lw_due) = true)
    (q67 : PySem.W.nsIn K mainGlobals "_law_spoiled" = some (some (.ref f_lw_spoiled)))
    (q68 : K.lookup f_lw_spoiled = some ⟨oc_lw_spoiled, od_lw_spoiled, .func (PySem.W.fnOf "_law_spoiled" "_law_spoiled" (defArgs s_lw_spoiled) (defBody s_lw_spoiled) (defScope s_lw_spoiled) .none kV_lw_spoiled dc_lw_spoiled pm_lw_spoiled an_lw_spoiled cd_lw_spoiled ct_lw_spoiled), sl_lw_spoiled⟩)
    (q69 : PySem.W.codeIn K cd_lw_spoiled "_law_spoiled" = true)
    (q70 : PySem.W.keepIn K (.ref f_lw_spoiled) = true)
    (q71 : PySem.W.nsIn K mainGlobals "law" = some (some (.ref f_law)))
    (q72 : K.lookup f_law = some ⟨oc_law, od_law, .func (PySem.W.fnOf "law" "law" (defArgs s_law) (defBody s_law) (defScope s_law) .none kV_law dc_law pm_law an_law cd_law ct_law), sl_law⟩)
    (q73 : PySem.W.codeIn K cd_law "law" = true)
    (q74 : PySem.W.keepIn K (.ref f_law) = true) :
    ∃ fd : FuncData, (∀ (s : Shared) (v : Value), BindsTo s fd ⟨[v], []⟩ [("_law_script", v)]) ∧ ∀ base : Heap, K.In base → base.Ns mainGlobals mg → FnOk l.prog w K mg base CX0 3 fa fd ["_law_script"] (spF K G_law) := by
  have C_EDGES : GCon K mg "EDGES" c_EDGES := gcon_of (PySem.W.mg_of X G q5) (tupk_tup q4 (by show 2 ≤ sizeLine; decide) (.cons (tupk_str (by decide)) (.cons (tupk_str (by decide)) .nil)))
  have C_KINDS : GCon K mg "KINDS" c_KINDS := gcon_of (PySem.W.mg_of X G q13) (tupk_tup q12 (by show 5 ≤ sizeLine; decide) (.cons (tupk_str (by decide)) (.cons (tupk_str (by decide)) (.cons (tupk_str (by decide)) (.cons (tupk_str (by decide)) (.cons (tupk_str (by decide)) .nil))))))
  have C_NTHS : GCon K mg "NTHS" c_NTHS := gcon_of (PySem.W.mg_of X G q20) (tupk_tup q19 (by show 4 ≤ sizeLine; decide) (.cons tupk_int (.cons tupk_int (.cons tupk_int (.cons tupk_int .nil)))))
  have hb : BlOk mg NBl := by
    intro x hx
    simp only [NBl, List.mem_cons, List.not_mem_nil, or_false] at hx
    rcases hx with rfl | rfl | rfl | rfl | rfl | rfl | rfl | rfl | rfl | rfl
    · exact PySem.W.mg_none_of X G q21
    · exact PySem.W.mg_none_of X G q22
    · exact PySem.W.mg_none_of X G q23
    · exact PySem.W.mg_none_of X G q24
    · exact PySem.W.mg_none_of X G q25
    · exact PySem.W.mg_none_of X G q26
    · exact PySem.W.mg_none_of X G q27
    · exact PySem.W.mg_none_of X G q28
    · exact PySem.W.mg_none_of X G q29
    · exact PySem.W.mg_none_of X G q30
  have Fu_all_places := fun_mk (st := s_all_places) q32 q33 q34
  have bi_all_places := Fu_all_places.binds (ps := []) fun _ _ _ _ _ _ us hl => match us, hl with | [], _ => rfl
  have Fu_is_word_among := fun_mk (st := s_is_word_among) q36 q37 q38
  have bi_is_word_among := Fu_is_word_among.binds (ps := ["thing", "words"]) fun _ _ _ _ _ _ us hl => match us, hl with | [_, _], _ => rfl
  have Fu_is_nth := fun_mk (st := s_is_nth) q40 q41 q42
  have bi_is_nth := Fu_is_nth.binds (ps := ["thing"]) fun _ _ _ _ _ _ us hl => match us, hl with | [_], _ => rfl
  have Fu_is_place := fun_mk (st := s_is_place) q44 q45 q46
  have bi_is_place := Fu_is_place.binds (ps := ["thing"]) fun _ _ _ _ _ _ us hl => match us, hl with | [_], _ => rfl
  have Fu_lw_cell := fun_mk (st := s_lw_cell) q48 q49 q50
  have bi_lw_cell := Fu_lw_cell.binds (ps := ["_law_script", "_law_k"]) fun _ _ _ _ _ _ us hl => match us, hl with | [_, _], _ => rfl
  have Fu_lw_place := fun_mk (st := s_lw_place) q52 q53 q54
  have bi_lw_place := Fu_lw_place.binds (ps := ["_law_cell_here"]) fun _ _ _ _ _ _ us hl => match us, hl with | [_], _ => rfl
  have Fu_lw_is_place := fun_mk (st := s_lw_is_place) q56 q57 q58
  have bi_lw_is_place := Fu_lw_is_place.binds (ps := ["_law_thing"]) fun _ _ _ _ _ _ us hl => match us, hl with | [_], _ => rfl
  have Fu_lw_told := fun_mk (st := s_lw_told) q60 q61 q62
  have bi_lw_told := Fu_lw_told.binds (ps := ["_law_found", "_law_due_here"]) fun _ _ _ _ _ _ us hl => match us, hl with | [_, _], _ => rfl
  have Fu_lw_due := fun_mk (st := s_lw_due) q64 q65 q66
  have bi_lw_due := Fu_lw_due.binds (ps := []) fun _ _ _ _ _ _ us hl => match us, hl with | [], _ => rfl
  have Fu_lw_spoiled := fun_mk (st := s_lw_spoiled) q68 q69 q70
  have bi_lw_spoiled := Fu_lw_spoiled.binds (ps := ["_law_place_here", "_law_cell_here"]) fun _ _ _ _ _ _ us hl => match us, hl with | [_, _], _ => rfl
  have Fu_law := fun_mk (st := s_law) q72 q73 q74
  have e0 := hfa.symm.trans (PySem.W.mg_of X G q71)
  cases e0
  refine ⟨PySem.W.fnOf "law" "law" (defArgs s_law) (defBody s_law) (defScope s_law) .none kV_law dc_law pm_law an_law cd_law ct_law, fun s v => .of_eq rfl, fun base _ _ => ?_⟩
  have F_all_places : FnD l.prog w K mg base 1 "all_places" G_all_places := fnd_of Fu_all_places sc_all_places (fun cdv A outer s H E hr => d_all_places hr hb C_EDGES C_KINDS C_NTHS) bi_all_places (PySem.W.mg_of X G q31) q34
  have F_is_word_among : FnD l.prog w K mg base 1 "is_word_among" G_is_word_among := fnd_of Fu_is_word_among sc_is_word_among (fun cdv A outer s H E hr => d_is_word_among hr hb) bi_is_word_among (PySem.W.mg_of X G q35) q38
  have F_is_nth : FnD l.prog w K mg base 1 "is_nth" G_is_nth := fnd_of Fu_is_nth sc_is_nth (fun cdv A outer s H E hr => d_is_nth hr hb C_NTHS) bi_is_nth (PySem.W.mg_of X G q39) q42
  have F_is_place : FnD l.prog w K mg base 2 "is_place" G_is_place := fnd_of Fu_is_place sc_is_place (fun cdv A outer s H E hr => d_is_place hr hb C_EDGES C_KINDS (F_is_word_among.mono (by decide : 1 ≤ 1)) (F_is_nth.mono (by decide : 1 ≤ 1))) bi_is_place (PySem.W.mg_of X G q43) q46
  have F_lw_cell : FnD l.prog w K mg base 1 "_law_cell" G_lw_cell := fnd_of Fu_lw_cell sc_lw_cell (fun cdv A outer s H E hr => d_lw_cell hr hb) bi_lw_cell (PySem.W.mg_of X G q47) q50
  have F_lw_place : FnD l.prog w K mg base 1 "_law_place" G_lw_place := fnd_of Fu_lw_place sc_lw_place (fun cdv A outer s H E hr => d_lw_place hr hb) bi_lw_place (PySem.W.mg_of X G q51) q54
  have F_lw_is_place : FnD l.prog w K mg base 1 "_law_is_place" G_lw_is_place := fnd_of Fu_lw_is_place sc_lw_is_place (fun cdv A outer s H E hr => d_lw_is_place hr hb) bi_lw_is_place (PySem.W.mg_of X G q55) q58
  have F_lw_told : FnD l.prog w K mg base 1 "_law_told" G_lw_told := fnd_of Fu_lw_told sc_lw_told (fun cdv A outer s H E hr => d_lw_told hr hb) bi_lw_told (PySem.W.mg_of X G q59) q62
  have F_lw_due : FnD l.prog w K mg base 1 "_law_due" G_lw_due := fnd_of Fu_lw_due sc_lw_due (fun cdv A outer s H E hr => d_lw_due hr hb) bi_lw_due (PySem.W.mg_of X G q63) q66
  have F_lw_spoiled : FnD l.prog w K mg base 1 "_law_spoiled" G_lw_spoiled := fnd_of Fu_lw_spoiled sc_lw_spoiled (fun cdv A outer s H E hr => d_lw_spoiled hr hb) bi_lw_spoiled (PySem.W.mg_of X G q67) q70
  exact fn_f Fu_law sc_law G_law _ (fun _ _ _ h => runG_len h) (fun cdv A outer s H E hr => d_law hr hb (F_all_places.mono (by decide : 1 ≤ 2)) (F_is_place.mono (by decide : 2 ≤ 2)) (F_lw_cell.mono (by decide : 1 ≤ 2)) (F_lw_place.mono (by decide : 1 ≤ 2)) (F_lw_is_place.mono (by decide : 1 ≤ 2)) (F_lw_told.mono (by decide : 1 ≤ 2)) (F_lw_due.mono (by decide : 1 ≤ 2)) (F_lw_spoiled.mono (by decide : 1 ≤ 2))) (fun _ _ _ _ h => runG_runs h)
end L3

open PySem PySem.W PyProof.Rows
set_option maxRecDepth 100000 in
set_option maxHeartbeats 0 in
theorem PySem.Challenge.cw_byexample_k03_all_places_holds : PySem.Challenge.rw_byexample_k03_all_places.Holds := by
  w_on; o_law; k_head; (case hw => w_witness2)
  k_fill
  refine L3.walk_f (l := PySem.Challenge.rw_byexample_k03_all_places) (n := 63) (k := 3) (x := "_law_script") (G := L3.G_law) rfl (by decide) rfl ⟨rfl, by decide, by decide⟩ (fun w h Y => PySem.W.kIn_of Y) ?F L3.law_true
  case F =>
    intro w mg fa h KX G hmg
    refine' L3.all_mk KX G hmg ?q5 ?q4 ?q13 ?q12 ?q20 ?q19 ?q21 ?q22 ?q23 ?q24 ?q25 ?q26 ?q27 ?q28 ?q29 ?q30 ?q31 ?q32 ?q33 ?q34 ?q35 ?q36 ?q37 ?q38 ?q39 ?q40 ?q41 ?q42 ?q43 ?q44 ?q45 ?q46 ?q47 ?q48 ?q49 ?q50 ?q51 ?q52 ?q53 ?q54 ?q55 ?q56 ?q57 ?q58 ?q59 ?q60 ?q61 ?q62 ?q63 ?q64 ?q65 ?q66 ?q67 ?q68 ?q69 ?q70 ?q71 ?q72 ?q73 ?q74
    (case q5 => k_is)
    (case q4 => k_is)
    (case q13 => k_is)
    (case q12 => k_is)
    (case q20 => k_is)
    (case q19 => k_is)
    (case q21 => k_is)
    (case q22 => k_is)
    (case q23 => k_is)
    (case q24 => k_is)
    (case q25 => k_is)
    (case q26 => k_is)
    (case q27 => k_is)
    (case q28 => k_is)
    (case q29 => k_is)
    (case q30 => k_is)
    (case q31 => k_is)
    (case q32 => k_is)
    (case q33 => k_is)
    (case q34 => k_is)
    (case q35 => k_is)
    (case q36 => k_is)
    (case q37 => k_is)
    (case q38 => k_is)
    (case q39 => k_is)
    (case q40 => k_is)
    (case q41 => k_is)
    (case q42 => k_is)
    (case q43 => k_is)
    (case q44 => k_is)
    (case q45 => k_is)
    (case q46 => k_is)
    (case q47 => k_is)
    (case q48 => k_is)
    (case q49 => k_is)
    (case q50 => k_is)
    (case q51 => k_is)
    (case q52 => k_is)
    (case q53 => k_is)
    (case q54 => k_is)
    (case q55 => k_is)
    (case q56 => k_is)
    (case q57 => k_is)
    (case q58 => k_is)
    (case q59 => k_is)
    (case q60 => k_is)
    (case q61 => k_is)
    (case q62 => k_is)
    (case q63 => k_is)
    (case q64 => k_is)
    (case q65 => k_is)
    (case q66 => k_is)
    (case q67 => k_is)
    (case q68 => k_is)
    (case q69 => k_is)
    (case q70 => k_is)
    (case q71 => k_is)
    (case q72 => k_is)
    (case q73 => k_is)
    (case q74 => k_is)

