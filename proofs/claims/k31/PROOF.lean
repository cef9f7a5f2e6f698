import PyProof.Rows.All
import Wide.All
import OpenK.AllK
import Wide.FinOn
import Lean
import PyProof.EqAt
import PyProof.EqKinds
import PyProof.TupleCall
import PyProof.NeKinds
import KE.KIntText
import KE.KDictList
import PyProof.Rows.SortWalk
import KE.KSortTup
import PySem.Challenge.RW_byexample_k31_row_told_fits
set_option compiler.extract_closed false
local macro_rules | `(command| theorem $i:declId $s:declSig $v:declVal) => do if i.raw.getPos?.isNone || (`PySem).isPrefixOf i.raw[0].getId then Lean.Macro.throwUnsupported else return (← `(command| theorem $i:declId $s:declSig $v:declVal)).raw.rewriteBottomUp fun s => s.setInfo .none
local macro_rules | `(command| def $i:declId $s:optDeclSig $v:declVal) => do return (← `(command| noncomputable def $i:declId $s:optDeclSig $v:declVal)).raw.rewriteBottomUp fun s => s.setInfo .none | `(command| abbrev $i:declId $s:optDeclSig $v:declVal) => `(command| noncomputable abbrev $i:declId $s:optDeclSig $v:declVal)
local macro_rules | `(tactic| omega) => do let f := fun (s : String) (t : Lean.TSyntax `tactic) (g : Lean.Ident → Lean.MacroM (Lean.TSyntax `term)) => (s.splitOn " ").foldr (fun n t => do let t ← t; let a ← g (Lean.mkCIdent (.str `Nat n)); `(tactic| first | exact $a | $t:tactic)) (pure t); let t ← `(tactic| fail); let t ← f "le_trans lt_of_le_of_lt" t fun c => `($c (m := OfNat.ofNat _) (by assumption) (by decide)); let t ← f "le_of_lt ne_of_lt ne_of_gt le_of_eq lt_succ_of_le succ_le_of_lt" t fun c => `($c (by assumption)); let t ← f "le_refl le_add_right le_add_left zero_le succ_pos" t fun c => `($c ..); `(tactic| first | with_reducible (first | assumption | $t:tactic) | omega +splitMinMax)
set_option Elab.async false
set_option linter.all false
set_option maxRecDepth 100000
open PySem.W renaming Frag → AO, nsIn → Cp, findIn → Dy, mg_of → GC, mg_none_of → GD, keepIn → HB, kia_one → HA, emptyDict → AJp, fnOf → AJq, instObj → AJx, plainGet → AKT, hasDictIn → AKU, plainOver → AKg, makesIn → AKh, codeIn → AKk
open Option renaming bind_some → AS, map_eq_some_iff → AJt, bind_eq_some_iff → AKG, map_some → AKM, isSome_iff_exists → AKi, getD_some → AKt
open List renaming prefix_refl → Ac, mem_cons → Ae, map_cons → Am, length_map → An, prefix_append → BB, mem_map → BC, getElem?_map → BH, mem_cons_of_mem → BQ, mem_cons_self → BW, getElem?_eq_some_iff → BY, size_toArray → Bx, all_eq_true → CW, mem_of_getElem? → Cd, length_append → Ck, mem_map_of_mem → Cj, mem_range → Cr, map_map → Cs, mem_append → DB, map_append → Dz, not_mem_nil → EH, length_cons → EX, flatMap_cons → EY, mem_flatMap → EW, getElem?_set_ne → Em, sum_cons → FF, getElem?_append_left → Fh, find?_cons → GH, lookup → Gc, length_take → HF, take_length → HD, map_congr_left → HE, mem_append_right → Hm, nodup_cons → Hk, nodup_append → Hl, nodup_nil → Hj, mem_singleton → AJi, foldl_cons → AJj, append_assoc → AJk, replicate → AJm, any_cons → AJs, getElem?_eq_none → AJw, mem_append_left → AJy, getElem?_append_right → AJ0, all_cons → AJ1, map_nil → AJ2, take_add_one → AJ5, flatMap_append → AJ7, getElem?_set_self → AJ9, length_set → AKB, filter_cons → AKC, getElem?_range → AKD, drop_zero → AKE, forIn_cons → AKH, filterMap_cons → AKI, append_nil → AKK, length_eq_zero_iff → AKL, take_of_length_le → AKN, filterMap → AKO, range_succ → AKP, countP_cons → AKQ, ext_getElem? → AKS, getElem_of_mem → AKV, drop_length → AKW, mem_of_mem_take → AKX, map_id → AKY, getElem?_of_mem → AKZ, flatMap_map → AKa, pairwise_map → AKb, pairwise_flatMap → AKc, mem_filter → AKd, mem_filterMap → AKf, getElem?_replicate → AKj, drop_eq_getElem_cons → AKl, lookup_cons → AKm, getElem_mem → AKn, take_append_drop → AKo, find?_eq_none → AKp, length_range → AKs, length_replicate → AKu, getElem?_eq_none_iff → AK1, mem_of_find?_eq_some → AK2
open Nat renaming le_refl → Al, ne_of_lt → Bu, zero_add → CI, le_trans → DA, lt_of_lt_of_le → DZ, zero_le → FE, ne_of_gt → HC, lt_irrefl → AJl, add_mul → AJu, le_of_eq → AJz, mul_le_mul_right → AJ3, le_add_right → AJ4, mul_le_mul → AJ6, add_assoc → AJ8, le_succ → AKA
open Bool renaming and_eq_true → CJ, false_ne_true → Ct, noConfusion → HI, false_eq_true → AKF, eq_iff_iff → AKJ, eq_false_iff → AKR
open PySem.F renaming plainAttrs_list → Gb, slot_list_append → AJn, type_list_append → AJo, plainAttrs_str → AJv, plainAttrs_dict → AKq, slot_zip_next → AKr, slot_tuple_add → AKv, entry_tuple_add → AKw, args_tuple_add_2 → AKx, slot_dict_setdefault → AKz, slot_list_extend → AK3, type_list_extend → AK4, slot_dict_itemiterator_iter → AK5, slot_tuple_iterator_next → AK6
open Int renaming emod_nonneg → HG, emod_lt_of_pos → HH, toNat_natCast → AJr
open Array renaming length_toList → AKe, getElem?_eq_some_iff → AKy, getElem?_eq_none → AK0
open PySem renaming wpAny_bind → AH, wpAny_pure → AU, wpAny_rule → AK7, wpAny_call_entry → Gz, wpAny_seqItems → AK8, wpAny_mono → GB, wpAny_truthy_bool → AK9, wpAny_holding → EV, wpAny_passesOwn → ALA, wpAny_Call_Name_kw → ALB, wpAny_field → FT, wpAny_callSpecial?_slot → ALC, wpAny_newObj_type → ALD, wpAny_getItem_str_slice → ALE, wpAny_notOrdered_dict → ALF, wpAny_dictEntries → ALG, wpAny_typeNameOfWhole_keyiter → ALH, wpAny_typeNameOfWhole_itemiter → ALI, wpAny_setField_rec → ALJ
abbrev ALK:=PySem.Str->Option PySem.Value
abbrev ALL:=PySem.Value->PySem.Shared->Prop
noncomputable section
namespace L2
open PySem PySem.Spec PyProof.Rows
abbrev Key:=Sum Int Str
def Jj:Key->Value->Bool
 |.inl k,v=>Value.isInt k v
 |.inr x,v=>Value.isStrOf x v
def KW(w:World):Key->Int
 |.inl k=>hashInt k
 |.inr x=>hashStr w x
theorem FW:∀{k:Key} {v:Value},Jj k v=true->(∃i t,k=Sum.inl i/\v=Value.int i t)\/(∃x t,k=Sum.inr x/\v=Value.str x t)
 |.inl i,v,h=>by
  obtain⟨t,e⟩:=Value.isInt_shape (k:=i) (v:=v) h;exact .inl ⟨i,t,rfl,e⟩
 |.inr x,v,h=>by
  obtain⟨t,e⟩:=Value.isStrOf_shape (x:=x) (v:=v) h;exact .inr ⟨x,t,rfl,e⟩
theorem AFc(i:Int)(t:Tok):Jj (.inl i) (.int i t)=true:=by simp[Jj,Value.isInt]
theorem AFb(x:Str)(t:Tok):Jj (.inr x) (.str x t)=true:=by simp[Jj,Value.isStrOf]
theorem AFa(a b:Int):decide ((Sum.inl a:Key)=Sum.inl b)=(a == b):=by
 by_cases e:a=b
 .subst e;simp
 .have h:¬(Sum.inl a:Key)=Sum.inl b:=λq=>e (Sum.inl.inj q);rw[decide_eq_false h];exact(beq_eq_false_iff_ne.mpr e).symm
theorem AFX(a b:Str):decide ((Sum.inr a:Key)=Sum.inr b)=decide (a=b):=by
 by_cases e:a=b
 .subst e;simp
 .have h:¬(Sum.inr a:Key)=Sum.inr b:=λq=>e (Sum.inr.inj q);rw[decide_eq_false h,decide_eq_false e]
theorem AFZ(a:Int)(b:Str):decide ((Sum.inl a:Key)=Sum.inr b)=false:=decide_eq_false (λq=>nomatch q)
theorem AFY(a:Str)(b:Int):decide ((Sum.inr a:Key)=Sum.inl b)=false:=decide_eq_false (λq=>nomatch q)
def NV(prog:Program)(w:World):PySem.KeyKind prog w Key where
 is:=Jj
 hash:=KW w
 inj:=λv a b ha hb=>by
  rcases FW ha with⟨i,t,rfl,rfl⟩|⟨x,t,rfl,rfl⟩
  .rcases FW hb with⟨j,u,rfl,e⟩|⟨y,u,rfl,e⟩
   .injection e with e1 _;rw[e1]
   .exact nomatch e
  .rcases FW hb with⟨j,u,rfl,e⟩|⟨y,u,rfl,e⟩
   .exact nomatch e
   .injection e with e1 _;rw[e1]
 byValue:=λk v h=>by
  rcases FW h with⟨i,t,rfl,rfl⟩|⟨x,t,rfl,rfl⟩ <;> rfl
 pyHash:=λhv h=>by
  rcases FW hv with⟨i,t,rfl,rfl⟩|⟨x,t,rfl,rfl⟩
  .exact wpAny_pyHash_int h
  .exact wpAny_pyHash_str h
 eqBool:=λhu hv h=>by
  rcases FW hu with⟨i,t,rfl,rfl⟩|⟨x,t,rfl,rfl⟩
  .rcases FW hv with⟨j,u,rfl,rfl⟩|⟨y,u,rfl,rfl⟩
   .rw[AFa] at h;exact wpAny_eqBool_int h
   .rw[AFZ] at h;exact SeqAt.EqAt.int_str i t y u _ _ _ _ h
  .rcases FW hv with⟨j,u,rfl,rfl⟩|⟨y,u,rfl,rfl⟩
   .rw[AFY] at h;exact SeqAt.EqAt.str_int x t j u _ _ _ _ h
   .rw[AFX] at h;exact wpAny_eqBool_str h
 «strs»:=λk x t v h=>by
  rcases FW h with⟨i,u,rfl,e⟩|⟨y,u,rfl,e⟩
  .exact nomatch e
  .injection e with e1 _
   subst e1;cases v <;> rfl
inductive V where
 |non|bl (b:Bool)|int (i:Int)|str (x:Str)|byt (b:Array UInt8)|flt (b:UInt64)|ref (a:Addr)|ty (n:String)
 deriving DecidableEq
def Ai:V->Value->Prop
 |.non,u=>u=Value.none
 |.bl b,u=>u=Value.bool b
 |.int i,u=>∃t,u=Value.int i t
 |.str x,u=>∃t,u=Value.str x t
 |.byt b,u=>∃t,u=Value.bytes b t
 |.flt b,u=>∃t,u=Value.float b t
 |.ref a,u=>u=Value.ref a
 |.ty n,u=>u=Value.type n
abbrev Ak:List V->List Value->Prop:=Paired Ai
theorem Ak.length{xs:List V}{us:List Value}(r:Ak xs us):xs.length=us.length:=Paired.length r
theorem Ak.get:∀{xs:List V} {us:List Value} {i:Nat} {x:V},Ak xs us->xs[i]?=some x->∃u,us[i]?=some u/\Ai x u
 |_,_,_,_,.nil,e=>by simp at e
 |_,_,0,_,.cons r _,e=>by simp at e;subst e;exact⟨_,rfl,r⟩
 |_,_,i+1,x,.cons _ t,e=>by
  obtain⟨u,h1,h2⟩:=Ak.get (i:=i) (x:=x) t (by simpa using e);exact⟨u,by simpa using h1,h2⟩
theorem Ak.set{x:V}{u:Value}(r:Ai x u):∀{xs:List V} {us:List Value} (i:Nat),Ak xs us->Ak (xs.set i x) (us.set i u)
 |_,_,_,.nil=>.nil
 |_,_,0,.cons _ t=>.cons r t
 |_,_,i+1,.cons q t=>.cons q (Ak.set r i t)
theorem Ak.append:∀{xs ys:List V} {us ws:List Value},Ak xs us->Ak ys ws->Ak (xs++ys) (us++ws)
 |_,_,_,_,.nil,s=>s
 |_,_,_,_,.cons r t,s=>.cons r (Ak.append t s)
theorem Ak.take:∀{xs:List V} {us:List Value} (n:Nat),Ak xs us->Ak (xs.take n) (us.take n)
 |_,_,0,_=>.nil
 |_,_,_+1,.nil=>.nil
 |_,_,n+1,.cons r t=>.cons r (Ak.take n t)
theorem Ak.drop:∀{xs:List V} {us:List Value} (n:Nat),Ak xs us->Ak (xs.drop n) (us.drop n)
 |_,_,0,r=>r
 |_,_,_+1,.nil=>.nil
 |_,_,n+1,.cons _ t=>Ak.drop n t
def GV:Option V->Option Value->Prop
 |some v,some u=>Ai v u
 |none,none=>True
 |_,_=>False
def KV{κ:Type}:List (κ×V)->List (κ×Value)->Prop:=Paired λ(p:κ×V) (q:κ×Value)=>p.1=q.1/\Ai p.2 q.2
def kV:Key->V
 |.inl i=>.int i
 |.inr x=>.str x
def LD(M:Model)(A:Around)(h:Heap)(v:Value)(q:Int×Nat):Prop:=∀(E:ALL) (s:Shared) (Q:Int->Shared->Prop),s.heap=h->Q q.1 {s with toks:=s.toks+q.2}->wpAny M A (pyHash v) Q E s
section
variable {prog:Program}{w:World}{A:Around}{E:ALL}{s:Shared}
theorem VD{a:Addr}{its:List Value}{qs:List (Int×Nat)}(hu:A.units<cLine)(t:s.heap.IsTuple a its.toArray)(each:Paired (LD (model prog w) A.in1 s.heap) its qs) :
  LD (model prog w) A s.heap (.ref a) (reduceHash (Builtin.Tuple.tupleHashOf (qs.map (·.1))),(qs.map (·.2)).sum+1):=λE s' Q e0 fin=>by
 have ty:s'.TypeIs (.ref a) "tuple":=by obtain⟨o,g,c,_⟩:=t;exact⟨o,by rw[e0];exact g,c⟩
 have own:∀{R:ALL} {F:ALL},R (.int (Builtin.Tuple.tupleHashOf (qs.map (·.1))) (s'.toks+(qs.map (·.2)).sum)) {s' with toks:=s'.toks+(qs.map (·.2)).sum+1}->wpAny (model prog w) A.in1 (Builtin.«tuple.__hash__» ⟨[.ref a],[]⟩) (λfi s2=>∃v,fi=PySem.Fin.done (Flow.ret v)/\R v s2) F s':=λ{R F} k=>by
  obtain⟨o,g,_,n,dat⟩:=t;show wpAny _ _ (Builtin.Tuple.tupleItemsOf (.ref a) >>= _) _ F s';refine AH (wpAny_tupleItemsOf (by rw[e0];exact g) dat (AH ?_))
  have walk:∀{l:List Value} {m:List (Int×Nat)} (p:Paired (LD (model prog w) A.in1 s.heap) l m) (acc:Array Int) (u:Nat) {G:Array Int->Shared->Prop},
    G (acc++(m.map (·.1)).toArray) {s' with toks:=u+(m.map (·.2)).sum}->wpAny (model prog w) A.in1 (forIn l acc λx hs=>do let __do_lift <-pyHash x;pure (ForInStep.yield (hs.push __do_lift))) G F {s' with toks:=u}:=by
   intro l m p
   induction p with
   |nil=>intro acc u G hG;exact AU (by simpa using hG)
   |@cons x q l m hx _ ih =>
    intro acc u G hG;rw[AKH];refine AH (AH (hx F {s' with toks:=u} _ e0 (AU ?_)));refine ih (acc.push q.1) (u+q.2) ?_;simpa[AJ8] using hG
  have go:=walk each #[] s'.toks (G:=λb s2=>wpAny (model prog w) A.in1 (retInt (Builtin.Tuple.tupleHashOf b.toList)) (λfi s2=>∃v,fi=PySem.Fin.done (Flow.ret v)/\R v s2) F s2) (by
   have e9:((#[]:Array Int)++(qs.map (·.1)).toArray).toList=qs.map (·.1):=by simp
   rw[e9];refine wpAny_ret_mkInt ?_
   exact k)
  simpa using go
 have turn:∀{i:Int} {u:Nat},Q (reduceHash i) {s' with toks:=u}->wpAny (model prog w) A (pyHashByItsType.reduced i) Q E {s' with toks:=u}:=λ{i u} hQ=>by
  unfold reduceHash at hQ
  show wpAny _ _ (if (decide (-(2:Int) ^ 63<=i)&&decide (i<2 ^ 63))=true then _ else _) Q E _
  split at hQ
  .rename_i c;rw[if_pos c];exact AU hQ
  .rename_i c;rw[if_neg c];exact AH (AK7 (AU hQ))
 have look:=PySem.F.slot_tuple_hash;unfold pyHash pyHashByItsType;refine AH (wpAny_cRoomFor_or (.inr hu) (AH (wpAny_specialOf ty look.lookup ?_)));refine iteN (AH (wpAny_specialOf ty look.lookup (AH (wpAny_callSpecialIfBoundUnlessNone?_slot ty look (Gz look ty PySem.F.entry_tuple_hash (own (turn (by simpa[AJ8] using fin))) (PySem.F.args_tuple_hash_1 _))))))
where
 iteN {α:Type} {M:Model} {A:Around} {x y:Sem α} {Q:α->Shared->Prop} {E:ALL} {s:Shared} {id:String} (h:wpAny M A y Q E s):wpAny M A (if (some (Value.builtin id) == some Value.none)=true then x else y) Q E s:=by rw[if_neg (by rw[beq_builtin_none];simp)];exact h
theorem AHc{α:Type}[DecidableEq α](x y:List α):((List.range (min x.length y.length)).all (λj=>decide (x[j]?=y[j]?))&&x.length == y.length)=decide (x=y):=by
 by_cases h:x=y
 .subst h;simp
 .rw[decide_eq_false h]
  by_cases hl:x.length=y.length
  .rw[Bool.and_eq_false_iff];left;rw[AKR];intro ha;refine h (AKS λj=>?_)
   by_cases hj:j<x.length
   .exact of_decide_eq_true (CW.mp ha j (Cr.mpr (by omega)))
   .rw[AJw (by omega),AJw (by omega)]
  .simp[hl]
theorem Paired.both{α β:Type}{R:α->β->Prop}:∀{l:List α} {m:List β} {j:Nat} (h:j<m.length),Paired R l m->∃a,l[j]?=some a/\R a m[j]
 |_,_,0,_,.cons r _=>⟨_,rfl,r⟩
 |_,_,j+1,h,.cons _ t=>by
  obtain⟨a,e,r⟩:=Paired.both (j:=j) (by simpa using h) t;exact⟨a,by simpa using e,by simpa using r⟩
theorem Paired.one{α β:Type}{R:α->β->Prop}(inj:∀a a' b,R a b->R a' b->a=a'):∀{l l':List α} {m:List β},Paired R l m->Paired R l' m->l=l'
 |_,_,_,.nil,p=>by cases p;rfl
 |_,_,_,.cons r t,p=>by
  cases p with
  |cons r' t'=>rw[inj _ _ _ r r',Paired.one inj t t']
theorem VB{α:Type}[DecidableEq α]{R:α->Value->Prop}{a b:Addr}{x y:List α}{us vs:List Value}(hu:A.units<cLine)(inj:∀k k' u,R k u->R k' u->k=k')(each:∀k k' u v,R k u->R k' v->SeqAt.EqAt A.in1 s u v (decide (k=k')))
  (ta:s.heap.IsTuple a us.toArray) (tb:s.heap.IsTuple b vs.toArray) (px:Paired R x us) (py:Paired R y vs):SeqAt.EqAt A s (.ref a) (.ref b) (decide (x=y)):=by
 by_cases ab:a=b
 .subst ab;obtain⟨o,g,_,n,dd⟩:=ta;obtain⟨o',g',_,n',dd'⟩:=tb;rw[g] at g';cases g';rw[dd] at dd';cases dd';rw[Paired.one inj px py,decide_eq_true rfl];exact .same _
 .refine .of_refs ab ?_
  have rc:=SeqAt.RcAt.tuples (e:=λj=>decide (x[j]?=y[j]?)) ta tb hu λj h1 h2=>by
   obtain⟨k,ek,rk⟩:=Paired.both (j:=j) (by simpa using h1) px;obtain⟨k',ek',rk'⟩:=Paired.both (j:=j) (by simpa using h2) py;rw[ek,ek',show decide (some k=some k')=decide (k=k') from decide_eq_decide.mpr (by simp)];exact each k k' _ _ (by simpa using rk) (by simpa using rk')
  rw[Bx,Bx,<-Paired.length px,<-Paired.length py,AHc] at rc;exact rc
theorem VC{M:Model}{n:Nat}{a:Addr}{its:List Value}{Q:Bool->Shared->Prop}(t:s.heap.IsTuple a its.toArray)(each:∀v∈its,∀(G:Bool->Shared->Prop),G true s->wpAny M A (eqIsQuiet n v) G E s)(h:Q true s):wpAny M A (eqIsQuiet (n+1) (.ref a)) Q E s:=by
 obtain⟨o,g,c,m,dd⟩:=t;have ty:s.TypeIs (.ref a) "tuple":=⟨o,g,c⟩
 have walk:∀l:List Value,(∀v∈l,v∈its)->wpAny M A (forIn l ((none:Option Bool),PUnit.unit) λy _=>do let __do_lift <-eqIsQuiet n y;if (!__do_lift)=true then pure (ForInStep.done (some false,PUnit.unit)) else pure (ForInStep.yield (none,PUnit.unit)))
   (λr s2=>r.1=none/\s2=s) E s:=by
  intro l
  induction l with
  |nil=>intro _;exact AU ⟨rfl,rfl⟩
  |cons v l ih =>
   intro hl;rw[AKH];refine AH (AH (each v (hl v (by simp)) _ (iteF (by decide) (AU (ih λz hz=>hl z (by simp[hz]))))))
 unfold eqIsQuiet;refine AH (wpAny_specialOf ty PySem.F.slot_tuple_eq.lookup ?_);show wpAny M A (isInstance (.ref a) (.type "tuple") >>= _) Q E s;refine AH (wpAny_isInstance ty isSubtype_tuple_tuple (iteF (by decide) (AH (AK8 g dd (AH ?_)))));have w0:=walk its λ_ z=>z;show wpAny M A (forIn its.toArray _ _) _ E s;rw[List.forIn_toArray];refine GB w0 (λr s2 z2_=>?_) λ_ _ z=>z;obtain⟨e1,e2⟩:=z2_;rw[e2];simp only[e1];exact AU h
where
 iteF {α:Type} {M:Model} {A:Around} {x y:Sem α} {Q:α->Shared->Prop} {E:ALL} {s:Shared} {c:Prop} [Decidable c] (hc:¬c) (h:wpAny M A y Q E s):wpAny M A (if c then x else y) Q E s:=by rw[if_neg hc];exact h
end
abbrev NK:=List (Key ⊕ List Key)
def Ek(k:Key)(v:Value):Prop:=Jj k v=true
def Hh(h:Heap):Key ⊕ List Key->Value->Prop
 |.inl k,v=>Ek k v
 |.inr ks,v=>∃b its,v=.ref b/\h.IsTuple b its.toArray/\Paired Ek ks its
def AHn(h:Heap)(k:NK)(a:Addr):Prop:=∃its,h.IsTuple a its.toArray/\Paired (Hh h) k its
def SY(w:World):Key ⊕ List Key->Int×Nat
 |.inl k=>(KW w k,1)
 |.inr ks=>(reduceHash (Builtin.Tuple.tupleHashOf ((ks.map λk=>(KW w k,1)).map (·.1))),((ks.map λk=>(KW w k,1)).map (·.2)).sum+1)
section
variable {prog:Program}{w:World}{A:Around}{E:ALL}{s:Shared}{h:Heap}
theorem Ek.inj{k k':Key}{u:Value}(x:Ek k u)(y:Ek k' u):k=k':=by rcases FW x with⟨_,_,rfl,rfl⟩|⟨_,_,rfl,rfl⟩ <;> rcases FW y with⟨_,_,rfl,e⟩|⟨_,_,rfl,e⟩ <;> cases e <;> rfl
theorem IsTuple.same{a:Addr}{us vs:List Value}(x:h.IsTuple a us.toArray)(y:h.IsTuple a vs.toArray):us=vs:=by obtain⟨o,g,_,n,dd⟩:=x;obtain⟨o',g',_,n',dd'⟩:=y;rw[g] at g';cases g';rw[dd] at dd';cases dd';rfl
theorem Ek.noRef{k:Key}{a:Addr}(x:Ek k (.ref a)):False:=by rcases FW x with⟨_,_,_,e⟩|⟨_,_,_,e⟩ <;> cases e
theorem Hh.inj{k k':Key ⊕ List Key}{u:Value}(x:Hh h k u)(y:Hh h k' u):k=k':=by
 cases k with
 |inl k =>
  cases k' with
  |inl k'=>rw[Ek.inj x y]
  |inr ks=>obtain⟨b,_,rfl,_⟩:=y;exact x.noRef.elim
 |inr ks =>
  obtain⟨b,its,rfl,t,p⟩:=x
  cases k' with
  |inl k'=>exact(Ek.noRef y).elim
  |inr ks' =>
   obtain⟨b',its',e,t',p'⟩:=y;cases e;rw[IsTuple.same t t'] at p;rw[Paired.one (R:=Ek) (λ_ _ _ a b=>a.inj b) p p']
theorem XS{k k':Key}{u v:Value}(x:Ek k u)(y:Ek k' v):SeqAt.EqAt A s u v (decide (k=k')):=λprog w E Q hQ=>(NV prog w).eqBool x y hQ
theorem AFi{k k':Key ⊕ List Key}{u v:Value}(hu:A.units<cLine)(x:Hh s.heap k u)(y:Hh s.heap k' v):SeqAt.EqAt A s u v (decide (k=k')):=by
 cases k with
 |inl k =>
  cases k' with
  |inl k' =>
   rw[show decide ((Sum.inl k:Key ⊕ List Key)=Sum.inl k')=decide (k=k') from decide_eq_decide.mpr (by simp)];exact XS x y
  |inr ks =>
   obtain⟨b,its,rfl,t,p⟩:=y;rw[decide_eq_false (by simp)];rcases FW x with⟨i,t',rfl,rfl⟩|⟨z,t',rfl,rfl⟩
   .exact .int_tuple i t' t hu
   .exact .str_tuple z t' t hu
 |inr ks =>
  obtain⟨a,its,rfl,t,p⟩:=x
  cases k' with
  |inl k' =>
   rw[decide_eq_false (by simp)];rcases FW y with⟨i,t',rfl,rfl⟩|⟨z,t',rfl,rfl⟩
   .exact .tuple_int i t' t hu
   .exact .tuple_str z t' t hu
  |inr ks' =>
   obtain⟨b,its',rfl,t',p'⟩:=y;rw[show decide ((Sum.inr ks:Key ⊕ List Key)=Sum.inr ks')=decide (ks=ks') from decide_eq_decide.mpr (by simp)];exact VB (R:=Ek) hu (λ_ _ _ a b=>a.inj b) (λ_ _ _ _ a b=>XS a b) t t' p p'
theorem XR{k:Key}{v:Value}(x:Ek k v):LD (model prog w) A h v (KW w k,1):=λE s Q _ hQ=>(NV prog w).pyHash x hQ
theorem XQ:∀{ks:List Key} {vs:List Value},Paired Ek ks vs->Paired (LD (model prog w) A h) vs (ks.map λk=>(KW w k,1))
 |_,_,.nil=>.nil
 |_,_,.cons x t=>.cons (XR x) (XQ t)
theorem SL(hu:A.units<cLine):∀{ks:NK} {vs:List Value},Paired (Hh s.heap) ks vs->Paired (LD (model prog w) A s.heap) vs (ks.map (SY w))
 |_,_,.nil=>.nil
 |.inl k::_,_,.cons x t=>.cons (XR x) (SL hu t)
 |.inr ks::_,_,.cons x t=>by
  obtain⟨b,its,rfl,tb,p⟩:=x;exact .cons (VD hu tb (XQ p)) (SL hu t)
theorem XO{M:Model}{n:Nat}{ks:List Key}{vs:List Value}(p:Paired Ek ks vs):∀v∈vs,∀(G:Bool->Shared->Prop),G true s->wpAny M A (eqIsQuiet n v) G E s:=by
 induction p with
 |nil=>intro v hv;cases hv
 |cons x _ ih =>
  intro v hv G hG;rcases Ae.mp hv with e|hv
  .subst e;have:eqIsQuiet n v=pure true:=by rcases FW x with⟨_,_,_,rfl⟩|⟨_,_,_,rfl⟩ <;> (unfold eqIsQuiet;rfl)
   rw[this];exact AU hG
  .exact ih v hv G hG
theorem AFh{M:Model}{n:Nat}{ks:NK}{vs:List Value}(p:Paired (Hh s.heap) ks vs):∀v∈vs,∀(G:Bool->Shared->Prop),G true s->wpAny M A (eqIsQuiet (n+1) v) G E s:=by
 induction p with
 |nil=>intro v hv;cases hv
 |@cons k u _ _ x _ ih =>
  intro v hv G hG;rcases Ae.mp hv with e|hv
  .subst e
   cases k with
   |inl k=>exact XO (ks:=[k]) (vs:=[v]) (.cons x .nil) v (by simp) G hG
   |inr ks =>
    obtain⟨b,its,rfl,tb,p⟩:=x;exact VC tb (XO p) hG
  .exact ih v hv G hG
theorem IsTuple.other{h':Heap}{a d:Addr}{its:Array Value}{o:Obj}{es:Array DictEntry}{ep:Nat}(x:h.IsTuple a its)(ho:h.get? d=some o)(hd:o.data=.dict es ep)(hs:Heap.SameBut d h h'):h'.IsTuple a its:=by
 obtain⟨o',g,c,n,dd⟩:=x;have ne:a≠d:=λe=>by subst e;rw[g] at ho;cases ho;rw[dd] at hd;cases hd
 exact⟨o',(hs.2 a ne).trans g,c,n,dd⟩
theorem Paired.to{α β:Type}{F G:α->β->Prop}:∀{l₁:List α} {l₂:List β},Paired F l₁ l₂->(∀a b,F a b->G a b)->Paired G l₁ l₂
 |_,_,.nil,_=>.nil
 |_,_,.cons r t,f=>.cons (f _ _ r) (Paired.to t f)
end
def Hv(prog:Program)(w:World):HeapKind prog w NK where
 is:=AHn
 hash:=λk=>reduceHash (Builtin.Tuple.tupleHashOf ((k.map (SY w)).map (·.1)))
 draws:=λk=>((k.map (SY w)).map (·.2)).sum+1
 room:=λA=>A.units+1<cLine
 inj:=λz0_ z1_=>by
  obtain⟨_,t,p⟩:=z0_;obtain⟨_,t',p'⟩:=z1_;rw[IsTuple.same t t'] at p;exact Paired.one (R:=Hh _) (λ_ _ _ a b=>a.inj b) p p'
 keeps:=λ⟨its,t,p⟩ ho hd hs=>⟨its,IsTuple.other t ho hd hs,Paired.to p λk v x=>by
  cases k with
  |inl k=>exact x
  |inr ks=>obtain⟨b,l,e,tb,q⟩:=x;exact⟨b,l,e,IsTuple.other tb ho hd hs,q⟩⟩
 pyHash:=λhu z1_ hQ=>by obtain⟨_,t,p⟩:=z1_;exact VD (Nat.lt_of_succ_lt hu) t (SL hu p) _ _ _ rfl hQ
 eqBool:=λhu z1_ z2_ hQ=>by obtain⟨_,t,p⟩:=z1_;obtain⟨_,t',p'⟩:=z2_;exact VB (R:=Hh _) (Nat.lt_of_succ_lt hu) (λ_ _ _ a b=>a.inj b) (λ_ _ _ _ a b=>AFi hu a b) t t' p p' _ _ _ _ hQ
 quiet:=λz0_ hQ=>by obtain⟨_,t,p⟩:=z0_;exact VC t (AFh p) hQ
inductive HO where
 /-- a list -/
 |lst (xs:List V)
 /-- a tuple (never changes) -/
 |tup (xs:List V)
 /-- a dict whose keys are ints and texts;one whose keys are tuples of ints and texts (the empty one is both) -/
 |dK (kvs:List (Key×V))|dT (kvs:List (List Key×V))
 /-- a dict whose keys are tuples: each key,its address,the value;how often its keys have changed -/
 |dN (kvs:List (NK×Addr×V)) (ep:Nat)
 /-- a set of ints: its members,its size -/
 |set (S:Int->Bool) (n:Nat)
 /-- an instance of the class at C,its dict at dx,its attributes -/
 |ins (C dx:Addr) (fs:List (Str×V))
 /-- the dict of the instance at x -/
 |own (x:Addr)
 /-- the dict of an exception -/
 |xd (fs:List (Str×V))
 /-- a bound method,f of x -/
 |met (f x:Addr)
 /-- a range object lo,lo+1,.. below hi -/
 |rng (lo hi:Int)
 /-- a thing that is known to the object (the script;a dict while a loop walks it): read,never written while it is so -/
 |frz (o:Obj) (u:HO)
 /-- a code object's table -/
 |tbl (ps:Array Value)
 /-- any other thing,by what is true of its one object (a def of one's own: SetO a S n:=HO.ext λh=>..) -/
 |ext (φ:Heap->Prop)
abbrev Hp:=Addr->Option HO
def upd(H:Hp)(a:Addr)(o:HO):Hp:=λb=>if b=a then some o else H b
theorem Ce{H:Hp}{a:Addr}{o:HO}:upd H a o a=some o:=by unfold upd;rw[if_pos rfl]
theorem Bn{H:Hp}{a b:Addr}{o:HO}(h:b≠a):upd H a o b=H b:=by unfold upd;rw[if_neg h]
theorem Du{H:Hp}{a b:Addr}{o:HO}(h:H a=some o)(h':H b=none):a≠b:=by intro e;subst e;rw[h] at h';cases h'
section
variable (P:Program)(w:World)
def Cc(H:Hp)(h:Heap)(a:Addr):HO->Prop
 |.lst xs=>xs.length<=sizeLine/\∃(its:List Value) (n:Nat),Ak xs its/\h.get? a=some {cls:=.type "list",data:=.seq its.toArray n}
 |.tup xs=>xs.length<=sizeLine/\∃its:List Value,Ak xs its/\IsTup h a its.toArray
 |.dK kvs=>kvs.length<=sizeLine/\(a == sysModules)=false/\∃vs,KV kvs vs/\h.DictOf (NV P w) a vs
 |.dT kvs=>kvs.length<=sizeLine/\(a == sysModules)=false/\∃xs:List (List Key×Addr×Value),
   Paired (λ(p:List Key×V) (q:List Key×Addr×Value)=>p.1=q.1/\H q.2.1=some (.tup (p.1.map kV))/\Ai p.2 q.2.2) kvs xs /\
   ∃o es ep,h.get? a=some o/\o.ExactDict/\o.data=.dict es ep/\es.toList=xs.map (entryOfKey (tupleKind (NV P w)))/\(xs.map (·.1)).Nodup
 |.dN kvs ep=>kvs.length<=sizeLine/\(a == sysModules)=false/\∃xs:List (NK×Addr×Value),
   Paired (λ(p:NK×Addr×V) (q:NK×Addr×Value)=>p.1=q.1/\p.2.1=q.2.1/\Ai p.2.2 q.2.2) kvs xs /\
   ∃o es,h.get? a=some o/\o.ExactDict/\o.data=.dict es ep/\es.toList=xs.map (entryOfKey (Hv P w))/\(xs.map (·.1)).Nodup
 |.set S n=>h.SetOf (intKind P w) a S n
 |.ins C dx fs=>H dx=some (.own a)/\fs.length<=1000/\dx≠a/\h.get? a=some (AJx C dx) /\
   ∃mA,h.Ns1 dx mA/\(∀f,GV (fs.lookup f) (mA f))/\PySem.Within mA (fs.map (·.1))
 |.own _=>∃o,h.get? a=some o
 |.xd fs=>∃mA,h.Ns1 a mA/\∀f,GV (fs.lookup f) (mA f)
 |.rng lo hi=>∃t u v,h.get? a=some {cls:=.type "range",data:=.fields #[.int lo t,.int hi u,.int 1 v]}
 |.frz o u=>h.get? a=some o/\Cc H h a u
 |.tbl ps=>h.get? a=some {cls:=.none,data:=.fields ps}
 |.met f x=>h.get? a=some (PySem.W.methodObj (.ref f) (.ref x))
 |.ext φ=>φ h/\(∃o,h.get? a=some o)/\∀h1 h2:Heap,φ h1->(∀o,h1.get? a=some o->h2.get? a=some o)->φ h2
def DY(H:Hp)(h:Heap):Prop:=∀a o,H a=some o->Cc P w H h a o
end
section
variable {P:Program}{w:World}{H H':Hp}{h h':Heap}{a:Addr}{o:HO}
theorem Cc.lt(x:Cc P w H h a o):a<h.objs.size:=by
 cases o with
 |lst xs=>obtain⟨_,_,_,_,e⟩:=x;exact Heap.lt_size e
 |tup xs=>obtain⟨_,_,_,p⟩:=x;exact p.lt
 |dK kvs=>obtain⟨_,_,_,_,o,_,_,e,_⟩:=x;exact Heap.lt_size e
 |dT kvs=>obtain⟨_,_,_,_,o,_,_,e,_⟩:=x;exact Heap.lt_size e
 |dN kvs ep=>obtain⟨_,_,_,_,o,_,e,_⟩:=x;exact Heap.lt_size e
 |set S n=>obtain⟨o,_,_,_,e,_⟩:=x;exact Heap.lt_size e
 |ins C dx fs=>obtain⟨_,_,_,e,_⟩:=x;exact Heap.lt_size e
 |own y=>obtain⟨_,e⟩:=x;exact Heap.lt_size e
 |xd fs=>obtain⟨_,⟨_,_,_,e,_⟩,_⟩:=x;exact Heap.lt_size e
 |rng lo hi=>obtain⟨_,_,_,e⟩:=x;exact Heap.lt_size e
 |frz ob u=>obtain⟨e,_⟩:=x;exact Heap.lt_size e
 |tbl ps=>exact Heap.lt_size (show h.get? a=some _ from x)
 |met f y=>exact Heap.lt_size (show h.get? a=some _ from x)
 |ext φ=>obtain⟨_,⟨_,e⟩,_⟩:=x;exact Heap.lt_size e
theorem Paired.mapP{α β:Type}{F G:α->β->Prop}:∀{l₁:List α} {l₂:List β},Paired F l₁ l₂->(∀a b,F a b->G a b)->Paired G l₁ l₂
 |_,_,.nil,_=>.nil
 |_,_,.cons r t,f=>.cons (f _ _ r) (Paired.mapP t f)
theorem Cc.stay(x:Cc P w H h a o)(k:∀b u,(b=a\/H b=some (.own a))->h.get? b=some u->h'.get? b=some u)
  (ho:∀b,H b=some (.own a)->H' b=some (.own a)) (ht:∀b xs,H b=some (.tup xs)->H' b=some (.tup xs)):Cc P w H' h' a o:=by
 induction o with
 |lst xs=>obtain⟨z,its,n,r,e⟩:=x;exact⟨z,its,n,r,k _ _ (.inl rfl) e⟩
 |tup xs=>obtain⟨z,its,r,ob,e,c⟩:=x;exact⟨z,its,r,ob,k _ _ (.inl rfl) e,c⟩
 |dK kvs=>obtain⟨z,y,vs,r,ob,es,ep,e,c⟩:=x;exact⟨z,y,vs,r,ob,es,ep,k _ _ (.inl rfl) e,c⟩
 |dT kvs =>
  obtain⟨z,y,xs,r,ob,es,ep,e,c⟩:=x;exact⟨z,y,xs,Paired.mapP r λp q z=>⟨z.1,ht _ _ z.2.1,z.2.2⟩,ob,es,ep,k _ _ (.inl rfl) e,c⟩
 |dN kvs ep=>obtain⟨z,y,xs,r,ob,es,e,c⟩:=x;exact⟨z,y,xs,r,ob,es,k _ _ (.inl rfl) e,c⟩
 |set S n=>obtain⟨ob,es,ep,t,e,c⟩:=x;exact⟨ob,es,ep,t,k _ _ (.inl rfl) e,c⟩
 |ins C dx fs =>
  obtain⟨d,z,ne,e,mA,⟨od,es,ep,e2,c⟩,r⟩:=x;exact⟨ho _ d,z,ne,k _ _ (.inl rfl) e,mA,⟨od,es,ep,k _ _ (.inr d) e2,c⟩,r⟩
 |own y=>obtain⟨ob,e⟩:=x;exact⟨ob,k _ _ (.inl rfl) e⟩
 |xd fs=>obtain⟨mA,⟨od,es,ep,e,c⟩,r⟩:=x;exact⟨mA,⟨od,es,ep,k _ _ (.inl rfl) e,c⟩,r⟩
 |rng lo hi=>obtain⟨t,u,v,e⟩:=x;exact⟨t,u,v,k _ _ (.inl rfl) e⟩
 |frz ob u ih=>obtain⟨e,q⟩:=x;exact⟨k _ _ (.inl rfl) e,ih q⟩
 |tbl ps =>
  have e:h.get? a=some {cls:=.none,data:=.fields ps}:=x;show h'.get? a=some {cls:=.none,data:=.fields ps};exact k a _ (.inl rfl) e
 |met f y =>
  have e:h.get? a=some (PySem.W.methodObj (.ref f) (.ref y)):=x;show h'.get? a=some (PySem.W.methodObj (.ref f) (.ref y));exact k a _ (.inl rfl) e
 |ext φ=>obtain⟨p,⟨o,e⟩,st⟩:=x;exact⟨st _ _ p λo q=>k _ _ (.inl rfl) q,⟨o,k _ _ (.inl rfl) e⟩,st⟩
theorem DY.lt(x:DY P w H h)(e:H a=some o):a<h.objs.size:=(x a o e).lt
theorem DY.fresh(x:DY P w H h)(e:h.objs.size<=a):H a=none:=by
 cases q:H a with
 |none=>rfl
 |some u=>exact absurd (DZ (x.lt q) e) (AJl _)
theorem DY.kept(x:DY P w H h)(k:∀b u,h.get? b=some u->h'.get? b=some u):DY P w H h':=λa o e =>
 (x a o e).stay (λb u _ q=>k b u q) (λ_ q=>q) λ_ _ q=>q
theorem DY.laid(x:DY P w H h)(k:∀b u,h.get? b=some u->h'.get? b=some u)(hp:h.objs.size<=a)(new:Cc P w (upd H a o) h' a o):DY P w (upd H a o) h':=λb u e=>by
 have hn:=x.fresh hp
 by_cases hb:b=a
 .subst hb;rw[Ce] at e;cases e;exact new
 .rw[Bn hb] at e;exact(x b u e).stay (λc v _ q=>k c v q) (λc q=>by rw[Bn (Du q hn)];exact q) λc xs q=>by rw[Bn (Du q hn)];exact q
end
def Rd(H:Hp)(a:Addr)(u:HO):Prop:=H a=some u\/∃o,H a=some (.frz o u)
theorem Rd.of{H:Hp}{a:Addr}{u:HO}(h:H a=some u):Rd H a u:=.inl h
theorem Rd.ok{P:Program}{w:World}{H:Hp}{h:Heap}{a:Addr}{u:HO}(r:Rd H a u)(x:DY P w H h):Cc P w H h a u:=by
 rcases r with r|⟨o,r⟩
 .exact x a u r
 .obtain⟨_,q⟩:=x a _ r;exact q
def MM:Option HO->Prop
 |some (.lst _)=>True
 |some (.dK _)=>True
 |some (.dT _)=>True
 |some (.dN _ _)=>True
 |some (.set _ _)=>True
 |some (.ins _ _ _)=>True
 |some (.ext _)=>True
 |_=>False
section
variable {P:Program}{w:World}{H:Hp}{h h':Heap}{x e:Addr}{o':HO}
theorem DY.write(ok:DY P w H h)(mu:MM (H x))(he:e=x\/H e=some (.own x))(k:∀b u,b≠e->h.get? b=some u->h'.get? b=some u)(heo:∃u,h'.get? e=some u)
  (new:Cc P w (upd H x o') h' x o'):DY P w (upd H x o') h':=λb u q=>by
 have nown:∀c y,H c=some (.own y)->c≠x:=λc y r z=>by subst z;rw[r] at mu;exact mu
 have ntup:∀c xs,H c=some (.tup xs)->c≠x:=λc xs r z=>by subst z;rw[r] at mu;exact mu
 by_cases hb:b=x
 .subst hb;rw[Ce] at q;cases q;exact new
 .rw[Bn hb] at q
  by_cases hbe:b=e
  .have q':H b=some (.own x):=by
    rcases he with z|z
    .exact absurd (hbe.trans z) hb
    .rw[hbe];exact z
   rw[q] at q';cases q';obtain⟨v,hv⟩:=heo;exact⟨v,by rw[hbe];exact hv⟩
  .refine(ok b u q).stay (λc v hc r=>k c v ?_ r) (λc r=>by rw[Bn (nown c b r)];exact r) λc xs r=>by rw[Bn (ntup c xs r)];exact r
   rcases hc with rfl|hc
   .exact hbe
   .rintro rfl;rcases he with z|z
    .exact nown c b hc z
    .rw[hc] at z;cases z;exact hb rfl
end
structure Un (fs ex:List Addr) (H H':Hp) (h h':Heap):Prop where
 keep:∀b o,h.get? b=some o->H b=none->b∉fs->b∉ex->h'.get? b=some o
 slot:∀b o,h.get? b=some o->H b=none->b∈fs->b∉ex->∃sl,h'.get? b=some {o with slots:=sl}
 free:∀b o,h.get? b=some o->H b=none->b∉ex->H' b=none
 there:∀b o,h.get? b=some o->b∉ex->∃o',h'.get? b=some o'
 tups:∀b xs,H b=some (.tup xs)->H' b=some (.tup xs)
 frzs:∀b o u,H b=some (.frz o u)->H' b=some (.frz o u)
 tbls:∀b ps,H b=some (.tbl ps)->∃more,H' b=some (.tbl (ps++more))
section
variable {fs fs' ex ex':List Addr}{H H1 H2:Hp}{h h1 h2 h':Heap}{a x e:Addr}{o:HO}
theorem Un.any(u:Un fs ex H H1 h h1){b:Addr}{ob:Obj}(q:h.get? b=some ob)(n:H b=none)(hx:b∉ex):∃sl,h1.get? b=some {ob with slots:=sl}:=by
 by_cases hb:b∈fs
 .exact u.slot b ob q n hb hx
 .exact⟨ob.slots,u.keep b ob q n hb hx⟩
theorem Un.trans(a:Un fs ex H H1 h h1)(b:Un fs ex H1 H2 h1 h2):Un fs ex H H2 h h2 where
 keep:=λc ob q n hc hx=>b.keep c ob (a.keep c ob q n hc hx) (a.free c ob q n hx) hc hx
 slot:=λc ob q n hc hx=>by
  obtain⟨sl,e1⟩:=a.slot c ob q n hc hx;obtain⟨sl',e2⟩:=b.slot c _ e1 (a.free c ob q n hx) hc hx;exact⟨sl',e2⟩
 free:=λc ob q n hx=>by
  obtain⟨o',e1⟩:=a.there c ob q hx;exact b.free c o' e1 (a.free c ob q n hx) hx
 there:=λc ob q hx=>by
  obtain⟨o',e1⟩:=a.there c ob q hx;exact b.there c o' e1 hx
 tups:=λc xs q=>b.tups c xs (a.tups c xs q)
 frzs:=λc ob xs q=>b.frzs c ob xs (a.frzs c ob xs q)
 tbls:=λc ps q=>by
  obtain⟨m1,e1⟩:=a.tbls c ps q;obtain⟨m2,e2⟩:=b.tbls c _ e1;exact⟨m1++m2,by rw[e2,Array.append_assoc]⟩
theorem Un.kept(k:∀b u,h.get? b=some u->h'.get? b=some u):Un fs ex H H h h' :=
 ⟨λb ob q _ _ _=>k b ob q,λb ob q _ _ _=>⟨ob.slots,k b ob q⟩,λ_ _ _ n _=>n,λb ob q _=>⟨ob,k b ob q⟩,λ_ _ q=>q,λ_ _ _ q=>q,λ_ ps q=>⟨#[],by rw[q];simp⟩⟩
theorem Un.refl:Un fs ex H H h h:=Un.kept λ_ _ q=>q
theorem Un.laid(k:∀b u,h.get? b=some u->h'.get? b=some u)(hp:h.objs.size<=a)(hn:H a=none):Un fs ex H (upd H a o) h h' where
 keep:=λb u q _ _ _=>k b u q
 slot:=λb u q _ _ _=>⟨u.slots,k b u q⟩
 free:=λb u q n _=>by rw[Bn (Bu (DZ (Heap.lt_size q) hp))];exact n
 there:=λb u q _=>⟨u,k b u q⟩
 tups:=λb xs q=>by rw[Bn (Du q hn)];exact q
 frzs:=λb u xs q=>by rw[Bn (Du q hn)];exact q
 tbls:=λb ps q=>⟨#[],by rw[Bn (Du q hn),q];simp⟩
theorem Un.write(mu:MM (H x))(he:e=x\/H e=some (.own x))(k:∀b u,b≠e->h.get? b=some u->h'.get? b=some u)(heo:∃u,h'.get? e=some u):Un fs ex H (upd H x o) h h':=by
 have hx:∀b,H b=none->b≠x:=λb n z=>by subst z;rw[n] at mu;exact mu
 have hb:∀b,H b=none->b≠e:=λb n z=>by
  subst z;rcases he with r|r
  .exact hx b n r
  .rw[n] at r;cases r
 have hm:∀b u,H b=some u->¬MM (some u)->b≠x:=λb u q nm z=>by subst z;rw[q] at mu;exact nm mu
 refine⟨λb u q n _ _=>k b u (hb b n) q,λb u q n _ _=>⟨u.slots,k b u (hb b n) q⟩,λb u q n _=>by rw[Bn (hx b n)];exact n,λb u q _=>?_,
  λb xs q=>by rw[Bn (hm b _ q λz=>z)];exact q,λb u xs q=>by rw[Bn (hm b _ q λz=>z)];exact q,λb ps q=>⟨#[],by rw[Bn (hm b _ q λz=>z),q];simp⟩⟩
 by_cases hbe:b=e
 .subst hbe;exact heo
 .exact⟨u,k b u hbe q⟩
theorem Un.mono(u:Un fs ex H H1 h h1)(hs:∀b∈fs,b∈fs')(hx:∀b∈ex,b∈ex'):Un fs' ex' H H1 h h1 :=
 ⟨λb ob q n hb he=>u.keep b ob q n (λz=>hb (hs b z)) λz=>he (hx b z),λ_ _ q n _ he=>u.any q n λz=>he (hx _ z),λb ob q n he=>u.free b ob q n λz=>he (hx b z),λb ob q he=>u.there b ob q λz=>he (hx b z),u.tups,u.frzs,u.tbls⟩
end
def Mz(h:Heap)(H:Hp):List Addr:=(List.range h.objs.size).filter λa=>(H a).isSome
def IS(h:Heap)(H:Hp):Heap:=PySem.W.hideAll h (Mz h H)
theorem AFy(h:Heap)(H:Hp):(IS h H).objs.size=h.objs.size:=PySem.W.hideAll_size _ _
theorem AFz{h:Heap}{H:Hp}{b:Addr}{o:Obj}(e:h.get? b=some o)(n:H b=none):(IS h H).get? b=some o :=
 PySem.W.hideAll_get _ e λhm=>by
  have q:(H b).isSome=true:=(AKd.mp hm).2;rw[n] at q;simp at q
theorem AEV{h:Heap}{H:Hp}{b:Addr}{o:Obj}(e:(IS h H).get? b=some o):h.get? b=some o/\H b=none:=by
 have e':h.get? b=some o:=PySem.W.of_hideAll (Mz h H) e;refine⟨e',?_⟩
 cases q:H b with
 |none=>rfl
 |some x =>
  have hm:b∈Mz h H:=AKd.mpr ⟨Cr.mpr (Heap.lt_size e'),by simp[q]⟩;have z:(IS h H).get? b=none:=PySem.W.hideAll_none (Mz h H) hm;rw[z] at e;cases e
def AHe(g h:Heap)(L:Addr):List (Addr×Obj):=(List.range h.objs.size).filterMap λa=>if a=L\/(g.get? a).isSome=true then none else (h.get? a).map λo=>(a,o)
def rest(g h:Heap)(L d:Addr):List (Addr×Obj):=(AHe g h L).filter λp=>decide (p.1≠d)
structure OP (K:AO) (mg:ALK) (base:Heap):Prop where
 kin:K.In base
 glob:base.Ns mainGlobals mg
 blt:∃mb,base.Ns builtinsNs mb/\∀x:Str,x≠"__name__"->mb x=bootBuiltins x
 nolimit:base.NoLimit
structure Cx where
 prog:Program
 w:World
 K:AO
 mg:ALK
 base:Heap
 A:Around
 N:List Str
 s₀:Shared
 H₀:Hp
 env:Env
 outer:List Env
 stack:List Env
 ex:List Addr
 fn:Str->Bool
 calm:Bool
 pn:List (Addr×Obj)
 xe:ALL
def Fo(l:List Env):List Addr:=l.filterMap (·.frame)
abbrev Cx.fs(X:Cx):List Addr:=Fo X.outer
def Kv(sc:Scope)(x:Str):Prop:=sc.names.lookup x=some .local\/sc.names.lookup x=some .cell\/sc.names.lookup x=some .free
def Ie(sc:Scope)(x:Str):Prop:=sc.names.lookup x=some .local\/sc.names.lookup x=some .cell
def AHm(env:Env)(h:Heap)(m:ALK)(x:Str)(u:Value):Prop :=
 (env.kindOf x=some .local/\m x=some u)\/((env.kindOf x=some .cell\/env.kindOf x=some .free)/\∃c,env.cells.lookup x=some c/\h.IsCell c (some u))
structure Cx.Ok (X:Cx):Prop where
 mod:OP X.K X.mg X.base
 kind:X.env.scope.kind=.function
 glob:X.env.globals=mainGlobals
 blt:X.env.builtins=builtinsNs
 above:X.s₀.heap.objs.size<=X.env.locals
 inj:∀x y c,X.env.cells.lookup x=some c->X.env.cells.lookup y=some c->x=y
 has:∀x,(X.env.kindOf x=some .cell\/X.env.kindOf x=some .free)->∃c,X.env.cells.lookup x=some c
 cab:∀x c,X.fn x=true->X.env.cells.lookup x=some c->X.s₀.heap.objs.size<=c
 hd:X.calm=true->X.A.handled=none
 frames:X.A.frames=some X.stack
 stk:X.stack=X.outer\/(X.stack=X.env::X.outer/\X.env.frame=some X.env.locals)
 exf:∀b∈X.ex,b≠X.env.locals/\∀x c,X.env.cells.lookup x=some c->c≠b
 bs:∀b o,X.base.get? b=some o->X.s₀.heap.get? b=some o/\X.H₀ b=none
 bsz:X.base.objs.size<=X.s₀.heap.objs.size
 noex:∀b o,X.base.get? b=some o->b∉X.ex
 exfs:∀b∈X.ex,b∉X.fs
 funs:X.s₀.heap.FunFrames X.base X.outer
 frf:∀b∈X.fs,X.H₀ b=none
structure AK (X:Cx) (pins:List (Addr×Obj)) (σ:List (Option V)) (H:Hp) (s:Shared):Prop where
 ok:X.Ok
 os:s.os=X.s₀.os
 bare:AllBare s.gens
 base:Un X.fs X.ex X.H₀ H X.s₀.heap s.heap
 loc:∃m,s.heap.Ns X.env.locals m/\∀(i:Nat) (x:Str) (v:V),X.N[i]?=some x->σ[i]?=some (some v)->Kv X.env.scope x->∃u,Ai v u/\AHm X.env s.heap m x u
 cell:∀x c,X.env.cells.lookup x=some c->∃v,s.heap.IsCell c v
 free:H X.env.locals=none
 freeC:∀x c,X.env.cells.lookup x=some c->H c=none
 pin:∀p∈X.pn++pins,s.heap.get? p.1=some p.2/\H p.1=none/\p.1≠X.env.locals/\p.1∉X.fs/\∀v,p.2.data≠.cell v
 hok:DY X.prog X.w H s.heap
 len:σ.length=X.N.length
section
variable {X:Cx}{pins:List (Addr×Obj)}{σ:List (Option V)}{H H':Hp}{s:Shared}{h':Heap}
theorem Cx.Ok.nofr(ok:X.Ok){b:Addr}{o:Obj}(e:X.base.get? b=some o):b∉X.fs:=λhb=>by
 have:=(ok.funs.mem hb).1;rw[e] at this;cases this
theorem AK.bs(I:AK X pins σ H s):∀b o,X.base.get? b=some o->s.heap.get? b=some o/\H b=none:=λb o e =>
 ⟨I.base.keep b o (I.ok.bs b o e).1 (I.ok.bs b o e).2 (I.ok.nofr e) (I.ok.noex b o e),I.base.free b o (I.ok.bs b o e).1 (I.ok.bs b o e).2 (I.ok.noex b o e)⟩
theorem AK.bk(I:AK X pins σ H s):∀b o,X.base.get? b=some o->s.heap.get? b=some o:=λb o e=>(I.bs b o e).1
theorem AK.mod(I:AK X pins σ H s):OP X.K X.mg X.base:=I.ok.mod
theorem AK.kIn(I:AK X pins σ H s):X.K.In s.heap:=I.ok.mod.kin.keeps I.bk
theorem AK.nolimit(I:AK X pins σ H s):s.heap.NoLimit:=I.ok.mod.nolimit.keeps I.bk
theorem AK.lt(I:AK X pins σ H s):X.env.locals<s.heap.objs.size:=let ⟨_,hn,_⟩:=I.loc;hn.lt
theorem AK.sz(I:AK X pins σ H s):X.s₀.heap.objs.size<=s.heap.objs.size:=DA I.ok.above (Nat.le_of_lt I.lt)
theorem AK.nofs(I:AK X pins σ H s){a:Addr}(h:s.heap.objs.size<=a):a∉X.fs:=λhb=>by
 obtain⟨_,o,ho,_⟩:=I.ok.funs.mem hb;exact absurd (DZ (Heap.lt_size ho) (DA I.sz h)) (AJl _)
theorem AK.cne(I:AK X pins σ H s):∀x c,X.env.cells.lookup x=some c->c≠X.env.locals:=λx c e z=>by
 obtain⟨v,o,ho,hd⟩:=I.cell x c e;obtain⟨m,⟨o',es,ep,ho',hd',_⟩,_⟩:=I.loc;rw[z,ho'] at ho;cases ho;rw[hd'] at hd;cases hd
theorem AK.funs(I:AK X pins σ H s):s.heap.FunFrames X.base X.outer:=by
 have all:∀(l:List Env),(∀b∈Fo l,b∈X.fs)->X.s₀.heap.FunFrames X.base l->s.heap.FunFrames X.base l:=by
  intro l
  induction l with
  |nil=>intro _ _;trivial
  |cons env r ih =>
   intro hs hl;obtain⟨hk,⟨L,o,hf,hn,ho,hd⟩,hr⟩:=hl;have hL:L∈X.fs:=hs L (by unfold Fo;rw[AKI,hf];exact BW);obtain⟨sl,e⟩:=I.base.slot L o ho (I.ok.frf L hL) hL λz=>I.ok.exfs L z hL;exact⟨hk,⟨L,_,hf,hn,e,hd⟩,ih (λb hb=>hs b (by unfold Fo;rw[AKI,hf];exact BQ _ hb)) hr⟩
 exact all X.outer (λ_ hb=>hb) I.ok.funs
theorem AK.stack(I:AK X pins σ H s):s.heap.FunFrames X.base X.stack:=by
 rcases I.ok.stk with e|⟨e,hf⟩
 .rw[e];exact I.funs
 .rw[e];obtain⟨m,hn,_⟩:=I.loc;refine .cons (by rw[I.ok.kind];decide) hf hn ?_ I.funs;exact Heap.get?_none_of_le (DA I.ok.bsz I.ok.above)
theorem AK.stkSub(I:AK X pins σ H s):∀b∈Fo X.stack,b∈X.env.locals::X.fs:=λb hb=>by
 rcases I.ok.stk with e|⟨e,hf⟩
 .rw[e] at hb;exact BQ _ hb
 .rw[e] at hb;unfold Fo at hb;rw[AKI,hf] at hb;exact hb
theorem AK.stkFree(I:AK X pins σ H s):∀b∈Fo X.stack,H b=none:=λb hb=>by
 rcases Ae.mp (I.stkSub b hb) with e|hb
 .rw[e];exact I.free
 .obtain⟨_,o,ho,_⟩:=I.ok.funs.mem hb;exact I.base.free b o ho (I.ok.frf b hb) λz=>I.ok.exfs b z hb
theorem AK.step{g':Array GenState}{t':Nat}{d':Drawn}{ch:List Addr}(I:AK X pins σ H s)
  (hch:∀b∈ch,(b∈X.ex\/X.s₀.heap.objs.size<=b)/\b≠X.env.locals/\(∀x c,X.env.cells.lookup x=some c->c≠b)/\∀p∈X.pn++pins,p.1≠b)
  (keep:∀b o,b≠X.env.locals->b∉X.fs->b∉ch->s.heap.get? b=some o->H b=none->h'.get? b=some o)
  (slot:∀b o,b≠X.env.locals->b∈X.fs->b∉ch->s.heap.get? b=some o->H b=none->∃sl,h'.get? b=some {o with slots:=sl}) (free:∀b o,b∉ch->s.heap.get? b=some o->H b=none->H' b=none)
  (there:∀b o,b∉ch->s.heap.get? b=some o->∃o',h'.get? b=some o')
  (tups:∀b xs,H b=some (.tup xs)->H' b=some (.tup xs)) (frzs:∀b o u,H b=some (.frz o u)->H' b=some (.frz o u)) (tbls:∀b ps,H b=some (.tbl ps)->∃more,H' b=some (.tbl (ps++more)))
  (ns:∀m,s.heap.Ns X.env.locals m->h'.Ns X.env.locals m) (hok:DY X.prog X.w H' h') (hg:AllBare g') :
  AK X pins σ H' {s with heap:=h',gens:=g',drawn:=d',toks:=t'}:=by
 have neL:∀b o,X.s₀.heap.get? b=some o->b≠X.env.locals:=λb o e=>Bu (DZ (Heap.lt_size e) I.ok.above)
 have neC:∀b o,X.s₀.heap.get? b=some o->b∉X.ex->b∉ch:=λb o e hx hb=>by
  rcases(hch b hb).1 with z|z
  .exact hx z
  .exact absurd (DZ (Heap.lt_size e) z) (AJl _)
 have cellK:∀x c,X.env.cells.lookup x=some c->∀v,s.heap.IsCell c v->h'.IsCell c v:=λx c e v z4_=>by
  obtain⟨o,ho,hd⟩:=z4_;have nch:c∉ch:=λz=>(hch c z).2.2.1 x c e rfl
  by_cases hc:c∈X.fs
  .obtain⟨sl,q⟩:=slot c o (I.cne x c e) hc nch ho (I.freeC x c e);exact⟨_,q,hd⟩
  .exact⟨o,keep c o (I.cne x c e) hc nch ho (I.freeC x c e),hd⟩
 refine⟨I.ok,I.os,hg,⟨λb o e n hb hx=>?_,λb o e n hb hx=>?_,λb o e n hx=>?_,λb o e hx=>?_,λb xs e=>tups b xs (I.base.tups b xs e),λb o xs e=>frzs b o xs (I.base.frzs b o xs e),λb ps e=>?_⟩,?_,λx c e=>?_,?_,λx c e=>?_,λp hp=>?_,hok,I.len⟩
 .exact keep b o (neL b o e) hb (neC b o e hx) (I.base.keep b o e n hb hx) (I.base.free b o e n hx)
 .obtain⟨sl,e1⟩:=I.base.slot b o e n hb hx;obtain⟨sl',e2⟩:=slot b _ (neL b o e) hb (neC b o e hx) e1 (I.base.free b o e n hx);exact⟨sl',e2⟩
 .obtain⟨o',e1⟩:=I.base.there b o e hx;exact free b o' (neC b o e hx) e1 (I.base.free b o e n hx)
 .obtain⟨o',e1⟩:=I.base.there b o e hx;exact there b o' (neC b o e hx) e1
 .obtain⟨m1,e1⟩:=I.base.tbls b ps e;obtain⟨m2,e2⟩:=tbls b _ e1;exact⟨m1++m2,by rw[e2,Array.append_assoc]⟩
 .obtain⟨m,hn,hl⟩:=I.loc;refine⟨m,ns m hn,λi x v e1 e2 e3=>?_⟩;obtain⟨u,r,l⟩:=hl i x v e1 e2 e3;refine⟨u,r,?_⟩;rcases l with l|⟨k,c,e,z⟩
  .exact .inl l
  .exact .inr ⟨k,c,e,cellK x c e _ z⟩
 .obtain⟨v,z⟩:=I.cell x c e;exact⟨v,cellK x c e v z⟩
 .obtain⟨m,⟨o,_,_,ho,_⟩,_⟩:=I.loc;exact free _ o (λz=>(hch _ z).2.1 rfl) ho I.free
 .obtain⟨v,o,ho,hd⟩:=I.cell x c e;exact free c o (λz=>(hch c z).2.2.1 x c e rfl) ho (I.freeC x c e)
 .obtain⟨e,n,ne,nf,d⟩:=I.pin p hp;have nch:p.1∉ch:=λz=>(hch p.1 z).2.2.2 p hp rfl;exact⟨keep p.1 p.2 ne nf nch e n,free p.1 p.2 nch e n,ne,nf,d⟩
theorem AK.un{t':Nat}(I:AK X pins σ H s)(u:Un X.fs [] H H' s.heap h')(hok:DY X.prog X.w H' h'):AK X pins σ H' {s with heap:=h',toks:=t'}:=by
 obtain⟨m,⟨o,es,ep,ho,r⟩,_⟩:=id I.loc;obtain⟨sl,hL⟩:=u.any ho I.free (by simp)
 exact I.step (g':=s.gens) (d':=s.drawn) (ch:=[]) (λ_ z=>nomatch z) (λb o _ hb _ e n=>u.keep b o e n hb (by simp)) (λb o _ hb _ e n=>u.slot b o e n hb (by simp)) (λb o _ e n=>u.free b o e n (by simp)) (λb o _ e=>u.there b o e (by simp)) u.tups u.frzs u.tbls (λm' hm=>by
  obtain⟨o',es',ep',ho',r'⟩:=hm;rw[ho] at ho';cases ho'
  exact⟨_,es',ep',hL,r'⟩) hok I.bare
theorem AK.call{g':Array GenState}{t':Nat}{d':Drawn}{ch:List Addr}(I:AK X pins σ H s)(u:Un (Fo X.stack) ch H H' s.heap h')(hok:DY X.prog X.w H' h')(hg:AllBare g')
  (hch:∀b∈ch,(b∈X.ex\/X.s₀.heap.objs.size<=b)/\b≠X.env.locals/\(∀x c,X.env.cells.lookup x=some c->c≠b)/\∀p∈X.pn++pins,p.1≠b) :
  AK X pins σ H' {s with heap:=h',gens:=g',drawn:=d',toks:=t'}:=by
 obtain⟨m,⟨o,es,ep,ho,r⟩,_⟩:=id I.loc;obtain⟨sl,hL⟩:=u.any ho I.free λz=>(hch _ z).2.1 rfl
 exact I.step (ch:=ch) hch (λb o hL hb hc e n=>u.keep b o e n (λz=>(Ae.mp (I.stkSub b z)).elim hL hb) hc) (λb o _ _ hc e n=>u.any e n hc) (λb o hc e n=>u.free b o e n hc) (λb o hc e=>u.there b o e hc) u.tups u.frzs u.tbls (λm' hm=>by
  obtain⟨o',es',ep',ho',r'⟩:=hm;rw[ho] at ho';cases ho'
  exact⟨_,es',ep',hL,r'⟩) hok hg
theorem AK.turned{t':Nat}{it:Addr}(I:AK X pins σ H s)(k:∀b o,b≠it->s.heap.get? b=some o->h'.get? b=some o)(hn:H it=none)(hL:it≠X.env.locals)
  (h1:it∈X.ex\/X.s₀.heap.objs.size<=it) (h2:∀x c,X.env.cells.lookup x=some c->c≠it) (h3:∀p∈X.pn++pins,p.1≠it):AK X pins σ H {s with heap:=h',toks:=t'}:=by
 have nit:∀b u,H b=some u->b≠it:=λb u e z=>by rw[z,hn] at e;cases e
 refine I.step (g':=s.gens) (d':=s.drawn) (ch:=[it]) (λb hb=>?_) (λb o _ _ hc e _=>k b o (λz=>hc (by simp[z])) e) (λb o _ _ hc e _=>⟨o.slots,k b o (λz=>hc (by simp[z])) e⟩) (λ_ _ _ _ n=>n)
  (λb o hc e=>⟨o,k b o (λz=>hc (by simp[z])) e⟩) (λ_ _ e=>e) (λ_ _ _ e=>e) (λb ps e=>⟨#[],by rw[e];simp⟩) (λm hm=>?_) (λb u e=>?_) I.bare
 .have e:b=it:=by simpa using hb
  subst e;exact⟨h1,hL,h2,h3⟩
 .obtain⟨o,es,ep,ho,r⟩:=hm;exact⟨o,es,ep,k _ o (Ne.symm hL) ho,r⟩
 .refine(I.hok b u e).stay (λc v hc q=>k c v ?_ q) (λ_ q=>q) λ_ _ q=>q;rcases hc with z|z
  .rw[z];exact nit b u e
  .exact nit c _ z
theorem AK.tok(I:AK X pins σ H s)(t:Nat):AK X pins σ H {s with toks:=t}:=I.un (h':=s.heap) (t':=t) Un.refl I.hok
theorem AK.kept{t':Nat}(I:AK X pins σ H s)(k:∀b u,s.heap.get? b=some u->h'.get? b=some u):AK X pins σ H {s with heap:=h',toks:=t'}:=I.un (Un.kept k) (I.hok.kept k)
theorem AK.laid{a:Addr}{o:HO}{t':Nat}(I:AK X pins σ H s)(k:∀b u,s.heap.get? b=some u->h'.get? b=some u)(hp:s.heap.objs.size<=a)(new:Cc X.prog X.w (upd H a o) h' a o) :
  AK X pins σ (upd H a o) {s with heap:=h',toks:=t'}:=I.un (Un.laid k hp (I.hok.fresh hp)) (I.hok.laid k hp new)
theorem AK.write{x e:Addr}{o:HO}{t':Nat}(I:AK X pins σ H s)(mu:MM (H x))(he:e=x\/H e=some (.own x))(k:∀b u,b≠e->s.heap.get? b=some u->h'.get? b=some u)(heo:∃u,h'.get? e=some u)
  (new:Cc X.prog X.w (upd H x o) h' x o):AK X pins σ (upd H x o) {s with heap:=h',toks:=t'}:=I.un (Un.write mu he k heo) (I.hok.write mu he k heo new)
theorem AK.pins_of{pins':List (Addr×Obj)}(I:AK X pins σ H s)(h:∀p∈pins',s.heap.get? p.1=some p.2/\H p.1=none/\p.1≠X.env.locals/\p.1∉X.fs/\∀v,p.2.data≠.cell v):AK X pins' σ H s :=
 ⟨I.ok,I.os,I.bare,I.base,I.loc,I.cell,I.free,I.freeC,λp hp=>(DB.mp hp).elim (λz=>I.pin p (AJy _ z)) (h p),I.hok,I.len⟩
theorem Wn{N:List Str}(hN:N.Nodup){i j:Nat}{x:Str}(a:N[i]?=some x)(b:N[j]?=some x):i=j:=by obtain⟨h1,e1⟩:=BY.mp a;obtain⟨h2,e2⟩:=BY.mp b;exact(List.getElem_inj hN).mp (e1.trans e2.symm)
theorem Vd{M:Model}{A:Around}{E:ALL}{i:Nat}{x:Str}{v:V}{u:Value}{Q:Unit->Shared->Prop}(I:AK X pins σ H s)(hN:X.N.Nodup)(hi:X.N[i]?=some x)(hx:Ie X.env.scope x)(r:Ai v u)
  (h:∀s',AK X pins (σ.set i (some v)) H s'->(∃a,Heap.SameBut a s.heap s'.heap/\(a=X.env.locals\/X.env.cells.lookup x=some a))->Q () s') (hf:X.fn x=true\/X.env.scope.names.lookup x=some .local):wpAny M A (storeName X.env x u) Q E s:=by
 obtain⟨m,hn,hl⟩:=id I.loc;have hcls:(X.env.scope.kind == .class || (X.env.scope.kind == .module&&X.env.locals != X.env.globals))=false:=by rw[I.ok.kind];rfl
 have hiσ:i<σ.length:=by rw[I.len];exact(BY.mp hi).1
 have cne:=I.cne
 have tracked:∀{a:Addr} {h':Heap},(∃o,s.heap.get? a=some o/\H a=none)->Heap.SameBut a s.heap h'->DY X.prog X.w H h':=λ{a h'} ha hs b ob e=>by
  obtain⟨_,_,hfree⟩:=ha;refine(I.hok b ob e).stay (λc w' hc q=>(hs.2 c ?_).trans q) (λ_ q=>q) λ_ _ q=>q;rintro rfl;rcases hc with rfl|hc
  .rw[hfree] at e;cases e
  .rw[hfree] at hc;cases hc
 rcases hx with hk|hk
 .refine wpAny_storeName_local hk hn (λh' hn' hs=>?_) hcls;obtain⟨oL,_,_,hoL,_⟩:=id hn;refine h _ ⟨I.ok,I.os,I.bare,⟨λb o e n hb hx=>?_,λb o e n hb hx=>?_,I.base.free,λb o e hx=>?_,I.base.tups,I.base.frzs,I.base.tbls⟩,⟨_,hn',λj y v' e1 e2 e3=>?_⟩,λy c e=>?_,I.free,I.freeC,λp hp=>?_,tracked ⟨oL,hoL,I.free⟩ hs,by simpa using I.len⟩ ⟨_,hs,.inl rfl⟩
  .exact(hs.2 b (Bu (DZ (Heap.lt_size e) I.ok.above))).trans (I.base.keep b o e n hb hx)
  .obtain⟨sl,e1⟩:=I.base.slot b o e n hb hx;exact⟨sl,(hs.2 b (Bu (DZ (Heap.lt_size e) I.ok.above))).trans e1⟩
  .obtain⟨o',e1⟩:=I.base.there b o e hx;exact⟨o',(hs.2 b (Bu (DZ (Heap.lt_size e) I.ok.above))).trans e1⟩
  .by_cases hj:j=i
   .subst hj;rw[hi] at e1;cases e1;rw[AJ9 hiσ] at e2;cases e2;exact⟨u,r,.inl ⟨hk,by simp⟩⟩
   .rw[Em (Ne.symm hj)] at e2;obtain⟨u',r',q⟩:=hl j y v' e1 e2 e3;refine⟨u',r',?_⟩;rcases q with⟨k,e⟩|⟨k,c,e,z⟩
    .refine .inl ⟨k,?_⟩;have:y≠x:=λe=>hj (Wn hN e1 (e▸hi));simp[this,e]
    .exact .inr ⟨k,c,e,z.sameBut hs (cne y c e)⟩
  .obtain⟨w',z⟩:=I.cell y c e;exact⟨w',z.sameBut hs (cne y c e)⟩
  .obtain⟨e,n,ne,nf,d⟩:=I.pin p hp;exact⟨(hs.2 p.1 ne).trans e,n,ne,nf,d⟩
 .have hfn:X.fn x=true:=by
   rcases hf with z|z
   .exact z
   .rw[z] at hk;cases hk
  obtain⟨c,hc⟩:=I.ok.has x (.inl hk);obtain⟨w',z⟩:=I.cell x c hc;refine wpAny_storeName_cell I.ok.kind hk hc z (λh' hc' hs=>?_);obtain⟨oc,hoc,hocd⟩:=id z;refine h {s with heap:=h'} ⟨I.ok,I.os,I.bare,⟨λb o e n hb hx=>?_,λb o e n hb hx=>?_,I.base.free,λb o e hx=>?_,I.base.tups,I.base.frzs,I.base.tbls⟩,⟨m,hn.sameBut hs (Ne.symm (cne x c hc)),λj y v' e1 e2 e3=>?_⟩,λy c' e=>?_,I.free,I.freeC,λp hp=>?_,tracked ⟨oc,hoc,I.freeC x c hc⟩ hs,by simpa using I.len⟩ ⟨c,hs,.inr hc⟩
  .exact(hs.2 b (Bu (DZ (Heap.lt_size e) (I.ok.cab x c hfn hc)))).trans (I.base.keep b o e n hb hx)
  .obtain⟨sl,e1⟩:=I.base.slot b o e n hb hx;exact⟨sl,(hs.2 b (Bu (DZ (Heap.lt_size e) (I.ok.cab x c hfn hc)))).trans e1⟩
  .obtain⟨o',e1⟩:=I.base.there b o e hx;exact⟨o',(hs.2 b (Bu (DZ (Heap.lt_size e) (I.ok.cab x c hfn hc)))).trans e1⟩
  .by_cases hj:j=i
   .subst hj;rw[hi] at e1;cases e1;rw[AJ9 hiσ] at e2;cases e2;exact⟨u,r,.inr ⟨.inl hk,c,hc,hc'⟩⟩
   .rw[Em (Ne.symm hj)] at e2;obtain⟨u',r',q⟩:=hl j y v' e1 e2 e3;refine⟨u',r',?_⟩;rcases q with q|⟨k,c',e,z'⟩
    .exact .inl q
    .refine .inr ⟨k,c',e,z'.sameBut hs ?_⟩;rintro rfl;exact hj (Wn hN e1 (I.ok.inj _ _ _ e hc▸hi))
  .by_cases hcc:c'=c
   .subst hcc;exact⟨_,hc'⟩
   .obtain⟨w2,z2⟩:=I.cell y c' e;exact⟨w2,z2.sameBut hs hcc⟩
  .obtain⟨e,n,ne,nf,d⟩:=I.pin p hp;refine⟨(hs.2 p.1 ?_).trans e,n,ne,nf,d⟩;intro q;rw[q,hoc] at e;have q':oc=p.2:=Option.some.inj e;exact d w' (by rw[<-q'];exact hocd)
theorem RP{M:Model}{A:Around}{E:ALL}{i:Nat}{x:Str}{v:V}{u:Value}{Q:Unit->Shared->Prop}(I:AK X pins σ H s)(hN:X.N.Nodup)(hi:X.N[i]?=some x)(hx:Ie X.env.scope x)(r:Ai v u)
  (h:∀s',AK X pins (σ.set i (some v)) H s'->Q () s') (hf:X.fn x=true\/X.env.scope.names.lookup x=some .local):wpAny M A (storeName X.env x u) Q E s :=
 Vd I hN hi hx r (λs' I' _=>h s' I') hf
theorem AK.call'{s':Shared}{ch:List Addr}(I:AK X pins σ H s)(ho:s'.os=s.os)(u:Un (Fo X.stack) ch H H' s.heap s'.heap)(hok:DY X.prog X.w H' s'.heap)(hg:AllBare s'.gens)
  (hch:∀b∈ch,(b∈X.ex\/X.s₀.heap.objs.size<=b)/\b≠X.env.locals/\(∀x c,X.env.cells.lookup x=some c->c≠b)/\∀p∈X.pn++pins,p.1≠b):AK X pins σ H' s':=by
 obtain⟨h',g',d',t',o'⟩:=s';have e:o'=s.os:=ho;subst e;exact I.call (g':=g') (t':=t') (d':=d') u hok hg hch
end
abbrev XK:=Value->Option Addr->Hp->Prop
abbrev St:=List (Option V)
abbrev VK:=V->Hp->Prop
abbrev TE:=St->Hp->VK->Prop
abbrev TT:=St->Hp->(Bool->Hp->Prop)->Prop
abbrev TA:=St->Hp->(List V->Hp->Prop)->Prop
structure KC where
 nx:St->Hp->Prop
 rt:VK
 bk:St->Hp->Prop:=λ_ _=>False
 ct:St->Hp->Prop:=λ_ _=>False
abbrev TS:=KC->St->Hp->Prop
def EP(X:Cx)(pins:List (Addr×Obj))(σ:St)(Q:VK)(u:Value)(s':Shared):Prop:=∃v H',AK X pins σ H' s'/\Ai v u/\Q v H'
def TP(X:Cx)(pins:List (Addr×Obj))(σ:St)(Q:Bool->Hp->Prop)(b:Bool)(s':Shared):Prop:=∃H',AK X pins σ H' s'/\Q b H'
def AP(X:Cx)(pins:List (Addr×Obj))(σ:St)(Q:List V->Hp->Prop)(us:List Value)(s':Shared):Prop:=∃vs H',AK X pins σ H' s'/\Ak vs us/\Q vs H'
def SP(X:Cx)(pins:List (Addr×Obj))(D:KC)(f:Flow)(s':Shared):Prop :=
 match f with
 |.next=>∃σ' H',AK X pins σ' H' s'/\D.nx σ' H'
 |.brk=>∃σ' H',AK X pins σ' H' s'/\D.bk σ' H'
 |.cont=>∃σ' H',AK X pins σ' H' s'/\D.ct σ' H'
 |.ret u=>∃v σ' H',AK X pins σ' H' s'/\Ai v u/\D.rt v H'
def PE(X:Cx)(e:Expr)(t:TE):Prop :=
 ∀(pins:List (Addr×Obj)) (s:Shared) (σ:St) (H:Hp) (Q:VK),AK X pins σ H s->t σ H Q->wpAny (model X.prog X.w) X.A (eval e X.env) (EP X pins σ Q) X.xe s
def PT(X:Cx)(e:Expr)(t:TT):Prop :=
 ∀(pins:List (Addr×Obj)) (s:Shared) (σ:St) (H:Hp) (Q:Bool->Hp->Prop),AK X pins σ H s->t σ H Q->wpAny (model X.prog X.w) X.A (isTrue e X.env (eval e X.env)) (TP X pins σ Q) X.xe s
def PW(X:Cx)(e:Expr)(t:TT):Prop :=
 ∀(whole:Sem Value) (pins:List (Addr×Obj)) (s:Shared) (σ:St) (H:Hp) (Q:Bool->Hp->Prop),AK X pins σ H s->t σ H Q->wpAny (model X.prog X.w) X.A (isTrue e X.env whole) (TP X pins σ Q) X.xe s
theorem PW.pt{X:Cx}{e:Expr}{t:TT}(h:PW X e t):PT X e t:=h _
def PA(X:Cx)(es:List Expr)(t:TA):Prop :=
 ∀(pos:Pos) (pins:List (Addr×Obj)) (s:Shared) (σ:St) (H:Hp) (Q:List V->Hp->Prop),AK X pins σ H s->t σ H Q->wpAny (model X.prog X.w) X.A (spliced (backTo pos (starEach es X.env))) (AP X pins σ Q) X.xe s
def PS(X:Cx)(st:Stmt)(t:TS):Prop :=
 ∀(pins:List (Addr×Obj)) (s:Shared) (σ:St) (H:Hp) (D:KC),AK X pins σ H s->t D σ H->wpAny (model X.prog X.w) X.A (exec st X.env) (SP X pins D) X.xe s
def EG(X:Cx)(st:List Stmt)(t:TS):Prop :=
 ∀(pins:List (Addr×Obj)) (s:Shared) (σ:St) (H:Hp) (D:KC),AK X pins σ H s->t D σ H->wpAny (model X.prog X.w) X.A (execs st X.env) (SP X pins D) X.xe s
theorem Ah{α:Type}{t:Sem α}{Q Q':α->Shared->Prop}{M:Model}{A:Around}{E:ALL}{s:Shared}(h:wpAny M A t Q E s)(hQ:∀a s,Q a s->Q' a s):wpAny M A t Q' E s:=GB h hQ λ_ _ x=>x
section
variable {X:Cx}
def RM(i:Nat):TE:=λσ H Q=>∃v,σ[i]?=some (some v)/\Q v H
def tC(v:V):TE:=λ_ H Q=>Q v H
theorem ADb{i:Nat}{x:Str}{pos:Pos}(hN:X.N[i]?=some x)(hv:Kv X.env.scope x)(hd:(x == ("__debug__":Str))=false)(hcd:(x == ("__classdict__":Str))=false):PE X (.Name x pos) (RM i):=by
 intro pins s σ H Q I h;obtain⟨v,e,h⟩:=h;obtain⟨m,hn,hl⟩:=I.loc;obtain⟨u,r,l⟩:=hl i x v hN e hv;have fin:EP X pins σ Q u s:=⟨v,H,I,r,h⟩;rcases l with⟨hk,hm⟩|⟨hk,c,hc,hcell⟩
 .exact wpAny_Name (wpAny_loadName_local I.ok.kind hk hn hm fin) hd
 .rcases hk with hk|hk
  .exact wpAny_Name (wpAny_loadName_cell I.ok.kind hk hc hcell fin) hd
  .exact wpAny_Name (wpAny_loadName_free I.ok.kind hk hc hcell fin hcd) hd
theorem ADo{i j pos}:PE X (.Constant (.int i) j pos) (tC (.int i)):=λ_ _ _ H _ I h=>wpAny_Constant_int ⟨.int i,H,I.tok _,⟨_,rfl⟩,h⟩
theorem AD0{b j pos}:PE X (.Constant (.bool b) j pos) (tC (.bl b)):=λ_ _ _ H _ I h=>Constant_bool ⟨.bl b,H,I,rfl,h⟩
theorem ADk{j pos}:PE X (.Constant .none j pos) (tC .non):=λ_ _ _ H _ I h=>Constant_none ⟨.non,H,I,rfl,h⟩
theorem ADe{x j pos}:PE X (.Constant (.str x) j pos) (tC (.str x)):=λ_ _ _ H _ I h=>Calls.Constant_str ⟨.str x,H,I.tok _,⟨_,rfl⟩,h⟩
def Gl(X:Cx)(x:Str):Prop:=X.env.kindOf x=some .globalImplicit
theorem Na{E:ALL}{pins:List (Addr×Obj)}{s:Shared}{σ:St}{H:Hp}{x:Str}{u:Value}{pos:Pos}{Q:ALL}(I:AK X pins σ H s)(hg:Gl X x)(hm:X.mg x=some u)(h:Q u s)
  (hd:(x == ("__debug__":Str))=false:=by decide):wpAny (model X.prog X.w) X.A (eval (.Name x pos) X.env) Q E s :=
 Calls.Name_function_global I.ok.kind hg (Calls.loadGlobal_global (by rw[I.ok.glob];exact I.mod.glob.keeps I.bk) hm h) hd
theorem Iy{E:ALL}{pins:List (Addr×Obj)}{s:Shared}{σ:St}{H:Hp}{x:Str}{u:Value}{pos:Pos}{Q:ALL}(I:AK X pins σ H s)(hg:Gl X x)(hm:X.mg x=none)(hv:bootBuiltins x=some u)(h:Q u s)
  (hn:x≠"__name__":=by decide) (hd:(x == ("__debug__":Str))=false:=by decide):wpAny (model X.prog X.w) X.A (eval (.Name x pos) X.env) Q E s:=by
 obtain⟨mb,h1,h2⟩:=I.mod.blt;exact Calls.Name_function_global I.ok.kind hg (Calls.loadGlobal_builtin (by rw[I.ok.glob];exact I.mod.glob.keeps I.bk) hm (by rw[I.ok.blt];exact h1.keeps I.bk) ((h2 x hn).trans hv) h) hd
theorem ADq{x:Str}{v:V}{u:Value}{pos:Pos}(hg:Gl X x)(hm:X.mg x=some u)(r:Ai v u)(hd:(x == ("__debug__":Str))=false:=by decide):PE X (.Name x pos) (tC v) :=
 λ_ _ _ H _ I h=>Na I hg hm ⟨v,H,I,r,h⟩ hd
theorem ADz{x:Str}{v:V}{u:Value}{pos:Pos}(hg:Gl X x)(hm:X.mg x=none)(hv:bootBuiltins x=some u)(r:Ai v u)(hn:x≠"__name__":=by decide)(hd:(x == ("__debug__":Str))=false:=by decide):PE X (.Name x pos) (tC v) :=
 λ_ _ _ H _ I h=>Iy I hg hm hv ⟨v,H,I,r,h⟩ hn hd
variable {a b:Expr}{ta tb:TE}{pos:Pos}
def tB(t:TE):TT:=λσ H Q=>t σ H λx H1=>∃c,x=.bl c/\Q c H1
theorem ACu{e:Expr}{t:TE}(h:PE X e t)(he:∀whole,isTrue e X.env whole=(do let v <-whole;standAt e.pos;holding [v] (truthy v))):PT X e (tB t):=by intro pins s σ H Q I hw;refine isTrue_plain (Ah (h pins s σ H _ I hw) λv s1 z2_=>?_) (he _);obtain⟨x,H1,I1,r1,q1⟩:=z2_;obtain⟨d,rfl,q⟩:=q1;cases r1;exact AK9 ⟨H1,I1,q⟩
variable {tA tB':TT}{rest:List Expr}
def ABp(t u:TT):TT:=λσ H Q=>t σ H λc H1=>if c=true then u σ H1 Q else Q false H1
def tOr(t u:TT):TT:=λσ H Q=>t σ H λc H1=>if c=true then Q true H1 else u σ H1 Q
def ABZ(t:TT):TT:=λσ H Q=>t σ H λc H1=>Q (!c) H1
theorem ACk(ha:PT X a tA):PW X (.BoolOp .And [a] pos) tA:=by
 intro wh pins s σ H Q I h;refine isTrue_and (Ah (ha pins s σ H Q I h) λc s1 e=>?_)
 cases c with
 |true=>exact isTrue_and_nil e
 |false=>exact e
theorem ACi(ha:PT X a tA):PW X (.BoolOp .Or [a] pos) tA:=by
 intro wh pins s σ H Q I h;refine isTrue_or (Ah (ha pins s σ H Q I h) λc s1 e=>?_)
 cases c with
 |false=>exact isTrue_or_nil e
 |true=>exact e
theorem ACl(ha:PT X a tA)(hb:PW X (.BoolOp .And (b::rest) pos) tB'):PW X (.BoolOp .And (a::b::rest) pos) (ABp tA tB'):=by
 intro wh pins s σ H Q I h;refine isTrue_and (Ah (ha pins s σ H _ I h) λc s1 z2_=>?_);obtain⟨H1,I1,q1⟩:=z2_
 cases c with
 |true=>exact hb wh pins s1 σ H1 Q I1 q1
 |false=>exact⟨H1,I1,q1⟩
theorem ACj(ha:PT X a tA)(hb:PW X (.BoolOp .Or (b::rest) pos) tB'):PW X (.BoolOp .Or (a::b::rest) pos) (tOr tA tB'):=by
 intro wh pins s σ H Q I h;refine isTrue_or (Ah (ha pins s σ H _ I h) λc s1 z2_=>?_);obtain⟨H1,I1,q1⟩:=z2_
 cases c with
 |true=>exact⟨H1,I1,q1⟩
 |false=>exact hb wh pins s1 σ H1 Q I1 q1
theorem ACv(ha:PT X a tA):PT X (.UnaryOp .Not a pos) (ABZ tA):=by intro pins s σ H Q I h;exact isTrue_not (ha pins s σ H (λc H1=>Q (!c) H1) I h)
def ABo(ta tb:TE):TE:=λσ H Q=>ta σ H λx H1=>∃c,x=.bl c/\if c=true then tb σ H1 Q else Q (.bl false) H1
def ABW(ta tb:TE):TE:=λσ H Q=>ta σ H λx H1=>∃c,x=.bl c/\if c=true then Q (.bl true) H1 else tb σ H1 Q
def ABY(ta:TE):TE:=λσ H Q=>ta σ H λx H1=>∃c,x=.bl c/\Q (.bl (!c)) H1
theorem ADi{op}{t:TE}(h:PE X a t):PE X (.BoolOp op [a] pos) t:=λpins s σ H Q I hw=>BoolOp_one (h pins s σ H Q I hw)
theorem AD1(ha:PE X a ta)(hb:PE X (.BoolOp .And (b::rest) pos) tb):PE X (.BoolOp .And (a::b::rest) pos) (ABo ta tb):=by
 intro pins s σ H Q I h;refine BoolOp_and (Ah (ha pins s σ H _ I h) λv s1 z2_=>?_);obtain⟨x,H1,I1,r1,q1⟩:=z2_;obtain⟨c,rfl,q1⟩:=q1;cases r1;refine AK9 ?_
 cases c with
 |true=>exact hb pins s1 σ H1 Q I1 q1
 |false=>exact⟨.bl false,H1,I1,rfl,q1⟩
theorem ADg(ha:PE X a ta)(hb:PE X (.BoolOp .Or (b::rest) pos) tb):PE X (.BoolOp .Or (a::b::rest) pos) (ABW ta tb):=by
 intro pins s σ H Q I h;refine BoolOp_or (Ah (ha pins s σ H _ I h) λv s1 z2_=>?_);obtain⟨x,H1,I1,r1,q1⟩:=z2_;obtain⟨c,rfl,q1⟩:=q1;cases r1;refine AK9 ?_
 cases c with
 |false=>exact hb pins s1 σ H1 Q I1 q1
 |true=>exact⟨.bl true,H1,I1,rfl,q1⟩
theorem ADj(ha:PE X a ta):PE X (.UnaryOp .Not a pos) (ABY ta):=by intro pins s σ H Q I h;refine UnaryOp_ (Ah (ha pins s σ H _ I h) λv s1 z2_=>?_);obtain⟨x,H1,I1,r1,q1⟩:=z2_;obtain⟨c,rfl,q1⟩:=q1;cases r1;exact not_of (AK9 ⟨.bl (!c),H1,I1,rfl,q1⟩)
def tIf(t:TT)(ta tb:TE):TE:=λσ H Q=>t σ H λc H1=>if c=true then ta σ H1 Q else tb σ H1 Q
theorem ADp{c:Expr}(hc:PT X c tA)(ha:PE X a ta)(hb:PE X b tb):PE X (.IfExp c a b pos) (tIf tA ta tb):=by
 intro pins s σ H Q I h;refine wpAny_IfExp (Ah (hc pins s σ H _ I h) λd s1 z2_=>?_);obtain⟨H1,I1,q1⟩:=z2_
 cases d with
 |true=>exact ha pins s1 σ H1 Q I1 q1
 |false=>exact hb pins s1 σ H1 Q I1 q1
end
def Bj(K:AO)(H:Hp)(a:Addr)(xs:List V):Prop :=
 Rd H a (.lst xs) \/
  ∃(o:Obj) (its:Array Value) (n:Nat),K.lookup a=some o/\o.cls=.type "list"/\o.dict=none/\o.data=.seq its n/\its.size<=sizeLine/\Ak xs its.toList
def Bt(K:AO)(H:Hp)(a:Addr)(xs:List V):Prop :=
 Rd H a (.tup xs) \/
  ∃(o:Obj) (its:Array Value) (n:Nat),K.lookup a=some o/\o.cls=.type "tuple"/\o.data=.seq its n/\its.size<=sizeLine/\Ak xs its.toList
def AHj:Value->Option V
 |.none=>some .non
 |.bool b=>some (.bl b)
 |.int i _=>some (.int i)
 |.str x _=>some (.str x)
 |.bytes b _=>some (.byt b)
 |.float b _=>some (.flt b)
 |.ref a=>some (.ref a)
 |.type n=>some (.ty n)
 |_=>none
theorem Ai.abs{x:V}{u:Value}(r:Ai x u):AHj u=some x:=by
 cases x with
 |non=>cases r;rfl
 |bl _=>cases r;rfl
 |int _=>obtain⟨t,rfl⟩:=r;rfl
 |str _=>obtain⟨t,rfl⟩:=r;rfl
 |byt _=>obtain⟨t,rfl⟩:=r;rfl
 |flt _=>obtain⟨t,rfl⟩:=r;rfl
 |ref _=>cases r;rfl
 |ty _=>cases r;rfl
theorem Ai.inj{x y:V}{u:Value}(r:Ai x u)(q:Ai y u):x=y:=Option.some.inj (r.abs.symm.trans q.abs)
theorem Ak.inj:∀{xs ys:List V} {us:List Value},Ak xs us->Ak ys us->xs=ys
 |_,_,_,.nil,.nil=>rfl
 |_,_,_,.cons r t,.cons r' t'=>by rw[r.inj r',Ak.inj t t']
section
variable {X:Cx}{pins:List (Addr×Obj)}{σ:St}{H:Hp}{s:Shared}{a:Addr}{xs ys:List V}
theorem Bj.of{K:AO}(h:H a=some (.lst xs)):Bj K H a xs:=.inl (.inl h)
theorem Bt.of{K:AO}(h:H a=some (.tup xs)):Bt K H a xs:=.inl (.inl h)
theorem AK.list(I:AK X pins σ H s)(h:Bj X.K H a xs):∃its:List Value,Ak xs its/\PlainL s.heap a its.toArray/\xs.length<=sizeLine:=by
 rcases h with h|⟨o,its,n,hk,hc,hd,hs,hz,r⟩
 .obtain⟨z,its,n,r,e⟩:=h.ok I.hok;exact⟨its,r,⟨_,n,e,rfl,rfl,rfl⟩,z⟩
 .refine⟨its.toList,r,⟨o,n,I.kIn a o hk,hc,hd,by simpa using hs⟩,?_⟩;have e:=r.length;simp only[AKe] at e;omega
theorem AK.tuple(I:AK X pins σ H s)(h:Bt X.K H a xs):∃its:List Value,Ak xs its/\IsTup s.heap a its.toArray/\xs.length<=sizeLine:=by
 rcases h with h|⟨o,its,n,hk,hc,hs,hz,r⟩
 .obtain⟨z,its,r,p⟩:=h.ok I.hok;exact⟨its,r,p,z⟩
 .refine⟨its.toList,r,⟨o,I.kIn a o hk,hc,n,by simpa using hs⟩,?_⟩;have e:=r.length;simp only[AKe] at e;omega
theorem AK.list_inj(I:AK X pins σ H s)(h:Bj X.K H a xs)(h':Bj X.K H a ys):xs=ys:=by
 obtain⟨its,r,⟨o,n,e,_,_,d⟩,_⟩:=I.list h;obtain⟨its',r',⟨o',n',e',_,_,d'⟩,_⟩:=I.list h';rw[e] at e';cases e';rw[d] at d'
 injection d' with d1 _
 have:its=its':=by simpa using congrArg Array.toList d1
 subst this;exact r.inj r'
theorem AK.tuple_inj(I:AK X pins σ H s)(h:Bt X.K H a xs)(h':Bt X.K H a ys):xs=ys:=by
 obtain⟨its,r,⟨o,e,_,n,d⟩,_⟩:=I.tuple h;obtain⟨its',r',⟨o',e',_,n',d'⟩,_⟩:=I.tuple h';rw[e] at e';cases e';rw[d] at d'
 injection d' with d1 _
 have:its=its':=by simpa using congrArg Array.toList d1
 subst this;exact r.inj r'
end
abbrev Cx.wish(X:Cx)(E:ALL):Cx:={X with xe:=E}
abbrev Cx.nox(X:Cx):Cx:=X.wish λ_ _=>False
theorem Cx.Ok.wish{X:Cx}(ok:X.Ok)(E:ALL):(X.wish E).Ok :=
 ⟨ok.mod,ok.kind,ok.glob,ok.blt,ok.above,ok.inj,ok.has,ok.cab,ok.hd,ok.frames,ok.stk,ok.exf,ok.bs,ok.bsz,ok.noex,ok.exfs,ok.funs,ok.frf⟩
theorem Cx.Ok.unwish{X:Cx}{E:ALL}(ok:(X.wish E).Ok):X.Ok :=
 ⟨ok.mod,ok.kind,ok.glob,ok.blt,ok.above,ok.inj,ok.has,ok.cab,ok.hd,ok.frames,ok.stk,ok.exf,ok.bs,ok.bsz,ok.noex,ok.exfs,ok.funs,ok.frf⟩
section
variable {X:Cx}{pins:List (Addr×Obj)}{σ:St}{H:Hp}{s:Shared}{E:ALL}
theorem AK.wish(I:AK X pins σ H s)(E:ALL):AK (X.wish E) pins σ H s:=⟨I.ok.wish E,I.os,I.bare,I.base,I.loc,I.cell,I.free,I.freeC,I.pin,I.hok,I.len⟩
theorem AK.unwish(I:AK (X.wish E) pins σ H s):AK X pins σ H s:=⟨I.ok.unwish,I.os,I.bare,I.base,I.loc,I.cell,I.free,I.freeC,I.pin,I.hok,I.len⟩
theorem SP.unwish{D:KC}{f:Flow}{s':Shared}(h:SP (X.wish E) pins D f s'):SP X pins D f s':=by
 cases f with
 |next=>obtain⟨σ',H',I,q⟩:=h;exact⟨σ',H',I.unwish,q⟩
 |brk=>obtain⟨σ',H',I,q⟩:=h;exact⟨σ',H',I.unwish,q⟩
 |cont=>obtain⟨σ',H',I,q⟩:=h;exact⟨σ',H',I.unwish,q⟩
 |ret u=>obtain⟨v,σ',H',I,r,q⟩:=h;exact⟨v,σ',H',I.unwish,r,q⟩
theorem PE.nox{e:Expr}{t:TE}(h:PE X.nox e t):PE X e t:=λpins s σ H Q I hw =>
 GB (h pins s σ H Q (I.wish _) hw) (λ_ _ z2_=>(by obtain⟨v,H',I',r,q⟩:=z2_;exact⟨v,H',I'.unwish,r,q⟩)) λ_ _ z=>False.elim z
theorem PT.nox{e:Expr}{t:TT}(h:PT X.nox e t):PT X e t:=λpins s σ H Q I hw =>
 GB (h pins s σ H Q (I.wish _) hw) (λ_ _ z2_=>(by obtain⟨H',I',q⟩:=z2_;exact⟨H',I'.unwish,q⟩)) λ_ _ z=>False.elim z
theorem EG.nox{st:List Stmt}{t:TS}(h:EG X.nox st t):EG X st t:=λpins s σ H D I hw =>
 GB (h pins s σ H D (I.wish _) hw) (λ_ _ q=>q.unwish) λ_ _ z=>False.elim z
end
section
variable {X:Cx}{st:Stmt}{rest:List Stmt}{t u:TS}{e:Expr}{te:TE}{pos:Pos}
def ABb:TS:=λD σ H=>D.nx σ H
def ABT(t u:TS):TS:=λD σ H=>t {D with nx:=u D} σ H
theorem ACz:EG X [] ABb:=λ_ _ σ H _ I h=>wpAny_execs_nil ⟨σ,H,I,h⟩
theorem AC0(h1:PS X st t)(h2:EG X rest u):EG X (st::rest) (ABT t u):=by
 intro pins s σ H D I h;refine wpAny_execs_cons (Ah (h1 pins s σ H {D with nx:=u D} I h) λf s1 q=>?_)
 cases f with
 |next =>
  obtain⟨σ',H',I',q⟩:=q;exact h2 pins s1 σ' H' D I' q
 |ret v=>exact q
 |brk=>exact q
 |cont=>exact q
theorem ACy(h1:PS X st t):EG X [st] t:=by
 intro pins s σ H D I h;refine wpAny_execs_cons (Ah (h1 pins s σ H D I h) λf s1 q=>?_)
 cases f with
 |next=>exact wpAny_execs_nil q
 |ret v=>exact q
 |brk=>exact q
 |cont=>exact q
def ABk:TS:=λD σ H=>D.bk σ H
theorem ADA:PS X (.Break pos) ABk:=λ_ _ σ H _ I h=>wpAny_Break ⟨σ,H,I,h⟩
theorem AK.quiet{pins:List (Addr×Obj)}{σ:St}{H:Hp}{s:Shared}(I:AK X pins σ H s):interactive X.env=false:=by simp[interactive,I.ok.kind]
def ABi(te:TE):TS:=λD σ H=>te σ H λ_ H1=>D.nx σ H1
theorem AC9(he:PE X e te)(hs:swapsWith e none pos.line X.env=pure false):PS X (.Expr e pos) (ABi te):=by intro pins s σ H D I h;exact wpAny_Expr_any (Ah (he pins s σ H _ I h) λv s1 z2_=>(by obtain⟨x,H1,I1,r1,q1⟩:=z2_;exact⟨σ,H1,I1,q1⟩)) I.quiet hs
def ABU(te:TE):TS:=λD σ H=>te σ H D.rt
theorem AC3(he:PE X e te):PS X (.Return (some e) pos) (ABU te):=by intro pins s σ H D I h;exact wpAny_Return_some (Ah (he pins s σ H _ I h) λv s1 z2_=>(by obtain⟨x,H1,I1,r1,q1⟩:=z2_;exact⟨x,σ,H1,I1,r1,q1⟩))
def ABe(c:TT)(t u:TS):TS:=λD σ H=>c σ H λb H1=>if b=true then t D σ H1 else u D σ H1
theorem AC5{c:Expr}{a b:List Stmt}{tc:TT}(hc:PT X c tc)(ha:EG X a t)(hb:EG X b u):PS X (.If c a b pos) (ABe tc t u):=by
 intro pins s σ H D I h;refine wpAny_If (Ah (hc pins s σ H _ I h) λd s1 z2_=>?_);obtain⟨H1,I1,q1⟩:=z2_
 cases d with
 |true=>exact ha pins s1 σ H1 D I1 q1
 |false=>exact hb pins s1 σ H1 D I1 q1
def ABc:TS:=λ_ _ _=>False
theorem AC4:PS X st ABc:=λ_ _ _ _ _ _ h=>h.elim
end
abbrev TG:=V->St->Hp->(St->Hp->Prop)->Prop
abbrev Hc:=List V->St->Hp->(St->Hp->Prop)->Prop
def PG(X:Cx)(target:Expr)(t:TG):Prop :=
 ∀(pins:List (Addr×Obj)) (s:Shared) (σ:St) (H:Hp) (v:V) (u:Value) (Q:St->Hp->Prop),AK X pins σ H s->Ai v u->t v σ H Q ->
  wpAny (model X.prog X.w) X.A (assign target X.env u) (λ_ s'=>∃σ' H',AK X pins σ' H' s'/\Q σ' H') X.xe s
def He(X:Cx)(ts:List Expr)(t:Hc):Prop :=
 ∀(pins:List (Addr×Obj)) (s:Shared) (σ:St) (H:Hp) (vs:List V) (us:List Value) (Q:St->Hp->Prop),AK X pins σ H s->Ak vs us->t vs σ H Q ->
  wpAny (model X.prog X.w) X.A (assignInOrder ((assignEach ts X.env).map (·.2)) us) (λ_ s'=>∃σ' H',AK X pins σ' H' s'/\Q σ' H') X.xe s
abbrev OL:=V->V->V->Hp->(Hp->Prop)->Prop
def TW(X:Cx)(t:OL):Prop :=
 ∀(pins:List (Addr×Obj)) (s:Shared) (σ:St) (H:Hp) (o i v:V) (ov iv u:Value) (Q:Hp->Prop),AK X pins σ H s->Ai o ov->Ai i iv->Ai v u->t o i v H Q ->
  wpAny (model X.prog X.w) X.A (setItem ov iv u) (λ_ s'=>∃H',AK X pins σ H' s'/\Q H') X.xe s
abbrev OM:=V->V->Hp->VK->Prop
def OO(X:Cx)(op:Operator)(t:OM):Prop :=
 ∀(pins:List (Addr×Obj)) (s:Shared) (σ:St) (H:Hp) (x y:V) (v u:Value) (Q:VK),AK X pins σ H s->Ai x v->Ai y u->t x y H Q ->
  wpAny (model X.prog X.w) X.A (inplaceOp op v u) (EP X pins σ Q) X.xe s
section
variable {X:Cx}{pos:Pos}
def YE(i:Nat):TG:=λv σ H Q=>Q (σ.set i (some v)) H
theorem ADZ{i:Nat}{x:Str}(hN:X.N.Nodup)(hi:X.N[i]?=some x)(hx:Ie X.env.scope x)(hf:X.fn x=true\/X.env.scope.names.lookup x=some .local):PG X (.Name x pos) (YE i):=by intro pins s σ H v u Q I r h;exact wpAny_assign_Name (RP I hN hi hx r (λs' I'=>⟨_,H,I',h⟩) hf)
def AGF:Hc:=λvs σ H Q=>vs=[]/\Q σ H
def AGK(t:TG)(u:Hc):Hc:=λvs σ H Q=>∃v r,vs=v::r/\t v σ H λσ' H'=>u r σ' H' Q
theorem ADX:He X [] AGF:=by intro pins s σ H vs us Q I r h;obtain⟨e,h⟩:=h;subst e;cases r;exact assignInOrder_nil ⟨σ,H,I,h⟩
theorem ADY{e:Expr}{es:List Expr}{t:TG}{u:Hc}(h1:PG X e t)(h2:He X es u)
  (hs:(assignEach (e::es) X.env).map (·.2)=assign e X.env::(assignEach es X.env).map (·.2):=by rfl):He X (e::es) (AGK t u):=by
 intro pins s σ H vs us Q I r h;obtain⟨v,vr,e1,h⟩:=h;subst e1
 cases r with
 |cons r rr =>
  rw[hs];refine assignInOrder_cons (Ah (h1 pins s σ H _ _ _ I r h) λ_ s1 z2_=>?_);obtain⟨σ1,H1,I1,q1⟩:=z2_;exact h2 pins s1 σ1 H1 _ _ Q I1 rr q1
def AGE(K:AO)(n:Nat)(t:Hc):TG:=λv σ H Q=>∃a xs,v=.ref a/\Bt K H a xs/\xs.length=n/\t xs σ H Q
theorem WQ{es:List Expr}{k:Nat}{t:Hc}{n:Nat}(hc:X.calm=true)(h:He X es t)
  (hn:(assignEach es X.env).length=n:=by rfl) (hst:(assignEach es X.env).findIdx? (·.1)=none:=by rfl):PG X (.Tuple es k pos) (AGE X.K n t):=by
 intro pins s σ H v u Q I r hw;obtain⟨a,xs,e1,hq,hl,hw⟩:=hw;subst e1;cases r;obtain⟨its,rv,ht,hz⟩:=I.tuple hq;refine assign_Tuple_tuple (I.ok.hd hc) ht (by simp[hn,<-hl,rv.length]) hst λh' hx=>?_;have I1:AK X pins σ H {s with heap:=h'}:=I.kept (t':=s.toks) λb o e=>hx b o (Bu (Heap.lt_size e)) e;exact h pins _ σ H xs _ Q I1 (by simpa using rv) hw
def HR(to ti:TE)(t:OL):TG:=λv σ H Q=>to σ H λo H1=>ti σ H1 λi H2=>t o i v H2 λH3=>Q σ H3
theorem WR{o i:Expr}{to ti:TE}{t:OL}(ho:PE X o to)(hi:PE X i ti)(hs:TW X t)
  (ha:∀v,assign (.Subscript o i pos) X.env v=(do
   let ov <-holding [v] (eval o X.env)
   let iv <-holding [v,ov] (eval i X.env)
   standAt pos
   holding [v,ov,iv] (setItem ov iv v)
   release [v,ov,iv] []):=by intro _;rfl):PG X (.Subscript o i pos) (HR to ti t):=by
 intro pins s σ H v u Q I r h;rw[ha];refine AH (EV (Ah (ho pins s σ H _ I h) λov s1 z2_=>?_));obtain⟨x,H1,I1,r1,q1⟩:=z2_;refine AH (EV (Ah (hi pins s1 σ H1 _ I1 q1) λiv s2 z2_=>?_));obtain⟨y,H2,I2,r2,q2⟩:=z2_;refine AH (wpAny_standAt (AH (EV (Ah (hs pins s2 σ H2 x y v ov iv u _ I2 r1 r2 r q2) λ_ s3 z2_=>?_))));obtain⟨H3,I3,q3⟩:=z2_;exact wpAny_release ⟨σ,H3,I3,q3⟩
def VO(te:TE)(g:TG):TS:=λD σ H=>te σ H λx H1=>g x σ H1 D.nx
theorem Rc{tg e:Expr}{te:TE}{g:TG}(he:PE X e te)(hg:PG X tg g)(hs:swapsWithSole [tg] e pos.line X.env=pure false)(hw:swappedStores [tg] e X.env=pure none)
  (h1:(assignEach [tg] X.env).map (·.2)=[assign tg X.env]):PS X (.Assign [tg] e pos) (VO te g):=by
 intro pins s σ H D I h;refine wpAny_Assign_stores (Ah (he pins s σ H _ I h) λv s1 z2_=>?_) hs hw;obtain⟨x,H1,I1,r1,q1⟩:=z2_;rw[h1];exact Ah (hg pins s1 σ H1 x v _ I1 r1 q1) λ_ s2 q=>q
theorem AC2{i:Nat}{x:Str}{e:Expr}{te:TE}{pos':Pos}(hN:X.N.Nodup)(hi:X.N[i]?=some x)(hx:Ie X.env.scope x)(he:PE X e te)(hs:swapsWith e (some (.Name x pos')) pos.line X.env=pure false)(hf:X.fn x=true\/X.env.scope.names.lookup x=some .local) :
  PS X (.Assign [.Name x pos'] e pos) (VO te (YE i)):=by
 intro pins s σ H D I h;refine wpAny_Assign_Name (Ah (he pins s σ H _ I h) λv s1 z2_=>?_) hs;obtain⟨y,H1,I1,r1,q1⟩:=z2_;exact RP I1 hN hi hx r1 (λs2 I2=>⟨_,H1,I2,q1⟩) hf
def ABn(i:Nat)(te:TE)(ti:OM):TS:=λD σ H=>∃x,σ[i]?=some (some x)/\te σ H λy H1=>ti x y H1 λz H2=>D.nx (σ.set i (some z)) H2
theorem ADB{i:Nat}{x:Str}{e:Expr}{te:TE}{op:Operator}{ti:OM}{pos':Pos}(hN:X.N.Nodup)(hi:X.N[i]?=some x)(hx:Ie X.env.scope x)(he:PE X e te)(ho:OO X op ti)(hf:X.fn x=true\/X.env.scope.names.lookup x=some .local) :
  PS X (.AugAssign (.Name x pos') op e pos) (ABn i te ti):=by
 intro pins s σ H D I h;obtain⟨v,e1,h⟩:=h;obtain⟨m,hn,hl⟩:=I.loc;have vis:Kv X.env.scope x:=by rcases hx with k|k;exact .inl k;exact .inr (.inl k)
 obtain⟨u,r,l⟩:=hl i x v hi e1 vis;refine wpAny_AugAssign_Name ?_
 have go:wpAny (model X.prog X.w) X.A (eval e X.env) (λw s₂=>wpAny (model X.prog X.w) X.A (inplaceOp op u w) (λr s₃=>wpAny (model X.prog X.w) X.A (storeName X.env x r) (λ_=>SP X pins D .next) X.xe s₃) X.xe s₂) X.xe s:=by refine Ah (he pins s σ H _ I h) λw s1 z2_=>?_;obtain⟨y,H1,I1,r1,q1⟩:=z2_;refine Ah (ho pins s1 σ H1 v y u w _ I1 r r1 q1) λz s2 z2_=>?_;obtain⟨zv,H2,I2,r2,q2⟩:=z2_;exact RP I2 hN hi hx r2 (λs3 I3=>⟨_,H2,I3,q2⟩) hf
 rcases l with⟨hk,hm⟩|⟨hk,c,hc,hcell⟩
 .exact wpAny_loadName_local I.ok.kind hk hn hm go
 .rcases hk with hk|hk
  .exact wpAny_loadName_cell I.ok.kind hk hc hcell go
  .rcases hx with k|k
   .have:X.env.scope.names.lookup x=some .free:=hk;rw[k] at this;cases this
   .have:X.env.scope.names.lookup x=some .free:=hk;rw[k] at this;cases this
def SQ(f:Int->Int->Int):OM:=λx y H Q=>∃i j,x=.int i/\y=.int j/\Q (.int (f i j)) H
theorem AFn:OO X .Add (SQ λi j=>i+j):=by intro pins s σ H x y v u Q I r1 r2 h;obtain⟨i,j,e1,e2,q⟩:=h;subst e1;subst e2;obtain⟨t,rfl⟩:=r1;obtain⟨t',rfl⟩:=r2;exact iadd_int ⟨.int _,H,I.tok _,⟨_,rfl⟩,q⟩
theorem AFm:OO X .Sub (SQ λi j=>i-j):=by intro pins s σ H x y v u Q I r1 r2 h;obtain⟨i,j,e1,e2,q⟩:=h;subst e1;subst e2;obtain⟨t,rfl⟩:=r1;obtain⟨t',rfl⟩:=r2;exact isub_int ⟨.int _,H,I.tok _,⟨_,rfl⟩,q⟩
end
section
variable {X:Cx}{pos:Pos}
def ABP(c:TT)(tb:TS):TS:=λD σ H=>∃W:Nat->St->Hp->Prop,(∃m,W m σ H)/\∀m σ H,W m σ H ->
 c σ H λb H1=>if b=true then ∃N:St->Hp->Prop,(∀σ' H',N σ' H'->∃m',m'<m/\W m' σ' H')/\tb {D with nx:=N,ct:=N,bk:=D.nx} σ H1 else D.nx σ H1
theorem AC1{c:Expr}{body:List Stmt}{tc:TT}{tb:TS}(hp:PassesOwn (model X.prog X.w) X.A X.env X.xe)(hc:PT X c tc)(hb:EG X body tb):PS X (.While c body [] pos) (ABP tc tb):=by
 intro pins s σ H D I h;obtain⟨W,⟨m0,w0⟩,turn⟩:=h;refine wpAny_While (codeAny_whileLoop (λn s'=>∃σ' H',AK X pins σ' H' s'/\W n σ' H') ?_ m0 ⟨σ,H,I,w0⟩);rintro n s1 ⟨σ1,H1,I1,w1⟩;refine ALA hp (Ah (hc pins s1 σ1 H1 _ I1 (turn n σ1 H1 w1)) λb s2 z2_=>?_);obtain⟨H2,I2,q2⟩:=z2_
 cases b with
 |true =>
  obtain⟨N,hN,q2⟩:=q2;rw[if_pos rfl];refine ALA hp (Ah (hb pins s2 σ1 H2 _ I2 q2) λf s3 q3=>?_)
  cases f with
  |next =>
   obtain⟨σ3,H3,I3,n3⟩:=q3;obtain⟨m',hm,w3⟩:=hN σ3 H3 n3;exact⟨m',hm,σ3,H3,I3,w3⟩
  |cont =>
   obtain⟨σ3,H3,I3,n3⟩:=q3;obtain⟨m',hm,w3⟩:=hN σ3 H3 n3;exact⟨m',hm,σ3,H3,I3,w3⟩
  |brk=>exact q3
  |ret v=>exact q3
 |false =>
  rw[if_neg Ct];exact wpAny_execs_nil ⟨σ1,H2,I2,q2⟩
end
structure It where
 go:Nat->Hp->Prop
 yld:Nat->Hp->V->Hp->Prop
 stop:Nat->Hp->Prop
def Hi(X:Cx)(pins:List (Addr×Obj))(H:Hp)(b:Addr):Prop :=
 H b=none/\b≠X.env.locals/\b∉X.fs/\(b∈X.ex\/X.s₀.heap.objs.size<=b)/\(∀x c,X.env.cells.lookup x=some c->c≠b)/\∀p∈X.pn++pins,p.1≠b
theorem AK.fpOk{X:Cx}{pins:List (Addr×Obj)}{σ:St}{H H':Hp}{s:Shared}{b:Addr}(I:AK X pins σ H s)(hb:s.heap.objs.size<=b)(hn:H' b=none):Hi X pins H' b:=by
 refine⟨hn,HC (DZ I.lt hb),I.nofs hb,.inr (DA I.sz hb),λx c e z=>?_,λp hp z=>?_⟩
 .obtain⟨v,q⟩:=I.cell x c e;exact absurd (DZ q.lt (by rw[z];exact hb)) (AJl _)
 .exact absurd (DZ (Heap.lt_size (I.pin p hp).1) (by rw[z];exact hb)) (AJl _)
structure IC (P:Program) (w:World) (K:AO) (tg:Expr) (J:It) (fp:List Addr) (it:Addr) (tn:Nat->Heap->Prop):Prop where
 mem:it∈fp
 obj:∀i h,tn i h->∀b∈fp,∃o,h.get? b=some o/\∀v,o.data≠.cell v
 keep:∀i h h',tn i h->(∀b∈fp,∀o,h.get? b=some o->h'.get? b=some o)->tn i h'
 item:∀(X:Cx),X.prog=P->X.w=w->X.K=K->X.calm=true->∀(i:Nat) (pins:List (Addr×Obj)) (s:Shared) (σ:St) (H:Hp) (E:ALL),AK X pins σ H s->(∀b∈fp,Hi X pins H b)->tn i s.heap->J.go i H ->
  wpAny (model P w) X.A (pyNext (.ref it)) (λr s1=>∃u,r=some u /\
   wpAny (model P w) X.A (letOwnedTupleGo tg (.ref it) u) (λ_ s2=>∃x H',AK X pins σ H' s2/\Ai x u/\J.yld i H x H'/\tn (i+1) s2.heap/\∀b∈fp,H' b=none) E s1) E s
 done:∀(X:Cx),X.prog=P->X.w=w->X.K=K->X.calm=true->∀(i:Nat) (pins:List (Addr×Obj)) (s:Shared) (σ:St) (H:Hp) (E:ALL),AK X pins σ H s->(∀b∈fp,Hi X pins H b)->tn i s.heap->J.stop i H ->
  wpAny (model P w) X.A (pyNext (.ref it)) (λr s1=>r=none/\AK X pins σ H s1) E s
 self:∀(A:Around) (i:Nat) (s:Shared) (Q:ALL) (E:ALL),tn i s.heap->Q (.ref it) s->wpAny (model P w) A (pyIter (.ref it)) Q E s
abbrev TI:=St->Hp->(It->Hp->Prop)->Prop
def Zd(X:Cx)(pins:List (Addr×Obj))(σ:St)(tg:Expr)(R:It->Hp->Prop)(itv:Value)(s2:Shared):Prop :=
 ∃(it:Addr) (fp:List Addr) (tn:Nat->Heap->Prop) (J:It) (H':Hp),itv=.ref it/\AK X pins σ H' s2/\IC X.prog X.w X.K tg J fp it tn/\tn 0 s2.heap/\(∀b∈fp,Hi X pins H' b)/\R J H'
def PI(X:Cx)(tg iter:Expr)(wi:TI):Prop :=
 ∀(pins:List (Addr×Obj)) (s:Shared) (σ:St) (H:Hp) (R:It->Hp->Prop),AK X pins σ H s->wi σ H R ->
  wpAny (model X.prog X.w) X.A (eval iter X.env) (λv s1=>wpAny (model X.prog X.w) X.A (pyIter v) (Zd X pins σ tg R) X.xe s1) X.xe s
theorem Ni{M:Model}{A:Around}{E:ALL}{s:Shared}{tg:Expr}{it:Addr}{u:Value}{o:Obj}{n:String}{vs:Array Value}{Q:Unit->Shared->Prop}(ho:s.heap.get? it=some o)(hc:o.cls=.type n)(hd:o.data=.fields vs)
  (hn:["enumerate","zip","dict_itemiterator","dict_reverseitemiterator","odict_iterator","itertools.zip_longest","itertools.pairwise"].contains n=false) (hQ:Q () s):wpAny M A (letOwnedTupleGo tg (.ref it) u) Q E s:=by
 unfold letOwnedTupleGo
 cases tg <;> first
  |exact AU hQ
  |(cases u <;> first
    |exact AU hQ
    |(refine AH (wpAny_load ho ?_)
      rw[hc,hd]
      show wpAny M A (if (["enumerate","zip","dict_itemiterator","dict_reverseitemiterator","odict_iterator","itertools.zip_longest","itertools.pairwise"].contains n&&vs[0]? == some (rawInt _))=true then _ else _) Q E s
      rw[if_neg (by intro h;rw[hn,Bool.false_and] at h;cases h)]
      exact AU hQ))
def Zi(K:AO)(a:Addr):It :=
 ⟨λi H=>∃xs x,Bj K H a xs/\xs[i]?=some x,λi H x H'=>H'=H/\∀xs,Bj K H a xs->xs[i]?=some x,λi H=>∃xs,Bj K H a xs/\xs.length<=i⟩
def Zg(K:AO)(a:Addr):It :=
 ⟨λi H=>∃xs x,Bt K H a xs/\xs[i]?=some x,λi H x H'=>H'=H/\∀xs,Bt K H a xs->xs[i]?=some x,λi H=>∃xs,Bt K H a xs/\xs.length<=i⟩
def MN(lo:Int)(n:Nat):It:=⟨λi _=>i<n,λi H x H'=>H'=H/\x=.int (lo+i),λi _=>n<=i⟩
theorem ABF{P:Program}{w:World}{K:AO}{tg:Expr}(a it:Addr):IC P w K tg (Zi K a) [it] it (λi h=>h.IsListIter it a i) where
 mem:=by simp
 obj:=λi h st b hb=>by
  have e:b=it:=by simpa using hb
  subst e;obtain⟨o,e,c,d⟩:=st;exact⟨o,e,λv z=>by rw[d] at z;cases z⟩
 keep:=λi h h' st k=>st.at λo e=>k it (by simp) o e
 item:=by intro X hP hw hK hc i pins s σ H E I hf st hg;subst hP hw hK;obtain⟨xs,x,hq,hx⟩:=hg;obtain⟨its,rv,p,hz⟩:=I.list hq;obtain⟨u,hu,ru⟩:=rv.get hx;obtain⟨f0,f1,f2,f3,f4,f5⟩:=hf it (by simp);refine wpAny_pyNext_list_item st p.isList (x:=u) (by simpa using hu) λh' st' sb=>?_;have I1:AK X pins σ H {s with heap:=h'}:=I.turned (t':=s.toks) (λb o hb e=>(sb.2 b hb).trans e) f0 f1 f3 f4 f5;obtain⟨o,e,c,d⟩:=id st';exact⟨u,rfl,Ni (s:={s with heap:=h'}) e c d (by decide) ⟨x,H,I1,ru,⟨rfl,λys hy=>by rw[I.list_inj hy hq];exact hx⟩,st',λb hb=>(hf b hb).1⟩⟩
 done:=by intro X hP hw hK hc i pins s σ H E I hf st hg;subst hP hw hK;obtain⟨xs,hq,hx⟩:=hg;obtain⟨its,rv,p,hz⟩:=I.list hq;obtain⟨f0,f1,f2,f3,f4,f5⟩:=hf it (by simp);have hl:=rv.length;exact wpAny_pyNext_list_end (I.ok.hd hc) st p.isList (by simp;omega) λh' eb=>⟨rfl,I.turned (t':=s.toks) (λb o hb e=>eb b o hb e) f0 f1 f3 f4 f5⟩
 self:=λ_ _ _ _ _ st h=>wpAny_pyIter_listiter st h
theorem ABC{P:Program}{w:World}{K:AO}{tg:Expr}(a it:Addr):IC P w K tg (Zg K a) [it] it (λi h=>h.IsTupleIter it a i) where
 mem:=by simp
 obj:=λi h st b hb=>by
  have e:b=it:=by simpa using hb
  subst e;obtain⟨o,e,c,d⟩:=st;exact⟨o,e,λv z=>by rw[d] at z;cases z⟩
 keep:=λi h h' st k=>st.at λo e=>k it (by simp) o e
 item:=by intro X hP hw hK hc i pins s σ H E I hf st hg;subst hP hw hK;obtain⟨xs,x,hq,hx⟩:=hg;obtain⟨its,rv,p,hz⟩:=I.tuple hq;obtain⟨u,hu,ru⟩:=rv.get hx;obtain⟨f0,f1,f2,f3,f4,f5⟩:=hf it (by simp);refine wpAny_pyNext_tuple_item st (show s.heap.IsTuple a its.toArray from p) (x:=u) (by simpa using hu) λh' st' sb=>?_;have I1:AK X pins σ H {s with heap:=h'}:=I.turned (t':=s.toks) (λb o hb e=>(sb.2 b hb).trans e) f0 f1 f3 f4 f5;obtain⟨o,e,c,d⟩:=id st';exact⟨u,rfl,Ni (s:={s with heap:=h'}) e c d (by decide) ⟨x,H,I1,ru,⟨rfl,λys hy=>by rw[I.tuple_inj hy hq];exact hx⟩,st',λb hb=>(hf b hb).1⟩⟩
 done:=by intro X hP hw hK hc i pins s σ H E I hf st hg;subst hP hw hK;obtain⟨xs,hq,hx⟩:=hg;obtain⟨its,rv,p,hz⟩:=I.tuple hq;obtain⟨f0,f1,f2,f3,f4,f5⟩:=hf it (by simp);have hl:=rv.length;exact wpAny_pyNext_tuple_end (I.ok.hd hc) st (show s.heap.IsTuple a its.toArray from p) (by simp;omega) λh' eb=>⟨rfl,I.turned (t':=s.toks) (λb o hb e=>eb b o hb e) f0 f1 f3 f4 f5⟩
 self:=λ_ _ _ _ _ st h=>wpAny_pyIter_tupleiter st h
theorem ABD{P:Program}{w:World}{K:AO}{tg:Expr}(it:Addr)(lo:Int)(n:Nat):IC P w K tg (MN lo n) [it] it (λi h=>IsRangeIter h it (lo+(i:Nat)*1) ((n:Int)-(i:Nat)) 1) where
 mem:=by simp
 obj:=λi h st b hb=>by
  have e:b=it:=by simpa using hb
  subst e
  exact⟨_,st,λv z=>by
   have z':Data.fields _=Data.cell v:=z
   cases z'⟩
 keep:=λi h h' st k=>k it (by simp) _ st
 item:=by intro X hP hw hK hc i pins s σ H E I hf st hg;subst hP hw hK;obtain⟨f0,f1,f2,f3,f4,f5⟩:=hf it (by simp);have W:=Walks.range (prog:=X.prog) (w:=X.w) (I.ok.hd hc) it lo 1 n;refine W.item i s _ _ hg st λv h' tk hv st' kk=>?_;obtain⟨t,rfl⟩:=hv;have I1:AK X pins σ H {s with heap:=h',toks:=tk}:=I.turned (λb o hb e=>kk b o (by simpa using hb) e) f0 f1 f3 f4 f5;refine⟨_,rfl,Ni (s:={s with heap:=h',toks:=tk}) (n:="range_iterator") st' rfl rfl (by decide) ⟨.int (lo+i),H,I1,⟨t,?_⟩,⟨rfl,rfl⟩,st',λb hb=>(hf b hb).1⟩⟩;rw[Int.mul_one]
 done:=by intro X hP hw hK hc i pins s σ H E I hf st hg;subst hP hw hK;obtain⟨f0,f1,f2,f3,f4,f5⟩:=hf it (by simp);exact wpAny_pyNext_range_end (I.ok.hd hc) st (by have:n<=i:=hg;omega) λh' eb=>⟨rfl,I.turned (t':=s.toks) (λb o hb e=>eb b o hb e) f0 f1 f3 f4 f5⟩
 self:=λ_ _ _ _ _ st h=>wpAny_pyIter_rangeiter st h
section
variable {X:Cx}{tg:Expr}
def AFx(K:AO)(tl:TE):TI:=λσ H R=>tl σ H λx H1=>∃a,x=.ref a/\(∃xs,Bj K H1 a xs)/\R (Zi K a) H1
def AFt(K:AO)(tl:TE):TI:=λσ H R=>tl σ H λx H1=>∃a,x=.ref a/\(∃xs,Bt K H1 a xs)/\R (Zg K a) H1
theorem ADW{l:Expr}{tl:TE}(hl:PE X l tl):PI X tg l (AFx X.K tl):=by
 intro pins s σ H R I h;refine Ah (hl pins s σ H _ I h) λv s1 z2_=>?_;obtain⟨x,H1,I1,r1,q1⟩:=z2_;obtain⟨a,e,⟨xs,hq⟩,q⟩:=q1;subst e;cases r1;obtain⟨its,rv,p,hz⟩:=I1.list hq;refine wpAny_pyIter_list p.isList ?_;refine⟨s1.heap.objs.size,[s1.heap.objs.size],_,_,H1,rfl,I1.kept (t':=s1.toks) λb o e=>Heap.get?_push_of_some _ e,ABF a _,⟨_,Heap.get?_push_size _ rfl,rfl,rfl⟩,λb hb=>?_,q⟩;have e:b=s1.heap.objs.size:=by simpa using hb
 subst e;exact I1.fpOk (Al _) (I1.hok.fresh (Al _))
theorem ADS{l:Expr}{tl:TE}(hl:PE X l tl):PI X tg l (AFt X.K tl):=by
 intro pins s σ H R I h;refine Ah (hl pins s σ H _ I h) λv s1 z2_=>?_;obtain⟨x,H1,I1,r1,q1⟩:=z2_;obtain⟨a,e,⟨xs,hq⟩,q⟩:=q1;subst e;cases r1;obtain⟨its,rv,p,hz⟩:=I1.tuple hq;refine wpAny_pyIter_tuple (show s1.heap.IsTuple a its.toArray from p) ?_;refine⟨s1.heap.objs.size,[s1.heap.objs.size],_,_,H1,rfl,I1.kept (t':=s1.toks) λb o e=>Heap.get?_push_of_some _ e,ABC a _,⟨_,Heap.get?_push_size _ rfl,rfl,rfl⟩,λb hb=>?_,q⟩;have e:b=s1.heap.objs.size:=by simpa using hb
 subst e;exact I1.fpOk (Al _) (I1.hok.fresh (Al _))
theorem Vx{pins:List (Addr×Obj)}{σ:St}{H:Hp}{s:Shared}{R:It->Hp->Prop}{E:ALL}{lo hi:Int}{t u v:Tok}{tk:Nat}(I:AK X pins σ H s)(h1:-(2 ^ 62)<=lo)(h2:lo<2 ^ 62)(h3:-(2 ^ 62)<=hi)(h4:hi<2 ^ 62)
  (q:R (MN lo (hi-lo).toNat) H):wpAny (model X.prog X.w) X.A (pyIter (.ref s.heap.objs.size)) (Zd X pins σ tg R) E {s with heap:=s.heap.push {cls:=.type "range",data:=.fields #[.int lo t,.int hi u,.int 1 v]},toks:=tk}:=by
 refine wpAny_pyIter_range (IsRange.new ..) (small_one h1 h2 h3 h4) ?_;have I1:AK X pins σ H {s with heap:=s.heap.push {cls:=.type "range",data:=.fields #[.int lo t,.int hi u,.int 1 v]},toks:=tk}:=I.kept λb o e=>Heap.get?_push_of_some _ e
 refine⟨(s.heap.push {cls:=.type "range",data:=.fields #[.int lo t,.int hi u,.int 1 v]}).objs.size,[(s.heap.push {cls:=.type "range",data:=.fields #[.int lo t,.int hi u,.int 1 v]}).objs.size],_,_,H,rfl,
  I1.kept (t':=tk) λb o e=>Heap.get?_push_of_some _ e,ABD _ lo (hi-lo).toNat,?_,λb hb=>?_,q⟩
 .have e1:lo+((0:Nat):Int)*1=lo:=by simp
  have e2:(((hi-lo).toNat:Nat):Int)-((0:Nat):Int)=Builtin.Range.rangeSize lo hi 1:=by rw[rangeSize_one];split <;> omega
  show IsRangeIter _ _ (lo+((0:Nat):Int)*1) ((((hi-lo).toNat:Nat):Int)-((0:Nat):Int)) 1;rw[e1,e2];exact Heap.get?_push_size _ rfl
 .have e:b=(s.heap.push {cls:=.type "range",data:=.fields #[.int lo t,.int hi u,.int 1 v]}).objs.size:=by simpa using hb
  subst e;exact I1.fpOk (Al _) (I1.hok.fresh (Al _))
def AFw(ta:TA):TI:=λσ H R=>ta σ H λvs H1=>∃j:Int,vs=[.int j]/\-(2 ^ 62)<=j/\j<2 ^ 62/\R (MN 0 j.toNat) H1
def AFv(ta:TA):TI:=λσ H R=>ta σ H λvs H1=>∃i j:Int,vs=[.int i,.int j]/\(-(2 ^ 62)<=i/\i<2 ^ 62/\-(2 ^ 62)<=j/\j<2 ^ 62)/\R (MN i (j-i).toNat) H1
theorem ADV{a:Expr}{ta:TA}{p pos:Pos}(hg:Gl X "range")(hm:X.mg "range"=none)(ha:PA X [a] ta)(hs:starEach [a] X.env=[(false,eval a X.env)]):PI X tg (.Call (.Name "range" p) [a] [] pos) (AFw ta):=by
 intro pins s σ H R I h;refine Call_ (Iy I hg hm boot_range (PyProof.Rows.callWith_type1 (Ah (ha pos pins s σ H _ I h) λus s1 z2_=>?_) hs rfl));obtain⟨vs,H1,I1,r1,q1⟩:=z2_;obtain⟨j,e,q1,q2,q⟩:=q1;subst e
 cases r1 with
 |cons r rr =>
  cases rr;obtain⟨t,rfl⟩:=r;exact call_range_1 (Vx I1 (by omega) (by omega) q1 q2 (by simpa using q))
theorem ADU{a b:Expr}{ta:TA}{p pos:Pos}(hg:Gl X "range")(hm:X.mg "range"=none)(ha:PA X [a,b] ta)(hs:starEach [a,b] X.env=[(false,eval a X.env),(false,eval b X.env)])(hs2:starEach [b] X.env=[(false,eval b X.env)]) :
  PI X tg (.Call (.Name "range" p) [a,b] [] pos) (AFv ta):=by
 intro pins s σ H R I h;refine Call_ (Iy I hg hm boot_range (PyProof.Rows.callWith_type1 (Ah (ha pos pins s σ H _ I h) λus s1 z2_=>?_) (by rw[hs,hs2]) (by rw[hs2];rfl)));obtain⟨vs,H1,I1,r1,q1⟩:=z2_;obtain⟨i,j,e,⟨q1,q2,q3,q4⟩,q⟩:=q1;subst e
 cases r1 with
 |cons r rr =>
  cases rr with
  |cons r' rr =>
   cases rr;obtain⟨t,rfl⟩:=r;obtain⟨t',rfl⟩:=r';exact call_range_2 (Vx I1 q1 q2 q3 q4 q)
def ABg(wi:TI)(g:TG)(tb:TS):TS:=λD σ H=>wi σ H λJ H1=>∃W:Nat->Nat->St->Hp->Prop,(∃m,W 0 m σ H1)/\∀i m σ H,W i m σ H ->
 (J.stop i H/\D.nx σ H)\/(J.go i H/\∃N:St->Hp->Prop,(∀σ' H',N σ' H'->∃m',m'<m/\W (i+1) m' σ' H')/\∀x H',J.yld i H x H'->g x σ H' λσ2 H2=>tb {D with nx:=N,ct:=N,bk:=D.nx} σ2 H2)
def LW(fp:List Addr)(h:Heap):List (Addr×Obj):=fp.filterMap λb=>(h.get? b).map λo=>(b,o)
theorem NW{fp:List Addr}{h:Heap}{b:Addr}{o:Obj}(hb:b∈fp)(e:h.get? b=some o):(b,o)∈LW fp h:=AKf.mpr ⟨b,hb,by rw[e];rfl⟩
theorem AEU{fp:List Addr}{h:Heap}{p:Addr×Obj}(hp:p∈LW fp h):p.1∈fp/\h.get? p.1=some p.2:=by
 obtain⟨b,hb,e⟩:=AKf.mp hp
 cases q:h.get? b with
 |none=>rw[q] at e;cases e
 |some o =>
  rw[q] at e;have e':(b,o)=p:=Option.some.inj e;subst e';exact⟨hb,q⟩
theorem AK.pinned{pins:List (Addr×Obj)}{σ:St}{H:Hp}{s:Shared}{fp:List Addr}(I:AK X pins σ H s)(hf:∀b∈fp,Hi X pins H b)(ho:∀b∈fp,∃o,s.heap.get? b=some o/\∀v,o.data≠.cell v):AK X (pins++LW fp s.heap) σ H s :=
 I.pins_of λp hp=>(DB.mp hp).elim (λz=>I.pin p (Hm _ z)) λz=>by
  obtain⟨hb,e⟩:=AEU z;obtain⟨f0,f1,f2,_⟩:=hf p.1 hb;obtain⟨o,e',d⟩:=ho p.1 hb;rw[e] at e';cases e';exact⟨e,f0,f1,f2,d⟩
theorem AK.unpinned{pins pl:List (Addr×Obj)}{σ:St}{H:Hp}{s:Shared}(I:AK X (pins++pl) σ H s):AK X pins σ H s:=I.pins_of λp hp=>I.pin p (Hm _ (AJy _ hp))
theorem AC6{iter:Expr}{body:List Stmt}{wi:TI}{g:TG}{tb:TS}{pos:Pos}(hp:PassesOwn (model X.prog X.w) X.A X.env X.xe)(hc:X.calm=true)(hi:PI X tg iter wi)(hg:PG X tg g)(hb:EG X body tb)
  (hs:∀x,foldedSetIterable iter X.env x=pure x:=by intro _;rfl):PS X (.For tg iter body [] pos) (ABg wi g tb):=by
 intro pins s σ H D I h;refine wpAny_For (Ah (hi pins s σ H _ I h) λv s1 h1=>Ah h1 λitv s2 h2=>?_) hs;obtain⟨it,fp,tn,J,H2,e,I2,T,st2,f2,W,⟨m0,w0⟩,turn⟩:=h2;subst e
 -- what stays true of the iterator's objects through the loop
 have stat:∀{H':Hp},(∀b∈fp,H' b=none)->∀b∈fp,Hi X pins H' b:=λhn b hb=>⟨hn b hb,(f2 b hb).2⟩;refine codeAny_forLoop_any (λn s'=>∃i σ' H',AK X pins σ' H' s'/\tn i s'.heap/\(∀b∈fp,H' b=none)/\W i n σ' H') ?_ m0 ⟨0,σ,H2,I2,st2,λb hb=>(f2 b hb).1,w0⟩;rintro n s3 ⟨i,σ3,H3,I3,st3,fr3,w3⟩;rcases turn i n σ3 H3 w3 with⟨stop,qn⟩|⟨go,N,hN,step⟩
 .refine ALA hp (Ah (T.done X rfl rfl rfl hc i pins s3 σ3 H3 X.xe I3 (stat fr3) st3 stop) λr s4 z2_=>?_);obtain⟨hr,I4⟩:=z2_;subst hr;exact wpAny_execs_nil ⟨σ3,H3,I4,qn⟩
 .refine ALA hp (Ah (T.item X rfl rfl rfl hc i pins s3 σ3 H3 X.xe I3 (stat fr3) st3 go) λr s4 z2_=>?_);obtain⟨u,hr,h4⟩:=z2_;subst hr;refine ALA hp (Ah h4 λ_ s5 z2_=>?_);obtain⟨x,H5,I5,r5,y5,st5,fr5⟩:=z2_;have I5':=I5.pinned (stat fr5) (T.obj _ _ st5);refine ALA hp (Ah (hg _ s5 σ3 H5 x u _ I5' r5 (step x H5 y5)) λ_ s6 z2_=>?_);obtain⟨σ6,H6,I6,q6⟩:=z2_;refine ALA hp (Ah (hb _ s6 σ6 H6 _ I6 q6) λf s7 q7=>?_)
  have again:∀{σ7:St} {H7:Hp},AK X (pins++LW fp s5.heap) σ7 H7 s7->N σ7 H7->∃m,m<n/\∃i σ' H',AK X pins σ' H' s7/\tn i s7.heap/\(∀b∈fp,H' b=none)/\W i m σ' H':=λ{σ7 H7} I7 n7=>by
   obtain⟨m',hm,w7⟩:=hN σ7 H7 n7;refine⟨m',hm,i+1,σ7,H7,I7.unpinned,T.keep _ _ _ st5 λb hb o e=>(I7.pin (b,o) (Hm _ (Hm _ (NW hb e)))).1,λb hb=>?_,w7⟩;obtain⟨o,e,d⟩:=T.obj _ _ st5 b hb;exact(I7.pin (b,o) (Hm _ (Hm _ (NW hb e)))).2.1
  cases f with
  |next=>obtain⟨σ7,H7,I7,n7⟩:=q7;exact again I7 n7
  |cont=>obtain⟨σ7,H7,I7,n7⟩:=q7;exact again I7 n7
  |brk=>obtain⟨σ7,H7,I7,q7⟩:=q7;exact⟨σ7,H7,I7.unpinned,q7⟩
  |ret v=>obtain⟨x7,σ7,H7,I7,r7,q7⟩:=q7;exact⟨x7,σ7,H7,I7.unpinned,r7,q7⟩
end
abbrev R2:=V->V->Hp->VK->Prop
def Av(X:Cx)(f:Value->Value->Sem Value)(r:R2):Prop :=
 ∀(pins:List (Addr×Obj)) (s:Shared) (σ:St) (H:Hp) (x y:V) (v u:Value) (Q:VK),AK X pins σ H s->Ai x v->Ai y u->r x y H Q ->
  wpAny (model X.prog X.w) X.A (f v u) (EP X pins σ Q) X.xe s
def TR(X:Cx)(f:Value->Sem Value)(r:V->Hp->VK->Prop):Prop :=
 ∀(pins:List (Addr×Obj)) (s:Shared) (σ:St) (H:Hp) (x:V) (v:Value) (Q:VK),AK X pins σ H s->Ai x v->r x H Q ->
  wpAny (model X.prog X.w) X.A (f v) (EP X pins σ Q) X.xe s
def Cz(X:Cx)(f:Value)(r:List V->Hp->VK->Prop):Prop :=
 ∀(pins:List (Addr×Obj)) (s:Shared) (σ:St) (H:Hp) (xs:List V) (us:List Value) (Q:VK),AK X pins σ H s->Ak xs us->r xs H Q ->
  wpAny (model X.prog X.w) X.A (call f us) (EP X pins σ Q) X.xe s
def LN(r:R2)(ta tb:TE):TE:=λσ H Q=>ta σ H λx H1=>tb σ H1 λy H2=>r x y H2 Q
def tUn(r:V->Hp->VK->Prop)(ta:TE):TE:=λσ H Q=>ta σ H λx H1=>r x H1 Q
def rI(C:Int->Int->Prop)(g:Int->Int->V):R2:=λx y H Q=>∃i j,x=.int i/\y=.int j/\C i j/\Q (g i j) H
def IM(g:Int->Int->V):R2:=λx y H Q=>∃i j,x=.int i/\y=.int j/\Q (g i j) H
def rU(g:Int->V):V->Hp->VK->Prop:=λx H Q=>∃i,x=.int i/\Q (g i) H
section
variable {X:Cx}{a b c:Expr}{ta tb tc:TE}{pos:Pos}
theorem Sz(ha:PE X a ta)(hb:PE X b tb){pins:List (Addr×Obj)}{s:Shared}{σ:St}{H:Hp}{R:V->V->Hp->Prop}(I:AK X pins σ H s)
  (h:ta σ H λx H1=>tb σ H1 λy H2=>R x y H2) {Q:ALL} {f:Value->Value->Sem Value}
  (hf:∀v u s2 x y H2,AK X pins σ H2 s2->Ai x v->Ai y u->R x y H2->wpAny (model X.prog X.w) X.A (f v u) Q X.xe s2) :
  wpAny (model X.prog X.w) X.A (eval a X.env) (λv s₁=>wpAny (model X.prog X.w) X.A (eval b X.env) (λu s₂=>wpAny (model X.prog X.w) X.A (f v u) Q X.xe s₂) X.xe s₁) X.xe s:=by
 refine Ah (ha pins s σ H _ I h) λv s1 z2_=>?_;obtain⟨x,H1,I1,r1,q1⟩:=z2_;refine Ah (hb pins s1 σ H1 _ I1 q1) λu s2 z2_=>?_;obtain⟨y,H2,I2,r2,q2⟩:=z2_;exact hf v u s2 x y H2 I2 r1 r2 q2
theorem ADh{op:Operator}{r:R2}(ho:Av X (binaryOp op) r)(ha:PE X a ta)(hb:PE X b tb):PE X (.BinOp a op b pos) (LN r ta tb):=by intro pins s σ H Q I h;exact wpAny_BinOp (Sz ha hb I h λv u s2 x y H2 I2 rx ry q=>ho pins s2 σ H2 x y v u Q I2 rx ry q)
theorem ADc{op:UnaryOp}{r:V->Hp->VK->Prop}(ho:TR X (unaryOp op) r)(ha:PE X a ta):PE X (.UnaryOp op a pos) (tUn r ta):=by intro pins s σ H Q I h;exact UnaryOp_ (Ah (ha pins s σ H _ I h) λv s1 z2_=>(by obtain⟨x,H1,I1,r1,q1⟩:=z2_;exact ho pins s1 σ H1 x v Q I1 r1 q1))
theorem NQ{f:Value->Value->Sem Value}{C:Int->Int->Prop}{g:Int->Int->Int}
  (rule:∀(i j:Int) (t u:Tok) (s:Shared) (Q:ALL) (E:ALL),C i j->Q (.int (g i j) s.toks) {s with toks:=s.toks+1}->wpAny (model X.prog X.w) X.A (f (.int i t) (.int j u)) Q E s) :
  Av X f (rI C λi j=>.int (g i j)):=by
 intro pins s σ H x y v u Q I rx ry h;obtain⟨i,j,rfl,rfl,hc,q⟩:=h;obtain⟨t,rfl⟩:=rx;obtain⟨t',rfl⟩:=ry;exact rule i j t t' s _ _ hc ⟨.int (g i j),H,I.tok _,⟨_,rfl⟩,q⟩
theorem Wd{f:Value->Value->Sem Value}{g:Int->Int->Int}
  (rule:∀(i j:Int) (t u:Tok) (s:Shared) (Q:ALL) (E:ALL),Q (.int (g i j) s.toks) {s with toks:=s.toks+1}->wpAny (model X.prog X.w) X.A (f (.int i t) (.int j u)) Q E s) :
  Av X f (IM λi j=>.int (g i j)):=by
 intro pins s σ H x y v u Q I rx ry h;obtain⟨i,j,rfl,rfl,q⟩:=h;obtain⟨t,rfl⟩:=rx;obtain⟨t',rfl⟩:=ry;exact rule i j t t' s _ _ ⟨.int (g i j),H,I.tok _,⟨_,rfl⟩,q⟩
theorem NR{f:Value->Value->Sem Value}{g:Int->Int->Bool}
  (rule:∀(i j:Int) (t u:Tok) (s:Shared) (Q:ALL) (E:ALL),Q (.bool (g i j)) s->wpAny (model X.prog X.w) X.A (f (.int i t) (.int j u)) Q E s) :
  Av X f (IM λi j=>.bl (g i j)):=by
 intro pins s σ H x y v u Q I rx ry h;obtain⟨i,j,rfl,rfl,q⟩:=h;obtain⟨t,rfl⟩:=rx;obtain⟨t',rfl⟩:=ry;exact rule i j t t' s _ _ ⟨.bl (g i j),H,I,rfl,q⟩
def AHx(i j:Int):Prop:=0<=j/\j<=1000000/\i.natAbs<2 ^ 64
def Zl(i j:Int):Prop:=(-(2 ^ 64)<i/\i<2 ^ 64)\/(-(2 ^ 64)<j/\j<2 ^ 64)
theorem Zl.ok{i j:Int}(h:Zl i j):IntMulOk i j:=by
 rcases h with⟨h1,h2⟩|⟨h1,h2⟩
 .exact .of_left (intBits_le_64 h1 h2)
 .exact .of_right (intBits_le_64 h1 h2)
theorem AES:Av X (binaryOp .Add) (IM λi j=>.int (i+j)):=Wd λ_ _ _ _ _ _ _ q=>add_int q
theorem AEB:Av X (binaryOp .Sub) (IM λi j=>.int (i-j)):=Wd λ_ _ _ _ _ _ _ q=>sub_int q
theorem AEH:Av X (binaryOp .Mod) (rI (λ_ j=>0<j) λi j=>.int (i % j)):=NQ λi j _ _ _ _ _ hc q=>by
 have h1:(0:Int)<j:=hc;exact mod_int' (by omega) (by rw[Int.fmod_eq_emod_of_nonneg i (by omega)];exact q)
theorem AEC:Av X (binaryOp .Pow) (rI AHx λi j=>.int (i ^ j.toNat)):=NQ λ_ _ _ _ _ _ _ hc q=>pow_int_small hc.1 hc.2.1 hc.2.2 q
theorem unI{f:Value->Sem Value}{g:Int->Int}
  (rule:∀(i:Int) (t:Tok) (s:Shared) (Q:ALL) (E:ALL),Q (.int (g i) s.toks) {s with toks:=s.toks+1}->wpAny (model X.prog X.w) X.A (f (.int i t)) Q E s) :
  TR X f (rU λi=>.int (g i)):=by
 intro pins s σ H x v Q I rx h;obtain⟨i,rfl,q⟩:=h;obtain⟨t,rfl⟩:=rx;exact rule i t s _ _ ⟨.int (g i),H,I.tok _,⟨_,rfl⟩,q⟩
theorem AA8:TR X (unaryOp .USub) (rU λi=>.int (-i)):=unI λ_ _ _ _ _ q=>neg_int q
end
def RT:V->V->Bool
 |.non,.non=>true|.non,.int _=>true|.int _,.non=>true|.non,.bl _=>true|.bl _,.non=>true|.non,.str _=>true|.str _,.non=>true
 |.int _,.int _=>true|.bl _,.bl _=>true|.str _,.str _=>true|.byt _,.byt _=>true
 |.int _,.str _=>true|.str _,.int _=>true|.bl _,.str _=>true|.str _,.bl _=>true
 |_,_=>false
def rEq:R2:=λx y H Q=>RT x y=true/\Q (.bl (decide (x=y))) H
def rNe:R2:=λx y H Q=>RT x y=true/\Q (.bl (!decide (x=y))) H
theorem Yd{i j:Int}:decide (V.int i=V.int j)=(i == j):=by rw[AKJ];simp
theorem Yf{i j:Bool}:decide (V.bl i=V.bl j)=(i == j):=by rw[AKJ];simp
theorem Yc{i j:Str}:decide (V.str i=V.str j)=(i == j):=by rw[AKJ];simp
theorem Ye{i j:Array UInt8}:decide (V.byt i=V.byt j)=(i.toList == j.toList):=by rw[AKJ];cases i;cases j;simp
section
variable {X:Cx}{a b c:Expr}{ta tb tc:TE}{pos:Pos}
theorem Bf{pins:List (Addr×Obj)}{σ:St}{H:Hp}{s:Shared}{Q:VK}{k k':Bool}(I:AK X pins σ H s)(q:Q (.bl k) H)(e:k=k'):EP X pins σ Q (.bool k') s:=by subst e;exact⟨.bl k,H,I,rfl,q⟩
theorem Wc:Av X (compareOp .Eq) rEq:=by
 intro pins s σ H x y v u Q I rx ry h;obtain⟨hs,q⟩:=h
 cases x with
 |non =>
  cases rx
  cases y with
  |non=>cases ry;exact PySem.EqNone.eq_none_none (Bf I q (by simp))
  |bl j=>cases ry;exact PySem.EqNone.eq_none_bool (Bf I q (by simp))
  |int j=>obtain⟨t',rfl⟩:=ry;exact PySem.EqNone.eq_none_int (Bf I q (by simp))
  |str j=>obtain⟨t',rfl⟩:=ry;exact PySem.EqNone.eq_none_str (Bf I q (by simp))
  |_=>exact absurd (show false=true from hs) Ct
 |bl i =>
  cases rx
  cases y with
  |non=>cases ry;exact PySem.EqNone.eq_bool_none (Bf I q (by simp))
  |bl j=>cases ry;exact eq_bool (Bf I q Yf)
  |str j=>obtain⟨t',rfl⟩:=ry;exact PySem.EqMixed.eq_bool_str (Bf I q (by simp))
  |_=>exact absurd (show false=true from hs) Ct
 |int i =>
  obtain⟨t,rfl⟩:=rx
  cases y with
  |non=>cases ry;exact PySem.EqNone.eq_int_none (Bf I q (by simp))
  |int j=>obtain⟨t',rfl⟩:=ry;exact eq_int (Bf I q Yd)
  |str j=>obtain⟨t',rfl⟩:=ry;exact PySem.EqMixed.eq_int_str (Bf I q (by simp))
  |_=>exact absurd (show false=true from hs) Ct
 |str i =>
  obtain⟨t,rfl⟩:=rx
  cases y with
  |non=>cases ry;exact PySem.EqNone.eq_str_none (Bf I q (by simp))
  |bl j=>cases ry;exact PySem.EqMixed.eq_str_bool (Bf I q (by simp))
  |int j=>obtain⟨t',rfl⟩:=ry;exact PySem.EqMixed.eq_str_int (Bf I q (by simp))
  |str j=>obtain⟨t',rfl⟩:=ry;exact eq_str (Bf I q Yc)
  |_=>exact absurd (show false=true from hs) Ct
 |byt i =>
  obtain⟨t,rfl⟩:=rx
  cases y with
  |byt j=>obtain⟨t',rfl⟩:=ry;exact PySem.W.eq_bytes (Bf I q Ye)
  |_=>exact absurd (show false=true from hs) Ct
 |_=>cases y <;> exact absurd (show false=true from hs) Ct
theorem Wb:Av X (compareOp .NotEq) rNe:=by
 intro pins s σ H x y v u Q I rx ry h;obtain⟨hs,q⟩:=h
 cases x with
 |non =>
  cases rx
  cases y with
  |non=>cases ry;exact PySem.EqNone.ne_none_none (Bf I q (by simp))
  |bl j=>cases ry;exact PySem.EqNone.ne_none_bool (Bf I q (by simp))
  |int j=>obtain⟨t',rfl⟩:=ry;exact PySem.EqNone.ne_none_int (Bf I q (by simp))
  |str j=>obtain⟨t',rfl⟩:=ry;exact PySem.EqNone.ne_none_str (Bf I q (by simp))
  |_=>exact absurd (show false=true from hs) Ct
 |bl i =>
  cases rx
  cases y with
  |non=>cases ry;exact PySem.EqNone.ne_bool_none (Bf I q (by simp))
  |bl j=>cases ry;exact ne_bool (Bf I q (congrArg not Yf))
  |str j=>obtain⟨t',rfl⟩:=ry;exact PySem.EqMixed.ne_bool_str (Bf I q (by simp))
  |_=>exact absurd (show false=true from hs) Ct
 |int i =>
  obtain⟨t,rfl⟩:=rx
  cases y with
  |non=>cases ry;exact PySem.EqNone.ne_int_none (Bf I q (by simp))
  |int j=>obtain⟨t',rfl⟩:=ry;exact ne_int (Bf I q (congrArg not Yd))
  |str j=>obtain⟨t',rfl⟩:=ry;exact PySem.EqMixed.ne_int_str (Bf I q (by simp))
  |_=>exact absurd (show false=true from hs) Ct
 |str i =>
  obtain⟨t,rfl⟩:=rx
  cases y with
  |non=>cases ry;exact PySem.EqNone.ne_str_none (Bf I q (by simp))
  |bl j=>cases ry;exact PySem.EqMixed.ne_str_bool (Bf I q (by simp))
  |int j=>obtain⟨t',rfl⟩:=ry;exact PySem.EqMixed.ne_str_int (Bf I q (by simp))
  |str j=>obtain⟨t',rfl⟩:=ry;exact ne_str (Bf I q (congrArg not Yc))
  |_=>exact absurd (show false=true from hs) Ct
 |byt i =>
  obtain⟨t,rfl⟩:=rx
  cases y with
  |byt j=>obtain⟨t',rfl⟩:=ry;exact PySem.W.ne_bytes (Bf I q (congrArg not Ye))
  |_=>exact absurd (show false=true from hs) Ct
 |_=>cases y <;> exact absurd (show false=true from hs) Ct
theorem op_lt:Av X (compareOp .Lt) (IM λi j=>.bl (decide (i<j))):=NR λ_ _ _ _ _ _ _ q=>lt_int q
theorem AEI:Av X (compareOp .LtE) (IM λi j=>.bl (decide (i<=j))):=NR λ_ _ _ _ _ _ _ q=>le_int q
theorem AEM:Av X (compareOp .Gt) (IM λi j=>.bl (decide (j<i))):=NR λ_ _ _ _ _ _ _ q=>gt_int q
theorem AEN:Av X (compareOp .GtE) (IM λi j=>.bl (decide (j<=i))):=NR λ_ _ _ _ _ _ _ q=>ge_int q
theorem AEK:Av X (compareOp .In) (λx y H Q=>∃i j,x=.str i/\y=.str j/\Q (.bl (!(Builtin.Str.occurrences j i 0 j.length 1).isEmpty)) H):=by intro pins s σ H x y v u Q I rx ry h;obtain⟨i,j,rfl,rfl,q⟩:=h;obtain⟨t,rfl⟩:=rx;obtain⟨t',rfl⟩:=ry;exact in_str (Bf I q rfl)
theorem op_isN:Av X (compareOp .Is) (λx y H Q=>y=.non/\Q (.bl (decide (x=.non))) H):=by
 intro pins s σ H x y v u Q I rx ry h;obtain⟨rfl,q⟩:=h;cases ry;refine is_none_gen (Bf I q ?_)
 cases x <;> first
  |(cases rx;rfl)
  |(obtain⟨t,rfl⟩:=rx;rfl)
theorem AED:Av X (compareOp .IsNot) (λx y H Q=>y=.non/\Q (.bl (!decide (x=.non))) H):=by
 intro pins s σ H x y v u Q I rx ry h;obtain⟨rfl,q⟩:=h;cases ry;refine isnot_none_gen (Bf I q ?_)
 cases x <;> first
  |(cases rx;rfl)
  |(obtain⟨t,rfl⟩:=rx;rfl)
theorem op_notin_str:Av X (compareOp .NotIn) (λx y H Q=>∃i j,x=.str i/\y=.str j/\Q (.bl (!(!(Builtin.Str.occurrences j i 0 j.length 1).isEmpty))) H):=by intro pins s σ H x y v u Q I rx ry h;obtain⟨i,j,rfl,rfl,q⟩:=h;obtain⟨t,rfl⟩:=rx;obtain⟨t',rfl⟩:=ry;exact notIn_str (Bf I q rfl)
theorem Av.or{f:Value->Value->Sem Value}{r r':R2}(h:Av X f r)(h':Av X f r'):Av X f (λx y H Q=>r x y H Q\/r' x y H Q):=by
 intro pins s σ H x y v u Q I rx ry q;rcases q with q|q
 .exact h pins s σ H x y v u Q I rx ry q
 .exact h' pins s σ H x y v u Q I rx ry q
theorem ADs{op:CmpOp}{r:R2}(ho:Av X (compareOp op) r)(ha:PE X a ta)(hb:PE X b tb)(hm:behindInMarks op b=false):PE X (.Compare a [op] [b] pos) (LN r ta tb):=by intro pins s σ H Q I h;exact wpAny_Compare1 (Sz ha hb I h λv u s2 x y H2 I2 rx ry q=>ho pins s2 σ H2 x y v u Q I2 rx ry q) hm
def VH(t:TE):TT:=λσ H Q=>t σ H λx H'=>∃k,x=.bl k/\Q k H'
theorem ACw{op:CmpOp}{r:R2}(ho:Av X (compareOp op) r)(ha:PE X a ta)(hb:PE X b tb)(hm:behindInMarks op b=false):PT X (.Compare a [op] [b] pos) (VH (LN r ta tb)):=by
 intro pins s σ H Q I h
 refine wpAny_isTrue_Compare1 (Ah (ha pins s σ H _ I h) λv s1 ⟨x,H1,I1,r1,q1⟩=>Ah (hb pins s1 σ H1 _ I1 q1) λu s2 ⟨y,H2,I2,r2,q2⟩ =>
  Ah (ho pins s2 σ H2 x y v u _ I2 r1 r2 q2) λc s3 ⟨z,H3,I3,r3,k,e,q3⟩=>?_) hm
 subst e;cases r3;exact AK9 ⟨H3,I3,q3⟩
def VL(r r':R2)(ta tb tc:TE):TE:=λσ H Q=>ta σ H λx H1=>tb σ H1 λy H2=>r x y H2 λz H3=>∃k,z=.bl k /\
 (if k=true then tc σ H3 λw' H4=>r' y w' H4 Q else Q (.bl false) H3)
theorem ACx{op op':CmpOp}{r r':R2}(ho:Av X (compareOp op) r)(ho':Av X (compareOp op') r')(ha:PE X a ta)(hb:PE X b tb)(hc:PE X c tc)
  (hm:lastMarks [op,op'] [b,c]=false):PT X (.Compare a [op,op'] [b,c] pos) (VH (VL r r' ta tb tc)):=by
 intro pins s σ H Q I h
 refine isTrue_chain (Ah (ha pins s σ H _ I h) λv s1 ⟨x,H1,I1,r1,q1⟩=>test_link (Ah (hb pins s1 σ H1 _ I1 q1) λu s2 ⟨y,H2,I2,r2,q2⟩ =>
  Ah (ho pins s2 σ H2 x y v u _ I2 r1 r2 q2) λd s3 ⟨z,H3,I3,r3,k,e,q3⟩=>?_)) hm
 subst e;cases r3;refine AK9 ?_
 cases k with
 |false =>
  obtain⟨k',e',q'⟩:=q3;cases e';exact ite_ff ⟨H3,I3,q'⟩
 |true =>
  refine ite_tt (test_last (Ah (hc pins s3 σ H3 _ I3 q3) λw' s4 z2_=>?_));obtain⟨z',H4,I4,r4,q4⟩:=z2_;refine Ah (ho' pins s4 σ H4 y z' u w' _ I4 r2 r4 q4) λd' s5 z2_=>?_;obtain⟨z2,H5,I5,r5,k2,e2,q5⟩:=z2_;subst e2;cases r5;exact AK9 ⟨H5,I5,q5⟩
theorem KS:(sizeLine:Nat)<2 ^ 63:=by rw[sizeLine_eq];decide
theorem AER:Av X (binaryOp .Add) (λx y H Q=>∃i j,x=.str i/\y=.str j/\i.length+j.length<=sizeLine/\Q (.str (i++j)) H):=by intro pins s σ H x y v u Q I rx ry h;obtain⟨i,j,rfl,rfl,hz,q⟩:=h;obtain⟨t,rfl⟩:=rx;obtain⟨t',rfl⟩:=ry;exact add_str (λt' tk=>⟨.str (i++j),H,I.tok _,⟨_,rfl⟩,q⟩) hz
theorem En{x:V}{us:List Value}(r:Ak [x] us):∃u,us=[u]/\Ai x u:=by
 cases r with
 |cons r1 r2=>cases r2;exact⟨_,rfl,r1⟩
theorem Uv{x y:V}{us:List Value}(r:Ak [x,y] us):∃u w',us=[u,w']/\Ai x u/\Ai y w':=by
 cases r with
 |cons r1 r2 =>
  cases r2 with
  |cons r3 r4=>cases r4;exact⟨_,_,rfl,r1,r3⟩
theorem AHD:Cz X (.builtin "abs") (λxs H Q=>∃i,xs=[.int i]/\Q (.int (if i<0 then -i else i)) H):=by
 intro pins s σ H xs us Q I r h;obtain⟨i,rfl,q⟩:=h;obtain⟨u,rfl,t,rfl⟩:=En r
 exact call_abs_int λu tk=>⟨.int (if i<0 then -i else i),H,I.tok _,⟨_,rfl⟩,q⟩
theorem AG7(hc:X.calm=true):Cz X (.builtin "min") (λxs H Q=>∃i j,xs=[.int i,.int j]/\Q (.int (if j<i then j else i)) H):=by
 intro pins s σ H xs us Q I r h;obtain⟨i,j,rfl,q⟩:=h;obtain⟨u,w',rfl,⟨t,rfl⟩,⟨t',rfl⟩⟩:=Uv r;refine min_two_ints (I.ok.hd hc) λh' tk k=>⟨_,H,I.kept k,?_,q⟩
 by_cases hj:j<i
 .rw[if_pos hj,if_pos hj];exact⟨_,rfl⟩
 .rw[if_neg hj,if_neg hj];exact⟨_,rfl⟩
theorem AHB:Cz X (.type "int") (λxs H Q=>(∃i,xs=[.int i]/\Q (.int i) H)\/∃k,xs=[.bl k]/\Q (.int (if k then 1 else 0)) H):=by
 intro pins s σ H xs us Q I r h;rcases h with⟨i,rfl,q⟩|⟨k,rfl,q⟩
 .obtain⟨u,rfl,t,rfl⟩:=En r;exact call_int_int ⟨.int i,H,I,⟨_,rfl⟩,q⟩
 .obtain⟨u,rfl,r1⟩:=En r;cases r1
  exact call_int_bool ⟨.int (if k then 1 else 0),H,I.tok _,⟨_,rfl⟩,q⟩
end
structure Kz (h:Heap) (x dx C:Addr) (mA:ALK):Prop where
 obj:h.get? x=some (AJx C dx)
 ns:h.Ns1 dx mA
 ne:dx≠x
theorem AFJ{h:Heap}{dx:Addr}{mA:ALK}(n:h.Ns1 dx mA):∃od,h.get? dx=some od/\∀name,PySem.W.lookIn name od=some (mA name):=by
 obtain⟨o,es,ep,ho,hd,hk,_,hm⟩:=n;refine⟨o,ho,λname=>?_⟩;have e:=hm name;unfold nsFind findBy at e;rw[<-Array.find?_toList] at e;unfold PySem.W.lookIn;rw[hd];dsimp only;split
 .rename_i y q;rw[q] at e;exact congrArg some e
 .rename_i q;rw[q] at e
  have a:es.toList.any (·.refKey)=false:=by rw[List.any_eq_false];intro y hy;obtain⟨z,t,hkey⟩:=hk y (Array.mem_toList_iff.mp hy);simp[DictEntry.refKey,hkey]
  have a':¬es.toList.any (·.refKey)=true:=by rw[a];exact Ct
  rw[if_neg a'];exact congrArg some e
theorem Kz.look{h:Heap}{x dx C:Addr}{mA:ALK}(I:Kz h x dx C mA):∃od,PySem.W.InstAt h x (AJx C dx) C (some od)/\∀name,PySem.W.lookIn name od=some (mA name) :=
 let ⟨od,ho,hl⟩:=AFJ I.ns
 ⟨od,⟨I.obj,rfl,rfl,ho⟩,hl⟩
section
variable {prog:Program}{w:World}{A:Around}{E:ALL}{s:Shared}{K:AO}{x dx C f:Addr}{mA:ALK}{name:Str}{v:Value}
theorem AF3{expr:Bool}{Q:ALL}(X:K.In s.heap)(I:Kz s.heap x dx C mA)(hg:AKT K C name=true)(hh:AKU K C=true)
  (ha:Dy K (.ref C) name=some none) (hv:mA name=some v) (hv':PySem.W.handedIn v=true) (h:Q v {s with toks:=s.toks+1}) :
  wpAny (model prog w) A (getAttr (.ref x) name expr) Q E s:=by
 obtain⟨od,J,hl⟩:=I.look;exact PySem.W.get_value X J (PySem.W.plainGet_of hg).1 (PySem.W.findObj_own hh ha rfl (by rw[hl,hv])) hv' h
theorem ACC{ns:List Str}{Q:Unit->Shared->Prop}(X:K.In s.heap)(I:Kz s.heap x dx C mA)
  (hs:Dy K (.ref C) "__setattr__"=some (some (.builtin "object.__setattr__"))) (hp:AKg K C=true) (ht:PySem.W.takerIn K C name=some none) (hh:AKU K C=true)
  (hw:PySem.Within mA ns) (hsz:ns.length<=sizeLine)
  (h:∀h',Kz h' x dx C (λy=>if y=name then some v else mA y)->Heap.SameBut dx s.heap h'->Q () {s with heap:=h',toks:=s.toks+2}) :
  wpAny (model prog w) A (setAttr (.ref x) name v) Q E s:=by
 obtain⟨od,J,hl⟩:=I.look;refine PySem.W.set_plain X J hs (PySem.W.osa_open (s:={s with toks:=s.toks+1}) (r:=none) X J hp ht λb=>?_);obtain⟨cd,hc,hd'⟩:=PySem.W.any_some hh;have hx:s.heap.get? x=some ⟨.ref C,some dx,.plain,#[]⟩:=I.obj;refine AH (AU (AH (AH (wpAny_loadPart hx (AH (PySem.W.Looks.here (s:={s with toks:=s.toks+1}) (PySem.W.looks_clsIn X hc) ?_))))));rw[hd'];refine AU (a:=some dx) (AH (AU (AH ?_)));refine wpAny_nsSet1 (s:={s with toks:=s.toks+1}) I.ns λh' hn2 hs2=>?_;obtain⟨oD,esD,epD,hoD,hdD,hcD⟩:=hn2.count (PySem.Within.cons name v hw);refine AH (wpAny_lookBehind hoD (by rw[hdD];exact pastItsLine_dict (DA hcD (by rw[EX];omega))) ?_);exact AU (h _ ⟨(hs2.2 _ (Ne.symm I.ne)).trans I.obj,hn2,I.ne⟩ hs2)
theorem AE2{R:Result->Shared->Prop}{vs:List Value}{kw:List (Str×Value)}(X:K.In s.heap)(hm:AKh K C=true)
  (hi:Dy K (.ref C) "__init__"=some (some (.ref f))) (hf:PySem.W.typeIn K (.ref f)=some (.type "function"))
  (h:codeAny (model prog w) (A.under (.builtin "type.__call__" ⟨.ref C::vs,kw⟩)) (.call (.ref f) ⟨.ref (s.heap.objs.size+1)::vs,kw⟩) (PySem.W.InitBack (s.heap.objs.size+1) R)
   {s with heap:=(s.heap.push AJp).push (AJx C s.heap.objs.size)}) :
  codeAny (model prog w) A (.call (.ref C) ⟨vs,kw⟩) R s:=by
 obtain⟨hh,g,d,t,os⟩:=s;exact PySem.W.make_core (PySem.W.makes_of X hm) (PySem.W.looks_findIn X hi) (λself=>PySem.W.bind_fn X self hf) (.inl rfl) h
end
def DE(f:Str)(v:V):List (Str×V)->List (Str×V)
 |[]=>[(f,v)]
 |(g,x)::r=>if g=f then (g,v)::r else (g,x)::DE f v r
theorem XF(f g:Str)(v:V):∀fs:List (Str×V),(DE f v fs).lookup g=if g=f then some v else fs.lookup g
 |[]=>by
  show Gc g [(f,v)]=_
  by_cases h:g=f
  .have hb:(g == f)=true:=beq_iff_eq.mpr h;simp only[Gc,hb,if_pos h]
  .have hb:(g == f)=false:=beq_eq_false_iff_ne.mpr h;simp only[Gc,hb,if_neg h]
 |(k,x)::r=>by
  have ih:=XF f g v r
  rw[show DE f v ((k,x)::r)=(if k=f then (k,v)::r else (k,x)::DE f v r) from rfl]
  by_cases hk:k=f
  .rw[if_pos hk]
   by_cases h:g=k
   .have hb:(g == k)=true:=beq_iff_eq.mpr h;simp only[Gc,hb,if_pos (h.trans hk)]
   .have hb:(g == k)=false:=beq_eq_false_iff_ne.mpr h;simp only[Gc,hb,if_neg (λe:g=f=>h (e.trans hk.symm))]
  .rw[if_neg hk]
   by_cases h:g=k
   .have hb:(g == k)=true:=beq_iff_eq.mpr h;simp only[Gc,hb,if_neg (λe:g=f=>hk (h.symm.trans e))]
   .have hb:(g == k)=false:=beq_eq_false_iff_ne.mpr h;simp only[Gc,hb];exact ih
theorem SK(f:Str)(v:V):∀fs:List (Str×V),f∈(DE f v fs).map (·.1)/\∀g,g∈fs.map (·.1)->g∈(DE f v fs).map (·.1)
 |[]=>⟨by simp[DE],λg h=>by simp at h⟩
 |(k,x)::r=>by
  obtain⟨i1,i2⟩:=SK f v r
  rw[show DE f v ((k,x)::r)=(if k=f then (k,v)::r else (k,x)::DE f v r) from rfl]
  by_cases hk:k=f
  .rw[if_pos hk];subst hk;exact⟨by simp,λg h=>by simpa using h⟩
  .rw[if_neg hk];refine⟨?_,λg h=>?_⟩
   .rw[Am];exact BQ _ i1
   .rw[Am] at h ⊢;rcases Ae.mp h with e|e
    .exact Ae.mpr (.inl e)
    .exact BQ _ (i2 g e)
theorem XJ(f:Str)(v:V):∀fs:List (Str×V),(DE f v fs).length<=fs.length+1
 |[]=>by simp[DE]
 |(k,x)::r=>by
  have ih:=XJ f v r
  rw[show DE f v ((k,x)::r)=(if k=f then (k,v)::r else (k,x)::DE f v r) from rfl]
  by_cases hk:k=f
  .rw[if_pos hk,EX,EX];omega
  .rw[if_neg hk,EX,EX];omega
theorem GV.some_of{v:V}{o:Option Value}(r:GV (some v) o):∃u,o=some u/\Ai v u:=by
 cases o with
 |none=>exact(show False from r).elim
 |some u=>exact⟨u,rfl,r⟩
theorem AF0{v:V}{u:Value}(r:Ai v u):PySem.W.handedIn u=true:=by
 cases v with
 |non=>cases (show u=Value.none from r);rfl
 |bl b=>cases (show u=Value.bool b from r);rfl
 |int i=>obtain⟨t,e⟩:=(show ∃t,u=Value.int i t from r);cases e;rfl
 |str x=>obtain⟨t,e⟩:=(show ∃t,u=Value.str x t from r);cases e;rfl
 |byt b=>obtain⟨t,e⟩:=(show ∃t,u=Value.bytes b t from r);cases e;rfl
 |flt b=>obtain⟨t,e⟩:=(show ∃t,u=Value.float b t from r);cases e;rfl
 |ref a=>cases (show u=Value.ref a from r);rfl
 |ty n=>cases (show u=Value.type n from r);rfl
section
variable {P:Program}{w:World}{H H':Hp}{h h':Heap}{a C dx:Addr}{fs fs':List (Str×V)}
theorem SS(hok:DY P w H h)(e:H a=some (.ins C dx fs)):∃mA,Kz h a dx C mA/\(∀f,GV (fs.lookup f) (mA f))/\PySem.Within mA (fs.map (·.1))/\fs.length<=1000/\H dx=some (.own a):=by obtain⟨d,z,ne,ob,mA,n,r,q⟩:=(show Cc P w H h a (.ins C dx fs) from hok a _ e);exact⟨mA,⟨ob,n,ne⟩,r,q,z,d⟩
end
structure Cls (K:AO) (C:Addr):Prop where
 pg:AKT K C Str.empty=true
 hd:AKU K C=true
 po:AKg K C=true
 sa:Dy K (.ref C) "__setattr__"=some (some (.builtin "object.__setattr__"))
theorem Cls.get{K:AO}{C:Addr}(c:Cls K C)(f:Str):AKT K C f=true:=c.pg
def JP(K:AO)(C:Addr)(f:Str):Prop:=Dy K (.ref C) f=some none
theorem JP.taker{K:AO}{C:Addr}{f:Str}(n:JP K C f):PySem.W.takerIn K C f=some none:=by unfold PySem.W.takerIn;rw[show Dy K (.ref C) f=some none from n];rfl
structure AHl (K:AO) (C:Addr) (m:Str) (f:Addr):Prop where
 at_:Dy K (.ref C) m=some (some (.ref f))
 fn:PySem.W.isFn K (.ref f)=true
 kp:HB K (.ref f)=true
section
variable {X:Cx}{pins:List (Addr×Obj)}{σ:St}{H:Hp}{s:Shared}{a C dx:Addr}{fs:List (Str×V)}{f:Str}{v:V}{A:Around}{E:ALL}
theorem Xs{b:Bool}{Q:ALL}(I:AK X pins σ H s)(e:H a=some (.ins C dx fs))(c:Cls X.K C)(n:JP X.K C f)(l:fs.lookup f=some v)
  (h:∀u s',AK X pins σ H s'->Ai v u->Q u s'):wpAny (model X.prog X.w) A (getAttr (.ref a) f b) Q E s:=by
 obtain⟨mA,O,r,_,_,_⟩:=SS I.hok e;obtain⟨u,hu,ru⟩:=GV.some_of (v:=v) (o:=mA f) (by rw[<-l];exact r f);exact AF3 I.kIn O (c.get f) c.hd n hu (AF0 ru) (h u _ (I.tok _) ru)
theorem Vq{y:V}{u:Value}{Q:Unit->Shared->Prop}(I:AK X pins σ H s)(e:H a=some (.ins C dx fs))(c:Cls X.K C)(n:JP X.K C f)(hl:fs.length<1000)(ry:Ai y u)
  (h:∀s',AK X pins σ (upd H a (.ins C dx (DE f y fs))) s'->Q () s'):wpAny (model X.prog X.w) A (setAttr (.ref a) f u) Q E s:=by
 obtain⟨mA,O,r,wi,_,ho⟩:=SS I.hok e;have hz:(fs.map (·.1)).length<=sizeLine:=by rw[An,sizeLine_eq];omega
 refine ACC I.kIn O c.sa c.po n.taker c.hd wi hz λh' O' sb=>h _ ?_;have hd:∃o,h'.get? dx=some o:=let ⟨o,_,_,e',_⟩:=O'.ns;⟨o,e'⟩;refine I.write (x:=a) (e:=dx) (by rw[e];exact True.intro) (.inr ho) (λb q hb z=>(sb.2 b hb).trans z) hd ?_;refine⟨by rw[Bn O.ne];exact ho,?_,O.ne,O'.obj,_,O'.ns,λg=>?_,λg hg=>?_⟩
 .have:=XJ f y fs;omega
 .show GV ((DE f y fs).lookup g) (if g=f then some u else mA g)
  rw[XF]
  by_cases q:g=f
  .rw[if_pos q,if_pos q];exact ry
  .rw[if_neg q,if_neg q];exact r g
 .by_cases q:g=f
  .rw[q];exact(SK f y fs).1
  .refine(SK f y fs).2 g (wi g λz=>hg ?_)
   show(if g=f then some u else mA g)=none
   rw[if_neg q];exact z
theorem AK.made(I:AK X pins σ H s):AK X pins σ (upd (upd H s.heap.objs.size (.own (s.heap.objs.size+1))) (s.heap.objs.size+1) (.ins C s.heap.objs.size []))
  {s with heap:=(s.heap.push AJp).push (AJx C s.heap.objs.size)}:=by
 have e1:(s.heap.push AJp).get? s.heap.objs.size=some AJp:=Heap.get?_push_size s.heap rfl
 have e2:((s.heap.push AJp).push (AJx C s.heap.objs.size)).get? (s.heap.objs.size+1)=some (AJx C s.heap.objs.size):=by
  have:=Heap.get?_push_size (s.heap.push AJp) (o:=AJx C s.heap.objs.size) rfl
  rwa [Heap.size_push] at this
 have e3:(s.heap.push AJp).Ns s.heap.objs.size (λ_=>none):=⟨AJp,#[],_,e1,rfl,(λe he=>absurd he (by simp)),λ_=>rfl⟩;have I1:=I.laid (a:=s.heap.objs.size) (o:=.own (s.heap.objs.size+1)) (h':=s.heap.push AJp) (t':=s.toks) (λb u q=>Heap.get?_push_of_some _ q) (Al _) ⟨_,e1⟩;refine I1.laid (a:=s.heap.objs.size+1) (o:=.ins C s.heap.objs.size []) (t':=s.toks) (λb u q=>Heap.get?_push_of_some _ q) (AJz (Heap.size_push _ _)) ?_;have ne:s.heap.objs.size≠s.heap.objs.size+1:=Bu (Nat.lt_succ_self _);refine⟨by rw[Bn ne,Ce],FE _,ne,e2,λ_=>none,(Heap.Ns1.of_empty e3).at λo q=>Heap.get?_push_of_some _ q,λ_=>True.intro,λy hy=>absurd rfl hy⟩
theorem AHP{prog:Program}{w:World}{env:Env}{e:Expr}{f:Str}{pos:Pos}{s:Shared}{Q:ALL}(hb:attributeBase e f env (eval e env)=eval e env)
  (h:wpAny (model prog w) A (eval e env) (λo s₁=>wpAny (model prog w) A (getAttr o f true) Q E s₁) E s):wpAny (model prog w) A (eval (.Attribute e f pos) env) Q E s :=
 Attribute_any_ h (by rw[arm_eval_Attribute,hb])
end
def ABh(K:AO)(ta:TE)(f:Str):TE:=λσ H Q=>ta σ H λx H1=>∃a C dx fs v,x=.ref a/\H1 a=some (.ins C dx fs)/\Cls K C/\JP K C f/\fs.lookup f=some v/\Q v H1
def ACO(K:AO)(ta tv:TE)(f:Str):TS:=λD σ H=>tv σ H λy H1=>ta σ H1 λx H2=>∃a C dx fs,x=.ref a/\H2 a=some (.ins C dx fs)/\Cls K C/\JP K C f/\fs.length<1000 /\
 D.nx σ (upd H2 a (.ins C dx (DE f y fs)))
def OR(X:Cx)(op:Operator)(rd:V->V->Hp->VK->Prop):Prop :=
 ∀(pins:List (Addr×Obj)) (s:Shared) (σ:St) (H:Hp) (x y:V) (u v:Value) (Q:VK),AK X pins σ H s->Ai x u->Ai y v->rd x y H Q->wpAny (model X.prog X.w) X.A (inplaceOp op u v) (EP X pins σ Q) X.xe s
def ACN(K:AO)(ta tv:TE)(rd:V->V->Hp->VK->Prop)(f:Str):TS:=λD σ H=>ta σ H λx H1=>∃a C dx fs v,x=.ref a/\H1 a=some (.ins C dx fs)/\Cls K C/\JP K C f/\fs.lookup f=some v /\
 tv σ H1 λy H2=>rd v y H2 λz H3=>∃dx' fs',H3 a=some (.ins C dx' fs')/\fs'.length<1000/\D.nx σ (upd H3 a (.ins C dx' (DE f z fs')))
section
variable {X:Cx}{o e value:Expr}{f:Str}{pos pos' tpos:Pos}{ta tv:TE}
theorem ADr(he:PE X e ta)(hb:attributeBase e f X.env (eval e X.env)=eval e X.env):PE X (.Attribute e f pos) (ABh X.K ta f):=by intro pins s σ H Q I h;refine AHP hb (Ah (he pins s σ H _ I h) λu s1 z2_=>?_);obtain⟨x,H1,I1,rx,a,C,dx,fs,v,ex,ea,c,n,l,q⟩:=z2_;subst ex;obtain rfl:u=Value.ref a:=rx;exact Xs I1 ea c n l λu' s2 I2 ru=>⟨v,H1,I2,ru,q⟩
theorem AC8(ha:PE X o ta)(hv:PE X value tv)(hs:swapsWith value (some (.Attribute o f pos')) pos.line X.env=pure false):PS X (.Assign [.Attribute o f pos'] value pos) (ACO X.K ta tv f):=by intro pins s σ H D I h;refine plainObj_wpAny_Assign_Attribute (Ah (hv pins s σ H _ I h) λu s1 z2_=>?_) hs;obtain⟨y,H1,I1,ry,q⟩:=z2_;refine Ah (ha pins s1 σ H1 _ I1 q) λov s2 z2_=>?_;obtain⟨x,H2,I2,rx,a,C,dx,fs,ex,ea,c,n,l,q2⟩:=z2_;subst ex;obtain rfl:ov=Value.ref a:=rx;exact Vq I2 ea c n l ry λs3 I3=>⟨σ,_,I3,q2⟩
theorem AC7{op:Operator}{rd:V->V->Hp->VK->Prop}(ha:PE X o ta)(hv:PE X value tv)(hop:OR X op rd):PS X (.AugAssign (.Attribute o f tpos) op value pos) (ACN X.K ta tv rd f):=by intro pins s σ H D I h;refine wpAny_AugAssign_AttributeAny (Ah (ha pins s σ H _ I h) λov s1 z2_=>?_);obtain⟨x,H1,I1,rx,a,C,dx,fs,v,ex,ea,c,n,l,q⟩:=z2_;subst ex;obtain rfl:ov=Value.ref a:=rx;refine Xs I1 ea c n l λu s2 I2 ru=>Ah (hv pins s2 σ H1 _ I2 q) λw3 s3 z2_=>?_;obtain⟨y,H2,I3,ry,q3⟩:=z2_;refine Ah (hop pins s3 σ H2 v y u w3 _ I3 ru ry q3) λw4 s4 z2_=>?_;obtain⟨z,H3,I4,rz,dx',fs',ea',l',q4⟩:=z2_;exact Vq I4 ea' c n l' rz λs5 I5=>⟨σ,_,I5,q4⟩
def ACh:V->V->Hp->VK->Prop:=λx y H Q=>∃i j,x=.int i/\y=.int j/\Q (.int (i+j)) H
theorem AFq:OR X .Add ACh:=by rintro pins s σ H x y u v Q I rx ry ⟨i,j,rfl,rfl,q⟩;obtain⟨t,rfl⟩:=(show ∃t,u=Value.int i t from rx);obtain⟨t',rfl⟩:=(show ∃t',v=Value.int j t' from ry);exact PyProof.Rows.iadd_int ⟨.int (i+j),H,I.tok _,⟨_,rfl⟩,q⟩
end
section
variable {X:Cx}{pins:List (Addr×Obj)}{σ:St}{H:Hp}{s:Shared}{A:Around}{E:ALL}{Q:ALL}{c:Value}{b:Bool}
inductive TyOf (K:AO) (H:Hp):V->Value->Prop where
 |non:TyOf K H .non (.type "NoneType")
 |bl (x:Bool):TyOf K H (.bl x) (.type "bool")
 |int (i:Int):TyOf K H (.int i) (.type "int")
 |str (x:Str):TyOf K H (.str x) (.type "str")
 |flt (x:UInt64):TyOf K H (.flt x) (.type "float")
 |lst {a:Addr} {xs:List V} (e:H a=some (.lst xs)):TyOf K H (.ref a) (.type "list")
 |frz {a:Addr} {o:Obj} {xs:List V} (e:H a=some (.frz o (.lst xs))):TyOf K H (.ref a) (.type "list")
 |tup {a:Addr} {xs:List V} (e:H a=some (.tup xs)):TyOf K H (.ref a) (.type "tuple")
 |dK {a:Addr} {kvs:List (Key×V)} (e:H a=some (.dK kvs)):TyOf K H (.ref a) (.type "dict")
 |dT {a:Addr} {kvs:List (List Key×V)} (e:H a=some (.dT kvs)):TyOf K H (.ref a) (.type "dict")
 |ins {a C dx:Addr} {fs:List (Str×V)} (e:H a=some (.ins C dx fs)) (cl:Cls K C) (ha:Dy K (.ref C) "__class__"=some (some (.builtin "object.__class__")))
   (hn:PySem.W.specialIn K (.builtin "object.__class__") "__get__"=some (some (.builtin "getset_descriptor.__get__"))) (htk:PySem.W.takesIn K (.builtin "object.__class__")=some true)
   (hm:PySem.W.mroIn K C (.type "object")=some true):TyOf K H (.ref a) (.ref C)
theorem KZ{x:V}{u t:Value}(I:AK X pins σ H s)(rx:Ai x u)(ty:TyOf X.K H x t)(e:PySem.W.kitOne X.K t c=some b)(h:∀tk,Q (.bool b) {s with toks:=tk}) :
  wpAny (model X.prog X.w) A (call (.builtin "isinstance") [u,c]) Q E s:=by
 cases ty with
 |non=>cases (show u=Value.none from rx);exact HA PySem.W.kitx_none I.kIn True.intro e (λz=>nomatch z) h
 |bl y=>cases (show u=Value.bool y from rx);exact HA PySem.W.kitx_bool I.kIn True.intro e (λz=>nomatch z) h
 |int i=>obtain⟨t,q⟩:=(show ∃t,u=Value.int i t from rx);cases q;exact HA PySem.W.kitx_int I.kIn True.intro e (λz=>nomatch z) h
 |str y=>obtain⟨t,q⟩:=(show ∃t,u=Value.str y t from rx);cases q;exact HA PySem.W.kitx_str I.kIn True.intro e (λz=>nomatch z) h
 |flt y=>obtain⟨t,q⟩:=(show ∃t,u=Value.float y t from rx);cases q;exact HA PySem.W.kitx_float I.kIn True.intro e (λz=>nomatch z) h
 |@lst a xs ea =>
  cases (show u=Value.ref a from rx);obtain⟨_,_,n,_,h1⟩:=(show Cc X.prog X.w H s.heap a (.lst xs) from I.hok a _ ea);exact HA PySem.W.kitx_list I.kIn ⟨_,h1,rfl⟩ e (λz=>nomatch z) h
 |@frz a ob xs ea =>
  cases (show u=Value.ref a from rx);obtain⟨_,_,_,n,_,h1⟩:=(show Cc X.prog X.w H s.heap a (.frz ob (.lst xs)) from I.hok a _ ea);exact HA PySem.W.kitx_list I.kIn ⟨_,h1,rfl⟩ e (λz=>nomatch z) h
 |@tup a xs ea =>
  cases (show u=Value.ref a from rx);obtain⟨_,_,_,p⟩:=(show Cc X.prog X.w H s.heap a (.tup xs) from I.hok a _ ea);obtain⟨o,h1,h2,_⟩:=p;exact HA PySem.W.kitx_tuple I.kIn ⟨o,h1,h2⟩ e (λz=>nomatch z) h
 |@dK a kvs ea =>
  cases (show u=Value.ref a from rx);obtain⟨_,_,vs,_,p⟩:=(show Cc X.prog X.w H s.heap a (.dK kvs) from I.hok a _ ea);obtain⟨o,es,ep,h1,h2,_⟩:=p;exact HA PySem.W.kitx_dict I.kIn ⟨o,h1,h2.1⟩ e (λz=>nomatch z) h
 |@dT a kvs ea =>
  cases (show u=Value.ref a from rx);obtain⟨_,_,xs,_,o,es,ep,h1,h2,_⟩:=(show Cc X.prog X.w H s.heap a (.dT kvs) from I.hok a _ ea);exact HA PySem.W.kitx_dict I.kIn ⟨o,h1,h2.1⟩ e (λz=>nomatch z) h
 |@ins a C dx fs ea cl ha hn htk hm =>
  cases (show u=Value.ref a from rx);obtain⟨mA,O,_⟩:=SS I.hok ea;obtain⟨od,J,_⟩:=O.look;exact HA (PySem.W.kitx_own (cl.get _) cl.hd ha hn htk hm) I.kIn J e (λz=>nomatch z) h
end
structure CO (k:Nat) (A:Around):Prop where
 hd:A.handled=none
 dp:A.depth+3*k+5<recursionLimit
 un:A.units+16*k+200<cLine
theorem CO.mono{j k:Nat}{A:Around}(r:CO k A)(h:j<=k):CO j A:=⟨r.hd,by have:=r.dp;omega,by have:=r.un;omega⟩
theorem CO.deeper{k:Nat}{A:Around}(r:CO (k+1) A)(env:Env):CO k (A.deeper env) :=
 ⟨r.hd,by have:=r.dp;show A.depth+1+3*k+5<_;omega,by have:=r.un;show A.units+3+16*k+200<_;omega⟩
theorem CO.in1{k:Nat}{A:Around}(r:CO (k+1) A):CO k A.in1 :=
 ⟨r.hd,by have:=r.dp;show A.depth+3*k+5<_;omega,by have:=r.un;show A.units+1+16*k+200<_;omega⟩
theorem AE4{A:Around}{C:Addr}{us:List Value}{kw:List (Str×Value)}:(A.under (.builtin "type.__call__" ⟨.ref C::us,kw⟩)).depth=A.depth+1:=by first|rfl|simp[Around.under,Code.weight,Code.isCreation,Code.isGuard,Code.isCaller,Code.frames,Code.isFrame,guardIds]
theorem AE1{A:Around}{C:Addr}{us:List Value}{kw:List (Str×Value)}:(A.under (.builtin "type.__call__" ⟨.ref C::us,kw⟩)).units=A.units+1:=by first|rfl|simp[Around.under,Code.cUnits,Code.frames,Code.isFrame]
theorem CO.make{k:Nat}{A:Around}(r:CO (k+1) A)(C:Addr)(us:List Value)(kw:List (Str×Value)):CO k (A.under (.builtin "type.__call__" ⟨.ref C::us,kw⟩)) :=
 ⟨r.hd,by have:=r.dp;rw[AE4];omega,by have:=r.un;rw[AE1];omega⟩
theorem CO.depth{k:Nat}{A:Around}(r:CO k A):A.depth<recursionLimit:=by have:=r.dp;omega
theorem CO.units{k:Nat}{A:Around}(r:CO k A):A.units+64<cLine:=by have:=r.un;omega
def VI:TA:=λ_ H Q=>Q [] H
def ABj(ta:TE)(tr:TA):TA:=λσ H Q=>ta σ H λx H1=>tr σ H1 λxs H2=>Q (x::xs) H2
section
variable {X:Cx}{e:Expr}{es:List Expr}{te:TE}{t:TA}{pos:Pos}
theorem AD9:PA X [] VI:=λ_ _ _ _ H Q I h=>Calls.spliced_nil ⟨[],H,I,.nil,h⟩
theorem AEA(ha:PE X e te)(hr:PA X es t)(hs:starEach (e::es) X.env=(false,eval e X.env)::starEach es X.env):PA X (e::es) (ABj te t):=by intro pos pins s σ H Q I h;rw[hs];show wpAny _ _ (spliced ((false,eval e X.env)::backTo pos (starEach es X.env))) _ _ s;refine Calls.spliced_cons (Ah (ha pins s σ H _ I h) λu s1 z2_=>?_);obtain⟨x,H1,I1,r1,q1⟩:=z2_;exact Ah (hr pos pins s1 σ H1 _ I1 q1) λus s2 z2_=>by obtain⟨xs,H2,I2,r2,q2⟩:=z2_;exact⟨x::xs,H2,I2,.cons r1 r2,q2⟩
def ABR(t:TA):TE:=λσ H Q=>t σ H λxs H1=>xs.length<=sizeLine/\∀p,H1 p=none->Q (.ref p) (upd H1 p (.tup xs))
def ABd(t:TA):TE:=λσ H Q=>t σ H λxs H1=>xs.length<=sizeLine/\∀p,H1 p=none->Q (.ref p) (upd H1 p (.lst xs))
theorem ADd{x1}(h:PA X es t):PE X (.Tuple es x1 pos) (ABR t):=by intro pins s σ H Q I hq;refine wpAny_Tuple_spliced (Ah (h pos pins s σ H _ I hq) λus s1 z2_=>?_);obtain⟨xs,H1,I1,r,z,q⟩:=z2_;refine⟨by rw[<-r.length];exact z,?_⟩;have hf:H1 s1.heap.objs.size=none:=I1.hok.fresh (Al _);refine⟨.ref s1.heap.objs.size,upd H1 s1.heap.objs.size (.tup xs),I1.laid (t':=s1.toks) (λb u e=>Heap.get?_push_of_some _ e) (Al _) ?_,rfl,q _ hf⟩;exact⟨z,us,r,⟨_,Heap.get?_push_size _ rfl,rfl,_,rfl⟩⟩
theorem ADm(h:PA X es t):PE X (.List es pos) (ABd t):=by intro pins s σ H Q I hq;refine wpAny_List_spliced (Ah (h pos pins s σ H _ I hq) λus s1 z2_=>?_);obtain⟨xs,H1,I1,r,z,q⟩:=z2_;refine⟨by rw[<-r.length];exact z,?_⟩;have hf:H1 s1.heap.objs.size=none:=I1.hok.fresh (Al _);refine⟨.ref s1.heap.objs.size,upd H1 s1.heap.objs.size (.lst xs),I1.laid (t':=s1.toks) (λb u e=>Heap.get?_push_of_some _ e) (Al _) ?_,rfl,q _ hf⟩;exact⟨z,us,0,r,Heap.get?_push_size _ rfl⟩
end
abbrev Sp:=List V->Hp->VK->XK->Prop
abbrev Gy:=List Env->Hp->Shared->XK->ALL
structure IH (P:Program) (w:World) (K:AO) (mg:ALK) (base:Heap) (A:Around) (outer:List Env) (s:Shared) (H:Hp):Prop where
 frames:A.frames=some outer
 mod:OP K mg base
 bs:∀b o,base.get? b=some o->s.heap.get? b=some o/\H b=none
 bsz:base.objs.size<=s.heap.objs.size
 funs:s.heap.FunFrames base outer
 frf:∀b∈Fo outer,H b=none
 hok:DY P w H s.heap
 bare:AllBare s.gens
def CE(outer:List Env)(P:Program)(w:World)(H:Hp)(s:Shared)(Q:VK)(u:Value)(s':Shared):Prop :=
 ∃v H',s'.os=s.os/\AllBare s'.gens/\Un (Fo outer) [] H H' s.heap s'.heap/\DY P w H' s'.heap/\Ai v u/\Q v H'
def CR(CX:Gy)(outer:List Env)(P:Program)(w:World)(H:Hp)(s:Shared)(Q:VK)(E:XK)(r:Result)(s':Shared):Prop :=
 match r with
 |.ok (.ret u)=>CE outer P w H s Q u s'
 |.ok _=>False
 |.error e=>CX outer H s E e s'
structure Dx (P:Program) (w:World) (K:AO) (mg:ALK) (base:Heap) (CX:Gy) (k:Nat) (f:Addr) (fd:FuncData) (ps:List Str) (sp:Sp):Prop where
 len:∀vs H Q E,sp vs H Q E->vs.length=ps.length
 run:∀(A:Around) (outer:List Env) (s:Shared) (H:Hp) (args:Args) (us:List Value) (vs:List V) (Q:VK) (E:XK),CO k A->IH P w K mg base A outer s H->BindsTo s fd args (ps.zip us)->Ak vs us->sp vs H Q E ->
  codeAny (model P w) A (.call (.ref f) args) (CR CX outer P w H s Q E) s
theorem Dx.mono{P:Program}{w:World}{K:AO}{mg:ALK}{base:Heap}{CX:Gy}{j k:Nat}{f:Addr}{fd:FuncData}{ps:List Str}{sp:Sp}(F:Dx P w K mg base CX j f fd ps sp)(h:j<=k) :
  Dx P w K mg base CX k f fd ps sp:=⟨F.len,λA outer s H args us vs Q E hr=>F.run A outer s H args us vs Q E (hr.mono h)⟩
theorem Dx.imp{P:Program}{w:World}{K:AO}{mg:ALK}{base:Heap}{CX:Gy}{k:Nat}{f:Addr}{fd:FuncData}{ps:List Str}{sp sp':Sp}(F:Dx P w K mg base CX k f fd ps sp)
  (h:∀vs H Q E,sp' vs H Q E->sp vs H Q E):Dx P w K mg base CX k f fd ps sp' :=
 ⟨λvs H Q E q=>F.len vs H Q E (h _ _ _ _ q),λA outer s H args us vs Q E hr he hb hv hs=>F.run A outer s H args us vs Q E hr he hb hv (h _ _ _ _ hs)⟩
theorem IH.make{P:Program}{w:World}{K:AO}{mg:ALK}{base:Heap}{A:Around}{outer:List Env}{s:Shared}{H:Hp}(e:IH P w K mg base A outer s H)(C:Addr)(us:List Value)(kw:List (Str×Value)) :
  IH P w K mg base (A.under (.builtin "type.__call__" ⟨.ref C::us,kw⟩)) outer s H:=⟨by first|exact e.frames|(simpa[Around.under,Code.envs,Code.isFrame,pushEnvs] using e.frames),e.mod,e.bs,e.bsz,e.funs,e.frf,e.hok,e.bare⟩
theorem IH.in1{P:Program}{w:World}{K:AO}{mg:ALK}{base:Heap}{A:Around}{outer:List Env}{s:Shared}{H:Hp}(e:IH P w K mg base A outer s H) :
  IH P w K mg base A.in1 outer s H:=⟨e.frames,e.mod,e.bs,e.bsz,e.funs,e.frf,e.hok,e.bare⟩
section
variable {X:Cx}{pins:List (Addr×Obj)}{σ:St}{H:Hp}{s s':Shared}
theorem AK.env0(I:AK X pins σ H s):IH X.prog X.w X.K X.mg X.base X.A X.stack s H :=
 ⟨I.ok.frames,I.ok.mod,I.bs,DA I.ok.bsz I.sz,I.stack,I.stkFree,I.hok,I.bare⟩
theorem AK.after{Q:VK}{u:Value}(I:AK X pins σ H s)(h:CE X.stack X.prog X.w H s Q u s'):EP X pins σ Q u s':=by obtain⟨v,H',os,bare,un,hok,r,q⟩:=h;obtain⟨hh,g,d,t,os'⟩:=s';obtain rfl:os'=s.os:=os;exact⟨v,H',I.call (h':=hh) (g':=g) (d':=d) (t':=t) (ch:=[]) un hok bare (λb z=>absurd z (by simp)),r,q⟩
end
def VM(sp:Sp)(dvs:List V)(E:XK)(t:TA):TE:=λσ H Q=>t σ H λvs H1=>sp (vs++dvs) H1 Q E
def VJ(C:Addr)(sp:Sp)(dvs:List V)(E:XK)(t:TA):TE:=λσ H Q=>t σ H λvs H1=>∀x dx,H1 x=none->H1 dx=none->dx≠x ->
 sp (.ref x::(vs++dvs)) (upd (upd H1 dx (.own x)) x (.ins C dx [])) (λv H2=>v=.non/\Q (.ref x) H2) E
def Fg(K:AO)(fd:FuncData)(ps:List Str)(ds:List Value):Prop :=
 ∀(s:Shared) (us:List Value),K.In s.heap->(us++ds).length=ps.length->BindsTo s fd ⟨us,[]⟩ (ps.zip (us++ds))
theorem Fg.all{K:AO}{fd:FuncData}{ps:List Str}(h:∀us:List Value,us.length=ps.length->bindArgs fd ⟨us,[]⟩=pure (ps.zip us)):Fg K fd ps []:=λs us _ hl=>by
 rw[AKK] at hl ⊢;exact .of_eq (h us hl)
def Kw(CX:Gy)(X:Cx)(E:XK):Prop:=∀(pins:List (Addr×Obj)) (σ:St) (H:Hp) (s:Shared) (e:Value) (s':Shared),AK X pins σ H s->CX X.stack H s E e s'->X.xe e s'
section
variable {X:Cx}{CX:Gy}{k:Nat}{f C:Addr}{fd:FuncData}{ps:List Str}{sp:Sp}{dvs:List V}{ds:List Value}{E:XK}{x m:Str}{p pos apos:Pos}{e o:Expr}{es:List Expr}{ta:TE}{t:TA}
theorem Vs{pins:List (Addr×Obj)}{σ:St}{H:Hp}{s:Shared}{Q:VK}{us:List Value}{vs:List V}(F:Dx X.prog X.w X.K X.mg X.base CX k f fd ps sp)(hr:CO k X.A)(hb:Fg X.K fd ps ds)(hd:Ak dvs ds)(hx:Kw CX X E)
  (I:AK X pins σ H s) (r:Ak vs us) (h:sp (vs++dvs) H Q E):wpAny (model X.prog X.w) X.A (call (.ref f) us) (EP X pins σ Q) X.xe s:=by
 have r2:Ak (vs++dvs) (us++ds):=r.append hd;have hl:(us++ds).length=ps.length:=by rw[<-r2.length];exact F.len _ _ _ _ h
 refine wpAny_call (codeAny_mono (F.run X.A X.stack s H ⟨us,[]⟩ (us++ds) (vs++dvs) Q E hr I.env0 (hb s us I.kIn hl) r2 h) λr s' hq=>?_)
 cases r with
 |error e=>exact hx pins σ H s e s' I hq
 |ok fl =>
  cases fl with
  |ret u=>exact I.after hq
  |next=>exact False.elim hq
  |brk=>exact False.elim hq
  |cont=>exact False.elim hq
theorem ADw(F:Dx X.prog X.w X.K X.mg X.base CX k f fd ps sp)(hr:CO k X.A)(hg:Gl X x)(hm:X.mg x=some (.ref f))(hk:HB X.K (.ref f)=true)(hb:Fg X.K fd ps ds)(hd:Ak dvs ds)(hx:Kw CX X E)
  (ha:PA X (e::es) t) (hdb:(x == ("__debug__":Str))=false:=by decide) (he:starEach (e::es) X.env=(false,eval e X.env)::starEach es X.env:=by rfl) (hpl:(backTo pos (starEach es X.env)).any (·.1)=false:=by rfl) :
  PE X (.Call (.Name x p) (e::es) [] pos) (VM sp dvs E t):=by
 intro pins s σ H Q I h;refine ALB (Na I hg hm ?_ hdb);refine PySem.W.callWith_K (h₀:=X.base) I.ok.mod.kin hk (Ah (ha pos pins s σ H _ I h) λus s1 z2_=>?_) he hpl;obtain⟨vs,H1,I1,r,q⟩:=z2_;refine⟨I1.kIn,?_⟩;exact Vs F hr hb hd hx I1 r q
theorem ADv(F:Dx X.prog X.w X.K X.mg X.base CX k f fd ps sp)(hr:CO k X.A)(hg:Gl X x)(hm:X.mg x=some (.ref f))(hk:HB X.K (.ref f)=true)(hb:Fg X.K fd ps ds)(hd:Ak dvs ds)(hx:Kw CX X E)
  (hdb:(x == ("__debug__":Str))=false:=by decide):PE X (.Call (.Name x p) [] [] pos) (VM sp dvs E VI):=by
 intro pins s σ H Q I h;refine ALB (Na I hg hm ?_ hdb);exact PySem.W.callWith_K0 I.kIn hk (Vs (us:=[]) F hr hb hd hx I .nil h)
structure Mk (K:AO) (C f:Addr):Prop where
 makes:AKh K C=true
 init:Dy K (.ref C) "__init__"=some (some (.ref f))
 fn:PySem.W.isFn K (.ref f)=true
 kp:HB K (.ref C)=true
theorem ACP{pins:List (Addr×Obj)}{σ:St}{H:Hp}{s:Shared}{Q:VK}{us:List Value}{vs:List V}(M:Mk X.K C f)(F:Dx X.prog X.w X.K X.mg X.base CX k f fd ps sp)(hr:CO (k+1) X.A)(hb:Fg X.K fd ps ds)(hd:Ak dvs ds)
  (hx:Kw CX X E) (I:AK X pins σ H s) (r:Ak vs us)
  (h:∀x dx,H x=none->H dx=none->dx≠x->sp (.ref x::(vs++dvs)) (upd (upd H dx (.own x)) x (.ins C dx [])) (λv H2=>v=.non/\Q (.ref x) H2) E) :
  wpAny (model X.prog X.w) X.A (call (.ref C) us) (EP X pins σ Q) X.xe s:=by
 have hq:=h (s.heap.objs.size+1) s.heap.objs.size (I.hok.fresh (AKA _)) (I.hok.fresh (Al _)) (Bu (Nat.lt_succ_self _));have I2:=AK.made (C:=C) I;have r2:Ak (V.ref (s.heap.objs.size+1)::(vs++dvs)) (Value.ref (s.heap.objs.size+1)::(us++ds)):=.cons rfl (r.append hd)
 have hl:(Value.ref (s.heap.objs.size+1)::us++ds).length=ps.length:=by have e:=r2.length;rw[F.len _ _ _ _ hq] at e;exact e.symm
 refine wpAny_call (AE2 (f:=f) I.kIn M.makes M.init (beq_iff_eq.mp M.fn) (codeAny_mono (F.run _ X.stack _ _ ⟨Value.ref (s.heap.objs.size+1)::us,[]⟩ (Value.ref (s.heap.objs.size+1)::(us++ds)) _ _ E (hr.make C us [])
  (I2.env0.make C us []) (hb _ (Value.ref (s.heap.objs.size+1)::us) I2.kIn hl) r2 hq) λr s' hq'=>?_))
 cases r with
 |error e=>exact hx pins σ _ _ e s' I2 hq'
 |ok fl =>
  cases fl with
  |ret u =>
   obtain⟨v,H',I3,rv,ev,q3⟩:=I2.after hq';subst ev;exact⟨rv,⟨V.ref (s.heap.objs.size+1),H',I3,rfl,q3⟩⟩
  |next=>exact False.elim hq'
  |brk=>exact False.elim hq'
  |cont=>exact False.elim hq'
theorem ADl(M:Mk X.K C f)(F:Dx X.prog X.w X.K X.mg X.base CX k f fd ps sp)(hr:CO (k+1) X.A)(hg:Gl X x)(hm:X.mg x=some (.ref C))(hb:Fg X.K fd ps ds)(hd:Ak dvs ds)(hx:Kw CX X E)
  (ha:PA X (e::es) t) (hdb:(x == ("__debug__":Str))=false:=by decide) (he:starEach (e::es) X.env=(false,eval e X.env)::starEach es X.env:=by rfl) (hpl:(backTo pos (starEach es X.env)).any (·.1)=false:=by rfl) :
  PE X (.Call (.Name x p) (e::es) [] pos) (VJ C sp dvs E t):=by
 intro pins s σ H Q I h;refine ALB (Na I hg hm ?_ hdb);refine PySem.W.callWith_K (h₀:=X.base) I.ok.mod.kin M.kp (Ah (ha pos pins s σ H _ I h) λus s1 z2_=>?_) he hpl;obtain⟨vs,H1,I1,r,q⟩:=z2_;refine⟨I1.kIn,?_⟩;exact ACP M F hr hb hd hx I1 r q
end
structure BN (N P:List Str) (sc:Scope):Prop where
 kind:sc.kind=.function
 co:sc.isCoroutine=false
 gen:sc.isGenerator=false
 nd:N.Nodup
 pre:N.take P.length=P
 par:∀x∈P,sc.names.lookup x=some .local\/sc.names.lookup x=some .cell
 nofree:∀y∈sc.names,y.2≠.free
theorem ZE{kindOf:Str->Option NameKind}{x:Str}:∀{binds:List (Str×Value)} {m:ALK},(∀v,(x,v)∉binds)->bindL kindOf binds m x=m x
 |[],_,_=>rfl
 |(n,v)::r,m,h=>by
  unfold bindL;rw[ZE λw hw=>h w (BQ _ hw)];split
  .have:x≠n:=by rintro rfl;exact h v BW
   simp[this]
  .rfl
theorem ZG{kindOf:Str->Option NameKind}{x:Str}:∀{binds:List (Str×Value)} {m:ALK},(∀v,(x,v)∉binds)->bindC kindOf binds m x=m x
 |[],_,_=>rfl
 |(n,v)::r,m,h=>by
  unfold bindC;rw[ZG λw hw=>h w (BQ _ hw)];split
  .rfl
  .have:x≠n:=by rintro rfl;exact h v BW
   simp[this]
theorem ZF{kindOf:Str->Option NameKind}{x:Str}{v:Value}:∀{P:List Str} {vs:List Value} {i:Nat} {m:ALK},P.Nodup->P[i]?=some x->vs[i]?=some v->kindOf x=some .local ->
  bindL kindOf (P.zip vs) m x=some v
 |[],_,_,_,_,h,_,_=>by simp at h
 |_::_,[],_,_,_,_,h,_=>by simp at h
 |p::P,w::vs,0,m,nd,h1,h2,hk=>by
  simp at h1 h2;subst h1;subst h2;show bindL kindOf ((p,w)::P.zip vs) m p=_;unfold bindL;rw[ZE λv hv=>(Hk.mp nd).1 (List.of_mem_zip hv).1,if_pos hk];simp
 |p::P,w::vs,i+1,m,nd,h1,h2,hk=>by
  show bindL kindOf ((p,w)::P.zip vs) m x=_;unfold bindL;exact ZF (i:=i) (Hk.mp nd).2 (by simpa using h1) (by simpa using h2) hk
theorem ZH{kindOf:Str->Option NameKind}{x:Str}{v:Value}:∀{P:List Str} {vs:List Value} {i:Nat} {m:ALK},P.Nodup->P[i]?=some x->vs[i]?=some v->kindOf x≠some .local ->
  bindC kindOf (P.zip vs) m x=some v
 |[],_,_,_,_,h,_,_=>by simp at h
 |_::_,[],_,_,_,_,h,_=>by simp at h
 |p::P,w::vs,0,m,nd,h1,h2,hk=>by
  simp at h1 h2;subst h1;subst h2;show bindC kindOf ((p,w)::P.zip vs) m p=_;unfold bindC;rw[ZG λv hv=>(Hk.mp nd).1 (List.of_mem_zip hv).1,if_neg hk];simp
 |p::P,w::vs,i+1,m,nd,h1,h2,hk=>by
  show bindC kindOf ((p,w)::P.zip vs) m x=_;unfold bindC;exact ZH (i:=i) (Hk.mp nd).2 (by simpa using h1) (by simpa using h2) hk
def HK(N:List Str)(vs:List V):St:=vs.map some++AJm (N.length-vs.length) none
def IA(CX:Gy)(P:Program)(w:World)(K:AO)(mg:ALK)(base:Heap)(N:List Str)(qual:Str)(scope:Scope)(f:Addr)(cd:Value)(A:Around)(outer:List Env)(s:Shared)(H:Hp)(E:XK):Cx where
 prog:=P
 w:=w
 K:=K
 mg:=mg
 base:=base
 A:=A.deeper (envOfC qual scope s.heap.objs.size f cd)
 N:=N
 s₀:=s
 H₀:=H
 env:=envOfC qual scope s.heap.objs.size f cd
 outer:=outer
 stack:=envOfC qual scope s.heap.objs.size f cd::outer
 ex:=[]
 calm:=true
 fn:=λ_=>true
 pn:=[]
 xe:=λe s'=>wpAny (model P w) (A.deeper (envOfC qual scope s.heap.objs.size f cd)) (leaving (envOfC qual scope s.heap.objs.size f cd) e) (λ_ s''=>CX outer H s E e s'') (λe' s''=>CX outer H s E e' s'') s'
theorem Yq{sc:Scope}{n:Nat}{x:Str}(h:sc.names.lookup x=some .cell):∃c,(cellsFrom n sc.names []).lookup x=some c:=by have q:=PySem.W.cellsFrom_some sc.names n [] (.inl h);exact AKi.mp q
theorem AFo{CX:Gy}{P:Program}{w:World}{K:AO}{mg:ALK}{base:Heap}{N ps:List Str}{qual:Str}{scope:Scope}{f:Addr}{cd:Value}{A:Around}{outer:List Env}{s s1:Shared}{H:Hp}{E:XK}{us:List Value}{vs:List V}
  (S:BN N ps scope) (hd:A.handled=none) (e0:IH P w K mg base A outer s H) (hl:vs.length=ps.length) (r:Ak vs us)
  (x:InCallC s s.heap.objs.size (bindL (envOfC qual scope s.heap.objs.size f cd).kindOf (ps.zip us) λ_=>none) (cellsFrom (s.heap.objs.size+1) scope.names []) (bindC (envOfC qual scope s.heap.objs.size f cd).kindOf (ps.zip us) λ_=>none) s1) :
  AK (IA CX P w K mg base N qual scope f cd A outer s H E) [] (HK N vs) H s1:=by
 have hpl:ps.length<=N.length:=by have:=congrArg List.length S.pre;rw[HF] at this;omega
 obtain⟨h1,tk,rfl,hk⟩:=x.done;have noA:∀b:Addr,b∉(IA CX P w K mg base N qual scope f cd A outer s H E).ex:=λb z=>absurd (show b∈([]:List Addr) from z) (by simp)
 refine⟨⟨e0.mod,S.kind,rfl,rfl,Al _,λy z c h1 h2=>?_,λy hy=>?_,λy c _ h=>?_,λ_=>hd,Around.frames_deeper e0.frames,.inr ⟨rfl,rfl⟩,λb z=>absurd z (noA b),e0.bs,e0.bsz,λb _ _=>noA b,λb z=>absurd z (noA b),e0.funs,e0.frf⟩,
  rfl,e0.bare,Un.kept hk,⟨_,x.toInCall.ns,λi y v h1 h2 h3=>?_⟩,λy c h=>⟨_,x.cell y c h⟩,e0.hok.fresh (Al _),λy c h=>?_,λp hp=>absurd (show p∈([]:List (Addr×Obj)) from hp) (by simp),e0.hok.kept hk,?_⟩
 .exact name_of_addr x.apart (PySem.mem_of_lookup h1) (PySem.mem_of_lookup h2)
 .have hy:scope.names.lookup y=some .cell\/scope.names.lookup y=some .free:=hy;rcases hy with hy|hy
  .exact Yq hy
  .exact absurd rfl (S.nofree _ (PySem.mem_of_lookup hy))
 .exact Nat.le_of_lt (x.above y c (PySem.mem_of_lookup h))
 .have hi:i<vs.length:=by
   unfold HK at h2
   by_cases hi:i<vs.length
   .exact hi
   .rw[AJ0 (by simpa using hi)] at h2;rw[AKj] at h2;split at h2 <;> cases h2
  have ha:vs[i]?=some v:=by
   unfold HK at h2;rw[Fh (by simpa using hi),BH] at h2
   cases e:vs[i]? with
   |none=>rw[e] at h2;cases h2
   |some a=>rw[e] at h2;cases h2;rfl
  obtain⟨u,hu,rv⟩:=r.get ha
  have hp:ps[i]?=some y:=by rw[<-S.pre,List.getElem?_take_of_lt (by omega)];exact h1
  have ndP:ps.Nodup:=by rw[<-S.pre];exact S.nd.sublist (List.take_sublist _ _)
  refine⟨u,rv,?_⟩;rcases S.par y (Cd hp) with k|k
  .exact .inl ⟨k,ZF ndP hp hu k⟩
  .obtain⟨c,e⟩:=Yq (n:=s.heap.objs.size+1) k;refine .inr ⟨.inl k,c,e,?_⟩;have q:=x.cell y c e;rw[ZH ndP hp hu (by show scope.names.lookup y≠_;rw[k];decide)] at q;exact q
 .exact e0.hok.fresh (Nat.le_of_lt (x.above y c (PySem.mem_of_lookup h)))
 .unfold HK;show _=N.length;rw[Ck,An,AKu];omega
theorem AGP{CX:Gy}{P:Program}{w:World}{K:AO}{mg:ALK}{base:Heap}{k:Nat}{f:Addr}{name qual:Str}{params:Arguments}{body:List Stmt}{scope:Scope}{dV kV doc pm cdv ct oc:Value}{an od:Option Addr}
  {osl:Array (Option Value)} {N ps:List Str} {sp:Sp} (lk:K.lookup f=some ⟨oc,od,.func (AJq name qual params body scope dV kV doc pm an cdv ct),osl⟩) (hcd:AKk K cdv qual=true) (S:BN N ps scope)
  (len:∀vs H Q E,sp vs H Q E->vs.length=ps.length)
  (hbody:∀(A:Around) (outer:List Env) (s:Shared) (H:Hp) (vs:List V) (Q:VK) (E:XK),CO k (A.deeper (envOfC qual scope s.heap.objs.size f cdv))->sp vs H Q E ->
   ∃t,EG (IA CX P w K mg base N qual scope f cdv A outer s H E) body t/\t {nx:=λ_ H'=>Q .non H',rt:=Q} (HK N vs) H) :
  Dx P w K mg base CX (k+1) f (AJq name qual params body scope dV kV doc pm an cdv ct) ps sp:=by
 refine⟨len,λA outer s H args us vs Q E hr e0 hb r hsp=>?_⟩;have hl:=len _ _ _ _ hsp;have KX:K.In s.heap:=e0.mod.kin.keeps λb o e=>(e0.bs b o e).1;have lim:s.heap.NoLimit:=e0.mod.nolimit.keeps λb o e=>(e0.bs b o e).1
 have hkind:∀y∈ps.zip us,scope.names.lookup y.1=some .local\/(scope.names.lookup y.1=some .cell/\((cellsFrom (s.heap.objs.size+1) scope.names []).lookup y.1).isSome=true):=λ⟨n,v⟩ hy=>by
  rcases S.par n (List.of_mem_zip hy).1 with q|q
  .exact .inl q
  .exact .inr ⟨q,PySem.W.cellsFrom_some _ _ _ (.inl q)⟩
 refine codeAny_call_function hr.depth (KX _ _ lk) rfl S.co S.gen rfl (PySem.W.codeRec_of KX hcd) (hb _ _ _ _ ?_);refine wpAny_newFunctionEnv_cells S.kind hkind λenv he s1 x=>?_;subst he;refine⟨lim.keeps x.toInCall.keep,codeAny_func ?_⟩;obtain⟨t,ht,hq⟩:=hbody A outer s H vs Q E (hr.deeper _) hsp;have I:AK (IA CX P w K mg base N qual scope f cdv A outer s H E) [] (HK N vs) H s1:=AFo S hr.hd e0 hl r x;refine GB (ht [] s1 (HK N vs) H _ I hq) (λfl s' hs=>?_) λe s' hs=>hs
 have fin:∀{σ':St} {H':Hp} {v:V} {u:Value},AK (IA CX P w K mg base N qual scope f cdv A outer s H E) [] σ' H' s'->Ai v u->Q v H'->CE outer P w H s Q u s' :=
  λ{σ' H' v u} J rv q=>⟨v,H',J.os,J.bare,J.base,J.hok,rv,q⟩
 cases fl with
 |ret u =>
  obtain⟨v,σ',H',J,rv,q⟩:=hs;exact fin J rv q
 |next =>
  obtain⟨σ',H',J,q⟩:=hs;exact fin (v:=V.non) (u:=Value.none) J rfl q
 |brk =>
  obtain⟨_,_,_,q⟩:=hs;exact False.elim q
 |cont =>
  obtain⟨_,_,_,q⟩:=hs;exact False.elim q
section
variable {X:Cx}{x:Str}{p pos:Pos}{e:Expr}{es:List Expr}{t:TA}{id T:String}{r:List V->Hp->VK->Prop}
def VN(r:List V->Hp->VK->Prop)(t:TA):TE:=λσ H Q=>t σ H λvs H1=>r vs H1 Q
theorem ADu(hc:Cz X (.builtin id) r)(hg:Gl X x)(hm:X.mg x=none)(hv:bootBuiltins x=some (.builtin id))(ha:PA X (e::es) t)(hn:x≠"__name__")(hdb:(x == ("__debug__":Str))=false)
  (he:starEach (e::es) X.env=(false,eval e X.env)::starEach es X.env) (hpl:(backTo pos (starEach es X.env)).any (·.1)=false):PE X (.Call (.Name x p) (e::es) [] pos) (VN r t):=by
 intro pins s σ H Q I h;refine ALB (Iy I hg hm hv ?_ hn hdb);exact PyProof.Rows.callWith_builtin1 (Ah (ha pos pins s σ H _ I h) λus s1 z2_=>(by obtain⟨vs,H1,I1,r1,q1⟩:=z2_;exact hc pins s1 σ H1 vs us Q I1 r1 q1)) he hpl
theorem ADt(hc:Cz X (.type T) r)(hg:Gl X x)(hm:X.mg x=none)(hv:bootBuiltins x=some (.type T))(ha:PA X (e::es) t)(hn:x≠"__name__")(hdb:(x == ("__debug__":Str))=false)
  (he:starEach (e::es) X.env=(false,eval e X.env)::starEach es X.env) (hpl:(backTo pos (starEach es X.env)).any (·.1)=false):PE X (.Call (.Name x p) (e::es) [] pos) (VN r t):=by
 intro pins s σ H Q I h;refine ALB (Iy I hg hm hv ?_ hn hdb);exact PyProof.Rows.callWith_type1 (Ah (ha pos pins s σ H _ I h) λus s1 z2_=>(by obtain⟨vs,H1,I1,r1,q1⟩:=z2_;exact hc pins s1 σ H1 vs us Q I1 r1 q1)) he hpl
end
end L2
namespace HT
open PySem PyProof.Rows
section
variable {prog:Program}{w:World}{A:Around}{E:ALL}{s:Shared}
theorem AJX{t b:Addr}{vs ws:List Value}{Q:ALL}(ht:IsTup s.heap t vs.toArray)(hb:IsTup s.heap b ws.toArray)(hv:vs≠[])
  (h1:ws=[]->Q (.ref t) s) (h2:ws≠[]->Q (.ref s.heap.objs.size) {s with heap:=s.heap.push {cls:=.type "tuple",data:=.seq (vs++ws).toArray}})
  (hsz:vs.length+ws.length<=sizeLine):wpAny (model prog w) A (binaryOp .Add (.ref t) (.ref b)) Q E s:=by
 obtain⟨⟨cls,dd,data,sl⟩,ho,hc,n,hd⟩:=id ht;obtain⟨⟨cls2,dd2,data2,sl2⟩,ho2,hc2,n2,hd2⟩:=id hb;simp only at hc hd hc2 hd2;subst hc hd hc2 hd2;have e:vs.toArray++ws.toArray=(vs++ws).toArray:=by simp
 by_cases hw:ws=[]
 .exact concat_meets ⟨_,ho,rfl⟩ ⟨_,ho2,rfl⟩ noFill_tuple_add seq_tuple_add AKv AKw (AKx _ _)
   (tuple_addW1 t b vs.toArray ws.toArray n n2 dd dd2 sl sl2 (by simpa using hv) (by simp[hw])) ⟨ho,ho2,h1 hw⟩
 .refine concat_meets ⟨_,ho,rfl⟩ ⟨_,ho2,rfl⟩ noFill_tuple_add seq_tuple_add AKv AKw (AKx _ _)
   (tuple_addW2 t b vs.toArray ws.toArray n n2 dd dd2 sl sl2 (by simpa using hv) (by simpa using hw) (by rw[Bx,Bx];exact hsz)) ⟨ho,ho2,?_⟩
  rw[e];exact h2 hw
def sIx(n d:Nat):Option Int->Nat
 |none=>d
 |some v=>if v<0 then (v+(n:Int)).toNat else min v.toNat n
theorem AIo(n d k:Nat):sIx n d (some (k:Int))=min k n:=by
 show(if (k:Int)<0 then ((k:Int)+(n:Int)).toNat else min (k:Int).toNat n)=min k n
 rw[if_neg (by omega),AJr]
theorem ACM(n d:Nat)(hd:d<=n)(o:Option Int):sIx n d o<=n:=by
 cases o with
 |none=>exact hd
 |some v =>
  show(if v<0 then (v+(n:Int)).toNat else min v.toNat n)<=n
  by_cases hv:v<0
  .rw[if_pos hv];omega
  .rw[if_neg hv];exact Nat.min_le_right _ _
theorem Yn(v:Int)(n d:Nat):(if v<0 then max (v+(n:Int)) 0 else min v (n:Int))=((sIx n d (some v):Nat):Int):=by
 show(if v<0 then max (v+(n:Int)) 0 else min v (n:Int))=(((if v<0 then (v+(n:Int)).toNat else min v.toNat n):Nat):Int)
 by_cases hv:v<0
 .simp only[if_pos hv];omega
 .simp only[if_neg hv];omega
theorem AHf(lo hi:Option Int)(n:Nat):Builtin.Slice.sliceAdjust lo hi 1 (n:Int)=(((sIx n 0 lo:Nat):Int),((sIx n n hi:Nat):Int)):=by
 have h1:¬((1:Int)<0):=by omega
 unfold Builtin.Slice.sliceAdjust;simp only[h1,if_false];refine Prod.ext ?_ ?_
 .cases lo with
  |none=>rfl
  |some v=>exact Yn v n 0
 .cases hi with
  |none=>rfl
  |some v=>exact Yn v n n
theorem ADH(i j:Nat):Builtin.Slice.slicePlaces (i:Int) (j:Int) 1=j-i:=by
 unfold Builtin.Slice.slicePlaces;have h1:(1:Int)>0:=by omega
 simp only[h1,if_true,Int.ediv_one];split <;> omega
theorem Vl{v:Value}{o:Option Int}{Q:Option Int->Shared->Prop}(p:IsPart v o)(h:Q o s):wpAny (model prog w) A (Builtin.Slice.slicePartIndex v) Q E s:=by
 cases p with
 |none=>exact slicePart_none h
 |int i t=>exact slicePart_int h
theorem Vm{sl:Addr}{vl vu:Value}{lo hi:Option Int}{n:Nat}{Q:Int×Int×Nat->Shared->Prop}(hs:s.heap.IsSliceOf sl vl vu .none)(pl:IsPart vl lo)(pu:IsPart vu hi)
  (h:Q (((sIx n 0 lo:Nat):Int),1,sIx n n hi-sIx n 0 lo) s):wpAny (model prog w) A (Builtin.Slice.sliceApplied (.ref sl) (pure (n:Int))) Q E s:=by
 obtain⟨os,hos,hcs,hds⟩:=id hs;unfold Builtin.Slice.sliceApplied Builtin.Slice.sliceFields;refine AH (AH (FT hos hds (x:=vl) rfl (AH (FT hos hds (x:=vu) rfl (AH (FT hos hds (x:=.none) rfl (AU ?_)))))));refine AH (slicePart_none ?_)
 show wpAny _ _ (if ((1:Int) == 0)=true then _ else _) _ _ s
 rw[if_neg (by decide)];refine AH (Vl pl (AH (Vl pu (AH (AU ?_)))))
 show wpAny _ _ (match Builtin.Slice.sliceAdjust lo hi 1 (n:Int) with|(lo,hi)=>pure (lo,(1:Int),Builtin.Slice.slicePlaces lo hi 1)) _ _ s
 rw[AHf lo hi n];show wpAny _ _ (pure (((sIx n 0 lo:Nat):Int),(1:Int),Builtin.Slice.slicePlaces ((sIx n 0 lo:Nat):Int) ((sIx n n hi:Nat):Int) 1)) _ _ s;rw[ADH];exact AU h
theorem ADR(xs:Array Value)(i k:Nat):((List.range k).filterMap λ(m:Nat)=>xs[((i:Int)+(m:Int)*1).toNat]?).toArray=((xs.toList.drop i).take k).toArray:=by
 have e:(λ(m:Nat)=>xs[((i:Int)+(m:Int)*1).toNat]?)=λm=>xs[i+m]?:=by
  funext m
  have:((i:Int)+(m:Int)*1).toNat=i+m:=by omega
  rw[this]
 rw[e];have:=pick_run xs i k;rw[List.filterMap_map] at this;have e2:((λx=>xs[x]?)∘λx=>i+x)=λm=>xs[i+m]?:=rfl;rw[e2] at this;rw[this]
theorem AIw{t sl:Addr}{items:Array Value}{vl vu:Value}{lo hi:Option Int}{Q:ALL}(ht:IsTup s.heap t items)(hs:s.heap.IsSliceOf sl vl vu .none)(pl:IsPart vl lo)(pu:IsPart vu hi)
  (hw:¬(sIx items.size 0 lo=0/\sIx items.size items.size hi=items.size))
  (h:Q (.ref s.heap.objs.size) {s with heap:=s.heap.push {cls:=.type "tuple",data:=.seq ((items.toList.drop (sIx items.size 0 lo)).take (sIx items.size items.size hi-sIx items.size 0 lo)).toArray}})
  (hsz:items.size<=sizeLine):wpAny (model prog w) A (getItem (.ref t) (.ref sl)) Q E s:=by
 have htake:sizeOk (.seq ((items.toList.drop (sIx items.size 0 lo)).take (sIx items.size items.size hi-sIx items.size 0 lo)).toArray):=by show((items.toList.drop (sIx items.size 0 lo)).take (sIx items.size items.size hi-sIx items.size 0 lo)).toArray.size<=sizeLine;rw[Bx,HF,List.length_drop,AKe];omega
 have hj:sIx items.size items.size hi<=items.size:=ACM _ _ (Al _) hi;obtain⟨os,hos,hcs,hds⟩:=id hs;have hTs:s.TypeIs (.ref sl) "slice":=⟨os,hos,hcs⟩;unfold getItem
 try with_reducible refine EV ?_
 first|refine AH (AU ?_)|skip
 refine AH (wpAny_sequenceKey ht.typeIs (by decide) ?_)
 refine AH (ALC (name:=Str.ofString "__getitem__") ht.typeIs PyProof.Rows.slot_tuple_getitem
  (Gz PyProof.Rows.slot_tuple_getitem ht.typeIs entry_tuple_getitem ?_ (args_tuple_getitem _ _)))
 show wpAny _ _ (Builtin.Tuple.tupleItemsOf (.ref t) >>= _) _ _ s;refine AH (tupleItemsOf_ ht ?_);refine AH (wpAny_typeOf hTs ?_);rw[if_pos (by decide)];refine AH (Vm hs pl pu ?_)
 have hno:¬((((sIx items.size 0 lo:Nat):Int) == 0&&(1:Int) == 1&&(sIx items.size items.size hi-sIx items.size 0 lo) == items.size)=true):=by intro q;rw[CJ,CJ] at q;have q1:((sIx items.size 0 lo:Nat):Int)=0:=eq_of_beq q.1.1;have q2:sIx items.size items.size hi-sIx items.size 0 lo=items.size:=eq_of_beq q.2;exact hw ⟨by omega,by omega⟩
 show wpAny _ _ (if (((sIx items.size 0 lo:Nat):Int) == 0&&(1:Int) == 1&&(sIx items.size items.size hi-sIx items.size 0 lo) == items.size)=true then _ else _) _ _ s
 rw[if_neg hno,ADR]
 first
  |exact AH (m:=Builtin.Tuple.tupleExact _) (ALD (AU ⟨_,rfl,AU h⟩) htake)
  |exact AH (m:=Builtin.Tuple.tupleExact _) (ALD (AH (AU (AU ⟨_,rfl,AU h⟩))) htake)
  |exact AH (AH (m:=Builtin.Tuple.tupleExact _) (ALD (AU (AU ⟨_,rfl,AU h⟩)) htake))
  |exact AH (AH (m:=Builtin.Tuple.tupleExact _) (ALD (AU ⟨_,rfl,AU h⟩) htake))
end
end HT
namespace L2
open PySem PySem.Spec PyProof.Rows
abbrev TO:=St->Hp->(Option Int->Hp->Prop)->Prop
def PO(X:Cx)(e:Option Expr)(t:TO):Prop :=
 ∀(pins:List (Addr×Obj)) (s:Shared) (σ:St) (H:Hp) (Q:Option Int->Hp->Prop),AK X pins σ H s->t σ H Q ->
  wpAny (model X.prog X.w) X.A (evalPart e X.env) (λu s'=>∃o H',AK X pins σ H' s'/\IsPart u o/\Q o H') X.xe s
def ABa:TO:=λ_ H Q=>Q none H
def ABV(t:TE):TO:=λσ H Q=>t σ H λx H1=>∃i,x=.int i/\Q (some i) H1
section
variable {X:Cx}{e:Expr}{te:TE}{lo hi:Option Expr}{tl th:TO}{pos p2:Pos}
theorem ADF:PO X none ABa:=by intro pins s σ H Q I h;rw[evalPart_none];exact AU ⟨none,H,I,.none,h⟩
theorem ADE(h:PE X e te):PO X (some e) (ABV te):=by intro pins s σ H Q I hw;rw[evalPart_some];refine Ah (h pins s σ H _ I hw) λu s1 z2_=>?_;obtain⟨x,H1,I1,r1,q1⟩:=z2_;obtain⟨i,rfl,q⟩:=q1;obtain⟨t,rfl⟩:=r1;exact⟨some i,H1,I1,.int i t,q⟩
def Gx(X:Cx)(r:V->Option Int->Option Int->Hp->VK->Prop):Prop :=
 ∀(pins:List (Addr×Obj)) (s:Shared) (σ:St) (H:Hp) (x:V) (v vl vu:Value) (lo hi:Option Int) (sl:Addr) (Q:VK),AK X pins σ H s->Ai x v->s.heap.IsSliceOf sl vl vu .none->IsPart vl lo->IsPart vu hi->r x lo hi H Q ->
  ∃T id,typeLookup (.type T) "__getitem__"=pure (some (.builtin id))/\s.TypeIs v T/\wpAny (model X.prog X.w) X.A (getItem v (.ref sl)) (EP X pins σ Q) X.xe s
theorem Gx.or{r r':V->Option Int->Option Int->Hp->VK->Prop}(h:Gx X r)(h':Gx X r'):Gx X (λx lo hi H Q=>r x lo hi H Q\/r' x lo hi H Q):=by
 intro pins s σ H x v vl vu lo hi sl Q I rx hs pl pu q;rcases q with q|q
 .exact h pins s σ H x v vl vu lo hi sl Q I rx hs pl pu q
 .exact h' pins s σ H x v vl vu lo hi sl Q I rx hs pl pu q
def tSl(r:V->Option Int->Option Int->Hp->VK->Prop)(te:TE)(tl th:TO):TE:=λσ H Q=>te σ H λx H1=>tl σ H1 λl H2=>th σ H2 λu H3=>r x l u H3 Q
theorem ADf{r:V->Option Int->Option Int->Hp->VK->Prop}(hr:Gx X r)(he:PE X e te)(hl:PO X lo tl)(hu:PO X hi th):PE X (.Subscript e (.Slice lo hi none p2) pos) (tSl r te tl th):=by intro pins s σ H Q I h;refine Subscript_ (Ah (he pins s σ H _ I h) λv s1 z2_=>?_);obtain⟨x,H1,I1,r1,q1⟩:=z2_;refine wpAny_Slice (Ah (hl pins s1 σ H1 _ I1 q1) λvl s2 z2_=>?_);obtain⟨l,H2,I2,pl,q2⟩:=z2_;refine Ah (hu pins s2 σ H2 _ I2 q2) λvu s3 z2_=>?_;obtain⟨u,H3,I3,pu,q3⟩:=z2_;rw[evalPart_none];refine AU ?_;have I4:AK X pins σ H3 {s3 with heap:=s3.heap.push {cls:=.type "slice",data:=.fields #[vl,vu,.none]}}:=I3.kept (t':=s3.toks) λb ob q=>Heap.get?_push_of_some _ q;obtain⟨T,id,hT,ht,hg⟩:=hr pins {s3 with heap:=s3.heap.push {cls:=.type "slice",data:=.fields #[vl,vu,.none]}} σ H3 x v vl vu l u s3.heap.objs.size Q I4 r1 (Heap.IsSliceOf.new ..) pl pu q3;show wpAny (model X.prog X.w) X.A (subscriptTail e (.Slice lo hi none p2) v (.ref s3.heap.objs.size)) (EP X pins σ Q) X.xe {s3 with heap:=s3.heap.push {cls:=.type "slice",data:=.fields #[vl,vu,.none]}};exact tail_any (ops:=[.ref s3.heap.objs.size,v]) ht hT hg (by with_unfolding_all rfl)
def HX(xs:List V)(lo hi:Option Int):List V:=(xs.drop (HT.sIx xs.length 0 lo)).take (HT.sIx xs.length xs.length hi-HT.sIx xs.length 0 lo)
theorem Yj(xs:List V)(lo hi:Option Int):(HX xs lo hi).length<=xs.length:=by unfold HX;rw[HF,List.length_drop];omega
def ACZ(K:AO):V->Option Int->Option Int->Hp->VK->Prop:=λx lo hi H Q=>∃a xs,x=.ref a/\Bt K H a xs /\
 ¬(HT.sIx xs.length 0 lo=0/\HT.sIx xs.length xs.length hi=xs.length)/\∀p,H p=none->Q (.ref p) (upd H p (.tup (HX xs lo hi)))
theorem AB5:Gx X (ACZ X.K):=by
 intro pins s σ H x v vl vu lo hi sl Q I rx hs pl pu h;obtain⟨a,xs,rfl,hx,hw,q⟩:=h;cases rx;obtain⟨its,r,ht,hz⟩:=I.tuple hx;have hlen:its.toArray.size=xs.length:=by rw[Bx];exact r.length.symm
 refine⟨"tuple",_,PyProof.Rows.slot_tuple_getitem.lookup,ht.typeIs,?_⟩;refine HT.AIw ht hs pl pu (by rw[hlen];exact hw) ?_ (by rw[hlen];exact hz);rw[hlen];refine⟨.ref s.heap.objs.size,_,I.laid (t':=s.toks) (o:=.tup (HX xs lo hi)) (λb ob q=>Heap.get?_push_of_some _ q) (Al _) ?_,rfl,q _ (I.hok.fresh (Al _))⟩;exact⟨DA (Yj xs lo hi) hz,_,(r.drop (HT.sIx xs.length 0 lo)).take (HT.sIx xs.length xs.length hi-HT.sIx xs.length 0 lo),IsTup.new _ _⟩
def ACg(K:AO):R2:=λx y H Q=>∃a b xs ys,x=.ref a/\y=.ref b/\Bt K H a xs/\Bt K H b ys/\xs≠[]/\xs.length+ys.length<=sizeLine /\
 (ys=[]->Q (.ref a) H)/\(ys≠[]->∀p,H p=none->Q (.ref p) (upd H p (.tup (xs++ys))))
theorem Ak.nil_iff{xs:List V}{us:List Value}(r:Ak xs us):us=[]↔xs=[]:=by
 cases r with
 |nil=>simp
 |cons _ _=>simp
theorem AEP:Av X (binaryOp .Add) (ACg X.K):=by intro pins s σ H x y v u Q I rx ry h;obtain⟨a,b,xs,ys,rfl,rfl,ha,hb,hx,hz,q1,q2⟩:=h;cases rx;cases ry;obtain⟨its,r1,p1,_⟩:=I.tuple ha;obtain⟨its2,r2,p2,_⟩:=I.tuple hb;refine HT.AJX p1 p2 (λz=>hx (r1.nil_iff.mp z)) (λz=>⟨.ref a,H,I,rfl,q1 (r2.nil_iff.mp z)⟩) (λz=>?_) (by rw[<-r1.length,<-r2.length];exact hz);refine⟨.ref s.heap.objs.size,_,I.laid (t':=s.toks) (o:=.tup (xs++ys)) (λb ob q=>Heap.get?_push_of_some _ q) (Al _) ?_,rfl,q2 (λw=>z (r2.nil_iff.mpr w)) _ (I.hok.fresh (Al _))⟩;exact⟨by rw[Ck];exact hz,_,r1.append r2,IsTup.new _ _⟩
end
def ixN(n:Nat)(i:Int):Option Nat:=if 0<=i then (if i<n then some i.toNat else none) else if -(n:Int)<=i then some (i+n).toNat else none
def atI{α:Type}(xs:List α)(i:Int):Option α:=(ixN xs.length i).bind λj=>xs[j]?
theorem XW{n:Nat}{i:Int}{j:Nat}(h:ixN n i=some j):seqIndex? i n=some j/\j<n/\-(n:Int)<=i/\i<n:=by
 unfold ixN at h
 by_cases h0:0<=i
 .rw[if_pos h0] at h
  by_cases h1:i<n
  .rw[if_pos h1] at h;have e:i.toNat=j:=Option.some.inj h;exact⟨by rw[seqIndex_of h0 h1,e],by omega,by omega,h1⟩
  .rw[if_neg h1] at h;cases h
 .rw[if_neg h0] at h
  by_cases h1:-(n:Int)<=i
  .rw[if_pos h1] at h;have e:(i+n).toNat=j:=Option.some.inj h;exact⟨by rw[seqIndex_neg (by omega) h1,e],by omega,h1,by omega⟩
  .rw[if_neg h1] at h;cases h
theorem OD{α:Type}{xs:List α}{i:Int}{v:α}(h:atI xs i=some v):∃j,seqIndex? i xs.length=some j/\xs[j]?=some v/\j<xs.length/\-(xs.length:Int)<=i/\i<xs.length:=by
 unfold atI at h
 cases e:ixN xs.length i with
 |none=>rw[e] at h;cases h
 |some j =>
  rw[e] at h;obtain⟨h1,h2,h3,h4⟩:=XW e;exact⟨j,h1,h,h2,h3,h4⟩
theorem Eh{α:Type}{xs:List α}{j:Nat}{v:α}(h:xs[j]?=some v):atI xs (j:Int)=some v:=by
 have hj:j<xs.length:=(BY.mp h).1
 have e:ixN xs.length (j:Int)=some j:=by unfold ixN;rw[if_pos (by omega),if_pos (by omega)];simp
 unfold atI;rw[e];exact h
theorem AHS{α:Type}(xs:List α)(v:α):atI (xs++[v]) (-1)=some v:=by
 have hl:(xs++[v]).length=xs.length+1:=by simp
 have e:ixN (xs++[v]).length (-1)=some xs.length:=by
  unfold ixN;rw[hl,if_neg (by decide),if_pos (by omega)]
  congr 1
  omega
 unfold atI;rw[e];show(xs++[v])[xs.length]?=some v;simp
def TV(b:Expr):Prop:=∀o i,subscripted b false o i=operate [o,i] (getItem o i)
def Fz(X:Cx)(r:R2):Prop :=
 ∀(value slice:Expr) (pins:List (Addr×Obj)) (s:Shared) (σ:St) (H:Hp) (x y:V) (v u:Value) (Q:VK),AK X pins σ H s->Ai x v->Ai y u->r x y H Q ->
  subscripted slice false v u=operate [v,u] (getItem v u)->wpAny (model X.prog X.w) X.A (subscriptTail value slice v u) (EP X pins σ Q) X.xe s
def FS(X:Cx)(id:String)(r:V->List V->Hp->VK->Prop):Prop :=
 ∀(pins:List (Addr×Obj)) (s:Shared) (σ:St) (H:Hp) (x:V) (xs:List V) (v:Value) (us:List Value) (Q:VK),AK X pins σ H s->Ai x v->Ak xs us->r x xs H Q ->
  wpAny (model X.prog X.w) X.A (call (.builtin id) (v::us)) (EP X pins σ Q) X.xe s
section
variable {X:Cx}{a b:Expr}{ta tb:TE}{pos:Pos}
theorem Fz.or{r r':R2}(h:Fz X r)(h':Fz X r'):Fz X (λx y H Q=>r x y H Q\/r' x y H Q):=by
 intro value slice pins s σ H x y v u Q I rx ry q hs;rcases q with q|q
 .exact h value slice pins s σ H x y v u Q I rx ry q hs
 .exact h' value slice pins s σ H x y v u Q I rx ry q hs
theorem FS.or{id:String}{r r':V->List V->Hp->VK->Prop}(h:FS X id r)(h':FS X id r'):FS X id (λx xs H Q=>r x xs H Q\/r' x xs H Q):=by
 intro pins s σ H x xs v us Q I rx rs q;rcases q with q|q
 .exact h pins s σ H x xs v us Q I rx rs q
 .exact h' pins s σ H x xs v us Q I rx rs q
theorem ADn{r:R2}(hr:Fz X r)(ha:PE X a ta)(hb:PE X b tb)(hs:TV b):PE X (.Subscript a b pos) (LN r ta tb):=by intro pins s σ H Q I h;exact Subscript_ (Sz ha hb I h λv u s2 x y H2 I2 rx ry q=>hr a b pins s2 σ H2 x y v u Q I2 rx ry q (hs _ _))
def WB(K:AO):R2:=λx y H Q=>∃p xs i v,x=.ref p/\y=.int i/\Bj K H p xs/\atI xs i=some v/\Q v H
def Vz(K:AO):R2:=λx y H Q=>∃p xs i v,x=.ref p/\y=.int i/\Bt K H p xs/\atI xs i=some v/\Q v H
def WA:R2:=λx y H Q=>∃z i c,x=.str z/\y=.int i/\z.length<=sizeLine/\atI z.cps.toList i=some c/\Q (.str ⟨#[c]⟩) H
theorem AFg:Fz X (WB X.K):=by
 intro value slice pins s σ H x y v u Q I rx ry h hs;obtain⟨p,xs,i,z,rfl,rfl,hq,he,q⟩:=h;cases rx;obtain⟨t,rfl⟩:=ry;obtain⟨its,r,pl,hz⟩:=I.list hq;obtain⟨j,h1,h2,h3,h4,h5⟩:=OD he;obtain⟨w,ew,rw'⟩:=r.get h2;have hl:=r.length;have hn:=KS;have fin:EP X pins σ Q w s:=⟨z,H,I,rw',q⟩
 by_cases h0:0<=i
 .have hj:i.toNat=j:=by
   rw[seqIndex_of h0 h5] at h1;exact Option.some.inj h1
  exact item_listR pl.isList h0 (by omega) (by rw[hj];simpa using ew) fin hs
 .have hj:(i+(its.toArray.size:Int)).toNat=j:=by
   rw[seqIndex_neg (by omega) h4] at h1;rw[Bx,<-hl];exact Option.some.inj h1
  exact subscriptTail_builtinR (x:=w) pl.isList.typeIs slot_list_getitem.lookup
   (wpAny_getItem_list_neg (Q:=λr s'=>r=w/\EP X pins σ Q r s') pl.isList (by omega) (by rw[Bx] <;> omega) (by omega) (by rw[hj];simpa using ew) ⟨rfl,fin⟩) hs
theorem AFd:Fz X (Vz X.K):=by
 intro value slice pins s σ H x y v u Q I rx ry h hs;obtain⟨p,xs,i,z,rfl,rfl,hq,he,q⟩:=h;cases rx;obtain⟨t,rfl⟩:=ry;obtain⟨its,r,pl,hz⟩:=I.tuple hq;obtain⟨j,h1,h2,h3,h4,h5⟩:=OD he;obtain⟨w,ew,rw'⟩:=r.get h2;have hl:=r.length;have hn:=KS;have fin:EP X pins σ Q w s:=⟨z,H,I,rw',q⟩
 exact subscriptTail_builtinR (x:=w) pl.typeIs slot_tuple_getitem.lookup
  (getItem_tuple (j:=j) (Q:=λr s'=>r=w/\EP X pins σ Q r s') pl (by omega) (by omega) (by rw[Bx,<-hl];exact h1) (by simpa using ew) ⟨rfl,fin⟩) hs
theorem AFe:Fz X WA:=by
 intro value slice pins s σ H x y v u Q I rx ry h hs;obtain⟨z,i,c,rfl,rfl,hz,he,q⟩:=h;obtain⟨t,rfl⟩:=rx;obtain⟨t',rfl⟩:=ry;obtain⟨j,h1,h2,h3,h4,h5⟩:=OD he;have hl:z.cps.toList.length=z.length:=by simp[Str.length]
 rw[hl] at h1 h4 h5;have hn:=KS
 exact tail_any (typeIs_str s z t) slot_str_getitem.lookup (getItem_str (c:=c) (by
  have e1:decide (i < -(2 ^ 63:Int))=false:=decide_eq_false (by omega);have e2:decide (i ≥ 2 ^ 63)=false:=decide_eq_false (by omega)
  rw[e1,e2,Bool.or_false]) (by rw[h1];simpa using h2) ⟨.str ⟨#[c]⟩,H,I.tok _,⟨_,rfl⟩,q⟩) hs
def rIx(K:AO):R2:=λx y H Q=>WB K x y H Q\/Vz K x y H Q\/WA x y H Q
theorem AFf:Fz X (rIx X.K):=AFg.or (AFd.or AFe)
theorem AE0(its:List Value)(n j:Nat)(u:Value):Obj.mapSeq (·.setIfInBounds j u) {cls:=.type "list",data:=.seq its.toArray n}={cls:=.type "list",data:=.seq (its.set j u).toArray n}:=by simp[Obj.mapSeq]
theorem AK.lst{pins:List (Addr×Obj)}{σ:St}{H:Hp}{s:Shared}{p:Addr}{xs:List V}(I:AK X pins σ H s)(h:H p=some (.lst xs)) :
  ∃(its:List Value) (n:Nat),Ak xs its/\s.heap.get? p=some {cls:=.type "list",data:=.seq its.toArray n}/\xs.length<=sizeLine:=by
 obtain⟨z,its,n,r,e⟩:=I.hok p _ h;exact⟨its,n,r,e,z⟩
theorem AK.lstUpd{pins:List (Addr×Obj)}{σ:St}{H:Hp}{s:Shared}{p:Addr}{xs ys:List V}{its its':List Value}{n n':Nat}{f:Obj->Obj}(I:AK X pins σ H s)(h:H p=some (.lst xs))
  (ho:s.heap.get? p=some {cls:=.type "list",data:=.seq its.toArray n}) (hf:f {cls:=.type "list",data:=.seq its.toArray n}={cls:=.type "list",data:=.seq its'.toArray n'}) (r:Ak ys its') (hz:ys.length<=sizeLine) (t:Nat) :
  AK X pins σ (upd H p (.lst ys)) {s with heap:=s.heap.update p f,toks:=t}:=by
 have e:(s.heap.update p f).get? p=some {cls:=.type "list",data:=.seq its'.toArray n'}:=by rw[Heap.get?_update_self f ho (by rw[hf] <;> rfl),hf]
 refine I.write (x:=p) (e:=p) (by rw[h];trivial) (.inl rfl) (λb u hb q=>(Heap.get?_update_other _ _ (Ne.symm hb)).trans q) ⟨_,e⟩ ?_;exact⟨hz,its',n',r,e⟩
def ACb:V->V->V->Hp->(Hp->Prop)->Prop:=λo i v H Q=>∃p xs k j,o=.ref p/\i=.int k/\H p=some (.lst xs)/\ixN xs.length k=some j/\Q (upd H p (.lst (xs.set j v)))
theorem ACD:TW X ACb:=by
 intro pins s σ H o i v ov iv u Q I ro ri rv h;obtain⟨p,xs,k,j,rfl,rfl,hp,hj,q⟩:=h;cases ro;obtain⟨t,rfl⟩:=ri;obtain⟨its,n,r,ho,hz⟩:=I.lst hp;obtain⟨h1,h2,h3,h4⟩:=XW hj;have hl:=r.length;have hn:=KS
 have I':AK X pins σ (upd H p (.lst (xs.set j v))) {s with heap:=s.heap.update p (Obj.mapSeq (·.setIfInBounds j u))} :=
  I.lstUpd hp ho (AE0 its n j u) (r.set rv j) (by rw[AKB];exact hz) s.toks
 by_cases h0:0<=k
 .have hk:k.toNat=j:=by
   rw[seqIndex_of h0 h4] at h1;exact Option.some.inj h1
  exact PySem.W.ki_setAt ho h0 (by omega) (by rw[Bx,<-hl];exact h4) (by rw[hk];exact⟨_,I',q⟩)
 .have hk:(k+(its.toArray.size:Int)).toNat=j:=by
   rw[seqIndex_neg (by omega) h3] at h1;rw[Bx,<-hl];exact Option.some.inj h1
  exact PySem.W.ki_setBack ho (by omega) (by rw[Bx,<-hl];exact h3) (by omega) (by rw[hk];exact⟨_,I',q⟩)
theorem AB2(lo hi:Option Int)(n:Nat):(sliceBounds lo hi none n).1=((HT.sIx n 0 lo:Nat):Int)/\(sliceBounds lo hi none n).2.1=((HT.sIx n n hi:Nat):Int)/\(sliceBounds lo hi none n).2.2=1:=by
 refine⟨?_,?_,rfl⟩
 .cases lo with
  |none=>simp[sliceBounds,HT.sIx]
  |some i =>
   simp only[sliceBounds,HT.sIx,Option.getD_none,show(1:Int)>0 by decide,if_true]
   by_cases h:i<0
   .simp only[h,if_true] <;> omega
   .simp only[h,if_false] <;> omega
 .cases hi with
  |none=>simp[sliceBounds,HT.sIx]
  |some i =>
   simp only[sliceBounds,HT.sIx,Option.getD_none,show(1:Int)>0 by decide,if_true]
   by_cases h:i<0
   .simp only[h,if_true] <;> omega
   .simp only[h,if_false] <;> omega
theorem AB3(its:List Value)(lo hi:Option Int):slicePick its.toArray lo hi none=((its.drop (HT.sIx its.length 0 lo)).take (HT.sIx its.length its.length hi-HT.sIx its.length 0 lo)).toArray:=by obtain⟨h1,h2,h3⟩:=AB2 lo hi its.toArray.size;unfold slicePick;rw[h1,h2,h3];simp only[sliceRange_one,pick_run,Bx] <;> rfl
def ACa(K:AO):V->Option Int->Option Int->Hp->VK->Prop:=λx lo hi H Q=>∃a xs,x=.ref a/\Bj K H a xs/\∀p,H p=none->Q (.ref p) (upd H p (.lst (HX xs lo hi)))
theorem AB7:Gx X (ACa X.K):=by intro pins s σ H x v vl vu lo hi sl Q I rx hs pl pu h;obtain⟨a,xs,rfl,hx,q⟩:=h;cases rx;obtain⟨its,r,ht,hz⟩:=I.list hx;have hlen:=r.length;refine⟨"list",_,slot_list_getitem.lookup,ht.isList.typeIs,?_⟩;refine wpAny_getItem_list_slice ht.isList hs pl pu .none (by simp) ?_ (by rw[Bx] <;> omega);rw[AB3,<-hlen];refine⟨.ref s.heap.objs.size,_,I.laid (t':=s.toks) (o:=.lst (HX xs lo hi)) (λb ob q=>Heap.get?_push_of_some _ q) (Al _) ?_,rfl,q _ (I.hok.fresh (Al _))⟩;exact⟨DA (Yj xs lo hi) hz,_,0,(r.drop (HT.sIx xs.length 0 lo)).take (HT.sIx xs.length xs.length hi-HT.sIx xs.length 0 lo),Heap.get?_push_size _ rfl⟩
def Gq:V->Bool
 |.non=>true
 |.bl _=>true
 |.int _=>true
 |.str _=>true
 |_=>false
def eqV:V->V->Bool
 |.non,.non=>true
 |.bl a,.bl b=>a == b
 |.bl a,.int b=>(if a then 1 else 0) == b
 |.int a,.bl b=>a == (if b then 1 else 0)
 |.int a,.int b=>a == b
 |.str a,.str b=>a == b
 |_,_=>false
theorem YU{A:Around}{s:Shared}{y x:V}{u v:Value}(ry:Ai y u)(rx:Ai x v)(fy:Gq y=true)(fx:Gq x=true):SeqAt.EqAt A s u v (eqV y x):=by
 cases y with
 |non =>
  cases ry
  cases x with
  |non=>cases rx;exact SeqAt.EqAt.same _
  |bl b=>cases rx;exact SeqAt.EqAt.none_bool b
  |int b=>obtain⟨t,rfl⟩:=rx;exact SeqAt.EqAt.none_int b t
  |str b=>obtain⟨t,rfl⟩:=rx;exact SeqAt.EqAt.none_str b t
  |_=>exact absurd (show false=true from fx) Ct
 |bl a =>
  cases ry
  cases x with
  |non=>cases rx;exact SeqAt.EqAt.bool_none a
  |bl b=>cases rx;exact SeqAt.EqAt.bool_bool a b
  |int b=>obtain⟨t,rfl⟩:=rx;exact SeqAt.EqAt.bool_int a b t
  |str b=>obtain⟨t,rfl⟩:=rx;exact SeqAt.EqAt.bool_str a b t
  |_=>exact absurd (show false=true from fx) Ct
 |int a =>
  obtain⟨t',rfl⟩:=ry
  cases x with
  |non=>cases rx;exact SeqAt.EqAt.int_none a t'
  |bl b=>cases rx;exact SeqAt.EqAt.int_bool a t' b
  |int b=>obtain⟨t,rfl⟩:=rx;exact SeqAt.EqAt.int_int a t' b t
  |str b=>obtain⟨t,rfl⟩:=rx;exact SeqAt.EqAt.int_str a t' b t
  |_=>exact absurd (show false=true from fx) Ct
 |str a =>
  obtain⟨t',rfl⟩:=ry
  cases x with
  |non=>cases rx;exact SeqAt.EqAt.str_none a t'
  |bl b=>cases rx;exact SeqAt.EqAt.str_bool a t' b
  |int b=>obtain⟨t,rfl⟩:=rx;exact SeqAt.EqAt.str_int a t' b t
  |str b=>obtain⟨t,rfl⟩:=rx;exact SeqAt.EqAt.str_str a t' b t
  |_=>exact absurd (show false=true from fx) Ct
 |_=>exact absurd (show false=true from fy) Ct
def FY(x:V)(u:Value):Bool:=match u with
 |.none=>eqV .non x
 |.bool b=>eqV (.bl b) x
 |.int i _=>eqV (.int i) x
 |.str z _=>eqV (.str z) x
 |_=>false
theorem YR{x y:V}{u:Value}(r:Ai y u)(f:Gq y=true):FY x u=eqV y x:=by
 cases y with
 |non=>cases r;rfl
 |bl b=>cases r;rfl
 |int i=>obtain⟨t,rfl⟩:=r;rfl
 |str z=>obtain⟨t,rfl⟩:=r;rfl
 |_=>exact absurd (show false=true from f) Ct
theorem MI{x:V}:∀{xs:List V} {us:List Value},Ak xs us->xs.all Gq=true->us.any (FY x)=xs.any λy=>eqV y x
 |_,_,.nil,_=>rfl
 |y::xs,u::us,.cons r t,f=>by
  rw[AJ1,CJ] at f;rw[AJs,AJs,YR r f.1,MI t f.2]
theorem Lb{A:Around}{s:Shared}{x:V}{v:Value}(rx:Ai x v)(fx:Gq x=true):∀{xs:List V} {us:List Value},Ak xs us->xs.all Gq=true->∀u∈us,SeqAt.EqAt A s u v (FY x u)
 |_,_,.nil,_=>λu hu=>by cases hu
 |y::xs,u::us,.cons r t,f=>λu' hu=>by
  rw[AJ1,CJ] at f;rcases Ae.mp hu with rfl|hu
  .rw[YR r f.1];exact YU r rx f.1 fx
  .exact Lb rx fx t f.2 u' hu
def SU(x:V)(xs:List V):Bool:=xs.any λy=>eqV y x
def RZ(K:AO)(neg:Bool):R2:=λx y H Q=>∃p xs,y=.ref p/\(Bj K H p xs\/Bt K H p xs)/\Gq x=true/\xs.all Gq=true/\Q (.bl (if neg then !SU x xs else SU x xs)) H
theorem AEL:Av X (compareOp .In) (RZ X.K false):=by
 intro pins s σ H x y v u Q I rx ry h;obtain⟨p,xs,rfl,hq,fx,fs,q⟩:=h;cases ry;rcases hq with hq|hq
 .obtain⟨its,r,pl,hz⟩:=I.list hq;refine SeqAt.in_listAt (FY x) pl.isList (λw hw=>Lb rx fx r fs w (by simpa using hw)) ⟨.bl _,H,I,rfl,?_⟩;rw[show its.toArray.any (FY x)=its.any (FY x) by simp,MI r fs];exact q
 .obtain⟨its,r,pl,hz⟩:=I.tuple hq;refine SeqAt.in_tupleAt (FY x) pl (λw hw=>Lb rx fx r fs w (by simpa using hw)) ⟨.bl _,H,I,rfl,?_⟩;rw[show its.toArray.any (FY x)=its.any (FY x) by simp,MI r fs];exact q
theorem AEE:Av X (compareOp .NotIn) (RZ X.K true):=by
 intro pins s σ H x y v u Q I rx ry h;obtain⟨p,xs,rfl,hq,fx,fs,q⟩:=h;cases ry;rcases hq with hq|hq
 .obtain⟨its,r,pl,hz⟩:=I.list hq;refine SeqAt.notIn_listAt (FY x) pl.isList (λw hw=>Lb rx fx r fs w (by simpa using hw)) ⟨.bl _,H,I,rfl,?_⟩;rw[show its.toArray.any (FY x)=its.any (FY x) by simp,MI r fs];exact q
 .obtain⟨its,r,pl,hz⟩:=I.tuple hq;refine SeqAt.notIn_tupleAt (FY x) pl (λw hw=>Lb rx fx r fs w (by simpa using hw)) ⟨.bl _,H,I,rfl,?_⟩;rw[show its.toArray.any (FY x)=its.any (FY x) by simp,MI r fs];exact q
theorem AHA:Cz X (.builtin "len") (λxs H Q=>∃p ys,xs=[.ref p]/\(Bj X.K H p ys\/Bt X.K H p ys)/\Q (.int ys.length) H):=by
 intro pins s σ H xs us Q I r h;obtain⟨p,ys,rfl,hq,q⟩:=h;obtain⟨u,rfl,rx⟩:=En r;cases rx;have hn:=KS;rcases hq with hq|hq
 .obtain⟨its,r',pl,hz⟩:=I.list hq;have hlen:=r'.length;exact Calls.call_len_list pl.isList (by simp only[Bx] <;> omega) ⟨.int ys.length,H,I.tok _,⟨s.toks+1,by rw[Bx,hlen]⟩,q⟩
 .obtain⟨its,r',pl,hz⟩:=I.tuple hq;have hlen:=r'.length;exact len_tuple pl (by simp only[Bx] <;> omega) ⟨.int ys.length,H,I.tok _,⟨s.toks+1,by rw[Bx,hlen]⟩,q⟩
theorem AG9:Cz X (.builtin "len") (λxs H Q=>∃z,xs=[.str z]/\z.length<=sizeLine/\Q (.int z.length) H):=by intro pins s σ H xs us Q I r h;obtain⟨z,rfl,hz,q⟩:=h;obtain⟨u,rfl,t,rfl⟩:=En r;have hn:=KS;exact len_str (by omega) ⟨.int z.length,H,I.tok _,⟨_,rfl⟩,q⟩
theorem Cz.or{f:Value}{r r':List V->Hp->VK->Prop}(h:Cz X f r)(h':Cz X f r'):Cz X f (λxs H Q=>r xs H Q\/r' xs H Q):=by
 intro pins s σ H xs us Q I rs q;rcases q with q|q
 .exact h pins s σ H xs us Q I rs q
 .exact h' pins s σ H xs us Q I rs q
theorem AG8:Cz X (.type "list") (λxs H Q=>∃p ys,xs=[.ref p]/\(Bj X.K H p ys\/Bt X.K H p ys)/\∀l,H l=none->Q (.ref l) (upd H l (.lst ys))):=by
 intro pins s σ H xs us Q I r h;obtain⟨p,ys,rfl,hq,q⟩:=h;obtain⟨u,rfl,rx⟩:=En r;cases rx
 have fin:∀(its:List Value),Ak ys its->ys.length<=sizeLine->∀(h':Heap) (c':Nat),(∀b o',s.heap.get? b=some o'->h'.get? b=some o') ->
   h'.get? s.heap.objs.size=some {cls:=.type "list",dict:=none,data:=.seq its.toArray c',slots:=#[]}->EP X pins σ Q (.ref s.heap.objs.size) {s with heap:=h'}:=λits r' hz h' c' kp e =>
  ⟨.ref s.heap.objs.size,_,I.laid (t':=s.toks) kp (Al _) (show Cc X.prog X.w _ h' _ (.lst ys) from ⟨hz,its,c',r',e⟩),rfl,q _ (I.hok.fresh (Al _))⟩
 rcases hq with hq|hq
 .obtain⟨its,r',pl,hz⟩:=I.list hq;have hlen:=r'.length;obtain⟨o,ho,hc,n,hd⟩:=pl.isList;exact call_list_seq p (.inl rfl) ho hc hd (λh' c' kp e=>fin its r' hz h' c' kp e) (by simp only[Bx] <;> omega)
 .obtain⟨its,r',pl,hz⟩:=I.tuple hq;have hlen:=r'.length;obtain⟨o,ho,hc,n,hd⟩:=pl;exact call_list_seq p (.inr rfl) ho hc hd (λh' c' kp e=>fin its r' hz h' c' kp e) (by simp only[Bx] <;> omega)
theorem AG5:Cz X (.type "tuple") (λxs H Q=>∃p ys,xs=[.ref p]/\((Bj X.K H p ys/\∀l,H l=none->Q (.ref l) (upd H l (.tup ys)))\/(Bt X.K H p ys/\Q (.ref p) H))):=by
 intro pins s σ H xs us Q I r h;obtain⟨p,ys,rfl,h⟩:=h;obtain⟨u,rfl,rx⟩:=En r;cases rx;rcases h with⟨hq,q⟩|⟨hq,q⟩
 .obtain⟨its,r',pl,hz⟩:=I.list hq;have hlen:=r'.length;refine call_tuple_list pl.isList (λh' kp=>?_) (by simp only[Bx] <;> omega);have I1:AK X pins σ H {s with heap:=h'}:=I.kept (t':=s.toks) kp
  have I2:AK X pins σ (upd H h'.objs.size (.tup ys)) {s with heap:=h'.push {cls:=.type "tuple",data:=.seq its.toArray}} :=
   I1.laid (t':=s.toks) (λb o e=>Heap.get?_push_of_some _ e) (Al _) (show Cc X.prog X.w _ _ _ (.tup ys) from ⟨hz,its,r',IsTup.new _ _⟩)
  exact⟨.ref h'.objs.size,_,I2,rfl,q _ (I1.hok.fresh (Al _))⟩
 .obtain⟨its,r',pl,hz⟩:=I.tuple hq;exact call_tuple_same pl ⟨.ref p,H,I,rfl,q⟩
def Mx(K:AO)(T:String)(x:V)(H:Hp):Prop:=match x with
 |.str _=>T = "str"
 |.int _=>T = "int"
 |.ref p=>(T = "list"/\∃xs,Bj K H p xs)\/(T = "tuple"/\∃o,K.lookup p=some o/\o.cls=.type "tuple"/\o.dict=none) \/
   (T = "dict"/\((∃kvs,H p=some (.dK kvs))\/(∃kvs,H p=some (.dT kvs))\/∃kvs ep,H p=some (.dN kvs ep)))\/(T = "set"/\∃S n,H p=some (.set S n))
 |_=>False
theorem Uy{pins:List (Addr×Obj)}{σ:St}{H:Hp}{s:Shared}{T:String}{x:V}{v:Value}(I:AK X pins σ H s)(r:Ai x v)(ty:Mx X.K T x H) :
  s.TypeIs v T/\∀a,v=.ref a->∃ob,s.heap.get? a=some ob/\ob.dict=none:=by
 cases x with
 |str z =>
  obtain⟨t,rfl⟩:=r;cases (show T = "str" from ty);exact⟨typeIs_str s z t,λ_ e=>nomatch e⟩
 |int i =>
  obtain⟨t,rfl⟩:=r;cases (show T = "int" from ty);exact⟨typeIs_int s i t,λ_ e=>nomatch e⟩
 |ref p =>
  cases r;rcases ty with⟨rfl,xs,hq⟩|⟨rfl,o,hk,hc,hd⟩|⟨rfl,hk⟩|⟨rfl,S,n,hk⟩
  .obtain⟨its,_,pl,_⟩:=I.list hq;refine⟨pl.isList.typeIs,λa e=>?_⟩;cases e;obtain⟨o,n,e,c,hd,_⟩:=pl;exact⟨o,e,hd⟩
  .refine⟨⟨o,I.kIn p o hk,hc⟩,λa e=>?_⟩;cases e;exact⟨o,I.kIn _ o hk,hd⟩
  .have z:∃o,s.heap.get? p=some o/\o.ExactDict:=by
    rcases hk with⟨kvs,hk⟩|⟨kvs,hk⟩|⟨kvs,ep,hk⟩
    .obtain⟨_,_,_,_,o,_,_,e,ex,_⟩:=I.hok p _ hk;exact⟨o,e,ex⟩
    .obtain⟨_,_,_,_,o,_,_,e,ex,_⟩:=I.hok p _ hk;exact⟨o,e,ex⟩
    .obtain⟨_,_,_,_,o,_,e,ex,_⟩:=I.hok p _ hk;exact⟨o,e,ex⟩
   obtain⟨o,e,ex⟩:=z;refine⟨⟨o,e,ex.1⟩,λa e2=>?_⟩;cases e2;exact⟨o,e,ex.2.1⟩
  .obtain⟨o,_,_,_,e,ex,_⟩:=I.hok p _ hk;refine⟨⟨o,e,ex.1⟩,λa e2=>?_⟩;cases e2;exact⟨o,e,ex.2.1⟩
 |_=>exact False.elim ty
def ABl(K:AO)(T:String)(r:V->List V->Hp->VK->Prop)(to:TE):TE:=λσ H Q=>to σ H λx H1=>Mx K T x H1/\r x [] H1 Q
def tBM(K:AO)(T:String)(r:V->List V->Hp->VK->Prop)(to:TE)(t:TA):TE:=λσ H Q=>to σ H λx H1=>Mx K T x H1/\t σ H1 λxs H2=>r x xs H2 Q
variable {o e:Expr}{es:List Expr}{to:TE}{t:TA}{name:Str}{apos cpos:Pos}{T id:String}{r:V->List V->Hp->VK->Prop}
theorem ADx(pa:PlainAttrs T)(slot:Slot T name id)(hty:typeOf (.builtin id)=pure (.type "method_descriptor"))(hm:FS X id r)(ho:PE X o to)
  (hbase:attributeBase o name X.env (eval o X.env)=eval o X.env:=by rfl) (hline:(apos.endLine == cpos.line)=true:=by rfl):PE X (.Call (.Attribute o name apos) [] [] cpos) (ABl X.K T r to):=by
 intro pins s σ H Q I h;refine wpAny_Call_method0_late hbase hline (Ah (ho pins s σ H _ I h) λv s1 z2_=>?_);obtain⟨x,H1,I1,r1,ty,q1⟩:=z2_;obtain⟨h1,h2⟩:=Uy I1 r1 ty;exact⟨T,id,pa,slot,hty,h1,h2,Calls.callWith_builtin rfl (PySem.evalArgs_none (hm pins s1 σ H1 x [] v [] Q I1 r1 .nil q1))⟩
theorem ADy(pa:PlainAttrs T)(slot:Slot T name id)(hty:typeOf (.builtin id)=pure (.type "method_descriptor"))(hm:FS X id r)(ho:PE X o to)(ha:PA X (e::es) t)
  (hbase:attributeBase o name X.env (eval o X.env)=eval o X.env:=by rfl)
  (hfew:((backTo cpos (starEach (e::es) X.env)).all (λx=>!x.1)&&(backToKw cpos (keywordEach [] X.env)).all (λx=>x.1.isSome)
   && decide ((e::es).length+([]:List Keyword).length+(if ([]:List Keyword).isEmpty then 0 else 1)<30))=true:=by rfl)
  (hline:(apos.endLine == cpos.line)=true:=by rfl) (hs:starEach (e::es) X.env=(false,eval e X.env)::starEach es X.env:=by rfl) (hplain:(backTo cpos (starEach es X.env)).any (·.1)=false:=by rfl) :
  PE X (.Call (.Attribute o name apos) (e::es) [] cpos) (tBM X.K T r to t):=by
 intro pins s σ H Q I h;refine wpAny_Call_method_late hbase hfew hline rfl (Ah (ho pins s σ H _ I h) λv s1 z2_=>?_);obtain⟨x,H1,I1,r1,ty,q1⟩:=z2_;obtain⟨h1,h2⟩:=Uy I1 r1 ty;refine⟨T,id,pa,slot,hty,h1,h2,?_⟩;have hA:=ha cpos pins s1 σ H1 _ I1 q1;rw[hs] at hA ⊢;refine Calls.callWith_builtin (by show(false || (backTo cpos (starEach es X.env)).any (·.1))=false;rw[hplain] <;> rfl) (Calls.evalArgs_plain ?_);exact Ah hA λus s2 z2_=>by obtain⟨vs,H2,I2,r2,q2⟩:=z2_;exact hm pins s2 σ H2 x vs v us Q I2 r1 r2 q2
end
def TZ(X:Cx)(id:String)(r:V->List V->Hp->VK->Prop):Prop :=
 ∀(pins:List (Addr×Obj)) (s:Shared) (σ:St) (H:Hp) (x:V) (xs:List V) (v:Value) (us:List Value) (Q:VK),AK X pins σ H s->Ai x v->Ak xs us->r x xs H Q ->
  wpAny (model X.prog X.w) X.A (call (.builtin id) (v::us)) (EP X pins σ Q) X.xe s
theorem Ak.one:∀{x:V} {us:List Value},Ak [x] us->∃u,us=[u]/\Ai x u
 |_,_,.cons r .nil=>⟨_,rfl,r⟩
theorem Ak.zero:∀{us:List Value},Ak [] us->us=[]
 |_,.nil=>rfl
section
variable {X:Cx}{pins:List (Addr×Obj)}{σ:St}{H:Hp}{s:Shared}{l b:Addr}{xs ys zs:List V}
theorem AK.lset{its its':List Value}{n:Nat}{f:Array Value->Array Value}{t':Nat}(I:AK X pins σ H s)(hH:H l=some (.lst xs))
  (e:s.heap.get? l=some {cls:=.type "list",data:=.seq its.toArray n}) (hf:f its.toArray=its'.toArray) (hv:Ak ys its') (hz:ys.length<=sizeLine) :
  AK X pins σ (upd H l (.lst ys)) {s with heap:=s.heap.update l (Obj.mapSeq f),toks:=t'}:=by
 have q:=PySem.IsL.update e f;rw[hf] at q;refine I.write (x:=l) (e:=l) (by rw[hH];exact trivial) (.inl rfl) (λb' u hb hu=>(Heap.get?_update_other s.heap (Obj.mapSeq f) (Ne.symm hb)).trans hu) ⟨_,q⟩ ?_;exact⟨hz,its',_,hv,q⟩
theorem AK.lnew{its:List Value}{t':Nat}(I:AK X pins σ H s)(hv:Ak ys its)(hz:ys.length<=sizeLine) :
  AK X pins σ (upd H s.heap.objs.size (.lst ys)) {s with heap:=s.heap.push {cls:=.type "list",data:=.seq its.toArray},toks:=t'} :=
 I.laid (λ_ _ q=>Heap.get?_push_of_some _ q) (Al _) ⟨hz,its,0,hv,Heap.get?_push_size _ rfl⟩
theorem AK.fresh(I:AK X pins σ H s):H s.heap.objs.size=none:=I.hok.fresh (Al _)
theorem AK.lstM(I:AK X pins σ H s)(hH:H l=some (.lst xs)):xs.length<=sizeLine/\∃(its:List Value) (n:Nat),Ak xs its/\xs.length=its.length/\s.heap.get? l=some {cls:=.type "list",data:=.seq its.toArray n}:=by obtain⟨z,its,n,r,e⟩:=I.hok l _ hH;exact⟨z,its,n,r,r.length,e⟩
theorem AEd{n:Nat}(h:n<=sizeLine):Builtin.List.listTooLong n=false:=by unfold Builtin.List.listTooLong;exact decide_eq_false (by omega)
end
section
variable {X:Cx}
def WC:V->List V->Hp->VK->Prop:=λx vs H Q=>∃l xs y,x=.ref l/\vs=[y]/\H l=some (.lst xs)/\xs.length<sizeLine/\Q .non (upd H l (.lst (xs++[y])))
theorem Wq:TZ X "list.append" WC:=by intro pins s σ H x vs v us Q I rx rv h;obtain⟨l,xs,y,rfl,rfl,hH,hz,q⟩:=h;cases rx;obtain⟨u,rfl,ru⟩:=rv.one;obtain⟨z,its,n,r,hl,e⟩:=I.lstM hH;refine call_meets F.slot_list_append ⟨_,e,rfl⟩ F.entry_list_append (F.args_list_append_2 _ _) (PySem.list_append l its.toArray n u (by rw[Bx];omega)) ⟨e,?_⟩;refine⟨.non,_,I.lset (its':=its++[u]) hH e (by simp) (r.append (.cons ru .nil)) ?_,rfl,q⟩;rw[Ck,List.length_singleton];omega
def rExtend:V->List V->Hp->VK->Prop:=λx vs H Q=>∃l b xs zs,x=.ref l/\vs=[.ref b]/\H l=some (.lst xs)/\H b=some (.lst zs)/\xs.length+zs.length<=sizeLine/\Q .non (upd H l (.lst (xs++zs)))
theorem AEl:TZ X "list.extend" rExtend:=by
 intro pins s σ H x vs v us Q I rx rv h;obtain⟨l,b,xs,zs,rfl,rfl,hH,hB,hz,q⟩:=h;cases rx;obtain⟨u,rfl,ru⟩:=rv.one;cases ru;obtain⟨z,its,n,r,hl,e⟩:=I.lstM hH;obtain⟨z2,its2,n2,r2,hl2,e2⟩:=I.lstM hB;have hsz:its.toArray.size+its2.toArray.size<=sizeLine:=by rw[Bx,Bx];omega
 have hlong:¬(!its.toArray.isEmpty&&Builtin.List.listTooLong (its.toArray.size+its2.toArray.size))=true:=by rw[AEd hsz,Bool.and_false];exact Ct
 refine call_meets F.slot_list_extend ⟨_,e,rfl⟩ F.entry_list_extend (F.args_list_extend_2 _ _)
  (AutoSeq1.list_extend_list_list_0 l its.toArray n b its2.toArray n2 hlong (by rw[Bx];omega) (by omega)) ⟨e,e2,?_⟩
 refine⟨.non,_,I.lset (its':=its++its2) hH e (by simp) (r.append r2) ?_,rfl,q⟩;rw[Ck];omega
def rClear:V->List V->Hp->VK->Prop:=λx vs H Q=>∃l xs,x=.ref l/\vs=[]/\H l=some (.lst xs)/\Q .non (upd H l (.lst []))
theorem AEm:TZ X "list.clear" rClear:=by intro pins s σ H x vs v us Q I rx rv h;obtain⟨l,xs,rfl,rfl,hH,q⟩:=h;cases rx;have hus:=rv.zero;subst hus;obtain⟨z,its,n,r,hl,e⟩:=I.lstM hH;refine call_meets F.slot_list_clear ⟨_,e,rfl⟩ F.entry_list_clear (F.args_list_clear_1 _) (AutoSeq1.list_clear_list_0 l its.toArray n (by rw[Bx];omega)) ⟨e,?_⟩;exact⟨.non,_,I.lset (its':=[]) (ys:=[]) hH e rfl .nil (FE _),rfl,q⟩
def rCat:R2:=λx y H Q=>∃l b xs zs,x=.ref l/\y=.ref b/\H l=some (.lst xs)/\H b=some (.lst zs)/\xs.length+zs.length<=sizeLine/\∀p,H p=none->Q (.ref p) (upd H p (.lst (xs++zs)))
theorem AEQ:Av X (binaryOp .Add) rCat:=by
 intro pins s σ H x y v u Q I rx ry h;obtain⟨l,b,xs,zs,rfl,rfl,hH,hB,hz,q⟩:=h;cases rx;cases ry;obtain⟨z,its,n,r,hl,e⟩:=I.lstM hH;obtain⟨z2,its2,n2,r2,hl2,e2⟩:=I.lstM hB;refine PySem.P.add_list e e2 ?_ (by rw[Bx,Bx];omega);have ea:its.toArray++its2.toArray=(its++its2).toArray:=by simp
 rw[ea];exact⟨.ref _,_,I.lnew (t':=s.toks) (r.append r2) (by rw[Ck];omega),rfl,q _ I.fresh⟩
end
section
variable {prog:Program}{w:World}{A:Around}{E:ALL}{s:Shared}
set_option maxRecDepth 100000 in
end
end L2
namespace Att
open PySem PySem.W PySem.Calls PyProof.Rows
theorem ints_of_wellAll{P:Params}{h:Heap}:∀(ns:List Int) (vs:List Value),WellAll P h vs (ns.map WData.int)->IntsAre vs ns:=by
 intro ns
 induction ns with
 |nil =>
  intro vs w;rw[AJ2] at w;cases w;exact .nil
 |cons n ns ih =>
  intro vs w;rw[Am] at w
  cases w with
  |cons a b =>
   cases a;exact .cons _ _ (ih _ b)
theorem AIn{l:OpenLaw}{n:Nat}(hn:l.most=some n){P:Params}{h:Heap}{args:List WData}{vals:List Value}
  (hpre:l.row.toRowW.claim.pre args=true) (hwl:WellAll P h vals args) :
  ∃a vs ns,vals=[Value.ref a]/\args=[WData.list (ns.map WData.int)]/\h.get? a=some {cls:=.type "list",data:=.seq vs.toArray}/\IntsAre vs ns/\ns.length<=n:=by
 have hsh:WShape.hasAll [] args [.list .int]=true:=(pre_splitW hpre).1;have hc:l.pre.holds [] {args:=args}=true:=(pre_splitW hpre).2;obtain⟨d,r,rfl,h1,h2⟩:=hasAllW_cons hsh;obtain rfl:=hasAllW_nil h2;obtain⟨xs,rfl,h3⟩:=hasW_list h1;obtain⟨ns,rfl⟩:=items_int h3
 have hlen:ns.length<=n:=by
  unfold OpenLaw.pre at hc
  have h4:(WTm.not (.lt (.lit (.int (n:Int))) (.len (.arg 0)))).holds [] {args:=[.list (ns.map .int)]}=true:=by have h4:=(holds_andW hc).1;rw[hn] at h4;exact h4
  have h5:=condW_of h4 (w_not (w_lt w_lit (w_len_list (w_arg rfl))));rw[An] at h5;refine Nat.le_of_not_lt λq=>?_;have q':(n:Int)<((ns.length:Nat):Int):=by omega
  first
   |(rw[decide_eq_true q'] at h5;exact absurd h5 (by decide))
   |(simp at h5;omega)
 cases hwl with
 |cons w1 w2 =>
  cases w2
  cases w1 with
  |list ho hall=>exact⟨_,_,ns,rfl,rfl,ho,ints_of_wellAll ns _ hall,hlen⟩
theorem AIr(l:OpenLaw)(args:List WData):l.row.toRowW.claim.post args (.bool true) args=true :=
 postW_of (r:=l.row.toRowW) (X:=(true == true))
  (show WShape.has [] (.bool true) .bool=true by first|rfl|decide|simp[WShape.has,WShape.arms,WShape.armsAll])
  (show(WTm.eq .res (.lit (.bool true))).value [] {args:=args,res:=some (.bool true),after:=args}=some (.bool (true == true)) from w_eq_bool (w_res rfl) w_lit) rfl
end Att
namespace L2
open PySem PySem.Spec PyProof.Rows
theorem Uu:∀{vs:List Value} {ns:List Int},IntsAre vs ns->Ak (ns.map V.int) vs
 |_,_,.nil=>.nil
 |_,_,.cons n t h=>.cons ⟨t,rfl⟩ (Uu h)
def Ze(H:Hp):Prop:=∀b,H b=none\/∃o xs,H b=some (.frz o (.lst xs))
theorem AFS{P:Program}{w:World}{K:AO}{mg mb:ALK}{CX:Gy}{k:Nat}{fa a:Addr}{fd:FuncData}{x:Str}{sp:Sp}{s₁:Shared}{vs:List Value}{ns:List Int}
  (KX:K.In s₁.heap) (hns:s₁.heap.Ns mainGlobals mg) (hb:s₁.heap.Ns builtinsNs mb) (hbb:∀x:Str,x≠"__name__"->mb x=bootBuiltins x) (hlim:s₁.heap.NoLimit) (hg:s₁.gens=#[])
  (ha:s₁.heap.get? a=some {cls:=.type "list",data:=.seq vs.toArray}) (hi:IntsAre vs ns) (hl:ns.length<=sizeLine) (hr:CO k callerA)
  (F:∀base:Heap,K.In base->base.Ns mainGlobals mg->Dx P w K mg base CX k fa fd [x] sp) (hbind:∀(s:Shared) (u:Value),BindsTo s fd ⟨[u],[]⟩ [(x,u)])
  (hsp:∀H:Hp,Ze H->Bj K H a (ns.map V.int)->sp [.ref a] H (λv _=>v=.bl true) λ_ _ _=>False)
  (hCX:∀H e s',CX [] H s₁ (λ_ _ _=>False) e s'->False) :
  codeAny (model P w) callerA (.call (.ref fa) ⟨[.ref a],[]⟩) (λr s'=>r=.ok (.ret (.bool true))/\OldK s₁.heap s'.heap/\s'.os=s₁.os/\AllBare s'.gens) s₁:=by
 have rv:=Uu hi;have lenV:=hi.length
 -- from an abstract heap in which nothing but the script may be tracked
 have core:∀H:Hp,Ze H->Bj K H a (ns.map V.int)->DY P w H s₁.heap->(∀b,H b≠none->b=a)->(H a≠none->K.lookup a=none) ->
   codeAny (model P w) callerA (.call (.ref fa) ⟨[.ref a],[]⟩) (λr s'=>r=.ok (.ret (.bool true))/\OldK s₁.heap s'.heap/\s'.os=s₁.os/\AllBare s'.gens) s₁:=by
  intro H hO hS hok hA hK;have base_of:∀{b:Addr} {o:Obj},s₁.heap.get? b=some o->H b=none->(IS s₁.heap H).get? b=some o:=λe n=>AFz e n
  have noA:∀{b:Addr} {o:Obj} {es:Array DictEntry} {ep:Nat},s₁.heap.get? b=some o->o.data=.dict es ep->H b=none:=λ{b o es ep} e d=>by
   cases q:H b with
   |none=>rfl
   |some u =>
    have e':b=a:=hA b (by rw[q];simp);subst e';rw[ha] at e;cases e;have d':Data.seq vs.toArray _=Data.dict es ep:=d;cases d'
  have nsK:∀{b:Addr} {m:ALK},s₁.heap.Ns b m->(IS s₁.heap H).Ns b m:=λ{b m} ⟨o,es,ep,e,d,r⟩=>⟨o,es,ep,base_of e (noA e d),d,r⟩
  have hKb:K.In (IS s₁.heap H):=λb o e=>base_of (KX b o e) (by
   cases q:H b with
   |none=>rfl
   |some u =>
    have e':b=a:=hA b (by rw[q];simp);subst e'
    rw[hK (by rw[q];simp)] at e;cases e)
  have hM:OP K mg (IS s₁.heap H):=⟨hKb,nsK hns,⟨mb,nsK hb,hbb⟩,let ⟨mc,h1,h2⟩:=hlim;⟨mc,nsK h1,h2⟩⟩;have e0:IH P w K mg (IS s₁.heap H) callerA [] s₁ H:=⟨rfl,hM,λb o e=>AEV e,AJz (AFy _ _),trivial,λb hb=>absurd (show b∈([]:List Addr) from hb) (by simp),hok,.of_eq hg⟩;refine codeAny_mono ((F _ hKb (nsK hns)).run callerA [] s₁ H ⟨[.ref a],[]⟩ [.ref a] [.ref a] _ _ hr e0 (hbind s₁ (.ref a)) (.cons rfl .nil) (hsp H hO hS)) λr s' h=>?_
  cases r with
  |error e=>exact(hCX H e s' h).elim
  |ok fl =>
   cases fl with
   |next=>exact False.elim h
   |brk=>exact False.elim h
   |cont=>exact False.elim h
   |ret u =>
    obtain⟨v,H',os,bare,un,hok',r',q⟩:=h;have q':v=.bl true:=q;subst q';obtain rfl:u=Value.bool true:=r';refine⟨rfl,OldK.of_keep λb o e=>?_,os,bare⟩
    cases q:H b with
    |none=>exact un.keep b o e q (by intro z;exact absurd (show b∈([]:List Addr) from z) (by simp)) (by simp)
    |some u =>
     rcases hO b with z|⟨ob,xs,z⟩
     .rw[q] at z;cases z
     .have z2:=un.frzs b ob _ z;obtain⟨e1,_⟩:=hok b _ z;obtain⟨e2,_⟩:=hok' b _ z2;rw[e] at e1;cases e1;exact e2
 cases hk:K.lookup a with
 |some o =>
  -- the script is one of the module's own objects
  have e:=KX a o hk;rw[ha] at e;cases e;refine core (λ_=>none) (λ_=>.inl rfl) (.inr ⟨_,vs.toArray,_,hk,rfl,rfl,rfl,by rw[Bx,lenV];exact hl,by simpa using rv⟩) (λb u z=>by have z':(none:Option HO)=some u:=z;cases z') (λb z=>absurd rfl z) λz=>absurd rfl z
 |none =>
  refine core (λb=>if b=a then some (.frz {cls:=.type "list",data:=.seq vs.toArray} (.lst (ns.map V.int))) else none) (λb=>?_) (.inl (.inr ⟨{cls:=.type "list",data:=.seq vs.toArray},if_pos rfl⟩)) (λb u z=>?_) (λb z=>?_) λ_=>hk
  .by_cases hb:b=a
   .exact .inr ⟨_,_,if_pos hb⟩
   .exact .inl (if_neg hb)
  .by_cases hb:b=a
   .have z':=(if_pos hb).symm.trans z;cases z';subst hb;exact⟨ha,by rw[An];exact hl,vs,_,rv,ha⟩
   .have z':=(if_neg hb).symm.trans z;cases z'
  .by_cases hb:b=a
   .exact hb
   .exact absurd (if_neg hb) z
def Jq(s:Stmt):Arguments:=match s with
 |.FunctionDef _ a _ _ _ _ _ _ _ _=>a
 |_=>{posonlyargs:=[],args:=[],vararg:=none,kwonlyargs:=[],kw_defaults:=[],kwarg:=none,defaults:=[]}
def Gr(s:Stmt):List Stmt:=match s with
 |.FunctionDef _ _ b _ _ _ _ _ _ _=>b
 |_=>[]
def Ab(s:Stmt):Scope:=match s with
 |.FunctionDef _ _ _ _ _ _ sc _ _ _=>sc
 |_=>{kind:=.function,names:=[],isGenerator:=false,isCoroutine:=false}
abbrev CX0:Gy:=λ_ _ _ _ _ _=>False
abbrev E0:XK:=λ_ _ _=>False
theorem Rm{X:Cx}:Kw CX0 X E0:=λ_ _ _ _ _ _ _ h=>h.elim
structure Ig (K:AO) (x qual:Str) (st:Stmt) (f:Addr) (fd:FuncData):Prop where
 ex:∃(oc:Value) (od:Option Addr) (kV doc pm:Value) (an:Option Addr) (cdv ct:Value) (osl:Array (Option Value)),
  fd=AJq x qual (Jq st) (Gr st) (Ab st) .none kV doc pm an cdv ct/\K.lookup f=some ⟨oc,od,.func fd,osl⟩/\AKk K cdv qual=true
 kp:HB K (.ref f)=true
section
variable {P:Program}{w:World}{K:AO}{mg:ALK}{base:Heap}
theorem Ig.ok{x qual:Str}{st:Stmt}{f:Addr}{fd:FuncData}{N ps:List Str}{k:Nat}{sp:Sp}(F:Ig K x qual st f fd)(S:BN N ps (Ab st))(len:∀vs H Q E,sp vs H Q E->vs.length=ps.length)
  (hbody:∀(cdv:Value) (A:Around) (outer:List Env) (s:Shared) (H:Hp) (vs:List V) (Q:VK) (E:XK),CO k (A.deeper (envOfC qual (Ab st) s.heap.objs.size f cdv))->sp vs H Q E ->
   ∃t,EG (IA CX0 P w K mg base N qual (Ab st) f cdv A outer s H E).nox (Gr st) t/\t {nx:=λ_ H'=>Q .non H',rt:=Q} (HK N vs) H):Dx P w K mg base CX0 (k+1) f fd ps sp:=by
 obtain⟨oc,od,kV,doc,pm,an,cdv,ct,osl,rfl,lk,hcd⟩:=F.ex;refine AGP lk hcd S len λA outer s H vs Q E hr hsp=>?_;obtain⟨t,h,q⟩:=hbody cdv A outer s H vs Q E hr hsp;exact⟨t,h.nox,q⟩
theorem Ig.binds{x qual:Str}{st:Stmt}{f:Addr}{fd:FuncData}{ps:List Str}(F:Ig K x qual st f fd)
  (h:∀(kV doc pm:Value) (an:Option Addr) (cdv ct:Value) (us:List Value),us.length=ps.length->bindArgs (AJq x qual (Jq st) (Gr st) (Ab st) .none kV doc pm an cdv ct) ⟨us,[]⟩=pure (ps.zip us)):Fg K fd ps []:=by
 obtain⟨oc,od,kV,doc,pm,an,cdv,ct,osl,rfl,lk,hcd⟩:=F.ex;exact .all (h kV doc pm an cdv ct)
theorem AGL{x qual:Str}{st:Stmt}{f:Addr}{oc:Value}{od an:Option Addr}{osl:Array (Option Value)}{kV doc pm cdv ct:Value}(l:K.lookup f=some ⟨oc,od,.func (AJq x qual (Jq st) (Gr st) (Ab st) .none kV doc pm an cdv ct),osl⟩)
  (c:AKk K cdv qual=true) (k:HB K (.ref f)=true):Ig K x qual st f (AJq x qual (Jq st) (Gr st) (Ab st) .none kV doc pm an cdv ct):=⟨⟨oc,od,kV,doc,pm,an,cdv,ct,osl,rfl,l,c⟩,k⟩
end
section
variable {X:Cx}
theorem pv(i:Nat){x:Str}{pos:Pos}(hN:X.N[i]?=some x)(hv:Kv X.env.scope x)(hd:(x == ("__debug__":Str))=false)
  (hcd:(x == ("__classdict__":Str))=false):PE X (.Name x pos) (RM i):=ADb hN hv hd hcd
end
theorem iteF{A B:Prop}(h:B):if false=true then A else B:=by rw[if_neg Ct];exact h
theorem iteT{A B:Prop}(h:A):if true=true then A else B:=by rw[if_pos rfl];exact h
def IE(H H':Hp):Prop:=∀b o,H b=some o->H' b=some o
theorem IE.refl(H:Hp):IE H H:=λ_ _ h=>h
theorem IE.trans{H H1 H2:Hp}(a:IE H H1)(b:IE H1 H2):IE H H2:=λc o h=>b c o (a c o h)
theorem IE.free{H H':Hp}(e:IE H H'){l:Addr}(h:H' l=Option.none):H l=Option.none:=by
 cases q:H l with
 |none=>rfl
 |some o =>
  rw[e l o q] at h;cases h
theorem IE.seq{K:AO}{H H':Hp}{a:Addr}{xs:List V}(e:IE H H')(h:Bj K H a xs):Bj K H' a xs:=by
 rcases h with(h|⟨o,h⟩)|h
 .exact .inl (.inl (e _ _ h))
 .exact .inl (.inr ⟨o,e _ _ h⟩)
 .exact .inr h
section
variable {κ:Type}[DecidableEq κ]
def Ge(kvs:List (κ×V))(k:κ):Option V:=(kvs.find? λkv=>decide (kv.1=k)).map (·.2)
def Iu(kvs:List (κ×V))(k:κ)(v:V):List (κ×V) :=
 if (kvs.any λkv=>decide (kv.1=k))=true then kvs.map (λkv=>if kv.1=k then (kv.1,v) else kv) else kvs++[(k,v)]
def YY(kvs:List (κ×V))(k:κ):List (κ×V):=kvs.filter λkv=>decide (kv.1≠k)
theorem RH{p:κ×V}{r:List (κ×V)}{k:κ}(e:p.1=k):Ge (p::r) k=some p.2:=by simp[Ge,GH,e]
theorem RI{p:κ×V}{r:List (κ×V)}{k:κ}(e:¬p.1=k):Ge (p::r) k=Ge r k:=by simp[Ge,GH,e]
theorem Uw(k:κ):∀kvs:List (κ×V),(kvs.any λkv=>decide (kv.1=k))=(Ge kvs k).isSome
 |[]=>rfl
 |p::r=>by
  rw[AJs]
  by_cases e:p.1=k
  .simp only[RH e,decide_eq_true e,Bool.true_or,Option.isSome_some]
  .rw[RI e,decide_eq_false e,Bool.false_or];exact Uw k r
theorem GV.isSome_eq{o:Option V}{u:Option Value}(r:GV o u):o.isSome=u.isSome:=by
 cases o with
 |none=>cases u with
  |none=>rfl
  |some _=>exact(show False from r).elim
 |some _=>cases u with
  |none=>exact(show False from r).elim
  |some _=>rfl
theorem GV.getD{o:Option V}{u:Option Value}{d:V}{d':Value}(r:GV o u)(rd:Ai d d'):Ai (o.getD d) (u.getD d'):=by
 cases o with
 |none=>cases u with
  |none=>exact rd
  |some _=>exact(show False from r).elim
 |some _=>cases u with
  |none=>exact(show False from r).elim
  |some _=>exact r
theorem KV.val{kvs:List (κ×V)}{vs:List (κ×Value)}(r:KV kvs vs)(k:κ):GV (Ge kvs k) (valueAt vs k):=by
 unfold KV at r
 induction r with
 |nil=>exact True.intro
 |@cons p q ps qs h t ih =>
  obtain⟨h1,h2⟩:=h
  by_cases e:p.1=k
  .have e':q.1=k:=h1.symm.trans e;have b:valueAt (q::qs) k=some q.2:=by simp[valueAt,GH,e']
   rw[RH e,b];exact h2
  .have e':¬q.1=k:=λz=>e (h1.trans z);have b:valueAt (q::qs) k=valueAt qs k:=by simp[valueAt,GH,e']
   rw[RI e,b];exact ih
theorem KV.any{kvs:List (κ×V)}{vs:List (κ×Value)}(r:KV kvs vs)(k:κ):(kvs.any λkv=>decide (kv.1=k))=vs.any λkv=>decide (kv.1=k):=by
 unfold KV at r
 induction r with
 |nil=>rfl
 |cons h t ih=>rw[AJs,AJs,ih,h.1]
theorem KV.repl{kvs:List (κ×V)}{vs:List (κ×Value)}(r:KV kvs vs)(k:κ){y:V}{u:Value}(ry:Ai y u) :
  KV (kvs.map λkv=>if kv.1=k then (kv.1,y) else kv) (vs.map λkv=>if kv.1=k then (kv.1,u) else kv):=by
 unfold KV at r ⊢
 induction r with
 |nil=>exact .nil
 |@cons p q ps qs h t ih =>
  rw[Am,Am];refine .cons ?_ ih;obtain⟨h1,h2⟩:=h
  by_cases e:p.1=k
  .rw[if_pos e,if_pos (h1.symm.trans e)];exact⟨h1,ry⟩
  .rw[if_neg e,if_neg (λz=>e (h1.trans z))];exact⟨h1,h2⟩
theorem KV.put{kvs:List (κ×V)}{vs:List (κ×Value)}(r:KV kvs vs)(k:κ){y:V}{u:Value}(ry:Ai y u):KV (Iu kvs k y) (stored vs k u):=by
 unfold Iu stored;rw[r.any k]
 by_cases e:(vs.any λkv=>decide (kv.1=k))=true
 .rw[if_pos e,if_pos e];exact r.repl k ry
 .rw[if_neg e,if_neg e];exact Paired.snoc r ⟨rfl,ry⟩
theorem KV.drop{kvs:List (κ×V)}{vs:List (κ×Value)}(r:KV kvs vs)(k:κ):KV (YY kvs k) (without vs k):=by
 unfold KV at r ⊢;unfold YY without
 induction r with
 |nil=>exact .nil
 |@cons p q ps qs h t ih =>
  obtain⟨h1,h2⟩:=h;rw[AKC,AKC]
  by_cases e:p.1=k
  .have a:¬decide (p.1≠k)=true:=by simp[e]
   have b:¬decide (q.1≠k)=true:=by simp[h1.symm.trans e]
   rw[if_neg a,if_neg b];exact ih
  .have e':¬q.1=k:=λz=>e (h1.trans z);have a:decide (p.1≠k)=true:=by simp[e]
   have b:decide (q.1≠k)=true:=by simp[e']
   rw[if_pos a,if_pos b];exact .cons ⟨h1,h2⟩ ih
theorem KV.keys{kvs:List (κ×V)}{vs:List (κ×Value)}(r:KV kvs vs):kvs.map (·.1)=vs.map (·.1):=by
 unfold KV at r
 induction r with
 |nil=>rfl
 |cons h t ih=>rw[Am,Am,ih,h.1]
theorem KV.length{kvs:List (κ×V)}{vs:List (κ×Value)}(r:KV kvs vs):kvs.length=vs.length:=Paired.length r
end
abbrev KT(H:Hp):List (List Key×V)->List (List Key×Addr×Value)->Prop:=Paired λp q=>p.1=q.1/\H q.2.1=some (.tup (p.1.map kV))/\Ai p.2 q.2.2
theorem KT.val{H:Hp}{kvs:List (List Key×V)}{xs:List (List Key×Addr×Value)}(r:KT H kvs xs)(k:List Key):GV (Ge kvs k) ((atKey xs k).map (·.2)):=by
 induction r with
 |nil=>exact True.intro
 |@cons p q ps qs h t ih =>
  obtain⟨h1,_,h2⟩:=h
  by_cases e:p.1=k
  .have e':q.1=k:=h1.symm.trans e;have b:atKey (q::qs) k=some q.2:=by simp[atKey,GH,e']
   rw[RH e,b];exact h2
  .have e':¬q.1=k:=λz=>e (h1.trans z);have b:atKey (q::qs) k=atKey qs k:=by simp[atKey,GH,e']
   rw[RI e,b];exact ih
theorem KT.repl{H:Hp}{kvs:List (List Key×V)}{xs:List (List Key×Addr×Value)}(r:KT H kvs xs)(k:List Key){y:V}{u:Value}(ry:Ai y u) :
  KT H (kvs.map λkv=>if kv.1=k then (kv.1,y) else kv) (xs.map (putAt k u)):=by
 induction r with
 |nil=>exact .nil
 |@cons p q ps qs h t ih =>
  rw[Am,Am];refine .cons ?_ ih;obtain⟨h1,h2,h3⟩:=h;unfold putAt
  by_cases e:p.1=k
  .rw[if_pos e,if_pos (h1.symm.trans e)];exact⟨h1,h2,ry⟩
  .rw[if_neg e,if_neg (λz=>e (h1.trans z))];exact⟨h1,h2,h3⟩
theorem KT.put{H:Hp}{kvs:List (List Key×V)}{xs:List (List Key×Addr×Value)}(r:KT H kvs xs)(k:List Key){b:Addr}{y:V}{u:Value}(hb:H b=some (.tup (k.map kV)))(ry:Ai y u) :
  KT H (Iu kvs k y) (storedH xs k b u):=by
 have e:(kvs.any λkv=>decide (kv.1=k))=(atKey xs k).isSome:=by rw[Uw,(r.val k).isSome_eq,Option.isSome_map]
 unfold Iu storedH;rw[e]
 by_cases q:(atKey xs k).isSome=true
 .rw[if_pos q,if_pos q];exact r.repl k ry
 .rw[if_neg q,if_neg q];exact Paired.snoc r ⟨rfl,hb,ry⟩
theorem KT.keeps{H H':Hp}{kvs:List (List Key×V)}{xs:List (List Key×Addr×Value)}(r:KT H kvs xs)(ht:∀b ys,H b=some (.tup ys)->H' b=some (.tup ys)):KT H' kvs xs :=
 Paired.mapP r λ_ _ z=>⟨z.1,ht _ _ z.2.1,z.2.2⟩
def OT(H:Hp)(a:Addr)(y:V)(r:Option V):Prop :=
 (∃kvs k,Rd H a (.dK kvs)/\y=kV k/\r=Ge kvs k)\/∃kvs k b,Rd H a (.dT kvs)/\y=.ref b/\H b=some (.tup (k.map kV))/\r=Ge kvs k
def OS(H:Hp)(a:Addr)(y v:V)(H':Hp):Prop :=
 (∃kvs k,H a=some (.dK kvs)/\y=kV k/\kvs.length<sizeLine/\H'=upd H a (.dK (Iu kvs k v))) \/
 ∃kvs k b,H a=some (.dT kvs)/\y=.ref b/\H b=some (.tup (k.map kV))/\kvs.length<sizeLine/\H'=upd H a (.dT (Iu kvs k v))
theorem OT.k{H:Hp}{a:Addr}{kvs:List (Key×V)}{k:Key}(e:H a=some (.dK kvs)):OT H a (kV k) (Ge kvs k):=.inl ⟨kvs,k,.inl e,rfl,rfl⟩
theorem OT.t{H:Hp}{a b:Addr}{kvs:List (List Key×V)}{k:List Key}(e:H a=some (.dT kvs))(eb:H b=some (.tup (k.map kV))):OT H a (.ref b) (Ge kvs k):=.inr ⟨kvs,k,b,.inl e,rfl,eb,rfl⟩
theorem OS.k{H:Hp}{a:Addr}{kvs:List (Key×V)}{k:Key}{v:V}(e:H a=some (.dK kvs))(hl:kvs.length<sizeLine):OS H a (kV k) v (upd H a (.dK (Iu kvs k v))):=.inl ⟨kvs,k,e,rfl,hl,rfl⟩
theorem OS.t{H:Hp}{a b:Addr}{kvs:List (List Key×V)}{k:List Key}{v:V}(e:H a=some (.dT kvs))(eb:H b=some (.tup (k.map kV)))(hl:kvs.length<sizeLine) :
  OS H a (.ref b) v (upd H a (.dT (Iu kvs k v))):=.inr ⟨kvs,k,b,e,rfl,eb,hl,rfl⟩
section
variable {X:Cx}{pins:List (Addr×Obj)}{σ:St}{H:Hp}{s:Shared}{a:Addr}{y v:V}{u r:Value}{o:Option V}{A:Around}{E:ALL}
theorem AK.big(I:AK X pins σ H s):sysModules<s.heap.objs.size:=by have h:mainGlobals<s.heap.objs.size:=(I.mod.glob.keeps I.bk).lt;exact Nat.lt_trans (by decide) h
theorem AGr{h':Heap}{t':Nat}{ob:HO}(I:AK X pins σ H s)(mu:MM (H a))(hs:Heap.SameBut a s.heap h')(he:∃q,h'.get? a=some q)(new:Cc X.prog X.w (upd H a ob) h' a ob) :
  AK X pins σ (upd H a ob) {s with heap:=h',toks:=t'} :=
 I.write (x:=a) (e:=a) mu (.inl rfl) (λb q hb z=>(hs.2 b hb).trans z) he new
end
end L2
set_option maxHeartbeats 4000000
namespace L3
open PySem PySem.Spec PyProof.Rows L2
inductive D where
 |non|bl (b:Bool)|int (i:Int)|str (x:Str)|tup (xs:List D)|fz (xs:List D)|ref (k:Nat)|ty (n:String)
mutual
def D.beq:D->D->Bool
 |.non,.non=>true
 |.bl a,.bl b=>a == b
 |.int a,.int b=>a == b
 |.str a,.str b=>decide (a=b)
 |.tup a,.tup b=>D.beqL a b
 |.fz a,.fz b=>D.beqL a b
 |.ref a,.ref b=>a == b
 |.ty a,.ty b=>a == b
 |_,_=>false
def D.beqL:List D->List D->Bool
 |[],[]=>true
 |a::as,b::bs=>D.beq a b&&D.beqL as bs
 |_,_=>false
end
mutual
theorem D.beq_refl:∀a:D,D.beq a a=true
 |.non=>rfl
 |.bl b=>(beq_self_eq_true b:(b == b)=true)
 |.int b=>(beq_self_eq_true b:(b == b)=true)
 |.str b=>(decide_eq_true rfl:decide (b=b)=true)
 |.tup xs=>(D.beqL_refl xs:D.beqL xs xs=true)
 |.fz xs=>(D.beqL_refl xs:D.beqL xs xs=true)
 |.ref b=>(beq_self_eq_true b:(b == b)=true)
 |.ty b=>(beq_self_eq_true b:(b == b)=true)
theorem D.beqL_refl:∀a:List D,D.beqL a a=true
 |[]=>rfl
 |a::as=>by show(D.beq a a&&D.beqL as as)=true;rw[D.beq_refl a,D.beqL_refl as];rfl
end
mutual
theorem D.eq_of_beq:∀{a b:D},D.beq a b=true->a=b
 |.non,b,h=>by
  cases b with
  |non=>rfl
  |_=>exact HI (show false=true from h)
 |.bl x,b,h=>by
  cases b with
  |bl y=>rw[LawfulBEq.eq_of_beq (show(x == y)=true from h)]
  |_=>exact HI (show false=true from h)
 |.int x,b,h=>by
  cases b with
  |int y=>rw[LawfulBEq.eq_of_beq (show(x == y)=true from h)]
  |_=>exact HI (show false=true from h)
 |.str x,b,h=>by
  cases b with
  |str y=>rw[of_decide_eq_true (show decide (x=y)=true from h)]
  |_=>exact HI (show false=true from h)
 |.tup xs,b,h=>by
  cases b with
  |tup ys=>rw[D.eq_of_beqL (show D.beqL xs ys=true from h)]
  |_=>exact HI (show false=true from h)
 |.fz xs,b,h=>by
  cases b with
  |fz ys=>rw[D.eq_of_beqL (show D.beqL xs ys=true from h)]
  |_=>exact HI (show false=true from h)
 |.ref x,b,h=>by
  cases b with
  |ref y=>rw[LawfulBEq.eq_of_beq (show(x == y)=true from h)]
  |_=>exact HI (show false=true from h)
 |.ty x,b,h=>by
  cases b with
  |ty y=>rw[LawfulBEq.eq_of_beq (show(x == y)=true from h)]
  |_=>exact HI (show false=true from h)
theorem D.eq_of_beqL:∀{a b:List D},D.beqL a b=true->a=b
 |[],b,h=>by
  cases b with
  |nil=>rfl
  |cons _ _=>exact HI (show false=true from h)
 |a::as,b,h=>by
  cases b with
  |nil=>exact HI (show false=true from h)
  |cons b bs =>
   have h:(D.beq a b&&D.beqL as bs)=true:=h;rw[CJ] at h;rw[D.eq_of_beq h.1,D.eq_of_beqL h.2]
end
noncomputable instance:DecidableEq D:=λa b=>if h:D.beq a b=true then .isTrue (D.eq_of_beq h) else .isFalse λe=>h (by rw[e];exact D.beq_refl b)
inductive Ob where
 |lst (xs:List D)|dk (kvs:List (Key×D))|dt (kvs:List (NK×D)) (ep:Nat)|ins (c:Str) (fs:List (Str×D))|exn (c:Str)
deriving DecidableEq
abbrev AD:=List Ob
abbrev ALM:=D->AD->Prop
abbrev Fm:=List (Option D)
def SqF(K:AO)(H:Hp)(a:Addr)(xs:List V):Prop :=
 (∃o,H a=some (.frz o (.lst xs))) \/
  ∃(o:Obj) (its:Array Value) (n:Nat),K.lookup a=some o/\o.cls=.type "list"/\o.dict=none/\o.data=.seq its n/\its.size<=sizeLine/\Ak xs its.toList
theorem SqF.sql{K:AO}{H:Hp}{a:Addr}{xs:List V}(h:SqF K H a xs):Bj K H a xs:=by
 rcases h with h|h
 .exact .inl (.inr h)
 .exact .inr h
mutual
inductive Is (K:AO) (H:Hp) (O:List Addr):V->D->Prop
 |non:Is K H O .non .non
 |bl (b:Bool):Is K H O (.bl b) (.bl b)
 |int (i:Int):Is K H O (.int i) (.int i)
 |str (x:Str):x.length<=16777216->Is K H O (.str x) (.str x)
 |tup {a:Addr} {vs:List V} {ds:List D}:Bt K H a vs->AV K H O vs ds->Is K H O (.ref a) (.tup ds)
 |fz {a:Addr} {vs:List V} {ds:List D}:SqF K H a vs->AV K H O vs ds->Is K H O (.ref a) (.fz ds)
 |ref {k:Nat} {a:Addr}:O[k]?=some a->Is K H O (.ref a) (.ref k)
 |ty (n:String):Is K H O (.ty n) (.ty n)
inductive AV (K:AO) (H:Hp) (O:List Addr):List V->List D->Prop
 |nil:AV K H O [] []
 |cons {v:V} {d:D} {vs:List V} {ds:List D}:Is K H O v d->AV K H O vs ds->AV K H O (v::vs) (d::ds)
end
def Tf:HO->Prop
 |.tup _=>True
 |.frz _ _=>True
 |_=>False
def Fe(H H':Hp):Prop:=∀a o,H a=some o->Tf o->H' a=some o
def Aq(H:Hp)(O:List Addr)(H':Hp)(O':List Addr):Prop:=Fe H H'/\O <+: O'
theorem Fe.refl(H:Hp):Fe H H:=λ_ _ h _=>h
theorem Fe.trans{H H1 H2:Hp}(a:Fe H H1)(b:Fe H1 H2):Fe H H2:=λc o h f=>b c o (a c o h f) f
theorem Aq.refl(H:Hp)(O:List Addr):Aq H O H O:=⟨.refl H,Ac O⟩
theorem Aq.trans{H H1 H2:Hp}{O O1 O2:List Addr}(a:Aq H O H1 O1)(b:Aq H1 O1 H2 O2):Aq H O H2 O2:=⟨a.1.trans b.1,a.2.trans b.2⟩
theorem Fe.ext{H H':Hp}(h:∀a o,H a=some o->H' a=some o):Fe H H':=λa o e _=>h a o e
theorem Fe.new{H:Hp}{p:Addr}{o:HO}(h:H p=none):Fe H (upd H p o):=.ext λa u e=>by rw[Bn (Du e h)];exact e
theorem Fe.write{H:Hp}{p:Addr}{o u:HO}(h:H p=some u)(n:¬Tf u):Fe H (upd H p o):=λa x e f=>by
 by_cases z:a=p
 .subst z;rw[h] at e;cases e;exact absurd f n
 .rw[Bn z];exact e
section
variable {K:AO}{H H':Hp}{O O':List Addr}
theorem Bt.grow{a:Addr}{xs:List V}(g:Fe H H')(h:Bt K H a xs):Bt K H' a xs:=by
 rcases h with(h|⟨o,h⟩)|h
 .exact .inl (.inl (g _ _ h True.intro))
 .exact .inl (.inr ⟨o,g _ _ h True.intro⟩)
 .exact .inr h
theorem SqF.grow{a:Addr}{xs:List V}(g:Fe H H')(h:SqF K H a xs):SqF K H' a xs:=by
 rcases h with⟨o,h⟩|h
 .exact .inl ⟨o,g _ _ h True.intro⟩
 .exact .inr h
theorem AEi{α:Type}{N:List α}(hN:N.Nodup){i j:Nat}{x:α}(a:N[i]?=some x)(b:N[j]?=some x):i=j:=by
 obtain⟨h1,g1⟩:=BY.mp a;obtain⟨h2,g2⟩:=BY.mp b;have p:=List.pairwise_iff_getElem.mp hN;rcases Nat.lt_trichotomy i j with h|h|h
 .exact absurd (g1.trans g2.symm) (p i j h1 h2 h)
 .exact h
 .exact absurd (g2.trans g1.symm) (p j i h2 h1 h)
theorem Dt{α:Type}{O O':List α}(h:O <+: O'){k:Nat}{a:α}(e:O[k]?=some a):O'[k]?=some a:=by obtain⟨t,rfl⟩:=h;rw[Fh (BY.mp e).1];exact e
theorem Is.mono(st:Aq H O H' O'){v:V}{d:D}(h:Is K H O v d):Is K H' O' v d :=
 Is.rec (motive_1:=λv d _=>Is K H' O' v d) (motive_2:=λv d _=>AV K H' O' v d) .non .bl .int .str (λh _ r=>.tup (Bt.grow st.1 h) r) (λh _ r=>.fz (SqF.grow st.1 h) r) (λh=>.ref (Dt st.2 h)) .ty .nil (λ_ _ a b=>.cons a b) h
theorem AV.mono(st:Aq H O H' O'){v:List V}{d:List D}(h:AV K H O v d):AV K H' O' v d :=
 AV.rec (motive_1:=λv d _=>Is K H' O' v d) (motive_2:=λv d _=>AV K H' O' v d) .non .bl .int .str (λh _ r=>.tup (Bt.grow st.1 h) r) (λh _ r=>.fz (SqF.grow st.1 h) r) (λh=>.ref (Dt st.2 h)) .ty .nil (λ_ _ a b=>.cons a b) h
theorem AV.length{vs:List V}{ds:List D}(h:AV K H O vs ds):vs.length=ds.length :=
 AV.rec (motive_1:=λ_ _ _=>True) (motive_2:=λvs ds _=>vs.length=ds.length) ⟨⟩ (λ_=>⟨⟩) (λ_=>⟨⟩) (λ_ _=>⟨⟩) (λ_ _ _=>⟨⟩) (λ_ _ _=>⟨⟩) (λ_=>⟨⟩) (λ_=>⟨⟩) rfl (λ_ _ _ b=>congrArg (·+1) b) h
theorem AV.get:∀{vs:List V} {ds:List D} {i:Nat} {d:D},AV K H O vs ds->ds[i]?=some d->∃v,vs[i]?=some v/\Is K H O v d
 |_,_,_,_,.nil,e=>by simp at e
 |_,_,0,_,.cons a _,e=>by simp at e;subst e;exact⟨_,rfl,a⟩
 |_,_,i+1,d,.cons _ b,e=>by
  obtain⟨v,h1,h2⟩:=AV.get (i:=i) (d:=d) b (by simpa using e);exact⟨v,by simpa using h1,h2⟩
theorem AV.append:∀{vs ws:List V} {ds es:List D},AV K H O vs ds->AV K H O ws es->AV K H O (vs++ws) (ds++es)
 |_,_,_,_,.nil,b=>b
 |_,_,_,_,.cons a c,b=>.cons a (AV.append c b)
theorem AV.take:∀{vs:List V} {ds:List D} (n:Nat),AV K H O vs ds->AV K H O (vs.take n) (ds.take n)
 |_,_,0,_=>.nil
 |_,_,_+1,.nil=>.nil
 |_,_,n+1,.cons r t=>.cons r (AV.take n t)
theorem AV.drop:∀{vs:List V} {ds:List D} (n:Nat),AV K H O vs ds->AV K H O (vs.drop n) (ds.drop n)
 |_,_,0,r=>r
 |_,_,_+1,.nil=>.nil
 |_,_,n+1,.cons _ t=>AV.drop n t
theorem AV.set{v:V}{d:D}(r:Is K H O v d):∀{vs:List V} {ds:List D} (i:Nat),AV K H O vs ds->AV K H O (vs.set i v) (ds.set i d)
 |_,_,_,.nil=>.nil
 |_,_,0,.cons _ t=>.cons r t
 |_,_,i+1,.cons q t=>.cons q (AV.set r i t)
theorem AV.one{v:V}{ds:List D}(h:AV K H O [v] ds):∃d,ds=[d]/\Is K H O v d:=by cases h with|cons a b=>cases b;exact⟨_,rfl,a⟩
def keyD:Key->D
 |.inl i=>.int i
 |.inr x=>.str x
def Jm:Key ⊕ List Key->D
 |.inl k=>keyD k
 |.inr ks=>.tup (ks.map keyD)
def Eb(k:NK):D:=.tup (k.map Jm)
def GZ(K:AO)(c:Str)(C:Addr):Prop:=Cp K mainGlobals c=some (some (.ref C))
def Hg(K:AO)(H:Hp)(O:List Addr)(a:Addr):Ob->Prop
 |.exn c=>∃C:Addr,GZ K c C/\H a=some (.ext λh=>∃o,h.get? a=some o/\o.cls=.ref C)
 |.ins c fs=>∃(C dx:Addr) (us:List (Str×V)),GZ K c C/\H a=some (.ins C dx us)/\us.map (·.1)=fs.map (·.1)/\AV K H O (us.map (·.2)) (fs.map (·.2))
 |.lst ds=>∃vs,H a=some (.lst vs)/\AV K H O vs ds
 |.dk kvs=>∃us:List (Key×V),H a=some (.dK us)/\us.map (·.1)=kvs.map (·.1)/\AV K H O (us.map (·.2)) (kvs.map (·.2))
 |.dt kvs ep=>∃us:List (NK×Addr×V),H a=some (.dN us ep)/\us.map (·.1)=kvs.map (·.1)/\AV K H O (us.map (·.2.2)) (kvs.map (·.2))/\∀u∈us,Is K H O (.ref u.2.1) (Eb u.1)
structure BD (K:AO) (H:Hp) (O:List Addr) (L:AD):Prop where
 len:O.length=L.length
 nd:O.Nodup
 ob:∀(k:Nat) (a:Addr) (o:Ob),O[k]?=some a->L[k]?=some o->Hg K H O a o
theorem Hg.ho{a:Addr}{o:Ob}(h:Hg K H O a o):∃u,H a=some u/\¬Tf u:=by
 cases o with
 |lst ds=>obtain⟨vs,e,_⟩:=h;exact⟨_,e,id⟩
 |dk ds=>obtain⟨vs,e,_⟩:=h;exact⟨_,e,id⟩
 |dt ds ep=>obtain⟨vs,e,_⟩:=h;exact⟨_,e,id⟩
 |ins c fs=>obtain⟨C,dx,us,_,e,_⟩:=h;exact⟨_,e,id⟩
 |exn c=>obtain⟨C,_,e⟩:=h;exact⟨_,e,id⟩
theorem Hg.move{a:Addr}{o:Ob}(h:Hg K H O a o)(st:Aq H O H' O')(e:H' a=H a):Hg K H' O' a o:=by
 cases o with
 |lst ds=>obtain⟨vs,q,r⟩:=h;exact⟨vs,by rw[e];exact q,r.mono st⟩
 |dk ds=>obtain⟨vs,q,r1,r2⟩:=h;exact⟨vs,by rw[e];exact q,r1,r2.mono st⟩
 |dt ds ep=>obtain⟨vs,q,r1,r2,r3⟩:=h;exact⟨vs,by rw[e];exact q,r1,r2.mono st,λu hu=>(r3 u hu).mono st⟩
 |ins c fs=>obtain⟨C,dx,us,z,q,r1,r2⟩:=h;exact⟨C,dx,us,z,by rw[e];exact q,r1,r2.mono st⟩
 |exn c=>obtain⟨C,z,q⟩:=h;exact⟨C,z,by rw[e];exact q⟩
theorem BD.has{L:AD}(r:BD K H O L){k:Nat}{a:Addr}(e:O[k]?=some a):∃o,L[k]?=some o/\Hg K H O a o:=by
 have h:k<L.length:=by rw[<-r.len];exact(BY.mp e).1
 exact⟨L[k],by simp[h],r.ob k a _ e (by simp[h])⟩
theorem BD.at{L:AD}(r:BD K H O L){k:Nat}{o:Ob}(e:L[k]?=some o):∃a,O[k]?=some a/\Hg K H O a o:=by
 have h:k<O.length:=by rw[r.len];exact(BY.mp e).1
 exact⟨O[k],by simp[h],r.ob k _ o (by simp[h]) e⟩
theorem BD.ext{L:AD}(r:BD K H O L)(k:∀a o,H a=some o->H' a=some o):BD K H' O L :=
 ⟨r.len,r.nd,λj a o e1 e2=>by
  have q:=r.ob j a o e1 e2;obtain⟨u,hu,_⟩:=q.ho
  exact q.move ⟨.ext k,Ac _⟩ (by rw[hu];exact k a u hu)⟩
theorem BD.new{L:AD}{p:Addr}{u:HO}{o:Ob}(r:BD K H O L)(hp:H p=none)(n:Hg K (upd H p u) (O++[p]) p o):BD K (upd H p u) (O++[p]) (L++[o]):=by
 have hm:p∉O:=λhm=>by
  obtain⟨k,hk,e⟩:=AKV hm;obtain⟨o',_,q⟩:=r.has (k:=k) (a:=p) (by rw[<-e];simp[hk]);obtain⟨u',hu,_⟩:=q.ho;rw[hp] at hu;cases hu
 refine⟨by simp[r.len],by rw[Hl];exact⟨r.nd,by simp,λa ha b hb=>by simp at hb;subst hb;rintro rfl;exact hm ha⟩,λk a o' e1 e2=>?_⟩
 by_cases h:k<O.length
 .rw[Fh h] at e1;rw[Fh (by rw[<-r.len];exact h)] at e2;have q:=r.ob k a o' e1 e2;obtain⟨u',hu,_⟩:=q.ho;exact q.move ⟨.new hp,BB _ _⟩ (by rw[Bn (Du hu hp)])
 .have hk:k=O.length:=by
   have:=(BY.mp e1).1;simp at this;omega
  subst hk;rw[AJ0 (Al _)] at e1;rw[AJ0 (by rw[r.len];exact Al _)] at e2;simp at e1;rw[r.len] at e2;simp at e2;subst e1 e2;exact n
theorem BD.write{L:AD}{k:Nat}{a:Addr}{u:HO}{o':Ob}(r:BD K H O L)(e:O[k]?=some a)(n:Hg K (upd H a u) O a o'):BD K (upd H a u) O (L.set k o'):=by
 obtain⟨o,e2,q⟩:=r.has e;obtain⟨u0,hu0,nf⟩:=q.ho;refine⟨by simp[r.len],r.nd,λj b o2 f1 f2=>?_⟩
 by_cases h:j=k
 .subst h;rw[e] at f1;cases f1;rw[AJ9 (BY.mp e2).1] at f2;cases f2;exact n
 .rw[Em (Ne.symm h)] at f2;have q2:=r.ob j b o2 f1 f2
  have hb:b≠a:=λz=>by
   subst z;exact h (AEi r.nd f1 e)
  exact q2.move ⟨.write hu0 nf,Ac _⟩ (by rw[Bn hb])
end
structure Ih (K:AO) (H:Hp) (O:List Addr) (σ:L2.St) (ρ:Fm):Prop where
 len:σ.length=ρ.length
 at':∀(i:Nat) (d:D),ρ[i]?=some (some d)->∃v,σ[i]?=some (some v)/\Is K H O v d
structure Dn (K:AO) (H:Hp) (O:List Addr) (σ:L2.St) (ρ:Fm) (L:AD):Prop where
 s:BD K H O L
 f:Ih K H O σ ρ
theorem Ih.mono{K:AO}{H H':Hp}{O O':List Addr}{σ:L2.St}{ρ:Fm}(st:Aq H O H' O')(h:Ih K H O σ ρ):Ih K H' O' σ ρ :=
 ⟨h.len,λi d e=>let ⟨v,a,b⟩:=h.at' i d e;⟨v,a,b.mono st⟩⟩
theorem Ih.set{K:AO}{H:Hp}{O:List Addr}{σ:L2.St}{ρ:Fm}{v:V}{d:D}(h:Ih K H O σ ρ)(r:Is K H O v d)(i:Nat):Ih K H O (σ.set i (some v)) (ρ.set i (some d)):=by
 refine⟨by simp[h.len],λj e q=>?_⟩
 by_cases z:j=i
 .subst z
  have hj:j<ρ.length:=by have:=(BY.mp q).1;simpa using this
  rw[AJ9 hj] at q;cases q;exact⟨v,by rw[AJ9 (by rw[h.len];exact hj)],r⟩
 .rw[Em (Ne.symm z)] at q;obtain⟨v',a,b⟩:=h.at' j e q;exact⟨v',by rw[Em (Ne.symm z)];exact a,b⟩
abbrev EF:=Fm->AD->Option (D×AD)
abbrev TF:=Fm->AD->Option (Bool×AD)
abbrev AF:=Fm->AD->Option (List D×AD)
abbrev G1:=D->AD->Option (D×AD)
abbrev G2:=D->D->AD->Option (D×AD)
abbrev GL:=List D->AD->Option (D×AD)
def HQ(K:AO)(f:EF):TE:=λσ H Q=>∃O ρ L d L',Dn K H O σ ρ L/\f ρ L=some (d,L') /\
 ∀v H' O',Aq H O H' O'->BD K H' O' L'->Is K H' O' v d->Q v H'
def NZ(K:AO)(f:TF):TT:=λσ H Q=>∃O ρ L b L',Dn K H O σ ρ L/\f ρ L=some (b,L') /\
 ∀H' O',Aq H O H' O'->BD K H' O' L'->Q b H'
def SG(K:AO)(f:AF):TA:=λσ H Q=>∃O ρ L ds L',Dn K H O σ ρ L/\f ρ L=some (ds,L') /\
 ∀vs H' O',Aq H O H' O'->BD K H' O' L'->AV K H' O' vs ds->Q vs H'
def Af(X:Cx)(e:Expr)(f:EF):Prop:=PE X e (HQ X.K f)
def Fc(X:Cx)(e:Expr)(f:TF):Prop:=PT X e (NZ X.K f)
def JN(X:Cx)(e:Expr)(f:TF):Prop:=PW X e (NZ X.K f)
def FR(X:Cx)(es:List Expr)(f:AF):Prop:=PA X es (SG X.K f)
theorem PE.weaken{X:Cx}{e:Expr}{t t':TE}(h:PE X e t)(i:∀σ H Q,t' σ H Q->t σ H Q):PE X e t':=λpins s σ H Q I q=>h pins s σ H Q I (i σ H Q q)
theorem PT.weaken{X:Cx}{e:Expr}{t t':TT}(h:PT X e t)(i:∀σ H Q,t' σ H Q->t σ H Q):PT X e t':=λpins s σ H Q I q=>h pins s σ H Q I (i σ H Q q)
theorem PW.weaken{X:Cx}{e:Expr}{t t':TT}(h:PW X e t)(i:∀σ H Q,t' σ H Q->t σ H Q):PW X e t':=λw pins s σ H Q I q=>h w pins s σ H Q I (i σ H Q q)
theorem PA.weaken{X:Cx}{e:List Expr}{t t':TA}(h:PA X e t)(i:∀σ H Q,t' σ H Q->t σ H Q):PA X e t':=λp pins s σ H Q I q=>h p pins s σ H Q I (i σ H Q q)
theorem Dn.to{K:AO}{H H':Hp}{O O':List Addr}{σ:L2.St}{ρ:Fm}{L L':AD}(r:Dn K H O σ ρ L)(st:Aq H O H' O')(rs:BD K H' O' L'):Dn K H' O' σ ρ L':=⟨rs,r.f.mono st⟩
def AE(d:D):EF:=λ_ L=>some (d,L)
def AA(i:Nat):EF:=λρ L=>match ρ[i]? with|some (some d)=>some (d,L)|_=>none
def AG(g:G2)(fa fb:EF):EF:=λρ L=>(fa ρ L).bind λx=>(fb ρ x.2).bind λy=>g x.1 y.1 y.2
def BZ(g:G1)(fa:EF):EF:=λρ L=>(fa ρ L).bind λx=>g x.1 x.2
section
variable {X:Cx}{a b c:Expr}{fa fb fc:EF}{pos:Pos}
theorem Kn{v:V}{d:D}(h:PE X a (tC v))(i:∀H O,Is X.K H O v d):Af X a (AE d) :=
 PE.weaken h λσ H Q z3_=>by
  obtain⟨O,ρ,L,d',L',r,e,k⟩:=z3_;cases e;exact k _ _ _ (.refl _ _) r.s (i _ _)
theorem AL{i:Int}{j:Nat}{pos:Pos}:Af X (.Constant (.int i) j pos) (AE (.int i)):=Kn ADo λ_ _=>.int _
theorem Ew{i:Bool}{j:Nat}{pos:Pos}:Af X (.Constant (.bool i) j pos) (AE (.bl i)):=Kn AD0 λ_ _=>.bl _
theorem ED{j:Nat}{pos:Pos}:Af X (.Constant .none j pos) (AE .non):=Kn ADk λ_ _=>.non
theorem BJ{x:Str}{j:Nat}{pos:Pos}(h:x.length<=16777216:=by decide):Af X (.Constant (.str x) j pos) (AE (.str x)):=Kn ADe λ_ _=>.str _ h
theorem AGh{i:Nat}(h:PE X a (RM i)):Af X a (AA i) :=
 PE.weaken h λσ H Q z3_=>by
  obtain⟨O,ρ,L,d',L',r,e,k⟩:=z3_;unfold AA at e;split at e
  .rename_i d hd;cases e;obtain⟨v,hv,is⟩:=r.f.at' i _ hd;exact⟨v,hv,k _ _ _ (.refl _ _) r.s is⟩
  .cases e
def rD(K:AO)(g:G2):R2:=λv u H Q=>∃O L x y d L',BD K H O L/\Is K H O v x/\Is K H O u y/\g x y L=some (d,L') /\
 ∀w H' O',Aq H O H' O'->BD K H' O' L'->Is K H' O' w d->Q w H'
def rC(K:AO)(g:GL):List V->Hp->VK->Prop:=λvs H Q=>∃O L xs d L',BD K H O L/\AV K H O vs xs/\g xs L=some (d,L') /\
 ∀w H' O',Aq H O H' O'->BD K H' O' L'->Is K H' O' w d->Q w H'
def DG(X:Cx)(f:Value->Value->Sem Value)(g:G2):Prop:=Av X f (rD X.K g)
def Ff(X:Cx)(f:Value)(g:GL):Prop:=Cz X f (rC X.K g)
def OQ(X:Cx)(g:G2):Prop:=Fz X (rD X.K g)
theorem Av.weaken{f:Value->Value->Sem Value}{r r':R2}(h:Av X f r)(i:∀x y H Q,r' x y H Q->r x y H Q):Av X f r' :=
 λpins s σ H x y v u Q I rx ry q=>h pins s σ H x y v u Q I rx ry (i _ _ _ _ q)
theorem Fz.weaken{r r':R2}(h:Fz X r)(i:∀x y H Q,r' x y H Q->r x y H Q):Fz X r' :=
 λa b pins s σ H x y v u Q I rx ry q=>h a b pins s σ H x y v u Q I rx ry (i _ _ _ _ q)
theorem Cz.weaken{f:Value}{r r':List V->Hp->VK->Prop}(h:Cz X f r)(i:∀xs H Q,r' xs H Q->r xs H Q):Cz X f r' :=
 λpins s σ H xs us Q I rx q=>h pins s σ H xs us Q I rx (i _ _ _ q)
theorem two_lift{K:AO}{g:G2}{σ:L2.St}{H:Hp}{Q:VK}(h:HQ K (AG g fa fb) σ H Q):LN (rD K g) (HQ K fa) (HQ K fb) σ H Q:=by
 obtain⟨O,ρ,L,d,L',r,e,k⟩:=h;unfold AG at e
 cases e1:fa ρ L with
 |none=>rw[e1] at e;cases e
 |some p =>
  rw[e1] at e;simp only[AS] at e
  cases e2:fb ρ p.2 with
  |none=>rw[e2] at e;cases e
  |some q =>
   rw[e2] at e;simp only[AS] at e;refine⟨O,ρ,L,p.1,p.2,r,e1,λv H1 O1 st1 rs1 is1=>?_⟩;refine⟨O1,ρ,p.2,q.1,q.2,r.to st1 rs1,e2,λu H2 O2 st2 rs2 is2=>?_⟩;exact⟨O2,q.2,p.1,q.1,d,L',rs2,is1.mono st2,is2,e,λw H' O' st rs is=>k w H' O' ((st1.trans st2).trans st) rs is⟩
theorem AW{op:Operator}{g:G2}(ho:DG X (binaryOp op) g)(ha:Af X a fa)(hb:Af X b fb):Af X (.BinOp a op b pos) (AG g fa fb) :=
 PE.weaken (ADh ho ha hb) λ_ _ _ h=>two_lift h
theorem GR{op:CmpOp}{g:G2}(ho:DG X (compareOp op) g)(ha:Af X a fa)(hb:Af X b fb)(hm:behindInMarks op b=false):Af X (.Compare a [op] [b] pos) (AG g fa fb) :=
 PE.weaken (ADs ho ha hb hm) λ_ _ _ h=>two_lift h
theorem Dk{g:G2}(ho:OQ X g)(ha:Af X a fa)(hb:Af X b fb)(hs:TV b):Af X (.Subscript a b pos) (AG g fa fb) :=
 PE.weaken (ADn ho ha hb hs) λ_ _ _ h=>two_lift h
def AX(f:EF):TF:=λρ L=>(f ρ L).bind λx=>match x.1 with|.bl b=>some (b,x.2)|_=>none
theorem TD{K:AO}{f:EF}{σ:L2.St}{H:Hp}{Q:Bool->Hp->Prop}(h:NZ K (AX f) σ H Q):HQ K f σ H λx H'=>∃k,x=.bl k/\Q k H':=by
 obtain⟨O,ρ,L,b,L',r,e,k⟩:=h;unfold AX at e
 cases e1:f ρ L with
 |none=>rw[e1] at e;cases e
 |some p =>
  rw[e1] at e;obtain⟨d,L1⟩:=p
  cases d <;> simp only[AS] at e <;> try (cases e;done)
  cases e;refine⟨O,ρ,L,_,_,r,e1,λv H' O' st rs is=>?_⟩;cases is;exact⟨_,rfl,k H' O' st rs⟩
theorem Ay{op:CmpOp}{g:G2}(ho:DG X (compareOp op) g)(ha:Af X a fa)(hb:Af X b fb)(hm:behindInMarks op b=false):Fc X (.Compare a [op] [b] pos) (AX (AG g fa fb)) :=
 PT.weaken (ACw ho ha hb hm) λσ H Q h=>by
  have q:=TD h;exact two_lift q
theorem DO(ha:Af X a fa)(he:∀whole,isTrue a X.env whole=(do let v <-whole;standAt a.pos;holding [v] (truthy v)):=by intro _;rfl):Fc X a (AX fa) :=
 PT.weaken (ACu ha he) λσ H Q h=>TD h
def Dg(f:TF):TF:=λρ L=>(f ρ L).bind λx=>some (!x.1,x.2)
def Jz(f g:TF):TF:=λρ L=>(f ρ L).bind λx=>if x.1=true then g ρ x.2 else some (false,x.2)
def DR(f g:TF):TF:=λρ L=>(f ρ L).bind λx=>if x.1=true then some (true,x.2) else g ρ x.2
theorem EI{f:TF}(ha:Fc X a f):Fc X (.UnaryOp .Not a pos) (Dg f) :=
 PT.weaken (ACv ha) λσ H Q z3_=>by
  obtain⟨O,ρ,L,b,L',r,e,k⟩:=z3_;unfold Dg at e
  cases e1:f ρ L with
  |none=>rw[e1] at e;cases e
  |some p=>rw[e1] at e;cases e;exact⟨O,ρ,L,p.1,p.2,r,e1,λH' O' st rs=>k H' O' st rs⟩
theorem Uo{f:TF}(ha:Fc X a f):JN X (.BoolOp .And [a] pos) f:=ACk ha
theorem FU{f:TF}(ha:Fc X a f):JN X (.BoolOp .Or [a] pos) f:=ACi ha
theorem Up{f g:TF}{rest:List Expr}(ha:Fc X a f)(hb:JN X (.BoolOp .And (b::rest) pos) g):JN X (.BoolOp .And (a::b::rest) pos) (Jz f g) :=
 PW.weaken (ACl ha hb) λσ H Q z3_=>by
  obtain⟨O,ρ,L,c,L',r,e,k⟩:=z3_;unfold Jz at e
  cases e1:f ρ L with
  |none=>rw[e1] at e;cases e
  |some p =>
   rw[e1] at e;obtain⟨b1,L1⟩:=p;refine⟨O,ρ,L,b1,L1,r,e1,λH1 O1 st rs=>?_⟩
   cases b1 with
   |true =>
    refine iteT ⟨O1,ρ,L1,c,L',r.to st rs,by simpa using e,λH' O' st' rs'=>k H' O' (st.trans st') rs'⟩
   |false =>
    simp at e;obtain⟨rfl,rfl⟩:=e;exact iteF (k H1 O1 st rs)
theorem EA{f g:TF}{rest:List Expr}(ha:Fc X a f)(hb:JN X (.BoolOp .Or (b::rest) pos) g):JN X (.BoolOp .Or (a::b::rest) pos) (DR f g) :=
 PW.weaken (ACj ha hb) λσ H Q z3_=>by
  obtain⟨O,ρ,L,c,L',r,e,k⟩:=z3_;unfold DR at e
  cases e1:f ρ L with
  |none=>rw[e1] at e;cases e
  |some p =>
   rw[e1] at e;obtain⟨b1,L1⟩:=p;refine⟨O,ρ,L,b1,L1,r,e1,λH1 O1 st rs=>?_⟩
   cases b1 with
   |true =>
    simp at e;obtain⟨rfl,rfl⟩:=e;exact iteT (k H1 O1 st rs)
   |false =>
    refine iteF ⟨O1,ρ,L1,c,L',r.to st rs,by simpa using e,λH' O' st' rs'=>k H' O' (st.trans st') rs'⟩
theorem Ep{f:TF}(h:JN X a f):Fc X a f:=PW.pt h
def EQ(f g:EF):EF:=λρ L=>(f ρ L).bind λx=>match x.1 with|.bl true=>g ρ x.2|.bl false=>some (.bl false,x.2)|_=>none
def KO(f g:EF):EF:=λρ L=>(f ρ L).bind λx=>match x.1 with|.bl true=>some (.bl true,x.2)|.bl false=>g ρ x.2|_=>none
def Jh(f:EF):EF:=λρ L=>(f ρ L).bind λx=>match x.1 with|.bl b=>some (.bl (!b),x.2)|_=>none
theorem HV{op:BoolOp}{f:EF}(h:Af X a f):Af X (.BoolOp op [a] pos) f:=ADi h
theorem Fu{f g:EF}{rest:List Expr}(ha:Af X a f)(hb:Af X (.BoolOp .And (b::rest) pos) g):Af X (.BoolOp .And (a::b::rest) pos) (EQ f g) :=
 PE.weaken (AD1 ha hb) λσ H Q z3_=>by
  obtain⟨O,ρ,L,c,L',r,e,k⟩:=z3_;unfold EQ at e
  cases e1:f ρ L with
  |none=>rw[e1] at e;cases e
  |some p =>
   rw[e1] at e;obtain⟨d,L1⟩:=p;refine⟨O,ρ,L,d,L1,r,e1,λv H1 O1 st rs is=>?_⟩
   cases d <;> simp only[AS] at e <;> try (cases e;done)
   rename_i b1;cases is;refine⟨b1,rfl,?_⟩
   cases b1 with
   |true=>exact iteT ⟨O1,ρ,L1,c,L',r.to st rs,by simpa using e,λv H' O' st' rs' is'=>k v H' O' (st.trans st') rs' is'⟩
   |false =>
    simp at e;obtain⟨rfl,rfl⟩:=e;exact iteF (k _ H1 O1 st rs (.bl _))
theorem AGi{f g:EF}{rest:List Expr}(ha:Af X a f)(hb:Af X (.BoolOp .Or (b::rest) pos) g):Af X (.BoolOp .Or (a::b::rest) pos) (KO f g) :=
 PE.weaken (ADg ha hb) λσ H Q z3_=>by
  obtain⟨O,ρ,L,c,L',r,e,k⟩:=z3_;unfold KO at e
  cases e1:f ρ L with
  |none=>rw[e1] at e;cases e
  |some p =>
   rw[e1] at e;obtain⟨d,L1⟩:=p;refine⟨O,ρ,L,d,L1,r,e1,λv H1 O1 st rs is=>?_⟩
   cases d <;> simp only[AS] at e <;> try (cases e;done)
   rename_i b1;cases is;refine⟨b1,rfl,?_⟩
   cases b1 with
   |false=>exact iteF ⟨O1,ρ,L1,c,L',r.to st rs,by simpa using e,λv H' O' st' rs' is'=>k v H' O' (st.trans st') rs' is'⟩
   |true =>
    simp at e;obtain⟨rfl,rfl⟩:=e;exact iteT (k _ H1 O1 st rs (.bl _))
theorem Sn{f:EF}(ha:Af X a f):Af X (.UnaryOp .Not a pos) (Jh f) :=
 PE.weaken (ADj ha) λσ H Q z3_=>by
  obtain⟨O,ρ,L,c,L',r,e,k⟩:=z3_;unfold Jh at e
  cases e1:f ρ L with
  |none=>rw[e1] at e;cases e
  |some p =>
   rw[e1] at e;obtain⟨d,L1⟩:=p;refine⟨O,ρ,L,d,L1,r,e1,λv H1 O1 st rs is=>?_⟩
   cases d <;> simp only[AS] at e <;> try (cases e;done)
   cases e;cases is;exact⟨_,rfl,k _ H1 O1 st rs (.bl _)⟩
def IR(t:TF)(f g:EF):EF:=λρ L=>(t ρ L).bind λx=>if x.1=true then f ρ x.2 else g ρ x.2
theorem Nx{t:TF}{f g:EF}(hc:Fc X c t)(ha:Af X a f)(hb:Af X b g):Af X (.IfExp c a b pos) (IR t f g) :=
 PE.weaken (ADp hc ha hb) λσ H Q z3_=>by
  obtain⟨O,ρ,L,d,L',r,e,k⟩:=z3_;unfold IR at e
  cases e1:t ρ L with
  |none=>rw[e1] at e;cases e
  |some p =>
   rw[e1] at e;obtain⟨b1,L1⟩:=p;refine⟨O,ρ,L,b1,L1,r,e1,λH1 O1 st rs=>?_⟩
   cases b1 with
   |true=>exact iteT ⟨O1,ρ,L1,d,L',r.to st rs,by simpa using e,λv H' O' st' rs' is'=>k v H' O' (st.trans st') rs' is'⟩
   |false=>exact iteF ⟨O1,ρ,L1,d,L',r.to st rs,by simpa using e,λv H' O' st' rs' is'=>k v H' O' (st.trans st') rs' is'⟩
def FN:Expr->Bool
 |.Starred _ _=>false
 |_=>true
theorem IJ{e:Expr}{es:List Expr}{env:Env}(h:FN e=true):starEach (e::es) env=(false,eval e env)::starEach es env:=by cases e <;> first|rfl|(cases h)
theorem Jd:∀{es:List Expr} {env:Env} {pos:Pos},es.all FN=true->(backTo pos (starEach es env)).any (·.1)=false
 |[],_,_,_=>rfl
 |e::es,env,pos,h=>by
  rw[AJ1,CJ] at h;rw[IJ h.1];have:=Jd (env:=env) (pos:=pos) h.2;unfold backTo at this ⊢;rw[Am,AJs,this];rfl
theorem WG:∀{es:List Expr} {env:Env} {pos:Pos},es.all FN=true->(backTo pos (starEach es env)).all (λx=>!x.1)=true
 |[],_,_,_=>rfl
 |e::es,env,pos,h=>by
  rw[AJ1,CJ] at h;rw[IJ h.1];have:=WG (env:=env) (pos:=pos) h.2;unfold backTo at this ⊢;rw[Am,AJ1,this];rfl
def AI:AF:=λ_ L=>some ([],L)
def AB(f:EF)(g:AF):AF:=λρ L=>(f ρ L).bind λx=>(g ρ x.2).bind λy=>some (x.1::y.1,y.2)
theorem AJ:FR X [] AI:=PA.weaken AD9 λσ H Q z3_=>by obtain⟨O,ρ,L,d,L',r,e,k⟩:=z3_;cases e;exact k _ _ _ (.refl _ _) r.s .nil
theorem AC{e:Expr}{es:List Expr}{f:EF}{g:AF}(ha:Af X e f)(hr:FR X es g)(hs:FN e=true:=by rfl):FR X (e::es) (AB f g) :=
 PA.weaken (AEA ha hr (IJ hs)) λσ H Q z3_=>by
  obtain⟨O,ρ,L,d,L',r,e,k⟩:=z3_;unfold AB at e
  cases e1:f ρ L with
  |none=>rw[e1] at e;cases e
  |some p =>
   rw[e1] at e;simp only[AS] at e
   cases e2:g ρ p.2 with
   |none=>rw[e2] at e;cases e
   |some q =>
    rw[e2] at e;cases e;refine⟨O,ρ,L,p.1,p.2,r,e1,λv H1 O1 st1 rs1 is1=>?_⟩;refine⟨O1,ρ,p.2,q.1,q.2,r.to st1 rs1,e2,λu H2 O2 st2 rs2 is2=>?_⟩;exact k _ _ _ (st1.trans st2) rs2 (.cons (is1.mono st2) is2)
def DN(f:AF):EF:=λρ L=>(f ρ L).bind λx=>if x.1.length<=16777216 then some (.tup x.1,x.2) else none
def CM(f:AF):EF:=λρ L=>(f ρ L).bind λx=>if x.1.length<=16777216 then some (.ref x.2.length,x.2++[.lst x.1]) else none
theorem Dv{es:List Expr}{f:AF}{x1:Nat}(h:FR X es f):Af X (.Tuple es x1 pos) (DN f) :=
 PE.weaken (ADd h) λσ H Q z3_=>by
  obtain⟨O,ρ,L,d,L',r,e,k⟩:=z3_;unfold DN at e
  cases e1:f ρ L with
  |none=>rw[e1] at e;cases e
  |some p =>
   rw[e1] at e;simp only[AS] at e;split at e
   .rename_i hz;cases e;refine⟨O,ρ,L,p.1,p.2,r,e1,λvs H1 O1 st rs is=>⟨by rw[is.length,sizeLine_eq];exact hz,λq hq=>?_⟩⟩;have st2:Aq H1 O1 (upd H1 q (.tup vs)) O1:=⟨.new hq,Ac _⟩;exact k _ _ _ (st.trans st2) (rs.ext λa u e=>by rw[Bn (Du e hq)];exact e) (.tup (Bt.of Ce) (is.mono st2))
   .cases e
theorem Cn{es:List Expr}{f:AF}(h:FR X es f):Af X (.List es pos) (CM f) :=
 PE.weaken (ADm h) λσ H Q z3_=>by
  obtain⟨O,ρ,L,d,L',r,e,k⟩:=z3_;unfold CM at e
  cases e1:f ρ L with
  |none=>rw[e1] at e;cases e
  |some p =>
   rw[e1] at e;simp only[AS] at e;split at e
   .rename_i hz;cases e;refine⟨O,ρ,L,p.1,p.2,r,e1,λvs H1 O1 st rs is=>⟨by rw[is.length,sizeLine_eq];exact hz,λq hq=>?_⟩⟩;have st2:Aq H1 O1 (upd H1 q (.lst vs)) (O1++[q]):=⟨.new hq,BB _ _⟩;refine k _ _ _ (st.trans st2) (rs.new hq ⟨vs,Ce,is.mono st2⟩) (.ref ?_);rw[<-rs.len];simp
   .cases e
def AQ(g:GL)(f:AF):EF:=λρ L=>(f ρ L).bind λx=>g x.1 x.2
theorem Ss{K:AO}{g:GL}{f:AF}{σ:L2.St}{H:Hp}{Q:VK}(h:HQ K (AQ g f) σ H Q):SG K f σ H λvs H1=>rC K g vs H1 Q:=by
 obtain⟨O,ρ,L,d,L',r,e,k⟩:=h;unfold AQ at e
 cases e1:f ρ L with
 |none=>rw[e1] at e;cases e
 |some p =>
  rw[e1] at e;exact⟨O,ρ,L,p.1,p.2,r,e1,λvs H1 O1 st rs is=>⟨O1,p.2,p.1,d,L',rs,is,e,λw H' O' st' rs' is'=>k w H' O' (st.trans st') rs' is'⟩⟩
theorem BP{x:Str}{p:Pos}{e:Expr}{es:List Expr}{id:String}{g:GL}{f:AF}(hc:Ff X (.builtin id) g)(hm:X.mg x=none)(hv:bootBuiltins x=some (.builtin id))(ha:FR X (e::es) f)(hg:Gl X x:=by rfl)(hn:x≠"__name__":=by decide)(hdb:(x == ("__debug__":Str))=false:=by decide)
  (he:FN e=true:=by rfl) (hpl:es.all FN=true:=by rfl):Af X (.Call (.Name x p) (e::es) [] pos) (AQ g f) :=
 PE.weaken (ADu hc hg hm hv ha hn hdb (IJ he) (Jd hpl)) λσ H Q h=>Ss h
theorem GS{x:Str}{p:Pos}{e:Expr}{es:List Expr}{T:String}{g:GL}{f:AF}(hc:Ff X (.type T) g)(hm:X.mg x=none)(hv:bootBuiltins x=some (.type T))(ha:FR X (e::es) f)(hg:Gl X x:=by rfl)(hn:x≠"__name__":=by decide)(hdb:(x == ("__debug__":Str))=false:=by decide)
  (he:FN e=true:=by rfl) (hpl:es.all FN=true:=by rfl):Af X (.Call (.Name x p) (e::es) [] pos) (AQ g f) :=
 PE.weaken (ADt hc hg hm hv ha hn hdb (IJ he) (Jd hpl)) λσ H Q h=>Ss h
end
inductive Hf where
 |next (ρ:Fm) (L:AD)|ret (d:D) (L:AD)|brk (ρ:Fm) (L:AD)|cont (ρ:Fm) (L:AD)
abbrev SF:=Fm->AD->Option Hf
def JM(K:AO)(H:Hp)(O:List Addr)(E:KC):Hf->Prop
 |.next ρ L=>∀σ' H' O',Aq H O H' O'->Dn K H' O' σ' ρ L->E.nx σ' H'
 |.ret d L=>∀v H' O',Aq H O H' O'->BD K H' O' L->Is K H' O' v d->E.rt v H'
 |.brk ρ L=>∀σ' H' O',Aq H O H' O'->Dn K H' O' σ' ρ L->E.bk σ' H'
 |.cont ρ L=>∀σ' H' O',Aq H O H' O'->Dn K H' O' σ' ρ L->E.ct σ' H'
theorem JM.mono{K:AO}{H H1:Hp}{O O1:List Addr}{E:KC}{out:Hf}(st:Aq H O H1 O1)(h:JM K H O E out):JM K H1 O1 E out:=by
 cases out with
 |next ρ L=>exact λσ' H' O' st' r=>h σ' H' O' (st.trans st') r
 |ret d L=>exact λv H' O' st' r i=>h v H' O' (st.trans st') r i
 |brk ρ L=>exact λσ' H' O' st' r=>h σ' H' O' (st.trans st') r
 |cont ρ L=>exact λσ' H' O' st' r=>h σ' H' O' (st.trans st') r
def XH(K:AO)(f:SF):TS:=λE σ H=>∃O ρ L out,Dn K H O σ ρ L/\f ρ L=some out/\JM K H O E out
def Ej(X:Cx)(st:Stmt)(f:SF):Prop:=PS X st (XH X.K f)
def GW(X:Cx)(st:List Stmt)(f:SF):Prop:=EG X st (XH X.K f)
theorem PS.weaken{X:Cx}{e:Stmt}{t t':TS}(h:PS X e t)(i:∀D σ H,t' D σ H->t D σ H):PS X e t':=λpins s σ H D I q=>h pins s σ H D I (i D σ H q)
theorem EG.weaken{X:Cx}{e:List Stmt}{t t':TS}(h:EG X e t)(i:∀D σ H,t' D σ H->t D σ H):EG X e t':=λpins s σ H D I q=>h pins s σ H D I (i D σ H q)
def BI:SF:=λρ L=>some (.next ρ L)
def AM(f g:SF):SF:=λρ L=>(f ρ L).bind λout=>match out with|.next ρ' L'=>g ρ' L'|o=>some o
def Aa(f:EF):SF:=λρ L=>(f ρ L).bind λx=>some (.ret x.1 x.2)
def EC(f:EF):SF:=λρ L=>(f ρ L).bind λx=>some (.next ρ x.2)
def AY(i:Nat)(f:EF):SF:=λρ L=>(f ρ L).bind λx=>some (.next (ρ.set i (some x.1)) x.2)
def Ax(t:TF)(f g:SF):SF:=λρ L=>(t ρ L).bind λx=>if x.1=true then f ρ x.2 else g ρ x.2
def Sx:SF:=λρ L=>some (.brk ρ L)
section
variable {X:Cx}{st:Stmt}{rest:List Stmt}{f g:SF}{fe:EF}{e:Expr}{pos:Pos}
theorem BL:GW X [] BI:=EG.weaken ACz λD σ H z3_=>by obtain⟨O,ρ,L,out,r,e,k⟩:=z3_;cases e;exact k σ H O (.refl _ _) r
theorem AN(h1:Ej X st f)(h2:GW X rest g):GW X (st::rest) (AM f g) :=
 EG.weaken (AC0 h1 h2) λD σ H z3_=>by
  obtain⟨O,ρ,L,out,r,e,k⟩:=z3_;unfold AM at e
  cases e1:f ρ L with
  |none=>rw[e1] at e;cases e
  |some o1 =>
   rw[e1] at e;simp only[AS] at e;refine⟨O,ρ,L,o1,r,e1,?_⟩
   cases o1 with
   |next ρ1 L1=>exact λσ' H' O' st' r'=>⟨O',ρ1,L1,out,r',e,k.mono st'⟩
   |ret d L1=>cases e;exact k
   |brk ρ1 L1=>cases e;exact k
   |cont ρ1 L1=>cases e;exact k
theorem AR(h1:Ej X st f):GW X [st] f:=EG.weaken (ACy h1) λD σ H h=>h
theorem ACA:Ej X (.Break pos) Sx:=PS.weaken ADA λD σ H z3_=>by obtain⟨O,ρ,L,out,r,e,k⟩:=z3_;cases e;exact k σ H O (.refl _ _) r
theorem FJ(he:Af X e fe)(hs:swapsWith e none pos.line X.env=pure false:=by rfl):Ej X (.Expr e pos) (EC fe) :=
 PS.weaken (AC9 he hs) λD σ H z3_=>by
  obtain⟨O,ρ,L,out,r,e,k⟩:=z3_;unfold EC at e
  cases e1:fe ρ L with
  |none=>rw[e1] at e;cases e
  |some p=>rw[e1] at e;cases e;exact⟨O,ρ,L,p.1,p.2,r,e1,λv H' O' st rs is=>k σ H' O' st (r.to st rs)⟩
theorem Ad(he:Af X e fe):Ej X (.Return (some e) pos) (Aa fe) :=
 PS.weaken (AC3 he) λD σ H z3_=>by
  obtain⟨O,ρ,L,out,r,e,k⟩:=z3_;unfold Aa at e
  cases e1:fe ρ L with
  |none=>rw[e1] at e;cases e
  |some p=>rw[e1] at e;cases e;exact⟨O,ρ,L,p.1,p.2,r,e1,λv H' O' st rs is=>k v H' O' st rs is⟩
theorem Ag{i:Nat}{x:Str}{pos':Pos}(hN:X.N.Nodup)(he:Af X e fe)(hi:X.N[i]?=some x:=by rfl)(hx:Ie X.env.scope x:=by first|exact Or.inl rfl|exact Or.inr rfl)(hs:swapsWith e (some (.Name x pos')) pos.line X.env=pure false:=by rfl)
  (hf:X.fn x=true\/X.env.scope.names.lookup x=some .local:=by first|exact .inl rfl|exact .inr rfl):Ej X (.Assign [.Name x pos'] e pos) (AY i fe) :=
 PS.weaken (AC2 hN hi hx he hs hf) λD σ H z3_=>by
  obtain⟨O,ρ,L,out,r,e,k⟩:=z3_;unfold AY at e
  cases e1:fe ρ L with
  |none=>rw[e1] at e;cases e
  |some p=>rw[e1] at e;cases e;exact⟨O,ρ,L,p.1,p.2,r,e1,λv H' O' st rs is=>k _ H' O' st ⟨rs,(r.f.mono st).set is i⟩⟩
theorem BG{c:Expr}{a b:List Stmt}{t:TF}(hc:Fc X c t)(ha:GW X a f)(hb:GW X b g):Ej X (.If c a b pos) (Ax t f g) :=
 PS.weaken (AC5 hc ha hb) λD σ H z3_=>by
  obtain⟨O,ρ,L,out,r,e,k⟩:=z3_;unfold Ax at e
  cases e1:t ρ L with
  |none=>rw[e1] at e;cases e
  |some p =>
   rw[e1] at e;obtain⟨b1,L1⟩:=p;refine⟨O,ρ,L,b1,L1,r,e1,λH1 O1 st rs=>?_⟩
   cases b1 with
   |true=>exact iteT ⟨O1,ρ,L1,out,r.to st rs,by simpa using e,k.mono st⟩
   |false=>exact iteF ⟨O1,ρ,L1,out,r.to st rs,by simpa using e,k.mono st⟩
end
abbrev GF:=D->Fm->Option Fm
abbrev Fd:=List D->Fm->Option Fm
def AFN(K:AO)(g:GF):TG:=λv σ H Q=>∃O ρ L d ρ',Dn K H O σ ρ L/\Is K H O v d/\g d ρ=some ρ'/\∀σ',Dn K H O σ' ρ' L->Q σ' H
def XI(K:AO)(g:Fd):Hc:=λv σ H Q=>∃O ρ L d ρ',Dn K H O σ ρ L/\AV K H O v d/\g d ρ=some ρ'/\∀σ',Dn K H O σ' ρ' L->Q σ' H
def JO(X:Cx)(tg:Expr)(g:GF):Prop:=PG X tg (AFN X.K g)
def Ky(X:Cx)(tg:List Expr)(g:Fd):Prop:=He X tg (XI X.K g)
theorem PG.weaken{X:Cx}{e:Expr}{t t':TG}(h:PG X e t)(i:∀v σ H Q,t' v σ H Q->t v σ H Q):PG X e t':=λpins s σ H v u Q I r q=>h pins s σ H v u Q I r (i _ _ _ _ q)
theorem He.weaken{X:Cx}{e:List Expr}{t t':Hc}(h:He X e t)(i:∀v σ H Q,t' v σ H Q->t v σ H Q):He X e t':=λpins s σ H v u Q I r q=>h pins s σ H v u Q I r (i _ _ _ _ q)
def Az(i:Nat):GF:=λd ρ=>some (ρ.set i (some d))
def Fk:Fd:=λds ρ=>match ds with|[]=>some ρ|_=>none
def CZ(g:GF)(h:Fd):Fd:=λds ρ=>match ds with|d::r=>(g d ρ).bind λρ'=>h r ρ'|[]=>none
def GQ(n:Nat)(h:Fd):GF:=λd ρ=>match d with|.tup ds=>if ds.length=n then h ds ρ else none|_=>none
section
variable {X:Cx}{pos:Pos}
theorem BF{i:Nat}{x:Str}(hN:X.N.Nodup)(hi:X.N[i]?=some x:=by rfl)(hx:Ie X.env.scope x:=by first|exact Or.inl rfl|exact Or.inr rfl)(hf:X.fn x=true\/X.env.scope.names.lookup x=some .local:=by first|exact .inl rfl|exact .inr rfl):JO X (.Name x pos) (Az i) :=
 PG.weaken (ADZ hN hi hx hf) λv σ H Q z4_=>by
  obtain⟨O,ρ,L,d,ρ',r,is,e,k⟩:=z4_;cases e;exact k _ ⟨r.s,r.f.set is i⟩
theorem Gj:Ky X [] Fk:=He.weaken ADX λv σ H Q z4_=>by
 obtain⟨O,ρ,L,d,ρ',r,is,e,k⟩:=z4_
 cases is with
 |nil=>cases e;exact⟨rfl,k _ r⟩
 |cons a b=>cases e
end
section
variable {X:Cx}{pos:Pos}
theorem DF{e:Expr}{es:List Expr}{g:GF}{h:Fd}(h1:JO X e g)(h2:Ky X es h)
  (hs:(assignEach (e::es) X.env).map (·.2)=assign e X.env::(assignEach es X.env).map (·.2):=by rfl):Ky X (e::es) (CZ g h) :=
 He.weaken (ADY h1 h2 hs) λv σ H Q z4_=>by
  obtain⟨O,ρ,L,ds,ρ',r,is,e,k⟩:=z4_
  cases is with
  |nil=>cases e
  |@cons v d vs ds a b =>
   simp only[CZ] at e
   cases e1:g d ρ with
   |none=>rw[e1] at e;cases e
   |some ρ1 =>
    rw[e1] at e;exact⟨v,vs,rfl,O,ρ,L,d,ρ1,r,a,e1,λσ' r'=>⟨O,ρ1,L,ds,ρ',r',b,e,k⟩⟩
theorem IT{es:List Expr}{k:Nat}{h:Fd}{n:Nat}(hc:X.calm=true)(h1:Ky X es h)
  (hn:(assignEach es X.env).length=n:=by rfl) (hst:(assignEach es X.env).findIdx? (·.1)=none:=by rfl):JO X (.Tuple es k pos) (GQ n h) :=
 PG.weaken (WQ hc h1 hn hst) λv σ H Q z4_=>by
  obtain⟨O,ρ,L,d,ρ',r,is,e,k⟩:=z4_
  cases is with
  |@tup a vs ds hq il =>
   simp only[GQ] at e;split at e
   .rename_i hl;exact⟨a,vs,rfl,hq,by rw[il.length];exact hl,O,ρ,L,ds,ρ',r,il,e,k⟩
   .cases e
  |_=>cases e
end
structure MO where
 items:List D
 ok:AD->Bool
abbrev IF:=Fm->AD->Option (MO×AD)
def LB(K:AO)(H0:Hp)(O0:List Addr)(Jt:It)(J:MO):Prop:=∀(i:Nat) (H:Hp) (O:List Addr) (L:AD),Aq H0 O0 H O->BD K H O L->J.ok L=true ->
 (∀d,J.items[i]?=some d->Jt.go i H/\∀x H',Jt.yld i H x H'->Aq H O H' O/\BD K H' O L/\Is K H' O x d)/\(J.items.length<=i->Jt.stop i H)
theorem LB.mono{K:AO}{H0 H1:Hp}{O0 O1:List Addr}{Jt:It}{J:MO}(st:Aq H0 O0 H1 O1)(h:LB K H0 O0 Jt J):LB K H1 O1 Jt J:=λi H O L s r o=>h i H O L (st.trans s) r o
def AFM(K:AO)(f:IF):TI:=λσ H R=>∃O ρ L J L',Dn K H O σ ρ L/\f ρ L=some (J,L')/\∀Jt H' O',Aq H O H' O'->BD K H' O' L'->LB K H' O' Jt J->R Jt H'
def FQ(X:Cx)(tg iter:Expr)(f:IF):Prop:=PI X tg iter (AFM X.K f)
theorem PI.weaken{X:Cx}{tg e:Expr}{t t':TI}(h:PI X tg e t)(i:∀σ H R,t' σ H R->t σ H R):PI X tg e t':=λpins s σ H R I q=>h pins s σ H R I (i _ _ _ q)
def EB(ok:AD->Bool)(g:GF)(body:SF):List D->Fm->AD->Option Hf
 |[],ρ,L=>if ok L=true then some (.next ρ L) else none
 |x::xs,ρ,L=>if ok L=true then (g x ρ).bind λρ1=>(body ρ1 L).bind λout=>match out with
   |.next ρ2 L2=>EB ok g body xs ρ2 L2
   |.cont ρ2 L2=>EB ok g body xs ρ2 L2
   |.brk ρ2 L2=>some (.next ρ2 L2)
   |.ret d L2=>some (.ret d L2)
  else none
def Ca(fi:IF)(g:GF)(body:SF):SF:=λρ L=>(fi ρ L).bind λx=>EB x.1.ok g body x.1.items ρ x.2
theorem DC{X:Cx}{tg iter:Expr}{body:List Stmt}{fi:IF}{g:GF}{fb:SF}{pos:Pos}(hp:PassesOwn (model X.prog X.w) X.A X.env X.xe)(hc:X.calm=true)(hi:FQ X tg iter fi)(hg:JO X tg g)(hb:GW X body fb)
  (hs:∀x,foldedSetIterable iter X.env x=pure x:=by intro _;rfl):Ej X (.For tg iter body [] pos) (Ca fi g fb) :=
 PS.weaken (AC6 hp hc hi hg hb hs) λD σ H z3_=>by
  obtain⟨O,ρ,L,out,r,e,k⟩:=z3_;unfold Ca at e
  cases e1:fi ρ L with
  |none=>rw[e1] at e;cases e
  |some p =>
   rw[e1] at e;obtain⟨⟨items,ok⟩,L1⟩:=p;simp only[AS] at e;refine⟨O,ρ,L,_,_,r,e1,λJt H1 O1 st1 rs1 it=>?_⟩
   refine⟨λi m σ H=>m=items.length-i/\i<=items.length/\∃O ρ L,Aq H1 O1 H O/\Dn X.K H O σ ρ L/\EB ok g fb (items.drop i) ρ L=some out/\JM X.K H O D out,
    ⟨items.length,rfl,FE _,O1,ρ,L1,.refl _ _,r.to st1 rs1,e,k.mono st1⟩,?_⟩
   rintro i m σ' H' ⟨rfl,hi',O',ρ',L',st',r',el,k'⟩
   by_cases hlt:i<items.length
   .have ed:items.drop i=items[i]::items.drop (i+1):=AKl hlt;rw[ed] at el;simp only[EB] at el;split at el
    .rename_i hok;obtain⟨h1,_⟩:=it i H' O' L' st' r'.s hok;obtain⟨go,yl⟩:=h1 items[i] (by simp[hlt])
     refine .inr ⟨go,λσ2 H2=>∃m',m'<items.length-i/\m'=items.length-(i+1)/\i+1<=items.length/\∃O ρ L,Aq H1 O1 H2 O/\Dn X.K H2 O σ2 ρ L/\EB ok g fb (items.drop (i+1)) ρ L=some out/\JM X.K H2 O D out,
      λσ2 H2 h=>h,λx H2 y=>?_⟩
     obtain⟨st2,rs2,is2⟩:=yl x H2 y
     cases eg:g items[i] ρ' with
     |none=>rw[eg] at el;cases el
     |some ρ1 =>
      rw[eg] at el;simp only[AS] at el;refine⟨O',ρ',L',_,ρ1,r'.to st2 rs2,is2,eg,λσ3 r3=>?_⟩
      cases eb:fb ρ1 L' with
      |none=>rw[eb] at el;cases el
      |some o1 =>
       rw[eb] at el;simp only[AS] at el;refine⟨O',ρ1,L',o1,r3,eb,?_⟩
       cases o1 with
       |next ρ2 L2=>exact λσ4 H4 O4 st4 r4=>⟨items.length-(i+1),by omega,rfl,hlt,O4,ρ2,L2,(st'.trans st2).trans st4,r4,el,(k'.mono st2).mono st4⟩
       |cont ρ2 L2=>exact λσ4 H4 O4 st4 r4=>⟨items.length-(i+1),by omega,rfl,hlt,O4,ρ2,L2,(st'.trans st2).trans st4,r4,el,(k'.mono st2).mono st4⟩
       |brk ρ2 L2=>cases el;exact λσ4 H4 O4 st4 r4=>k' σ4 H4 O4 (st2.trans st4) r4
       |ret d L2=>cases el;exact λv H4 O4 st4 r4 i4=>k' v H4 O4 (st2.trans st4) r4 i4
    .cases el
   .have hi2:i=items.length:=by omega
    subst hi2;rw[AKW] at el;simp only[EB] at el;split at el
    .rename_i hok;cases el;obtain⟨_,h2⟩:=it _ H' O' L' st' r'.s hok;exact .inl ⟨h2 (Al _),k' σ' H' O' (.refl _ _) r'⟩
    .cases el
def SW(f:EF):IF:=λρ L=>(f ρ L).bind λx=>match x.1 with|.tup xs=>some (⟨xs,λ_=>true⟩,x.2)|_=>none
def Nf(f:EF):IF:=λρ L=>(f ρ L).bind λx=>match x.1 with
 |.fz xs=>some (⟨xs,λ_=>true⟩,x.2)
 |.ref k=>match x.2[k]? with|some (.lst xs)=>some (⟨xs,λL'=>decide (L'[k]?=some (.lst xs))⟩,x.2)|_=>none
 |_=>none
def FV(lo:Int)(n:Nat):List D:=(List.range n).map λ(i:Nat)=>.int (lo+((i:Nat):Int))
def Hx(f:AF):IF:=λρ L=>(f ρ L).bind λx=>match x.1 with
 |[.int j]=>if j<=4611686018427387903/\-4611686018427387904<=j then some (⟨FV 0 j.toNat,λ_=>true⟩,x.2) else none
 |_=>none
def Lh(f:AF):IF:=λρ L=>(f ρ L).bind λx=>match x.1 with
 |[.int i,.int j]=>if (i<=4611686018427387903/\-4611686018427387904<=i)/\(j<=4611686018427387903/\-4611686018427387904<=j) then some (⟨FV i (j-i).toNat,λ_=>true⟩,x.2) else none
 |_=>none
section
variable {X:Cx}{tg l:Expr}{f:EF}
theorem Vv(lo:Int)(n i:Nat):(FV lo n)[i]?=if i<n then some (.int (lo+(i:Int))) else none:=by
 unfold FV;rw[BH]
 by_cases h:i<n
 .rw[if_pos h];simp[AKD h]
 .rw[if_neg h];simp;omega
theorem IL(lo:Int)(n:Nat):(FV lo n).length=n:=by simp[FV]
theorem XX{K:AO}{H0:Hp}{O0:List Addr}{lo:Int}{n:Nat}:LB K H0 O0 (MN lo n) ⟨FV lo n,λ_=>true⟩:=by
 intro i H O L st rs _;refine⟨λd hd=>?_,λh=>by rw[IL] at h;exact h⟩;simp only at hd;rw[Vv] at hd;split at hd
 .rename_i hlt;cases hd;refine⟨hlt,λx H' y=>?_⟩;obtain⟨e,y⟩:=y;subst e y;exact⟨.refl _ _,rs,.int _⟩
 .cases hd
theorem ADK(hl:Af X l f):FQ X tg l (SW f):=PI.weaken (ADS hl) λσ H R z3_=>by
 obtain⟨O,ρ,L,J,L',r,e,k⟩:=z3_;unfold SW at e
 cases e1:f ρ L with
 |none=>rw[e1] at e;cases e
 |some p =>
  rw[e1] at e;obtain⟨d,L1⟩:=p
  cases d <;> simp only[AS] at e <;> try (cases e;done)
  cases e;refine⟨O,ρ,L,_,_,r,e1,λv H1 O1 st rs is=>?_⟩
  cases is with
  |@tup a vs ds hq il =>
   refine⟨a,rfl,⟨vs,hq⟩,k _ _ _ st rs λi H2 O2 L2 st2 rs2 _=>?_⟩;have hq2:=Bt.grow st2.1 hq;have il2:=il.mono st2;refine⟨λd hd=>?_,λh=>⟨vs,hq2,by rw[il.length];exact h⟩⟩;obtain⟨v,hv,iv⟩:=il2.get hd;refine⟨⟨vs,v,hq2,hv⟩,λx H' y=>?_⟩;obtain⟨e,y⟩:=y;subst e;have:=y vs hq2;rw[hv] at this;cases this;exact⟨.refl _ _,rs2,iv⟩
theorem WO(hl:Af X l f):FQ X tg l (Nf f):=PI.weaken (ADW hl) λσ H R z3_=>by
 obtain⟨O,ρ,L,J,L',r,e,k⟩:=z3_;unfold Nf at e
 cases e1:f ρ L with
 |none=>rw[e1] at e;cases e
 |some p =>
  rw[e1] at e;obtain⟨d,L1⟩:=p
  cases d <;> simp only[AS] at e <;> try (cases e;done)
  .cases e;refine⟨O,ρ,L,_,_,r,e1,λv H1 O1 st rs is=>?_⟩
   cases is with
   |@fz a vs ds hq il =>
    refine⟨a,rfl,⟨vs,hq.sql⟩,k _ _ _ st rs λi H2 O2 L2 st2 rs2 _=>?_⟩;have hq2:=(SqF.grow st2.1 hq).sql;have il2:=il.mono st2;refine⟨λd hd=>?_,λh=>⟨vs,hq2,by rw[il.length];exact h⟩⟩;obtain⟨v,hv,iv⟩:=il2.get hd;refine⟨⟨vs,v,hq2,hv⟩,λx H' y=>?_⟩;obtain⟨e,y⟩:=y;subst e;have:=y vs hq2;rw[hv] at this;cases this;exact⟨.refl _ _,rs2,iv⟩
  .rename_i kk
   cases e2:L1[kk]? with
   |none=>rw[e2] at e;cases e
   |some o =>
    rw[e2] at e
    cases o with
    |dk _=>cases e
    |ins _ _=>cases e
    |dt _ _=>cases e
    |exn _=>cases e
    |lst xs =>
     cases e;refine⟨O,ρ,L,_,_,r,e1,λv H1 O1 st rs is=>?_⟩
     cases is with
     |@ref _ a hk =>
      obtain⟨vs,hv,il⟩:=rs.ob _ _ _ hk e2;refine⟨a,rfl,⟨vs,Bj.of hv⟩,k _ _ _ st rs λi H2 O2 L2 st2 rs2 hok=>?_⟩;have hk2:=Dt st2.2 hk;obtain⟨ws,hw,iw⟩:=rs2.ob _ _ _ hk2 (of_decide_eq_true hok);refine⟨λd hd=>?_,λh=>⟨ws,Bj.of hw,by rw[iw.length];exact h⟩⟩;obtain⟨v,hv',iv⟩:=iw.get hd;refine⟨⟨ws,v,Bj.of hw,hv'⟩,λx H' y=>?_⟩;obtain⟨e,y⟩:=y;subst e;have:=y ws (Bj.of hw);rw[hv'] at this;cases this;exact⟨.refl _ _,rs2,iv⟩
theorem KN{a:Expr}{fa:AF}{p pos:Pos}(hm:X.mg "range"=none)(ha:FR X [a] fa)(hg:Gl X "range":=by rfl)(hs:starEach [a] X.env=[(false,eval a X.env)]:=by rfl):FQ X tg (.Call (.Name "range" p) [a] [] pos) (Hx fa) :=
 PI.weaken (ADV hg hm ha hs) λσ H R z3_=>by
  obtain⟨O,ρ,L,J,L',r,e,k⟩:=z3_;unfold Hx at e
  cases e1:fa ρ L with
  |none=>rw[e1] at e;cases e
  |some q =>
   rw[e1] at e;obtain⟨ds,L1⟩:=q;simp only[AS] at e;refine⟨O,ρ,L,ds,L1,r,e1,λvs H1 O1 st rs is=>?_⟩;split at e
   .rename_i j;split at e
    .rename_i hj;cases e
     cases is with
     |cons i1 i2 =>
      cases i1;cases i2;exact⟨j,rfl,by omega,by omega,k _ _ _ st rs XX⟩
    .cases e
   .cases e
theorem ADM{a b:Expr}{fa:AF}{p pos:Pos}(hm:X.mg "range"=none)(ha:FR X [a,b] fa)(hg:Gl X "range":=by rfl)(hs:starEach [a,b] X.env=[(false,eval a X.env),(false,eval b X.env)]:=by rfl)(hs2:starEach [b] X.env=[(false,eval b X.env)]:=by rfl):FQ X tg (.Call (.Name "range" p) [a,b] [] pos) (Lh fa) :=
 PI.weaken (ADU hg hm ha hs hs2) λσ H R z3_=>by
  obtain⟨O,ρ,L,J,L',r,e,k⟩:=z3_;unfold Lh at e
  cases e1:fa ρ L with
  |none=>rw[e1] at e;cases e
  |some q =>
   rw[e1] at e;obtain⟨ds,L1⟩:=q;simp only[AS] at e;refine⟨O,ρ,L,ds,L1,r,e1,λvs H1 O1 st rs is=>?_⟩;split at e
   .rename_i i j;split at e
    .rename_i hj;cases e
     cases is with
     |cons i1 i2 =>
      cases i1
      cases i2 with
      |cons i3 i4 =>
       cases i3;cases i4;exact⟨i,j,rfl,⟨by omega,by omega,by omega,by omega⟩,k _ _ _ st rs XX⟩
    .cases e
   .cases e
end
theorem AGM{names:List (Str×NameKind)}{env:Env}:∀(cs:List (Str×Addr)),(∀y∈names,y.2=.free->∃c,env.cells.lookup y.1=some c) ->
  ∃cl:List (Str×Addr),(forIn names cs (λ(x:Str×NameKind) (r:List (Str×Addr))=>match x with
   |(name,kind)=>if (kind == NameKind.free)=true then do let a <-cellOf env name;pure (ForInStep.yield ((name,a)::r)) else pure (ForInStep.yield r)):Sem (List (Str×Addr)))=pure cl /\
   (∀x,(x,NameKind.free)∈names->cl.lookup x=env.cells.lookup x)/\(∀x c,cl.lookup x=some c->env.cells.lookup x=some c\/cs.lookup x=some c)/\(∀x,(cs.lookup x=env.cells.lookup x)->cl.lookup x=env.cells.lookup x):=by
 induction names with
 |nil=>intro cs _;exact⟨cs,rfl,λx h=>by simp at h,λx c h=>.inr h,λx h=>h⟩
 |cons y r ih =>
  intro cs h;obtain⟨n,kd⟩:=y;rw[AKH]
  by_cases hk:kd=.free
  .subst hk;obtain⟨c,hc⟩:=h (n,.free) BW rfl;obtain⟨cl,e1,e2,e3,e4⟩:=ih ((n,c)::cs) λy hy=>h y (BQ _ hy)
   have here:∀x,((n,c)::cs).lookup x=if x == n then some c else cs.lookup x:=λx=>by
    cases hx:x == n <;> simp[Gc,hx]
   refine⟨cl,?_,λx hx=>?_,λx c' hx=>?_,λx hx=>e4 x ?_⟩
   .simp only[cellOf,hc];rw[<-e1];rfl
   .rcases Ae.mp hx with z|z
    .injection z with z1 _
     subst z1;refine e4 x ?_;rw[here];simp[hc]
    .exact e2 x z
   .rcases e3 x c' hx with z|z
    .exact .inl z
    .rw[here] at z
     cases hxn:x == n with
     |true =>
      rw[hxn] at z;simp at z;subst z;have:x=n:=by simpa using hxn
      subst this;exact .inl hc
     |false=>rw[hxn] at z;exact .inr z
   .rw[here]
    cases hxn:x == n with
    |true =>
     have:x=n:=by simpa using hxn
     subst this;simp[hc]
    |false=>simpa using hx
  .have hb:(kd == NameKind.free)=false:=by simpa using hk
   obtain⟨cl,e1,e2,e3,e4⟩:=ih cs λy hy=>h y (BQ _ hy);refine⟨cl,?_,λx hx=>?_,e3,e4⟩
   .simp only[hb];rw[<-e1];rfl
   .rcases Ae.mp hx with z|z
    .injection z with _ z2
     exact absurd z2.symm hk
    .exact e2 x z
theorem AG0{scope:Scope}{env:Env}(h:∀y∈scope.names,y.2=.free->∃c,env.cells.lookup y.1=some c) :
  ∃cl,closureFor scope env=pure cl/\(∀x,(x,NameKind.free)∈scope.names->cl.lookup x=env.cells.lookup x)/\(∀x c,cl.lookup x=some c->env.cells.lookup x=some c):=by
 obtain⟨cl,e1,e2,e3,_⟩:=AGM (names:=scope.names) (env:=env) [] h;refine⟨cl,?_,e2,λx c hx=>?_⟩
 .unfold closureFor;simp only[bind_pure]
  first
   |exact e1
   |(rw[e1];rfl)
 .rcases e3 x c hx with z|z
  .exact z
  .simp at z
section
variable {prog:Program}{w:World}{A:Around}{R:Result->Shared->Prop}{s:Shared}
theorem AGy{elt target iter:Expr}{ifs:List Expr}{scope:Scope}{pos:Pos}{it acc:Value}{env:Env}(I:Nat->Shared->Prop)
  (turn:∀n s,I n s->wpAny (model prog w) A (pyNext it) (λr s₁=>match r with
   |none=>R (.ok .next) s₁
   |some v=>wpAny (model prog w) A (letOwnedTupleGo target it v) (λ_ s₁'=>wpAny (model prog w) A (assign target env v) (λ_ s₂ =>
     wpAny (model prog w) A (forIn ifs true λc r=>if r=true then do let ok <-isTrue c env (eval c env);pure (ForInStep.yield ok) else pure (ForInStep.yield r)) (λok s₃ =>
      if ok=true then wpAny (model prog w) A (eval elt env) (λx s₄ =>
       wpAny (model prog w) A (call (.builtin "list.append") [acc,x]) (λ_ s₅=>∃m,m<n/\I m s₅) (λ_ _=>False) s₄) (λ_ _=>False) s₃
      else ∃m,m<n/\I m s₃) (λ_ _=>False) s₂) (λ_ _=>False) s₁') (λ_ _=>False) s₁) (λ_ _=>False) s)
  (n:Nat) (h:I n s) :
  codeAny (model prog w) A (.compLoop (.ListComp elt [⟨target,iter,ifs,0⟩] scope pos) 0 it acc env) R s:=by
 refine codeAny_loop rfl I (λn s hI=>?_) n h
 show wpAny _ A ((compTurn (.ListComp elt [⟨target,iter,ifs,0⟩] scope pos) 0 it acc env).onRaise (λx=>do noteFrame x env;theTreesLotGoes x)) _ _ s
 refine wpAny_noted ?_;rw[compTurn_list];refine AH (wpAny_standAt (AH (GB (turn n s hI) (λr s₁ h₁=>?_) λ_ _ h'=>h'.elim)))
 cases r with
 |none=>exact AU h₁
 |some v =>
  refine AH (GB h₁ (λ_ s₁' h₁'=>?_) λ_ _ h'=>h'.elim);refine AH (GB h₁' (λ_ s₂ h₂=>AH (GB h₂ (λok s₃ h₃=>?_) λ_ _ h'=>h'.elim)) λ_ _ h'=>h'.elim)
  cases ok with
  |false=>exact AU ⟨rfl,h₃⟩
  |true =>
   exact AH (AH (GB h₃ (λx s₄ h₄=>AH (GB h₄ (λ_ s₅ h₅=>AU (AU ⟨rfl,h₅⟩)) λ_ _ h'=>h'.elim)) λ_ _ h'=>h'.elim))
end
def EO(X:Cx)(N':List Str)(scope:Scope)(cl:List (Str×Addr))(C:Addr)(s:Shared)(H:Hp)(fp:List Addr)(pins:List (Addr×Obj)):Cx where
 prog:=X.prog
 w:=X.w
 K:=X.K
 mg:=X.mg
 base:=X.base
 A:=X.A
 N:=N'
 s₀:=s
 H₀:=H
 env:=compEnvC scope cl C X.env
 outer:=X.stack
 stack:=X.stack
 ex:=fp
 fn:=λ_=>false
 calm:=X.calm
 pn:=X.pn++pins
 xe:=λ_ _=>False
def Kx(X:Cx)(ifs:List Expr)(c:TF):Prop :=
 ∀(pins:List (Addr×Obj)) (s:Shared) (σ:L2.St) (H:Hp) (Q:Bool->Hp->Prop),AK X pins σ H s->NZ X.K c σ H Q ->
  wpAny (model X.prog X.w) X.A (forIn ifs true λc r=>if r=true then do let ok <-isTrue c X.env (eval c X.env);pure (ForInStep.yield ok) else pure (ForInStep.yield r)) (TP X pins σ Q) X.xe s
def Ds:TF:=λ_ L=>some (true,L)
theorem FK{X:Cx}:Kx X [] Ds:=λpins s σ H Q I z6_=>by
 obtain⟨O,ρ,L,b,L',r,e,k⟩:=z6_;cases e;exact wpAny_tests_nil ⟨H,I,k H O (.refl _ _) r.s⟩
theorem Ra{X:Cx}{c:Expr}{f:TF}(h:Fc X c f):Kx X [c] f:=λpins s σ H Q I q=>wpAny_tests_one (h pins s σ H Q I q)
def Dl(ok:AD->Bool)(g:GF)(c:TF)(elt:EF)(k:Nat):List D->Fm->AD->Option AD
 |[],ρ,L=>if ok L=true then some L else none
 |x::xs,ρ,L=>if ok L=true then (g x ρ).bind λρ1=>(c ρ1 L).bind λp=>if p.1=true then (elt ρ1 p.2).bind λq=>match q.2[k]? with
    |some (.lst ys)=>if ys.length<16777216 then Dl ok g c elt k xs ρ1 (q.2.set k (.lst (ys++[q.1]))) else none
    |_=>none
   else Dl ok g c elt k xs ρ1 p.2
  else none
def IZ(n:Nat)(idx:List Nat)(ρ:Fm):Fm:=AJm n none++idx.map λj=>(ρ[j]?).join
def DW(fi:IF)(n:Nat)(idx:List Nat)(g:GF)(c:TF)(elt:EF):EF:=λρ L=>(fi ρ L).bind λx =>
 (Dl x.1.ok g c elt x.2.length x.1.items (IZ n idx ρ) (x.2++[.lst []])).bind λL2=>some (.ref x.2.length,L2)
theorem RY{env:Env}:∀{names:List (Str×NameKind)} {x:Str} {k:NameKind},
  (names.map λ(n,k)=>if (k == NameKind.free&&env.scope.kind == .function&&env.kindOf n == some .cell) then (n,NameKind.cell) else (n,k)).lookup x=some k ->
  ∃k',(x,k')∈names/\(k=k'\/(k=.cell/\k'=.free))
 |[],_,_,h=>by simp at h
 |(n,k0)::r,x,k,h=>by
  rw[Am] at h;dsimp only at h;have ih:=@RY env r x k
  by_cases hc:(k0 == NameKind.free&&env.scope.kind == .function&&env.kindOf n == some .cell)=true
  .rw[if_pos hc] at h
   cases hx:x == n with
   |true =>
    simp only[AKm,hx] at h;cases h;have e:x=n:=by simpa using hx
    subst e
    have hk:k0=.free:=by simp only[CJ] at hc;simpa using hc.1.1
    subst hk;exact⟨.free,BW,.inr ⟨rfl,rfl⟩⟩
   |false =>
    simp only[AKm,hx] at h;obtain⟨k',a,b⟩:=ih h;exact⟨k',BQ _ a,b⟩
  .rw[if_neg hc] at h
   cases hx:x == n with
   |true =>
    simp only[AKm,hx] at h;cases h;have e:x=n:=by simpa using hx
    subst e;exact⟨_,BW,.inl rfl⟩
   |false =>
    simp only[AKm,hx] at h;obtain⟨k',a,b⟩:=ih h;exact⟨k',BQ _ a,b⟩
section
variable {X:Cx}{elt tg iter:Expr}{ifs:List Expr}{scope:Scope}{pos pos':Pos}{N':List Str}{n:Nat}{idx:List Nat}{fi:IF}{g:GF}{c:TF}{fe:EF}
structure OU (X:Cx) (scope:Scope) (N':List Str) (n:Nat) (idx:List Nat):Prop where
 kind:scope.kind=.function
 cell:∀y∈scope.names,y.2≠.cell
 names:∀y∈scope.names,y.2=.local->scope.names.lookup y.1=some .local
 free:∀y∈scope.names,y.2=.free->X.env.kindOf y.1=some .cell\/X.env.kindOf y.1=some .free
 len:N'.length=n+idx.length
 idx:∀(j:Nat) (i:Nat),idx[j]?=some i->∃x,N'[n+j]?=some x/\X.N[i]?=some x/\(x,NameKind.free)∈scope.names/\∀k,(x,k)∈scope.names->k=.free
theorem Yl(hc:X.calm=true)(hi:FQ X tg iter fi)(S:OU X scope N' n idx)
  (hbody:∀cl C s3 H3 fp pins,JO (EO X N' scope cl C s3 H3 fp pins) tg g/\Kx (EO X N' scope cl C s3 H3 fp pins) ifs c/\Af (EO X N' scope cl C s3 H3 fp pins) elt fe)
  (hs:∀x,foldedSetIterable iter X.env x=pure x)
  {pins:List (Addr×Obj)} {s:Shared} {σ:L2.St} {H:Hp} {use:Option (Value->Sem Unit)} {Q':ALL} (I:AK X pins σ H s) {O:List Addr} {ρ:Fm} {L L1 L9:AD} {items:List D} {ok:AD->Bool}
  (r:Dn X.K H O σ ρ L) (e1:fi ρ L=some (⟨items,ok⟩,L1)) (e2:Dl ok g c fe L1.length items (IZ n idx ρ) (L1++[.lst []])=some L9)
  (fin:∀(C D:Addr) (s':Shared) (H':Hp) (O':List Addr) (m:ALK),AK X pins σ H' s'->s'.heap.Ns C m->H' C=none->C≠X.env.locals->X.s₀.heap.objs.size<=C->(∀x c,X.env.cells.lookup x=some c->c≠C)->(∀p∈X.pn++pins,p.1≠C) ->
   Aq H O H' O'->BD X.K H' O' L9->O'[L1.length]?=some D->compPost (model X.prog X.w) X.A X.xe use Q' (.ref D) C (.ok .next) s') :
  wpAny (model X.prog X.w) X.A (comprehension (.ListComp elt [⟨tg,iter,ifs,0⟩] scope pos) scope X.env pos' (newList []) false (eval iter X.env) use) Q' X.xe s:=by
 obtain⟨cl,hclos,clget,clsub⟩:=AG0 (scope:=scope) (env:=X.env) λy hy hk=>I.ok.has _ (S.free y hy hk);refine wpAny_comprehension_free rfl hs hclos S.kind S.names ?_;refine Ah (hi pins s σ H (λJt H1=>∃O1,Aq H O H1 O1/\BD X.K H1 O1 L1/\LB X.K H1 O1 Jt ⟨items,ok⟩) I ⟨O,ρ,L,_,_,r,e1,λJt H1 O1 st rs it=>⟨O1,st,rs,it⟩⟩) λv s1 h1=>Ah h1 λitv s2 h2=>?_;obtain⟨it,fp,tn,J,H2,rfl,I2,T,st0,f2,O1,stp,rs1,itis⟩:=h2;refine ALD (wpAny_newFunctionEnv S.cell (by intro y hy;simp at hy) (λh₁ hns₁ hsb₁=>?_) S.kind);dsimp only at hns₁ hsb₁ ⊢
 -- the list
 have I3:AK X pins σ (upd H2 s2.heap.objs.size (.lst [])) {s2 with heap:=s2.heap.push {cls:=.type "list",dict:=none,data:=.seq ([]:List Value).toArray},toks:=s2.toks} :=
  I2.laid (t':=s2.toks) (λb o e=>Heap.get?_push_of_some _ e) (Al _) ⟨by simp,[],0,.nil,Heap.get?_push_size _ rfl⟩
 have hf2:H2 s2.heap.objs.size=none:=I2.hok.fresh (Al _);have rs3:BD X.K (upd H2 s2.heap.objs.size (.lst [])) (O1++[s2.heap.objs.size]) (L1++[.lst []]):=rs1.new hf2 ⟨[],Ce,.nil⟩;have st3:Aq H2 O1 (upd H2 s2.heap.objs.size (.lst [])) (O1++[s2.heap.objs.size]):=⟨.new hf2,BB _ _⟩
 have fpne:∀b∈fp,b≠s2.heap.objs.size:=λb hb z=>by
  obtain⟨o,e,_⟩:=T.obj 0 _ st0 b hb;exact absurd (Heap.lt_size e) (by rw[z];exact AJl _)
 have f3:∀b∈fp,Hi X pins (upd H2 s2.heap.objs.size (.lst [])) b:=λb hb=>⟨by rw[Bn (fpne b hb)];exact(f2 b hb).1,(f2 b hb).2⟩;generalize hH2:s2.heap.push {cls:=.type "list",dict:=none,data:=.seq ([]:List Value).toArray}=hp3 at hns₁ hsb₁ I3 ⊢;have hD0:O1.length=L1.length:=rs1.len;generalize hDD:s2.heap.objs.size=D at *;generalize hH3:upd H2 D (.lst [])=H3 at *;have hDs:(O1++[D])[L1.length]?=some D:=by rw[<-hD0];simp
 have tn3:tn 0 hp3:=T.keep _ _ _ st0 λb hb o e=>by rw[<-hH2];exact Heap.get?_push_of_some _ e
 -- the block's frame
 generalize hC:hp3.objs.size=C at *;have kept:∀b o,hp3.get? b=some o->h₁.get? b=some o:=λb o e=>hsb₁.extBut b o (by rw[<-hC];exact Bu (Heap.lt_size e)) (Heap.get?_push_of_some _ e);have tn4:tn 0 h₁:=T.keep _ _ _ tn3 λb hb o e=>kept b o e
 let s3:Shared:={s2 with heap:=hp3,toks:=s2.toks}
 have Cfresh:∀(b:Addr) (o:Obj),hp3.get? b=some o->b≠C:=λb o e=>by rw[<-hC];exact Bu (Heap.lt_size e)
 have CL:C≠X.env.locals:=λz=>by
  have:=I3.lt;rw[<-z,<-hC] at this;exact AJl _ this
 have Ccell:∀x c,X.env.cells.lookup x=some c->c≠C:=λx c e=>by
  obtain⟨v,o,ho,_⟩:=I3.cell x c e;exact Cfresh c o ho
 have Cpin:∀p∈X.pn++pins,p.1≠C:=λp hp=>Cfresh _ _ (I3.pin p hp).1;have C0:X.s₀.heap.objs.size<=C:=by rw[<-hC];exact I3.sz
 have frsub:∀b∈Fo X.stack,b=X.env.locals\/b∈X.fs:=λb hb=>Ae.mp (I3.stkSub b hb)
 have kindC:∀x k,(relabel scope X.env).names.lookup x=some k->(k=.cell\/k=.free)->(x,NameKind.free)∈scope.names:=λx k e hk=>by
  obtain⟨k',a,b⟩:=RY e;rcases b with rfl|⟨_,rfl⟩
  .rcases hk with rfl|rfl
   .exact absurd rfl (S.cell _ a)
   .exact a
  .exact a
 have okX:(EO X N' scope cl C s3 H3 fp pins).Ok:=by
  refine⟨I3.ok.mod,S.kind,I3.ok.glob,I3.ok.blt,AJz hC,λx y d h1 h2=>I3.ok.inj x y d (clsub x d h1) (clsub y d h2),λx hx=>?_,λx d h1=>(nomatch h1),I3.ok.hd,I3.ok.frames,.inl rfl,
   λb hb=>⟨λz=>?_,λx d e=>(f3 b hb).2.2.2.2.1 x d (clsub x d e)⟩,I3.bs,DA I3.ok.bsz I3.sz,λb o e hb=>?_,λb hb hz=>?_,I3.stack,I3.stkFree⟩
  .have hx':(relabel scope X.env).names.lookup x=some .cell\/(relabel scope X.env).names.lookup x=some .free:=hx
   have hm:(x,NameKind.free)∈scope.names:=by
    rcases hx' with h|h
    .exact kindC x _ h (.inl rfl)
    .exact kindC x _ h (.inr rfl)
   obtain⟨d,hd⟩:=I3.ok.has x (S.free _ hm rfl);exact⟨d,(clget x hm).trans hd⟩
  .obtain⟨o,e,_⟩:=T.obj 0 _ tn3 b hb;exact Cfresh b o e z
  .rcases(f3 b hb).2.2.2.1 with z|z
   .exact I3.ok.noex b o e z
   .have h1:=DZ (Heap.lt_size e) I3.ok.bsz;exact absurd (DZ h1 z) (AJl _)
  .rcases frsub b hz with z|z
   .exact(f3 b hb).2.1 z
   .exact(f3 b hb).2.2.1 z
 -- its state
 have I4:AK (EO X N' scope cl C s3 H3 fp pins) [] (AJm n none++idx.map λj=>(σ[j]?).join) H3 {s3 with heap:=h₁,toks:=s2.toks+([]:List (Str×Value)).length}:=by
  refine⟨okX,rfl,I3.bare,Un.kept kept,⟨_,hns₁,λi x v h1 h2 h3=>?_⟩,λx d e=>?_,?_,λx d e=>I3.freeC x d (clsub x d e),λp hp=>?_,I3.hok.kept kept,?_⟩
  .by_cases hin:i<n
   .rw[Fh (by simpa using hin)] at h2;rw[AKj,if_pos hin] at h2;cases h2
   .rw[AJ0 (by simpa using hin)] at h2;simp only[AKu] at h2;rw[BH] at h2
    cases e:idx[i-n]? with
    |none=>rw[e] at h2;cases h2
    |some j =>
     rw[e] at h2;have h2':(σ[j]?).join=some v:=Option.some.inj h2
     have hσ:σ[j]?=some (some v):=by
      cases q:σ[j]? with
      |none=>rw[q] at h2';cases h2'
      |some o=>rw[q] at h2';cases o with
       |none=>cases h2'
       |some w=>cases h2';rfl
     obtain⟨y,a1,a2,a3,a4⟩:=S.idx _ _ e
     have hxy:y=x:=by
      have:N'[n+(i-n)]?=some x:=by rw[show n+(i-n)=i from by omega];exact h1
      rw[a1] at this;exact Option.some.inj this
     subst hxy;have hk:=S.free _ a3 rfl;obtain⟨m,hm,hl⟩:=I3.loc
     have hvis:Kv X.env.scope y:=by
      rcases hk with z|z
      .exact .inr (.inl z)
      .exact .inr (.inr z)
     obtain⟨u,ru,lk⟩:=hl j y v a2 hσ hvis;refine⟨u,ru,.inr ⟨?_,?_⟩⟩
     .rcases h3 with z|z|z
      .obtain⟨k',b1,b2⟩:=RY (show(relabel scope X.env).names.lookup y=some .local from z);rcases b2 with b2|⟨b2,_⟩
       .have:=a4 _ b1;rw[<-b2] at this;cases this
       .cases b2
      .exact .inl z
      .exact .inr z
     .rcases lk with⟨z,_⟩|⟨_,d,hd,⟨o,ho,hdt⟩⟩
      .rcases hk with q|q <;> rw[q] at z <;> cases z
      .exact⟨d,(clget y a3).trans hd,o,kept d o ho,hdt⟩
  .obtain⟨v,o,ho,hdt⟩:=I3.cell x d (clsub x d e);exact⟨v,o,kept d o ho,hdt⟩
  .exact I3.hok.fresh (AJz hC)
  .have hp':p∈X.pn++pins:=by simpa[EO] using hp
   obtain⟨q1,q2,q3,q4,q5⟩:=I3.pin p hp';refine⟨kept _ _ q1,q2,Cpin p hp',λz=>?_,q5⟩;rcases frsub _ z with y|y
   .exact q3 y
   .exact q4 y
  .show _=N'.length;rw[S.len];simp
 have fp4:∀{H':Hp} {pl:List (Addr×Obj)},pl=[]->(∀b∈fp,H' b=none)->∀b∈fp,Hi (EO X N' scope cl C s3 H3 fp pins) pl H' b:=λ{H' pl} hpl hn b hb=>by
  subst hpl;refine⟨hn b hb,λz=>(okX.exf b hb).1 z,okX.exfs b hb,.inl hb,λx d e=>(okX.exf b hb).2 x d e,λp hp=>?_⟩;have hp':p∈X.pn++pins:=by simpa[EO] using hp
  exact(f3 b hb).2.2.2.2.2 p hp'
 obtain⟨bg,bq,be⟩:=hbody cl C s3 H3 fp pins
 have fr4:Ih X.K H3 (O1++[D]) (AJm n none++idx.map λj=>(σ[j]?).join) (IZ n idx ρ):=by
  have fσ:=(r.f.mono stp).mono st3;refine⟨by simp[IZ],λi d hd=>?_⟩;unfold IZ at hd
  by_cases hin:i<n
  .rw[Fh (by simpa using hin),AKj,if_pos hin] at hd;cases hd
  .rw[AJ0 (by simpa using hin)] at hd ⊢;simp only[AKu] at hd ⊢;rw[BH] at hd ⊢
   cases e:idx[i-n]? with
   |none=>rw[e] at hd;cases hd
   |some j =>
    rw[e] at hd;have hd':(ρ[j]?).join=some d:=Option.some.inj hd
    have hρ:ρ[j]?=some (some d):=by
     cases q:ρ[j]? with
     |none=>rw[q] at hd';cases hd'
     |some o=>rw[q] at hd';cases o with
      |none=>cases hd'
      |some w=>cases hd';rfl
    obtain⟨v,hv,iv⟩:=fσ.at' j d hρ;exact⟨v,by simp[hv],iv⟩
 have loop:∀s₃:Shared,s₃={s3 with heap:=h₁,toks:=s2.toks+([]:List (Str×Value)).length} ->
   codeAny (model X.prog X.w) X.A (.compLoop (.ListComp elt [⟨tg,iter,ifs,0⟩] scope pos) 0 (.ref it) (.ref D) (compEnvC scope cl C X.env))
    (compPost (model X.prog X.w) X.A X.xe use Q' (.ref D) C) s₃:=by
  rintro s₃ rfl
  refine AGy (λm s'=>∃i σ' H' O' ρ' L',m=items.length-i/\i<=items.length/\AK (EO X N' scope cl C s3 H3 fp pins) [] σ' H' s'/\tn i s'.heap/\(∀b∈fp,H' b=none) /\
   Aq H3 (O1++[D]) H' O'/\Dn X.K H' O' σ' ρ' L'/\Dl ok g c fe L1.length (items.drop i) ρ' L'=some L9) ?_ items.length
   ⟨0,_,H3,O1++[D],IZ n idx ρ,L1++[.lst []],rfl,FE _,I4,tn4,λb hb=>(f3 b hb).1,.refl _ _,⟨rs3,fr4⟩,by rw[AKE];exact e2⟩
  rintro m s' ⟨i,σ',H',O',ρ',L',rfl,hi',I',tn',fr',st',r',el⟩
  by_cases hlt:i<items.length
  .have ed:items.drop i=items[i]::items.drop (i+1):=AKl hlt;rw[ed] at el;simp only[Dl] at el;split at el
   .rename_i hok;obtain⟨q1,_⟩:=itis i H' O' L' (st3.trans st') r'.s hok;obtain⟨go,yl⟩:=q1 items[i] (by simp[hlt]);refine Ah (T.item (EO X N' scope cl C s3 H3 fp pins) rfl rfl rfl hc i [] s' σ' H' (λ_ _=>False) I' (fp4 rfl fr') tn' go) λrr s4 z2_=>?_;obtain⟨u,hr,h4⟩:=z2_;subst hr;refine Ah h4 λ_ s5 z2_=>?_;obtain⟨x,H5,I5,r5,y5,st5,fr5⟩:=z2_;obtain⟨stp5,rs5,is5⟩:=yl x H5 y5;have I5':=I5.pinned (fp4 rfl fr5) (T.obj _ _ st5)
    have back:∀{s7:Shared} {σ7:L2.St} {H7:Hp},AK (EO X N' scope cl C s3 H3 fp pins) ([]++LW fp s5.heap) σ7 H7 s7->tn (i+1) s7.heap/\(∀b∈fp,H7 b=none):=λ{s7 σ7 H7} I7=>by
     refine⟨T.keep _ _ _ st5 λb hb o e=>(I7.pin (b,o) (Hm _ (Hm _ (NW hb e)))).1,λb hb=>?_⟩;obtain⟨o,e,d⟩:=T.obj _ _ st5 b hb;exact(I7.pin (b,o) (Hm _ (Hm _ (NW hb e)))).2.1
    cases eg:g items[i] ρ' with
    |none=>rw[eg] at el;cases el
    |some ρ1 =>
     rw[eg] at el;simp only[AS] at el;refine Ah (bg _ s5 σ' H5 x u (λσ2 Ha=>Ha=H5/\Dn X.K H5 O' σ2 ρ1 L') I5' r5 ⟨O',ρ',L',_,ρ1,r'.to stp5 rs5,is5,eg,λσ2 r2=>⟨rfl,r2⟩⟩) λ_ s6 z2_=>?_;obtain⟨σ6,H6,I6,q6a,q6⟩:=z2_;subst q6a
     cases ec:c ρ1 L' with
     |none=>rw[ec] at el;cases el
     |some pc =>
      rw[ec] at el;obtain⟨b1,L5⟩:=pc;simp only[AS] at el;refine Ah (bq _ s6 σ6 H6 (λb Hb=>b=b1/\∃Ob,Aq H6 O' Hb Ob/\BD X.K Hb Ob L5) I6 ⟨O',ρ1,L',b1,L5,q6,ec,λHb Ob st rs=>⟨rfl,Ob,st,rs⟩⟩) λokb s7 z2_=>?_;obtain⟨H7,I7,hb7,O7,st7,rs7⟩:=z2_;subst hb7
      cases okb with
      |false =>
       rw[if_neg (by simp)] at el;rw[if_neg (by simp)];obtain⟨b1,b2⟩:=back I7;exact⟨items.length-(i+1),by omega,i+1,σ6,H7,O7,ρ1,L5,rfl,hlt,I7.unpinned,b1,b2,(st'.trans stp5).trans st7,q6.to st7 rs7,el⟩
      |true =>
       rw[if_pos rfl] at el;rw[if_pos rfl]
       cases ee:fe ρ1 L5 with
       |none=>rw[ee] at el;cases el
       |some pe =>
        rw[ee] at el;obtain⟨de,L6⟩:=pe;simp only[AS] at el;refine Ah (be _ s7 σ6 H7 (λv Hb=>∃Ob,Aq H7 O7 Hb Ob/\BD X.K Hb Ob L6/\Is X.K Hb Ob v de) I7 ⟨O7,ρ1,L5,de,L6,q6.to st7 rs7,ee,λv Hb Ob st rs is=>⟨Ob,st,rs,is⟩⟩) λue s8 z2_=>?_;obtain⟨ve,H8,I8,r8,O8,st8,rs8,is8⟩:=z2_
        cases ek:L6[L1.length]? with
        |none=>rw[ek] at el;cases el
        |some oo =>
         rw[ek] at el
         cases oo with
         |dk _=>cases el
         |ins _ _=>cases el
         |dt _ _=>cases el
         |exn _=>cases el
         |lst ys =>
          simp only at el;split at el
          .rename_i hys;have stA:Aq H3 (O1++[D]) H8 O8:=((st'.trans stp5).trans st7).trans st8;have hD8:O8[L1.length]?=some D:=Dt stA.2 hDs;obtain⟨vs,hv,il⟩:=rs8.ob _ _ _ hD8 ek
           refine Ah (Wq (X:=EO X N' scope cl C s3 H3 fp pins) _ s8 σ6 H8 (.ref D) [ve] (.ref D) [ue] (λv Hb=>Hb=upd H8 D (.lst (vs++[ve]))) I8 rfl (.cons r8 .nil) ⟨D,vs,ve,rfl,rfl,hv,by rw[il.length,sizeLine_eq];exact hys,rfl⟩)
            λ_ s9 ⟨_,H9,I9,_,q9⟩=>?_
           subst q9;have stw:Aq H8 O8 (upd H8 D (.lst (vs++[ve]))) O8:=⟨.write hv id,Ac _⟩;obtain⟨b1,b2⟩:=back I9;refine⟨items.length-(i+1),by omega,i+1,σ6,_,O8,ρ1,_,rfl,hlt,I9.unpinned,b1,b2,stA.trans stw,⟨rs8.write (o':=.lst (ys++[de])) hD8 ⟨_,Ce,(il.mono stw).append (.cons (is8.mono stw) .nil)⟩,((q6.f.mono st7).mono st8).mono stw⟩,el⟩
          .cases el
   .cases el
  .have hi2:i=items.length:=by omega
   subst hi2;rw[AKW] at el;simp only[Dl] at el;split at el
   .rename_i hok;cases el;obtain⟨_,q2⟩:=itis _ H' O' _ (st3.trans st') r'.s hok;refine Ah (T.done (EO X N' scope cl C s3 H3 fp pins) rfl rfl rfl hc _ [] s' σ' H' (λ_ _=>False) I' (fp4 rfl fr') tn' (q2 (Al _))) λrr s4 z2_=>?_;obtain⟨hr,I4'⟩:=z2_;subst hr;obtain⟨m,hm,_⟩:=I4'.loc;have hos:s4.os=s3.os:=I4'.os;have J:AK X pins σ H' s4:=I3.call' (s':=s4) (ch:=fp) hos I4'.base I4'.hok I4'.bare λb hb=>⟨(f3 b hb).2.2.2.1,(f3 b hb).2.1,(f3 b hb).2.2.2.2.1,(f3 b hb).2.2.2.2.2⟩;exact fin C D s4 H' O' m J hm I4'.free CL C0 Ccell Cpin ((stp.trans st3).trans st') r'.s (Dt st'.2 hDs)
   .cases el
 exact codeAny_compStart_list (loop _ rfl) (T.self X.A 0 _ _ _ tn4 (loop _ rfl))
theorem HW(hc:X.calm=true)(hi:FQ X tg iter fi)(S:OU X scope N' n idx)
  (hbody:∀cl C s3 H3 fp pins,JO (EO X N' scope cl C s3 H3 fp pins) tg g/\Kx (EO X N' scope cl C s3 H3 fp pins) ifs c/\Af (EO X N' scope cl C s3 H3 fp pins) elt fe)
  (hs:∀x,foldedSetIterable iter X.env x=pure x:=by intro _;rfl):Af X (.ListComp elt [⟨tg,iter,ifs,0⟩] scope pos) (DW fi n idx g c fe):=by
 rintro pins s σ H Q I ⟨O,ρ,L,d,L',r,e,k⟩;unfold DW at e
 cases e1:fi ρ L with
 |none=>rw[e1] at e;cases e
 |some p =>
  rw[e1] at e;obtain⟨⟨items,ok⟩,L1⟩:=p;simp only[AS] at e
  cases e2:Dl ok g c fe L1.length items (IZ n idx ρ) (L1++[.lst []]) with
  |none=>rw[e2] at e;cases e
  |some L9 =>
   rw[e2] at e;cases e;rw[eval_ListComp];refine Yl hc hi S hbody hs I r e1 e2 λC D s' H' O' m J hn hfree hL h0 hcell hpin st rs hD=>?_;refine⟨m,hn,λh' sb=>?_⟩;exact⟨.ref D,H',J.turned (t':=s'.toks) (λb o hb e=>(sb.2 b hb).trans e) hfree hL (.inr h0) hcell hpin,rfl,k _ _ _ st rs (.ref hD)⟩
theorem Ip{i:Nat}{x:Str}{px:Pos}(hN:X.N.Nodup)(hc:X.calm=true)(hi:FQ X tg iter fi)(S:OU X scope N' n idx)
  (hbody:∀cl C s3 H3 fp pins,JO (EO X N' scope cl C s3 H3 fp pins) tg g/\Kx (EO X N' scope cl C s3 H3 fp pins) ifs c/\Af (EO X N' scope cl C s3 H3 fp pins) elt fe)
  (hi2:X.N[i]?=some x:=by rfl) (hx:Ie X.env.scope x:=by first|exact Or.inl rfl|exact Or.inr rfl)
  (hsw:swapsWith (.ListComp elt [⟨tg,iter,ifs,0⟩] scope pos) (some (.Name x px)) pos'.line X.env=pure true:=by rfl)
  (hf:X.fn x=true\/X.env.scope.names.lookup x=some .local:=by first|exact .inl rfl|exact .inr rfl)
  (hs:∀x,foldedSetIterable iter X.env x=pure x:=by intro _;rfl):Ej X (.Assign [.Name x px] (.ListComp elt [⟨tg,iter,ifs,0⟩] scope pos) pos') (AY i (DW fi n idx g c fe)):=by
 rintro pins s σ H E I ⟨O,ρ,L,out,r,e,k⟩;unfold AY DW at e
 cases e1:fi ρ L with
 |none=>rw[e1] at e;cases e
 |some p =>
  rw[e1] at e;obtain⟨⟨items,ok⟩,L1⟩:=p;simp only[AS] at e
  cases e2:Dl ok g c fe L1.length items (IZ n idx ρ) (L1++[.lst []]) with
  |none=>rw[e2] at e;cases e
  |some L9 =>
   rw[e2] at e;cases e;rw[exec_Assign_Name_used _ _ _ _ hsw];refine AH (wpAny_standAt (AH ?_))
   show wpAny _ X.A (do let _ <-comprehension (.ListComp elt [⟨tg,iter,ifs,0⟩] scope pos) scope X.env _ (newList []) false (eval iter X.env) (some (assign (.Name x px) X.env))) _ _ s
   refine AH (GB (Yl (use:=some (assign (.Name x px) X.env)) (Q':=λ_ s'=>SP X pins E .next s') hc hi S hbody hs I r e1 e2
    λC D s' H' O' m J hn hfree hL h0 hcell hpin st rs hD=>?_) (λ_ s' hq=>AU (AU hq)) λ_ _ e=>e)
   show wpAny _ X.A (assign (.Name x px) X.env (.ref D)) _ _ _;refine wpAny_assign_Name (Vd (v:=.ref D) J hN hi2 hx rfl (λs2 J2 z2_=>?_) hf);obtain⟨a,sb,ha⟩:=z2_
   have aC:C≠a:=by
    rcases ha with z|z
    .rw[z];exact hL
    .exact(hcell x a z).symm
   refine⟨m,hn.sameBut sb aC,λh' sb'=>?_⟩;exact⟨_,H',J2.turned (t':=s2.toks) (λb o hb e=>(sb'.2 b hb).trans e) hfree hL (.inr h0) hcell hpin,k _ _ _ st ⟨rs,(r.f.mono st).set (.ref hD) i⟩⟩
end
section
variable {X:Cx}{pins:List (Addr×Obj)}{σ:L2.St}{H:Hp}{s:Shared}{h':Heap}
theorem My{t':Nat}{fp:List Addr}{T:Addr}{o:HO}(I:AK X pins σ H s)(hf:∀b∈fp,Hi X pins H b)(k:∀b o,b∉fp->s.heap.get? b=some o->h'.get? b=some o)(hT:s.heap.objs.size<=T)(nT:T∉fp)
  (there:∀b∈fp,∃o,h'.get? b=some o) (new:Cc X.prog X.w (upd H T o) h' T o):AK X pins σ (upd H T o) {s with heap:=h',toks:=t'}:=by
 have fT:H T=none:=I.hok.fresh hT;have nit:∀b u,H b=some u->b∉fp:=λb u e z=>by rw[(hf b z).1] at e;cases e
 have old:∀b o,s.heap.get? b=some o->b≠T:=λb o e=>Bu (DZ (Heap.lt_size e) hT)
 refine I.step (g':=s.gens) (d':=s.drawn) (ch:=fp) (λb hb=>⟨(hf b hb).2.2.2.1,(hf b hb).2.1,(hf b hb).2.2.2.2.1,(hf b hb).2.2.2.2.2⟩) (λb o _ _ hc e _=>k b o hc e) (λb o _ _ hc e _=>⟨o.slots,k b o hc e⟩)
  (λb o _ e n=>by rw[Bn (old b o e)];exact n) (λb o hc e=>⟨o,k b o hc e⟩) (λb xs e=>by rw[Bn (Du e fT)];exact e) (λb o u e=>by rw[Bn (Du e fT)];exact e)
  (λb ps e=>⟨#[],by rw[Bn (Du e fT),e];simp⟩) (λm hm=>?_) (λb u e=>?_) I.bare
 .obtain⟨o,es,ep,ho,r⟩:=hm;exact⟨o,es,ep,k _ o (λz=>(hf _ z).2.1 rfl) ho,r⟩
 .by_cases hb:b=T
  .subst hb;rw[Ce] at e;cases e;exact new
  .rw[Bn hb] at e;refine(I.hok b u e).stay (λc v hc q=>k c v ?_ q) (λc q=>by rw[Bn (Du q fT)];exact q) λc xs q=>by rw[Bn (Du q fT)];exact q
   rcases hc with z|z
   .rw[z];exact nit b u e
   .exact nit c _ z
end
def Zh(x:Str):It:=⟨λi _=>i<x.cps.size,λi H v H'=>H'=H/\∃c,x.cps[i]?=some c/\v=.str ⟨#[c]⟩,λi _=>x.cps.size<=i⟩
theorem VA{P:Program}{w:World}{K:AO}{tg:Expr}(x:Str)(t:Tok)(it:Addr)(ty:String)(hty:["enumerate","zip","dict_itemiterator","dict_reverseitemiterator","odict_iterator","itertools.zip_longest","itertools.pairwise"].contains ty=false)
  (W:∀A':Around,A'.handled=none->Walks P w A' it [it] [it] x.cps.size (SignAt x) (λi h=>h.IsStrIter it ty x t i))
  (hself:∀(A:Around) (i:Nat) (s:Shared) (Q:ALL) (E:ALL),s.heap.IsStrIter it ty x t i->Q (.ref it) s->wpAny (model P w) A (pyIter (.ref it)) Q E s) :
  IC P w K tg (Zh x) [it] it (λi h=>h.IsStrIter it ty x t i/\i<=x.cps.size) where
 mem:=by simp
 obj:=λi h st b hb=>by
  have e:b=it:=by simpa using hb
  subst e;obtain⟨⟨o,e,c,d⟩,_⟩:=st;exact⟨o,e,λv z=>by rw[d] at z;cases z⟩
 keep:=λi h h' st k=>⟨let ⟨o,ho,r⟩:=st.1;⟨o,k it (by simp) o ho,r⟩,st.2⟩
 item:=by intro X hP hw hK hc i pins s σ H E I hf st hg;subst hP hw hK;obtain⟨f0,f1,f2,f3,f4,f5⟩:=hf it (by simp);refine(W X.A (I.ok.hd hc)).item i s _ _ hg st.1 λv h' tk hv st' kk=>?_;obtain⟨c,u,hc',rfl⟩:=hv;have I1:AK X pins σ H {s with heap:=h',toks:=tk}:=I.turned (λb o hb e=>kk b o (by simpa using hb) e) f0 f1 f3 f4 f5;obtain⟨o,e,cc,d⟩:=id st';exact⟨_,rfl,Ni (s:={s with heap:=h',toks:=tk}) e cc d hty ⟨.str ⟨#[c]⟩,H,I1,⟨u,rfl⟩,⟨rfl,c,hc',rfl⟩,⟨st',hg⟩,λb hb=>(hf b hb).1⟩⟩
 done:=by intro X hP hw hK hc i pins s σ H E I hf st hg;subst hP hw hK;obtain⟨f0,f1,f2,f3,f4,f5⟩:=hf it (by simp);have hi:i=x.cps.size:=Nat.le_antisymm st.2 hg;have st1:=st.1;rw[hi] at st1;exact(W X.A (I.ok.hd hc)).done s _ _ st1 λh' tk kk=>⟨rfl,I.turned (λb o hb e=>kk b o (by simpa using hb) e) f0 f1 f3 f4 f5⟩
 self:=λA i s Q E st h=>hself A i s Q E st.1 h
section
variable {X:Cx}{tg l:Expr}{f:EF}
def AFu(tl:TE):TI:=λσ H R=>tl σ H λv H1=>∃x,v=.str x/\R (Zh x) H1
theorem ADT{tl:TE}(hl:PE X l tl):PI X tg l (AFu tl):=by
 intro pins s σ H R I h;refine Ah (hl pins s σ H _ I h) λv s1 z2_=>?_;obtain⟨y,H1,I1,r1,x,e,q⟩:=z2_;subst e;obtain⟨t,rfl⟩:=r1
 have hb:∀(o:Obj) (b:Addr),b∈[s1.heap.objs.size]->Hi X pins H1 b:=λo b hb=>by
  have e:b=s1.heap.objs.size:=by simpa using hb
  subst e;exact I1.fpOk (Al _) (I1.hok.fresh (Al _))
 cases ha:x.cps.all (·<128)
 .refine wpAny_pyIter_wide ha ⟨s1.heap.objs.size,[s1.heap.objs.size],_,_,H1,rfl,I1.kept (t':=s1.toks) λb o e=>Heap.get?_push_of_some _ e,VA x t _ "str_iterator" (by decide) (λA' hA=>Walks.strWide hA _ x t) (λ_ _ _ _ _ st h=>wpAny_pyIter_striter_wide st h),
   ⟨⟨_,Heap.get?_push_size _ rfl,rfl,rfl⟩,FE _⟩,hb default,q⟩
 .refine wpAny_pyIter_ascii ha ⟨s1.heap.objs.size,[s1.heap.objs.size],_,_,H1,rfl,I1.kept (t':=s1.toks) λb o e=>Heap.get?_push_of_some _ e,VA x t _ "str_ascii_iterator" (by decide) (λA' hA=>Walks.strAscii hA _ x t) (λ_ _ _ _ _ st h=>wpAny_pyIter_striter_ascii st h),
   ⟨⟨_,Heap.get?_push_size _ rfl,rfl,rfl⟩,FE _⟩,hb default,q⟩
def sgs(x:Str):List D:=x.cps.toList.map λc=>.str ⟨#[c]⟩
def SX(f:EF):IF:=λρ L=>(f ρ L).bind λx=>match x.1 with|.str y=>some (⟨sgs y,λ_=>true⟩,x.2)|_=>none
theorem ADL(hl:Af X l f):FQ X tg l (SX f):=PI.weaken (ADT hl) λσ H R z3_=>by
 obtain⟨O,ρ,L,J,L',r,e,k⟩:=z3_;unfold SX at e
 cases e1:f ρ L with
 |none=>rw[e1] at e;cases e
 |some p =>
  rw[e1] at e;obtain⟨d,L1⟩:=p
  cases d <;> simp only[AS] at e <;> try (cases e;done)
  rename_i y;cases e;refine⟨O,ρ,L,_,_,r,e1,λv H1 O1 st rs is=>?_⟩;cases is;refine⟨y,rfl,k _ _ _ st rs λi H2 O2 L2 st2 rs2 _=>⟨λd hd=>?_,λh=>by show y.cps.size<=i;simpa[sgs] using h⟩⟩;simp only[sgs,BH] at hd
  cases ec:y.cps[i]? with
  |none=>simp[ec] at hd
  |some c =>
   simp[ec] at hd;subst hd;refine⟨(AKy.mp ec).1,λx H' y'=>?_⟩;obtain⟨e,c',h1,rfl⟩:=y';subst e;rw[ec] at h1;cases h1;exact⟨.refl _ _,rs2,.str _ (by simp[Str.length])⟩
end
def Zj(x:Str):It:=⟨λi _=>i<x.cps.size,λi H v H'=>∃T c,H T=none/\x.cps[i]?=some c/\v=.ref T/\H'=upd H T (.tup [.int (i:Int),.str ⟨#[c]⟩]),λi _=>x.cps.size<=i⟩
theorem YZ{P:Program}{w:World}{A:Around}(hh:A.handled=none)(it:Addr)(x:Str)(t:Tok) :
  Draws P w A it [it] x.cps.size (λi v=>∃c u,x.cps[i]?=some c/\v=.str ⟨#[c]⟩ u) (λi h=>h.IsStrIter it (strIterType x) x t i):=by
 unfold strIterType;cases ha:x.cps.all (·<128)
 .exact Draws.strWide hh it x t
 .exact Draws.strAscii hh it x t
theorem ABI{P:Program}{w:World}{K:AO}{elts:List Expr}{x1:Nat}{tp:Pos}(x:Str)(t:Tok)(e it:Addr)(hei:e≠it) :
  IC P w K (.Tuple elts x1 tp) (Zj x) [e,it] e (λi h=>(∃old,IsEnum h e it (i:Int) old)/\h.IsStrIter it (strIterType x) x t i/\i<=x.cps.size) where
 mem:=by simp
 obj:=λi h st b hb=>by
  obtain⟨⟨old,he⟩,⟨o,e1,c,d⟩,_⟩:=st;rcases Ae.mp hb with rfl|hb
  .exact⟨_,he,λv z=>by cases z⟩
  .have e':b=it:=by simpa using hb
   subst e';exact⟨o,e1,λv z=>by rw[d] at z;cases z⟩
 keep:=λi h h' st k=>by
  obtain⟨⟨old,he⟩,⟨o,e1,r⟩,hi⟩:=st;exact⟨⟨old,k e (by simp) _ he⟩,⟨o,k it (by simp) o e1,r⟩,hi⟩
 item:=by
  intro X hP hw hK hc i pins s σ H E I hf st hg;subst hP hw hK;obtain⟨⟨old,he⟩,hs,hi⟩:=st;have hh:X.A.in1.handled=none:=I.ok.hd hc;refine wpAny_pyNext_enum_itemD (YZ hh it x t) he hs hg hei (by simpa using hei) λv h' tk hv heo hs' ht hz kk=>⟨_,rfl,?_⟩;obtain⟨c,u,hc',rfl⟩:=hv;refine wpAny_letOwnedTupleGo_enum heo λh2 he2 sb2=>?_;have hel:e<s.heap.objs.size:=Heap.lt_size he;have hil:it<s.heap.objs.size:=by obtain⟨o,e1,_⟩:=hs;exact Heap.lt_size e1
  have hs2:h2.IsStrIter it (strIterType x) x t (i+1):=by obtain⟨o,e1,r⟩:=hs';exact⟨o,(sb2.2 it (Ne.symm hei)).trans e1,r⟩
  have ht2:h2.get? s.heap.objs.size=some {cls:=.type "tuple",data:=.seq #[.int i tk,.str ⟨#[c]⟩ u]}:=(sb2.2 _ (HC hel)).trans ht
  have new:Cc X.prog X.w (upd H s.heap.objs.size (.tup [.int (i:Int),.str ⟨#[c]⟩])) h2 s.heap.objs.size (.tup [.int (i:Int),.str ⟨#[c]⟩]) :=
   ⟨by rw[sizeLine_eq];show 2<=16777216;decide,[.int i tk,.str ⟨#[c]⟩ u],.cons ⟨_,rfl⟩ (.cons ⟨_,rfl⟩ .nil),⟨_,ht2,rfl,_,rfl⟩⟩
  have I1:=My (t':=tk+1) (h':=h2) I hf (λb o hb q=>by
    have hbe:b≠e:=λz=>hb (by simp[z]);have hbi:b≠it:=λz=>hb (by simp[z])
    exact(sb2.2 b hbe).trans (kk b o hbe hbi q)) (Al _) (λz=>by
    rcases Ae.mp z with z|z
    .exact absurd z (HC hel)
    .exact absurd (AJi.mp z) (HC hil)) (λb hb=>by
    rcases Ae.mp hb with rfl|hb
    .exact⟨_,he2⟩
    .have e':b=it:=by simpa using hb
     subst e';obtain⟨o,e1,_⟩:=hs2
     exact⟨o,e1⟩) new
  refine⟨.ref s.heap.objs.size,_,I1,rfl,⟨s.heap.objs.size,c,I.hok.fresh (Al _),hc',rfl,rfl⟩,⟨⟨.str ⟨#[c]⟩ u,?_⟩,hs2,hg⟩,λb hb=>?_⟩
  .have:((i+1:Nat):Int)=(i:Int)+1:=by omega
   rw[this];exact he2
  .rw[Bn]
   .exact(hf b hb).1
   .rcases Ae.mp hb with z|z
    .rw[z];exact Bu hel
    .rw[AJi.mp z];exact Bu hil
 done:=by intro X hP hw hK hc i pins s σ H E I hf st hg;subst hP hw hK;obtain⟨⟨old,he⟩,hs,hi⟩:=st;have hh:X.A.in1.handled=none:=I.ok.hd hc;obtain⟨f0,f1,f2,f3,f4,f5⟩:=hf it (by simp);have hi:i=x.cps.size:=Nat.le_antisymm hi hg;rw[hi] at hs;exact wpAny_pyNext_enum_endD (YZ hh it x t) he hs λh' eb=>⟨rfl,I.turned (t':=s.toks) (λb o hb q=>eb b o hb q) f0 f1 f3 f4 f5⟩
 self:=λA i s Q E st h=>by
  obtain⟨⟨old,he⟩,_⟩:=st;exact wpAny_pyIter_enum he h
def Fs(xs:List D):List D:=xs.zipIdx.map λp=>.tup [.int (p.2:Int),p.1]
def Lj(f:AF):IF:=λρ L=>(f ρ L).bind λx=>match x.1 with|[.str y]=>some (⟨Fs (sgs y),λ_=>true⟩,x.2)|_=>none
theorem YV(y:Str)(i:Nat):(Fs (sgs y))[i]?=(y.cps[i]?).map λc=>.tup [.int (i:Int),.str ⟨#[c]⟩]:=by unfold Fs sgs;rw[BH,List.getElem?_zipIdx,BH,Array.getElem?_toList];cases y.cps[i]? <;> simp
theorem AGf(y:Str):(Fs (sgs y)).length=y.cps.size:=by simp[Fs,sgs]
section
variable {X:Cx}{elts:List Expr}{x1:Nat}{tp p pos:Pos}{a:Expr}{fa:AF}
theorem ADN(hm:X.mg "enumerate"=none)(ha:FR X [a] fa)(hg:Gl X "enumerate":=by rfl)(hs:starEach [a] X.env=[(false,eval a X.env)]:=by rfl):FQ X (.Tuple elts x1 tp) (.Call (.Name "enumerate" p) [a] [] pos) (Lj fa):=by
 rintro pins s σ H R I ⟨O,ρ,L,J,L',r,e,k⟩;unfold Lj at e
 cases e1:fa ρ L with
 |none=>rw[e1] at e;cases e
 |some q =>
  rw[e1] at e;obtain⟨ds,L1⟩:=q;simp only[AS] at e;split at e
  .rename_i y;simp only[Option.some.injEq,Prod.mk.injEq] at e;obtain⟨hJ,hL⟩:=e;subst hJ;subst hL;refine Call_ (Iy I hg hm (u:=.type "enumerate") (by decide +kernel) (PyProof.Rows.callWith_type1 (Ah (ha pos pins s σ H (λvs H1=>vs=[.str y]/\∃O1,Aq H O H1 O1/\BD X.K H1 O1 L1) I ⟨O,ρ,L,_,_,r,e1,λvs H1 O1 st rs is=>?_⟩) λus s1 ⟨vs,H1,I1,r1,ev,O1,st,rs⟩=>?_) hs rfl))
   .cases is with
    |cons i1 i2=>cases i1;cases i2;exact⟨rfl,O1,st,rs⟩
   .subst ev;obtain⟨u,rfl,t,rfl⟩:=En r1;refine call_enumerate_str λh' he hs' hz kk=>?_;refine wpAny_pyIter_enum he ?_;have I2:AK X pins σ H1 {s1 with heap:=h'}:=I1.kept (t':=s1.toks) kk;refine⟨s1.heap.objs.size+1,[s1.heap.objs.size+1,s1.heap.objs.size],_,_,H1,rfl,I2,ABI y t _ _ (Nat.succ_ne_self _),⟨⟨_,he⟩,hs',FE _⟩,λb hb=>?_,k (Zj y) H1 O1 st rs λi H2 O2 L2 st2 rs2 _=>?_⟩
    .rcases Ae.mp hb with rfl|hb
     .exact I1.fpOk (AKA _) (I1.hok.fresh (AKA _))
     .have e':b=s1.heap.objs.size:=by simpa using hb
      subst e';exact I1.fpOk (Al _) (I1.hok.fresh (Al _))
    .refine⟨λd hd=>?_,λh=>by rw[AGf] at h;exact h⟩;simp only at hd;rw[YV] at hd
     cases ec:y.cps[i]? with
     |none=>simp[ec] at hd
     |some c =>
      simp[ec] at hd;subst hd;refine⟨(AKy.mp ec).1,λx H' yy=>?_⟩;obtain⟨T,c',hT,h1,rfl,rfl⟩:=yy;rw[ec] at h1;cases h1;have st3:Aq H2 O2 (upd H2 T (.tup [.int (i:Int),.str ⟨#[c]⟩])) O2:=⟨.new hT,Ac _⟩;exact⟨st3,rs2.ext λa u e=>by rw[Bn (Du e hT)];exact e,.tup (Bt.of Ce) (.cons (.int _) (.cons (.str _ (by simp[Str.length])) .nil))⟩
  .cases e
end
mutual
def D.noRef:D->Bool
 |.tup xs=>D.noRefL xs
 |.fz xs=>D.noRefL xs
 |.ref _=>false
 |_=>true
def D.noRefL:List D->Bool
 |[]=>true
 |x::xs=>D.noRef x&&D.noRefL xs
end
section
variable {K:AO}{H H' H0:Hp}{O O':List Addr}
theorem Wm{v:V}{d:D}{vs:List V}{ds:List D}(a:d.noRef=true->Is K H O' v d)(b:D.noRefL ds=true->AV K H O' vs ds)(e:D.noRefL (d::ds)=true):AV K H O' (v::vs) (d::ds):=by have e:(D.noRef d&&D.noRefL ds)=true:=e;rw[CJ] at e;exact .cons (a e.1) (b e.2)
theorem Is.nr{v:V}{d:D}(h:Is K H O v d):d.noRef=true->Is K H O' v d :=
 Is.rec (motive_1:=λv d _=>d.noRef=true->Is K H O' v d) (motive_2:=λv d _=>D.noRefL d=true->AV K H O' v d) (λ_=>.non) (λb _=>.bl b) (λb _=>.int b) (λb h _=>.str b h) (λh _ r e=>.tup h (r e)) (λh _ r e=>.fz h (r e)) (λ_ e=>HI (show false=true from e)) (λn _=>.ty n) (λ_=>.nil) (λ_ _ a b=>Wm a b) h
theorem AV.nr{v:List V}{d:List D}(h:AV K H O v d):D.noRefL d=true->AV K H O' v d :=
 AV.rec (motive_1:=λv d _=>d.noRef=true->Is K H O' v d) (motive_2:=λv d _=>D.noRefL d=true->AV K H O' v d) (λ_=>.non) (λb _=>.bl b) (λb _=>.int b) (λb h _=>.str b h) (λh _ r e=>.tup h (r e)) (λh _ r e=>.fz h (r e)) (λ_ e=>HI (show false=true from e)) (λn _=>.ty n) (λ_=>.nil) (λ_ _ a b=>Wm a b) h
theorem AHL(p:O <+: O'){k:Nat}{a:Addr}(q:O[k]?=some a){v:V}(h:Is K H' O' v (.ref k)):Is K H' O v (.ref k):=by
 cases h with
 |ref q' =>
  have:=Dt p q;rw[q'] at this;cases this;exact .ref q
theorem AHK{ds:List D}(r:∀{v:List V},AV K H' O' v ds->AV K H' O v ds){v:V}(h:Is K H' O' v (.tup ds)):Is K H' O v (.tup ds):=by cases h with|tup q r'=>exact .tup q (r r')
theorem AHM{ds:List D}(r:∀{v:List V},AV K H' O' v ds->AV K H' O v ds){v:V}(h:Is K H' O' v (.fz ds)):Is K H' O v (.fz ds):=by cases h with|fz q r'=>exact .fz q (r r')
theorem AHN{d:D}{ds:List D}(a:∀{v:V},Is K H' O' v d->Is K H' O v d)(r:∀{v:List V},AV K H' O' v ds->AV K H' O v ds){v:List V}(h:AV K H' O' v (d::ds)):AV K H' O v (d::ds):=by cases h with|cons a' b'=>exact .cons (a a') (r b')
theorem AV.back(p:O <+: O'){v0:List V}{d:List D}(i:AV K H0 O v0 d):∀{v:List V},AV K H' O' v d->AV K H' O v d :=
 AV.rec (motive_1:=λ_ d _=>∀{v:V},Is K H' O' v d->Is K H' O v d) (motive_2:=λ_ d _=>∀{v:List V},AV K H' O' v d->AV K H' O v d) (λh=>h.nr rfl) (λ_ _ h=>h.nr rfl) (λ_ _ h=>h.nr rfl) (λ_ _ _ h=>h.nr rfl) (λ_ _ r _ h=>AHK r h) (λ_ _ r _ h=>AHM r h) (λq _ h=>AHL p q h) (λ_ _ h=>h.nr rfl) (λh=>h.nr rfl) (λ_ _ a b _ h=>AHN a b h) i
theorem Rv{α:Type}{f:α->D}(h:∀a,(f a).noRef=true):∀xs:List α,D.noRefL (xs.map f)=true
 |[]=>rfl
 |x::r=>by rw[Am,D.noRefL,h x,Rv h r];rfl
theorem keyD_noRef(k:Key):(keyD k).noRef=true:=by cases k <;> rfl
theorem AFj(k:Key ⊕ List Key):(Jm k).noRef=true:=by
 cases k with
 |inl k=>exact keyD_noRef k
 |inr ks=>exact Rv keyD_noRef ks
theorem AEe(k:NK):(Eb k).noRef=true:=Rv AFj k
theorem BD.back{L M:AD}(r0:BD K H O L)(st:Aq H O H' O')(r1:BD K H' O' (L++M)):BD K H' O L:=by
 refine⟨r0.len,r0.nd,λk a o e1 e2=>?_⟩;have q0:=r0.ob k a o e1 e2;have q1:=r1.ob k a o (Dt st.2 e1) (by rw[Fh (BY.mp e2).1];exact e2)
 cases o with
 |lst ds =>
  obtain⟨vs0,_,i0⟩:=q0;obtain⟨vs,hv,i1⟩:=q1;exact⟨vs,hv,AV.back st.2 i0 i1⟩
 |dk kvs =>
  obtain⟨us0,_,_,i0⟩:=q0;obtain⟨us,hv,hk,i1⟩:=q1;exact⟨us,hv,hk,AV.back st.2 i0 i1⟩
 |dt kvs ep =>
  obtain⟨us0,_,_,i0,_⟩:=q0;obtain⟨us,hv,hk,i1,i2⟩:=q1;exact⟨us,hv,hk,AV.back st.2 i0 i1,λu hu=>(i2 u hu).nr (AEe _)⟩
 |ins c fs =>
  obtain⟨_,_,us0,_,_,_,i0⟩:=q0;obtain⟨C,dx,us,z,hv,hk,i1⟩:=q1;exact⟨C,dx,us,z,hv,hk,AV.back st.2 i0 i1⟩
 |exn c=>exact q1
end
def Gf(N:List Str)(ds:List D):Fm:=ds.map some++AJm (N.length-ds.length) none
def Ja(K:AO)(G:GL):Sp:=λvs H Q _=>rC K G vs H Q
def Za(B:SF)(N:List Str)(xs:List D)(L:AD)(d:D)(L':AD):Prop :=
 ∃L'',(B (Gf N xs) L=some (.ret d L'')\/(d=.non/\∃ρ',B (Gf N xs) L=some (.next ρ' L'')))/\(L''=L'\/(L'=L/\L <+: L''/\d.noRef=true))
structure Ao (P:Program) (w:World) (K:AO) (mg:ALK) (base:Heap) (k:Nat) (x:Str) (G:GL):Prop where
 ex:∃f fd ps,Dx P w K mg base CX0 k f fd ps (Ja K G)/\mg x=some (.ref f)/\HB K (.ref f)=true/\Fg K fd ps []
section
variable {P:Program}{w:World}{K:AO}{mg:ALK}{base:Heap}
theorem YI{H:Hp}{O:List Addr}{N:List Str}{vs:List V}{ds:List D}(h:AV K H O vs ds):Ih K H O (L2.HK N vs) (Gf N ds):=by
 refine⟨by simp[L2.HK,Gf,h.length],λi d e=>?_⟩;unfold Gf at e;unfold L2.HK
 by_cases hi:i<ds.length
 .rw[Fh (by simpa using hi),BH] at e;rw[Fh (by simpa[h.length] using hi),BH]
  cases q:ds[i]? with
  |none=>rw[q] at e;cases e
  |some d' =>
   rw[q] at e;cases e;obtain⟨v,hv,iv⟩:=h.get q;exact⟨v,by simp[hv],iv⟩
 .rw[AJ0 (by simpa using hi),AKj] at e;split at e <;> cases e
theorem Sk{x qual:Str}{st:Stmt}{f:Addr}{fd:FuncData}{N ps:List Str}{k:Nat}(F:Ig K x qual st f fd)(S:BN N ps (Ab st))(G:GL)(B:SF)(hlen:∀xs L r,G xs L=some r->xs.length=ps.length)
  (hb:∀(cdv:Value) (A:Around) (outer:List Env) (s:Shared) (H:Hp) (E:XK),CO k (A.deeper (envOfC qual (Ab st) s.heap.objs.size f cdv)) ->
   GW (IA CX0 P w K mg base N qual (Ab st) f cdv A outer s H E).nox (Gr st) B)
  (hG:∀xs L d L',G xs L=some (d,L')->Za B N xs L d L'):Dx P w K mg base CX0 (k+1) f fd ps (Ja K G):=by
 refine F.ok S (λvs H Q E h=>?_) (λcdv A outer s H vs Q E hr h=>?_)
 .obtain⟨O,L,xs,d,L',_,is,e,_⟩:=h;rw[is.length];exact hlen _ _ _ e
 .obtain⟨O,L,xs,d,L',rs,is,e,kk⟩:=h;refine⟨_,hb cdv A outer s H E hr,?_⟩;obtain⟨L'',hB,hd⟩:=hG _ _ _ _ e
  have close:∀v H' O',Aq H O H' O'->BD K H' O' L''->Is K H' O' v d->Q v H':=λv H' O' st' rs' is'=>by
   rcases hd with rfl|⟨rfl,⟨M,rfl⟩,nr⟩
   .exact kk v H' O' st' rs' is'
   .exact kk v H' O ⟨st'.1,Ac _⟩ (rs.back st' rs') (is'.nr nr)
  rcases hB with hB|⟨rfl,ρ',hB⟩
  .exact⟨O,Gf N xs,L,_,⟨rs,YI is⟩,hB,close⟩
  .exact⟨O,Gf N xs,L,_,⟨rs,YI is⟩,hB,λσ' H' O' st' r'=>close _ H' O' st' r'.s .non⟩
theorem Ao.mono{j k:Nat}{x:Str}{G:GL}(F:Ao P w K mg base j x G)(h:j<=k):Ao P w K mg base k x G:=by obtain⟨f,fd,ps,a,b⟩:=F.ex;exact⟨f,fd,ps,a.mono h,b⟩
theorem Ao.imp{k:Nat}{x:Str}{G G':GL}(F:Ao P w K mg base k x G)(h:∀xs L r,G' xs L=some r->G xs L=some r):Ao P w K mg base k x G':=by obtain⟨f,fd,ps,a,b⟩:=F.ex;exact⟨f,fd,ps,a.imp λvs H Q E z4_=>(by obtain⟨O,L,xs,d,L',rs,is,e,kk⟩:=z4_;exact⟨O,L,xs,d,L',rs,is,h _ _ _ e,kk⟩),b⟩
end
section
variable {X:Cx}{k:Nat}{x:Str}{G:GL}{p pos:Pos}{e:Expr}{es:List Expr}{f:AF}
theorem Ap(F:Ao X.prog X.w X.K X.mg X.base k x G)(hr:CO k X.A)(ha:FR X (e::es) f)(hg:Gl X x:=by rfl)(hdb:(x == ("__debug__":Str))=false:=by decide)
  (he:FN e=true:=by rfl) (hpl:es.all FN=true:=by rfl):Af X (.Call (.Name x p) (e::es) [] pos) (AQ G f):=by
 obtain⟨fa,fd,ps,a,b,c,d⟩:=F.ex
 exact PE.weaken (ADw a hr hg b c d .nil Rm ha hdb (IJ he) (Jd hpl)) λσ H Q h=>by
  have q:=Ss h;obtain⟨O,ρ,L,ds,L',r,e,k⟩:=q;exact⟨O,ρ,L,ds,L',r,e,λvs H1 O1 st rs is=>by show rC X.K G (vs++[]) H1 Q;rw[AKK];exact k vs H1 O1 st rs is⟩
theorem AGk(F:Ao X.prog X.w X.K X.mg X.base k x G)(hr:CO k X.A)(hg:Gl X x:=by rfl)(hdb:(x == ("__debug__":Str))=false:=by decide):Af X (.Call (.Name x p) [] [] pos) (AQ G AI):=by
 obtain⟨fa,fd,ps,a,b,c,d⟩:=F.ex
 exact PE.weaken (ADv a hr hg b c d .nil Rm hdb) λσ H Q h=>by
  obtain⟨O,ρ,L,ds,L',r,e,k⟩:=h;exact⟨O,L,[],ds,L',r.s,.nil,e,k⟩
end
noncomputable instance decMul (a b:Int):Decidable (IntMulOk a b):=by unfold IntMulOk;infer_instance
section
variable {X:Cx}
theorem AET:Av X (binaryOp .Mult) (rI IntMulOk λi j=>.int (i*j)):=NQ λ_ _ _ _ _ _ _ hc q=>mul_int q hc
theorem op_catE:Av X (binaryOp .Add) (λx y H Q=>∃a b ys,x=.ref a/\y=.ref b/\Bt X.K H a []/\Bt X.K H b ys/\Q (.ref b) H):=by
 intro pins s σ H x y v u Q I rx ry h;obtain⟨a,b,ys,rfl,rfl,ha,hb,q⟩:=h;cases rx;cases ry;obtain⟨its,r1,p1,_⟩:=I.tuple ha;obtain⟨its2,r2,p2,_⟩:=I.tuple hb;have hi:its=[]:=r1.nil_iff.mpr rfl;subst hi;obtain⟨⟨cls,dd,data,sl⟩,ho,hc,n,hd⟩:=p1;obtain⟨⟨cls2,dd2,data2,sl2⟩,ho2,hc2,n2,hd2⟩:=p2;simp only at hc hd hc2 hd2;subst hc hd hc2 hd2
 exact concat_meets ⟨_,ho,rfl⟩ ⟨_,ho2,rfl⟩ noFill_tuple_add seq_tuple_add AKv AKw (AKx _ _)
  (tuple_addW0 a b _ _ n n2 dd dd2 sl sl2 rfl) ⟨ho,ho2,.ref b,H,I,rfl,q⟩
def CV:G2
 |.int i,.int j,L=>some (.int (i+j),L)
 |.str x,.str y,L=>if x.length+y.length<=16777216 then some (.str (x++y),L) else none
 |.ref a,.ref b,L=>match L[a]?,L[b]? with
  |some (.lst xs),some (.lst ys)=>if xs.length+ys.length<=16777216 then some (.ref L.length,L++[.lst (xs++ys)]) else none
  |_,_=>none
 |.tup xs,.tup ys,L=>if xs=[] then some (.tup ys,L) else if xs.length+ys.length<=16777216 then some (.tup (xs++ys),L) else none
 |_,_,_=>none
theorem DT:DG X (binaryOp .Add) CV:=Av.weaken (Av.or AES (Av.or AER (Av.or AEQ (Av.or AEP op_catE)))) λv u H Q z4_=>by
 obtain⟨O,L,x,y,d,L',rs,ix,iy,e,k⟩:=z4_;unfold CV at e;split at e
 .cases ix;cases iy;cases e;exact .inl ⟨_,_,rfl,rfl,k _ _ _ (.refl _ _) rs (.int _)⟩
 .cases ix with|str _ h1=>cases iy with|str _ h2 =>
   split at e
   .rename_i hz;cases e;exact .inr (.inl ⟨_,_,rfl,rfl,by rw[sizeLine_eq];exact hz,k _ _ _ (.refl _ _) rs (.str _ (by rw[strLen_append];exact hz))⟩)
   .cases e
 .rename_i a b
  cases ix with|ref ha=>cases iy with|ref hb =>
   split at e
   .rename_i xs ys e1 e2;split at e
    .rename_i hz;cases e;obtain⟨vs,hv,iv⟩:=rs.ob _ _ _ ha e1;obtain⟨ws,hw,iw⟩:=rs.ob _ _ _ hb e2;refine .inr (.inr (.inl ⟨_,_,vs,ws,rfl,rfl,hv,hw,by rw[iv.length,iw.length,sizeLine_eq];exact hz,λp hp=>?_⟩));have st:Aq H O (upd H p (.lst (vs++ws))) (O++[p]):=⟨.new hp,BB _ _⟩;exact k _ _ _ st (rs.new hp ⟨_,Ce,(iv.append iw).mono st⟩) (.ref (by rw[<-rs.len];simp))
    .cases e
   .cases e
 .rename_i xs ys;split at e
  .rename_i hx;subst hx;cases e
   cases ix with|@tup a vs _ h1 i1=>cases iy with|@tup b ws _ h2 i2 =>
    cases i1;exact .inr (.inr (.inr (.inr ⟨_,_,ws,rfl,rfl,h1,h2,k _ _ _ (.refl _ _) rs (.tup h2 i2)⟩)))
  .rename_i hx;split at e
   .rename_i hz;cases e
    cases ix with|@tup a vs _ h1 i1=>cases iy with|@tup b ws _ h2 i2 =>
     refine .inr (.inr (.inr (.inl ⟨_,_,vs,ws,rfl,rfl,h1,h2,?_,by rw[i1.length,i2.length,sizeLine_eq];exact hz,λq=>?_,λq p hp=>?_⟩)))
     .rintro rfl;cases i1;exact hx rfl
     .subst q;cases i2;rw[AKK] at k;exact k _ _ _ (.refl _ _) rs (.tup h1 i1)
     .have st:Aq H O (upd H p (.tup (vs++ws))) O:=⟨.new hp,Ac _⟩;exact k _ _ _ st (rs.ext λa u e=>by rw[Bn (Du e hp)];exact e) (.tup (Bt.of Ce) ((i1.append i2).mono st))
   .cases e
 .cases e
def gI(C:Int->Int->Bool)(f:Int->Int->D):G2:=λx y L=>match x,y with|.int i,.int j=>if C i j=true then some (f i j,L) else none|_,_=>none
theorem Iw{f:Value->Value->Sem Value}{C:Int->Int->Prop}{Cb:Int->Int->Bool}{g:Int->Int->V}{gd:Int->Int->D}(h:Av X f (rI C g))(hc:∀i j,Cb i j=true->C i j)(hg:∀K H O i j,Is K H O (g i j) (gd i j)):DG X f (gI Cb gd) :=
 Av.weaken h λv u H Q z4_=>by
  obtain⟨O,L,x,y,d,L',rs,ix,iy,e,k⟩:=z4_;unfold gI at e;split at e
  .split at e
   .rename_i hcc;cases ix;cases iy;cases e;exact⟨_,_,rfl,rfl,hc _ _ hcc,k _ _ _ (.refl _ _) rs (hg _ _ _ _ _)⟩
   .cases e
  .cases e
theorem LR{f:Value->Value->Sem Value}{g:Int->Int->V}(h:Av X f (IM g)):Av X f (rI (λ_ _=>True) g):=Av.weaken h λx y H Q z4_=>by obtain⟨i,j,a,b,_,q⟩:=z4_;exact⟨i,j,a,b,q⟩
def LM(_ _:Int):Bool:=true
def MC(_ j:Int):Bool:=decide (0<j)&&decide (j<10000000000000000000000000000000000000000000000000000000000000000000000000000000000000000000000000000)
def OA(_ j:Int):Bool:=decide (0<j)
def Su(i j:Int):Bool:=decide (0<=j)&&decide (j<=1000000)&&decide (i.natAbs<2 ^ 64)
def cMul(i j:Int):Bool:=decide (IntMulOk i j)
def HR:G2:=gI LM λi j=>.int (i-j)
def Cw:G2:=gI MC λi j=>.int (i / j)
def Bq:G2:=gI OA λi j=>.int (i % j)
def IW:G2:=gI Su λi j=>.int (i ^ j.toNat)
theorem Je:DG X (binaryOp .Sub) HR:=Iw (LR AEB) (λ_ _ _=>True.intro) λ_ _ _ _ _=>.int _
theorem AFK{j:Int}(h0:0<j)(h1:j<10000000000000000000000000000000000000000000000000000000000000000000000000000000000000000000000000000):j.natAbs.log2<340:=by
 have hn:j.natAbs≠0:=by omega
 refine(Nat.log2_lt hn).mpr ?_;have e:10000000000000000000000000000000000000000000000000000000000000000000000000000000000000000000000000000<(2:Nat) ^ 340:=by decide +kernel
 omega
theorem AEO:Av X (binaryOp .FloorDiv) (rI (λ_ j=>0<j/\j<10000000000000000000000000000000000000000000000000000000000000000000000000000000000000000000000000000) λi j=>.int (i / j)):=NQ λi j _ _ _ _ _ hc q=>by
 rw[<-Int.fdiv_eq_ediv_of_nonneg i (Int.le_of_lt hc.1)] at q;exact floordiv_int (by omega) q (.inl (PyProof.noPylong_of_log2 (by have:=AFK hc.1 hc.2;omega)))
theorem DS:DG X (binaryOp .FloorDiv) Cw:=Iw AEO (λi j h=>by simp only[MC,CJ,decide_eq_true_eq] at h;exact h) λ_ _ _ _ _=>.int _
theorem CF:DG X (binaryOp .Mod) Bq:=Iw AEH (λi j h=>by simp[OA] at h;exact h) λ_ _ _ _ _=>.int _
theorem NS:DG X (binaryOp .Pow) IW:=Iw AEC (λi j h=>by simp[Su] at h;exact⟨h.1.1,h.1.2,h.2⟩) λ_ _ _ _ _=>.int _
def KR(x:Str)(n:Int):Bool:=decide (-1000000<=n)&&decide (n<=1000000)&&decide (x.length*n.toNat<=16777216)
def Et:G2:=λx y L=>match x,y with
 |.int i,.int j=>if cMul i j=true then some (.int (i*j),L) else none
 |.str x,.int n=>if KR x n=true then some (.str (Txt.mul x n),L) else none
 |_,_=>none
theorem XM:∀(l:List (Array Nat)) (a:Array Nat),(l.foldl (·++·) a).size=a.size+(l.map (·.size)).sum
 |[],a=>by simp
 |b::r,a=>by rw[AJj,XM r];simp[Array.size_append];omega
theorem AEk(x:Str)(n:Int):(Txt.mul x n).length<=x.length*n.toNat:=by
 unfold Txt.mul;split
 .exact FE _
 .split
  .rename_i h1 h2;simp only[Bool.or_eq_true,beq_iff_eq] at h2;rcases h2 with h2|h2
   .subst h2;simp
   .rw[h2];simp
  .show((AJm n.toNat x.cps).foldl (·++·) #[]).size<=_;rw[XM];simp[Str.length,Nat.mul_comm]
theorem AEG:Av X (binaryOp .Mult) (λx y H Q=>∃z n,x=.str z/\y=.int n/\KR z n=true/\Q (.str (Txt.mul z n)) H):=by
 intro pins s σ H x y v u Q I rx ry h;obtain⟨z,n,rfl,rfl,hc,q⟩:=h;obtain⟨t,rfl⟩:=rx;obtain⟨t',rfl⟩:=ry;simp only[KR,CJ,decide_eq_true_eq] at hc;obtain⟨⟨h1,h2⟩,h3⟩:=hc;refine SB.mul ⟨?_,λhn _ hz=>?_,λ_ _=>?_⟩ λt' k=>⟨.str _,H,I.tok _,⟨_,rfl⟩,q⟩
 .have e1:decide (n < -(2 ^ 63:Int))=false:=decide_eq_false (by omega);have e2:decide (n ≥ 2 ^ 63)=false:=decide_eq_false (by omega);rw[e1,e2];rfl
 .have e1:(z.length:Int)*n<=16777216:=by
   have h4:((z.length*n.toNat:Nat):Int)<=((16777216:Nat):Int):=Int.ofNat_le.mpr h3;rw[Int.natCast_mul,Int.toNat_of_nonneg (by omega)] at h4;omega
  have e2:(z.length:Int)<=((2:Int) ^ 63-1) / n:=Int.le_ediv_of_mul_le (by omega) (by omega);omega
 .have h5:¬(z.length*n.toNat>sizeLine):=by rw[sizeLine_eq];omega
  exact decide_eq_false h5
theorem HP:DG X (binaryOp .Mult) Et:=Av.weaken (Av.or AET AEG) λv u H Q z4_=>by
 obtain⟨O,L,x,y,d,L',rs,ix,iy,e,k⟩:=z4_;unfold Et at e;split at e
 .split at e
  .rename_i hc;cases ix;cases iy;cases e;exact .inl ⟨_,_,rfl,rfl,of_decide_eq_true hc,k _ _ _ (.refl _ _) rs (.int _)⟩
  .cases e
 .split at e
  .rename_i hc;cases ix;cases iy;cases e;refine .inr ⟨_,_,rfl,rfl,hc,k _ _ _ (.refl _ _) rs (.str _ ?_)⟩;simp only[KR,CJ,decide_eq_true_eq] at hc;exact DA (AEk _ _) hc.2
  .cases e
 .cases e
def gLt:G2:=gI LM λi j=>.bl (decide (i<j))
def Nq:G2:=gI LM λi j=>.bl (decide (i<=j))
def HS:G2:=gI LM λi j=>.bl (decide (j<i))
def Nt:G2:=gI LM λi j=>.bl (decide (j<=i))
theorem Jf:DG X (compareOp .Lt) gLt:=Iw (LR op_lt) (λ_ _ _=>True.intro) λ_ _ _ _ _=>.bl _
theorem Wg:DG X (compareOp .LtE) Nq:=Iw (LR AEI) (λ_ _ _=>True.intro) λ_ _ _ _ _=>.bl _
theorem IN:DG X (compareOp .Gt) HS:=Iw (LR AEM) (λ_ _ _=>True.intro) λ_ _ _ _ _=>.bl _
theorem Wh:DG X (compareOp .GtE) Nt:=Iw (LR AEN) (λ_ _ _=>True.intro) λ_ _ _ _ _=>.bl _
def Dp:D->V
 |.non=>.non|.bl b=>.bl b|.int i=>.int i|.str x=>.str x|_=>.non
def BO:D->Bool
 |.non=>true|.bl _=>true|.int _=>true|.str _=>true|_=>false
theorem FO{K:AO}{H:Hp}{O:List Addr}{v:V}{d:D}(h:Is K H O v d)(f:BO d=true):v=Dp d:=by cases h <;> first|rfl|(simp[BO] at f)
theorem YJ{K:AO}{H:Hp}{O:List Addr}:∀{vs:List V} {ds:List D},AV K H O vs ds->ds.all BO=true->vs=ds.map Dp
 |_,_,.nil,_=>rfl
 |_,_,.cons a b,f=>by
  rw[AJ1,CJ] at f;rw[Am,FO a f.1,YJ b f.2]
theorem Kk{d:D}(f:BO d=true):Gq (Dp d)=true:=by cases d <;> simp_all [BO,Dp,Gq]
theorem JY{a b:D}(fa:BO a=true)(fb:BO b=true):(Dp a=Dp b)↔a=b:=by cases a <;> simp[BO] at fa <;> cases b <;> simp[BO] at fb <;> simp[Dp]
def Fi(a b:D):Bool:=BO a&&BO b&&RT (Dp a) (Dp b)
def CN:G2:=λx y L=>if Fi x y=true then some (.bl (decide (x=y)),L) else none
def Go:G2:=λx y L=>if Fi x y=true then some (.bl (!decide (x=y)),L) else none
theorem DJ:DG X (compareOp .Eq) CN:=Av.weaken Wc λv u H Q z4_=>by
 obtain⟨O,L,x,y,d,L',rs,ix,iy,e,k⟩:=z4_;unfold CN at e;split at e
 .rename_i h;cases e;simp only[Fi,CJ] at h;obtain⟨⟨h1,h2⟩,h3⟩:=h;rw[FO ix h1,FO iy h2];refine⟨h3,?_⟩;have:decide (Dp x=Dp y)=decide (x=y):=by simp[JY h1 h2]
  rw[this];exact k _ _ _ (.refl _ _) rs (.bl _)
 .cases e
theorem KP:DG X (compareOp .NotEq) Go:=Av.weaken Wb λv u H Q z4_=>by
 obtain⟨O,L,x,y,d,L',rs,ix,iy,e,k⟩:=z4_;unfold Go at e;split at e
 .rename_i h;cases e;simp only[Fi,CJ] at h;obtain⟨⟨h1,h2⟩,h3⟩:=h;rw[FO ix h1,FO iy h2];refine⟨h3,?_⟩;have:decide (Dp x=Dp y)=decide (x=y):=by simp[JY h1 h2]
  rw[this];exact k _ _ _ (.refl _ _) rs (.bl _)
 .cases e
def IQ:D->Bool|.non=>true|_=>false
theorem Xb{K:AO}{H:Hp}{O:List Addr}{v:V}{d:D}(h:Is K H O v d):decide (v=.non)=IQ d:=by cases h <;> simp[IQ]
def isBl(b:Bool):D->Bool|.bl c=>c == b|_=>false
theorem AEJ:Av X (compareOp .Is) (λx y H Q=>∃b,y=.bl b/\(∀n,x≠.ty n)/\Q (.bl (decide (x=.bl b))) H):=by
 intro pins s σ H x y v u Q I rx ry h;obtain⟨b,rfl,hn,q⟩:=h;cases ry
 cases x with
 |non=>cases rx;exact AU (Bf I q rfl)
 |bl c=>cases rx;exact AU (Bf I q (by cases c <;> cases b <;> rfl))
 |int c=>obtain⟨t,rfl⟩:=rx;exact AU (Bf I q rfl)
 |str c=>obtain⟨t,rfl⟩:=rx;exact AU (Bf I q rfl)
 |byt c=>obtain⟨t,rfl⟩:=rx;exact AU (Bf I q rfl)
 |flt c=>obtain⟨t,rfl⟩:=rx;exact AU (Bf I q rfl)
 |ref c=>cases rx;exact AU (Bf I q rfl)
 |ty c=>exact absurd rfl (hn c)
theorem AEF:Av X (compareOp .IsNot) (λx y H Q=>∃b,y=.bl b/\(∀n,x≠.ty n)/\Q (.bl (!decide (x=.bl b))) H):=by
 intro pins s σ H x y v u Q I rx ry h;obtain⟨b,rfl,hn,q⟩:=h;cases ry
 cases x with
 |non=>cases rx;exact AU (Bf I q rfl)
 |bl c=>cases rx;exact AU (Bf I q (by cases c <;> cases b <;> rfl))
 |int c=>obtain⟨t,rfl⟩:=rx;exact AU (Bf I q rfl)
 |str c=>obtain⟨t,rfl⟩:=rx;exact AU (Bf I q rfl)
 |byt c=>obtain⟨t,rfl⟩:=rx;exact AU (Bf I q rfl)
 |flt c=>obtain⟨t,rfl⟩:=rx;exact AU (Bf I q rfl)
 |ref c=>cases rx;exact AU (Bf I q rfl)
 |ty c=>exact absurd rfl (hn c)
theorem Xc{K:AO}{H:Hp}{O:List Addr}{v:V}{d:D}{b:Bool}(h:Is K H O v d):decide (v=.bl b)=isBl b d:=by cases h <;> simp[isBl];rename_i c;cases c <;> cases b <;> rfl
def noTy:D->Bool|.ty _=>false|_=>true
theorem Wo{K:AO}{H:Hp}{O:List Addr}{v:V}{d:D}(h:Is K H O v d)(n:noTy d=true):∀m,v≠.ty m:=by
 intro m z
 cases h <;> first|(cases z;done)|(simp[noTy] at n)
def Ki:G2:=λx y L=>match y with|.non=>some (.bl (IQ x),L)|.bl b=>if noTy x=true then some (.bl (isBl b x),L) else none|_=>none
def Kh:G2:=λx y L=>match y with|.non=>some (.bl (!IQ x),L)|.bl b=>if noTy x=true then some (.bl (!isBl b x),L) else none|_=>none
theorem Rr:DG X (compareOp .Is) Ki:=Av.weaken (Av.or op_isN AEJ) λv u H Q z4_=>by
 obtain⟨O,L,x,y,d,L',rs,ix,iy,e,k⟩:=z4_;unfold Ki at e;split at e
 .cases e;cases iy;refine .inl ⟨rfl,?_⟩;rw[Xb ix];exact k _ _ _ (.refl _ _) rs (.bl _)
 .split at e
  .rename_i hn;cases e;cases iy;refine .inr ⟨_,rfl,Wo ix hn,?_⟩;rw[Xc ix];exact k _ _ _ (.refl _ _) rs (.bl _)
  .cases e
 .cases e
theorem Rq:DG X (compareOp .IsNot) Kh:=Av.weaken (Av.or AED AEF) λv u H Q z4_=>by
 obtain⟨O,L,x,y,d,L',rs,ix,iy,e,k⟩:=z4_;unfold Kh at e;split at e
 .cases e;cases iy;refine .inl ⟨rfl,?_⟩;rw[Xb ix];exact k _ _ _ (.refl _ _) rs (.bl _)
 .split at e
  .rename_i hn;cases e;cases iy;refine .inr ⟨_,rfl,Wo ix hn,?_⟩;rw[Xc ix];exact k _ _ _ (.refl _ _) rs (.bl _)
  .cases e
 .cases e
def Gi(i j:Str):Bool:=!(Builtin.Str.occurrences j i 0 j.length 1).isEmpty
def Kl(a b:D):Bool:=eqV (Dp a) (Dp b)
def Db(x:D)(xs:List D):Bool:=xs.any λy=>Kl y x
def DD(d:D)(L:AD):Option (List D):=match d with
 |.tup xs=>some xs|.fz xs=>some xs
 |.ref k=>match L[k]? with|some (.lst xs)=>some xs|_=>none
 |_=>none
theorem Jb{K:AO}{H:Hp}{O:List Addr}{L:AD}{v:V}{d:D}{xs:List D}(rs:BD K H O L)(h:Is K H O v d)(e:DD d L=some xs):∃a vs,v=.ref a/\(Bj K H a vs\/Bt K H a vs)/\AV K H O vs xs:=by
 cases h with
 |tup hq il=>cases e;exact⟨_,_,rfl,.inr hq,il⟩
 |fz hq il=>cases e;exact⟨_,_,rfl,.inl hq.sql,il⟩
 |ref hk =>
  simp only[DD] at e;split at e
  .rename_i ys e2;cases e;obtain⟨vs,hv,iv⟩:=rs.ob _ _ _ hk e2;exact⟨_,vs,rfl,.inl (Bj.of hv),iv⟩
  .cases e
 |_=>cases e
def DK(neg:Bool):G2:=λx y L=>match x,y with
 |.str i,.str j=>some (.bl (if neg then !Gi i j else Gi i j),L)
 |_,_=>match DD y L with|some ys=>if BO x&&ys.all BO then some (.bl (if neg then !Db x ys else Db x ys),L) else none|none=>none
theorem AFs{x:D}{xs:List D}:SU (Dp x) (xs.map Dp)=Db x xs:=by unfold SU Db Kl;rw[List.any_map];rfl
theorem AHd{xs:List D}(h:xs.all BO=true):(xs.map Dp).all Gq=true:=by rw[List.all_map];rw[CW] at h ⊢;exact λd hd=>Kk (h d hd)
theorem YF{K:AO}{H:Hp}{O:List Addr}{L L':AD}{v u:V}{x y d:D}{neg:Bool}{Q:VK}(rs:BD K H O L)(ix:Is K H O v x)(iy:Is K H O u y)
  (e:(match DD y L with|some ys=>if BO x&&ys.all BO then some (D.bl (if neg then !Db x ys else Db x ys),L) else none|none=>none)=some (d,L'))
  (k:∀w H' O',Aq H O H' O'->BD K H' O' L'->Is K H' O' w d->Q w H'):RZ K neg v u H Q:=by
 split at e
 .rename_i ys hy;split at e
  .rename_i hf;cases e;rw[CJ] at hf;obtain⟨a,vs,rfl,hs,il⟩:=Jb rs iy hy;have e1:=FO ix hf.1;have e2:=YJ il hf.2;subst e1 e2;refine⟨a,_,rfl,hs,Kk hf.1,AHd hf.2,?_⟩;rw[AFs];exact k _ _ _ (.refl _ _) rs (.bl _)
  .cases e
 .cases e
theorem Jg:DG X (compareOp .In) (DK false):=Av.weaken (Av.or AEK AEL) λv u H Q z4_=>by
 obtain⟨O,L,x,y,d,L',rs,ix,iy,e,k⟩:=z4_;unfold DK at e;split at e
 .cases e;cases ix;cases iy;exact .inl ⟨_,_,rfl,rfl,k _ _ _ (.refl _ _) rs (.bl _)⟩
 .exact .inr (YF rs ix iy e k)
theorem Iv:DG X (compareOp .NotIn) (DK true):=Av.weaken (Av.or op_notin_str AEE) λv u H Q z4_=>by
 obtain⟨O,L,x,y,d,L',rs,ix,iy,e,k⟩:=z4_;unfold DK at e;split at e
 .cases e;cases ix;cases iy;exact .inl ⟨_,_,rfl,rfl,k _ _ _ (.refl _ _) rs (.bl _)⟩
 .exact .inr (YF rs ix iy e k)
def AZ:G2:=λx y L=>match y with
 |.int i=>match x with
  |.str z=>(match atI z.cps.toList i with|some c=>some (.str ⟨#[c]⟩,L)|none=>none)
  |_=>(match DD x L with|some xs=>(match atI xs i with|some d=>some (d,L)|none=>none)|none=>none)
 |_=>none
theorem AHT{K:AO}{H:Hp}{O:List Addr}{vs:List V}{xs:List D}{i:Int}{d:D}(il:AV K H O vs xs)(e:atI xs i=some d):∃v,atI vs i=some v/\Is K H O v d:=by
 unfold atI at e ⊢;rw[il.length]
 cases q:ixN xs.length i with
 |none=>rw[q] at e;cases e
 |some j=>rw[q] at e;exact il.get e
theorem FG:OQ X AZ:=Fz.weaken AFf λv u H Q z4_=>by
 obtain⟨O,L,x,y,d,L',rs,ix,iy,e,k⟩:=z4_;unfold AZ at e;split at e
 .cases iy;split at e
  .split at e
   .rename_i c hc;cases e
    cases ix with|str _ hz =>
     exact .inr (.inr ⟨_,_,c,rfl,rfl,by rw[sizeLine_eq];exact hz,hc,k _ _ _ (.refl _ _) rs (.str _ (by simp[Str.length]))⟩)
   .cases e
  .split at e
   .rename_i xs hx;split at e
    .rename_i dd hd;cases e;obtain⟨a,vs,rfl,hs,il⟩:=Jb rs ix hx;obtain⟨w,hw,iw⟩:=AHT il hd;rcases hs with hs|hs
     .exact .inl ⟨a,vs,_,w,rfl,rfl,hs,hw,k _ _ _ (.refl _ _) rs iw⟩
     .exact .inr (.inl ⟨a,vs,_,w,rfl,rfl,hs,hw,k _ _ _ (.refl _ _) rs iw⟩)
    .cases e
   .cases e
 .cases e
end
end L3
set_option maxHeartbeats 4000000
namespace HT
open PySem PySem.Spec PyProof.Rows
section
variable {prog:Program}{w:World}{A:Around}{E:ALL}{s:Shared}
theorem AIv{t sl:Addr}{items:Array Value}{vl vu:Value}{lo hi:Option Int}{Q:ALL}(ht:IsTup s.heap t items)(hs:s.heap.IsSliceOf sl vl vu .none)(pl:IsPart vl lo)(pu:IsPart vu hi)
  (hw:sIx items.size 0 lo=0/\sIx items.size items.size hi=items.size) (h:Q (.ref t) s) (hsz:items.size<=sizeLine):wpAny (model prog w) A (getItem (.ref t) (.ref sl)) Q E s:=by
 obtain⟨os,hos,hcs,hds⟩:=id hs;have hTs:s.TypeIs (.ref sl) "slice":=⟨os,hos,hcs⟩;unfold getItem
 try with_reducible refine EV ?_
 first|refine AH (AU ?_)|skip
 refine AH (wpAny_sequenceKey ht.typeIs (by decide) ?_)
 refine AH (ALC (name:=Str.ofString "__getitem__") ht.typeIs PyProof.Rows.slot_tuple_getitem
  (Gz PyProof.Rows.slot_tuple_getitem ht.typeIs entry_tuple_getitem ?_ (args_tuple_getitem _ _)))
 show wpAny _ _ (Builtin.Tuple.tupleItemsOf (.ref t) >>= _) _ _ s;refine AH (tupleItemsOf_ ht ?_);refine AH (wpAny_typeOf hTs ?_);rw[if_pos (by decide)];refine AH (Vm hs pl pu ?_)
 have hyes:(((sIx items.size 0 lo:Nat):Int) == 0&&(1:Int) == 1&&(sIx items.size items.size hi-sIx items.size 0 lo) == items.size)=true:=by rw[hw.1,hw.2];simp
 show wpAny _ _ (if (((sIx items.size 0 lo:Nat):Int) == 0&&(1:Int) == 1&&(sIx items.size items.size hi-sIx items.size 0 lo) == items.size)=true then _ else _) _ _ s
 rw[if_pos hyes];unfold Builtin.Tuple.tupleIsExact;refine AH (AH (wpAny_typeOf ht.typeIs (AU ?_)));rw[if_pos (by decide)];refine AH (AK7 ?_);exact AU ⟨_,rfl,AU h⟩
end
end HT
namespace L2
open PySem PySem.Spec PyProof.Rows
section
variable {X:Cx}
theorem AB4:Gx X (λx lo hi H Q=>∃a xs,x=.ref a/\Bt X.K H a xs/\(HT.sIx xs.length 0 lo=0/\HT.sIx xs.length xs.length hi=xs.length)/\Q (.ref a) H):=by
 intro pins s σ H x v vl vu lo hi sl Q I rx hs pl pu h;obtain⟨a,xs,rfl,hx,hw,q⟩:=h;cases rx;obtain⟨its,r,ht,hz⟩:=I.tuple hx;have hlen:its.toArray.size=xs.length:=by rw[Bx];exact r.length.symm
 refine⟨"tuple",_,PyProof.Rows.slot_tuple_getitem.lookup,ht.typeIs,?_⟩;exact HT.AIv ht hs pl pu (by rw[hlen];exact hw) ⟨.ref a,H,I,rfl,q⟩ (by rw[hlen];exact hz)
end
end L2
set_option maxHeartbeats 4000000
namespace L3
open PySem PySem.Spec PyProof.Rows L2
abbrev OF:=Fm->AD->Option (Option Int×AD)
def AFL(K:AO)(f:OF):TO:=λσ H Q=>∃O ρ L d L',Dn K H O σ ρ L/\f ρ L=some (d,L')/\∀H' O',Aq H O H' O'->BD K H' O' L'->Q d H'
def MK(X:Cx)(e:Option Expr)(f:OF):Prop:=PO X e (AFL X.K f)
def GN:OF:=λ_ L=>some (none,L)
def Dm(f:EF):OF:=λρ L=>(f ρ L).bind λx=>match x.1 with|.int i=>some (some i,x.2)|_=>none
section
variable {X:Cx}{e:Expr}{f:EF}{lo hi:Option Expr}{fl fh:OF}{pos p2:Pos}
theorem HN:MK X none GN:=λpins s σ H Q I z6_=>by
 obtain⟨O,ρ,L,d,L',r,e,k⟩:=z6_;cases e;exact ADF pins s σ H Q I (k H O (.refl _ _) r.s)
theorem EK(h:Af X e f):MK X (some e) (Dm f):=λpins s σ H Q I z6_=>by
 obtain⟨O,ρ,L,d,L',r,ee,k⟩:=z6_;refine ADE h pins s σ H Q I ?_;unfold Dm at ee
 cases e1:f ρ L with
 |none=>rw[e1] at ee;cases ee
 |some p =>
  rw[e1] at ee;obtain⟨x,L1⟩:=p
  cases x <;> simp only[AS] at ee <;> try (cases ee;done)
  cases ee;refine⟨O,ρ,L,_,_,r,e1,λv H' O' st rs is=>?_⟩;cases is;exact⟨_,rfl,k H' O' st rs⟩
theorem AB6:Gx X (λx lo hi H Q=>∃z,x=.str z/\z.length<=sizeLine/\Q (.str (Txt.slice z lo hi)) H):=by
 intro pins s σ H x v vl vu lo hi sl Q I rx hs pl pu h;obtain⟨z,rfl,hz,q⟩:=h;obtain⟨t,rfl⟩:=rx;refine⟨"str",_,F.slot_str_getitem.lookup,typeIs_str _ _ _,?_⟩;have fin:∀t' k,EP X pins σ Q (.str (Txt.slice z lo hi) t') {s with toks:=k}:=λt' k=>⟨.str _,H,I.tok _,⟨_,rfl⟩,q⟩;have hl:(Txt.slice z lo hi).length<=sizeLine:=DA (Txt.slice_le z _ _) hz
 cases pl with
 |none=>cases pu with
  |none=>exact ALE (l:=none) (u:=none) (st:=none) hs rfl (post_val_or_str ⟨hl,fin⟩)
  |int j tj=>exact ALE (l:=none) (u:=some (j,tj)) (st:=none) hs rfl (post_val_or_str ⟨hl,fin⟩)
 |int i ti=>cases pu with
  |none=>exact ALE (l:=some (i,ti)) (u:=none) (st:=none) hs rfl (post_val_or_str ⟨hl,fin⟩)
  |int j tj=>exact ALE (l:=some (i,ti)) (u:=some (j,tj)) (st:=none) hs rfl (post_val_or_str ⟨hl,fin⟩)
def cutD(xs:List D)(lo hi:Option Int):List D:=(xs.drop (HT.sIx xs.length 0 lo)).take (HT.sIx xs.length xs.length hi-HT.sIx xs.length 0 lo)
def Ke(x:D)(lo hi:Option Int)(L:AD):Option (D×AD):=match x with
 |.str z=>some (.str (Txt.slice z lo hi),L)
 |.fz xs=>some (.ref L.length,L++[.lst (cutD xs lo hi)])
 |.ref k=>(match L[k]? with|some (.lst xs)=>some (.ref L.length,L++[.lst (cutD xs lo hi)])|_=>none)
 |.tup xs=>some (.tup (cutD xs lo hi),L)
 |_=>none
def EJ(f:EF)(fl fh:OF):EF:=λρ L=>(f ρ L).bind λx=>(fl ρ x.2).bind λl=>(fh ρ l.2).bind λh=>Ke x.1 l.1 h.1 h.2
theorem Sq{K:AO}{H:Hp}{O:List Addr}{vs:List V}{xs:List D}(il:AV K H O vs xs)(lo hi:Option Int):AV K H O (HX vs lo hi) (cutD xs lo hi):=by unfold HX cutD;rw[il.length];exact(il.drop _).take _
theorem FZ(he:Af X e f)(hl:MK X lo fl)(hh:MK X hi fh):Af X (.Subscript e (.Slice lo hi none p2) pos) (EJ f fl fh) :=
 PE.weaken (ADf (Gx.or AB6 (Gx.or AB7 (Gx.or AB5 AB4))) he hl hh) λσ H Q z3_=>by
  obtain⟨O,ρ,L,d,L',r,ee,k⟩:=z3_;unfold EJ at ee
  cases e1:f ρ L with
  |none=>rw[e1] at ee;cases ee
  |some p =>
   rw[e1] at ee;simp only[AS] at ee
   cases e2:fl ρ p.2 with
   |none=>rw[e2] at ee;cases ee
   |some q =>
    rw[e2] at ee;simp only[AS] at ee
    cases e3:fh ρ q.2 with
    |none=>rw[e3] at ee;cases ee
    |some w =>
     rw[e3] at ee;simp only[AS] at ee;refine⟨O,ρ,L,p.1,p.2,r,e1,λv H1 O1 st1 rs1 is1=>⟨O1,ρ,p.2,q.1,q.2,r.to st1 rs1,e2,λH2 O2 st2 rs2=>⟨O2,ρ,q.2,w.1,w.2,r.to (st1.trans st2) rs2,e3,λH3 O3 st3 rs3=>?_⟩⟩⟩;have is3:=(is1.mono st2).mono st3;have stA:=(st1.trans st2).trans st3;unfold Ke at ee;split at ee
     .rename_i z hz;rw[hz] at is3;cases ee
      cases is3 with|str _ hl =>
       exact .inl ⟨_,rfl,by rw[sizeLine_eq];exact hl,k _ _ _ stA rs3 (.str _ (DA (Txt.slice_le _ _ _) hl))⟩
     .rename_i xs hx;rw[hx] at is3;cases ee
      cases is3 with|@fz a vs ds hq il =>
       refine .inr (.inl ⟨_,_,rfl,hq.sql,λpa hp=>?_⟩);have st4:Aq H3 O3 (upd H3 pa (.lst (HX vs q.1 w.1))) (O3++[pa]):=⟨.new hp,BB _ _⟩;exact k _ _ _ (stA.trans st4) (rs3.new hp ⟨_,Ce,(Sq il _ _).mono st4⟩) (.ref (by rw[<-rs3.len];simp))
     .rename_i kk hx;rw[hx] at is3;split at ee
      .rename_i xs e4;cases ee
       cases is3 with|ref hk =>
        obtain⟨vs,hv,il⟩:=rs3.ob _ _ _ hk e4;refine .inr (.inl ⟨_,_,rfl,Bj.of hv,λpa hp=>?_⟩);have st4:Aq H3 O3 (upd H3 pa (.lst (HX vs q.1 w.1))) (O3++[pa]):=⟨.new hp,BB _ _⟩;exact k _ _ _ (stA.trans st4) (rs3.new hp ⟨_,Ce,(Sq il _ _).mono st4⟩) (.ref (by rw[<-rs3.len];simp))
      .cases ee
     .rename_i xs hx;rw[hx] at is3;cases ee
      cases is3 with|@tup a vs ds hq il =>
       by_cases hw:HT.sIx vs.length 0 q.1=0/\HT.sIx vs.length vs.length w.1=vs.length
       .refine .inr (.inr (.inr ⟨_,vs,rfl,hq,hw,?_⟩))
        have e5:cutD xs q.1 w.1=xs:=by unfold cutD;rw[<-il.length,hw.1,hw.2,AKE,Nat.sub_zero,il.length,HD]
        rw[e5] at k;exact k _ _ _ stA rs3 (.tup hq il)
       .refine .inr (.inr (.inl ⟨_,vs,rfl,hq,hw,λpa hp=>?_⟩));have st4:Aq H3 O3 (upd H3 pa (.tup (HX vs q.1 w.1))) O3:=⟨.new hp,Ac _⟩;exact k _ _ _ (stA.trans st4) (rs3.ext λa u e=>by rw[Bn (Du e hp)];exact e) (.tup (Bt.of Ce) ((Sq il _ _).mono st4))
     .cases ee
end
section
variable {X:Cx}
def Bz:GL:=λxs L=>match xs with
 |[.str z]=>some (.int (z.length:Int),L)
 |[x]=>(match DD x L with|some ys=>some (.int (ys.length:Int),L)|none=>none)
 |_=>none
theorem Co:Ff X (.builtin "len") Bz:=Cz.weaken (Cz.or AG9 AHA) λvs H Q z3_=>by
 obtain⟨O,L,xs,d,L',rs,is,e,k⟩:=z3_;unfold Bz at e;split at e
 .cases e
  cases is with|cons i1 i2=>cases i2;cases i1 with|str _ hz =>
   exact .inl ⟨_,rfl,by rw[sizeLine_eq];exact hz,k _ _ _ (.refl _ _) rs (.int _)⟩
 .split at e
  .rename_i ys hy;cases e
   cases is with|cons i1 i2 =>
    cases i2;obtain⟨a,vs,rfl,hs,il⟩:=Jb rs i1 hy;exact .inr ⟨a,vs,rfl,hs,by rw[il.length];exact k _ _ _ (.refl _ _) rs (.int _)⟩
  .cases e
 .cases e
def Lu:GL:=λxs L=>match xs with|[.int i]=>some (.int (if i<0 then -i else i),L)|_=>none
theorem Yw:Ff X (.builtin "abs") Lu:=Cz.weaken AHD λvs H Q z3_=>by
 obtain⟨O,L,xs,d,L',rs,is,e,k⟩:=z3_;unfold Lu at e;split at e
 .cases e;cases is with|cons i1 i2=>cases i2;cases i1;exact⟨_,rfl,k _ _ _ (.refl _ _) rs (.int _)⟩
 .cases e
def Lm:GL:=λxs L=>match xs with|[.int i,.int j]=>some (.int (if j<i then j else i),L)|_=>none
theorem Ys(hc:X.calm=true):Ff X (.builtin "min") Lm:=Cz.weaken (AG7 hc) λvs H Q z3_=>by
 obtain⟨O,L,xs,d,L',rs,is,e,k⟩:=z3_;unfold Lm at e;split at e
 .cases e;cases is with|cons i1 i2=>cases i2 with|cons i3 i4=>cases i4;cases i1;cases i3;exact⟨_,_,rfl,k _ _ _ (.refl _ _) rs (.int _)⟩
 .cases e
def Lq:GL:=λxs L=>match xs with|[.int i]=>some (.int i,L)|[.bl b]=>some (.int (if b then 1 else 0),L)|_=>none
theorem Yu:Ff X (.type "int") Lq:=Cz.weaken AHB λvs H Q z3_=>by
 obtain⟨O,L,xs,d,L',rs,is,e,k⟩:=z3_;unfold Lq at e;split at e
 .cases e;cases is with|cons i1 i2=>cases i2;cases i1;exact .inl ⟨_,rfl,k _ _ _ (.refl _ _) rs (.int _)⟩
 .cases e;cases is with|cons i1 i2=>cases i2;cases i1;exact .inr ⟨_,rfl,k _ _ _ (.refl _ _) rs (.int _)⟩
 .cases e
def Gm:GL:=λxs L=>match xs with
 |[.tup ys]=>some (.tup ys,L)
 |[x]=>(match DD x L with|some ys=>some (.tup ys,L)|none=>none)
 |_=>none
theorem JK:Ff X (.type "tuple") Gm:=Cz.weaken AG5 λvs H Q z3_=>by
 obtain⟨O,L,xs,d,L',rs,is,e,k⟩:=z3_;unfold Gm at e;split at e
 .cases e;cases is with|cons i1 i2=>cases i2;cases i1 with|tup hq il=>exact⟨_,_,rfl,.inr ⟨hq,k _ _ _ (.refl _ _) rs (.tup hq il)⟩⟩
 .split at e
  .rename_i ys hy;cases e
   cases is with|cons i1 i2 =>
    cases i2;obtain⟨a,vs,rfl,hs,il⟩:=Jb rs i1 hy;rcases hs with hs|hs
    .refine⟨a,vs,rfl,.inl ⟨hs,λl hl=>?_⟩⟩;have st:Aq H O (upd H l (.tup vs)) O:=⟨.new hl,Ac _⟩;exact k _ _ _ st (rs.ext λb u e=>by rw[Bn (Du e hl)];exact e) (.tup (Bt.of Ce) (il.mono st))
    .exact⟨a,vs,rfl,.inr ⟨hs,k _ _ _ (.refl _ _) rs (.tup hs il)⟩⟩
  .cases e
 .cases e
def Kg:GL:=λxs L=>match xs with
 |[x]=>(match DD x L with|some ys=>some (.ref L.length,L++[.lst ys])|none=>none)
 |_=>none
theorem Yt:Ff X (.type "list") Kg:=Cz.weaken AG8 λvs H Q z3_=>by
 obtain⟨O,L,xs,d,L',rs,is,e,k⟩:=z3_;unfold Kg at e;split at e
 .split at e
  .rename_i ys hy;cases e
   cases is with|cons i1 i2 =>
    cases i2;obtain⟨a,vs,rfl,hs,il⟩:=Jb rs i1 hy;refine⟨a,vs,rfl,hs,λl hl=>?_⟩;have st:Aq H O (upd H l (.lst vs)) (O++[l]):=⟨.new hl,BB _ _⟩;exact k _ _ _ st (rs.new hl ⟨_,Ce,il.mono st⟩) (.ref (by rw[<-rs.len];simp))
  .cases e
 .cases e
theorem AHC(hc:X.calm=true):Cz X (.builtin "all") (λxs H Q=>∃(p:Addr) (bs:List Bool),xs=[.ref p]/\Bj X.K H p (bs.map V.bl)/\Q (.bl (bs.all id)) H):=by
 intro pins s σ H xs us Q I r h;obtain⟨p,bs,rfl,hq,q⟩:=h;obtain⟨u,rfl,rx⟩:=En r;cases rx;obtain⟨its,rv,pl,hz⟩:=I.list hq;have hI:∀b o,s.heap.get? b=some o->b≠s.heap.objs.size:=λb o e=>Bu (Heap.lt_size e);obtain⟨ol,hol,hcl,nl,hdl⟩:=pl.isList;have hbs:bs.length=its.length:=by have:=rv.length;simpa using this
 refine call_all_walk (wpAny_pyIter_list pl.isList ⟨s.heap.objs.size,_,_,_,_,_,λi=>(bs[i]?).getD true,rfl,
  Walks.list (A:=X.A.in1) (show X.A.in1.handled=none from I.ok.hd hc) s.heap.objs.size p (hI p ol hol) its.toArray,⟨⟨_,Heap.get?_push_size _ rfl,rfl,rfl⟩,⟨ol,Heap.get?_push_of_some _ hol,hcl,nl,hdl⟩⟩,?_,?_⟩)
 .intro i v s' Q' E' hv hQ;have hv':its[i]?=some v:=by simpa using hv
  have hi:i<its.length:=(BY.mp hv').1;have hb:bs[i]?=some bs[i]:=by simp[hbs,hi]
  obtain⟨w',hw,rw'⟩:=rv.get (i:=i) (x:=.bl bs[i]) (by simp[hbs,hi]);rw[hv'] at hw;cases hw;cases rw';dsimp only at hQ;rw[hb] at hQ;exact AK9 hQ
 .intro h' tk kk;have I1:AK X pins σ H {s with heap:=h',toks:=tk}:=I.kept λb o e=>kk b o (by simpa using hI b o e) (Heap.get?_push_of_some _ e);refine⟨.bl (bs.all id),H,I1,?_,q⟩;show Value.bool _=Value.bool _
  congr 1
  rw[Bx,<-hbs];rw[AKJ,CW,CW];constructor
  .intro h b hb;obtain⟨i,hi,rfl⟩:=AKV hb;have:=h i (Cr.mpr hi);simpa[hi] using this
  .intro h i hi;have hi':=Cr.mp hi;simpa[hi'] using h _ (AKn hi')
def blsD:List D->Option (List Bool)
 |[]=>some []
 |.bl b::r=>(blsD r).map (b::·)
 |_=>none
theorem ZC{K:AO}{H:Hp}{O:List Addr}:∀{vs:List V} {ds:List D} {bs:List Bool},AV K H O vs ds->blsD ds=some bs->vs=bs.map V.bl
 |_,_,_,.nil,e=>by cases e;rfl
 |_,d::ds,bs,.cons a b,e=>by
  cases a <;> simp only[blsD] at e <;> try (cases e;done)
  cases q:blsD ds with
  |none=>rw[q] at e;cases e
  |some r =>
   rw[q] at e;cases e;rw[ZC b q];rfl
def Kj:GL:=λxs L=>match xs with
 |[.ref k]=>(match L[k]? with|some (.lst ds)=>(match blsD ds with|some bs=>some (.bl (bs.all id),L)|none=>none)|_=>none)
 |_=>none
theorem Yv(hc:X.calm=true):Ff X (.builtin "all") Kj:=Cz.weaken (AHC hc) λvs H Q z3_=>by
 obtain⟨O,L,xs,d,L',rs,is,e,k⟩:=z3_;unfold Kj at e;split at e
 .split at e
  .rename_i ds hd;split at e
   .rename_i bs hb;cases e
    cases is with|cons i1 i2 =>
     cases i2
     cases i1 with|ref hk =>
      obtain⟨vs,hv,il⟩:=rs.ob _ _ _ hk hd;rw[ZC il hb] at hv;exact⟨_,bs,rfl,Bj.of hv,k _ _ _ (.refl _ _) rs (.bl _)⟩
   .cases e
  .cases e
 .cases e
end
abbrev GM:=D->List D->AD->Option (D×AD)
def rM(K:AO)(g:GM):V->List V->Hp->VK->Prop:=λv vs H Q=>∃O L x xs d L',BD K H O L/\Is K H O v x/\AV K H O vs xs/\g x xs L=some (d,L') /\
 ∀w H' O',Aq H O H' O'->BD K H' O' L'->Is K H' O' w d->Q w H'
def MtD(X:Cx)(id:String)(g:GM):Prop:=FS X id (rM X.K g)
theorem FS.weaken{X:Cx}{id:String}{r r':V->List V->Hp->VK->Prop}(h:FS X id r)(i:∀x xs H Q,r' x xs H Q->r x xs H Q):FS X id r' :=
 λpins s σ H x xs v us Q I rx rs q=>h pins s σ H x xs v us Q I rx rs (i _ _ _ _ q)
def KL(T:String)(x:D)(L:AD):Bool:=match x with
 |.str _=>T == "str"
 |.fz _=>T == "list"
 |.ref k=>match L[k]? with|some (.lst _)=>T == "list" | some (.dk _)=>T == "dict" | some (.dt _ _)=>T == "dict" | _=>false
 |_=>false
theorem Uz{K:AO}{H:Hp}{O:List Addr}{L:AD}{T:String}{v:V}{x:D}(rs:BD K H O L)(i:Is K H O v x)(h:KL T x L=true):Mx K T v H:=by
 unfold KL at h;split at h
 .cases i;exact beq_iff_eq.mp h
 .cases i with|fz hq il=>exact .inl ⟨beq_iff_eq.mp h,_,hq.sql⟩
 .cases i with|ref hk =>
   split at h
   .rename_i e;obtain⟨vs,hv,_⟩:=rs.ob _ _ _ hk e;exact .inl ⟨beq_iff_eq.mp h,_,Bj.of hv⟩
   .rename_i e;obtain⟨vs,hv,_⟩:=rs.ob _ _ _ hk e;exact .inr (.inr (.inl ⟨beq_iff_eq.mp h,.inl ⟨_,hv⟩⟩))
   .rename_i e;obtain⟨vs,hv,_⟩:=rs.ob _ _ _ hk e;exact .inr (.inr (.inl ⟨beq_iff_eq.mp h,.inr (.inr ⟨_,_,hv⟩)⟩))
   .cases h
 .cases h
def CT(T:String)(g:GM)(fo:EF)(fa:AF):EF:=λρ L=>(fo ρ L).bind λx=>if KL T x.1 x.2=true then (fa ρ x.2).bind λy=>g x.1 y.1 y.2 else none
section
variable {X:Cx}{o e:Expr}{es:List Expr}{fo:EF}{fa:AF}{name:Str}{apos cpos:Pos}{T id:String}{g:GM}
theorem JH(pa:PlainAttrs T)(slot:Slot T name id)(hty:typeOf (.builtin id)=pure (.type "method_descriptor"))(hm:MtD X id g)(ho:Af X o fo)
  (hbase:attributeBase o name X.env (eval o X.env)=eval o X.env:=by rfl) (hline:(apos.endLine == cpos.line)=true:=by rfl):Af X (.Call (.Attribute o name apos) [] [] cpos) (CT T g fo AI) :=
 PE.weaken (ADx pa slot hty hm ho hbase hline) λσ H Q z3_=>by
  obtain⟨O,ρ,L,d,L',r,e,k⟩:=z3_;unfold CT at e
  cases e1:fo ρ L with
  |none=>rw[e1] at e;cases e
  |some p =>
   rw[e1] at e;simp only[AS] at e;split at e
   .rename_i ht;refine⟨O,ρ,L,p.1,p.2,r,e1,λv H1 O1 st rs is=>⟨Uz rs is ht,O1,p.2,p.1,[],d,L',rs,is,.nil,e,λw H' O' st' rs' is'=>k w H' O' (st.trans st') rs' is'⟩⟩
   .cases e
theorem Eg(pa:PlainAttrs T)(slot:Slot T name id)(hty:typeOf (.builtin id)=pure (.type "method_descriptor"))(hm:MtD X id g)(ho:Af X o fo)(ha:FR X (e::es) fa)
  (hbase:attributeBase o name X.env (eval o X.env)=eval o X.env:=by rfl)
  (hfew:decide ((e::es).length+([]:List Keyword).length+(if ([]:List Keyword).isEmpty then 0 else 1)<30)=true:=by rfl)
  (hline:(apos.endLine == cpos.line)=true:=by rfl) (hs:FN e=true:=by rfl) (hplain:es.all FN=true:=by rfl) :
  Af X (.Call (.Attribute o name apos) (e::es) [] cpos) (CT T g fo fa) :=
 PE.weaken (ADy pa slot hty hm ho ha hbase (by rw[WG (by rw[AJ1,hs,hplain];rfl),hfew];rfl) hline (IJ hs) (Jd hplain)) λσ H Q z3_=>by
  obtain⟨O,ρ,L,d,L',r,e,k⟩:=z3_;unfold CT at e
  cases e1:fo ρ L with
  |none=>rw[e1] at e;cases e
  |some p =>
   rw[e1] at e;simp only[AS] at e;split at e
   .rename_i ht
    cases e2:fa ρ p.2 with
    |none=>rw[e2] at e;cases e
    |some q =>
     rw[e2] at e;simp only[AS] at e;refine⟨O,ρ,L,p.1,p.2,r,e1,λv H1 O1 st rs is=>⟨Uz rs is ht,O1,ρ,p.2,q.1,q.2,r.to st rs,e2,λvs H2 O2 st2 rs2 is2=>?_⟩⟩;exact⟨O2,q.2,p.1,q.1,d,L',rs2,is.mono st2,is2,e,λw H' O' st' rs' is'=>k w H' O' ((st.trans st2).trans st') rs' is'⟩
   .cases e
def IV(f:Str->Bool):GM:=λx xs L=>match x,xs with|.str z,[]=>some (.bl (f z),L)|_,_=>none
def gS0s(f:Str->Str):GM:=λx xs L=>match x,xs with|.str z,[]=>if (f z).length<=16777216 then some (.str (f z),L) else none|_,_=>none
theorem Rz{id:String}{f:Str->Bool}(h:∀(z:Str) (t:Tok) (s:Shared) (Q E:ALL),Q (.bool (f z)) s->wpAny (model X.prog X.w) X.A (call (.builtin id) [.str z t]) Q E s):MtD X id (IV f) :=
 λpins s σ H x xs v us Q I rx rs z12_=>by
  obtain⟨O,L,dx,dxs,d,L',rp,ix,ixs,e,k⟩:=z12_;unfold IV at e;split at e
  .cases e;cases ix;cases ixs;cases rs;obtain⟨t,rfl⟩:=rx;exact h _ _ _ _ _ ⟨.bl _,H,I,rfl,k _ _ _ (.refl _ _) rp (.bl _)⟩
  .cases e
theorem Wu{id:String}{f:Str->Str}(h:∀(z:Str) (t:Tok) (s:Shared) (Q E:ALL),Builtin.Str.tooLong (f z).length=false->Q (.str (f z) s.toks) {s with toks:=s.toks+1}->wpAny (model X.prog X.w) X.A (call (.builtin id) [.str z t]) Q E s):MtD X id (gS0s f) :=
 λpins s σ H x xs v us Q I rx rs z12_=>by
  obtain⟨O,L,dx,dxs,d,L',rp,ix,ixs,e,k⟩:=z12_;unfold gS0s at e;split at e
  .split at e
   .rename_i hz;cases e;cases ix;cases ixs;cases rs;obtain⟨t,rfl⟩:=rx;exact h _ _ _ _ _ (decide_eq_false (by rw[sizeLine_eq];omega)) ⟨.str _,H,I.tok _,⟨_,rfl⟩,k _ _ _ (.refl _ _) rp (.str _ hz)⟩
   .cases e
  .cases e
theorem AEw:MtD X "str.islower" (IV Txt.islower):=Rz λ_ _ _ _ _ h=>SC.islower h
theorem AEv:MtD X "str.isupper" (IV Txt.isupper):=Rz λ_ _ _ _ _ h=>SC.isupper h
theorem AEx:MtD X "str.isdigit" (IV Txt.isdigit):=Rz λ_ _ _ _ _ h=>SC.isdigit h
theorem Ws:MtD X "str.upper" (gS0s Txt.upper):=Wu λ_ _ _ _ _ hz h=>SC.upper hz h
theorem Wv:MtD X "str.lower" (gS0s Txt.lower):=Wu λ_ _ _ _ _ hz h=>SC.lower hz h
def CB:List D->Option (List Str)
 |[]=>some []
 |.str x::r=>(CB r).map (x::·)
 |_=>none
theorem VY{K:AO}{H:Hp}{O:List Addr}:∀{vs:List V} {ds:List D} {ys:List Str},AV K H O vs ds->CB ds=some ys->vs=ys.map V.str
 |_,_,_,.nil,e=>by cases e;rfl
 |_,d::ds,ys,.cons a b,e=>by
  cases a <;> simp only[CB] at e <;> try (cases e;done)
  cases q:CB ds with
  |none=>rw[q] at e;cases e
  |some r =>
   rw[q] at e;cases e;rw[VY b q];rfl
theorem RO:∀{ys:List Str} {us:List Value},Ak (ys.map V.str) us->StrsAre us ys
 |[],_,r=>by rw[AJ2] at r;cases r;exact .nil
 |y::ys,_,r=>by
  rw[Am] at r
  cases r with
  |cons r1 r2=>obtain⟨t,rfl⟩:=r1;exact .cons y t (RO r2)
def Lp:GM:=λx xs L=>match x,xs with
 |.str sep,[y]=>(match DD y L with|some ds=>(match CB ds with|some ys=>if (ys.map (·.length)).sum+ys.length*sep.length<=16777216 then some (.str (Txt.join sep ys),L) else none|none=>none)|none=>none)
 |_,_=>none
theorem join_len(sep:Str)(ys:List Str):(Txt.join sep ys).length<=(ys.map (·.length)).sum+ys.length*sep.length:=by show(Builtin.Str.glued sep ys).length<=_;rw[size_glued];exact Nat.add_le_add_left (AJ3 _ (Nat.sub_le _ _)) _
theorem AEu:MtD X "str.join" Lp:=λpins s σ H x xs v us Q I rx rs z12_=>by
 obtain⟨O,L,dx,dxs,d,L',rp,ix,ixs,e,k⟩:=z12_;unfold Lp at e;split at e
 .split at e
  .rename_i ds hd;split at e
   .rename_i ys hy;split at e
    .rename_i hz;cases e;cases ix
     cases ixs with|cons i1 i2 =>
      cases i2;obtain⟨t,rfl⟩:=rx;obtain⟨u,rfl,ru⟩:=En rs;obtain⟨a,vs,rfl,hs,il⟩:=Jb rp i1 hd;cases ru;have e1:=VY il hy;subst e1;have fin:∀t' k',EP X pins σ Q (.str (Txt.join _ ys) t') {s with toks:=k'}:=λt' k'=>⟨.str _,H,I.tok _,⟨_,rfl⟩,k _ _ _ (.refl _ _) rp (.str _ (DA (join_len _ _) hz))⟩;rcases hs with hs|hs
      .obtain⟨its,rv,pl,_⟩:=I.list hs;exact join_list pl.isList (by simpa using RO rv) hz fin
      .obtain⟨its,rv,pl,_⟩:=I.tuple hs;exact join_tuple pl (by simpa using RO rv) hz fin
    .cases e
   .cases e
  .cases e
 .cases e
def Fl:GM:=λx xs L=>match x,xs with
 |.ref k,[y]=>(match L[k]? with|some (.lst ds)=>if ds.length<16777216 then some (.non,L.set k (.lst (ds++[y]))) else none|_=>none)
 |_,_=>none
theorem Hu:MtD X "list.append" Fl:=FS.weaken (show FS X "list.append" WC from Wq) λv vs H Q z4_=>by
 obtain⟨O,L,dx,dxs,d,L',rp,ix,ixs,e,k⟩:=z4_;unfold Fl at e;split at e
 .split at e
  .rename_i ds hd;split at e
   .rename_i hz;cases e
    cases ix with|@ref kk a hk =>
     cases ixs with|@cons v1 y1 _ _ i1 i2 =>
      cases i2;obtain⟨ws,hw,il⟩:=rp.ob _ _ _ hk hd;refine⟨_,ws,_,rfl,rfl,hw,by rw[il.length,sizeLine_eq];exact hz,?_⟩;have st:Aq H O (upd H a (.lst (ws++[v1]))) O:=⟨.write hw id,Ac _⟩;exact k _ _ _ st (rp.write (o':=.lst (ds++[_])) hk ⟨_,Ce,(il.mono st).append (.cons (i1.mono st) .nil)⟩) .non
   .cases e
  .cases e
 .cases e
end
def GJ(x:D)(L:AD):Option String:=match x with
 |.non=>some "NoneType" | .bl _=>some "bool" | .int _=>some "int" | .str _=>some "str" | .tup _=>some "tuple" | .fz _=>some "list"
 |.ref k=>(match L[k]? with|some (.lst _)=>some "list" | some (.dk _)=>some "dict" | _=>none)
 |.ty _=>none
def Kb(t T:String):Bool:=t == T || (t == "bool"&&T == "int")
def Di:GL:=λxs L=>match xs with
 |[x,.ty T]=>if ["int","str","bool","list","tuple","dict"].contains T then (GJ x L).map λt=>(.bl (Kb t T),L) else none
 |_=>none
section
variable {X:Cx}
theorem Iz(K:AO){t T:String}(ht:t∈["NoneType","bool","int","str","tuple","list","dict"])(hT:T∈["int","str","bool","list","tuple","dict"]):PySem.W.kitOne K (.type t) (.type T)=some (Kb t T):=by
 simp only[Ae,EH,or_false] at ht hT
 rcases ht with rfl|rfl|rfl|rfl|rfl|rfl|rfl <;> rcases hT with rfl|rfl|rfl|rfl|rfl|rfl <;> first|rfl|decide
theorem Ez:Ff X (.builtin "isinstance") Di:=λpins s σ H xs us Q I r z9_=>by
 obtain⟨O,L,ds,d,L',rp,is,e,k⟩:=z9_;unfold Di at e;split at e
 .rename_i x T;split at e
  .rename_i hT;have hT':T∈["int","str","bool","list","tuple","dict"]:=by simpa using hT
   cases is with|cons i1 i2=>cases i2 with|cons i3 i4 =>
    cases i4;cases i3;obtain⟨u,u2,rfl,r1,r2⟩:=Uv r;cases r2
    cases ht:GJ x L with
    |none=>rw[ht] at e;cases e
    |some t =>
     rw[ht] at e;cases e;have fin:∀tk,EP X pins σ Q (.bool (Kb t T)) {s with toks:=tk}:=λtk=>⟨.bl _,H,I.tok _,rfl,k _ _ _ (.refl _ _) rp (.bl _)⟩
     cases i1 with
     |non=>cases ht;exact KZ I r1 .non (Iz _ (by simp) hT') fin
     |bl b=>cases ht;exact KZ I r1 (.bl b) (Iz _ (by simp) hT') fin
     |int b=>cases ht;exact KZ I r1 (.int b) (Iz _ (by simp) hT') fin
     |str b _=>cases ht;exact KZ I r1 (.str b) (Iz _ (by simp) hT') fin
     |tup hq il =>
      cases ht;cases r1;obtain⟨its,rv,pl,_⟩:=I.tuple hq;obtain⟨o,h1,h2,_⟩:=pl;exact HA PySem.W.kitx_tuple I.kIn ⟨o,h1,h2⟩ (Iz _ (by simp) hT') (λz=>nomatch z) fin
     |fz hq il =>
      cases ht;cases r1;obtain⟨its,rv,pl,_⟩:=I.list hq.sql;obtain⟨o,h1,h2,_⟩:=pl.isList;exact HA PySem.W.kitx_list I.kIn ⟨o,h1,h2⟩ (Iz _ (by simp) hT') (λz=>nomatch z) fin
     |ref hk =>
      simp only[GJ] at ht;split at ht
      .rename_i e2;cases ht;obtain⟨vs,hv,_⟩:=rp.ob _ _ _ hk e2;exact KZ I r1 (.lst hv) (Iz _ (by simp) hT') fin
      .rename_i e2;cases ht;obtain⟨vs,hv,_⟩:=rp.ob _ _ _ hk e2;exact KZ I r1 (.dK hv) (Iz _ (by simp) hT') fin
      .cases ht
     |ty n=>cases ht
  .cases e
 .cases e
theorem Ev{x:Str}{T:String}{pos:Pos}(hm:X.mg x=none)(hv:bootBuiltins x=some (.type T))(hg:Gl X x:=by rfl)(hn:x≠"__name__":=by decide)(hd:(x == ("__debug__":Str))=false:=by decide):Af X (.Name x pos) (AE (.ty T)) :=
 Kn (ADz hg hm hv (v:=.ty T) rfl hn hd) λ_ _=>.ty T
theorem AGj{x:Str}{v:V}{u:Value}{d:D}{pos:Pos}(hm:X.mg x=some u)(r:Ai v u)(i:∀H O,Is X.K H O v d)(hg:Gl X x:=by rfl)(hd:(x == ("__debug__":Str))=false:=by decide):Af X (.Name x pos) (AE d):=Kn (ADq hg hm r hd) i
end
def Ym(names fnames:List (Str×NameKind))(N N':List Str)(n:Nat)(idx:List Nat):Bool :=
 names.all (λp=>!(p.2 == .cell))&&names.all (λp=>!(p.2 == .local) || names.lookup p.1 == some .local)&&names.all (λp=>!(p.2 == .free) || fnames.lookup p.1 == some .cell || fnames.lookup p.1 == some .free) &&
 N'.length == n+idx.length&&(List.range idx.length).all λj=>match idx[j]? with
  |some i=>(match N'[n+j]?,N[i]? with|some x,some y=>x == y&&names.contains (x,.free)&&names.all (λp=>!(p.1 == x) || p.2 == .free)|_,_=>false)
  |none=>false
theorem EN{X:Cx}{scope:Scope}{N N':List Str}{n:Nat}{idx:List Nat}{fnames:List (Str×NameKind)}(h1:scope.kind=.function)(hk:∀x,X.env.kindOf x=fnames.lookup x)(hN:X.N=N)(hc:Ym scope.names fnames N N' n idx=true):OU X scope N' n idx:=by
 subst hN;unfold Ym at hc;simp only[CJ] at hc;obtain⟨⟨⟨⟨c1,c2⟩,c3⟩,c4⟩,c5⟩:=hc;rw[CW] at c1 c2 c3 c5;refine⟨h1,λy hy e=>?_,λy hy e=>?_,λy hy e=>?_,beq_iff_eq.mp c4,λj i e=>?_⟩
 .have:=c1 y hy;rw[e] at this;exact absurd this (by decide)
 .have:=c2 y hy;rw[e] at this;simpa using this
 .have:=c3 y hy;rw[e] at this;rw[hk];simpa using this
 .have hj:=(BY.mp e).1;have:=c5 j (Cr.mpr hj);rw[e] at this;simp only at this
  cases q1:N'[n+j]? with
  |none=>simp[q1] at this
  |some x =>
   cases q2:X.N[i]? with
   |none=>simp[q1,q2] at this
   |some y =>
    simp only[q1,q2,CJ] at this;obtain⟨⟨a1,a2⟩,a3⟩:=this;have a1':x=y:=beq_iff_eq.mp a1;subst a1';refine⟨x,rfl,rfl,by simpa using a2,λk hk'=>?_⟩;rw[CW] at a3;have:=a3 _ hk';simpa using this
open PySem.W in
theorem AHQ{l:OpenLaw}{n:Nat}{q:Program}{loose:List Str}{XP:(ALK)->Heap->Prop}{YP:World->Heap->Prop}{d:DefRec}
  (hn:l.most=some n) (hdf:d.params.defaults=[])
  (call:∀(w:World) (s₀ s₁:Shared) (mg mb:ALK) (fa:Addr) (a:Addr) (vs:List Value) (ns:List Int),
   Ground q loose [] XP w s₀ mg mb s₁.heap->YP w s₁.heap->mg d.name=some (.ref fa) ->
   s₁.heap.get? a=some {cls:=.type "list",data:=.seq vs.toArray}->IntsAre vs ns->ns.length<=n->(∀z∈ns,Builtin.Int.intBits z<=1048576)->s₁.gens=#[] ->
   codeAny (model l.prog w) callerA (.call (.ref fa) ⟨[.ref a],[]⟩) (λr s'=>r=.ok (.ret (.bool true))/\OldK s₁.heap s'.heap/\s'.os=s₁.os/\AllBare s'.gens) s₁) :
  WalkO q loose XP YP l.row.toRowW d [] (λf vs=>PySem.call f vs):=by
 intro w s₀ s₁ mg mb G Y fa o pm cd doc dV kV ho hd hcd hD hmg hg args vals as hpre hlay hrd hwl hlo;obtain rfl:dV=.none:=Dflts.none hD hdf;obtain rfl:kV=.none:=Dflts.noKw hD;obtain⟨a,vs,ns,rfl,rfl,hobj,hints,hlen⟩:=Att.AIn hn hpre hwl
 have hb:∀z∈ns,Builtin.Int.intBits z<=1048576:=λz hz=>by
  have h1:=layableW_arg hlay _ BW;have h2:=layableW_item h1 (.int z) (BC.mpr ⟨z,hz,rfl⟩);have h3:=(layableW_iff.mp h2).2.2;simpa only[WData.weight,Builtin.Int.intBits] using h3
 refine enter_call (codeAny_mono (call w s₀ s₁ mg mb fa a vs ns G Y hmg hobj hints hlen hb hg) λr s' hq=>?_);obtain⟨rfl,h2,h3,h4⟩:=hq;exact⟨.inl ⟨.bool true,.bool true,[],rfl,λ_=>rfl,.bool true,Att.AIr l _,λ_=>⟨List.Pairwise.nil,λ_ hm=>(nomatch hm)⟩⟩,h2,h3,h4⟩
theorem Xa{K:AO}{H:Hp}{O:List Addr}:∀ns:List Int,AV K H O (ns.map V.int) (ns.map D.int)
 |[]=>.nil
 |n::ns=>.cons (.int n) (Xa ns)
theorem walk_f{l:PySem.W.OpenLaw}{n k:Nat}{q:Program}{loose:List Str}{XP:(ALK)->Heap->Prop}{YP:World->Heap->Prop}{d:DefRec}{K:Params->AO}{x:Str}{G:GL}
  (hn:l.most=some n) (hn2:n<=sizeLine) (hdf:d.params.defaults=[]) (hr:CO k callerA)
  (hY:∀(w:World) (h:Heap),YP w h->(K w.params).In h)
  (F:∀(w:World) (mg:ALK) (fa:Addr) (h:Heap),(K w.params).In h->h.Ns mainGlobals mg->mg d.name=some (.ref fa) ->
   ∃fd:FuncData,(∀(s:Shared) (u:Value),BindsTo s fd ⟨[u],[]⟩ [(x,u)]) /\
    ∀base:Heap,(K w.params).In base->base.Ns mainGlobals mg->Dx l.prog w (K w.params) mg base CX0 k fa fd [x] (Ja (K w.params) G))
  (hG:∀ns:List Int,ns.length<=n->(∀z∈ns,Builtin.Int.intBits z<=1048576)->∃L',G [.fz (ns.map .int)] []=some (.bl true,L')) :
  PySem.W.WalkO q loose XP YP l.row.toRowW d [] (λf vs=>PySem.call f vs):=by
 refine AHQ hn hdf λw s₀ s₁ mg mb fa a vs ns GG Y hmg hobj hints hlen hb hg=>?_;have KX:=hY w _ Y;obtain⟨fd,hbd,hF⟩:=F w mg fa _ KX GG.T.g hmg;refine AFS KX GG.T.g GG.T.b GG.T.builtins GG.T.nolimit hg hobj hints (DA hlen hn2) hr hF hbd (λH hO hS=>?_) λH e s' h=>h;obtain⟨L',e⟩:=hG ns hlen hb
 have hS':SqF (K w.params) H a (ns.map V.int):=by
  rcases hS with(h|h)|h
  .rcases hO a with z|⟨o,xs,z⟩
   .rw[h] at z;cases z
   .rw[h] at z;cases z
  .exact .inl h
  .exact .inr h
 exact⟨[],[],[.fz (ns.map .int)],.bl true,L',⟨rfl,Hj,λk a o e=>by simp at e⟩,.cons (.fz hS' (Xa ns)) .nil,e,λw' H' O' st rs is=>by cases is;rfl⟩
section
variable {X:Cx}{a l tg:Expr}{f:EF}{pos:Pos}
def IX:G1:=λx L=>match x with|.int i=>some (.int (-i),L)|_=>none
theorem Km(ha:Af X a f):Af X (.UnaryOp .USub a pos) (BZ IX f):=PE.weaken (ADc AA8 ha) λσ H Q z3_=>by
 obtain⟨O,ρ,L,d,L',r,e,k⟩:=z3_;unfold BZ at e
 cases e1:f ρ L with
 |none=>rw[e1] at e;cases e
 |some p =>
  rw[e1] at e;obtain⟨x,L1⟩:=p
  cases x <;> simp only[AS,IX] at e <;> try (cases e;done)
  cases e;refine⟨O,ρ,L,_,_,r,e1,λv H1 O1 st rs is=>?_⟩;cases is;exact⟨_,rfl,k _ _ _ st rs (.int _)⟩
structure Do (K:AO) (mg:ALK) (x:Str) (d:D):Prop where
 ex:∃v u,mg x=some u/\Ai v u/\∀H O,Is K H O v d
theorem Ft{x:Str}{d:D}(h:Do X.K X.mg x d)(hg:Gl X x:=by rfl)(hd:(x == ("__debug__":Str))=false:=by decide):Af X (.Name x pos) (AE d):=by obtain⟨v,u,a,b,c⟩:=h.ex;exact AGj a b c hg hd
def KY(d:D)(L:AD):Option MO:=match d with
 |.tup xs=>some ⟨xs,λ_=>true⟩
 |.fz xs=>some ⟨xs,λ_=>true⟩
 |.ref k=>(match L[k]? with|some (.lst xs)=>some ⟨xs,λL'=>decide (L'[k]?=some (.lst xs))⟩|_=>none)
 |.str y=>some ⟨sgs y,λ_=>true⟩
 |_=>none
def CH(f:EF):IF:=λρ L=>(f ρ L).bind λx=>(KY x.1 x.2).bind λJ=>some (J,x.2)
theorem Ch(hl:Af X l f):FQ X tg l (CH f):=λpins s σ H R I z6_=>by
 obtain⟨O,ρ,L,J,L',r,e,k⟩:=z6_;unfold CH at e
 cases e1:f ρ L with
 |none=>rw[e1] at e;cases e
 |some p =>
  rw[e1] at e;obtain⟨d,L1⟩:=p;simp only[AS] at e
  cases d <;> simp only[KY,AS,Option.bind_none] at e <;> try (cases e;done)
  .exact ADL hl pins s σ H R I ⟨O,ρ,L,J,L',r,by simp only[SX,e1,AS];exact e,k⟩
  .exact ADK hl pins s σ H R I ⟨O,ρ,L,J,L',r,by simp only[SW,e1,AS];exact e,k⟩
  .exact WO hl pins s σ H R I ⟨O,ρ,L,J,L',r,by simp only[Nf,e1,AS];exact e,k⟩
  .rename_i kk;refine WO hl pins s σ H R I ⟨O,ρ,L,J,L',r,?_,k⟩;simp only[Nf,e1,AS]
   cases e2:L1[kk]? with
   |none=>rw[e2] at e;cases e
   |some o=>rw[e2] at e;cases o <;> simp at e ⊢ <;> exact e
end
theorem ME:bootBuiltins "int"=some (.type "int"):=by decide +kernel
theorem MD:bootBuiltins "str"=some (.type "str"):=by decide +kernel
theorem Sw:bootBuiltins "bool"=some (.type "bool"):=by decide +kernel
theorem Sv:bootBuiltins "list"=some (.type "list"):=by decide +kernel
theorem Fv:bootBuiltins "tuple"=some (.type "tuple"):=by decide +kernel
theorem Ci:bootBuiltins "len"=some (.builtin "len"):=by decide +kernel
theorem ZA:bootBuiltins "abs"=some (.builtin "abs"):=by decide +kernel
theorem Yy:bootBuiltins "min"=some (.builtin "min"):=by decide +kernel
theorem Yz:bootBuiltins "all"=some (.builtin "all"):=by decide +kernel
theorem FA:bootBuiltins "isinstance"=some (.builtin "isinstance"):=by decide +kernel
def BS(mg:ALK)(ns:List Str):Prop:=∀x∈ns,mg x=none
theorem BS.get{mg:ALK}{ns:List Str}(h:BS mg ns)(x:Str)(hx:x∈ns:=by decide):mg x=none:=h x hx
def Bb(p:Program)(i:Nat):Stmt:=p.main.body.getD i (.Pass ⟨0,0,0,0⟩)
def Au(B:SF)(N:List Str)(n:Nat):GL:=λxs L=>if xs.length=n then
  (match B (Gf N xs) L with
   |some (.ret d L2)=>some (if d.noRef=true/\L2.take L.length=L then (d,L) else (d,L2))
   |some (.next _ L2)=>some (if L2.take L.length=L then (.non,L) else (.non,L2))
   |_=>none)
 else none
theorem NM{L L2:AD}(h:L2.take L.length=L):L <+: L2:=⟨L2.drop L.length,by have:=AKo L.length L2;rw[h] at this;exact this⟩
theorem RU{B:SF}{N:List Str}{n:Nat}{xs:List D}{L:AD}{d:D}{L':AD}(h:Au B N n xs L=some (d,L')):Za B N xs L d L':=by
 unfold Au at h;split at h
 .split at h
  .rename_i d2 L2 e;split at h
   .rename_i c;cases h;exact⟨L2,.inl e,.inr ⟨rfl,NM c.2,c.1⟩⟩
   .cases h;exact⟨_,.inl e,.inl rfl⟩
  .rename_i ρ L2 e;split at h
   .rename_i c;cases h;exact⟨L2,.inr ⟨rfl,ρ,e⟩,.inr ⟨rfl,NM c,rfl⟩⟩
   .cases h;exact⟨_,.inr ⟨rfl,ρ,e⟩,.inl rfl⟩
  .cases h
 .cases h
theorem RV{B:SF}{N:List Str}{n:Nat}{xs:List D}{L:AD}{r:D×AD}(h:Au B N n xs L=some r):xs.length=n:=by
 unfold Au at h;split at h
 .assumption
 .cases h
section
variable {P:Program}{w:World}{K:AO}{mg:ALK}{base:Heap}
theorem Sj{x qual:Str}{st:Stmt}{f:Addr}{fd:FuncData}{N ps:List Str}{k:Nat}{B:SF}(Fn:Ig K x qual st f fd)(S:BN N ps (Ab st))
  (hb:∀(cdv:Value) (A:Around) (outer:List Env) (s:Shared) (H:Hp) (E:XK),CO k (A.deeper (envOfC qual (Ab st) s.heap.objs.size f cdv)) ->
   GW (IA CX0 P w K mg base N qual (Ab st) f cdv A outer s H E).nox (Gr st) B)
  (bi:Fg K fd ps []) (m:mg x=some (.ref f)) (kp:HB K (.ref f)=true):Ao P w K mg base (k+1) x (Au B N ps.length) :=
 ⟨f,fd,ps,Sk Fn S _ B (λ_ _ _ h=>RV h) hb (λ_ _ _ _ h=>RU h),m,kp,bi⟩
structure TupK (K:AO) (u:Value) (d:D):Prop where
 ex:∃v,Ai v u/\∀H O,Is K H O v d
theorem II{i:Int}{t:Tok}:TupK K (.int i t) (.int i):=⟨.int i,⟨t,rfl⟩,λ_ _=>.int i⟩
theorem EZ{x:Str}{t:Tok}(h:x.length<=16777216):TupK K (.str x t) (.str x):=⟨.str x,⟨t,rfl⟩,λ_ _=>.str x h⟩
theorem ABJ:TupK K .none .non:=⟨.non,rfl,λ_ _=>.non⟩
inductive TupsK (K:AO):List Value->List D->Prop
 |nil:TupsK K [] []
 |cons {u:Value} {d:D} {us:List Value} {ds:List D}:TupK K u d->TupsK K us ds->TupsK K (u::us) (d::ds)
theorem TupsK.get:∀{us:List Value} {ds:List D},TupsK K us ds->∃vs,Ak vs us/\∀H O,AV K H O vs ds
 |_,_,.nil=>⟨[],.nil,λ_ _=>.nil⟩
 |_,_,.cons a b=>by
  obtain⟨v,r,i⟩:=a.ex;obtain⟨vs,rs,is⟩:=b.get;exact⟨v::vs,.cons r rs,λH O=>.cons (i H O) (is H O)⟩
theorem Hq{a:Addr}{od:Option Addr}{its:List Value}{n:Nat}{sl:Array (Option Value)}{ds:List D}(l:K.lookup a=some ⟨.type "tuple",od,.seq its.toArray n,sl⟩)(hz:its.length<=sizeLine)(t:TupsK K its ds):TupK K (.ref a) (.tup ds):=by obtain⟨vs,rv,is⟩:=t.get;exact⟨.ref a,rfl,λH O=>.tup (.inr ⟨_,its.toArray,n,l,rfl,rfl,by simpa using hz,by simpa using rv⟩) (is H O)⟩
theorem JC{x:Str}{u:Value}{d:D}(m:mg x=some u)(t:TupK K u d):Do K mg x d:=by obtain⟨v,r,i⟩:=t.ex;exact⟨v,u,m,r,i⟩
end
theorem XN{α:Type}{us:List α}(h:us.length=1):∃a,us=[a]:=List.length_eq_one_iff.mp h
theorem SH{α:Type}{us:List α}{n:Nat}(h:us.length=n+1):∃a vs,us=a::vs/\vs.length=n:=by
 cases us with
 |nil=>cases h
 |cons a vs=>exact⟨a,vs,rfl,Nat.succ.inj h⟩
theorem AFP{α:Type}{us:List α}(h:us.length=0):us=[]:=AKL.mp h
theorem KU{α:Type}{us:List α}(h:us.length=2):∃a b,us=[a,b]:=by obtain⟨a,vs,rfl,h'⟩:=SH h;obtain⟨b,rfl⟩:=XN h';exact⟨a,b,rfl⟩
theorem Ix{α:Type}{us:List α}(h:us.length=3):∃a b c,us=[a,b,c]:=by obtain⟨a,vs,rfl,h'⟩:=SH h;obtain⟨b,c,rfl⟩:=KU h';exact⟨a,b,c,rfl⟩
theorem AFO{α:Type}{us:List α}(h:us.length=4):∃a b c d,us=[a,b,c,d]:=by obtain⟨a,vs,rfl,h'⟩:=SH h;obtain⟨b,c,d,rfl⟩:=Ix h';exact⟨a,b,c,d,rfl⟩
def CP(x:D)(L:AD):Option (Bool×List D):=match x with
 |.tup xs=>some (true,xs)
 |.fz xs=>some (false,xs)
 |.ref k=>(match L[k]? with|some (.lst xs)=>some (false,xs)|_=>none)
 |_=>none
def GU:List (Option Bool)->Option Bool
 |[]=>some true
 |none::_=>none
 |some b::r=>(GU r).map (b&&·)
def Cm:Nat->AD->D->D->Option Bool
 |0,_,_,_=>none
 |n+1,L,x,y =>
  if BO x=true then (if BO y=true then some (Kl x y) else (CP y L).map λ_=>false)
  else (CP x L).bind λp=>if BO y=true then some false else (CP y L).bind λq =>
   if p.1=q.1 then (GU ((p.2.zip q.2).map λz=>Cm n L z.1 z.2)).map (·&&p.2.length == q.2.length) else some false
theorem Lx(n:Nat)(L:AD)(x y:D):Cm (n+1) L x y=if BO x=true then (if BO y=true then some (Kl x y) else (CP y L).map λ_=>false)
  else (CP x L).bind λp=>if BO y=true then some false else (CP y L).bind λq =>
   if p.1=q.1 then (GU ((p.2.zip q.2).map λz=>Cm n L z.1 z.2)).map (·&&p.2.length == q.2.length) else some false:=rfl
theorem TL:∀{os:List (Option Bool)} {b:Bool},GU os=some b->∃bs:List Bool,os=bs.map some/\b=bs.all id
 |[],b,h=>by cases h;exact⟨[],rfl,rfl⟩
 |none::_,b,h=>by cases h
 |some c::r,b,h=>by
  simp only[GU] at h
  cases e:GU r with
  |none=>rw[e] at h;cases h
  |some d =>
   rw[e] at h;cases h;obtain⟨bs,e1,e2⟩:=TL e;exact⟨c::bs,by rw[e1];rfl,by rw[e2];rfl⟩
section
variable {X:Cx}{pins:List (Addr×Obj)}{σ:L2.St}{H:Hp}{s:Shared}{O:List Addr}{L:AD}
theorem Hs(I:AK X pins σ H s)(rs:BD X.K H O L){v:V}{x:D}{t:Bool}{xs:List D}(i:Is X.K H O v x)(e:CP x L=some (t,xs)) :
  ∃(a:Addr) (vs:List V) (its:List Value),v=.ref a/\AV X.K H O vs xs/\Ak vs its/\(if t=true then s.heap.IsTuple a its.toArray else s.heap.IsList a its.toArray):=by
 cases i with
 |tup h il =>
  cases e;obtain⟨its,r,hp,_⟩:=I.tuple h;exact⟨_,_,its,rfl,il,r,hp⟩
 |fz h il =>
  cases e;obtain⟨its,r,hp,_⟩:=I.list h.sql;exact⟨_,_,its,rfl,il,r,hp.isList⟩
 |ref hk =>
  simp only[CP] at e;split at e
  .rename_i ys e2;cases e;obtain⟨vs,hv,iv⟩:=rs.ob _ _ _ hk e2;obtain⟨its,r,hp,_⟩:=I.list (Bj.of hv);exact⟨_,vs,its,rfl,iv,r,hp.isList⟩
  .cases e
 |_=>cases e
theorem ACJ{a:Addr}{us ws:List Value}{t:Bool}(h1:if t=true then s.heap.IsTuple a us.toArray else s.heap.IsList a us.toArray)(h2:if t=true then s.heap.IsTuple a ws.toArray else s.heap.IsList a ws.toArray):us=ws:=by
 have q:us.toArray=ws.toArray:=by
  cases t
  .obtain⟨o,ho,hc,n,hd⟩:=h1;obtain⟨o2,ho2,hc2,n2,hd2⟩:=h2;rw[ho] at ho2;cases ho2;rw[hd] at hd2;cases hd2;rfl
  .obtain⟨o,ho,hc,n,hd⟩:=h1;obtain⟨o2,ho2,hc2,n2,hd2⟩:=h2;rw[ho] at ho2;cases ho2;rw[hd] at hd2;cases hd2;rfl
 simpa using congrArg Array.toList q
theorem YM{v:V}{x:D}{a:Addr}(i:Is X.K H O v x)(f:BO x=true):v≠.ref a:=by cases i <;> first|(intro z;cases z;done)|(simp[BO] at f)
theorem Lw{x:D}(f:BO x=true):Kl x x=true:=by
 cases x with
 |non=>rfl
 |bl b=>exact(beq_self_eq_true b:(b == b)=true)
 |int b=>exact(beq_self_eq_true b:(b == b)=true)
 |str b=>exact(beq_self_eq_true b:(b == b)=true)
 |_=>exact HI (show false=true from f)
theorem YS(I:AK X pins σ H s)(rs:BD X.K H O L):∀(n:Nat) {v:V} {x y:D} {b:Bool},Is X.K H O v x->Is X.K H O v y->Cm n L x y=some b->b=true
 |0,_,_,_,_,_,_,e=>by cases e
 |n+1,v,x,y,b,ix,iy,e=>by
  simp only[Cm] at e
  by_cases fx:BO x=true
  .rw[if_pos fx] at e
   by_cases fy:BO y=true
   .rw[if_pos fy] at e;cases e;have:x=y:=(JY fx fy).mp ((FO ix fx).symm.trans (FO iy fy));subst this;exact Lw fx
   .rw[if_neg fy] at e
    cases hy:CP y L with
    |none=>rw[hy] at e;cases e
    |some q =>
     obtain⟨a,_,_,hv,_⟩:=Hs I rs iy hy;exact absurd hv (YM ix fx)
  .rw[if_neg fx] at e
   cases hx:CP x L with
   |none=>rw[hx] at e;cases e
   |some p =>
    rw[hx] at e;simp only[AS] at e;obtain⟨a,vs,its,hv,il,r,hp⟩:=Hs I rs ix hx
    by_cases fy:BO y=true
    .exact absurd hv (YM iy fy)
    .rw[if_neg fy] at e
     cases hy:CP y L with
     |none=>rw[hy] at e;cases e
     |some q =>
      rw[hy] at e;simp only[AS] at e;obtain⟨a',vs',its',hv',il',r',hp'⟩:=Hs I rs iy hy;rw[hv] at hv';cases hv';obtain⟨t,xs⟩:=p;obtain⟨t',ys⟩:=q;simp only at e hp hp' il il'
      by_cases ht:t=t'
      .subst ht;rw[if_pos rfl] at e;have hits:=ACJ hp hp';subst hits;have hvs:=r.inj r';subst hvs
       cases q:GU ((xs.zip ys).map λz=>Cm n L z.1 z.2) with
       |none=>rw[q] at e;cases e
       |some c =>
        rw[q] at e;cases e;obtain⟨bs,e1,rfl⟩:=TL q;rw[CJ];refine⟨?_,beq_iff_eq.mpr (il.length.symm.trans il'.length)⟩;rw[CW];intro c hc;obtain⟨j,hj,rfl⟩:=AKV hc;have e2:((xs.zip ys).map λz=>Cm n L z.1 z.2)[j]?=some (some bs[j]):=by rw[e1];simp[hj]
        rw[BH] at e2
        cases e3:(xs.zip ys)[j]? with
        |none=>rw[e3] at e2;cases e2
        |some z =>
         rw[e3] at e2;simp only[AKM,Option.some.injEq] at e2;rw[List.getElem?_zip_eq_some] at e3;obtain⟨v1,h1,i1⟩:=il.get e3.1;obtain⟨v2,h2,i2⟩:=il'.get e3.2;rw[h1] at h2;cases h2;exact YS I rs n i1 i2 e2
      .exfalso
       cases t <;> cases t' <;> first|exact ht rfl|skip
       .exact SeqAt.ne_of_list_tuple hp hp' rfl
       .exact SeqAt.ne_of_list_tuple hp' hp rfl
theorem YL{A:Around}{v u:V}{a:Addr}{w w':Value}{its:List Value}{t:Bool}(hu:A.units<cLine)(f:Gq v=true)(rv:Ai v w)(hp:if t=true then s.heap.IsTuple a its.toArray else s.heap.IsList a its.toArray) :
  SeqAt.EqAt A s w (.ref a) false/\SeqAt.EqAt A s (.ref a) w false:=by
 cases v with
 |non=>cases rv;cases t;exact⟨.none_list hp hu,.list_none hp hu⟩;exact⟨.none_tuple hp hu,.tuple_none hp hu⟩
 |bl b=>cases rv;cases t;exact⟨.bool_list b hp hu,.list_bool b hp hu⟩;exact⟨.bool_tuple b hp hu,.tuple_bool b hp hu⟩
 |int b=>obtain⟨k,rfl⟩:=rv;cases t;exact⟨.int_list b k hp hu,.list_int b k hp hu⟩;exact⟨.int_tuple b k hp hu,.tuple_int b k hp hu⟩
 |str b=>obtain⟨k,rfl⟩:=rv;cases t;exact⟨.str_list b k hp hu,.list_str b k hp hu⟩;exact⟨.str_tuple b k hp hu,.tuple_str b k hp hu⟩
 |_=>cases f
theorem ZT(bs:List Bool):(List.range bs.length).all (λj=>bs.getD j false)=bs.all id:=by
 rw[AKJ,CW,CW];constructor
 .intro h c hc;obtain⟨j,hj,rfl⟩:=AKV hc;have:=h j (Cr.mpr hj);simpa[hj] using this
 .intro h j hj;have hj':=Cr.mp hj;have:=h bs[j] (AKn hj');simpa[hj'] using this
theorem AD5{A:Around}{xs ys:List D}{vs ws:List V}{us zs:List Value}{n:Nat}{bs:List Bool}(ix:AV X.K H O vs xs)(iy:AV X.K H O ws ys)(rx:Ak vs us)(ry:Ak ws zs)
  (e1:(xs.zip ys).map (λz=>Cm n L z.1 z.2)=bs.map some)
  (rec:∀{v w:V} {x y:D} {u z:Value} {b:Bool},Is X.K H O v x->Is X.K H O w y->Ai v u->Ai w z->Cm n L x y=some b->SeqAt.EqAt A s u z b) :
  ∀j (h1:j<us.toArray.size) (h2:j<zs.toArray.size),SeqAt.EqAt A s us.toArray[j] zs.toArray[j] (bs.getD j false):=by
 intro j h1 h2;have h1':j<us.length:=by simpa using h1
 have h2':j<zs.length:=by simpa using h2
 have hx:j<xs.length:=by rw[<-ix.length,rx.length];exact h1'
 have hy:j<ys.length:=by rw[<-iy.length,ry.length];exact h2'
 obtain⟨v,hv,iv⟩:=ix.get (i:=j) (d:=xs[j]) (by simp[hx]);obtain⟨w,hw,iw⟩:=iy.get (i:=j) (d:=ys[j]) (by simp[hy]);obtain⟨u,hu,ru⟩:=rx.get hv;obtain⟨z,hz,rz⟩:=ry.get hw
 have eu:us.toArray[j]=u:=by have:=BY.mp hu;obtain⟨_,q⟩:=this;simpa using q
 have ez:zs.toArray[j]=z:=by have:=BY.mp hz;obtain⟨_,q⟩:=this;simpa using q
 rw[eu,ez]
 have hb:j<bs.length:=by have:=congrArg List.length e1;simp at this;omega
 have e2:((xs.zip ys).map λz=>Cm n L z.1 z.2)[j]?=some (some bs[j]):=by rw[e1];simp[hb]
 have e3:(xs.zip ys)[j]?=some (xs[j],ys[j]):=by rw[List.getElem?_zip_eq_some];exact⟨by simp[hx],by simp[hy]⟩
 rw[BH,e3] at e2;simp only[AKM,Option.some.injEq] at e2;have e4:bs.getD j false=bs[j]:=by simp[hb]
 rw[e4];exact rec iv iw ru rz e2
theorem RS{A:Around}{a c:Addr}{xs ys:List D}{vs ws:List V}{us zs:List Value}{n:Nat}{t b:Bool}(hu:A.units<cLine)(ix:AV X.K H O vs xs)(iy:AV X.K H O ws ys)(rx:Ak vs us)(ry:Ak ws zs)
  (hp:if t=true then s.heap.IsTuple a us.toArray else s.heap.IsList a us.toArray) (hq:if t=true then s.heap.IsTuple c zs.toArray else s.heap.IsList c zs.toArray)
  (e:(GU ((xs.zip ys).map λz=>Cm n L z.1 z.2)).map (·&&xs.length == ys.length)=some b)
  (rec:∀{v w:V} {x y:D} {u z:Value} {b:Bool},Is X.K H O v x->Is X.K H O w y->Ai v u->Ai w z->Cm n L x y=some b->SeqAt.EqAt A.in1 s u z b) :
  SeqAt.RcAt A s (.ref a) (.ref c) b/\SeqAt.RcNeAt A s (.ref a) (.ref c) (!b):=by
 cases q:GU ((xs.zip ys).map λz=>Cm n L z.1 z.2) with
 |none=>rw[q] at e;cases e
 |some k =>
  rw[q] at e;cases e;obtain⟨bs,e1,rfl⟩:=TL q;have he:=AD5 ix iy rx ry e1 rec;have lx:us.toArray.size=xs.length:=by simp[<-rx.length,ix.length]
  have ly:zs.toArray.size=ys.length:=by simp[<-ry.length,iy.length]
  have lb:bs.length=min xs.length ys.length:=by have:=congrArg List.length e1;simpa using this.symm
  cases t
  .by_cases hl:xs.length=ys.length
   .have h1:=SeqAt.RcAt.lists hp hq (by omega) hu he;have h2:=SeqAt.RcNeAt.lists hp hq (by omega) hu he;rw[show us.toArray.size=bs.length by omega,ZT] at h1 h2;have:(xs.length == ys.length)=true:=beq_iff_eq.mpr hl;rw[this];simp only[Bool.and_true];exact⟨h1,h2⟩
   .have:(xs.length == ys.length)=false:=by simpa using hl
    rw[this];simp only[Bool.and_false];have hne:(us.toArray.size != zs.toArray.size)=true:=by rw[lx,ly];simpa using hl
    exact⟨SeqAt.RcAt.lists_lengths hp hq hne hu,SeqAt.RcNeAt.lists_lengths hp hq hne hu⟩
  .have h1:=SeqAt.RcAt.tuples hp hq hu he;have h2:=SeqAt.RcNeAt.tuples hp hq hu he;rw[lx,ly,<-lb,ZT] at h1 h2;exact⟨h1,h2⟩
theorem Sm(I:AK X pins σ H s)(rs:BD X.K H O L):∀(n:Nat) {A:Around} {v w:V} {x y:D} {u z:Value} {b:Bool},A.units+n<cLine->Is X.K H O v x->Is X.K H O w y->Ai v u->Ai w z->Cm n L x y=some b->SeqAt.EqAt A s u z b
 |0,_,_,_,_,_,_,_,_,_,_,_,_,_,e=>by cases e
 |n+1,A,v,w,x,y,u,z,b,hu,ix,iy,ru,rz,e=>by
  have e0:=e;simp only[Cm] at e
  by_cases fx:BO x=true
  .rw[if_pos fx] at e
   by_cases fy:BO y=true
   .rw[if_pos fy] at e;cases e;have h1:=FO ix fx;have h2:=FO iy fy;subst h1 h2;exact YU ru rz (Kk fx) (Kk fy)
   .rw[if_neg fy] at e
    cases hy:CP y L with
    |none=>rw[hy] at e;cases e
    |some q =>
     rw[hy] at e;cases e;obtain⟨a,_,its,rfl,_,_,hp⟩:=Hs I rs iy hy;cases rz;have h1:=FO ix fx;subst h1;exact(YL (u:=.non) (w':=.none) (by omega) (Kk fx) ru hp).1
  .rw[if_neg fx] at e
   cases hx:CP x L with
   |none=>rw[hx] at e;cases e
   |some p =>
    rw[hx] at e;simp only[AS] at e;obtain⟨a,vs,its,rfl,il,r,hp⟩:=Hs I rs ix hx;cases ru
    by_cases fy:BO y=true
    .rw[if_pos fy] at e;cases e;have h1:=FO iy fy;subst h1;exact(YL (u:=.non) (w':=.none) (by omega) (Kk fy) rz hp).2
    .rw[if_neg fy] at e
     cases hy:CP y L with
     |none=>rw[hy] at e;cases e
     |some q =>
      rw[hy] at e;simp only[AS] at e;obtain⟨c,ws,zs,rfl,il',r',hp'⟩:=Hs I rs iy hy;cases rz;obtain⟨t,xs⟩:=p;obtain⟨t',ys⟩:=q;simp only at e hp hp' il il'
      by_cases ht:t=t'
      .subst ht;rw[if_pos rfl] at e
       by_cases hac:a=c
       .subst hac;have:=YS I rs (n+1) ix iy e0;subst this;exact .same _
       .refine .of_refs hac (RS (by omega) il il' r r' hp hp' e λa1 a2 a3 a4 a5=>Sm I rs n ?_ a1 a2 a3 a4 a5).1;rw[Around.in1_units];omega
      .rw[if_neg ht] at e;cases e
       cases t <;> cases t' <;> first|exact absurd rfl ht|skip
       .exact .list_tuple hp hp' (by omega)
       .exact .tuple_list hp hp' (by omega)
end
def IK(x:D)(L:AD):Bool:=(CP x L).isSome
def Hz:G2:=λx y L=>if Fi x y=true then some (.bl (decide (x=y)),L) else if (IK x L&&IK y L)=true then (Cm 30 L x y).map λb=>(.bl b,L) else none
def JE:G2:=λx y L=>if Fi x y=true then some (.bl (!decide (x=y)),L) else if (IK x L&&IK y L)=true then (match CP x L,CP y L with
  |some (t,_),some (t',_)=>if t=t' then (Cm 30 L x y).map λb=>(.bl (!b),L) else none
  |_,_=>none) else none
section
variable {X:Cx}
theorem NG{x:D}{L:AD}{p:Bool×List D}(h:CP x L=some p):BO x=false:=by cases x <;> first|rfl|(simp[CP] at h)
theorem AGb(hu:X.A.units+64<cLine):Av X (compareOp .Eq) (λv u H Q=>∃O L x y b,BD X.K H O L/\Is X.K H O v x/\Is X.K H O u y/\IK x L=true/\IK y L=true/\Cm 30 L x y=some b/\Q (.bl b) H):=by
 intro pins s σ H v u w z Q I rv ru h;obtain⟨O,L,x,y,b,rs,ix,iy,sx,sy,e,q⟩:=h;unfold IK at sx sy;obtain⟨⟨t,xs⟩,hx⟩:=AKi.mp sx;obtain⟨⟨t',ys⟩,hy⟩:=AKi.mp sy;have fx:=NG hx;have fy:=NG hy;rw[show(30:Nat)=29+1 from rfl,Lx,if_neg (by rw[fx];exact Ct),hx,AS,if_neg (by rw[fy];exact Ct),hy,AS] at e;obtain⟨a,vs,its,rfl,il,r,hp⟩:=Hs I rs ix hx;obtain⟨c,ws,zs,rfl,il',r',hp'⟩:=Hs I rs iy hy;cases rv;cases ru;simp only at e
 by_cases ht:t=t'
 .subst ht;rw[if_pos rfl] at e;exact(RS (by omega) il il' r r' hp hp' e λa1 a2 a3 a4 a5=>Sm I rs 29 (by rw[Around.in1_units];omega) a1 a2 a3 a4 a5).1 _ _ _ _ ⟨.bl b,H,I,rfl,q⟩
 .rw[if_neg ht] at e;cases e
  cases t <;> cases t' <;> first|exact absurd rfl ht|skip
  .exact SeqAt.RcAt.list_tuple hp hp' (by omega) _ _ _ _ ⟨.bl _,H,I,rfl,q⟩
  .exact SeqAt.RcAt.tuple_list hp hp' (by omega) _ _ _ _ ⟨.bl _,H,I,rfl,q⟩
theorem AEh(hu:X.A.units+64<cLine):Av X (compareOp .NotEq) (λv u H Q=>∃O L x y b t xs ys,BD X.K H O L/\Is X.K H O v x/\Is X.K H O u y/\CP x L=some (t,xs)/\CP y L=some (t,ys)/\Cm 30 L x y=some b/\Q (.bl (!b)) H):=by intro pins s σ H v u w z Q I rv ru h;obtain⟨O,L,x,y,b,t,xs,ys,rs,ix,iy,hx,hy,e,q⟩:=h;have fx:=NG hx;have fy:=NG hy;rw[show(30:Nat)=29+1 from rfl,Lx,if_neg (by rw[fx];exact Ct),hx,AS,if_neg (by rw[fy];exact Ct),hy,AS] at e;obtain⟨a,vs,its,rfl,il,r,hp⟩:=Hs I rs ix hx;obtain⟨c,ws,zs,rfl,il',r',hp'⟩:=Hs I rs iy hy;cases rv;cases ru;rw[if_pos rfl] at e;exact(RS (by omega) il il' r r' hp hp' e λa1 a2 a3 a4 a5=>Sm I rs 29 (by rw[Around.in1_units];omega) a1 a2 a3 a4 a5).2 _ _ _ _ ⟨.bl _,H,I,rfl,q⟩
theorem NT(hu:X.A.units+64<cLine):DG X (compareOp .Eq) Hz:=Av.weaken (Av.or Wc (AGb hu)) λv u H Q z4_=>by
 obtain⟨O,L,x,y,d,L',rs,ix,iy,e,k⟩:=z4_;unfold Hz at e;split at e
 .rename_i hs;cases e;have hs':=hs;simp only[Fi,CJ] at hs;have h1:=FO ix hs.1.1;have h2:=FO iy hs.1.2;subst h1 h2;refine .inl ⟨hs.2,?_⟩;have:=k (.bl (decide (x=y))) _ _ (.refl _ _) rs (.bl _)
  have e:decide (Dp x=Dp y)=decide (x=y):=by
   by_cases h:x=y
   .rw[decide_eq_true h,decide_eq_true ((JY hs.1.1 hs.1.2).mpr h)]
   .rw[decide_eq_false h,decide_eq_false (λz=>h ((JY hs.1.1 hs.1.2).mp z))]
  rw[e];exact this
 .split at e
  .rename_i hq;rw[CJ] at hq
   cases q:Cm 30 L x y with
   |none=>rw[q] at e;cases e
   |some b =>
    rw[q] at e;cases e;exact .inr ⟨O,L,x,y,b,rs,ix,iy,hq.1,hq.2,q,k _ _ _ (.refl _ _) rs (.bl _)⟩
  .cases e
theorem Wf(hu:X.A.units+64<cLine):DG X (compareOp .NotEq) JE:=Av.weaken (Av.or Wb (AEh hu)) λv u H Q z4_=>by
 obtain⟨O,L,x,y,d,L',rs,ix,iy,e,k⟩:=z4_;unfold JE at e;split at e
 .rename_i hs;cases e;simp only[Fi,CJ] at hs;have h1:=FO ix hs.1.1;have h2:=FO iy hs.1.2;subst h1 h2;refine .inl ⟨hs.2,?_⟩;have:=k (.bl (!decide (x=y))) _ _ (.refl _ _) rs (.bl _)
  have e:decide (Dp x=Dp y)=decide (x=y):=by
   by_cases h:x=y
   .rw[decide_eq_true h,decide_eq_true ((JY hs.1.1 hs.1.2).mpr h)]
   .rw[decide_eq_false h,decide_eq_false (λz=>h ((JY hs.1.1 hs.1.2).mp z))]
  rw[e];exact this
 .split at e
  .split at e
   .rename_i t xs t' ys hx hy;split at e
    .rename_i ht;subst ht
     cases q:Cm 30 L x y with
     |none=>rw[q] at e;cases e
     |some b =>
      rw[q] at e;cases e;exact .inr ⟨O,L,x,y,b,t,xs,ys,rs,ix,iy,hx,hy,q,k _ _ _ (.refl _ _) rs (.bl _)⟩
    .cases e
   .cases e
  .cases e
end
def Rw:SF:=λ_ _=>none
theorem Vo{X:Cx}{st:Stmt}:Ej X st Rw:=PS.weaken AC4 λD σ H z3_=>by obtain⟨O,ρ,L,out,r,e,k⟩:=z3_;cases e
theorem fnd_none{P:Program}{w:World}{K:AO}{mg:ALK}{base:Heap}{k:Nat}{x:Str}{f:Addr}{fd:FuncData}{ps:List Str}(bi:Fg K fd ps [])(m:mg x=some (.ref f))(kp:HB K (.ref f)=true):Ao P w K mg base k x (λ_ _=>none) :=
 ⟨f,fd,ps,⟨(λvs H Q E h=>by obtain⟨_,_,_,_,_,_,_,e,_⟩:=h;cases e),(λA outer s H args us vs Q E _ _ _ _ h=>by obtain⟨_,_,_,_,_,_,_,e,_⟩:=h;cases e)⟩,m,kp,bi⟩
def Ls:GM:=λx xs L=>match x,xs with
 |.ref k,[]=>(match L[k]? with|some (.lst _)=>some (.non,L.set k (.lst []))|_=>none)
 |_,_=>none
theorem AEz{X:Cx}:MtD X "list.clear" Ls:=FS.weaken (show FS X "list.clear" rClear from AEm) λv vs H Q z4_=>by
 obtain⟨O,L,dx,dxs,d,L',rp,ix,ixs,e,k⟩:=z4_;unfold Ls at e;split at e
 .split at e
  .rename_i ds hd;cases e
   cases ix with|@ref kk a hk =>
    cases ixs;obtain⟨ws,hw,il⟩:=rp.ob _ _ _ hk hd;refine⟨_,ws,rfl,rfl,hw,?_⟩;have st:Aq H O (upd H a (.lst [])) O:=⟨.write hw id,Ac _⟩;exact k _ _ _ st (rp.write (o':=.lst []) hk ⟨[],Ce,.nil⟩) .non
  .cases e
 .cases e
def Kf(o i v:D)(L:AD):Option AD:=match o,i with
 |.ref k,.int j=>(match L[k]? with|some (.lst xs)=>(match ixN xs.length j with|some n=>some (L.set k (.lst (xs.set n v)))|none=>none)|_=>none)
 |_,_=>none
def DE(fo fi fv:EF):SF:=λρ L=>(fv ρ L).bind λv=>(fo ρ v.2).bind λo=>(fi ρ o.2).bind λi=>(Kf o.1 i.1 v.1 i.2).bind λL'=>some (.next ρ L')
section
variable {X:Cx}{a b c o i e:Expr}{fa fb fc fo fi fv:EF}{pos:Pos}
theorem Vn{p2:Pos}(ho:Af X o fo)(hi:Af X i fi)(he:Af X e fv)(hs:swapsWithSole [.Subscript o i p2] e pos.line X.env=pure false:=by rfl)(hw:swappedStores [.Subscript o i p2] e X.env=pure none:=by rfl)
  (h1:(assignEach [.Subscript o i p2] X.env).map (·.2)=[assign (.Subscript o i p2) X.env]:=by rfl)
  (ha:∀v,assign (.Subscript o i p2) X.env v=(do
   let ov <-holding [v] (eval o X.env)
   let iv <-holding [v,ov] (eval i X.env)
   standAt p2
   holding [v,ov,iv] (setItem ov iv v)
   release [v,ov,iv] []):=by intro _;rfl):Ej X (.Assign [.Subscript o i p2] e pos) (DE fo fi fv) :=
 PS.weaken (Rc he (WR ho hi ACD ha) hs hw h1) λD σ H z3_=>by
  obtain⟨O,ρ,L,out,r,ee,k⟩:=z3_;unfold DE at ee
  cases e1:fv ρ L with
  |none=>rw[e1] at ee;cases ee
  |some p =>
   rw[e1] at ee;simp only[AS] at ee
   cases e2:fo ρ p.2 with
   |none=>rw[e2] at ee;cases ee
   |some q =>
    rw[e2] at ee;simp only[AS] at ee
    cases e3:fi ρ q.2 with
    |none=>rw[e3] at ee;cases ee
    |some w =>
     rw[e3] at ee;simp only[AS] at ee
     cases e4:Kf q.1 w.1 p.1 w.2 with
     |none=>rw[e4] at ee;cases ee
     |some L' =>
      rw[e4] at ee;cases ee;refine⟨O,ρ,L,p.1,p.2,r,e1,λv H1 O1 st1 rs1 is1=>⟨O1,ρ,p.2,q.1,q.2,r.to st1 rs1,e2,λov H2 O2 st2 rs2 is2=>⟨O2,ρ,q.2,w.1,w.2,r.to (st1.trans st2) rs2,e3,λiv H3 O3 st3 rs3 is3=>?_⟩⟩⟩;have isv:=(is1.mono st2).mono st3;have iso:=is2.mono st3;unfold Kf at e4;split at e4
      .rename_i kk jj hk hj;rw[hk] at iso;rw[hj] at is3;cases is3
       cases iso with|@ref _ pa hka =>
        split at e4
        .rename_i xs hx;split at e4
         .rename_i n hn;cases e4;obtain⟨vs,hv,il⟩:=rs3.ob _ _ _ hka hx;refine⟨pa,vs,_,n,rfl,rfl,hv,by rw[il.length];exact hn,?_⟩;have st4:Aq H3 O3 (upd H3 pa (.lst (vs.set n v))) O3:=⟨.write hv id,Ac _⟩;have stA:=((st1.trans st2).trans st3).trans st4;exact k _ _ _ stA ⟨rs3.write (o':=.lst (xs.set n p.1)) hka ⟨_,Ce,(il.mono st4).set (isv.mono st4) n⟩,r.f.mono stA⟩
         .cases e4
        .cases e4
      .cases e4
def Ju(g g':G2)(fa fb fc:EF):EF:=λρ L=>(fa ρ L).bind λx=>(fb ρ x.2).bind λy=>(g x.1 y.1 y.2).bind λz=>match z.1 with
 |.bl true=>(fc ρ z.2).bind λw=>g' y.1 w.1 w.2
 |.bl false=>some (.bl false,z.2)
 |_=>none
theorem AG1{K:AO}{g g':G2}{σ:L2.St}{H:Hp}{Q:VK}(h:HQ K (Ju g g' fa fb fc) σ H Q):VL (rD K g) (rD K g') (HQ K fa) (HQ K fb) (HQ K fc) σ H Q:=by
 obtain⟨O,ρ,L,d,L',r,e,k⟩:=h;unfold Ju at e
 cases e1:fa ρ L with
 |none=>rw[e1] at e;cases e
 |some p =>
  rw[e1] at e;simp only[AS] at e
  cases e2:fb ρ p.2 with
  |none=>rw[e2] at e;cases e
  |some q =>
   rw[e2] at e;simp only[AS] at e
   cases e3:g p.1 q.1 q.2 with
   |none=>rw[e3] at e;cases e
   |some z =>
    rw[e3] at e;simp only[AS] at e;refine⟨O,ρ,L,p.1,p.2,r,e1,λv H1 O1 st1 rs1 is1=>⟨O1,ρ,p.2,q.1,q.2,r.to st1 rs1,e2,λu H2 O2 st2 rs2 is2=>?_⟩⟩;refine⟨O2,q.2,p.1,q.1,z.1,z.2,rs2,is1.mono st2,is2,e3,λw H3 O3 st3 rs3 is3=>?_⟩;have stA:=(st1.trans st2).trans st3;obtain⟨zd,zL⟩:=z
    cases zd <;> try (cases e;done)
    rename_i bb;cases is3;refine⟨bb,rfl,?_⟩
    cases bb with
    |false=>cases e;exact iteF (k _ _ _ stA rs3 (.bl _))
    |true =>
     simp only at e
     cases e4:fc ρ zL with
     |none=>rw[e4] at e;cases e
     |some w =>
      rw[e4] at e;simp only[AS] at e;refine iteT ⟨O3,ρ,zL,w.1,w.2,r.to stA rs3,e4,λu4 H4 O4 st4 rs4 is4=>?_⟩;exact⟨O4,w.2,q.1,w.1,d,L',rs4,(is2.mono st3).mono st4,is4,e,λy H5 O5 st5 rs5 is5=>k _ _ _ ((stA.trans st4).trans st5) rs5 is5⟩
theorem ABM{op op':CmpOp}{g g':G2}(ho:DG X (compareOp op) g)(ho':DG X (compareOp op') g')(ha:Af X a fa)(hb:Af X b fb)(hc:Af X c fc)
  (hm:lastMarks [op,op'] [b,c]=false:=by with_unfolding_all rfl):Fc X (.Compare a [op,op'] [b,c] pos) (AX (Ju g g' fa fb fc)) :=
 PT.weaken (ACx ho ho' ha hb hc hm) λσ H Q h=>by
  have q:=TD h;exact AG1 q
end
end L3
set_option maxHeartbeats 4000000
namespace HT
open PySem PySem.Spec PyProof.Rows
section
variable {prog:Program}{w:World}{A:Around}{E:ALL}
theorem Ya{it t:Addr}{items:Array Value}(hne:t≠it):∀(n i:Nat) (s:Shared) (Q:List Value->Shared->Prop),s.heap.IsListIter it t i->s.heap.IsList t items->i+n<=items.size ->
  (∀h',Heap.IsListIter h' it t (i+n)->Heap.SameBut it s.heap h'->Q ((items.toList.drop i).take n) {s with heap:=h'})->wpAny (model prog w) A (draw (.ref it) n) Q E s
 |0,i,s,Q,hit,_,_,hQ=>by
  show wpAny _ _ (pure []) Q E s;exact AU (by simpa using hQ s.heap hit (Heap.SameBut.refl ..))
 |n+1,i,s,Q,hit,ht,hle,hQ=>by
  have hlt:i<items.size:=by omega
  show wpAny _ _ (pyNext (.ref it) >>= _) Q E s;refine AH (wpAny_pyNext_list_item hit ht (x:=items[i]) (by simp[hlt]) λh₁ hit₁ hs₁=>?_);refine AH (EV (Ya hne n (i+1) _ _ hit₁ (ht.extBut hs₁.extBut hne) (by omega) λh₂ hit₂ hs₂=>AU ?_));have hd:items.toList.drop i=items[i]::items.toList.drop (i+1):=by simp[AKl,hlt]
  have:=hQ h₂ (by rw[show i+(n+1)=i+1+n by omega];exact hit₂) (hs₁.trans hs₂);rw[hd,List.take_succ_cons] at this;exact this
variable {s:Shared}
theorem AA7{t:Addr}{items:Array Value}{Q:List Value->Shared->Prop}(hh:A.handled=none)(ht:s.heap.IsList t items)
  (hQ:∀h',Heap.ExtBut s.heap.objs.size s.heap h'->Q items.toList {s with heap:=h'}):wpAny (model prog w) A (unpackItems (.ref t) items.size none) Q E s:=by
 have hlt:t≠s.heap.objs.size:=by obtain⟨o,ho,_⟩:=ht;exact Bu (Heap.lt_size ho)
 have htp:∀ob,Heap.IsList (s.heap.push ob) t items:=λob=>let ⟨o,ho,r⟩:=ht;⟨o,Heap.get?_push_of_some _ ho,r⟩;unfold unpackItems;refine AH ?_
 .unfold notIterableAtAll;refine AH (wpAny_specialOf ht.typeIs slot_list_iter.lookup ?_);refine AU ?_;simp only[AKF,if_false];refine AH (EV (wpAny_pyIter_list ht ?_));refine AH (EV (Ya hlt items.size 0 _ _ ⟨_,Heap.get?_push_size _ rfl,rfl,rfl⟩ (htp _) (by omega) λh₁ hit₁ hs₁=>?_))
  have hall:List.take items.size (List.drop 0 items.toList)=items.toList:=by rw[AKE];exact AKN (by simp)
  rw[hall];rw[if_neg (by simp)];have ht₁:Heap.IsList h₁ t items:=(htp _).extBut hs₁.extBut hlt;refine AH (EV (wpAny_pyNext_list_end hh hit₁ ht₁ (by simp) λh₂ he₂=>?_));simp only[Option.isSome_none,AKF,if_false];refine AU (hQ h₂ λb o hb e=>he₂ b o hb (hs₁.extBut b o hb (Heap.get?_push_of_some _ e)))
theorem AJh{env:Env}{elts:List Expr}{x1}{pos:Pos}{t:Addr}{items:Array Value}{Q:Unit->Shared->Prop}(hh:A.handled=none)(ht:s.heap.IsList t items)
  (hn:(assignEach elts env).length=items.size) (hstar:(assignEach elts env).findIdx? (·.1)=none)
  (h:∀h',Heap.ExtBut s.heap.objs.size s.heap h'->wpAny (model prog w) A (assignInOrder ((assignEach elts env).map (·.2)) items.toList) Q E {s with heap:=h'}) :
  wpAny (model prog w) A (assign (.Tuple elts x1 pos) env (.ref t)) Q E s:=by
 rw[assign_Tuple];refine AH (wpAny_standAt ?_);unfold unpack;rw[hn,hstar];exact AH (EV (AA7 hh ht h))
end
end HT
namespace L2
open PySem PySem.Spec PyProof.Rows
section
variable {X:Cx}{pos:Pos}
def AGH(K:AO)(n:Nat)(t:Hc):TG:=λv σ H Q=>∃a xs,v=.ref a/\Bj K H a xs/\xs.length=n/\t xs σ H Q
theorem ADa{es:List Expr}{k:Nat}{t:Hc}{n:Nat}(hc:X.calm=true)(h:He X es t)
  (hn:(assignEach es X.env).length=n:=by rfl) (hst:(assignEach es X.env).findIdx? (·.1)=none:=by rfl):PG X (.Tuple es k pos) (AGH X.K n t):=by
 intro pins s σ H v u Q I r hw;obtain⟨a,xs,e1,hq,hl,hw⟩:=hw;subst e1;cases r;obtain⟨its,rv,ht,hz⟩:=I.list hq;refine HT.AJh (I.ok.hd hc) ht.isList (by simp[hn,<-hl,rv.length]) hst λh' hx=>?_;have I1:AK X pins σ H {s with heap:=h'}:=I.kept (t':=s.toks) λb o e=>hx b o (Bu (Heap.lt_size e)) e;exact h pins _ σ H xs _ Q I1 (by simpa using rv) hw
theorem PG.or{tg:Expr}{t t':TG}(h:PG X tg t)(h':PG X tg t'):PG X tg (λv σ H Q=>t v σ H Q\/t' v σ H Q):=by
 intro pins s σ H v u Q I r q;rcases q with q|q
 .exact h pins s σ H v u Q I r q
 .exact h' pins s σ H v u Q I r q
end
end L2
namespace L3
open PySem PySem.Spec PyProof.Rows L2
def Jw(f:EF)(n:Nat)(gs:Fd):SF:=λρ L=>(f ρ L).bind λx=>(DD x.1 x.2).bind λds=>if ds.length=n then (gs ds ρ).bind λρ'=>some (.next ρ' x.2) else none
theorem RR{X:Cx}{es:List Expr}{k n:Nat}{e:Expr}{f:EF}{gs:Fd}{pos p2:Pos}(hc:X.calm=true)(he:Af X e f)(hg:Ky X es gs)
  (hn:(assignEach es X.env).length=n:=by rfl) (hst:(assignEach es X.env).findIdx? (·.1)=none:=by rfl)
  (hs:swapsWithSole [.Tuple es k p2] e pos.line X.env=pure false:=by rfl) (hw:swappedStores [.Tuple es k p2] e X.env=pure none:=by rfl)
  (h1:(assignEach [.Tuple es k p2] X.env).map (·.2)=[assign (.Tuple es k p2) X.env]:=by rfl):Ej X (.Assign [.Tuple es k p2] e pos) (Jw f n gs) :=
 PS.weaken (Rc he (PG.or (WQ hc hg hn hst) (ADa hc hg hn hst)) hs hw h1) λD σ H z3_=>by
  obtain⟨O,ρ,L,out,r,ee,kk⟩:=z3_;unfold Jw at ee
  cases e1:f ρ L with
  |none=>rw[e1] at ee;cases ee
  |some p =>
   rw[e1] at ee;simp only[AS] at ee
   cases e2:DD p.1 p.2 with
   |none=>rw[e2] at ee;cases ee
   |some ds =>
    rw[e2] at ee;simp only[AS] at ee;split at ee
    .rename_i hl
     cases e3:gs ds ρ with
     |none=>rw[e3] at ee;cases ee
     |some ρ' =>
      rw[e3] at ee;cases ee;refine⟨O,ρ,L,p.1,p.2,r,e1,λv H1 O1 st1 rs1 is1=>?_⟩;obtain⟨a,vs,rfl,hq,il⟩:=Jb rs1 is1 e2;have g:XI X.K gs vs σ H1 (λσ' H'=>D.nx σ' H'):=⟨O1,ρ,p.2,ds,ρ',r.to st1 rs1,il,e3,λσ' rp=>kk σ' H1 O1 st1 rp⟩;rcases hq with hq|hq
      .exact .inr ⟨a,vs,rfl,hq,by rw[il.length];exact hl,g⟩
      .exact .inl ⟨a,vs,rfl,hq,by rw[il.length];exact hl,g⟩
    .cases ee
def FL(f:Str)(v:D):List (Str×D)->List (Str×D)
 |[]=>[(f,v)]
 |(g,x)::r=>if g=f then (g,v)::r else (g,x)::FL f v r
section
variable {K:AO}{H:Hp}{O:List Addr}
theorem SD{f:Str}{d:D}:∀{us:List (Str×V)} {fs:List (Str×D)},us.map (·.1)=fs.map (·.1)->AV K H O (us.map (·.2)) (fs.map (·.2))->fs.lookup f=some d->∃v,us.lookup f=some v/\Is K H O v d
 |[],[],_,_,h=>by cases h
 |[],_::_,h,_,_=>by cases h
 |_::_,[],h,_,_=>by cases h
 |(g,u)::us,(g',x)::fs,hk,hi,hl=>by
  simp only[Am,List.cons.injEq] at hk;obtain⟨rfl,hk⟩:=hk
  cases hi with
  |cons a b =>
   by_cases e:f=g
   .subst e;simp only[Gc,beq_self_eq_true,Option.some.injEq] at hl;subst hl;exact⟨u,by simp[Gc],a⟩
   .have hb:(f == g)=false:=beq_eq_false_iff_ne.mpr e;simp only[Gc,hb] at hl;obtain⟨v,h1,h2⟩:=SD hk b hl;exact⟨v,by simp only[Gc,hb];exact h1,h2⟩
theorem Rb{f:Str}{v:V}{d:D}(iv:Is K H O v d):∀{us:List (Str×V)} {fs:List (Str×D)},us.map (·.1)=fs.map (·.1)->AV K H O (us.map (·.2)) (fs.map (·.2)) ->
  (L2.DE f v us).map (·.1)=(FL f d fs).map (·.1)/\AV K H O ((L2.DE f v us).map (·.2)) ((FL f d fs).map (·.2))
 |[],[],_,_=>⟨rfl,.cons iv .nil⟩
 |[],_::_,h,_=>by cases h
 |_::_,[],h,_=>by cases h
 |(g,u)::us,(g',x)::fs,hk,hi=>by
  simp only[Am,List.cons.injEq] at hk;obtain⟨rfl,hk⟩:=hk
  cases hi with
  |cons a b =>
   obtain⟨h1,h2⟩:=Rb iv hk b;unfold L2.DE FL
   by_cases e:g=f
   .rw[if_pos e,if_pos e];exact⟨by simp[hk],.cons iv b⟩
   .rw[if_neg e,if_neg e];exact⟨by simp[h1],.cons a h2⟩
end
structure Bg (K:AO) (c f:Str):Prop where
 ok:∀C,GZ K c C->Cls K C/\JP K C f
def Bm(cs:List Str)(f:Str):G1:=λx L=>match x with
 |.ref k=>(match L[k]? with|some (.ins c fs)=>if c∈cs then (fs.lookup f).bind λd=>some (d,L) else none|_=>none)
 |_=>none
section
variable {X:Cx}{o e:Expr}{fo fe:EF}{f:Str}{cs:List Str}{pos pos':Pos}
theorem Bp(he:Af X o fo)(hc:∀c∈cs,Bg X.K c f)(hb:attributeBase o f X.env (eval o X.env)=eval o X.env:=by rfl):Af X (.Attribute o f pos) (BZ (Bm cs f) fo) :=
 PE.weaken (ADr he hb) λσ H Q z3_=>by
  obtain⟨O,ρ,L,d,L',r,e,k⟩:=z3_;unfold BZ at e
  cases e1:fo ρ L with
  |none=>rw[e1] at e;cases e
  |some p =>
   rw[e1] at e;obtain⟨x,L1⟩:=p;simp only[AS,Bm] at e;refine⟨O,ρ,L,x,L1,r,e1,λv H1 O1 st rs is=>?_⟩
   cases is <;> try (cases e;done)
   rename_i kk a hk;simp only at e
   cases e2:L1[kk]? with
   |none=>rw[e2] at e;cases e
   |some ob =>
    rw[e2] at e
    cases ob with
    |lst _=>cases e
    |dk _=>cases e
    |dt _ _=>cases e
    |exn _=>cases e
    |ins c fs =>
     simp only at e;split at e
     .rename_i hcm;obtain⟨C,dx,us,hC,hH,hk1,hi⟩:=rs.ob _ _ _ hk e2
      cases e3:fs.lookup f with
      |none=>rw[e3] at e;cases e
      |some d0 =>
       rw[e3] at e;cases e;obtain⟨v',hv',iv⟩:=SD hk1 hi e3;obtain⟨h1,h2⟩:=(hc c hcm).ok C hC;exact⟨a,C,dx,us,v',rfl,hH,h1,h2,hv',k _ _ _ st rs iv⟩
     .cases e
def LS(cs:List Str)(f:Str)(x v:D)(L:AD):Option AD:=match x with
 |.ref k=>(match L[k]? with|some (.ins c fs)=>if c∈cs/\fs.length<1000 then some (L.set k (.ins c (FL f v fs))) else none|_=>none)
 |_=>none
def Gg(cs:List Str)(f:Str)(fo fv:EF):SF:=λρ L=>(fv ρ L).bind λv=>(fo ρ v.2).bind λx=>(LS cs f x.1 v.1 x.2).bind λL'=>some (.next ρ L')
theorem Iq(ho:Af X o fo)(he:Af X e fe)(hc:∀c∈cs,Bg X.K c f)(hs:swapsWith e (some (.Attribute o f pos')) pos.line X.env=pure false:=by rfl):Ej X (.Assign [.Attribute o f pos'] e pos) (Gg cs f fo fe) :=
 PS.weaken (AC8 ho he hs) λD σ H z3_=>by
  obtain⟨O,ρ,L,out,r,e,k⟩:=z3_;unfold Gg at e
  cases e1:fe ρ L with
  |none=>rw[e1] at e;cases e
  |some p =>
   rw[e1] at e;simp only[AS] at e
   cases e2:fo ρ p.2 with
   |none=>rw[e2] at e;cases e
   |some q =>
    rw[e2] at e;simp only[AS] at e;obtain⟨x,L2⟩:=q;refine⟨O,ρ,L,p.1,p.2,r,e1,λy H1 O1 st1 rs1 is1=>?_⟩;refine⟨O1,ρ,p.2,x,L2,r.to st1 rs1,e2,λv H2 O2 st2 rs2 is2=>?_⟩
    cases is2 <;> try (cases e;done)
    rename_i kk a hk;simp only[LS] at e
    cases e3:L2[kk]? with
    |none=>rw[e3] at e;cases e
    |some ob =>
     rw[e3] at e
     cases ob with
     |lst _=>cases e
     |dk _=>cases e
     |dt _ _=>cases e
     |exn _=>cases e
     |ins c fs =>
      simp only at e;split at e
      .rename_i hcm;simp only[AS] at e;cases e;obtain⟨C,dx,us,hC,hH,hk1,hi⟩:=rs2.ob _ _ _ hk e3;obtain⟨h1,h2⟩:=(hc c hcm.1).ok C hC
       have hlen:us.length<1000:=by have:=congrArg List.length hk1;simp at this;rw[this];exact hcm.2
       refine⟨a,C,dx,us,rfl,hH,h1,h2,hlen,?_⟩;have st3:Aq H2 O2 (upd H2 a (.ins C dx (_root_.L2.DE f y us))) O2:=⟨.write hH id,Ac _⟩;obtain⟨g1,g2⟩:=Rb ((is1.mono st2).mono st3) hk1 (hi.mono st3);exact k σ _ O2 ((st1.trans st2).trans st3) (r.to ((st1.trans st2).trans st3) (rs2.write hk ⟨C,dx,_,hC,Ce,g1,g2⟩))
      .cases e
def MG(cs:List Str)(f:Str)(g:Int->Int->Int)(fo fv:EF):SF:=λρ L=>(fo ρ L).bind λx=>match x.1 with
 |.ref k=>(match x.2[k]? with
  |some (.ins c fs)=>if c∈cs then (match fs.lookup f with
   |some (.int i)=>(fv ρ x.2).bind λy=>(match y.1 with
    |.int j=>(match y.2[k]? with
     |some (.ins c' fs')=>if c'=c/\fs'.length<1000 then some (.next ρ (y.2.set k (.ins c (FL f (.int (g i j)) fs')))) else none
     |_=>none)
    |_=>none)
   |_=>none) else none
  |_=>none)
 |_=>none
theorem ACB{op:Operator}{g:Int->Int->Int}(ho:Af X o fo)(he:Af X e fe)(hc:∀c∈cs,Bg X.K c f)(hop:OR X op λx y H Q=>∃i j,x=.int i/\y=.int j/\Q (.int (g i j)) H):Ej X (.AugAssign (.Attribute o f pos') op e pos) (MG cs f g fo fe) :=
 PS.weaken (AC7 ho he hop) λD σ H z3_=>by
  obtain⟨O,ρ,L,out,r,e,k⟩:=z3_;unfold MG at e
  cases e1:fo ρ L with
  |none=>rw[e1] at e;cases e
  |some p =>
   rw[e1] at e;obtain⟨x,L1⟩:=p;simp only[AS] at e;refine⟨O,ρ,L,x,L1,r,e1,λv H1 O1 st rs is=>?_⟩
   cases is <;> try (cases e;done)
   rename_i kk a hk;simp only at e
   cases e2:L1[kk]? with
   |none=>rw[e2] at e;cases e
   |some ob =>
    rw[e2] at e
    cases ob with
    |lst _=>cases e
    |dk _=>cases e
    |dt _ _=>cases e
    |exn _=>cases e
    |ins c fs =>
     simp only at e;split at e
     .rename_i hcm;obtain⟨C,dx,us,hC,hH,hk1,hi⟩:=rs.ob _ _ _ hk e2
      cases e3:fs.lookup f with
      |none=>rw[e3] at e;cases e
      |some d0 =>
       rw[e3] at e
       cases d0 <;> try (cases e;done)
       rename_i i;simp only at e;obtain⟨v',hv',iv⟩:=SD hk1 hi e3;obtain⟨h1,h2⟩:=(hc c hcm).ok C hC;refine⟨a,C,dx,us,v',rfl,hH,h1,h2,hv',?_⟩
       cases e4:fe ρ L1 with
       |none=>rw[e4] at e;cases e
       |some q =>
        rw[e4] at e;obtain⟨y,L2⟩:=q;simp only[AS] at e;refine⟨O1,ρ,L1,y,L2,r.to st rs,e4,λw H2 O2 st2 rs2 is2=>?_⟩
        cases y <;> try (cases e;done)
        rename_i j;cases iv;cases is2;refine⟨i,j,rfl,rfl,?_⟩;simp only at e
        cases e5:L2[kk]? with
        |none=>rw[e5] at e;cases e
        |some ob =>
         rw[e5] at e
         cases ob with
         |lst _=>cases e
         |dk _=>cases e
         |dt _ _=>cases e
         |exn _=>cases e
         |ins c' fs' =>
          simp only at e;split at e
          .rename_i hcm';cases e;obtain⟨rfl,hl⟩:=hcm';have hk':=Dt st2.2 hk;obtain⟨C',dx',us',hC',hH',hk1',hi'⟩:=rs2.ob _ _ _ hk' e5
           have hCC:C'=C:=by unfold GZ at hC hC';rw[hC] at hC';cases hC';rfl
           subst hCC
           have hlen:us'.length<1000:=by have:=congrArg List.length hk1';simp at this;rw[this];exact hl
           refine⟨dx',us',hH',hlen,?_⟩;have st3:Aq H2 O2 (upd H2 a (.ins C' dx' (_root_.L2.DE f (.int (g i j)) us'))) O2:=⟨.write hH' id,Ac _⟩;obtain⟨g1,g2⟩:=Rb (Is.int (g i j)) hk1' (hi'.mono st3);exact k σ _ O2 ((st.trans st2).trans st3) (r.to ((st.trans st2).trans st3) (rs2.write hk' ⟨C',dx',_,hC',Ce,g1,g2⟩))
          .cases e
     .cases e
theorem AFp:OR X .Add λx y H Q=>∃i j,x=.int i/\y=.int j/\Q (.int (i+j)) H:=AFq
def Ku(i:Nat)(g:Int->Int->Int)(fe:EF):SF:=λρ L=>match ρ[i]? with
 |some (some (.int a))=>(fe ρ L).bind λy=>(match y.1 with|.int b=>some (.next (ρ.set i (some (.int (g a b)))) y.2)|_=>none)
 |_=>none
theorem Vp{i:Nat}{x:Str}{op:Operator}{g:Int->Int->Int}(hN:X.N.Nodup)(he:Af X e fe)(ho:OO X op (SQ g))(hi:X.N[i]?=some x:=by rfl)(hx:Ie X.env.scope x:=by first|exact Or.inl rfl|exact Or.inr rfl)
  (hf:X.fn x=true\/X.env.scope.names.lookup x=some .local:=by first|exact .inl rfl|exact .inr rfl):Ej X (.AugAssign (.Name x pos') op e pos) (Ku i g fe) :=
 PS.weaken (ADB hN hi hx he ho hf) λD σ H z3_=>by
  obtain⟨O,ρ,L,out,r,e,k⟩:=z3_;unfold Ku at e;split at e
  .rename_i a ha;obtain⟨v,hv,iv⟩:=r.f.at' i _ ha;cases iv;refine⟨_,hv,?_⟩
   cases e1:fe ρ L with
   |none=>rw[e1] at e;cases e
   |some p =>
    rw[e1] at e;obtain⟨y,L1⟩:=p;simp only[AS] at e;refine⟨O,ρ,L,y,L1,r,e1,λv H1 O1 st rs is=>?_⟩
    cases y <;> try (cases e;done)
    cases e;cases is;exact⟨_,_,rfl,rfl,k _ _ _ st ⟨rs,(r.f.mono st).set (.int _) i⟩⟩
  .cases e
end
structure Te (P:Program) (w:World) (K:AO) (mg:ALK) (base:Heap) (k:Nat) (c m:Str) (G:GL):Prop where
 ex:∃C f fd ps,Dx P w K mg base CX0 k f fd ps (Ja K G)/\GZ K c C/\Cls K C/\AHl K C m f/\Fg K fd ps []
structure GY (P:Program) (w:World) (K:AO) (mg:ALK) (base:Heap) (k:Nat) (c:Str) (G:GL):Prop where
 ex:∃C f fd ps j,Dx P w K mg base CX0 j f fd ps (Ja K G)/\j+1<=k/\mg c=some (.ref C)/\GZ K c C/\Mk K C f/\Fg K fd ps []
theorem Te.mono{P:Program}{w:World}{K:AO}{mg:ALK}{base:Heap}{j k:Nat}{c m:Str}{G:GL}(F:Te P w K mg base j c m G)(h:j<=k):Te P w K mg base k c m G:=by obtain⟨C,f,fd,ps,a,b⟩:=F.ex;exact⟨C,f,fd,ps,a.mono h,b⟩
theorem GY.mono{P:Program}{w:World}{K:AO}{mg:ALK}{base:Heap}{j k:Nat}{c:Str}{G:GL}(F:GY P w K mg base j c G)(h:j<=k):GY P w K mg base k c G:=by obtain⟨C,f,fd,ps,i,a,b,c⟩:=F.ex;exact⟨C,f,fd,ps,i,a,by omega,c⟩
def IP(c:Str)(G:GL)(a:AF):EF:=λρ L=>(a ρ L).bind λy=>(G (.ref y.2.length::y.1) (y.2++[.ins c []])).bind λz=>match z.1 with
 |.non=>some (.ref y.2.length,z.2)
 |_=>none
section
variable {X:Cx}{k:Nat}{c m x:Str}{G:GL}{p pos apos:Pos}{o e:Expr}{es:List Expr}{fo:EF}{f:AF}
theorem AE3{C:Addr}(hC:GZ X.K c C){t:TA}(ht:∀σ H Q,SG X.K f σ H Q->t σ H Q){σ:L2.St}{H:Hp}{Q:VK}(h:HQ X.K (IP c G f) σ H Q):VJ C (Ja X.K G) [] E0 t σ H Q:=by
 obtain⟨O,ρ,L,d,L',r,e,k⟩:=h;unfold IP at e
 cases e1:f ρ L with
 |none=>rw[e1] at e;cases e
 |some p =>
  rw[e1] at e;obtain⟨ys,L1⟩:=p;simp only[AS] at e
  cases e2:G (.ref L1.length::ys) (L1++[.ins c []]) with
  |none=>rw[e2] at e;cases e
  |some z =>
   rw[e2] at e;obtain⟨zd,L2⟩:=z
   cases zd <;> simp only[AS] at e <;> try (cases e;done)
   cases e;refine ht _ _ _ ⟨O,ρ,L,ys,L1,r,e1,λvs H1 O1 st rs is x dx hx hdx hne=>?_⟩;show rC X.K G (V.ref x::(vs++[])) _ _;rw[AKK];have s1:Aq H1 O1 (upd H1 dx (.own x)) O1:=⟨.new hdx,Ac _⟩;have rs1:BD X.K (upd H1 dx (.own x)) O1 L1:=rs.ext λa u e=>by rw[Bn (Du e hdx)];exact e
   have hx1:upd H1 dx (.own x) x=none:=by rw[Bn (Ne.symm hne)];exact hx
   have s2:Aq (upd H1 dx (.own x)) O1 (upd (upd H1 dx (.own x)) x (.ins C dx [])) (O1++[x]):=⟨.new hx1,BB _ _⟩;have rs2:BD X.K (upd (upd H1 dx (.own x)) x (.ins C dx [])) (O1++[x]) (L1++[.ins c []]):=rs1.new hx1 ⟨C,dx,[],hC,Ce,rfl,.nil⟩;have hk:(O1++[x])[L1.length]?=some x:=by rw[<-rs.len];simp
   refine⟨O1++[x],L1++[.ins c []],_,.non,_,rs2,.cons (.ref hk) (is.mono (s1.trans s2)),e2,λw H' O' st' rs' is'=>?_⟩;cases is';exact⟨rfl,k _ H' O' ((st.trans (s1.trans s2)).trans st') rs' (.ref (Dt st'.2 hk))⟩
theorem Nw(F:GY X.prog X.w X.K X.mg X.base k c G)(hr:CO k X.A)(ha:FR X (e::es) f)(hg:Gl X c:=by rfl)(hdb:(c == ("__debug__":Str))=false:=by decide)
  (he:FN e=true:=by rfl) (hpl:es.all FN=true:=by rfl):Af X (.Call (.Name c p) (e::es) [] pos) (IP c G f):=by
 obtain⟨C,fa,fd,ps,j,a,hj,hm,hC,hM,bi⟩:=F.ex;exact PE.weaken (ADl (E:=E0) hM a (hr.mono hj) hg hm bi .nil Rm ha hdb (IJ he) (Jd hpl)) λσ H Q h=>AE3 hC (λ_ _ _ h=>h) h
end
theorem Bd{K:AO}{f:Str}:∀c∈([]:List Str),Bg K c f:=λ_ h=>by cases h
theorem Be{K:AO}{f c:Str}{cs:List Str}(a:Bg K c f)(b:∀c∈cs,Bg K c f):∀x∈c::cs,Bg K x f:=λx h=>by
 rcases Ae.mp h with rfl|h
 .exact a
 .exact b x h
theorem JG{K:AO}{c f:Str}{C:Addr}(hC:GZ K c C)(cl:Cls K C)(n:Dy K (.ref C) f=some none):Bg K c f:=⟨λC' h=>by
 have:C'=C:=by unfold GZ at hC h;rw[hC] at h;cases h;rfl
 subst this
 exact⟨cl,n⟩⟩
section
variable {P:Program}{w:World}{K:AO}{mg:ALK}{base:Heap}
theorem YH{x qual c:Str}{C:Addr}{st:Stmt}{f:Addr}{fd:FuncData}{N ps:List Str}{k:Nat}{B:SF}(Fn:Ig K x qual st f fd)(S:BN N ps (Ab st))
  (hb:∀(cdv:Value) (A:Around) (outer:List Env) (s:Shared) (H:Hp) (E:XK),CO k (A.deeper (envOfC qual (Ab st) s.heap.objs.size f cdv)) ->
   GW (IA CX0 P w K mg base N qual (Ab st) f cdv A outer s H E).nox (Gr st) B)
  (bi:Fg K fd ps []) (mc:mg c=some (.ref C)) (hC:GZ K c C) (M:Mk K C f):GY P w K mg base (k+2) c (Au B N ps.length) :=
 ⟨C,f,fd,ps,k+1,Sk Fn S _ B (λ_ _ _ h=>RV h) hb (λ_ _ _ _ h=>RU h),Al _,mc,hC,M,bi⟩
end
def Xi(p:Program)(i j:Nat):Stmt:=match Bb p i with
 |.ClassDef _ _ _ body _ _ _ _ _ _ _=>body.getD j (.Pass ⟨0,0,0,0⟩)
 |s=>s
def Gd(t:TF)(b:SF):Nat->SF
 |0=>λ_ _=>none
 |n+1=>λρ L=>(t ρ L).bind λx=>if x.1=true then (b ρ x.2).bind λout=>(match out with
   |.next ρ2 L2=>Gd t b n ρ2 L2
   |.cont ρ2 L2=>Gd t b n ρ2 L2
   |.brk ρ2 L2=>some (.next ρ2 L2)
   |.ret d L2=>some (.ret d L2)) else some (.next ρ x.2)
def RE(t:TF)(b:SF):SF:=Gd t b 1000000
theorem AB9{X:Cx}{c:Expr}{body:List Stmt}{t:TF}{b:SF}{pos:Pos}(hp:PassesOwn (model X.prog X.w) X.A X.env X.xe)(hc:Fc X c t)(hb:GW X body b):Ej X (.While c body [] pos) (RE t b) :=
 PS.weaken (AC1 hp hc hb) λD σ H z3_=>by
  obtain⟨O,ρ,L,out,r,e,k⟩:=z3_;refine⟨λn σ H=>∃O ρ L,Dn X.K H O σ ρ L/\Gd t b n ρ L=some out/\JM X.K H O D out,⟨1000000,O,ρ,L,r,e,k⟩,?_⟩;rintro n σ1 H1 ⟨O1,ρ1,L1,r1,e1,k1⟩
  cases n with
  |zero=>cases e1
  |succ n =>
   simp only[Gd] at e1
   cases e2:t ρ1 L1 with
   |none=>rw[e2] at e1;cases e1
   |some p =>
    rw[e2] at e1;obtain⟨bb,L2⟩:=p;simp only[AS] at e1;refine⟨O1,ρ1,L1,bb,L2,r1,e2,λH2 O2 st2 rs2=>?_⟩
    cases bb with
    |false =>
     simp only[AKF,if_false] at e1 ⊢;cases e1;exact k1 _ _ _ st2 (r1.to st2 rs2)
    |true =>
     simp only[if_true] at e1 ⊢;refine⟨λσ' H'=>∃O ρ L,Dn X.K H' O σ' ρ L/\Gd t b n ρ L=some out/\JM X.K H' O D out,λσ' H' h=>⟨n,Nat.lt_succ_self _,h⟩,?_⟩
     cases e3:b ρ1 L2 with
     |none=>rw[e3] at e1;cases e1
     |some o1 =>
      rw[e3] at e1;simp only[AS] at e1;refine⟨O2,ρ1,L2,o1,r1.to st2 rs2,e3,?_⟩
      cases o1 with
      |next ρ2 L3=>exact λσ' H' O' st' r'=>⟨O',ρ2,L3,r',e1,(k1.mono st2).mono st'⟩
      |cont ρ2 L3=>exact λσ' H' O' st' r'=>⟨O',ρ2,L3,r',e1,(k1.mono st2).mono st'⟩
      |brk ρ2 L3=>cases e1;exact λσ' H' O' st' r'=>k1 _ _ _ (st2.trans st') r'
      |ret d L3=>cases e1;exact λv H' O' st' r' i'=>k1 _ _ _ (st2.trans st') r' i'
theorem Xe:∀{ns:List Int} {its:List Value},Ak (ns.map V.int) its->∃xs:List (Int×Tok),its=xs.map (λp=>Value.int p.1 p.2)/\xs.map (·.1)=ns
 |[],_,h=>by cases h;exact⟨[],rfl,rfl⟩
 |n::ns,_,h=>by
  cases h with
  |cons a b =>
   obtain⟨t,rfl⟩:=(show ∃t,_=Value.int n t from a);obtain⟨xs,rfl,e⟩:=Xe b;exact⟨(n,t)::xs,rfl,by simp[e]⟩
def Ee:List D->Option (List Int)
 |[]=>some []
 |.int b::r=>(Ee r).map (b::·)
 |_=>none
theorem Xg{K:AO}{H:Hp}{O:List Addr}:∀{vs:List V} {ds:List D} {bs:List Int},AV K H O vs ds->Ee ds=some bs->vs=bs.map V.int
 |_,_,_,.nil,e=>by cases e;rfl
 |_,d::ds,bs,.cons a b,e=>by
  cases a <;> simp only[Ee] at e <;> try (cases e;done)
  cases q:Ee ds with
  |none=>rw[q] at e;cases e
  |some r =>
   rw[q] at e;cases e;rw[Xg b q];rfl
section
variable {X:Cx}
theorem AG6(hc:X.calm=true):Cz X (.builtin "sum") (λxs H Q=>∃(p:Addr) (ns:List Int),xs=[.ref p]/\Bj X.K H p (ns.map V.int)/\Q (.int ns.sum) H):=by
 intro pins s σ H xs us Q I r h;obtain⟨p,ns,rfl,hq,q⟩:=h;obtain⟨u,rfl,rx⟩:=En r;cases rx;obtain⟨its,rv,pl,hz⟩:=I.list hq;obtain⟨ps,rfl,rfl⟩:=Xe rv
 have hl:s.heap.IsList p (intItems ps.toArray):=by
  have:=pl.isList;have e:(ps.map (λp=>Value.int p.1 p.2)).toArray=intItems ps.toArray:=by simp[intItems]
  rw[<-e];exact this
 refine PySem.sum_intListG (I.ok.hd hc) hl λh' tk t' hk=>⟨.int (ps.map (·.1)).sum,H,I.kept hk,⟨t',?_⟩,q⟩;rw[preSum_eq,AKN (by simp)]
def Ld(xs:List D)(L:AD):Option (List D):=match xs with
 |[.ref k]=>(match L[k]? with|some (.lst ds)=>some ds|_=>none)
 |_=>none
def Lk:GL:=λxs L=>(Ld xs L).bind λds=>(Ee ds).bind λns=>some (.int ns.sum,L)
theorem AFF{K:AO}{H:Hp}{O:List Addr}{L:AD}{vs:List V}{xs ds:List D}(rs:BD K H O L)(is:AV K H O vs xs)(e:Ld xs L=some ds):∃(p:Addr) (us:List V),vs=[.ref p]/\Bj K H p us/\AV K H O us ds:=by
 unfold Ld at e;split at e
 .split at e
  .rename_i ds' hd;cases e
   cases is with|cons i1 i2 =>
    cases i2
    cases i1 with|ref hk =>
     obtain⟨us,hv,il⟩:=rs.ob _ _ _ hk hd;exact⟨_,us,rfl,Bj.of hv,il⟩
  .cases e
 .cases e
theorem ZD{α β:Type}{o:Option α}{f:α->Option β}{b:β}(h:o.bind f=some b):∃a,o=some a/\f a=some b:=AKG.mp h
theorem Yr(hc:X.calm=true):Ff X (.builtin "sum") Lk:=Cz.weaken (AG6 hc) λvs H Q z3_=>by
 obtain⟨O,L,xs,d,L',rs,is,e,k⟩:=z3_;obtain⟨ds,e1,e⟩:=ZD e;obtain⟨ns,e2,e⟩:=ZD e;cases e;obtain⟨p,us,rfl,hq,il⟩:=AFF rs is e1;rw[Xg il e2] at hq;exact⟨p,ns,rfl,hq,k _ _ _ (.refl _ _) rs (.int _)⟩
end
theorem Yx:bootBuiltins "sum"=some (.builtin "sum"):=by decide +kernel
section
variable {L:AD}{Q:ALM}{k:Nat}{ds:List D}
theorem AFE(e:L[k]?=some (.lst ds)):Ld [.ref k] L=some ds:=by simp[Ld,e]
end
end L3
set_option maxHeartbeats 4000000
namespace L3
open PySem PySem.Spec PyProof.Rows L2 Builtin Builtin.Str
inductive EntsK (K:AO):List DictEntry->List (Str×D)->Prop
 |nil:EntsK K [] []
 |cons {h:Int} {x:Str} {t:Tok} {u:Value} {d:D} {es:List DictEntry} {ds:List (Str×D)}:TupK K u d->EntsK K es ds->EntsK K (⟨h,.str x t,u⟩::es) ((x,d)::ds)
theorem EntsK.at{K:AO}(z:Str):∀{es:List DictEntry} {ds:List (Str×D)},EntsK K es ds->TupK K ((findBy Value.isStrOf es.toArray z).getD .none) ((ds.lookup z).getD .non)
 |_,_,.nil=>ABJ
 |_,_,.cons (x:=x) (t:=t) (u:=u) (d:=d) (es:=es) (ds:=ds) a b=>by
  have ih:=EntsK.at z b;unfold findBy at ih ⊢;rw[List.find?_toArray] at ih ⊢;rw[GH]
  by_cases h:z=x
  .subst h;have e1:Value.isStrOf z (.str z t)=true:=by simp[Value.isStrOf]
   simp only[e1,Gc,beq_self_eq_true];exact a
  .have e1:Value.isStrOf z (.str x t)=false:=by
    have:¬x=z:=λq=>h q.symm;simp[Value.isStrOf,this]
   have e2:(z == x)=false:=beq_eq_false_iff_ne.mpr h;simp only[e1,Gc,e2];exact ih
def Cov(B:Heap)(l:List Env)(h0:Heap)(H:Hp):Prop:=(∀b o,h0.get? b=some o->b∉Fo l->∃u,B.get? b=some u)/\∀b u,H b=some u->∃o,B.get? b=some o
def CXX(P:Program)(w:World):Gy:=λouter H s E e s'=>∃(ea:Addr) (cv a0:Value) (H':Hp) (B:Heap),e=.ref ea/\s'.os=s.os/\AllBare s'.gens/\Un (Fo outer) [] H H' s.heap s'.heap/\DY P w H' s'.heap /\
 Heap.FlyingW B outer ea cv a0 s'.heap/\Cov B outer s.heap H'/\E cv none H'
abbrev Tc:=List D->AD->Option (Str×AD)
def spX(K:AO)(G:GL)(GX:Tc):Sp:=λvs H Q E=>rC K G vs H Q\/∃O L xs c L' C,BD K H O L/\AV K H O vs xs/\GX xs L=some (c,L')/\GZ K c C/\∀H' O',Aq H O H' O'->BD K H' O' L'->E (.ref C) none H'
structure Td (P:Program) (w:World) (K:AO) (mg:ALK) (base:Heap) (k:Nat) (x:Str) (G:GL) (GX:Tc):Prop where
 ex:∃f fd ps,Dx P w K mg base (CXX P w) k f fd ps (spX K G GX)/\mg x=some (.ref f)/\HB K (.ref f)=true/\Fg K fd ps []
theorem Td.mono{P:Program}{w:World}{K:AO}{mg:ALK}{base:Heap}{j k:Nat}{x:Str}{G:GL}{GX:Tc}(F:Td P w K mg base j x G GX)(h:j<=k):Td P w K mg base k x G GX:=by obtain⟨f,fd,ps,a,b⟩:=F.ex;exact⟨f,fd,ps,a.mono h,b⟩
abbrev ZB:List Value:=[.type "ValueError",.type "Exception",.type "BaseException",.type "object"]
structure AHs (K:AO) (c:Str) (C:Addr):Prop where
 ns:Cp K mainGlobals c=some (some (.ref C))
 ok:PySem.W.excIn K C ZB "ValueError.__new__"=true
def Zk(x C:Addr)(h:Heap):Prop:=∃o,h.get? x=some o/\o.cls=.ref C
theorem Zk.ty{x C:Addr}{h:Heap}(p:Zk x C h)(M:Model):PySem.W.Looks M h (typeOf (.ref x)) (.ref C):=by obtain⟨o,h1,h2⟩:=p;rw[<-h2];exact(PySem.W.Looks.ld h1).andThen .now
def only(c0:Str):Str->Bool:=λc=>c == c0
open Sem (wp) in
def DI{prog:Program}{w:World}{κ:Type}[DecidableEq κ](knd:HeapKind prog w κ)(h:Heap)(d:Addr)(xs:List (κ×Addr×Value))(ep:Nat):Prop :=
 ∃o es,h.get? d=some o/\o.ExactDict/\o.data=.dict es ep/\es.toList=xs.map (entryOfKey knd)/\(∀x∈xs,knd.is h x.1 x.2.1)/\(xs.map (·.1)).Nodup
def Fq{κ:Type}[DecidableEq κ](xs:List (κ×Addr×Value))(k:κ)(ep:Nat):Nat:=if (atKey xs k).isSome=true then ep else ep+1
section
variable {prog:Program}{w:World}{κ:Type}[DecidableEq κ]{knd:HeapKind prog w κ}{A:Around}{E:ALL}{s:Shared}{d a:Addr}{k:κ}{xs:List (κ×Addr×Value)}{ep:Nat}
theorem DI.of{h:Heap}(x:DI knd h d xs ep):h.DictOfH knd d xs:=let ⟨o,es,h1,h2,h3,r⟩:=x;⟨o,es,ep,h1,h2,h3,r⟩
theorem AHR(hn:atKey xs k=none):k∉xs.map (·.1):=λhm=>by
 obtain⟨x,hx,rfl⟩:=BC.mp hm;have h0:(xs.find? λy=>decide (y.1=x.1))=none:=by simpa[atKey] using hn
 simpa using AKp.mp h0 x hx
theorem DI.grown{h:Heap}(x:DI knd h d xs ep)(hn:atKey xs k=none)(hk:knd.is h k a)(v:Value) :
  DI knd (h.update d (Obj.mapDictKeys (·.push ⟨knd.hash k,.ref a,v⟩))) d (xs++[(k,a,v)]) (ep+1)/\Heap.SameBut d h (h.update d (Obj.mapDictKeys (·.push ⟨knd.hash k,.ref a,v⟩))):=by
 have sb:Heap.SameBut d h (h.update d (Obj.mapDictKeys (·.push ⟨knd.hash k,.ref a,v⟩))):=.update ..;obtain⟨o,es,g,ex,dat,el,all,nd⟩:=x;have stay:∀y∈xs++[(k,a,v)],knd.is h y.1 y.2.1:=λy hy=>(DB.mp hy).elim (all y) λz=>by rw[AJi.mp z];exact hk
 refine⟨⟨_,_,Heap.get?_update_self _ g (Obj.isFreed_of_dict (Obj.data_mapDictKeys dat _)),ex.mapDictKeys _,Obj.data_mapDictKeys dat _,by simp[el,entryOfKey],λy hy=>knd.keeps (stay y hy) g dat sb,?_⟩,sb⟩;rw[Dz];exact Hl.mpr ⟨nd,by simp,λy hy z hz e=>AHR hn (by rw[show z=k by simpa using hz] at e;rwa [<-e])⟩
theorem DI.turned{h:Heap}(x:DI knd h d xs ep){j:Nat}{q:Addr×Value}(hj:xs[j]?=some (k,q))(v:Value) :
  DI knd (h.update d (Obj.mapDict (·.modify j λe=>{e with val:=v}))) d (xs.map (putAt k v)) ep/\Heap.SameBut d h (h.update d (Obj.mapDict (·.modify j λe=>{e with val:=v}))):=by
 have sb:Heap.SameBut d h (h.update d (Obj.mapDict (·.modify j λe=>{e with val:=v}))):=.update ..;obtain⟨o,es,g,ex,dat,el,all,nd⟩:=x
 have rows:(es.modify j λe=>{e with val:=v}).toList=(xs.map (putAt k v)).map (entryOfKey knd):=by rw[<-modify_map_putAt (entryOfKey knd) (λe:DictEntry=>{e with val:=v}) k v (λ_ _=>rfl) nd hj,<-el];simp
 refine⟨⟨_,_,Heap.get?_update_self _ g (Obj.isFreed_of_dict (Obj.data_mapDict dat _)),ex.mapDict _,Obj.data_mapDict dat _,rows,λy hy=>?_,by rw[keys_map_putAt];exact nd⟩,sb⟩;rw[BC] at hy;obtain⟨z,hz,rfl⟩:=hy;have e1:(putAt k v z).1=z.1/\(putAt k v z).2.1=z.2.1:=by unfold putAt;split <;> exact⟨rfl,rfl⟩
 rw[e1.1,e1.2];exact knd.keeps (all z hz) g dat sb
theorem DI.find{G:Option Nat->Shared->Prop}(hu:knd.room A)(hk:knd.is s.heap k a)(x:DI knd s.heap d xs ep)(no:atKey xs k=none->G none s)(yes:∀j q,xs[j]?=some (k,q)->atKey xs k=some q->G (some j) s) :
  wpAny (model prog w) A (dictFind d (.ref a) (knd.hash k)) G E s:=by
 obtain⟨o,es,g,ex,dat,el,all,nd⟩:=x;exact wpAny_dictFind_heap hu hk g dat el all nd (λf=>no (atKey_none_of_get f)) λj q hj=>yes j q hj (atKey_of_get nd hj)
theorem DI.room(x:DI knd s.heap d xs ep):∃o es,s.heap.get? d=some o/\o.data=.dict es ep/\es.size=xs.length:=by obtain⟨o,es,g,ex,dat,el,_⟩:=x;exact⟨o,es,g,dat,size_of_entries el⟩
theorem AGp{v:Value}{Q:Unit->Shared->Prop}(hu:knd.room A)(hk:knd.is s.heap k a)(x:DI knd s.heap d xs ep)(hz:xs.length<=sizeLine)
  (q:∀h',DI knd h' d (storedH xs k a v) (Fq xs k ep)->Heap.SameBut d s.heap h'->Q () {s with heap:=h',toks:=s.toks+knd.draws k}):wpAny (model prog w) A (dictSet d (.ref a) v) Q E s:=by
 obtain⟨o,es,g,dat,sz⟩:=x.room;unfold dictSet dictSetHashed
 (try with_reducible refine EV ?_)
 refine AH (knd.pyHash hu hk ?_)
 (try with_reducible refine EV ?_)
 refine AH (DI.find (s:={s with toks:=s.toks+knd.draws k}) hu hk x (λn=>?_) λj p hj e=>?_)
 .obtain⟨y,sb⟩:=x.grown n hk v;have e1:Fq xs k ep=ep+1:=by simp[Fq,n]
  rw[e1,storedH_new n] at q;exact AH (AK7 (wpAny_updateDictKeys (s:={s with toks:=s.toks+knd.draws k}) (hz:=by omega) g dat (q _ y sb)))
 .obtain⟨y,sb⟩:=x.turned hj v;have e1:Fq xs k ep=ep:=by simp[Fq,e]
  rw[e1,storedH_old e] at q;exact AH (AK7 (AH (wpAny_updateDict (s:={s with toks:=s.toks+knd.draws k}) g dat (wpAny_point (q _ y sb)))))
theorem ACF{v:Value}{Q:Unit->Shared->Prop}(hu:knd.room A.in1)(hk:knd.is s.heap k a)(x:DI knd s.heap d xs ep)(hz:xs.length<=sizeLine)
  (q:∀h',DI knd h' d (storedH xs k a v) (Fq xs k ep)->Heap.SameBut d s.heap h'->Q () {s with heap:=h',toks:=s.toks+knd.draws k}):wpAny (model prog w) A (setItem (.ref d) (.ref a) v) Q E s:=by
 have ty:=x.of.typeIs
 have inner:∀{R:ALL} {F:ALL},(∀h',DI knd h' d (storedH xs k a v) (Fq xs k ep)->Heap.SameBut d s.heap h'->R .none {s with heap:=h',toks:=s.toks+knd.draws k}) ->
   wpAny (model prog w) A.in1 (Builtin.«dict.__setitem__» ⟨[.ref d,.ref a,v],[]⟩) (λfi s2=>∃v,fi=PySem.Fin.done (Flow.ret v)/\R v s2) F s:=λ{R F} r=>by
  show wpAny _ _ (Builtin.Dict.notOrdered "__setitem__" ⟨[.ref d,.ref a,v],[]⟩ >>= λ_=>dictSet d (.ref a) v >>= _) _ F s;exact AH (ALF ty (AH (AGp hu hk x hz λh' y sb=>AU ⟨.none,rfl,r h' y sb⟩)))
 unfold setItem
 (try with_reducible refine EV ?_)
 exact AH (wpAny_sequenceKey ty (by decide) (AH (ALC (name:=Str.ofString "__setitem__") ty slot_dict_setitem (Gz slot_dict_setitem ty entry_dict_setitem (inner λh' y sb=>AU (q h' y sb)) (args_dict_setitem _ _ _)))))
end
section
variable {X:Cx}{pins:List (Addr×Obj)}{σ:L2.St}{H:Hp}{s:Shared}{O:List Addr}{L:AD}
theorem key_leaf{k:Key}{v:V}{u:Value}(i:Is X.K H O v (keyD k))(r:Ai v u):Ek k u:=by
 cases k with
 |inl n=>cases i;obtain⟨t,rfl⟩:=r;exact AFc _ _
 |inr x=>cases i;obtain⟨t,rfl⟩:=r;exact AFb _ _
theorem keys_leaf:∀{ks:List Key} {vs:List V} {us:List Value},AV X.K H O vs (ks.map keyD)->Ak vs us->Paired Ek ks us
 |[],_,_,i,r=>by cases i;cases r;exact .nil
 |k::ks,_,_,i,r=>by
  cases i with|cons i1 i2=>cases r with|cons r1 r2=>exact .cons (key_leaf i1 r1) (keys_leaf i2 r2)
theorem SM(I:AK X pins σ H s):∀{ks:NK} {vs:List V} {us:List Value},AV X.K H O vs (ks.map Jm)->Ak vs us->Paired (Hh s.heap) ks us
 |[],_,_,i,r=>by cases i;cases r;exact .nil
 |.inl k::ks,_,_,i,r=>by
  cases i with|cons i1 i2=>cases r with|cons r1 r2=>exact .cons (key_leaf i1 r1) (SM I i2 r2)
 |.inr k::ks,v::_,_,i,r=>by
  cases i with|cons i1 i2=>cases r with|cons r1 r2 =>
   have i1':Is X.K H O v (.tup (k.map keyD)):=i1
   cases i1' with|tup h il =>
    obtain⟨its,rv,t,_⟩:=I.tuple h;exact .cons ⟨_,its,r1,t,keys_leaf il rv⟩ (SM I i2 r2)
theorem Ji(I:AK X pins σ H s){k:NK}{b:Addr}(i:Is X.K H O (.ref b) (Eb k)):(Hv X.prog X.w).is s.heap k b:=by
 have i':Is X.K H O (.ref b) (.tup (k.map Jm)):=i
 cases i' with|tup h il =>
  obtain⟨its,rv,t,_⟩:=I.tuple h;exact⟨its,t,SM I il rv⟩
end
def Lz:D->Option Key
 |.int i=>some (.inl i)
 |.str x=>some (.inr x)
 |_=>none
def Js:List D->Option (List Key)
 |[]=>some []
 |d::r=>(Lz d).bind λk=>(Js r).map (k::·)
def Kr:D->Option (Key ⊕ List Key)
 |.int i=>some (.inl (.inl i))
 |.str x=>some (.inl (.inr x))
 |.tup ds=>(Js ds).map .inr
 |_=>none
def Gu:List D->Option NK
 |[]=>some []
 |d::r=>(Kr d).bind λk=>(Gu r).map (k::·)
def dNK:D->Option NK
 |.tup ds=>Gu ds
 |_=>none
theorem AGs{d:D}{k:Key}(e:Lz d=some k):d=keyD k:=by unfold Lz at e;split at e <;> cases e <;> rfl
theorem Yg:∀{ds:List D} {ks:List Key},Js ds=some ks->ds=ks.map keyD
 |[],ks,e=>by cases e;rfl
 |d::r,ks,e=>by
  unfold Js at e;obtain⟨k,e1,e2⟩:=AKG.mp e;obtain⟨l,e3,rfl⟩:=AJt.mp e2;rw[AGs e1,Yg e3];rfl
theorem AGt{d:D}{k:Key ⊕ List Key}(e:Kr d=some k):d=Jm k:=by
 unfold Kr at e;split at e
 .cases e;rfl
 .cases e;rfl
 .obtain⟨l,e3,rfl⟩:=AJt.mp e;rw[Yg e3];rfl
 .cases e
theorem Yh:∀{ds:List D} {ks:NK},Gu ds=some ks->ds=ks.map Jm
 |[],ks,e=>by cases e;rfl
 |d::r,ks,e=>by
  unfold Gu at e;obtain⟨k,e1,e2⟩:=AKG.mp e;obtain⟨l,e3,rfl⟩:=AJt.mp e2;rw[AGt e1,Yh e3];rfl
theorem Kq{d:D}{k:NK}(e:dNK d=some k):d=Eb k:=by
 unfold dNK at e;split at e
 .rw[Yh e];rfl
 .cases e
theorem Ka{K:AO}{H:Hp}{O:List Addr}{v:V}{d:D}{k:NK}(i:Is K H O v d)(e:dNK d=some k):∃b,v=.ref b/\Is K H O (.ref b) (Eb k):=by rw[Kq e] at i;have i':Is K H O v (.tup (k.map Jm)):=i;cases i' with|tup h il=>exact⟨_,rfl,.tup h il⟩
def CG(kvs:List (NK×D))(k:NK):Option D:=(kvs.find? λkv=>decide (kv.1=k)).map (·.2)
def Dq(kvs:List (NK×D))(k:NK)(d:D):List (NK×D) :=
 if (kvs.any λkv=>decide (kv.1=k))=true then kvs.map (λkv=>if kv.1=k then (kv.1,d) else kv) else kvs++[(k,d)]
section
variable {X:Cx}{pins:List (Addr×Obj)}{σ:L2.St}{H:Hp}{s:Shared}{O:List Addr}{L:AD}{a:Addr}
inductive DX (K:AO) (H:Hp) (O:List Addr):List (NK×D)->List (NK×Addr×V)->List (NK×Addr×Value)->Prop
 |nil:DX K H O [] [] []
 |cons {k:NK} {d:D} {b:Addr} {v:V} {u:Value} {kvs us xs}:Is K H O v d->Ai v u->DX K H O kvs us xs->DX K H O ((k,d)::kvs) ((k,b,v)::us) ((k,b,u)::xs)
theorem row3_of{K:AO}:∀{kvs:List (NK×D)} {us:List (NK×Addr×V)} {xs:List (NK×Addr×Value)},us.map (·.1)=kvs.map (·.1)->AV K H O (us.map (·.2.2)) (kvs.map (·.2)) ->
  Paired (λ(p:NK×Addr×V) (q:NK×Addr×Value)=>p.1=q.1/\p.2.1=q.2.1/\Ai p.2.2 q.2.2) us xs->DX K H O kvs us xs
 |[],[],_,_,_,r=>by cases r;exact .nil
 |(k,d)::kvs,(k',b,v)::us,_,e,i,r=>by
  simp only[Am,List.cons.injEq] at e;obtain⟨e1,e2⟩:=e
  cases r with
  |@cons _ q _ qs r1 r2 =>
   obtain⟨q1,q2,q3⟩:=q;obtain⟨h1,h2,h3⟩:=r1;simp only at e1 h1 h2 h3;subst e1 h1 h2
   cases i with
   |cons i1 i2=>exact .cons i1 h3 (row3_of e2 i2 r2)
 |[],_::_,_,e,_,_=>by simp at e
 |_::_,[],_,e,_,_=>by simp at e
theorem DX.look{K:AO}{kvs:List (NK×D)}{us:List (NK×Addr×V)}{xs:List (NK×Addr×Value)}(r:DX K H O kvs us xs)(k:NK) :
  (CG kvs k=none/\atKey xs k=none)\/∃d b v u,CG kvs k=some d/\atKey xs k=some (b,u)/\Is K H O v d/\Ai v u/\(k,b,v)∈us:=by
 induction r with
 |nil=>exact .inl ⟨rfl,rfl⟩
 |@cons k' d b v u kvs us xs i rv t ih =>
  by_cases e:k'=k
  .subst e;exact .inr ⟨d,b,v,u,by simp[CG],by simp[atKey],i,rv,BW⟩
  .have e1:CG ((k',d)::kvs) k=CG kvs k:=by simp[CG,GH,e]
   have e2:atKey ((k',b,u)::xs) k=atKey xs k:=by simp[atKey,GH,e]
   rw[e1,e2];rcases ih with h|⟨d,b,v,u,h1,h2,h3,h4,h5⟩
   .exact .inl h
   .exact .inr ⟨d,b,v,u,h1,h2,h3,h4,BQ _ h5⟩
theorem Ko(I:AK X pins σ H s){kvs:List (NK×D)}{ep:Nat}(h:Hg X.K H O a (.dt kvs ep)):∃us xs,H a=some (.dN us ep)/\(a == sysModules)=false/\us.length<=sizeLine/\DX X.K H O kvs us xs/\(∀u∈us,Is X.K H O (.ref u.2.1) (Eb u.1))/\DI (Hv X.prog X.w) s.heap a xs ep:=by
 obtain⟨us,e,e1,il,ik⟩:=h;obtain⟨z,y,xs,r,o,es,h1,h2,h3,h4,h5⟩:=(show Cc X.prog X.w H s.heap a (.dN us ep) from I.hok a _ e);refine⟨us,xs,e,y,z,row3_of e1 il r,ik,o,es,h1,h2,h3,h4,λx hx=>?_,h5⟩
 have all:∀{l:List (NK×Addr×V)} {m:List (NK×Addr×Value)},Paired (λ(p:NK×Addr×V) (q:NK×Addr×Value)=>p.1=q.1/\p.2.1=q.2.1/\Ai p.2.2 q.2.2) l m->(∀u∈l,Is X.K H O (.ref u.2.1) (Eb u.1))->∀x∈m,(Hv X.prog X.w).is s.heap x.1 x.2.1:=by
  intro l m q
  induction q with
  |nil=>intro _ x hx;exact nomatch hx
  |@cons p q ps qs hq t ih =>
   intro hl x hx;rcases Ae.mp hx with e|hx
   .subst e;rw[<-hq.1,<-hq.2.1];exact Ji I (hl p BW)
   .exact ih (λu hu=>hl u (BQ _ hu)) x hx
 exact all r ik x hx
end
section
variable {X:Cx}
theorem ABN{prog:Program}{w:World}{A:Around}{E:ALL}{s:Shared}{value slice:Expr}{T id:String}{o i:Value}{Q:ALL}
  (hl:typeLookup (.type T) "__getitem__"=pure (some (.builtin id))) (hs:subscripted slice false o i=operate [o,i] (getItem o i)) (ty:s.TypeIs o T) (got:wpAny (model prog w) A (getItem o i) Q E s) :
  wpAny (model prog w) A (subscriptTail value slice o i) Q E s:=by
 have all:∀{k:Sem Value},k=(subscripted slice false o i >>= λr=>letTemporaryGo value o r >>= λ_=>pure r)->wpAny (model prog w) A k Q E s:=λ{k} ek=>by
  rw[ek,hs];exact AH (wpAny_operating (GB got (λr _ z=>AH (wpAny_letTemporaryGo (AU z))) λ_ _ z=>z))
 unfold subscriptTail;rw[getitemInPython_of_ne ty.not_modules];refine AH (AH (wpAny_specialOf ty hl ?_))
 first|exact AU (all rfl)|exact AH (AU (all rfl))|exact all rfl
def Gp:G2:=λx y L=>match x with
 |.ref i=>(match L[i]? with|some (.dt kvs _)=>(dNK y).bind λk=>(CG kvs k).map λd=>(d,L)|_=>none)
 |_=>none
theorem AGI{x y d:D}{L L':AD}(e:Gp x y L=some (d,L')):∃i kvs ep k,x=.ref i/\L[i]?=some (.dt kvs ep)/\dNK y=some k/\CG kvs k=some d/\L'=L:=by
 unfold Gp at e;split at e
 .rename_i i;split at e
  .rename_i kvs ep e1;obtain⟨k,e2,e3⟩:=AKG.mp e;obtain⟨d',e4,e5⟩:=AJt.mp e3;cases e5;exact⟨i,kvs,ep,k,rfl,e1,e2,e4,rfl⟩
  .cases e
 .cases e
theorem JV(hu:X.A.units+64<cLine):OQ X Gp:=by
 rintro value slice pins s σ H x y v u Q I rx ry ⟨O,L,dx,dy,d,L',rs,ix,iy,e,k⟩ hs;obtain⟨i,kvs,ep,k0,rfl,e1,e2,e3,rfl⟩:=AGI e
 cases ix with|ref hi =>
  obtain⟨us,xs,ha,hsm,hz,r3,hk,dd⟩:=Ko I (rs.ob i _ _ hi e1);obtain⟨b,rfl,ik⟩:=Ka iy e2;cases rx;cases ry;rcases r3.look k0 with⟨n,_⟩|⟨d',b',v',u',l,at_,iv,rv,_⟩
  .rw[e3] at n;cases n
  .rw[e3] at l;cases l;refine ABN PySem.F.slot_dict_getitem.lookup hs dd.of.typeIs (wpAny_getItem_heap (show X.A.in1.units+1<cLine from by show X.A.units+1+1<cLine;omega) (Ji I ik) dd.of at_ ?_);exact⟨v',H,I.tok _,rv,k _ _ _ (.refl _ _) rs iv⟩
def IY(neg:Bool):G2:=λx y L=>match y with
 |.ref i=>(match L[i]? with|some (.dt kvs _)=>(dNK x).map λk=>(.bl (neg != (CG kvs k).isSome),L)|_=>none)
 |_=>none
theorem YG{neg:Bool}{x y d:D}{L L':AD}(e:IY neg x y L=some (d,L')):∃i kvs ep k,y=.ref i/\L[i]?=some (.dt kvs ep)/\dNK x=some k/\d=.bl (neg != (CG kvs k).isSome)/\L'=L:=by
 unfold IY at e;split at e
 .rename_i i;split at e
  .rename_i kvs ep e1;obtain⟨k,e2,e3⟩:=AJt.mp e;cases e3;exact⟨i,kvs,ep,k,rfl,e1,e2,rfl,rfl⟩
  .cases e
 .cases e
theorem DX.some_eq{K:AO}{H:Hp}{O:List Addr}{kvs:List (NK×D)}{us:List (NK×Addr×V)}{xs:List (NK×Addr×Value)}(r:DX K H O kvs us xs)(k:NK):(atKey xs k).isSome=(CG kvs k).isSome:=by
 rcases r.look k with⟨a,b⟩|⟨d,b,v,u,h1,h2,_⟩
 .rw[a,b];rfl
 .rw[h1,h2];rfl
theorem AEW(hu:X.A.units+64<cLine):DG X (compareOp .In) (IY false):=by
 rintro pins s σ H x y v u Q I rx ry ⟨O,L,dx,dy,d,L',rs,ix,iy,e,k⟩;obtain⟨i,kvs,ep,k0,rfl,e1,e2,rfl,rfl⟩:=YG e
 cases iy with|ref hi =>
  obtain⟨us,xs,ha,hsm,hz,r3,hk,dd⟩:=Ko I (rs.ob i _ _ hi e1);obtain⟨b,rfl,ik⟩:=Ka ix e2;cases rx;cases ry;refine wpAny_in_heap (show X.A.in1.units+1<cLine from by show X.A.units+1+1<cLine;omega) (Ji I ik) hsm dd.of ?_;rw[r3.some_eq];exact⟨.bl (CG kvs k0).isSome,H,I.tok _,rfl,k _ _ _ (.refl _ _) rs (by rw[Bool.false_bne];exact .bl _)⟩
theorem We(hu:X.A.units+64<cLine):DG X (compareOp .NotIn) (IY true):=by
 rintro pins s σ H x y v u Q I rx ry ⟨O,L,dx,dy,d,L',rs,ix,iy,e,k⟩;obtain⟨i,kvs,ep,k0,rfl,e1,e2,rfl,rfl⟩:=YG e
 cases iy with|ref hi =>
  obtain⟨us,xs,ha,hsm,hz,r3,hk,dd⟩:=Ko I (rs.ob i _ _ hi e1);obtain⟨b,rfl,ik⟩:=Ka ix e2;cases rx;cases ry;refine wpAny_notIn_heap (show X.A.in1.units+1<cLine from by show X.A.units+1+1<cLine;omega) (Ji I ik) hsm dd.of ?_;rw[r3.some_eq];exact⟨.bl (!(CG kvs k0).isSome),H,I.tok _,rfl,k _ _ _ (.refl _ _) rs (by rw[Bool.true_bne];exact .bl _)⟩
end
def Jr:EF:=λ_ L=>some (.ref L.length,L++[.dt [] 0])
section
variable {X:Cx}{pos:Pos}
theorem AGo{P:Program}{w:World}{H:Hp}(h:Heap)(hb:sysModules<h.objs.size):Cc P w H (h.push {cls:=.type "dict",data:=.dict #[]}) h.objs.size (.dN [] 0) :=
 ⟨FE _,beq_eq_false_iff_ne.mpr (Ne.symm (Bu hb)),[],.nil,_,#[],Heap.get?_push_size _ rfl,⟨rfl,rfl,rfl⟩,rfl,rfl,Hj⟩
theorem Ly:Af X (.Dict [] [] pos) Jr:=λpins s σ H Q I z6_=>by
 obtain⟨O,ρ,L,d,L',r,e,k⟩:=z6_;cases e;have hp:=I.hok.fresh (Al s.heap.objs.size);have st:Aq H O (upd H s.heap.objs.size (.dN [] 0)) (O++[s.heap.objs.size]):=⟨.new hp,BB _ _⟩
 exact wpAny_Dict_empty ⟨.ref s.heap.objs.size,_,I.laid (a:=s.heap.objs.size) (o:=.dN [] 0) (t':=s.toks) (λ_ _ q=>Heap.get?_push_of_some _ q) (Al _) (AGo s.heap I.big),rfl,
  k _ _ _ st (r.s.new hp ⟨[],Ce,rfl,.nil,λu hu=>(nomatch hu)⟩) (.ref (by rw[<-r.s.len];simp))⟩
end
def putU(us:List (NK×Addr×V))(k:NK)(b:Addr)(v:V):List (NK×Addr×V) :=
 if (us.any λu=>decide (u.1=k))=true then us.map (λu=>if u.1=k then (u.1,u.2.1,v) else u) else us++[(k,b,v)]
section
variable {K:AO}{H:Hp}{O:List Addr}
theorem DX.anyU{kvs:List (NK×D)}{us:List (NK×Addr×V)}{xs:List (NK×Addr×Value)}(r:DX K H O kvs us xs)(k:NK) :
  (us.any λu=>decide (u.1=k))=(atKey xs k).isSome/\(kvs.any λu=>decide (u.1=k))=(atKey xs k).isSome:=by
 induction r with
 |nil=>exact⟨rfl,rfl⟩
 |@cons k' d b v u kvs us xs i rv t ih =>
  by_cases e:k'=k
  .subst e;simp[atKey]
  .have e2:atKey ((k',b,u)::xs) k=atKey xs k:=by simp[atKey,GH,e]
   rw[e2,AJs,AJs,ih.1,ih.2];simp[e]
theorem DX.repl{kvs:List (NK×D)}{us:List (NK×Addr×V)}{xs:List (NK×Addr×Value)}(r:DX K H O kvs us xs)(k:NK){d:D}{v:V}{u:Value}(i:Is K H O v d)(rv:Ai v u) :
  DX K H O (kvs.map λkv=>if kv.1=k then (kv.1,d) else kv) (us.map λq=>if q.1=k then (q.1,q.2.1,v) else q) (xs.map (putAt k u)):=by
 induction r with
 |nil=>exact .nil
 |@cons k' d' b v' u' kvs us xs i' rv' t ih =>
  rw[Am,Am,Am];unfold putAt
  by_cases e:k'=k
  .rw[if_pos e,if_pos e,if_pos e];exact .cons i rv ih
  .rw[if_neg e,if_neg e,if_neg e];exact .cons i' rv' ih
theorem DX.snoc{kvs:List (NK×D)}{us:List (NK×Addr×V)}{xs:List (NK×Addr×Value)}(r:DX K H O kvs us xs){k:NK}{b:Addr}{d:D}{v:V}{u:Value}(i:Is K H O v d)(rv:Ai v u) :
  DX K H O (kvs++[(k,d)]) (us++[(k,b,v)]) (xs++[(k,b,u)]):=by
 induction r with
 |nil=>exact .cons i rv .nil
 |cons i' rv' t ih=>exact .cons i' rv' ih
theorem DX.put{kvs:List (NK×D)}{us:List (NK×Addr×V)}{xs:List (NK×Addr×Value)}(r:DX K H O kvs us xs)(k:NK){b:Addr}{d:D}{v:V}{u:Value}(i:Is K H O v d)(rv:Ai v u) :
  DX K H O (Dq kvs k d) (putU us k b v) (storedH xs k b u):=by
 obtain⟨e1,e2⟩:=r.anyU k;unfold Dq putU storedH;rw[e1,e2]
 by_cases q:(atKey xs k).isSome=true
 .rw[if_pos q,if_pos q,if_pos q];exact r.repl k i rv
 .rw[if_neg q,if_neg q,if_neg q];exact r.snoc i rv
theorem DX.parts{kvs:List (NK×D)}{us:List (NK×Addr×V)}{xs:List (NK×Addr×Value)}(r:DX K H O kvs us xs):us.map (·.1)=kvs.map (·.1)/\AV K H O (us.map (·.2.2)) (kvs.map (·.2)) /\
  Paired (λ(p:NK×Addr×V) (q:NK×Addr×Value)=>p.1=q.1/\p.2.1=q.2.1/\Ai p.2.2 q.2.2) us xs:=by
 induction r with
 |nil=>exact⟨rfl,.nil,.nil⟩
 |cons i rv t ih=>exact⟨by rw[Am,Am,ih.1],.cons i ih.2.1,.cons ⟨rfl,rfl,rv⟩ ih.2.2⟩
theorem DX.len{kvs:List (NK×D)}{us:List (NK×Addr×V)}{xs:List (NK×Addr×Value)}(r:DX K H O kvs us xs):us.length=kvs.length/\xs.length=kvs.length:=by
 induction r with
 |nil=>exact⟨rfl,rfl⟩
 |cons i rv t ih=>simp[ih.1,ih.2]
theorem ACp{kvs:List (NK×D)}{k:NK}{d:D}:(Dq kvs k d).length<=kvs.length+1:=by unfold Dq;split <;> simp
theorem ACn{us:List (NK×Addr×V)}{k:NK}{b:Addr}{v:V}{P:NK->Addr->Prop}(h:∀u∈us,P u.1 u.2.1)(hb:P k b):∀u∈putU us k b v,P u.1 u.2.1:=by
 intro u hu;unfold putU at hu;split at hu
 .rw[BC] at hu;obtain⟨q,hq,rfl⟩:=hu;split
  .exact h q hq
  .exact h q hq
 .rcases DB.mp hu with hu|hu
  .exact h u hu
  .rw[show u=(k,b,v) by simpa using hu];exact hb
end
def epN(kvs:List (NK×D))(k:NK)(ep:Nat):Nat:=if (kvs.any λkv=>decide (kv.1=k))=true then ep else ep+1
def JF(o i v:D)(L:AD):Option AD:=match o with
 |.ref n=>(match L[n]? with|some (.dt kvs ep)=>if kvs.length<16777216 then (dNK i).map λk=>L.set n (.dt (Dq kvs k v) (epN kvs k ep)) else none|_=>none)
 |_=>none
theorem AGJ{o i v:D}{L L':AD}(e:JF o i v L=some L'):∃n kvs ep k,o=.ref n/\L[n]?=some (.dt kvs ep)/\kvs.length<16777216/\dNK i=some k/\L'=L.set n (.dt (Dq kvs k v) (epN kvs k ep)):=by
 unfold JF at e;split at e
 .rename_i n;split at e
  .rename_i kvs ep e1;split at e
   .rename_i hz;obtain⟨k,e2,rfl⟩:=AJt.mp e;exact⟨n,kvs,ep,k,rfl,e1,hz,e2,rfl⟩
   .cases e
  .cases e
 .cases e
def ACc(K:AO):OL:=λo i v H Q=>∃O L x y d L',BD K H O L/\Is K H O o x/\Is K H O i y/\Is K H O v d/\JF x y d L=some L'/\∀H',Aq H O H' O->BD K H' O L'->Q H'
section
variable {X:Cx}{o i e:Expr}{fo fi fv:EF}{pos:Pos}
theorem YX{pins:List (Addr×Obj)}{σ:L2.St}{H:Hp}{s:Shared}{O:List Addr}{L:AD}{n ep:Nat}{a b:Addr}{kvs:List (NK×D)}{k:NK}{v:V}{u:Value}{d:D}{us:List (NK×Addr×V)}{xs:List (NK×Addr×Value)}{h':Heap}{t':Nat}
  (I:AK X pins σ H s) (rs:BD X.K H O L) (hn:O[n]?=some a) (hz:kvs.length<16777216) (ha:H a=some (.dN us ep)) (hsm:(a == sysModules)=false) (r3:DX X.K H O kvs us xs) (hk:∀u∈us,Is X.K H O (.ref u.2.1) (Eb u.1))
  (ik:Is X.K H O (.ref b) (Eb k)) (iv:Is X.K H O v d) (rv:Ai v u) (dd:DI (Hv X.prog X.w) h' a (storedH xs k b u) (Fq xs k ep)) (hs:Heap.SameBut a s.heap h') :
  AK X pins σ (upd H a (.dN (putU us k b v) (epN kvs k ep))) {s with heap:=h',toks:=t'}/\Aq H O (upd H a (.dN (putU us k b v) (epN kvs k ep))) O/\BD X.K (upd H a (.dN (putU us k b v) (epN kvs k ep))) O (L.set n (.dt (Dq kvs k d) (epN kvs k ep))):=by
 have rp:=r3.put k (b:=b) iv rv;obtain⟨p1,p2,p3⟩:=rp.parts;have ee:Fq xs k ep=epN kvs k ep:=by unfold Fq epN;rw[(r3.anyU k).2]
 rw[ee] at dd
 have hl:(putU us k b v).length<=sizeLine:=by rw[rp.len.1,sizeLine_eq];have:=ACp (kvs:=kvs) (k:=k) (d:=d);omega
 have st:Aq H O (upd H a (.dN (putU us k b v) (epN kvs k ep))) O:=⟨.write ha id,Ac _⟩;obtain⟨q,es,hq,h2,h3,h4,_,h5⟩:=dd;refine⟨AGr I (by rw[ha];exact True.intro) hs ⟨q,hq⟩ ⟨hl,hsm,_,p3,q,es,hq,h2,h3,h4,h5⟩,st,?_⟩;exact rs.write (o':=.dt (Dq kvs k d) (epN kvs k ep)) hn ⟨_,Ce,p1,p2.mono st,λx hx=>(ACn (P:=λk b=>Is X.K H O (.ref b) (Eb k)) hk ik x hx).mono st⟩
theorem ACE(hu:X.A.units+64<cLine):TW X (ACc X.K):=by
 rintro pins s σ H o i v ov iv u Q I ro ri rv ⟨O,L,x,y,d,L',rs,io,ii,idv,e,k⟩;obtain⟨n,kvs,ep,k0,rfl,e1,hz,e2,rfl⟩:=AGJ e
 cases io with|ref hn =>
  obtain⟨us,xs,ha,hsm,hz',r3,hk,dd⟩:=Ko I (rs.ob n _ _ hn e1);obtain⟨b,rfl,ik⟩:=Ka ii e2;cases ro;cases ri;refine ACF (show X.A.in1.units+1<cLine from by show X.A.units+1+1<cLine;omega) (Ji I ik) dd (by rw[r3.len.2,sizeLine_eq];omega) λh' dd' hs=>?_;obtain⟨I',st,rs'⟩:=YX (t':=s.toks+(Hv X.prog X.w).draws k0) I rs hn hz ha hsm r3 hk ik idv rv dd' hs;exact⟨_,I',k _ st rs'⟩
def Jp(fo fi fv:EF):SF:=λρ L=>(fv ρ L).bind λv=>(fo ρ v.2).bind λo=>(fi ρ o.2).bind λi=>(JF o.1 i.1 v.1 i.2).bind λL'=>some (.next ρ L')
theorem RQ{p2:Pos}(hu:X.A.units+64<cLine)(ho:Af X o fo)(hi:Af X i fi)(he:Af X e fv)(hs:swapsWithSole [.Subscript o i p2] e pos.line X.env=pure false:=by rfl)(hw:swappedStores [.Subscript o i p2] e X.env=pure none:=by rfl)
  (h1:(assignEach [.Subscript o i p2] X.env).map (·.2)=[assign (.Subscript o i p2) X.env]:=by rfl)
  (ha:∀v,assign (.Subscript o i p2) X.env v=(do
   let ov <-holding [v] (eval o X.env)
   let iv <-holding [v,ov] (eval i X.env)
   standAt p2
   holding [v,ov,iv] (setItem ov iv v)
   release [v,ov,iv] []):=by intro _;rfl):Ej X (.Assign [.Subscript o i p2] e pos) (Jp fo fi fv) :=
 PS.weaken (Rc he (WR ho hi (ACE hu) ha) hs hw h1) λD σ H z3_=>by
  obtain⟨O,ρ,L,out,r,ee,k⟩:=z3_;unfold Jp at ee
  cases e1:fv ρ L with
  |none=>rw[e1] at ee;cases ee
  |some p =>
   rw[e1] at ee;simp only[AS] at ee
   cases e2:fo ρ p.2 with
   |none=>rw[e2] at ee;cases ee
   |some q =>
    rw[e2] at ee;simp only[AS] at ee
    cases e3:fi ρ q.2 with
    |none=>rw[e3] at ee;cases ee
    |some w =>
     rw[e3] at ee;simp only[AS] at ee
     cases e4:JF q.1 w.1 p.1 w.2 with
     |none=>rw[e4] at ee;cases ee
     |some L' =>
      rw[e4] at ee;cases ee;refine⟨O,ρ,L,p.1,p.2,r,e1,λv H1 O1 st1 rs1 is1=>⟨O1,ρ,p.2,q.1,q.2,r.to st1 rs1,e2,λov H2 O2 st2 rs2 is2=>⟨O2,ρ,q.2,w.1,w.2,r.to (st1.trans st2) rs2,e3,λiv H3 O3 st3 rs3 is3=>?_⟩⟩⟩;refine⟨O3,w.2,q.1,w.1,p.1,L',rs3,is2.mono st3,is3,(is1.mono st2).mono st3,e4,λH4 st4 rs4=>?_⟩;have stA:=((st1.trans st2).trans st3).trans st4;exact k _ _ _ stA ⟨rs4,r.f.mono stA⟩
end
open Sem (wp)
section
variable {prog:Program}{w:World}{κ:Type}[DecidableEq κ]{knd:HeapKind prog w κ}{A:Around}{E:ALL}{s:Shared}{d a:Addr}{k:κ}{xs:List (κ×Addr×Value)}{ep:Nat}
theorem DI.entry{h:Heap}(x:DI knd h d xs ep){j:Nat}{q:Addr×Value}(hj:xs[j]?=some (k,q)):∃o es,h.get? d=some o/\o.data=.dict es ep/\es[j]?=some (entryOfKey knd (k,q)):=by obtain⟨o,es,g,ex,dat,el,_⟩:=x;exact⟨o,es,g,dat,by rw[entry_at el,hj];rfl⟩
theorem ACG{dv:Value}{Q:ALL}(hu:knd.room A)(hk:knd.is s.heap k a)(x:DI knd s.heap d xs ep)(hz:xs.length<=sizeLine)
  (there:∀p,atKey xs k=some p->Q p.2 {s with toks:=s.toks+knd.draws k})
  (new:atKey xs k=none->∀h',DI knd h' d (storedH xs k a dv) (Fq xs k ep)->Heap.SameBut d s.heap h'->Q dv {s with heap:=h',toks:=s.toks+knd.draws k}) :
  wpAny (model prog w) A (dictSetDefault d (.ref a) dv) Q E s:=by
 obtain⟨o,es,g,dat,sz⟩:=x.room;unfold dictSetDefault
 (try with_reducible refine EV ?_)
 refine AH (knd.pyHash hu hk ?_);refine AH (DI.find (s:={s with toks:=s.toks+knd.draws k}) hu hk x (λn=>?_) λj p hj e=>?_)
 .obtain⟨y,sb⟩:=x.grown n hk dv;have e1:Fq xs k ep=ep+1:=by simp[Fq,n]
  rw[e1,storedH_new n] at new;exact AH (AK7 (AH (wpAny_updateDictKeys (s:={s with toks:=s.toks+knd.draws k}) (hz:=by omega) g dat (AU (new n _ y sb)))))
 .obtain⟨o',es',g',dat',ee⟩:=x.entry hj;refine AH (ALG (s:={s with toks:=s.toks+knd.draws k}) g' dat' ?_);rw[ee];exact AH (AK7 (AU (there p e)))
theorem AEq(hd:(d == sysModules)=false)(dflt:Value) :
  MeetsIn prog w (Builtin.«dict.setdefault» ⟨[.ref d,.ref a,dflt],[]⟩) (λA R s=>knd.room A.in1/\∃k xs ep,knd.is s.heap k a/\DI knd s.heap d xs ep/\xs.length<=sizeLine /\
   (∀p,atKey xs k=some p->R (.ok (.ret p.2)) {s with toks:=s.toks+knd.draws k}) /\
   (atKey xs k=none->∀h',DI knd h' d (storedH xs k a dflt) (Fq xs k ep)->Heap.SameBut d s.heap h'->R (.ok (.ret dflt)) {s with heap:=h',toks:=s.toks+knd.draws k})) :=
 .of_wp λA R s z3_=>by
  obtain⟨hu,k,xs,ep,hkey,hm,hz,h1,h2⟩:=z3_;unfold Builtin.«dict.setdefault»;refine AH ?_;unfold Builtin.Dict.keyAndDefault;refine AH (ALF hm.of.typeIs ?_);show wpAny _ _ (pure (d,Value.ref a,some dflt)) _ _ s;refine AU ?_
  show wpAny _ _ (if (d == sysModules)=true then _ else (dictSetDefault d (.ref a) dflt >>= _)) _ _ s
  rw[if_neg (by rw[hd];exact Ct)];exact AH (ACG hu hkey hm hz (λp hp=>AU ⟨p.2,rfl,h1 p hp⟩) λhn h' hm' hs'=>AU ⟨dflt,rfl,h2 hn h' hm' hs'⟩)
end
section
variable {X:Cx}
def Lr:GM:=λx xs L=>match x,xs with
 |.ref i,[y]=>(match L[i]? with|some (.dt kvs _)=>(dNK y).map λk=>((CG kvs k).getD .non,L)|_=>none)
 |_,_=>none
theorem AEy(hu:X.A.units+64<cLine):MtD X "dict.get" Lr:=λpins s σ H x xs v us Q I rx rv z12_=>by
 obtain⟨O,L,dx,dxs,d,L',rp,ix,ixs,e,k⟩:=z12_;unfold Lr at e;split at e
 .rename_i i y;split at e
  .rename_i kvs ep e1;obtain⟨k0,e2,e3⟩:=AJt.mp e;cases e3
   cases ix with|ref hi =>
    cases ixs with|cons i1 i2 =>
     cases i2;obtain⟨us',ys,ha,hsm,hz,r3,hk,dd⟩:=Ko I (rp.ob i _ _ hi e1);obtain⟨b,rfl,ik⟩:=Ka i1 e2;cases rx;obtain⟨u,rfl,ru⟩:=En rv;cases (show u=Value.ref b from ru);refine call_meetsIn PySem.F.slot_dict_get dd.of.typeIs PySem.F.entry_dict_get (PySem.F.args_dict_get_2 _ _) (meetsH_dict_get (Hv X.prog X.w) _ b hsm) ⟨show X.A.in1.units+1<cLine from by show X.A.units+1+1<cLine;omega,k0,ys,Ji I ik,dd.of,?_⟩;rcases r3.look k0 with⟨n1,n2⟩|⟨d',b',v',u',l,at_,iv,rv',_⟩
     .rw[n1] at k;rw[n2];exact⟨.non,H,I.tok _,rfl,k _ _ _ (.refl _ _) rp .non⟩
     .rw[l] at k;rw[at_];exact⟨v',H,I.tok _,rv',k _ _ _ (.refl _ _) rp iv⟩
  .cases e
 .cases e
def IU:GM:=λx xs L=>match x,xs with
 |.ref i,[y,v]=>(match L[i]? with
  |some (.dt kvs ep)=>(dNK y).bind λk=>(match CG kvs k with|some d=>some (d,L)|none=>if kvs.length<16777216 then some (v,L.set i (.dt (Dq kvs k v) (epN kvs k ep))) else none)
  |_=>none)
 |_,_=>none
theorem Wt(hu:X.A.units+64<cLine):MtD X "dict.setdefault" IU:=λpins s σ H x xs v us Q I rx rv z12_=>by
 obtain⟨O,L,dx,dxs,d,L',rp,ix,ixs,e,k⟩:=z12_;unfold IU at e;split at e
 .rename_i i y dv;split at e
  .rename_i kvs ep e1;obtain⟨k0,e2,e3⟩:=AKG.mp e
   cases ix with|ref hi =>
    cases ixs with|@cons v1 _ _ _ i1 i2=>cases i2 with|@cons v2 _ _ _ j1 j2 =>
     cases j2;obtain⟨us',ys,ha,hsm,hz,r3,hk,dd⟩:=Ko I (rp.ob i _ _ hi e1);obtain⟨b,rfl,ik⟩:=Ka i1 e2;cases rx
     cases rv with|@cons _ u1 _ _ ru1 rv2=>cases rv2 with|@cons _ u2 _ _ ru2 rv3 =>
      cases rv3;cases (show u1=Value.ref b from ru1);refine call_meetsIn AKz dd.of.typeIs PySem.F.entry_dict_setdefault (PySem.F.args_dict_setdefault_3 _ _ _) (AEq (knd:=Hv X.prog X.w) hsm u2) ⟨show X.A.in1.units+1<cLine from by show X.A.units+1+1<cLine;omega,k0,ys,ep,Ji I ik,dd,by rw[r3.len.2,<-r3.len.1];exact hz,λp hp=>?_,λhn h' dd' hs=>?_⟩
      .rcases r3.look k0 with⟨n1,n2⟩|⟨d',b',v',u',l,at_,iv,rv',_⟩
       .rw[n2] at hp;cases hp
       .rw[at_] at hp;cases hp;rw[l] at e3;cases e3;exact⟨v',H,I.tok _,rv',k _ _ _ (.refl _ _) rp iv⟩
      .rcases r3.look k0 with⟨n1,n2⟩|⟨d',b',v',u',l,at_,iv,rv',_⟩
       .rw[n1] at e3;simp only at e3;split at e3
        .rename_i hz2;cases e3;obtain⟨I',st,rs'⟩:=YX (t':=s.toks+(Hv X.prog X.w).draws k0) I rp hi hz2 ha hsm r3 hk ik j1 ru2 dd' hs;exact⟨v2,_,I',ru2,k _ _ _ st rs' (j1.mono st)⟩
        .cases e3
       .rw[at_] at hn;cases hn
  .cases e
 .cases e
def Jo:GM:=λx xs L=>match x,xs with
 |.ref i,[.ref j]=>(match L[i]?,L[j]? with|some (.lst as),some (.lst bs)=>if as.length+bs.length<=16777216 then some (.non,L.set i (.lst (as++bs))) else none|_,_=>none)
 |_,_=>none
theorem Ry:MtD X "list.extend" Jo:=FS.weaken (show FS X "list.extend" rExtend from AEl) λv vs H Q z4_=>by
 obtain⟨O,L,dx,dxs,d,L',rp,ix,ixs,e,k⟩:=z4_;unfold Jo at e;split at e
 .rename_i i j;split at e
  .rename_i as bs e1 e2;split at e
   .rename_i hz;cases e
    cases ix with|@ref _ a hi =>
     cases ixs with|@cons v1 y1 _ _ i1 i2 =>
      cases i2
      cases i1 with|@ref _ b hj =>
       obtain⟨ws,hw,il⟩:=rp.ob _ _ _ hi e1;obtain⟨zs,hzs,il2⟩:=rp.ob _ _ _ hj e2;refine⟨_,_,ws,zs,rfl,rfl,hw,hzs,by rw[il.length,il2.length,sizeLine_eq];exact hz,?_⟩;have st:Aq H O (upd H a (.lst (ws++zs))) O:=⟨.write hw id,Ac _⟩;exact k _ _ _ st (rp.write (o':=.lst (as++bs)) hi ⟨_,Ce,(il.mono st).append (il2.mono st)⟩) .non
   .cases e
  .cases e
 .cases e
end
def KB(h:Heap)(d:Addr)(es:Array DictEntry)(ep:Nat):Prop:=∃o,h.get? d=some o/\o.data=.dict es ep
section
variable {prog:Program}{w:World}{A:Around}{E:ALL}{s:Shared}{t d v:Addr}{i ep:Nat}{es:Array DictEntry}{Q:Option Value->Shared->Prop}
theorem Rt{α:Type}{h0:Heap}{E':ALL}(hh:A.handled=none)(k:Heap.ExtBut t h0 s.heap)(fin:∀h',Heap.ExtBut t h0 h'->∀e,(∃o,h'.get? e=some o/\o.cls=.type "StopIteration")->E' (.ref e) {s with heap:=h'}){R:α->Shared->Prop} :
  wpAny (model prog w) A (newExc (.type "StopIteration") [] >>= λx=>(raiseNew x:Sem α)) R E' s:=by
 refine AH ?_;simp only[newExc,newTuple];refine AH (ALD (AH (m:=firstArgMember _ _) (wpAny_of_eq (a:=Value.none) (by simp only[firstArgMember];rfl) (ALD ?_ (by size_fits)))) (by size_fits));simp only[raiseNew];refine AH (wpAny_handled ?_);rw[hh];exact AH (AU (wpAny_throw (fin _ ((k.push _).push _) _ ⟨_,Heap.get?_push_size _ rfl,rfl⟩)))
theorem Nd(hh:A.handled=none)(it:s.heap.IsKeyIter t d i es.size ep)(en:KB s.heap d es ep)
  (more:∀e,es[i]?=some e->∀h',h'.IsKeyIter t d (i+1) es.size ep->Heap.SameBut t s.heap h'->Q (some e.key) {s with heap:=h'})
  (fin:es[i]?=none->∀h',Heap.ExtBut t s.heap h'->Q none {s with heap:=h'}):wpAny (model prog w) A (pyNext (.ref t)) Q E s:=by
 obtain⟨ot,gt,ct,dt⟩:=id it;obtain⟨od,gd,dd⟩:=en;have ty:=it.typeIs
 have inner:∀{F:ALL} {R:ALL},(∀e,es[i]?=some e->∀h',h'.IsKeyIter t d (i+1) es.size ep->Heap.SameBut t s.heap h'->R e.key {s with heap:=h'}) ->
   (es[i]?=none->∀h',Heap.ExtBut t s.heap h'->∀x,(∃o,h'.get? x=some o/\o.cls=.type "StopIteration")->F (.ref x) {s with heap:=h'}) ->
   wpAny (model prog w) A.in1 (Builtin.«dict_keyiterator.__next__» ⟨[.ref t],[]⟩) (λfi s2=>∃v,fi=PySem.Fin.done (Flow.ret v)/\R v s2) F s:=λ{F R} one none_=>by
  refine AH (AU (AH (AH (AH (ALH ty (AU (AH (wpAny_fieldsOf gt dt ?_))))))));rw[show Builtin.Dict_items.ownsTuple "dict_keyiterator"=false from by decide]
  show wpAny _ _ (if (Value.ref d == Value.none)=true then _ else _) _ _ s
  rw[if_neg (λz=>by cases (show(false:Bool)=true from z))];refine AH (AU (AH (ALG gd dd ?_)));rw[if_neg (by simp)];refine AH (AU (AH (wpAny_dictEpoch gd dd ?_)));rw[if_neg (by simp)];refine AU ?_;have i0:¬((i:Int)<0):=by omega
  simp only[i0,if_false,AJr]
  cases ee:es[i]? with
  |none =>
   refine AH (AH (ALH ty (AU ?_)));refine AH (m:=setField (.ref t) 0 .none) (wpAny_setField gt dt (by simp) ?_);exact Rt (A:=A.in1) (t:=t) (h0:=s.heap) (s:={s with heap:=s.heap.update t (Obj.mapFields (·.setIfInBounds 0 .none))}) hh (Heap.SameBut.update ..).extBut λh' k x hx=>none_ ee h' k x hx
  |some e =>
   refine AH (AH (ALH ty (AU (AH (wpAny_isOneOf_keyiter ty ?_)))))
   have it':(s.heap.update t (Obj.mapFields (·.setIfInBounds 1 (rawInt ((i:Int)+1))))).IsKeyIter t d (i+1) es.size ep :=
    ⟨_,Heap.get?_update_self _ gt (Obj.isFreed_of_fields (Obj.data_mapFields dt _)),(Obj.cls_mapFields ..).trans ct,by rw[Obj.data_mapFields dt];simp[rawInt]⟩
   refine AH (m:=setField (.ref t) 1 (rawInt ((i:Int)+1))) (wpAny_setField gt dt (by simp) (AH (EV (AH (wpAny_isOneOf_keyiter it'.typeIs ?_)))));exact AU (AU ⟨_,rfl,one e ee _ it' (Heap.SameBut.update ..)⟩)
 unfold pyNext;refine AH (wpAny_attempt (ALC (name:=Str.ofString "__next__") ty F.slot_dict_keyiterator_next (Gz F.slot_dict_keyiterator_next ty F.entry_dict_keyiterator_next (inner (λe ee h' i' sb=>AU (more e ee h' i' sb)) λen h' k x hx=>?_) (F.args_dict_keyiterator_next_1 _))));obtain⟨o,g,c⟩:=hx;exact AH (wpAny_isInstance (T:="StopIteration") (b:=true) ⟨o,g,c⟩ isSubtype_stop (AU (fin en h' k)))
def Zc(h:Heap)(t d:Addr)(i n ep:Nat):Prop:=∃a b,IsItemIter h t d i n ep a b
def Zb(h:Heap)(t d:Addr)(i n ep:Nat)(T:Addr):Prop:=∃a b,IsItemIterOut h t d i n ep a b T
theorem WU(hh:A.handled=none)(it:Zc s.heap t d i es.size ep)(en:KB s.heap d es ep)
  (more:∀e,es[i]?=some e->∀h',Zb h' t d (i+1) es.size ep s.heap.objs.size->h'.get? s.heap.objs.size=some {cls:=.type "tuple",data:=.seq #[e.key,e.val]}->h'.objs.size=s.heap.objs.size+1->(∀b o,b≠t->s.heap.get? b=some o->h'.get? b=some o)->Q (some (.ref s.heap.objs.size)) {s with heap:=h'})
  (fin:es[i]?=none->∀h',Heap.ExtBut t s.heap h'->Q none {s with heap:=h'}):wpAny (model prog w) A (pyNext (.ref t)) Q E s:=by
 obtain⟨ka,va,gt⟩:=it;obtain⟨od,gd,dd⟩:=en;have ty:s.TypeIs (.ref t) "dict_itemiterator":=⟨_,gt,rfl⟩;have tl:t<s.heap.objs.size:=Heap.lt_size gt
 have inner:∀{F:ALL} {R:ALL},
   (∀e,es[i]?=some e->∀h',Zb h' t d (i+1) es.size ep s.heap.objs.size->h'.get? s.heap.objs.size=some {cls:=.type "tuple",data:=.seq #[e.key,e.val]}->h'.objs.size=s.heap.objs.size+1->(∀b o,b≠t->s.heap.get? b=some o->h'.get? b=some o)->R (.ref s.heap.objs.size) {s with heap:=h'}) ->
   (es[i]?=none->∀h',Heap.ExtBut t s.heap h'->∀x,(∃o,h'.get? x=some o/\o.cls=.type "StopIteration")->F (.ref x) {s with heap:=h'}) ->
   wpAny (model prog w) A.in1 (Builtin.«dict_itemiterator.__next__» ⟨[.ref t],[]⟩) (λfi s2=>∃v,fi=PySem.Fin.done (Flow.ret v)/\R v s2) F s:=λ{F R} one none_=>by
  refine AH (AU (AH (AH (AH (ALI ty (AU (AH (wpAny_fieldsOf gt rfl ?_))))))));rw[show Builtin.Dict_items.ownsTuple "dict_itemiterator"=true from by decide]
  show wpAny _ _ (if (Value.ref d == Value.none)=true then _ else _) _ _ s
  rw[if_neg (λz=>by cases (show(false:Bool)=true from z))];refine AH (AU (AH (ALG gd dd ?_)));rw[if_neg (by simp)];refine AH (AU (AH (wpAny_dictEpoch gd dd ?_)));rw[if_neg (by simp)];refine AU ?_;have i0:¬((i:Int)<0):=by omega
  simp only[i0,if_false,AJr]
  cases ee:es[i]? with
  |none =>
   refine AH (AH (ALI ty (AU ?_)));refine AH (m:=setField (.ref t) 2 .none) (wpAny_setField gt rfl (by simp) ?_);exact Rt (A:=A.in1) (t:=t) (h0:=s.heap) (s:={s with heap:=s.heap.update t (Obj.mapFields (·.setIfInBounds 2 .none))}) hh (Heap.SameBut.update ..).extBut λh' k x hx=>none_ ee h' k x hx
  |some e =>
   refine AH (AH (ALI ty (AU (AH (wpAny_isOneOf_itemiter ty ?_)))));refine AH (m:=setField (.ref t) 3 (rawInt ((i:Int)+1))) (ALJ gt (by simp) λh1 g1 b1=>?_)
   have g1':IsItemIter h1 t d (i+1) es.size ep ka va:=by show h1.get? t=_;rw[show((i+1:Nat):Int)=(i:Int)+1 by omega];exact g1
   have ty1:Shared.TypeIs {s with heap:=h1} (.ref t) "dict_itemiterator":=⟨_,g1',rfl⟩;refine AH (EV (AH (wpAny_isOneOf_itemiter ty1 (AH (wpAny_isOneOf_itemiter ty1 ?_)))));show wpAny _ _ (Builtin.Dict_items.pairFromOwner (.ref t) 6 e.key e.val) _ _ {s with heap:=h1};unfold Builtin.Dict_items.pairFromOwner;refine AH (wpAny_newTuple ?_)
   -- the tuple is laid
   have z1:h1.objs.size=s.heap.objs.size:=b1.1
   have lay:∀h2,h2=h1.push {cls:=.type "tuple",data:=.seq #[e.key,e.val]}->IsItemIter h2 t d (i+1) es.size ep ka va/\h2.get? s.heap.objs.size=some {cls:=.type "tuple",data:=.seq #[e.key,e.val]}/\h2.objs.size=s.heap.objs.size+1/\∀b o,b≠t->s.heap.get? b=some o->h2.get? b=some o:=λh2 e2=>by
    subst e2;exact⟨Heap.get?_push_of_some _ g1',by rw[<-z1];exact Heap.get?_push_size _ rfl,by rw[Heap.size_push,z1],λb o hb q=>Heap.get?_push_of_some _ (b1.extBut b o hb q)⟩
   show wpAny _ _ (Builtin.Dict_items.ownedTupleIsFree (.ref t) >>= _) _ _ {s with heap:=h1.push {cls:=.type "tuple",data:=.seq #[e.key,e.val]}};obtain⟨g2,u2,z2,k2⟩:=lay _ rfl;rw[z1];generalize h1.push {cls:=.type "tuple",data:=.seq #[e.key,e.val]}=h2 at g2 u2 z2 k2 ⊢;unfold Builtin.Dict_items.ownedTupleIsFree;refine AH (AH (FT (x:=.none) g2 rfl rfl (AU ?_)));rw[if_pos rfl];refine AH (FT (x:=ka) g2 rfl rfl (AH (FT (x:=va) g2 rfl rfl ?_)));refine AH (ALJ g2 (by simp) λh3 g3 b3=>AH (ALJ g3 (by simp) λh4 g4 b4=>AH (ALJ g4 (by simp) λh5 g5 b5=>AH (ALJ g5 (by simp) λh6 g6 b6=>?_))));have far:∀b o,b≠t->h2.get? b=some o->h6.get? b=some o:=λb o hb q=>b6.extBut b o hb (b5.extBut b o hb (b4.extBut b o hb (b3.extBut b o hb q)));have z6:h6.objs.size=h2.objs.size:=b6.1.trans (b5.1.trans (b4.1.trans b3.1));refine AH (wpAny_letGo (AU (AU ⟨_,rfl,one e ee h6 ⟨e.key,e.val,g6⟩ (far _ _ (HC tl) u2) (z6.trans z2) λb o hb q=>far b o hb (k2 b o hb q)⟩)))
 unfold pyNext;refine AH (wpAny_attempt (ALC (name:=Str.ofString "__next__") ty F.slot_dict_itemiterator_next (Gz F.slot_dict_itemiterator_next ty F.entry_dict_itemiterator_next (inner (λe ee h' i' u z k=>AU (more e ee h' i' u z k)) λen h' k x hx=>?_) (F.args_dict_itemiterator_next_1 _))));obtain⟨o,g,c⟩:=hx;exact AH (wpAny_isInstance (T:="StopIteration") (b:=true) ⟨o,g,c⟩ isSubtype_stop (AU (fin en h' k)))
theorem XT{R:ALL}(hd:(d == sysModules)=false)(ty:s.TypeIs (.ref d) "dict")(en:KB s.heap d es ep)
  (k:R (.ref s.heap.objs.size) {s with heap:=s.heap.push {cls:=.type "dict_keyiterator",data:=.fields #[.ref d,.int 0 0,.int es.size 0,.int ep 0]}}):wpAny (model prog w) A (pyIter (.ref d)) R E s:=by
 obtain⟨od,gd,dd⟩:=en;refine wpAny_pyIter_slot ty F.slot_dict_iter (Gz F.slot_dict_iter ty F.entry_dict_iter ?_ (F.args_dict_iter_1 _));refine AH (AH (m:=Builtin.Dict.notOrdered "__iter__" ⟨[.ref d],[]⟩) (ALF ty (AU ?_)));refine AH (m:=Builtin.Dict.showsAll d) ?_;unfold Builtin.Dict.showsAll;rw[hd,if_neg Ct];refine AU (AH (ALG gd dd (AH (wpAny_dictEpoch gd dd (AH (ALD (AU ⟨_,rfl,"dict_keyiterator",_,⟨_,Heap.get?_push_size _ rfl,rfl⟩,F.slot_dict_keyiterator_next.lookup,?_⟩)))))));exact k
theorem AEr(hd:(d == sysModules)=false):MeetsIn prog w (Builtin.«dict.items» ⟨[.ref d],[]⟩) (λ_ R s=>s.TypeIs (.ref d) "dict"/\R (.ok (.ret (.ref s.heap.objs.size))) {s with heap:=s.heap.push {cls:=.type "dict_items",data:=.fields #[.ref d]}}) :=
 .of_wp λA R s z3_=>by
  obtain⟨ty,k⟩:=z3_;refine AH (AH (m:=Builtin.Dict.notOrdered "items" ⟨[.ref d],[]⟩) (ALF ty (AU ?_)));refine AH (m:=Builtin.Dict.showsAll d) ?_;unfold Builtin.Dict.showsAll;rw[hd,if_neg Ct];exact AU (AH (ALD (AU ⟨_,rfl,k⟩)))
theorem AD4{R:ALL}(hv:s.heap.IsItemsView v d)(en:KB s.heap d es ep)
  (k:R (.ref s.heap.objs.size) {s with heap:=s.heap.push {cls:=.type "dict_itemiterator",data:=.fields #[.none,.bool false,.ref d,.int 0 0,.int es.size 0,.int ep 0,.none,.none]}}):wpAny (model prog w) A (pyIter (.ref v)) R E s:=by
 obtain⟨ov,gv,cv,dv⟩:=id hv;obtain⟨od,gd,dd⟩:=en;refine wpAny_pyIter_slot hv.typeIs F.slot_dict_items_iter (Gz F.slot_dict_items_iter hv.typeIs F.entry_dict_items_iter ?_ (F.args_dict_items_iter_1 _));refine AH (AU (AH (AH (FT (x:=.ref d) gv dv rfl (AU (AH (AH (ALG gd dd (AH (wpAny_dictEpoch gd dd ?_))))))))));show wpAny _ _ (newFields "dict_itemiterator" [.none,.bool false,.ref d,rawInt 0,rawInt es.size,rawInt ep,.none,.none]) _ _ s;refine ALD (AU ⟨_,rfl,"dict_itemiterator",_,⟨_,Heap.get?_push_size _ rfl,rfl⟩,F.slot_dict_itemiterator_next.lookup,?_⟩) (by rw[sizeOk,sizeLine_eq];show 8<=16777216+2;decide);exact k
end
section
variable {X:Cx}{pins:List (Addr×Obj)}{σ:L2.St}{H:Hp}{s:Shared}
theorem Paired.at{α β:Type}{R:α->β->Prop}:∀{l:List α} {m:List β} {j:Nat} {a:α},Paired R l m->l[j]?=some a->∃b,m[j]?=some b/\R a b
 |_,_,_,_,.nil,h=>by simp at h
 |_,_,0,_,.cons r _,h=>by simp at h;subst h;exact⟨_,rfl,r⟩
 |_,_,j+1,_,.cons _ t,h=>by
  obtain⟨b,e,q⟩:=Paired.at (j:=j) t (by simpa using h);exact⟨b,by simpa using e,q⟩
theorem JI(I:AK X pins σ H s){a:Addr}{us:List (NK×Addr×V)}{ep:Nat}(h:H a=some (.dN us ep)) :
  (a == sysModules)=false/\(s.TypeIs (.ref a) "dict"/\∃o,s.heap.get? a=some o/\o.dict=none)/\∃es,KB s.heap a es ep/\es.size=us.length/\∀(i:Nat) (u:NK×Addr×V),us[i]?=some u->∃e:DictEntry,es[i]?=some e/\e.key=.ref u.2.1/\Ai u.2.2 e.val:=by
 obtain⟨z,y,xs,r,o,es,g,ex,dat,el,nd⟩:=(show Cc X.prog X.w H s.heap a (.dN us ep) from I.hok a _ h);have hl:xs.length=us.length:=(Paired.length r).symm;refine⟨y,⟨⟨o,g,ex.1⟩,o,g,ex.2.1⟩,es,⟨o,g,dat⟩,?_,λi u hu=>?_⟩
 .rw[<-AKe,el,An,hl]
 .obtain⟨q,hq,h1,h2,h3⟩:=Paired.at r hu;refine⟨entryOfKey (Hv X.prog X.w) q,?_,by show Value.ref q.2.1=_;rw[h2],h3⟩;rw[<-Array.getElem?_toList,el,BH,hq];rfl
end
def Itk(a:Addr)(n ep:Nat):It :=
 ⟨λi H=>∃us,H a=some (.dN us ep)/\us.length=n/\i<n,λi H v H'=>H'=H/\∀us,H a=some (.dN us ep)->∃u,us[i]?=some u/\v=.ref u.2.1,λi H=>∃us,H a=some (.dN us ep)/\us.length=n/\n<=i⟩
theorem ABG{P:Program}{w:World}{K:AO}{tg:Expr}(a it:Addr)(n ep:Nat):IC P w K tg (Itk a n ep) [it] it (λi h=>h.IsKeyIter it a i n ep) where
 mem:=by simp
 obj:=λi h st b hb=>by
  obtain rfl:b=it:=by simpa using hb
  obtain⟨o,e,c,d⟩:=st;exact⟨o,e,λv z=>by rw[d] at z;cases z⟩
 keep:=λi h h' st k=>st.at λo e=>k it (by simp) o e
 item:=by
  rintro X hP hw hK hc i pins s σ H E I hf st ⟨us,ha,hl,hi⟩;subst hP hw hK;obtain⟨_,_,es,en,sz,at_⟩:=JI I ha;obtain⟨f0,f1,f2,f3,f4,f5⟩:=hf it (by simp);have hz:es.size=n:=sz.trans hl;subst hz;obtain⟨u,hu⟩:∃u,us[i]?=some u:=⟨us[i]'(by omega),by simp[show i<us.length by omega]⟩;obtain⟨e,he,hk,_⟩:=at_ i u hu;refine Nd (I.ok.hd hc) st en (λe' he' h' st' sb=>?_) λhn=>by rw[he] at hn;cases hn
  rw[he] at he';cases he';have I1:AK X pins σ H {s with heap:=h'}:=I.turned (t':=s.toks) (λb o hb q=>(sb.2 b hb).trans q) f0 f1 f3 f4 f5;rw[hk];exact⟨_,rfl,letGo_keyiter (s':={s with heap:=h'}) st' ⟨.ref u.2.1,H,I1,rfl,⟨rfl,λus' h'=>by rw[ha] at h';cases h';exact⟨u,hu,rfl⟩⟩,st',λb hb=>(hf b hb).1⟩⟩
 done:=by rintro X hP hw hK hc i pins s σ H E I hf st ⟨us,ha,hl,hi⟩;subst hP hw hK;obtain⟨_,_,es,en,sz,at_⟩:=JI I ha;obtain⟨f0,f1,f2,f3,f4,f5⟩:=hf it (by simp);have hz:es.size=n:=sz.trans hl;subst hz;refine Nd (I.ok.hd hc) st en (λe' he' h' st' sb=>?_) λ_ h' k=>⟨rfl,I.turned (t':=s.toks) (λb o hb q=>k b o hb q) f0 f1 f3 f4 f5⟩;rw[AK0 hi] at he';cases he'
 self:=λ_ _ _ _ _ st h=>wpAny_pyIter_keyiter st h
theorem AGg:entryFor table "dict_itemiterator.__iter__"=some Builtin.«dict_keyiterator.__iter__»:=entryFor_alias (id':="dict_keyiterator.__iter__") (by kernel_rfl) rfl (by decide +kernel) (by kernel_rfl)
def Itp(a:Addr)(n ep:Nat):It :=
 ⟨λi H=>∃us,H a=some (.dN us ep)/\us.length=n/\i<n,λi H v H'=>∃T,H T=none/\v=.ref T/\∀us,H a=some (.dN us ep)->∃u,us[i]?=some u/\H'=upd H T (.tup [.ref u.2.1,u.2.2]),λi H=>∃us,H a=some (.dN us ep)/\us.length=n/\n<=i⟩
theorem ABE{P:Program}{w:World}{K:AO}{elts:List Expr}{x1:Nat}{tp:Pos}(a it:Addr)(n ep:Nat):IC P w K (.Tuple elts x1 tp) (Itp a n ep) [it] it (λi h=>Zc h it a i n ep) where
 mem:=by simp
 obj:=λi h st b hb=>by
  obtain rfl:b=it:=by simpa using hb
  obtain⟨_,_,e⟩:=st;exact⟨_,e,λv z=>by cases z⟩
 keep:=λi h h' z3_ k=>by obtain⟨x,y,st⟩:=z3_;exact⟨x,y,k it (by simp) _ st⟩
 item:=by
  rintro X hP hw hK hc i pins s σ H E I hf st ⟨us,ha,hl,hi⟩;subst hP hw hK;obtain⟨_,_,es,en,sz,at_⟩:=JI I ha;have hz:es.size=n:=sz.trans hl;subst hz;have til:it<s.heap.objs.size:=by obtain⟨_,_,e⟩:=st;exact Heap.lt_size e
  obtain⟨u,hu⟩:∃u,us[i]?=some u:=⟨us[i]'(by omega),by simp[show i<us.length by omega]⟩;obtain⟨e,he,hk,rv⟩:=at_ i u hu;refine WU (I.ok.hd hc) st en (λe' he' h' st' ht hsz kk=>?_) λhn=>by rw[he] at hn;cases hn
  rw[he] at he';cases he';obtain⟨y1,y2,st'⟩:=st';refine⟨_,rfl,wpAny_letOwnedTupleGo_items st' λh2 st2 sb2=>?_⟩;have ht2:h2.get? s.heap.objs.size=some {cls:=.type "tuple",data:=.seq #[e.key,e.val]}:=(sb2.2 _ (HC til)).trans ht
  have new:Cc X.prog X.w (upd H s.heap.objs.size (.tup [.ref u.2.1,u.2.2])) h2 s.heap.objs.size (.tup [.ref u.2.1,u.2.2]) :=
   ⟨by rw[sizeLine_eq];show 2<=16777216;decide,[e.key,e.val],.cons hk (.cons rv .nil),⟨_,ht2,rfl,_,rfl⟩⟩
  have I1:=My (t':=s.toks) (h':=h2) I hf (λb o hb q=>by
   have hbi:b≠it:=λz=>hb (by simp[z])
   exact(sb2.2 b hbi).trans (kk b o hbi q)) (Al _) (λz=>absurd (AJi.mp z) (HC til)) (λb hb=>by
   obtain rfl:b=it:=by simpa using hb
   exact⟨_,st2⟩) new
  refine⟨.ref s.heap.objs.size,_,I1,rfl,⟨s.heap.objs.size,I.hok.fresh (Al _),rfl,λus' h'=>by rw[ha] at h';cases h';exact⟨u,hu,rfl⟩⟩,⟨_,_,st2⟩,λb hb=>?_⟩;obtain rfl:b=it:=by simpa using hb
  rw[Bn (Bu til)];exact(hf b (by simp)).1
 done:=by rintro X hP hw hK hc i pins s σ H E I hf st ⟨us,ha,hl,hi⟩;subst hP hw hK;obtain⟨_,_,es,en,sz,at_⟩:=JI I ha;obtain⟨f0,f1,f2,f3,f4,f5⟩:=hf it (by simp);have hz:es.size=n:=sz.trans hl;subst hz;refine WU (I.ok.hd hc) st en (λe' he' h' st' ht hsz kk=>?_) λ_ h' k=>⟨rfl,I.turned (t':=s.toks) (λb o hb q=>k b o hb q) f0 f1 f3 f4 f5⟩;rw[AK0 hi] at he';cases he'
 self:=λA i s Q E ⟨x,y,st⟩ h=>by
  have ty:s.TypeIs (.ref it) "dict_itemiterator":=⟨_,st,rfl⟩;refine wpAny_pyIter_slot ty AK5 (Gz AK5 ty AGg ?_ (PySem.F.args_dict_itemiterator_iter_1 _));show wpAny _ _ (ret (.ref it)) _ _ s;exact AU ⟨_,rfl,"dict_itemiterator",_,ty,PySem.F.slot_dict_itemiterator_next.lookup,h⟩
def Ir(k:Nat)(kvs:List (NK×D))(ep:Nat)(L:AD):Bool:=match L[k]? with|some (.dt kvs' ep')=>decide (kvs'.map (·.1)=kvs.map (·.1))&&ep' == ep|_=>false
def Gh(kvs:List (NK×D)):List D:=kvs.map λkv=>Eb kv.1
def HL(kvs:List (NK×D)):List D:=kvs.map λkv=>.tup [Eb kv.1,kv.2]
def Kd(f:EF):IF:=λρ L=>(f ρ L).bind λx=>match x.1 with
 |.ref k=>(match x.2[k]? with|some (.dt kvs ep)=>some (⟨Gh kvs,Ir k kvs ep⟩,x.2)|_=>none)
 |_=>none
def Kc(f:EF):IF:=λρ L=>(f ρ L).bind λx=>match x.1 with
 |.ref k=>(match x.2[k]? with|some (.dt kvs ep)=>some (⟨HL kvs,λL'=>decide (L'[k]?=some (.dt kvs ep))⟩,x.2)|_=>none)
 |_=>none
section
variable {X:Cx}{tg l:Expr}{f:EF}
theorem ACL{k:Nat}{kvs:List (NK×D)}{ep:Nat}{L:AD}(h:Ir k kvs ep L=true):∃kvs',L[k]?=some (.dt kvs' ep)/\kvs'.map (·.1)=kvs.map (·.1):=by
 unfold Ir at h;split at h
 .rename_i kvs' ep' e;rw[CJ] at h;obtain rfl:ep'=ep:=beq_iff_eq.mp h.2;exact⟨kvs',e,of_decide_eq_true h.1⟩
 .cases h
theorem WP(hl:Af X l f):FQ X tg l (Kd f):=by
 rintro pins s σ H R I ⟨O,ρ,L,J,L',r,e,k⟩;unfold Kd at e
 cases e1:f ρ L with
 |none=>rw[e1] at e;cases e
 |some p =>
  rw[e1] at e;obtain⟨d,L1⟩:=p;simp only[AS] at e;split at e
  .rename_i n;split at e
   .rename_i kvs ep e2;cases e;refine Ah (hl pins s σ H (λv H1=>∃a O1,v=.ref a/\Aq H O H1 O1/\BD X.K H1 O1 L'/\O1[n]?=some a) I ⟨O,ρ,L,_,_,r,e1,λv H1 O1 st rs is=>by cases is with|ref h=>exact⟨_,O1,rfl,st,rs,h⟩⟩) λv s1 z2_=>?_;obtain⟨x,H1,I1,r1,a,O1,ev,st,rs,hn⟩:=z2_;subst ev;cases r1;obtain⟨us,ha,ek,il,ik⟩:=rs.ob n _ _ hn e2;obtain⟨hsm,⟨ty,nd⟩,es,en,sz,_⟩:=JI I1 ha;have hul:us.length=kvs.length:=by simpa using congrArg List.length ek
    refine XT hsm ty en ?_;refine⟨s1.heap.objs.size,[s1.heap.objs.size],_,_,H1,rfl,I1.kept (t':=s1.toks) λb o q=>Heap.get?_push_of_some _ q,ABG a _ es.size ep,⟨_,Heap.get?_push_size _ rfl,rfl,rfl⟩,λb hb=>?_,k _ H1 O1 st rs λi H2 O2 L2 st2 rs2 ok=>?_⟩
    .obtain rfl:b=s1.heap.objs.size:=by simpa using hb
     exact I1.fpOk (Al _) (I1.hok.fresh (Al _))
    .obtain⟨kvs',e3,ekk⟩:=ACL ok;obtain⟨us',ha',ek',il',ik'⟩:=rs2.ob n _ _ (Dt st2.2 hn) e3;have hl':us'.length=es.size:=by rw[sz,hul];simpa using congrArg List.length (ek'.trans ekk)
     refine⟨λd hd=>?_,λh=>⟨us',ha',hl',by rw[sz,hul];simpa[Gh] using h⟩⟩
     have hi:i<kvs.length:=by
      rcases Nat.lt_or_ge i kvs.length with h|h
      .exact h
      .rw[show(Gh kvs)[i]?=none from AJw (by simpa[Gh] using h)] at hd;cases hd
     refine⟨⟨us',ha',hl',by rw[sz,hul];exact hi⟩,λx H' z2_=>?_⟩;obtain⟨eH,y⟩:=z2_;subst eH;obtain⟨u,hu,rfl⟩:=y us' ha';refine⟨.refl _ _,rs2,?_⟩;have hk:=ik' u (Cd hu);have e5:(us'.map (·.1))[i]?=some u.1:=by rw[BH,hu];rfl
     rw[ek',ekk,BH] at e5;simp only[Gh,BH] at hd
     cases e6:kvs[i]? with
     |none=>rw[e6] at e5;cases e5
     |some q =>
      rw[e6] at e5 hd;cases hd;show Is _ _ _ _ (Eb q.1);rw[show q.1=u.1 from Option.some.inj e5];exact hk
   .cases e
  .cases e
theorem WN{elts:List Expr}{x1:Nat}{tp apos cpos:Pos}(hl:Af X l f)(hbase:attributeBase l "items" X.env (eval l X.env)=eval l X.env:=by rfl)(hline:(apos.endLine == cpos.line)=true:=by rfl) :
  FQ X (.Tuple elts x1 tp) (.Call (.Attribute l "items" apos) [] [] cpos) (Kc f):=by
 rintro pins s σ H R I ⟨O,ρ,L,J,L',r,e,k⟩;unfold Kc at e
 cases e1:f ρ L with
 |none=>rw[e1] at e;cases e
 |some p =>
  rw[e1] at e;obtain⟨d,L1⟩:=p;simp only[AS] at e;split at e
  .rename_i n;split at e
   .rename_i kvs ep e2;cases e;refine wpAny_Call_method0_late hbase hline (Ah (hl pins s σ H (λv H1=>∃a O1,v=.ref a/\Aq H O H1 O1/\BD X.K H1 O1 L'/\O1[n]?=some a) I ⟨O,ρ,L,_,_,r,e1,λv H1 O1 st rs is=>by cases is with|ref h=>exact⟨_,O1,rfl,st,rs,h⟩⟩) λv s1 z2_=>?_);obtain⟨x,H1,I1,r1,a,O1,ev,st,rs,hn⟩:=z2_;subst ev;cases r1;obtain⟨us,ha,ek,il,ik⟩:=rs.ob n _ _ hn e2;obtain⟨hsm,⟨ty,nd⟩,es,en,sz,_⟩:=JI I1 ha;have hul:us.length=kvs.length:=by simpa using congrArg List.length ek
    refine⟨"dict","dict.items",AKq,PySem.F.slot_dict_items,PySem.F.type_dict_items,ty,λb q=>by cases q;exact nd,Calls.callWith_builtin rfl (PySem.evalArgs_none ?_)⟩;refine call_meetsIn PySem.F.slot_dict_items ty PySem.F.entry_dict_items (PySem.F.args_dict_items_1 _) (AEr hsm) ⟨ty,?_⟩;obtain⟨od,gd,dd⟩:=en;refine AD4 (d:=a) (es:=es) (ep:=ep) (s:={s1 with heap:=s1.heap.push {cls:=.type "dict_items",data:=.fields #[.ref a]}}) ⟨_,Heap.get?_push_size _ rfl,rfl,rfl⟩ ⟨od,Heap.get?_push_of_some _ gd,dd⟩ ?_;have I2:AK X pins σ H1 {s1 with heap:=s1.heap.push {cls:=.type "dict_items",data:=.fields #[.ref a]}}:=I1.kept (t':=s1.toks) λb o q=>Heap.get?_push_of_some _ q;refine⟨_,[_],_,_,H1,rfl,I2.kept (t':=s1.toks) λb o q=>Heap.get?_push_of_some _ q,ABE a _ es.size ep,⟨_,_,Heap.get?_push_size _ rfl⟩,λb hb=>?_,k _ H1 O1 st rs λi H2 O2 L2 st2 rs2 ok=>?_⟩
    .obtain rfl:=AJi.mp hb;exact I2.fpOk (Al _) (I2.hok.fresh (Al _))
    .have e3:L2[n]?=some (.dt kvs ep):=of_decide_eq_true ok;obtain⟨us',ha',ek',il',ik'⟩:=rs2.ob n _ _ (Dt st2.2 hn) e3;have hl':us'.length=es.size:=by rw[sz,hul];simpa using congrArg List.length ek'
     refine⟨λd hd=>?_,λh=>⟨us',ha',hl',by rw[sz,hul];simpa[HL] using h⟩⟩
     have hi:i<kvs.length:=by
      rcases Nat.lt_or_ge i kvs.length with h|h
      .exact h
      .rw[show(HL kvs)[i]?=none from AJw (by simpa[HL] using h)] at hd;cases hd
     refine⟨⟨us',ha',hl',by rw[sz,hul];exact hi⟩,λx H' z2_=>?_⟩;obtain⟨T,hT,ex,y⟩:=z2_;obtain⟨u,hu,eH⟩:=y us' ha';subst ex eH;have st3:Aq H2 O2 (upd H2 T (.tup [.ref u.2.1,u.2.2])) O2:=⟨.new hT,Ac _⟩;refine⟨st3,rs2.ext λb q h=>by rw[Bn (Du h hT)];exact h,?_⟩;have hk:=ik' u (Cd hu);have e5:(us'.map (·.1))[i]?=some u.1:=by rw[BH,hu];rfl
     rw[ek',BH] at e5;simp only[HL,BH] at hd
     cases e6:kvs[i]? with
     |none=>rw[e6] at e5;cases e5
     |some q =>
      rw[e6] at e5 hd;cases hd;have e7:q.1=u.1:=Option.some.inj e5;obtain⟨v,hv,iv⟩:=il'.get (i:=i) (d:=q.2) (by rw[BH,e6];rfl);rw[BH,hu] at hv;cases hv;show Is _ _ _ _ (.tup [Eb q.1,q.2]);rw[e7];exact .tup (Bt.of Ce) (.cons (hk.mono st3) (.cons (iv.mono st3) .nil))
   .cases e
  .cases e
end
def ItE(K:AO)(a:Addr)(n:Nat):It :=
 ⟨λi H=>∃xs,Bj K H a xs/\xs.length=n/\i<n,λi H v H'=>∃T,H T=none/\v=.ref T/\∀xs,Bj K H a xs->∃x,xs[i]?=some x/\H'=upd H T (.tup [.int (i:Int),x]),λi H=>∃xs,Bj K H a xs/\xs.length=n/\n<=i⟩
theorem ABH{P:Program}{w:World}{K:AO}{elts:List Expr}{x1:Nat}{tp:Pos}(a e it:Addr)(n:Nat)(hei:e≠it) :
  IC P w K (.Tuple elts x1 tp) (ItE K a n) [e,it] e (λi h=>(∃old,IsEnum h e it (i:Int) old)/\h.IsListIter it a i/\i<=n) where
 mem:=by simp
 obj:=λi h st b hb=>by
  obtain⟨⟨old,he⟩,⟨o,e1,c,d⟩,_⟩:=st;rcases Ae.mp hb with rfl|hb
  .exact⟨_,he,λv z=>by cases z⟩
  .obtain rfl:=AJi.mp hb;exact⟨o,e1,λv z=>by rw[d] at z;cases z⟩
 keep:=λi h h' z3_ k=>by obtain⟨⟨old,he⟩,si,hi⟩:=z3_;exact⟨⟨old,k e (by simp) _ he⟩,si.at λo q=>k it (by simp) o q,hi⟩
 item:=by
  rintro X hP hw hK hc i pins s σ H E I hf st ⟨xs,hq,hl,hi⟩;subst hP hw hK;obtain⟨⟨old,he⟩,hs,_⟩:=st;obtain⟨its,rv,p,hz⟩:=I.list hq;have hlen:its.length=n:=by rw[<-rv.length];exact hl
  have hel:e<s.heap.objs.size:=Heap.lt_size he;have hil:it<s.heap.objs.size:=by obtain⟨o,e1,_⟩:=hs;exact Heap.lt_size e1
  obtain⟨x,hx⟩:∃x,xs[i]?=some x:=⟨xs[i]'(by omega),by simp[show i<xs.length by omega]⟩;obtain⟨u,hu,ru⟩:=rv.get hx
  have hae:a≠e:=λz=>by
   obtain⟨o,g,c,_⟩:=p.isList;rw[z] at g;have g':=he.symm.trans g;cases g';exact absurd (show Value.type "enumerate"=Value.type "list" from c) (by decide)
  have hai:a≠it:=λz=>by
   obtain⟨o,g,c,_⟩:=p.isList;obtain⟨o',g',c',_⟩:=hs;rw[z] at g;rw[g] at g';cases g';rw[c] at c';exact absurd c' (by decide)
  refine wpAny_pyNext_enum_itemD (Draws.list (show X.A.in1.handled=none from I.ok.hd hc) it a hai its.toArray) he ⟨hs,p.isList⟩ (by rw[Bx,hlen];exact hi) hei (by simp[hei,Ne.symm hae]) λv h' tk hv heo hs' ht _ kk=>⟨_,rfl,?_⟩
  obtain rfl:v=u:=by
   have:its[i]?=some v:=by simpa using hv
   rw[hu] at this;exact(Option.some.inj this).symm
  refine wpAny_letOwnedTupleGo_enum heo λh2 he2 sb2=>?_;have hs2:h2.IsListIter it a (i+1):=hs'.1.at λo q=>(sb2.2 it (Ne.symm hei)).trans q;have ht2:h2.get? s.heap.objs.size=some {cls:=.type "tuple",data:=.seq #[.int i tk,v]}:=(sb2.2 _ (HC hel)).trans ht
  have new:Cc X.prog X.w (upd H s.heap.objs.size (.tup [.int (i:Int),x])) h2 s.heap.objs.size (.tup [.int (i:Int),x]) :=
   ⟨by rw[sizeLine_eq];show 2<=16777216;decide,[.int i tk,v],.cons ⟨_,rfl⟩ (.cons ru .nil),⟨_,ht2,rfl,_,rfl⟩⟩
  have I1:=My (t':=tk+1) (h':=h2) I hf (λb o hb q=>by
    have hbe:b≠e:=λz=>hb (by simp[z]);have hbi:b≠it:=λz=>hb (by simp[z])
    exact(sb2.2 b hbe).trans (kk b o hbe hbi q)) (Al _) (λz=>by
    rcases Ae.mp z with z|z
    .exact absurd z (HC hel)
    .exact absurd (AJi.mp z) (HC hil)) (λb hb=>by
    rcases Ae.mp hb with rfl|hb
    .exact⟨_,he2⟩
    .obtain rfl:=AJi.mp hb;obtain⟨o,e1,_⟩:=hs2
     exact⟨o,e1⟩) new
  refine⟨.ref s.heap.objs.size,_,I1,rfl,⟨s.heap.objs.size,I.hok.fresh (Al _),rfl,λys hy=>by rw[I.list_inj hy hq];exact⟨x,hx,rfl⟩⟩,⟨⟨v,?_⟩,hs2,hi⟩,λb hb=>?_⟩
  .rw[show((i+1:Nat):Int)=(i:Int)+1 by omega];exact he2
  .rw[Bn]
   .exact(hf b hb).1
   .rcases Ae.mp hb with z|z
    .rw[z];exact Bu hel
    .rw[AJi.mp z];exact Bu hil
 done:=by
  rintro X hP hw hK hc i pins s σ H E I hf st ⟨xs,hq,hl,hi⟩;subst hP hw hK;obtain⟨⟨old,he⟩,hs,hin⟩:=st;obtain⟨its,rv,p,hz⟩:=I.list hq;have hlen:its.length=n:=by rw[<-rv.length];exact hl
  obtain⟨f0,f1,f2,f3,f4,f5⟩:=hf it (by simp)
  have hai:a≠it:=λz=>by
   obtain⟨o,g,c,_⟩:=p.isList;obtain⟨o',g',c',_⟩:=hs;rw[z] at g;rw[g] at g';cases g';rw[c] at c';exact absurd c' (by decide)
  obtain rfl:i=its.toArray.size:=by rw[Bx,hlen];omega
  exact wpAny_pyNext_enum_endD (Draws.list (show X.A.in1.handled=none from I.ok.hd hc) it a hai its.toArray) he ⟨hs,p.isList⟩ λh' eb=>⟨rfl,I.turned (t':=s.toks) (λb o hb q=>eb b o hb q) f0 f1 f3 f4 f5⟩
 self:=λA i s Q E st h=>by
  obtain⟨⟨old,he⟩,_⟩:=st;exact wpAny_pyIter_enum he h
def Li(f:AF):IF:=λρ L=>(f ρ L).bind λx=>match x.1 with
 |[.ref k]=>(match x.2[k]? with|some (.lst xs)=>some (⟨Fs xs,λL'=>decide (L'[k]?=some (.lst xs))⟩,x.2)|_=>none)
 |_=>none
theorem YW(xs:List D)(i:Nat):(Fs xs)[i]?=(xs[i]?).map λd=>.tup [.int (i:Int),d]:=by unfold Fs;rw[BH,List.getElem?_zipIdx];cases xs[i]? <;> simp
section
variable {X:Cx}{elts:List Expr}{x1:Nat}{tp p pos:Pos}{a:Expr}{fa:AF}
theorem ADO(hm:X.mg "enumerate"=none)(ha:FR X [a] fa)(hg:Gl X "enumerate":=by rfl)(hs:starEach [a] X.env=[(false,eval a X.env)]:=by rfl):FQ X (.Tuple elts x1 tp) (.Call (.Name "enumerate" p) [a] [] pos) (Li fa):=by
 rintro pins s σ H R I ⟨O,ρ,L,J,L',r,e,k⟩;unfold Li at e
 cases e1:fa ρ L with
 |none=>rw[e1] at e;cases e
 |some q =>
  rw[e1] at e;obtain⟨ds,L1⟩:=q;simp only[AS] at e;split at e
  .rename_i n;split at e
   .rename_i xs e2;cases e;refine Call_ (Iy I hg hm (u:=.type "enumerate") (by decide +kernel) (PyProof.Rows.callWith_type1 (Ah (ha pos pins s σ H (λvs H1=>∃a O1,vs=[.ref a]/\Aq H O H1 O1/\BD X.K H1 O1 L'/\O1[n]?=some a) I ⟨O,ρ,L,_,_,r,e1,λvs H1 O1 st rs is=>?_⟩) λus s1 ⟨vs,H1,I1,r1,b,O1,ev,st,rs,hn⟩=>?_) hs rfl))
    .cases is with
     |cons i1 i2=>cases i2;cases i1 with|ref h=>exact⟨_,O1,rfl,st,rs,h⟩
    .subst ev;obtain⟨u,rfl,ru⟩:=En r1;cases ru;obtain⟨ws,hw,il⟩:=rs.ob n _ _ hn e2;obtain⟨its,rv,pl,hz⟩:=I1.list (Bj.of hw);refine call_enumerate_list pl.isList λh' he hs' hz' kk=>?_;refine wpAny_pyIter_enum he ?_;have I2:AK X pins σ H1 {s1 with heap:=h'}:=I1.kept (t':=s1.toks) kk;refine⟨s1.heap.objs.size+1,[s1.heap.objs.size+1,s1.heap.objs.size],_,_,H1,rfl,I2,ABH b _ _ xs.length (Nat.succ_ne_self _),⟨⟨_,he⟩,hs',FE _⟩,λb hb=>?_,k _ H1 O1 st rs λi H2 O2 L2 st2 rs2 ok=>?_⟩
     .rcases Ae.mp hb with rfl|hb
      .exact I1.fpOk (AKA _) (I1.hok.fresh (AKA _))
      .obtain rfl:=AJi.mp hb;exact I1.fpOk (Al _) (I1.hok.fresh (Al _))
     .obtain⟨ws',hw',il'⟩:=rs2.ob n _ _ (Dt st2.2 hn) (of_decide_eq_true ok);refine⟨λd hd=>?_,λh=>⟨ws',Bj.of hw',il'.length,by simpa[Fs] using h⟩⟩;simp only at hd;rw[YW] at hd
      cases ec:xs[i]? with
      |none=>rw[ec] at hd;cases hd
      |some c =>
       rw[ec] at hd;cases hd;refine⟨⟨ws',Bj.of hw',il'.length,(BY.mp ec).1⟩,λx H' ⟨T,hT,ex,y⟩=>?_⟩;obtain⟨v,hv,eH⟩:=y ws' (Bj.of hw');subst ex eH;obtain⟨v',hv',iv⟩:=il'.get ec;rw[hv] at hv';cases hv';have st3:Aq H2 O2 (upd H2 T (.tup [.int (i:Int),v])) O2:=⟨.new hT,Ac _⟩;exact⟨st3,rs2.ext λa u e=>by rw[Bn (Du e hT)];exact e,.tup (Bt.of Ce) (.cons (.int _) (.cons (iv.mono st3) .nil))⟩
   .cases e
  .cases e
end
theorem Ut:∀{vs:List V} {us:List Value},vs.length=us.length->(∀(i:Nat) (v:V),vs[i]?=some v->∃u,us[i]?=some u/\Ai v u)->Ak vs us
 |[],[],_,_=>.nil
 |[],_::_,h,_=>by simp at h
 |_::_,[],h,_=>by simp at h
 |v::vs,u::us,h,f=>by
  refine .cons ?_ (Ut (by simpa using h) λi w hw=>by simpa using f (i+1) w (by simpa using hw));obtain⟨u',e,r⟩:=f 0 v rfl;cases e;exact r
section
variable {X:Cx}
theorem AEs{prog:Program}{w:World}{d:Addr}(hd:(d == sysModules)=false):MeetsIn prog w (Builtin.«dict.__len__» ⟨[.ref d],[]⟩) (λ_ R s=>∃es ep,KB s.heap d es ep/\R (.ok (.ret (.int es.size s.toks))) {s with toks:=s.toks+1}) :=
 .of_wp λA R s z3_=>by
  obtain⟨es,ep,⟨o,g,dat⟩,k⟩:=z3_;refine AH (m:=dictSize d) (AH (ALG g dat (AU (AH (m:=Builtin.Dict.pendingCount d) (wpAny_pendingCount_other hd (wpAny_ret_mkInt ?_))))));exact k
def Lo:GL:=λxs L=>match xs with
 |[.ref k]=>(match L[k]? with|some (.dt kvs _)=>some (.int (kvs.length:Int),L)|_=>none)
 |_=>none
theorem AG4:Ff X (.builtin "len") Lo:=λpins s σ H vs us Q I rv z9_=>by
 obtain⟨O,L,xs,d,L',rs,is,e,k⟩:=z9_;unfold Lo at e;split at e
 .rename_i n;split at e
  .rename_i kvs ep e1;cases e
   cases is with|cons i1 i2=>cases i2;cases i1 with|ref hn =>
    obtain⟨u,rfl,ru⟩:=En rv;cases ru;obtain⟨ws,ha,ek,_,_⟩:=rs.ob n _ _ hn e1;obtain⟨hsm,⟨ty,_⟩,es,en,sz,_⟩:=JI I ha;have hz:ws.length<=sizeLine:=(show Cc X.prog X.w H s.heap _ (.dN ws ep) from I.hok _ _ ha).1;have hl:ws.length=kvs.length:=by simpa using congrArg List.length ek
    have es1:es.size=kvs.length:=sz.trans hl;rw[sizeLine_eq] at hz;refine Calls.call_function_entry kind_len plain_len entry_len (args_len1 _) ?_
    refine AH (m:=oneArg "len" _) (AU (AH (m:=callSpecial? (.ref _) (Str.ofString "__len__")) (ALC (name:=Str.ofString "__len__") ty PySem.F.slot_dict_len
     (call_meetsIn PySem.F.slot_dict_len ty PySem.F.entry_dict_len (PySem.F.args_dict_len_1 _) (AEs hsm) ⟨es,ep,en,?_⟩))))
    refine AH (EV (AU (AH (wpAny_letGo ?_))))
    show wpAny _ _ (if ((es.size:Nat):Int)<0 then _ else if ((es.size:Nat):Int) ≥ 2 ^ 63 then _ else _) _ _ _
    rw[if_neg (by omega),if_neg (by omega)];refine AH (wpAny_mkInt (AU ⟨_,rfl,?_⟩));exact⟨.int es.size,H,(I.tok _).tok _,⟨_,rfl⟩,by rw[es1];exact k _ _ _ (.refl _ _) rs (.int _)⟩
  .cases e
 .cases e
theorem AA1{prog:Program}{w:World}{A:Around}(hh:A.handled=none)(t d:Addr)(hne:d≠t)(es:Array DictEntry)(ep:Nat) :
  Walks prog w A t [t,d] [t] es.size (λi v=>∃e,es[i]?=some e/\v=e.key) (λi h=>h.IsKeyIter t d i es.size ep/\KB h d es ep) where
 sub:=λb hb=>by simp at hb;simp[hb]
 frame:=λ_ _ _ z3_ k=>by obtain⟨a,o,g,dat⟩:=z3_;exact⟨a.at λo q=>k t (by simp) o q,o,k d (by simp) o g,dat⟩
 item:=λi s Q E hi ⟨a,o,g,dat⟩ k=>by
  refine Nd hh a ⟨o,g,dat⟩ (λe he h' a' sb=>?_) λhn=>by rw[Array.getElem?_eq_none_iff] at hn;omega
  exact k e.key h' s.toks ⟨e,he,rfl⟩ ⟨a',o,(sb.2 d hne).trans g,dat⟩ λb q hb e'=>(sb.2 b (by simpa using hb)).trans e'
 done:=λs Q E ⟨a,en⟩ k=>by
  refine Nd hh a en (λe he=>by rw[AK0 (Al _)] at he;cases he) λ_ h' x=>?_;exact k h' s.toks λb q hb e'=>x b q (by simpa using hb) e'
 self:=λ_ _ _ _ st h=>wpAny_pyIter_keyiter st.1 h
def AHu(h:Heap)(d:Addr)(es:Array DictEntry)(ep:Nat):Prop:=∃o,h.get? d=some o/\o.cls=.type "dict"/\o.data=.dict es ep
theorem ABu{prog:Program}{w:World}{d:Addr}{es:Array DictEntry}{ep:Nat}(hd:(d == sysModules)=false):PySem.W.KdlSrc prog w "dict" d d es.size (λi v=>∃e,es[i]?=some e/\v=e.key) (λh=>AHu h d es ep) where
 type:=λ_ z1_=>by obtain⟨o,g,c,_⟩:=z1_;exact⟨o,g,c⟩
 there:=λ_ z1_=>by obtain⟨o,g,_⟩:=z1_;exact⟨Heap.lt_size g,Heap.lt_size g⟩
 keep:=λ_ _ z2_ k=>by obtain⟨o,g,r⟩:=z2_;exact⟨o,k d (.inl rfl) o g,r⟩
 notList:=by decide
 notTuple:=by decide
 hint:=λ_ _ _ _ z4_ q=>by obtain⟨o,g,c,_⟩:=z4_;exact PySem.W.kdl_hint_dict ⟨o,g,c⟩ q
 iter:=λA s hh ⟨o,g,c,dat⟩=>⟨_,_,λE Q q=>XT hd ⟨o,g,c⟩ ⟨o,g,dat⟩ q,AA1 hh _ d (Bu (Heap.lt_size g)) es ep,⟨_,Heap.get?_push_size _ rfl,rfl,rfl⟩,o,Heap.get?_push_of_some _ g,dat⟩
def Ln:GL:=λxs L=>match xs with
 |[.ref k]=>(match L[k]? with|some (.dt kvs _)=>some (.ref L.length,L++[.lst (Gh kvs)])|_=>none)
 |_=>none
theorem AG3(hc:X.calm=true):Ff X (.type "list") Ln:=λpins s σ H vs us Q I rv z9_=>by
 obtain⟨O,L,xs,d,L',rs,is,e,k⟩:=z9_;unfold Ln at e;split at e
 .rename_i n;split at e
  .rename_i kvs ep e1;cases e
   cases is with|cons i1 i2=>cases i2;cases i1 with|@ref _ a hn =>
    obtain⟨u,rfl,ru⟩:=En rv;cases ru;obtain⟨ws,ha,ek,il,ik⟩:=rs.ob n _ _ hn e1;obtain⟨hsm,⟨⟨o,g,c⟩,_⟩,es,⟨o',g',dat⟩,sz,at_⟩:=JI I ha;rw[g] at g';cases g';have hz:ws.length<=sizeLine:=(show Cc X.prog X.w H s.heap _ (.dN ws ep) from I.hok _ _ ha).1;have hl:ws.length=kvs.length:=by simpa using congrArg List.length ek
    refine PySem.W.kdl_call (ABu (ep:=ep) hsm) (I.ok.hd hc) ⟨o,g,c,dat⟩ (by rw[sz];exact hz) λh' tk acc c' kk hD hacc=>?_
    -- the list of the keys
    have hv:Ak (ws.map λw=>V.ref w.2.1) acc.toList:=by
     refine Ut (by have h9:=hacc.1;rw[sz] at h9;simp[h9]) λi v hv=>?_;rw[BH] at hv
     cases ew:ws[i]? with
     |none=>rw[ew] at hv;cases hv
     |some q =>
      rw[ew] at hv;cases hv;obtain⟨en,h1,h2,_⟩:=at_ i q ew;have hi:i<acc.size:=by rw[hacc.1,sz];exact(BY.mp ew).1
      obtain⟨en',h3,h4⟩:=hacc.2 i acc[i] (by simp[hi]);rw[h1] at h3;cases h3;exact⟨acc[i],by simp[hi],by rw[h4];exact h2⟩
    have hf:H s.heap.objs.size=none:=I.hok.fresh (Al _)
    have I1:AK X pins σ (upd H s.heap.objs.size (.lst (ws.map λw=>V.ref w.2.1))) {s with heap:=h',toks:=tk} :=
     I.laid (t':=tk) kk (Al _) ⟨by rw[An];exact hz,acc.toList,c',hv,by simpa using hD⟩
    have st:Aq H O (upd H s.heap.objs.size (.lst (ws.map λw=>V.ref w.2.1))) (O++[s.heap.objs.size]):=⟨.new hf,BB _ _⟩
    have ikk:AV X.K H O (ws.map λw=>V.ref w.2.1) (Gh kvs):=by
     have go:∀{l:List (NK×Addr×V)} {m:List (NK×D)},l.map (·.1)=m.map (·.1)->(∀u∈l,Is X.K H O (.ref u.2.1) (Eb u.1))->AV X.K H O (l.map λw=>V.ref w.2.1) (Gh m):=by
      intro l
      induction l with
      |nil=>intro m em _;cases m with|nil=>exact .nil|cons=>simp at em
      |cons q l ih =>
       intro m em hm
       cases m with
       |nil=>simp at em
       |cons p m =>
        simp only[Am,List.cons.injEq] at em;refine .cons ?_ (ih em.2 λu hu=>hm u (BQ _ hu));show Is X.K H O (.ref q.2.1) (Eb p.1);rw[<-em.1];exact hm q BW
     exact go ek ik
    exact⟨.ref s.heap.objs.size,_,I1,rfl,k _ _ _ st (rs.new hf ⟨_,Ce,ikk.mono st⟩) (.ref (by rw[<-rs.len];simp))⟩
  .cases e
 .cases e
end
def ER(b:Bool)(h:Heap)(l:Addr)(its:Array Value):Prop:=match b with|true=>h.IsTuple l its|false=>h.IsList l its
def DM(b:Bool)(h:Heap)(t l:Addr)(k:Nat):Prop:=match b with|true=>h.IsTupleIter t l k|false=>h.IsListIter t l k
section
variable {prog:Program}{w:World}{A:Around}{E:ALL}{s:Shared}{b:Bool}{h h':Heap}{t l:Addr}{k:Nat}{its:Array Value}
theorem ER.ext(x:ER b h l its)(e:∀o,h.get? l=some o->h'.get? l=some o):ER b h' l its:=by
 cases b with
 |true=>obtain⟨o,g,r⟩:=x;exact⟨o,e o g,r⟩
 |false=>obtain⟨o,g,r⟩:=x;exact⟨o,e o g,r⟩
theorem DM.ext(x:DM b h t l k)(e:∀o,h.get? t=some o->h'.get? t=some o):DM b h' t l k:=by
 cases b with
 |true=>obtain⟨o,g,r⟩:=x;exact⟨o,e o g,r⟩
 |false=>obtain⟨o,g,r⟩:=x;exact⟨o,e o g,r⟩
theorem DM.obj(x:DM b h t l k):∃o,h.get? t=some o/\∀v,o.data≠.cell v:=by
 cases b with
 |true=>obtain⟨o,g,_,d⟩:=x;exact⟨o,g,λv z=>by rw[d] at z;cases z⟩
 |false=>obtain⟨o,g,_,d⟩:=x;exact⟨o,g,λv z=>by rw[d] at z;cases z⟩
theorem ACI{Q:ALL}(x:ER b s.heap l its)(q:∀o,DM b (s.heap.push o) s.heap.objs.size l 0->Q (.ref s.heap.objs.size) {s with heap:=s.heap.push o}):wpAny (model prog w) A (pyIter (.ref l)) Q E s:=by
 cases b with
 |true=>exact wpAny_pyIter_tuple x (q _ ⟨_,Heap.get?_push_size _ rfl,rfl,rfl⟩)
 |false=>exact wpAny_pyIter_list x (q _ ⟨_,Heap.get?_push_size _ rfl,rfl,rfl⟩)
theorem tup_next{Q:ALL}(hh:A.handled=none)(i:s.heap.IsTupleIter t l k)(x:s.heap.IsTuple l its)(some_:∀v,its[k]?=some v->∀h',h'.IsTupleIter t l (k+1)->Heap.SameBut t s.heap h'->Q v {s with heap:=h'})
  (none_:its[k]?=none->∀h' e,Heap.ExtBut t s.heap h'->(∃o,h'.get? e=some o/\o.cls=.type "StopIteration")->E (.ref e) {s with heap:=h'}):wpAny (model prog w) A (Builtin.SmallTypes.nextOf (.ref t)) Q E s:=by
 obtain⟨ot,gt,ct,dt⟩:=id i;obtain⟨ol,gl,_,n,dl⟩:=x
 have inner:∀{R:ALL},(∀v,its[k]?=some v->∀h',h'.IsTupleIter t l (k+1)->Heap.SameBut t s.heap h'->R v {s with heap:=h'}) ->
   wpAny (model prog w) A.in1 (Builtin.«tuple_iterator.__next__» ⟨[.ref t],[]⟩) (λfi s2=>∃v,fi=PySem.Fin.done (Flow.ret v)/\R v s2) E s:=λ{R} one=>by
  refine AH (m:=field (.ref t) 0) (FT (x:=.ref l) gt dt rfl ?_)
  show wpAny _ _ (if (Value.ref l == Value.none)=true then _ else _) _ _ s
  rw[if_neg (λz=>by cases (show(false:Bool)=true from z))];refine AH (m:=field (.ref t) 1) (FT (x:=.int k 0) gt dt rfl (AH (m:=seqItems? (.ref l)) (AK8 gl dl ?_)));simp only[AJr]
  cases ev:its[k]? with
  |none =>
   refine AH (AK7 (AH (m:=setField (.ref t) 0 .none) (wpAny_setField gt dt (by simp) ?_)));exact Rt (A:=A.in1) (t:=t) (h0:=s.heap) (s:={s with heap:=s.heap.update t (Obj.mapFields (·.setIfInBounds 0 .none))}) hh (Heap.SameBut.update ..).extBut λh' k x hx=>none_ ev h' x k hx
  |some v =>
   refine AH (wpAny_setField gt dt (by simp) (AU ⟨v,rfl,one v ev _ ?_ (Heap.SameBut.update ..)⟩));exact⟨_,Heap.get?_update_self _ gt (Obj.isFreed_of_fields (Obj.data_mapFields dt _)),(Obj.cls_mapFields ..).trans ct,by rw[Obj.data_mapFields dt];simp[rawInt]⟩
 unfold Builtin.SmallTypes.nextOf;exact AH (ALC (name:=Str.ofString "__next__") i.typeIs AK6 (Gz AK6 i.typeIs PySem.F.entry_tuple_iterator_next (inner λv hv h' i' sb=>AU (some_ v hv h' i' sb)) (PySem.F.args_tuple_iterator_next_1 _)))
theorem ACH{v:Value}{Q:ALL}(hh:A.handled=none)(i:DM b s.heap t l k)(x:ER b s.heap l its)(hv:its[k]?=some v)(q:∀h',DM b h' t l (k+1)->Heap.SameBut t s.heap h'->Q v {s with heap:=h'}):wpAny (model prog w) A (Builtin.SmallTypes.nextOf (.ref t)) Q E s:=by
 cases b with
 |true=>exact tup_next hh i x (λv' e h' i' sb=>by rw[hv] at e;cases e;exact q h' i' sb) λe=>by rw[hv] at e;cases e
 |false=>exact wpAny_nextOf_list_item i x hv q
theorem ACK{Q:ALL}(hh:A.handled=none)(i:DM b s.heap t l k)(x:ER b s.heap l its)(hv:its[k]?=none)(q:∀h' e,Heap.ExtBut t s.heap h'->(∃o,h'.get? e=some o/\o.cls=.type "StopIteration")->E (.ref e) {s with heap:=h'}):wpAny (model prog w) A (Builtin.SmallTypes.nextOf (.ref t)) Q E s:=by
 cases b with
 |true=>exact tup_next hh i x (λv' e=>by rw[hv] at e;cases e) λ_=>q
 |false=>exact wpAny_nextOf_list_end hh i x hv q
end
structure Src where
 b:Bool
 t:Addr
 l:Addr
abbrev Ei(h:Heap)(T:Addr)(vs:List Value):Prop:=h.get? T=some {cls:=.type "tuple",data:=.seq vs.toArray}
def LU:List Value->Nat->List Value->List Value
 |kept,_,[]=>kept
 |kept,j,v::vs=>LU (kept.set j v) (j+1) vs
theorem WD:∀(vs kept:List Value) (j:Nat),kept.length=j+vs.length->LU kept j vs=kept.take j++vs
 |[],kept,j,h=>by simp only[LU,AKK];rw[AKN (by simpa using AJz h)]
 |v::vs,kept,j,h=>by
  simp only[EX] at h;rw[LU,WD vs _ _ (by rw[AKB];omega)];rw[List.take_succ,AJ9 (by omega),List.take_set_of_le (Al _)];simp
section
variable {prog:Program}{w:World}{A:Around}{E:ALL}{s:Shared}{z TI TO:Addr}{k:Nat}
def AHt(M:Model)(A:Around)(E:ALL)(s:Shared)(z TI TO:Addr)(k:Nat){β:Type}(init:β)(f:Value×Nat->β->Sem (ForInStep β)):Prop :=
 ∀(r:Src) (j:Nat) (v:Value) (its:Array Value) (h1:Heap) (kept:List Value),DM r.b h1 r.t r.l k->ER r.b h1 r.l its->its[k]?=some v->IsZip h1 z TI TO .ellipsis->Ei h1 TO kept->kept.length<=1000->r.t≠TO->r.t≠z ->
  ∀G:ForInStep β->Shared->Prop,(∀h2,DM r.b h2 r.t r.l (k+1)->Ei h2 TO (kept.set j v)->IsZip h2 z TI TO .ellipsis->h2.objs.size=h1.objs.size->(∀c o,c≠TO->c≠r.t->h1.get? c=some o->h2.get? c=some o)->G (.yield init) {s with heap:=h2}) ->
   wpAny M A (f (.ref r.t,j) init) G E {s with heap:=h1}
theorem AGm{M:Model}{β:Type}{init:β}{f:Value×Nat->β->Sem (ForInStep β)}(one:AHt M A E s z TI TO k init f)(tz:TO≠z):∀(rs:List Src) (vs:List Value) (j:Nat) (h1:Heap) (kept:List Value),
  Paired (λ(r:Src) v=>DM r.b h1 r.t r.l k/\∃its,ER r.b h1 r.l its/\its[k]?=some v) rs vs->(rs.map (·.t)).Nodup->(∀r∈rs,r.t≠TO/\r.t≠z/\r.l≠TO/\∀q∈rs,r.l≠q.t)->IsZip h1 z TI TO .ellipsis->Ei h1 TO kept->kept.length<=1000 ->
  ∀G:β->Shared->Prop,(∀h2,(∀r∈rs,DM r.b h2 r.t r.l (k+1))->Ei h2 TO (LU kept j vs)->IsZip h2 z TI TO .ellipsis->h2.objs.size=h1.objs.size->(∀c o,c≠TO->c∉rs.map (·.t)->h1.get? c=some o->h2.get? c=some o)->G init {s with heap:=h2}) ->
   wpAny M A (forIn ((rs.map λr=>Value.ref r.t).zipIdx j) init f) G E {s with heap:=h1}:=by
 intro rs
 induction rs with
 |nil =>
  intro vs j h1 kept p _ _ hz ht _ G q;cases p;exact AU (q h1 (λ_ h=>nomatch h) ht hz rfl λc o _ _ e=>e)
 |cons r rs ih =>
  intro vs j h1 kept p nd ap hz ht hk G q
  cases p with
  |@cons _ v _ vs hr ps =>
  obtain⟨ir,its,xr,hv⟩:=hr;rw[Am,List.zipIdx_cons,AKH];obtain⟨a1,a2,a3,a4⟩:=ap r BW;rw[Am,Hk] at nd;refine AH (one r j v its h1 kept ir xr hv hz ht hk a1 a2 _ λh2 i2 t2 z2 s2 k2=>?_);have ne:∀r'∈rs,r'.t≠r.t:=λr' h' e=>nd.1 (by rw[<-e];exact Cj h')
  have ps2:Paired (λ(r:Src) v=>DM r.b h2 r.t r.l k/\∃its,ER r.b h2 r.l its/\its[k]?=some v) rs vs:=by
   have go:∀{l:List Src} {m:List Value},(∀x∈l,x∈rs)->Paired (λ(r:Src) v=>DM r.b h1 r.t r.l k/\∃its,ER r.b h1 r.l its/\its[k]?=some v) l m->Paired (λ(r:Src) v=>DM r.b h2 r.t r.l k/\∃its,ER r.b h2 r.l its/\its[k]?=some v) l m:=by
    intro l m hl p
    induction p with
    |nil=>exact .nil
    |@cons x u l m hx _ ih =>
     obtain⟨i1,its1,x1,e1⟩:=hx;have hm:=hl x BW;obtain⟨c1,c2,c3,c4⟩:=ap x (BQ _ hm);exact .cons ⟨i1.ext λo e=>k2 _ o c1 (ne x hm) e,its1,x1.ext λo e=>k2 _ o c3 (c4 r BW) e,e1⟩ (ih λy hy=>hl y (BQ _ hy))
   exact go (λ_ h=>h) ps
  refine ih vs (j+1) h2 (kept.set j v) ps2 nd.2 (λr' h'=>?_) z2 t2 (by rw[AKB];exact hk) G λh3 i3 t3 z3 s3 k3=>?_
  .obtain⟨c1,c2,c3,c4⟩:=ap r' (BQ _ h');exact⟨c1,c2,c3,λq' hq=>c4 q' (BQ _ hq)⟩
  .refine q h3 (λr' h'=>?_) t3 z3 (s3.trans s2) λc o c1 c2 e=>?_
   .rcases Ae.mp h' with e|h'
    .subst e;exact i2.ext λo e=>k3 _ o a1 nd.1 e
    .exact i3 r' h'
   .simp only[Am,Ae,not_or] at c2;exact k3 c o c1 c2.2 (k2 c o c1 c2.1 e)
theorem AAW{zs:List Src}{vs old:List Value}{R:ALL}(hh:A.handled=none)(hz:IsZip s.heap z TI TO .none)(hi:Ei s.heap TI (zs.map λr=>.ref r.t))(ht:Ei s.heap TO old)(ho:old.length=vs.length)(hk:old.length<=1000)(ne:zs≠[])
  (nd:(zs.map (·.t)).Nodup) (tz:TO≠z) (iz:TI≠z) (ap:∀r∈zs,r.t≠TO/\r.t≠z/\r.l≠TO/\r.l≠z/\∀q∈zs,r.l≠q.t) (each:Paired (λ(r:Src) v=>DM r.b s.heap r.t r.l k/\∃its,ER r.b s.heap r.l its/\its[k]?=some v) zs vs)
  (q:∀h',IsZip h' z TI TO (rawInt s.heap.objs.size)->Ei h' TO vs->(∀r∈zs,DM r.b h' r.t r.l (k+1))->Ei h' s.heap.objs.size vs->(∀c o,c≠z->c≠TO->c∉zs.map (·.t)->s.heap.get? c=some o->h'.get? c=some o)->R (.ref s.heap.objs.size) {s with heap:=h'}) :
  wpAny (model prog w) A (Builtin.«zip.__next__» ⟨[.ref z],[]⟩) (λfi s2=>∃v,fi=PySem.Fin.done (Flow.ret v)/\R v s2) E s:=by
 refine AH (m:=field (.ref z) 2) (FT (x:=.bool false) hz rfl rfl (AH (m:=field (.ref z) 3) (FT (x:=.ref TI) hz rfl rfl (AH (AK8 hi rfl ?_)))));have hem:(zs.map λr=>Value.ref r.t).toArray.isEmpty=false:=by cases zs with|nil=>exact absurd rfl ne|cons=>rfl
 simp only[hem,AKF,if_false];refine AH (m:=Builtin.SmallTypes.ownedTupleIsFree (.ref z)) (AH (FT (x:=.none) hz rfl rfl (AU ?_)));rw[if_pos rfl];refine AH (AK7 (AH (FT (x:=.ref TO) hz rfl rfl (AH (ALJ hz (by simp) λh1 z1 b1=>?_)))));have z1':IsZip h1 z TI TO .ellipsis:=z1;refine AH ?_;refine AGm (M:=model prog w) (E:=E) (A:=A) (s:=s) (TI:=TI) (k:=k) ?one tz zs vs 0 h1 old ?ps nd (λr hr=>?_) z1' (b1.extBut _ _ tz ht) hk _ λh2 i2 t2 z2 s2 k2=>?_
 case one =>
  intro r j v its h3 kept ir xr hv z3 t3 hl3 r1 r2 G g;refine AH (wpAny_onRaise (AH (m:=Builtin.SmallTypes.nextOf (.ref r.t)) (ACH (s:={s with heap:=h3}) hh ir xr hv λh4 i4 b4=>AU ?_)));have t4:Ei h4 TO kept:=b4.extBut _ _ (Ne.symm r1) t3;have z4:IsZip h4 z TI TO .ellipsis:=b4.extBut _ _ (Ne.symm r2) z3;refine AH (AK8 t4 rfl (AH (wpAny_updateSeq t4 rfl (AH (wpAny_letGo (AU ?_))) (by rw[sizeLine_eq,Bx];omega) (by rw[sizeLine_eq,Array.size_setIfInBounds,Bx];omega))));have b5:Heap.SameBut TO h4 (h4.update TO (Obj.mapSeq (·.setIfInBounds j v))):=.update ..;refine g _ (i4.ext λo e=>b5.extBut _ _ r1 e) ?_ (b5.extBut _ _ (Ne.symm tz) z4) (b5.1.trans b4.1) λc o c1 c2 e=>b5.extBut _ _ c1 (b4.extBut _ _ c2 e);show Heap.get? _ TO=_;rw[Heap.get?_update_self _ t4 rfl];simp[Obj.mapSeq]
 case ps =>
  have go:∀{l:List Src} {m:List Value},(∀x∈l,x∈zs)->Paired (λ(r:Src) v=>DM r.b s.heap r.t r.l k/\∃its,ER r.b s.heap r.l its/\its[k]?=some v) l m->Paired (λ(r:Src) v=>DM r.b h1 r.t r.l k/\∃its,ER r.b h1 r.l its/\its[k]?=some v) l m:=by
   intro l m hl p
   induction p with
   |nil=>exact .nil
   |@cons x u l m hx _ ih =>
    obtain⟨i1,its1,x1,e1⟩:=hx;obtain⟨c1,c2,c3,c4,c5⟩:=ap x (hl x BW);exact .cons ⟨i1.ext λo e=>b1.extBut _ _ c2 e,its1,x1.ext λo e=>b1.extBut _ _ c4 e,e1⟩ (ih λy hy=>hl y (BQ _ hy))
  exact go (λ_ h=>h) each
 .obtain⟨c1,c2,c3,c4,c5⟩:=ap r hr;exact⟨c1,c2,c3,c5⟩
 .rw[WD vs old 0 (by rw[ho];omega),List.take_zero,List.nil_append] at t2;refine AH (AK8 t2 rfl (AH (wpAny_newTuple ?_)));have sz:h2.objs.size=s.heap.objs.size:=s2.trans b1.1;have hzl:z<h2.objs.size:=Heap.lt_size z2;refine AH (m:=Builtin.SmallTypes.ownedTupleHandOut (.ref z) (.ref h2.objs.size)) (AH (ALJ (Heap.get?_push_of_some _ z2) (by simp) λh3 z3 b3=>ALJ z3 (by simp) λh4 z4 b4=>?_));have far:∀c o,c≠z->h2.get? c=some o->h4.get? c=some o:=λc o hc e=>b4.extBut _ _ hc (b3.extBut _ _ hc (Heap.get?_push_of_some _ e));refine AU ⟨_,rfl,?_⟩;have z4':IsZip h4 z TI TO (rawInt h2.objs.size):=z4;have new4:Ei h4 h2.objs.size vs:=b4.extBut _ _ (HC hzl) (b3.extBut _ _ (HC hzl) (by show Heap.get? _ _=_;exact Heap.get?_push_size _ rfl));rw[sz] at z4' new4;rw[sz];exact q h4 z4' (far _ _ tz t2) (λr hr=>(i2 r hr).ext λo e=>far _ _ (ap r hr).2.1 e) new4 λc o c1 c2 c3 e=>far c o c1 (k2 c o c2 c3 (b1.extBut _ _ c1 e))
theorem AAV{zs:List Src}{r0:Src}{its:Array Value}{Q:PySem.Fin->Shared->Prop}(hh:A.handled=none)(hz:IsZip s.heap z TI TO .none)(hi:Ei s.heap TI ((r0::zs).map λr=>.ref r.t))(a1:r0.t≠z)(a2:r0.l≠z)
  (ir:DM r0.b s.heap r0.t r0.l k) (xr:ER r0.b s.heap r0.l its) (hv:its[k]?=none)
  (q:∀h' e,(∀c o,c≠z->c≠r0.t->s.heap.get? c=some o->h'.get? c=some o)->(∃o,h'.get? e=some o/\o.cls=.type "StopIteration")->E (.ref e) {s with heap:=h'}) :
  wpAny (model prog w) A (Builtin.«zip.__next__» ⟨[.ref z],[]⟩) Q E s:=by
 refine AH (m:=field (.ref z) 2) (FT (x:=.bool false) hz rfl rfl (AH (m:=field (.ref z) 3) (FT (x:=.ref TI) hz rfl rfl (AH (AK8 hi rfl ?_)))));have hem:((r0::zs).map λr=>Value.ref r.t).toArray.isEmpty=false:=rfl;simp only[hem,AKF,if_false];refine AH (m:=Builtin.SmallTypes.ownedTupleIsFree (.ref z)) (AH (FT (x:=.none) hz rfl rfl (AU ?_)));rw[if_pos rfl];refine AH (AK7 (AH (FT (x:=.ref TO) hz rfl rfl (AH (ALJ hz (by simp) λh1 z1 b1=>AH ?_)))));rw[Am,List.zipIdx_cons,AKH];have z1':IsZip h1 z TI TO .ellipsis:=z1;refine AH (AH (wpAny_onRaise (AH (m:=Builtin.SmallTypes.nextOf (.ref r0.t)) (ACK (s:={s with heap:=h1}) hh (ir.ext λo e=>b1.extBut _ _ a1 e) (xr.ext λo e=>b1.extBut _ _ a2 e) hv λh2 e k2 z3_=>?_))));obtain⟨oe,ge,ce⟩:=z3_;have z2:IsZip h2 z TI TO .ellipsis:=k2 _ _ (Ne.symm a1) z1';have ez:e≠z:=λx=>by subst x;rw[z2] at ge;cases ge;exact absurd (show Value.type "zip"=Value.type "StopIteration" from ce) (by decide)
 exact ALJ z2 (by simp) λh3 _ b3=>q h3 e (λc o c1 c2 x=>b3.extBut _ _ c1 (k2 _ _ c2 (b1.extBut _ _ c1 x))) ⟨oe,b3.extBut _ _ ez ge,ce⟩
end
def CY:Nat->List (Bool×Addr)->List Src
 |_,[]=>[]
 |n,p::r=>⟨p.1,n,p.2⟩::CY (n+1) r
theorem NC:∀(ls:List (Bool×Addr)) (n:Nat),(CY n ls).length=ls.length
 |[],_=>rfl
 |_::r,n=>by simp[CY,NC r]
theorem ND:∀(ls:List (Bool×Addr)) (n:Nat),(CY n ls).map (λr=>(r.b,r.l))=ls
 |[],_=>rfl
 |_::r,n=>by simp[CY,ND r]
theorem LO:∀(ls:List (Bool×Addr)) (n:Nat) (r:Src),r∈CY n ls->n<=r.t/\r.t<n+ls.length
 |[],_,_,h=>nomatch h
 |p::q,n,r,h=>by
  rcases Ae.mp h with e|h
  .subst e;simp
  .obtain⟨a,b⟩:=LO q (n+1) r h;exact⟨Nat.le_of_succ_le a,Nat.lt_of_lt_of_eq b (by rw[EX,AJ8,Nat.add_comm 1])⟩
theorem Vg:∀(ls:List (Bool×Addr)) (n:Nat),((CY n ls).map (·.t)).Nodup
 |[],_=>Hj
 |p::q,n=>by
  rw[CY,Am,Hk];refine⟨λh=>?_,Vg q (n+1)⟩;obtain⟨r,hr,e⟩:=BC.mp h;have:=(LO q (n+1) r hr).1;rw[show r.t=n from e] at this;exact Nat.not_succ_le_self n this
section
variable {prog:Program}{w:World}{A:Around}{E:ALL}{s:Shared}
theorem XY:∀(ls:List (Bool×Addr)) (acc:Array Value) (s:Shared),(∀p∈ls,∃its,ER p.1 s.heap p.2 its)->∀G:Array Value->Shared->Prop,
  (∀h',(∀r∈CY s.heap.objs.size ls,DM r.b h' r.t r.l 0)->h'.objs.size=s.heap.objs.size+ls.length->(∀c o,s.heap.get? c=some o->h'.get? c=some o)->G (acc++((CY s.heap.objs.size ls).map λr=>Value.ref r.t).toArray) {s with heap:=h'}) ->
  wpAny (model prog w) A (forIn (ls.map λp=>Value.ref p.2) acc λx its=>do let __do_lift <-holding its.toList (pyIter x);pure (ForInStep.yield (its.push __do_lift))) G E s
 |[],acc,s,_,G,q=>AU (by simpa[CY] using q s.heap (λ_ h=>nomatch h) rfl λ_ _ e=>e)
 |p::ls,acc,s,hs,G,q=>by
  obtain⟨its,x⟩:=hs p BW;rw[Am,AKH];refine AH (AH (EV (ACI x λo i=>AU ?_)));refine XY ls (acc.push (.ref s.heap.objs.size)) {s with heap:=s.heap.push o} (λp' hp=>?_) G λh' e z k=>?_
  .obtain⟨its',x'⟩:=hs p' (BQ _ hp);exact⟨its',x'.ext λo' e=>Heap.get?_push_of_some _ e⟩
  .have sz:(s.heap.push o).objs.size=s.heap.objs.size+1:=Heap.size_push ..;have e1:CY s.heap.objs.size (p::ls)=⟨p.1,s.heap.objs.size,p.2⟩::CY (s.heap.push o).objs.size ls:=by rw[sz];rfl
   have:=q h' (λr hr=>by
    rw[e1] at hr;rcases Ae.mp hr with er|hr
    .subst er;exact i.ext λo' e'=>k _ o' e'
    .exact e r hr) (by rw[z,EX];show(s.heap.push o).objs.size+_=_;rw[sz];omega) λc o' e'=>k c o' (Heap.get?_push_of_some _ e')
   rw[e1] at this;simpa using this
theorem AAX(xs:List Value):Builtin.SmallTypes.newClass "zip" ⟨.type "zip"::xs,[]⟩=pure (.type "zip",xs):=by unfold Builtin.SmallTypes.newClass;simp only[sub_zip];rfl
theorem AEp(ls:List (Bool×Addr))(hn:ls.length<=1000):MeetsIn prog w (Builtin.«zip.__new__» ⟨.type "zip"::ls.map (λp=>.ref p.2),[]⟩) (λ_ R s=>(∀p∈ls,∃its,ER p.1 s.heap p.2 its) /\
  ∀h',(∀r∈CY s.heap.objs.size ls,DM r.b h' r.t r.l 0)->Ei h' (s.heap.objs.size+ls.length) ((CY s.heap.objs.size ls).map λr=>.ref r.t)->Ei h' (s.heap.objs.size+ls.length+1) ((CY s.heap.objs.size ls).map λ_=>.none) ->
   IsZip h' (s.heap.objs.size+ls.length+2) (s.heap.objs.size+ls.length) (s.heap.objs.size+ls.length+1) .none->(∀c o,s.heap.get? c=some o->h'.get? c=some o)->R (.ok (.ret (.ref (s.heap.objs.size+ls.length+2)))) {s with heap:=h'}) :=
 .of_wp λA R s z3_=>by
  obtain⟨hs,q⟩:=z3_;unfold Builtin.«zip.__new__»;rw[AAX];refine AH (AU ?_);refine AH (m:=Builtin.SmallTypes.iterAll (ls.map λp=>.ref p.2)) ?_;unfold Builtin.SmallTypes.iterAll;refine AH (XY ls #[] s hs _ λh1 e1 z1 k1=>AU ?_);have e0:((#[]:Array Value)++((CY s.heap.objs.size ls).map λr=>Value.ref r.t).toArray).toList=(CY s.heap.objs.size ls).map λr=>Value.ref r.t:=by simp
  rw[e0];have len:(CY s.heap.objs.size ls).length<=1000:=by rw[NC];exact hn
  have z2:∀o,(h1.push o).objs.size=s.heap.objs.size+ls.length+1:=λo=>by rw[Heap.size_push,z1]
  have z3:∀o o',((h1.push o).push o').objs.size=s.heap.objs.size+ls.length+2:=λo o'=>by rw[Heap.size_push,z2]
  refine AH (wpAny_newTuple (s:={s with heap:=h1}) ?_ (by rw[An,sizeLine_eq];omega));refine AH (wpAny_newTuple ?_ (by rw[An,An,sizeLine_eq];omega));refine AH ?_;show wpAny _ _ (newObj (.type "zip") (.fields #[.none,.bool false,.bool false,.ref _,.ref _])) _ _ _;refine ALD (AU ⟨_,rfl,?_⟩) (by show 5<=sizeLine+2;rw[sizeLine_eq];decide);show R (.ok (.ret (.ref ((h1.push _).push _).objs.size))) _;rw[z3];refine q _ (λr hr=>(e1 r hr).ext λo e=>Heap.get?_push_of_some _ (Heap.get?_push_of_some _ (Heap.get?_push_of_some _ e))) ?_ ?_ ?_ λc o e=>Heap.get?_push_of_some _ (Heap.get?_push_of_some _ (Heap.get?_push_of_some _ (k1 c o e)))
  .show Heap.get? _ _=_;rw[<-z1];exact Heap.get?_push_of_some _ (Heap.get?_push_of_some _ (Heap.get?_push_size _ rfl))
  .show Heap.get? _ _=_;rw[<-z2 {cls:=.type "tuple",data:=.seq ((CY s.heap.objs.size ls).map λr=>Value.ref r.t).toArray}];refine Heap.get?_push_of_some _ ?_;rw[show((CY s.heap.objs.size ls).map λ_=>Value.none)=((CY s.heap.objs.size ls).map λr=>Value.ref r.t).map (λ_=>Value.none) by rw[Cs];rfl];exact Heap.get?_push_size _ rfl
  .rw[<-z3 {cls:=.type "tuple",data:=.seq ((CY s.heap.objs.size ls).map λr=>Value.ref r.t).toArray} {cls:=.type "tuple",data:=.seq (((CY s.heap.objs.size ls).map λr=>Value.ref r.t).map (λ_=>Value.none)).toArray}];have:=Heap.get?_push_size ((h1.push {cls:=.type "tuple",data:=.seq ((CY s.heap.objs.size ls).map λr=>Value.ref r.t).toArray}).push {cls:=.type "tuple",data:=.seq (((CY s.heap.objs.size ls).map λr=>Value.ref r.t).map (λ_=>Value.none)).toArray}) (o:={cls:=.type "zip",data:=.fields #[.none,.bool false,.bool false,.ref h1.objs.size,.ref (h1.push {cls:=.type "tuple",data:=.seq ((CY s.heap.objs.size ls).map λr=>Value.ref r.t).toArray}).objs.size]}) rfl;refine Eq.trans this ?_;rw[z2,z1]
end
def Fx(K:AO)(b:Bool)(H:Hp)(a:Addr)(xs:List V):Prop:=match b with|true=>Bt K H a xs|false=>Bj K H a xs
section
variable {X:Cx}{pins:List (Addr×Obj)}{σ:L2.St}{H:Hp}{s:Shared}
theorem Fx.at(I:AK X pins σ H s){b:Bool}{a:Addr}{xs:List V}(h:Fx X.K b H a xs):∃its:List Value,Ak xs its/\ER b s.heap a its.toArray:=by
 cases b with
 |true=>obtain⟨its,rv,p,_⟩:=I.tuple h;exact⟨its,rv,p⟩
 |false=>obtain⟨its,rv,p,_⟩:=I.list h;exact⟨its,rv,p.isList⟩
theorem Fx.inj(I:AK X pins σ H s){b:Bool}{a:Addr}{xs ys:List V}(h:Fx X.K b H a xs)(h':Fx X.K b H a ys):xs=ys:=by
 cases b with
 |true=>exact I.tuple_inj h h'
 |false=>exact I.list_inj h h'
end
theorem ABA{X:Cx}{pins:List (Addr×Obj)}{σ:L2.St}{H:Hp}{s:Shared}{h':Heap}{t':Nat}{fp:List Addr}(I:AK X pins σ H s)(hf:∀b∈fp,Hi X pins H b)(k:∀b o,b∉fp->s.heap.get? b=some o->h'.get? b=some o):AK X pins σ H {s with heap:=h',toks:=t'}:=by
 have nit:∀b u,H b=some u->b∉fp:=λb u e z=>by rw[(hf b z).1] at e;cases e
 refine I.step (g':=s.gens) (d':=s.drawn) (ch:=fp) (λb hb=>⟨(hf b hb).2.2.2.1,(hf b hb).2.1,(hf b hb).2.2.2.2.1,(hf b hb).2.2.2.2.2⟩) (λb o _ _ hc e _=>k b o hc e) (λb o _ _ hc e _=>⟨o.slots,k b o hc e⟩)
  (λb o _ e n=>n) (λb o hc e=>⟨o,k b o hc e⟩) (λb xs e=>e) (λb o u e=>e)
  (λb ps e=>⟨#[],by rw[e];simp⟩) (λm hm=>?_) (λb u e=>?_) I.bare
 .obtain⟨o,es,ep,ho,r⟩:=hm;exact⟨o,es,ep,k _ o (λz=>(hf _ z).2.1 rfl) ho,r⟩
 .refine(I.hok b u e).stay (λc v hc q=>k c v ?_ q) (λc q=>q) λc xs q=>q;rcases hc with z|z
  .rw[z];exact nit b u e
  .exact nit c _ z
def Itz(K:AO)(zs:List Src)(n:Nat):It :=
 ⟨λi H=>(∀r∈zs,∃xs,Fx K r.b H r.l xs/\xs.length=n)/\i<n,
  λi H v H'=>∃T vs,H T=none/\v=.ref T/\H'=upd H T (.tup vs)/\Paired (λ(r:Src) x=>∀xs,Fx K r.b H r.l xs->xs[i]?=some x) zs vs,
  λi H=>(∀r∈zs,∃xs,Fx K r.b H r.l xs/\xs.length=n)/\n<=i⟩
structure ZZ (z TI TO:Addr) (zs:List Src):Prop where
 ne:zs≠[]
 few:zs.length<=1000
 nd:(zs.map (·.t)).Nodup
 tz:TO≠z
 iz:TI≠z
 it:TI≠TO
 ts:∀r∈zs,r.t≠z/\r.t≠TI/\r.t≠TO
 ls:∀r∈zs,r.l≠z/\r.l≠TI/\r.l≠TO/\∀q∈zs,r.l≠q.t
theorem ABB{P:Program}{w:World}{K:AO}{elts:List Expr}{x1:Nat}{tp:Pos}{z TI TO:Addr}{zs:List Src}(n:Nat)(ap:ZZ z TI TO zs) :
  IC P w K (.Tuple elts x1 tp) (Itz K zs n) (z::TI::TO::zs.map (·.t)) z (λi h=>IsZip h z TI TO .none/\Ei h TI (zs.map λr=>.ref r.t)/\(∃old,Ei h TO old/\old.length=zs.length)/\(∀r∈zs,DM r.b h r.t r.l i)/\i<=n) where
 mem:=by simp
 obj:=λi h ⟨hz,hi,⟨old,ho,_⟩,hs,_⟩ b hb=>by
  rcases Ae.mp hb with rfl|hb
  .exact⟨_,hz,λv q=>by cases q⟩
  .rcases Ae.mp hb with rfl|hb
   .exact⟨_,hi,λv q=>by cases q⟩
   .rcases Ae.mp hb with rfl|hb
    .exact⟨_,ho,λv q=>by cases q⟩
    .obtain⟨r,hr,rfl⟩:=BC.mp hb;exact(hs r hr).obj
 keep:=λi h h' z3_ k=>by obtain⟨hz,hi,⟨old,ho,hl⟩,hs,hn⟩:=z3_;exact⟨k z (by simp) _ hz,k TI (by simp) _ hi,⟨old,k TO (by simp) _ ho,hl⟩,λr hr=>(hs r hr).ext λo e=>k r.t (by simp only[Ae];exact .inr (.inr (.inr (Cj hr)))) o e,hn⟩
 item:=by
  rintro X hP hw hK hc i pins s σ H E I hf ⟨hz,hi,⟨old,ho,hl⟩,hs,_⟩ ⟨hq,hlt⟩;subst hP hw hK
  -- the values
  have vals:∀l:List Src,(∀r∈l,r∈zs)->∃us vs,Paired (λ(r:Src) v=>DM r.b s.heap r.t r.l i/\∃its,ER r.b s.heap r.l its/\its[i]?=some v) l us/\Ak vs us/\Paired (λ(r:Src) x=>∀xs,Fx X.K r.b H r.l xs->xs[i]?=some x) l vs:=by
   intro l
   induction l with
   |nil=>intro _;exact⟨[],[],.nil,.nil,.nil⟩
   |cons r l ih =>
    intro hl;obtain⟨us,vs,p1,p2,p3⟩:=ih λq hq=>hl q (BQ _ hq);obtain⟨xs,sv,hn⟩:=hq r (hl r BW);obtain⟨its,rv,so⟩:=sv.at I;obtain⟨x,hx⟩:∃x,xs[i]?=some x:=⟨xs[i]'(by omega),by simp[show i<xs.length by omega]⟩;obtain⟨u,hu,ru⟩:=rv.get hx;exact⟨u::us,x::vs,.cons ⟨hs r (hl r BW),its.toArray,so,by simpa using hu⟩ p1,.cons ru p2,.cons (λys hy=>by rw[hy.inj I sv];exact hx) p3⟩
  obtain⟨us,vs,p1,p2,p3⟩:=vals zs λ_ h=>h;have lu:us.length=zs.length:=(Paired.length p1).symm;have lv:vs.length=zs.length:=(Paired.length p3).symm;have zl:z<s.heap.objs.size:=Heap.lt_size hz;have ty:s.TypeIs (.ref z) "zip":=⟨_,hz,rfl⟩
  have hb:∀b,b∈z::TI::TO::zs.map (·.t)->b<s.heap.objs.size:=λb hb=>by
   rcases Ae.mp hb with rfl|hb
   .exact zl
   .rcases Ae.mp hb with rfl|hb
    .exact Heap.lt_size hi
    .rcases Ae.mp hb with rfl|hb
     .exact Heap.lt_size ho
     .obtain⟨r,hr,rfl⟩:=BC.mp hb;obtain⟨o,e,_⟩:=(hs r hr).obj;exact Heap.lt_size e
  unfold pyNext
  refine AH (wpAny_attempt (ALC (name:=Str.ofString "__next__") ty AKr (Gz AKr ty PySem.F.entry_zip_next (AAW (A:=X.A.in1) (R:=_) (show X.A.in1.handled=none from I.ok.hd hc) hz hi ho (by rw[hl,lu]) (by rw[hl];exact ap.few) ap.ne ap.nd ap.tz ap.iz
   (λr hr=>⟨(ap.ts r hr).2.2,(ap.ts r hr).1,(ap.ls r hr).2.2.1,(ap.ls r hr).1,(ap.ls r hr).2.2.2⟩) p1 λh1 z1 t1 i1 u1 k1=>?_) (PySem.F.args_zip_next_1 _))))
  refine AU ⟨_,rfl,wpAny_letOwnedTupleGo_zip z1 λh2 z2 b2=>?_⟩;have nz:s.heap.objs.size≠z:=HC zl;have ht2:Ei h2 s.heap.objs.size us:=b2.extBut _ _ nz u1
  have new:Cc X.prog X.w (upd H s.heap.objs.size (.tup vs)) h2 s.heap.objs.size (.tup vs) :=
   ⟨by rw[lv,sizeLine_eq];exact DA ap.few (by decide),us,p2,⟨_,ht2,rfl,_,rfl⟩⟩
  have tn2:IsZip h2 z TI TO .none/\Ei h2 TI (zs.map λr=>.ref r.t)/\(∃old,Ei h2 TO old/\old.length=zs.length)/\(∀r∈zs,DM r.b h2 r.t r.l (i+1))/\i+1<=n:=by refine⟨z2,b2.extBut _ _ ap.iz (k1 _ _ ap.iz ap.it (λhm=>?_) hi),⟨us,b2.extBut _ _ ap.tz t1,lu⟩,λr hr=>(i1 r hr).ext λo e=>b2.extBut _ _ (ap.ts r hr).1 e,hlt⟩;obtain⟨r,hr,e⟩:=BC.mp hm;exact(ap.ts r hr).2.1 e
  have I1:=My (t':=s.toks) (h':=h2) I hf (λb o hb q=>by
    simp only[Ae,not_or] at hb
    exact b2.extBut _ _ hb.1 (k1 b o hb.1 hb.2.2.1 hb.2.2.2 q)) (Al _) (λq=>absurd (hb _ q) (AJl _)) (λb hb=>by
    rcases Ae.mp hb with rfl|hb
    .exact⟨_,tn2.1⟩
    .rcases Ae.mp hb with rfl|hb
     .exact⟨_,tn2.2.1⟩
     .rcases Ae.mp hb with rfl|hb
      .obtain⟨old,q,_⟩:=tn2.2.2.1;exact⟨_,q⟩
      .obtain⟨r,hr,rfl⟩:=BC.mp hb;obtain⟨o,e,_⟩:=(tn2.2.2.2.1 r hr).obj
       exact⟨o,e⟩) new
  exact⟨.ref s.heap.objs.size,_,I1,rfl,⟨s.heap.objs.size,vs,I.hok.fresh (Al _),rfl,rfl,p3⟩,tn2,λb h'=>by rw[Bn (Bu (hb b h'))];exact(hf b h').1⟩
 done:=by
  rintro X hP hw hK hc i pins s σ H E I hf ⟨hz,hi,⟨old,ho,hl⟩,hs,_⟩ ⟨hq,hlt⟩;subst hP hw hK;have ty:s.TypeIs (.ref z) "zip":=⟨_,hz,rfl⟩
  cases zs with
  |nil=>exact absurd rfl ap.ne
  |cons r0 zs =>
   obtain⟨xs,sv,hn⟩:=hq r0 BW;obtain⟨its,rv,so⟩:=sv.at I;have m1:r0.t∈z::TI::TO::(r0::zs).map (·.t):=by simp
   unfold pyNext
   refine AH (wpAny_attempt (ALC (name:=Str.ofString "__next__") ty AKr (Gz AKr ty PySem.F.entry_zip_next (AAV (A:=X.A.in1) (show X.A.in1.handled=none from I.ok.hd hc) hz hi (ap.ts r0 BW).1 (ap.ls r0 BW).1 (hs r0 BW) so
    (by rw[List.getElem?_toArray,AK1,<-rv.length];omega) λh' e k ⟨o,g,c⟩=>?_) (PySem.F.args_zip_next_1 _))))
   refine AH (wpAny_isInstance (T:="StopIteration") (b:=true) ⟨o,g,c⟩ isSubtype_stop (AU ⟨rfl,?_⟩))
   have I1:=ABA (t':=s.toks) (h':=h') (fp:=[z,r0.t]) I (λb hb=>hf b (by
    rcases Ae.mp hb with rfl|hb
    .simp
    .rw[AJi.mp hb];exact m1)) λb o hb q=>k b o (λe=>hb (by simp[e])) (λe=>hb (by simp[e])) q
   exact I1
 self:=λA i s Q E z5_ h=>by obtain⟨hz,_⟩:=z5_;exact wpAny_pyIter_zip hz h
def seqs:List D->AD->Option (List (List D))
 |[],_=>some []
 |d::r,L=>(DD d L).bind λys=>(seqs r L).map (ys::·)
def GI(n:Nat)(yss:List (List D)):List D:=(List.range n).map λi=>.tup (yss.map λys=>ys[i]?.getD .non)
def Jn(n:Nat)(fa:AF):IF:=λρ L=>(fa ρ L).bind λx=>match seqs x.1 x.2 with
 |some (ys::yss)=>if (yss.all λzs=>zs.length == ys.length)=true/\yss.length<100/\yss.length+1=n then some (⟨GI ys.length (ys::yss),λL'=>decide (seqs x.1 L'=some (ys::yss))⟩,x.2) else none
 |_=>none
def kindD:D->Bool
 |.tup _=>true
 |_=>false
theorem Vr{K:AO}{H:Hp}{O:List Addr}{L:AD}{v:V}{d:D}{xs:List D}(rs:BD K H O L)(h:Is K H O v d)(e:DD d L=some xs):∃a vs,v=.ref a/\Fx K (kindD d) H a vs/\AV K H O vs xs:=by
 cases h with
 |tup hq il=>cases e;exact⟨_,_,rfl,hq,il⟩
 |fz hq il=>cases e;exact⟨_,_,rfl,hq.sql,il⟩
 |ref hk =>
  simp only[DD] at e;split at e
  .rename_i ys e2;cases e;obtain⟨vs,hv,iv⟩:=rs.ob _ _ _ hk e2;exact⟨_,vs,rfl,Bj.of hv,iv⟩
  .cases e
 |_=>cases e
inductive Fw (K:AO) (H:Hp) (O:List Addr):List D->List (List D)->List (Bool×Addr)->Prop
 |nil:Fw K H O [] [] []
 |cons {d:D} {ys:List D} {a:Addr} {vs:List V} {ds yss ls}:Is K H O (.ref a) d->Fx K (kindD d) H a vs->AV K H O vs ys->Fw K H O ds yss ls->Fw K H O (d::ds) (ys::yss) ((kindD d,a)::ls)
theorem Vf{K:AO}{H:Hp}{O:List Addr}{L:AD}(rs:BD K H O L):∀{ds:List D} {yss:List (List D)} {vs:List V},AV K H O vs ds->seqs ds L=some yss->∃ls,Fw K H O ds yss ls/\vs=ls.map λp=>.ref p.2
 |[],_,_,.nil,e=>by cases e;exact⟨[],.nil,rfl⟩
 |d::ds,_,_,.cons i r,e=>by
  unfold seqs at e;obtain⟨ys,e1,e2⟩:=AKG.mp e;obtain⟨yss,e3,rfl⟩:=AJt.mp e2;obtain⟨ls,h1,rfl⟩:=Vf rs r e3;obtain⟨a,vs,rfl,h2,h3⟩:=Vr rs i e1;exact⟨(kindD d,a)::ls,.cons i h2 h3 h1,rfl⟩
theorem Fw.again{K:AO}{H H':Hp}{O O':List Addr}{L':AD}(st:Aq H O H' O')(rs:BD K H' O' L'){ds:List D}{yss yss':List (List D)}{ls:List (Bool×Addr)}(h:Fw K H O ds yss ls)(e:seqs ds L'=some yss'):Fw K H' O' ds yss' ls:=by
 induction h generalizing yss' with
 |nil=>cases e;exact .nil
 |@cons d ys a vs ds yss ls i _ _ _ ih =>
  unfold seqs at e;obtain⟨zs,e1,e2⟩:=AKG.mp e;obtain⟨zss,e3,rfl⟩:=AJt.mp e2;obtain⟨a',vs',ea,h2,h3⟩:=Vr rs (i.mono st) e1;cases ea;exact .cons (i.mono st) h2 h3 (ih e3)
theorem Fw.len{K:AO}{H:Hp}{O:List Addr}{ds:List D}{yss:List (List D)}{ls:List (Bool×Addr)}(h:Fw K H O ds yss ls):ls.length=yss.length/\ds.length=yss.length:=by
 induction h with
 |nil=>exact⟨rfl,rfl⟩
 |cons _ _ _ _ ih=>simp[ih.1,ih.2]
theorem Fw.seq{K:AO}{H:Hp}{O:List Addr}{ds:List D}{yss:List (List D)}{ls:List (Bool×Addr)}(h:Fw K H O ds yss ls):∀p∈ls,∃vs ys,ys∈yss/\Fx K p.1 H p.2 vs/\AV K H O vs ys:=by
 induction h with
 |nil=>intro p hp;cases hp
 |@cons d ys a vs ds yss ls i s1 s2 _ ih =>
  intro p hp;rcases Ae.mp hp with e|hp
  .subst e;exact⟨vs,ys,BW,s1,s2⟩
  .obtain⟨vs',ys',h1,h2⟩:=ih p hp;exact⟨vs',ys',BQ _ h1,h2⟩
theorem Fw.tup{K:AO}{H:Hp}{O:List Addr}{ds:List D}{yss:List (List D)}{ls:List (Bool×Addr)}(h:Fw K H O ds yss ls){i n:Nat}(hn:∀ys∈yss,ys.length=n)(hi:i<n):∀{zs:List Src} {vs:List V},zs.map (λr=>(r.b,r.l))=ls ->
  Paired (λ(r:Src) x=>∀xs,Fx K r.b H r.l xs->xs[i]?=some x) zs vs->AV K H O vs (yss.map λys=>ys[i]?.getD .non):=by
 induction h with
 |nil=>intro zs vs e p;cases zs with|nil=>cases p;exact .nil|cons=>simp at e
 |@cons d ys a us ds yss ls _ s1 s2 _ ih =>
  intro zs vs e p
  cases zs with
  |nil=>simp at e
  |cons r zs =>
   simp only[Am,List.cons.injEq,Prod.mk.injEq] at e;obtain⟨⟨eb,el⟩,e2⟩:=e
   cases p with
   |@cons _ x _ vs hx p2 =>
    have hy:ys.length=n:=hn ys BW;have hx':=hx us (by rw[eb,el];exact s1);obtain⟨v,hv,iv⟩:=s2.get (i:=i) (d:=ys[i]'(by omega)) (by simp[show i<ys.length by omega]);rw[hx'] at hv;cases hv;rw[Am,show ys[i]?.getD .non=ys[i]'(by omega) by simp[show i<ys.length by omega]];exact .cons iv (ih (λzs hz=>hn zs (BQ _ hz)) e2 p2)
theorem AAY(n:Nat)(yss:List (List D))(i:Nat):(GI n yss)[i]?=if i<n then some (.tup (yss.map λys=>ys[i]?.getD .non)) else none:=by
 unfold GI;rw[BH]
 by_cases h:i<n
 .rw[if_pos h,AKD h];rfl
 .rw[if_neg h,AJw (by simpa using h)];rfl
structure TN (n:Nat):Prop where
 ty:∀us:List Value,us.length=n->checkTypeCall "zip" ⟨us,[]⟩=pure ()
 new:∀us:List Value,us.length=n->checkBuiltinCall "zip.__new__" ⟨.type "zip"::us,[]⟩=pure ()
 init:∀(o:Value) (us:List Value),us.length=n->argsOk "object.__init__" ⟨o::us,[]⟩
theorem US:TN 2:=⟨λus h=>by obtain⟨a,b,rfl⟩:=KU h;exact PySem.F.typeCall_zip_2 a b,λus h=>by obtain⟨a,b,rfl⟩:=KU h;exact PySem.F.newCall_zip_2 a b,λo us h=>by obtain⟨a,b,rfl⟩:=KU h;exact PySem.F.args_object_init_3 o a b⟩
theorem AAa:TN 3:=⟨λus h=>by obtain⟨a,b,c,rfl⟩:=Ix h;kernel_rfl,λus h=>by obtain⟨a,b,c,rfl⟩:=Ix h;kernel_rfl,λo us h=>by
 obtain⟨a,b,c,rfl⟩:=Ix h;unfold argsOk;rw[PySem.signature?_of (id:="object.__init__") (n:=['_','_','t','i','n','i','_','_']) (o:=['t','c','e','j','b','o']) (by kernel_rfl) PySem.F.owner_object]
 kernel_rfl⟩
section
variable {X:Cx}{elts:List Expr}{x1:Nat}{tp p pos:Pos}{e:Expr}{es:List Expr}{fa:AF}
theorem Rl{n:Nat}(zn:TN n)(hm:X.mg "zip"=none)(ha:FR X (e::es) fa)(hg:Gl X "zip":=by rfl)(hs:FN e=true:=by rfl)(hplain:es.all FN=true:=by rfl):FQ X (.Tuple elts x1 tp) (.Call (.Name "zip" p) (e::es) [] pos) (Jn n fa):=by
 rintro pins s σ H R I ⟨O,ρ,L,J,L',r,ee,k⟩;unfold Jn at ee
 cases e1:fa ρ L with
 |none=>rw[e1] at ee;cases ee
 |some q =>
  rw[e1] at ee;obtain⟨ds,L1⟩:=q;simp only[AS] at ee;split at ee
  .rename_i ys yss e2;split at ee
   .rename_i hall;simp only[Option.some.injEq,Prod.mk.injEq] at ee;obtain⟨hJ,hL⟩:=ee;subst hL;refine Call_ (Iy I hg hm (u:=.type "zip") (by decide +kernel) (PyProof.Rows.callWith_type1 (Ah (ha pos pins s σ H (λvs H1=>∃O1 ls,Aq H O H1 O1/\BD X.K H1 O1 L1/\Fw X.K H1 O1 ds (ys::yss) ls/\vs=ls.map λp=>.ref p.2) I ⟨O,ρ,L,_,_,r,e1,λvs H1 O1 st rs is=>?_⟩) λus s1 ⟨vs,H1,I1,r1,O1,ls,st,rs,sr,ev⟩=>?_) (IJ hs) (Jd hplain)))
    .obtain⟨ls,h1,h2⟩:=Vf rs is e2;exact⟨O1,ls,st,rs,h1,h2⟩
    .obtain⟨hall,hfew,hn⟩:=hall
     have eu:us=ls.map λp=>Value.ref p.2:=by
      subst ev
      have go:∀{ls:List (Bool×Addr)} {us:List Value},Ak (ls.map λp=>V.ref p.2) us->us=ls.map λp=>Value.ref p.2:=by
       intro ls
       induction ls with
       |nil=>intro us h;cases h;rfl
       |cons p ls ih=>intro us h;cases h with|cons h1 h2=>cases h1;rw[ih h2];rfl
      exact go r1
     have ll:ls.length=n:=by rw[sr.len.1,EX];exact hn
     have ul:us.length=n:=by rw[eu,An,ll]
     have lenY:∀zs∈ys::yss,zs.length=ys.length:=λzs hz=>by
      rcases Ae.mp hz with e|hz
      .rw[e]
      .exact beq_iff_eq.mp (CW.mp hall zs hz)
     subst eu;refine callType_newIn PySem.F.called_zip (by decide) (zn.ty _ ul) (zn.new _ ul) (λo=>zn.init o _ ul) PySem.F.entry_zip_new (AEp ls (by omega)) ⟨λp hp=>?_,λh' si ti to iz kk=>?_⟩
     .obtain⟨vs',ys',_,sv,_⟩:=sr.seq p hp;obtain⟨its,_,so⟩:=sv.at I1;exact⟨_,so⟩
     .refine⟨⟨_,iz,rfl⟩,wpAny_pyIter_zip iz ?_⟩;have I2:AK X pins σ H1 {s1 with heap:=h'}:=I1.kept (t':=s1.toks) kk
      have lt:∀p∈ls,p.2<s1.heap.objs.size:=λp hp=>by
       obtain⟨vs',ys',_,sv,_⟩:=sr.seq p hp;obtain⟨its,_,so⟩:=sv.at I1
       have:∃o,s1.heap.get? p.2=some o:=by
        revert so
        cases p.1 with
        |true=>rintro⟨o,g,_⟩;exact⟨o,g⟩
        |false=>rintro⟨o,g,_⟩;exact⟨o,g⟩
       obtain⟨o,g⟩:=this;exact Heap.lt_size g
      have lr:∀r∈CY s1.heap.objs.size ls,r.l<s1.heap.objs.size:=λr hr=>by
       have:(r.b,r.l)∈ls:=by rw[<-ND ls s1.heap.objs.size];exact Cj (f:=λr:Src=>(r.b,r.l)) hr
       exact lt _ this
      have ap:ZZ (s1.heap.objs.size+ls.length+2) (s1.heap.objs.size+ls.length) (s1.heap.objs.size+ls.length+1) (CY s1.heap.objs.size ls):=by
       refine⟨λh=>?_,by rw[NC];omega,Vg _ _,by simp,by simp,by simp,λr hr=>?_,λr hr=>?_⟩
       .have:=congrArg List.length h;rw[NC,sr.len.1] at this;simp at this
       .have h1:=(LO _ _ r hr).2;exact⟨Bu (DZ h1 (AJ4 _ 2)),Bu h1,Bu (DZ h1 (AJ4 _ 1))⟩
       .have h1:=lr r hr;refine⟨Bu (DZ h1 (by rw[AJ8];exact AJ4 _ _)),Bu (DZ h1 (AJ4 _ _)),Bu (DZ h1 (by rw[AJ8];exact AJ4 _ _)),λq hq=>Bu (DZ h1 (LO _ _ q hq).1)⟩
      have big:∀b∈(s1.heap.objs.size+ls.length+2)::(s1.heap.objs.size+ls.length)::(s1.heap.objs.size+ls.length+1)::(CY s1.heap.objs.size ls).map (·.t),s1.heap.objs.size<=b:=λb hb=>by
       rcases Ae.mp hb with rfl|hb
       .rw[AJ8];exact AJ4 _ _
       .rcases Ae.mp hb with rfl|hb
        .exact AJ4 _ _
        .rcases Ae.mp hb with rfl|hb
         .rw[AJ8];exact AJ4 _ _
         .obtain⟨r,hr,rfl⟩:=BC.mp hb;exact(LO _ _ r hr).1
      refine⟨_,_,_,_,H1,rfl,I2,ABB ys.length ap,⟨iz,ti,⟨_,to,by rw[An]⟩,si,FE _⟩,λb hb=>I1.fpOk (big b hb) (I1.hok.fresh (big b hb)),k _ H1 O1 st rs λi H2 O2 L2 st2 rs2 ok=>?_⟩;rw[<-hJ] at ok ⊢;have sr2:=sr.again st2 rs2 (of_decide_eq_true ok)
      have all2:∀r∈CY s1.heap.objs.size ls,∃xs,Fx X.K r.b H2 r.l xs/\xs.length=ys.length:=λr hr=>by
       have hm:(r.b,r.l)∈ls:=by rw[<-ND ls s1.heap.objs.size];exact Cj (f:=λr:Src=>(r.b,r.l)) hr
       obtain⟨vs',ys',hy,sv,il⟩:=sr2.seq _ hm;exact⟨vs',sv,by rw[il.length];exact lenY ys' hy⟩
      refine⟨λd hd=>?_,λh=>⟨all2,by simpa[GI] using h⟩⟩;simp only at hd;rw[AAY] at hd;split at hd
      .rename_i hi;cases hd;refine⟨⟨all2,hi⟩,λx H' z2_=>?_⟩;obtain⟨T,vs',hT,ex,eH,p3⟩:=z2_;subst ex eH;have st3:Aq H2 O2 (upd H2 T (.tup vs')) O2:=⟨.new hT,Ac _⟩;exact⟨st3,rs2.ext λb u q=>by rw[Bn (Du q hT)];exact q,.tup (Bt.of Ce) ((sr2.tup lenY hi (ND _ _) p3).mono st3)⟩
      .cases hd
   .cases ee
  .cases ee
end
section
variable {X:Cx}
def Np:GM:=λx xs L=>match x,xs with
 |.str a,[.str b]=>some (.bl (Txt.startswith a b),L)
 |_,_=>none
theorem AEt:MtD X "str.startswith" Np:=λpins s σ H x xs v us Q I rx rv z12_=>by
 obtain⟨O,L,dx,dxs,d,L',rp,ix,ixs,e,k⟩:=z12_;unfold Np at e;split at e
 .rename_i a b;cases e;cases ix
  cases ixs with|cons i1 i2 =>
   cases i2;cases i1;obtain⟨t,rfl⟩:=(show ∃t,v=Value.str a t from rx);obtain⟨u,rfl,ry⟩:=En rv;obtain⟨t',rfl⟩:=(show ∃t',u=Value.str b t' from ry);exact SC.startswith ⟨.bl (Txt.startswith a b),H,I,rfl,k _ _ _ (.refl _ _) rp (.bl _)⟩
 .cases e
theorem AHF:bootBuiltins "sorted"=some (.builtin "sorted"):=PyProof.Rows.boot_sorted
end
open PySem.W (KasT kas_sort kas_ask kas_rev kas_asc kas_desc kas_tail3 kas_descPart kas_count kas_place kas_bin)
def kEval{α:Type}(c:Nat->Nat->Bool):KasT α->α
 |.ret a=>a
 |.ask i j k=>kEval c (k (c i j))
def DH{α:Type}(n:Nat)(R:α->Prop):KasT α->Prop
 |.ret a=>R a
 |.ask i j k=>i<n/\j<n/\∀b,DH n R (k b)
theorem DH.eval{α:Type}{n:Nat}{R:α->Prop}(c:Nat->Nat->Bool):∀{t:KasT α},DH n R t->R (kEval c t)
 |.ret _,h=>h
 |.ask i j k,h=>DH.eval c (t:=k (c i j)) (h.2.2 (c i j))
theorem DH.bind{α β:Type}{n:Nat}{R:α->Prop}{S:β->Prop}{f:α->KasT β}:∀{t:KasT α},DH n R t->(∀a,R a->DH n S (f a))->DH n S (t.bind f)
 |.ret a,h,g=>g a h
 |.ask i j k,h,g=>⟨h.1,h.2.1,λb=>DH.bind (t:=k b) (h.2.2 b) g⟩
theorem DH.wp{α:Type}{n:Nat}{R:α->Prop}{cmp:Nat->Nat->(Bool->Shared->Prop)->Shared->Prop}{c:Nat->Nat->Bool}{Q:α->Shared->Prop}{s:Shared}
  (hc:∀i j C,i<n->j<n->C (c i j) s->cmp i j C s):∀{t:KasT α},DH n R t->Q (kEval c t) s->t.kasWp cmp Q s
 |.ret _,_,q=>q
 |.ask i j k,h,q=>hc i j _ h.1 h.2.1 (DH.wp hc (t:=k (c i j)) (h.2.2 (c i j)) q)
def Pm(n:Nat)(p:Array Nat):Prop:=p.toList.Perm (List.range n)
section
variable {n:Nat}{p:Array Nat}
theorem Pm.lt(h:Pm n p)(h0:0<n)(k:Nat):p.getD k 0<n:=by
 by_cases hk:k<p.size
 .have e:p.getD k 0=p[k]:=by simp[Array.getD,hk]
  rw[e];exact Cr.mp (h.mem_iff.mp (by simp))
 .simp[Array.getD,hk];exact h0
theorem Pm.rev(h:Pm n p)(i j:Nat):Pm n (kas_rev p i j):=(Array.perm_iff_toList_perm.mp (mirror_perm p i j ((j-i) / 2))).trans h
theorem Pm.bub(h:Pm n p)(i j:Nat):Pm n (bubble p i j):=(Array.perm_iff_toList_perm.mp (bubble_perm p i j)).trans h
theorem TC(h:Pm n p)(h0:0<n):∀f m,DH n (λ_=>True) (kas_asc p f m)
 |0,_=>trivial
 |f+1,m=>⟨h.lt h0 _,h.lt h0 _,λb=>by
  cases b
  .exact TC h h0 f (m+1)
  .trivial⟩
theorem Nz(h0:0<n):∀f (p:Array Nat) m q,Pm n p->DH n (λr=>Pm n r.1) (kas_desc f p m q)
 |0,_,_,_,h=>h
 |f+1,p,m,q,h=>⟨h.lt h0 _,h.lt h0 _,λb=>by
  cases b
  .refine⟨h.lt h0 _,h.lt h0 _,λd=>?_⟩;cases d
   .exact Nz h0 f p (m+1) (q+1) h
   .exact h
  .show DH n _ (if q>0 then _ else _)
   by_cases hq:q>0
   .rw[if_pos hq];exact Nz h0 f _ (m+1) 0 (h.rev _ _)
   .rw[if_neg hq];exact Nz h0 f p (m+1) 0 h⟩
theorem VF(h:Pm n p)(h0:0<n)(a b:Nat):DH n (λr=>Pm n r.2) (kas_tail3 a b p) :=
 DH.bind (TC (h.rev 0 a) h0 _ _) λ_ _=>h.rev 0 a
theorem WT(h:Pm n p)(h0:0<n)(a b:Nat):DH n (λr=>Pm n r.2) (kas_descPart a b p) :=
 DH.bind (Nz h0 _ p _ _ h) λr hr=>by
  by_cases hq:r.2.2>0
  .rw[if_pos hq];exact VF (hr.rev _ _) h0 _ _
  .rw[if_neg hq];exact VF hr h0 _ _
theorem AGw(h:Pm n p)(h0:0<n)(b:Nat):DH n (λr=>Pm n r.2) (kas_count b p) :=
 DH.bind (TC h h0 _ _) λr _=>by
  by_cases hq:(r == b)=true
  .rw[if_pos hq];exact h
  .rw[if_neg hq]
   by_cases h1:r>1
   .rw[if_pos h1];refine⟨h.lt h0 _,h.lt h0 _,λc=>?_⟩;cases c
    .exact WT (h.rev _ _) h0 _ _
    .exact h
   .rw[if_neg h1];exact WT h h0 _ _
theorem Rg(h:Pm n p)(h0:0<n)(k:Nat):∀f l r,DH n (λ_=>True) (kas_place p k f l r)
 |0,_,_=>trivial
 |f+1,l,r=>by
  unfold kas_place
  by_cases hq:l ≥ r
  .rw[if_pos hq];trivial
  .rw[if_neg hq];refine⟨h.lt h0 _,h.lt h0 _,λc=>?_⟩;cases c
   .exact Rg h h0 k f _ _
   .exact Rg h h0 k f _ _
theorem ZI(h0:0<n):∀f (p:Array Nat) k,Pm n p->DH n (Pm n) (kas_bin f p k)
 |0,_,_,h=>h
 |f+1,p,k,h=>DH.bind (Rg h h0 k _ _ _) λl _=>ZI h0 f _ (k+1) (h.bub _ _)
theorem Vj(h0:0<n):DH n (Pm n) (kas_sort n) :=
 DH.bind (AGw (p:=(List.range n).toArray) (List.Perm.refl _) h0 n) λr hr=>by
  by_cases hq:r.1<n
  .rw[if_pos hq];exact ZI h0 _ _ _ hr
  .rw[if_neg hq];exact hr
end
def NB(a b:Str):Bool:=decide (a.cps.toList<b.cps.toList)
def ltP:D->D->Bool
 |.tup [.str a,.str b],.tup [.str c,.str d]=>if a=c then (if b=d then false else NB b d) else NB a c
 |_,_=>false
def isPr:D->Bool
 |.tup [.str _,.str _]=>true
 |_=>false
def DQ(ds:List D):List Nat:=if ds.length<2 then List.range ds.length else (kEval (λi j=>ltP (ds.getD i .non) (ds.getD j .non)) (kas_sort ds.length)).toList
def sortP(ds:List D):List D:=(DQ ds).map λi=>ds.getD i .non
theorem LY(ds:List D):(DQ ds).Perm (List.range ds.length):=by
 unfold DQ
 by_cases h:ds.length<2
 .rw[if_pos h]
 .rw[if_neg h];exact(Vj (n:=ds.length) (by omega)).eval _
theorem Vy{α:Type}(x:α)(xs:List α):((List.range xs.length).map λi=>xs.getD i x)=xs:=by
 apply AKS;intro i;rw[BH]
 by_cases h:i<xs.length
 .simp[h]
 .simp[h]
def Ll:GL:=λxs L=>match xs with
 |[.ref k]=>(match L[k]? with|some (.lst ds)=>if (ds.all isPr&&decide (ds.length<64))=true then some (.ref L.length,L++[.lst (sortP ds)]) else none|_=>none)
 |_=>none
def Hd(h:Heap)(v:Value)(d:D):Prop:=∃(x:Addr) (a b:Str) (t u:Tok),v=.ref x/\IsTup h x #[.str a t,.str b u]/\d=.tup [.str a,.str b]
section
variable {prog:Program}{w:World}{A:Around}{E:ALL}{s:Shared}
theorem ADC{v v':Value}{d d':D}{Q:Bool->Shared->Prop}(h1:Hd s.heap v d)(h2:Hd s.heap v' d')(q:Q (ltP d d') s):wpAny (model prog w) A (keyLt' (tuples' true) v v') Q E s:=by
 obtain⟨x,a,b,t,u,rfl,⟨o,e,_,n,k⟩,rfl⟩:=h1;obtain⟨y,c,d,t',u',rfl,⟨o',e',_,n',k'⟩,rfl⟩:=h2;refine PySem.W.kat_lt e k e' k' ?_;show PySem.W.KatLex prog w A true _ Q [(Value.str a t,Value.str c t'),(Value.str b u,Value.str d u')] 0 s
 have q':Q (if a=c then (if b=d then false else NB b d) else NB a c) s:=q
 refine PySem.W.kat_cons (wpAny_eqBool_str ?_)
 by_cases hac:a=c
 .rw[decide_eq_true hac];rw[if_pos hac] at q';refine PySem.W.kat_yes (PySem.W.kat_cons (wpAny_eqBool_str ?_))
  by_cases hbd:b=d
  .rw[decide_eq_true hbd];rw[if_pos hbd] at q';exact PySem.W.kat_yes (PySem.W.kat_nil q')
  .rw[decide_eq_false hbd];rw[if_neg hbd] at q';exact PySem.W.kat_no (PySem.W.kat_one _ _ (lt_str q'))
 .rw[decide_eq_false hac];rw[if_neg hac] at q';exact PySem.W.kat_no (oneLt_str q')
theorem WE{h:Heap}:∀{vs:List Value} {ds:List D},Paired (Hd h) vs ds->∃fs,PySem.W.KatTups h vs fs/\fs.length=vs.length/\∀f∈fs,∃a t,f=Value.str a t
 |_,_,.nil=>⟨[],trivial,rfl,λ_ z=>nomatch z⟩
 |_,_,.cons r t=>by
  obtain⟨x,a,b,tk,u,rfl,⟨o,e,c,n,k⟩,rfl⟩:=r;obtain⟨fs,h1,h2,h3⟩:=WE t;refine⟨Value.str a tk::fs,PySem.W.KatTups.cons e c k rfl h1,by simp[h2],λf hf=>?_⟩;rcases Ae.mp hf with rfl|hf
  .exact⟨_,_,rfl⟩
  .exact h3 f hf
theorem ADD{vs:List Value}{ds:List D}{Q:SortKind->Shared->Prop}(r:Paired (Hd s.heap) vs ds)(h0:0<vs.length)(q:Q (tuples' true) s):wpAny (model prog w) A (keyKind' vs.toArray) Q E s:=by obtain⟨fs,h1,h2,h3⟩:=WE r;refine PySem.W.kat_kind (T:=Value.type "str") h1 (by omega) (λv hv=>?_) rfl q;obtain⟨a,t,rfl⟩:=h3 v hv;exact .now
theorem Rp{α β:Type}{R:α->β->Prop}{xs:List α}{ys:List β}(r:Paired R xs ys)(a:α)(b:β):∀i,i<xs.length->R (xs.getD i a) (ys.getD i b):=by
 induction r with
 |nil=>intro i h;cases h
 |cons h t ih =>
  intro i hi
  cases i with
  |zero=>exact h
  |succ i=>exact ih i (by simpa using hi)
theorem Rn{α β:Type}{R:α->β->Prop}{xs:List α}{ys:List β}(r:Paired R xs ys)(a:α)(b:β):∀{p:List Nat},(∀i∈p,i<xs.length)->Paired R (p.map λi=>xs.getD i a) (p.map λi=>ys.getD i b)
 |[],_=>.nil
 |i::p,h=>.cons (Rp r a b i (h i BW)) (Rn r a b λj hj=>h j (BQ _ hj))
theorem ABy{a:Addr}{vs:List Value}{ds:List D}{n:Nat}{P:PySem.Fin->Shared->Prop}(ho:s.heap.get? a=some (seqObj "list" vs.toArray n))(r:Paired (Hd s.heap) vs ds)(h64:vs.length<64)
  (h:P (.done (.ret .none)) {s with heap:=sortedHeap s.heap a vs ((DQ ds).map λi=>vs.getD i Value.none).toArray}):wpAny (model prog w) A (Builtin.«list.sort» ⟨[.ref a],[]⟩) P E s:=by
 have ha:=Heap.lt_size ho;have hlen:vs.length=ds.length:=Paired.length r;obtain⟨e1,ho1⟩:∃e1,(s.heap.update a (Obj.mapSeq λ_=>#[])).get? a=some (seqObj "list" #[] e1):=⟨_,get?_update_seq ho λ_=>#[]⟩;generalize hH:((s.heap.update a (Obj.mapSeq λ_=>#[])).push (seqObj "tuple" vs.toArray 0)).push (seqObj "list" #[] 0)=H3
 have kept:∀b o,b≠a->s.heap.get? b=some o->H3.get? b=some o:=λb o hb e=>by
  have hlt:=Heap.lt_size e;rw[<-hH,Heap.get?_push_ne _ _ _ (by rw[size_push',Heap.size_update];exact Bu (Nat.lt_succ_of_lt hlt)),Heap.get?_push_ne _ _ _ (by rw[Heap.size_update];exact Bu hlt),Heap.get?_update_ne _ _ _ _ hb];exact e
 have at3:H3.get? a=some (seqObj "list" #[] e1):=by rw[<-hH,Heap.get?_push_ne _ _ _ (by rw[size_push',Heap.size_update];exact Bu (Nat.lt_succ_of_lt ha)),Heap.get?_push_ne _ _ _ (by rw[Heap.size_update];exact Bu ha)];exact ho1
 have stays:∀{v d},Hd s.heap v d->Hd H3 v d:=λ{v d} ⟨x,p,q,t,u,e0,⟨o,e,c,r⟩,z⟩=>⟨x,p,q,t,u,e0,⟨o,kept x o (λhx=>by rw[hx,ho] at e;cases e;have c2:Value.type "list"=Value.type "tuple":=c;exact absurd c2 (by decide)) e,c,r⟩,z⟩
 have r3:Paired (Hd H3) vs ds:=by
  clear h ho hlen h64 hH kept at3 ha ho1
  induction r with
  |nil=>exact .nil
  |cons q t ih=>exact .cons (stays q) ih
 have hout:H3.update a (Obj.mapSeq λ_=>((DQ ds).map λi=>vs.getD i Value.none).toArray)=sortedHeap s.heap a vs ((DQ ds).map λi=>vs.getD i Value.none).toArray:=by rw[<-hH];rfl
 have hol:(DQ ds).length=vs.length:=by rw[(LY ds).length_eq,AKs,hlen]
 rw[list_sort_plain];refine AH (listItems_at ho rfl (AH (listUpdate_at ho rfl ?_ (by rw[Bx,sizeLine_eq];omega) (FE _))));refine AH (seqEpoch_at ho1 rfl (AH (wpAny_newTuple ?_ (by show vs.length<=_;rw[sizeLine_eq];omega))));refine AH (wpAny_newList (EV ?_) (FE _))
 have hgo:∀(st:SortSt),(arrOf st).map (·.2)=((DQ ds).map λi=>vs.getD i Value.none).toArray->failedOf st=none->wpAny (model prog w) A (do
   let touched:=(<-seqEpoch a) != e1
   Builtin.List.listUpdate (.ref a) λ_=>(arrOf st).map (·.2)
   if let some e:=failedOf st then rule "list.sort.comparison-raised";throw e
   if touched then rule "list.sort.modified";raiseError "ValueError" "list modified during sort"
   ret .none) P E {s with heap:=H3}:=λst hst hf=>by
  rw[hst,hf];refine AH (seqEpoch_at at3 rfl (AH (listUpdate_at at3 rfl ?_ (FE _) (by rw[Bx,An,hol,sizeLine_eq];omega))));simp only[bne_self_eq_false,AKF,if_false];rw[hout];exact AU h
 show wpAny (model prog w) A _ P E {s with heap:=((s.heap.update a (Obj.mapSeq λ_=>#[])).push (seqObj "tuple" vs.toArray 0)).push (seqObj "list" #[] 0)};rw[hH]
 by_cases h2:vs.length<2
 .have h2':vs.toArray.size<2:=by simpa using h2
  dsimp only;rw[if_pos h2',if_pos h2'];refine AH (AU ?_);rw[StateT.run_pure];refine AH (AU ?_);refine hgo _ ?_ rfl;have e0:DQ ds=List.range vs.length:=by unfold DQ;rw[if_pos (by omega),hlen]
  rw[e0,Vy];apply Array.toList_inj.mp;show((vs.toArray.zip vs.toArray).map (·.2)).toList=vs;rw[Array.toList_map,Array.toList_zip];exact List.map_snd_zip (Al _)
 .have h2':¬vs.toArray.size<2:=by simpa using h2
  dsimp only;rw[if_neg h2',if_neg h2'];refine AH (ADD (s:={s with heap:=H3}) r3 (by omega) ?_);have e0:DQ ds=(kEval (λi j=>ltP (ds.getD i .non) (ds.getD j .non)) (kas_sort vs.length)).toList:=by unfold DQ;rw[if_neg (by omega),hlen]
  refine AH (GB (PySem.W.kat_run (ks:=vs) (vs:=vs) (κ:=tuples' true) (s:={s with heap:=H3}) (E:=E) (Q:=λst' s'=>s'={s with heap:=H3}/\(arrOf st').map (·.2)=((DQ ds).map λi=>vs.getD i Value.none).toArray/\failedOf st'=none)
   (G:=λp s'=>s'={s with heap:=H3}/\p=kEval (λi j=>ltP (ds.getD i .non) (ds.getD j .non)) (kas_sort vs.length)) rfl (by omega) h64 (λp st' s' _ a2 a3 a4=>⟨a4.1,?_,a3⟩) ?_) ?_ λ_ _ z=>z)
  .rw[PySem.W.kat_snds rfl a2,e0,a4.2]
  .refine DH.wp (c:=λi j=>ltP (ds.getD i .non) (ds.getD j .non)) (n:=vs.length) (R:=Pm vs.length) (λi j C hi hj hC=>?_) (Vj (by omega)) ⟨rfl,rfl⟩;exact ADC (s:={s with heap:=H3}) (Rp r3 Value.none D.non i hi) (Rp r3 Value.none D.non j hj) hC
  .rintro⟨⟨⟩,st'⟩ s' ⟨rfl,a2,a3⟩;exact hgo st' a2 a3
theorem ABx{l:Addr}{vs:List Value}{ds:List D}{Q:ALL}(hl:s.heap.IsList l vs.toArray)(r:Paired (Hd s.heap) vs ds)(h64:vs.length<64)
  (h:Q (.ref (s.heap.objs.size+1)) {s with heap:=sortedAll s.heap vs ((DQ ds).map λi=>vs.getD i Value.none).toArray}):wpAny (model prog w) A (call (.builtin "sorted") [.ref l]) Q E s:=by
 have hsz:((s.heap.push (seqObj "list" #[] 0)).update s.heap.objs.size (Obj.mapSeq (·++vs.toArray))).objs.size=s.heap.objs.size+1:=by rw[Heap.size_update];exact size_push' _ _
 generalize hH:((s.heap.push (seqObj "list" #[] 0)).update s.heap.objs.size (Obj.mapSeq (·++vs.toArray))).push (seqObj "list" vs.toArray 0)=H2;have at2:H2.get? (s.heap.objs.size+1)=some (seqObj "list" vs.toArray 0):=by rw[<-hH,<-hsz];exact Heap.get?_push_size _ rfl
 have kept:∀b o,s.heap.get? b=some o->H2.get? b=some o:=λb o e=>by
  have hlt:=Heap.lt_size e;rw[<-hH,Heap.get?_push_ne _ _ _ (by rw[hsz];exact Bu (Nat.lt_succ_of_lt hlt)),Heap.get?_update_ne _ _ _ _ (Bu hlt),Heap.get?_push_ne _ _ _ (Bu hlt)];exact e
 have r2:Paired (Hd H2) vs ds:=by
  clear h hl h64 hH at2 hsz
  induction r with
  |nil=>exact .nil
  |cons q t ih =>
   obtain⟨x,p,q,tk,u,e0,⟨o,e,c⟩,z⟩:=q;exact .cons ⟨x,p,q,tk,u,e0,⟨o,kept _ _ e,c⟩,z⟩ ih
 refine Calls.call_function_entry kind_sorted plain_sorted entry_sorted (args_sorted1 _) ?_;unfold Builtin.«sorted»;refine AH (m:=checkCount "sorted" 1 1 _) (AU (AH (collect_list hl ?_ (by rw[sizeLine_eq];omega))));refine AH (wpAny_newList ?_ (by rw[sizeLine_eq];omega));show wpAny _ _ _ _ _ {s with heap:=((s.heap.push (seqObj "list" #[] 0)).update s.heap.objs.size (Obj.mapSeq (·++vs.toArray))).push (seqObj "list" vs.toArray 0)};rw[hsz,hH];refine AH (EV (Gz slot_list_sort ⟨_,at2,rfl⟩ entry_list_sort (ABy (s:={s with heap:=H2}) at2 r2 h64 ⟨_,rfl,AU ⟨_,rfl,?_⟩⟩) (args_list_sort _)));have e3:sortedHeap H2 (s.heap.objs.size+1) vs ((DQ ds).map λi=>vs.getD i Value.none).toArray=sortedAll s.heap vs ((DQ ds).map λi=>vs.getD i Value.none).toArray:=by rw[<-hH];rfl
 show Q _ {s with heap:=sortedHeap H2 (s.heap.objs.size+1) vs _};rw[e3];exact h
end
section
variable {X:Cx}
theorem SN{K:AO}{H:Hp}{O:List Addr}:∀{ws:List V} {ds:List D},AV K H O ws ds->Paired (Is K H O) ws ds
 |_,_,.nil=>.nil
 |_,_,.cons h t=>.cons h (SN t)
theorem AFk{K:AO}{H:Hp}{O:List Addr}{ws:List V}{ds:List D}(h:Paired (Is K H O) ws ds):AV K H O ws ds:=by
 induction h with
 |nil=>exact .nil
 |cons q _ ih=>exact .cons q ih
theorem WF{pins}{s:Shared}{σ}{H:Hp}{O:List Addr}(I:AK X pins σ H s):∀{ws:List V} {ds:List D} {vs:List Value},AV X.K H O ws ds->Ak ws vs->ds.all isPr=true->Paired (Hd s.heap) vs ds
 |_,_,_,.nil,.nil,_=>.nil
 |_,_,_,.cons h t,.cons r q,e=>by
  rw[AJ1,CJ] at e;refine .cons ?_ (WF I t q e.2);have e1:=e.1;unfold isPr at e1;split at e1
  .rename_i a b
   cases h with|tup hs hl =>
    cases r
    cases hl with|cons h1 hl=>cases hl with|cons h2 hl =>
     cases hl;cases h1;cases h2;obtain⟨its,rv,p,_⟩:=I.tuple hs
     cases rv with|cons r1 rv=>cases rv with|cons r2 rv =>
      cases rv;obtain⟨t1,rfl⟩:=(show ∃t,_=Value.str a t from r1);obtain⟨t2,rfl⟩:=(show ∃t,_=Value.str b t from r2);exact⟨_,a,b,t1,t2,rfl,p,rfl⟩
  .cases e1
theorem AG2:Ff X (.builtin "sorted") Ll:=λpins s σ H vs us Q I rv z9_=>by
 obtain⟨O,L,xs,d,L',rs,is,e,k⟩:=z9_;unfold Ll at e;split at e
 .rename_i n;split at e
  .rename_i ds e1;split at e
   .rename_i hall;rw[CJ] at hall;have hlt:=of_decide_eq_true hall.2;cases e
    cases is with|cons i1 i2=>cases i2;cases i1 with|@ref _ a hn =>
     obtain⟨u,rfl,ru⟩:=En rv;cases ru;obtain⟨ws,hw,il⟩:=rs.ob n _ _ hn e1;obtain⟨its,rvv,p,_⟩:=I.list (Bj.of hw);have hl1:ws.length=its.length:=rvv.length;have hl2:ws.length=ds.length:=Paired.length (SN il);refine ABx p.isList (WF I il rvv hall.1) (by omega) ?_;have hin:∀i∈DQ ds,i<ws.length:=λi hi=>by rw[hl2];exact Cr.mp ((LY ds).mem_iff.mp hi)
     have hol:(DQ ds).length=ds.length:=by rw[(LY ds).length_eq,AKs]
     obtain⟨c,hc⟩:=sortedAll_at s.heap its ((DQ ds).map λi=>its.getD i Value.none).toArray;have hf:H (s.heap.objs.size+1)=none:=I.hok.fresh (AKA _);have st:Aq H O (upd H (s.heap.objs.size+1) (.lst ((DQ ds).map λi=>ws.getD i V.non))) (O++[s.heap.objs.size+1]):=⟨.new hf,BB _ _⟩;have hil:AV X.K H O ((DQ ds).map λi=>ws.getD i V.non) (sortP ds):=AFk (Rn (SN il) V.non D.non hin)
     exact⟨.ref (s.heap.objs.size+1),upd H (s.heap.objs.size+1) (.lst ((DQ ds).map λi=>ws.getD i V.non)),I.laid (o:=.lst ((DQ ds).map λi=>ws.getD i V.non)) (t':=s.toks) (λb o q=>sortedAll_old q) (AKA _) ⟨by rw[An,hol,sizeLine_eq];omega,(DQ ds).map λi=>its.getD i Value.none,c,Rn rvv V.non Value.none hin,hc⟩,rfl,
      k _ _ _ st (rs.new hf ⟨_,Ce,hil.mono st⟩) (.ref (by rw[<-rs.len];simp))⟩
   .cases e
  .cases e
 .cases e
end
section
variable {X:Cx}
theorem vv{i:Nat}{x:Str}{pos:Pos}(hN:X.N[i]?=some x:=by rfl)(hv:Kv X.env.scope x:=by first|exact Or.inl rfl|exact Or.inr (Or.inl rfl)|exact Or.inr (Or.inr rfl))(hd:(x == ("__debug__":Str))=false:=by decide)(hcd:(x == ("__classdict__":Str))=false:=by decide):Af X (.Name x pos) (AA i):=AGh (pv i hN hv hd hcd)
theorem Aw{a b:Expr}{fa fb:EF}{pos:Pos}(ha:Af X a fa)(hb:Af X b fb)(hs:TV b:=by intro _ _;rfl):Af X (.Subscript a b pos) (AG AZ fa fb):=Dk FG ha hb hs
end
def Bc(K:AO)(x:Str)(f:Addr):Prop:=Cp K mainGlobals x=some (some (.ref f))
def BV(K:AO)(x qual:Str)(st:Stmt)(f:Addr):Prop:=∃fd,Ig K x qual st f fd
theorem AGN{K:AO}{x qual:Str}{st:Stmt}{f:Addr}{oc:Value}{od an:Option Addr}{osl:Array (Option Value)}{kV doc pm cdv ct:Value}(l:K.lookup f=some ⟨oc,od,.func (AJq x qual (Jq st) (Gr st) (Ab st) .none kV doc pm an cdv ct),osl⟩)(c:AKk K cdv qual=true)(k:HB K (.ref f)=true):BV K x qual st f:=⟨_,AGL l c k⟩
def BX(P:Program)(w:World)(K:AO)(mg:ALK)(base:Heap)(k:Nat)(N:List Str)(qual:Str)(st:Stmt)(B:SF):Prop :=
 ∀(cdv:Value) (f:Addr) (A:Around) (outer:List Env) (s:Shared) (H:Hp) (E:XK),CO k (A.deeper (envOfC qual (Ab st) s.heap.objs.size f cdv))->GW (IA CX0 P w K mg base N qual (Ab st) f cdv A outer s H E).nox (Gr st) B
def BiQ(x qual:Str)(st:Stmt)(ps:List Str):Prop:=∀(kV doc pm:Value) (an:Option Addr) (cdv ct:Value) (us:List Value),us.length=ps.length->bindArgs (AJq x qual (Jq st) (Gr st) (Ab st) .none kV doc pm an cdv ct) ⟨us,[]⟩=pure (ps.zip us)
theorem AGO{P:Program}{w:World}{K:AO}{mg:ALK}{base h:Heap}(X:K.In h)(Gn:h.Ns mainGlobals mg){x qual:Str}{st:Stmt}{f:Addr}{N ps:List Str}{k:Nat}{B:SF}(G:GL)(e:G=Au B N ps.length)
  (a:Cp K mainGlobals x=some (some (.ref f))) (q:BV K x qual st f) (S:BN N ps (Ab st)) (d:BX P w K mg base k N qual st B) (b:BiQ x qual st ps):Ao P w K mg base (k+1) x G:=by
 obtain⟨fd,F⟩:=q;subst e;exact Sj F S (λcdv A outer s H E hr=>d cdv f A outer s H E hr) (F.binds b) (GC X Gn a) F.kp
theorem Ao.mn{P:Program}{w:World}{K:AO}{mg:ALK}{base:Heap}{j k:Nat}{x:Str}{G:GL}(F:Ao P w K mg base j x G)(h:j<=k:=by decide):Ao P w K mg base k x G:=F.mono h
theorem GY.mn{P:Program}{w:World}{K:AO}{mg:ALK}{base:Heap}{j k:Nat}{x:Str}{G:GL}(F:GY P w K mg base j x G)(h:j<=k:=by decide):GY P w K mg base k x G:=F.mono h
def W2{α:Type}(o:Option (α×AD))(Q:α->AD->Prop):Prop:=∃a L,o=some (a,L)/\Q a L
def W1{α:Type}(o:Option α)(Q:α->Prop):Prop:=∃a,o=some a/\Q a
def WI(o:Option (MO×AD))(Q:List D->(AD->Bool)->AD->Prop):Prop:=∃a k L,o=some (⟨a,k⟩,L)/\Q a k L
structure Tg where
 nx:Fm->AD->Prop
 rt:ALM
 bk:Fm->AD->Prop
 ct:Fm->AD->Prop
def Tg.of(E:Tg):Hf->Prop
 |.next ρ L=>E.nx ρ L
 |.ret d L=>E.rt d L
 |.brk ρ L=>E.bk ρ L
 |.cont ρ L=>E.ct ρ L
def WS(o:Option Hf)(nx:Fm->AD->Prop)(rt:ALM)(bk ct:Fm->AD->Prop):Prop:=∃x,o=some x/\Tg.of ⟨nx,rt,bk,ct⟩ x
def Br(b:Bool)(p q:Prop):Prop:=if b=true then p else q
def LC(d:D)(Q:Bool->Prop):Prop:=∃b,d=.bl b/\Q b
def Tb(d:D)(Q:Int->Prop):Prop:=∃b,d=.int b/\Q b
def Ta(n:Nat)(p:Prop):Prop:=n<=16777216/\p
def OJ(T:String)(x:D)(L:AD)(p:Prop):Prop:=KL T x L=true/\p
section
variable {α β:Type}{ρ:Fm}{L:AD}{p q:Prop}{b:Bool}{c:Prop}
theorem AJY(h:p):Br true p q:=h
theorem AJe(h:q):Br false p q:=h
theorem AJZ(h:Br b q p):Br (!b) p q:=by cases b <;> exact h
theorem Bs[Decidable c](h1:c->p)(h2:¬c->q):Br (decide c) p q:=by
 by_cases h:c
 .rw[decide_eq_true h];exact h1 h
 .rw[decide_eq_false h];exact h2 h
theorem AJf[Decidable c](h:c)(h1:p):Br (decide c) p q:=Bs (λ_=>h1) (λn=>absurd h n)
theorem AJg[Decidable c](h:¬c)(h1:q):Br (decide c) p q:=Bs (λn=>absurd n h) (λ_=>h1)
theorem Sy(e:b=true)(h:p):Br b p q:=by rw[e];exact h
theorem Kt(e:b=false)(h:q):Br b p q:=by rw[e];exact h
theorem IB(h1:b=true->p)(h2:b=false->q):Br b p q:=by
 cases b
 .exact h2 rfl
 .exact h1 rfl
theorem AIu{Q:Bool->Prop}(h:Q b):LC (.bl b) Q:=⟨_,rfl,h⟩
theorem AIt{i:Int}{Q:Int->Prop}(h:Q i):Tb (.int i) Q:=⟨_,rfl,h⟩
theorem AIk{z:Str}(h:p):OJ "str" (.str z) L p:=⟨rfl,h⟩
theorem Ux{k:Nat}{xs:List D}(e:L[k]?=some (.lst xs))(h:p):OJ "list" (.ref k) L p:=⟨by simp[KL,e],h⟩
theorem W2.mono{o:Option (α×AD)}{Q Q':α->AD->Prop}(h:W2 o Q)(i:∀a L,Q a L->Q' a L):W2 o Q':=let ⟨a,L,e,q⟩:=h;⟨a,L,e,i a L q⟩
theorem W2.mk{o:Option (α×AD)}{Q:α->AD->Prop}{a:α}(e:o=some (a,L))(h:Q a L):W2 o Q:=⟨a,L,e,h⟩
theorem W2.get{o:Option (α×AD)}{a:α}(h:W2 o λa' L'=>a'=a/\L'=L):o=some (a,L):=by obtain⟨a',L',e,rfl,rfl⟩:=h;exact e
theorem W1.mk{o:Option α}{Q:α->Prop}{a:α}(e:o=some a)(h:Q a):W1 o Q:=⟨a,e,h⟩
theorem WS.mono{o:Option Hf}{nx nx':Fm->AD->Prop}{rt rt':ALM}{bk bk' ct ct':Fm->AD->Prop}(h:WS o nx rt bk ct)(i1:∀a L,nx a L->nx' a L)(i2:∀a L,rt a L->rt' a L)(i3:∀a L,bk a L->bk' a L)(i4:∀a L,ct a L->ct' a L):WS o nx' rt' bk' ct':=by
 obtain⟨x,e,h⟩:=h;refine⟨x,e,?_⟩;cases x
 .exact i1 _ _ h
 .exact i2 _ _ h
 .exact i3 _ _ h
 .exact i4 _ _ h
section
variable {Q:ALM}{QT:Bool->AD->Prop}{QA:List D->AD->Prop}{QO:Option Int->AD->Prop}{f g h:EF}{t u:TF}{a:AF}
theorem RF{d:D}(h:Q d L):W2 (AE d ρ L) Q:=⟨d,L,rfl,h⟩
theorem Us{i:Nat}{d:D}(e:ρ[i]?=some (some d))(h:Q d L):W2 (AA i ρ L) Q:=⟨d,L,by unfold AA;rw[e],h⟩
theorem RG{o:G2}(h:W2 (f ρ L) λx L1=>W2 (g ρ L1) λy L2=>W2 (o x y L2) Q):W2 (AG o f g ρ L) Q:=by obtain⟨x,L1,e1,y,L2,e2,z,L3,e3,q⟩:=h;exact⟨z,L3,by unfold AG;rw[e1,AS,e2,AS];exact e3,q⟩
theorem AIO{o:G1}(h:W2 (f ρ L) λx L1=>W2 (o x L1) Q):W2 (BZ o f ρ L) Q:=by obtain⟨x,L1,e1,z,L3,e3,q⟩:=h;exact⟨z,L3,by unfold BZ;rw[e1,AS];exact e3,q⟩
theorem AIe(h:W2 (f ρ L) λd L1=>LC d λb=>QT b L1):W2 (AX f ρ L) QT:=by obtain⟨x,L1,e1,b,rfl,q⟩:=h;exact⟨b,L1,by unfold AX;rw[e1];rfl,q⟩
theorem AIV(h:W2 (t ρ L) λb L1=>QT (!b) L1):W2 (Dg t ρ L) QT:=by obtain⟨x,L1,e1,q⟩:=h;exact⟨_,L1,by unfold Dg;rw[e1];rfl,q⟩
theorem AIh(h:W2 (t ρ L) λb L1=>Br b (W2 (u ρ L1) QT) (QT false L1)):W2 (Jz t u ρ L) QT:=by
 obtain⟨x,L1,e1,q⟩:=h;cases x
 .exact⟨false,L1,by unfold Jz;rw[e1];rfl,q⟩
 .obtain⟨y,L2,e2,q⟩:=q;exact⟨y,L2,by unfold Jz;rw[e1];exact e2,q⟩
theorem AIT(h:W2 (t ρ L) λb L1=>Br b (QT true L1) (W2 (u ρ L1) QT)):W2 (DR t u ρ L) QT:=by
 obtain⟨x,L1,e1,q⟩:=h;cases x
 .obtain⟨y,L2,e2,q⟩:=q;exact⟨y,L2,by unfold DR;rw[e1];exact e2,q⟩
 .exact⟨true,L1,by unfold DR;rw[e1];rfl,q⟩
theorem AIQ(h:QT true L):W2 (Ds ρ L) QT:=⟨_,_,rfl,h⟩
theorem AIg(h:W2 (f ρ L) λd L1=>LC d λb=>Br b (W2 (g ρ L1) Q) (Q (.bl false) L1)):W2 (EQ f g ρ L) Q:=by
 obtain⟨x,L1,e1,b,rfl,q⟩:=h;cases b
 .exact⟨_,L1,by unfold EQ;rw[e1];rfl,q⟩
 .obtain⟨y,L2,e2,q⟩:=q;exact⟨y,L2,by unfold EQ;rw[e1];exact e2,q⟩
theorem AIS(h:W2 (f ρ L) λd L1=>LC d λb=>Br b (Q (.bl true) L1) (W2 (g ρ L1) Q)):W2 (KO f g ρ L) Q:=by
 obtain⟨x,L1,e1,b,rfl,q⟩:=h;cases b
 .obtain⟨y,L2,e2,q⟩:=q;exact⟨y,L2,by unfold KO;rw[e1];exact e2,q⟩
 .exact⟨_,L1,by unfold KO;rw[e1];rfl,q⟩
theorem AIU(h:W2 (f ρ L) λd L1=>LC d λb=>Q (.bl (!b)) L1):W2 (Jh f ρ L) Q:=by obtain⟨x,L1,e1,b,rfl,q⟩:=h;exact⟨_,L1,by unfold Jh;rw[e1];rfl,q⟩
theorem AIZ(h:W2 (t ρ L) λb L1=>Br b (W2 (f ρ L1) Q) (W2 (g ρ L1) Q)):W2 (IR t f g ρ L) Q:=by
 obtain⟨x,L1,e1,q⟩:=h;cases x
 .obtain⟨y,L2,e2,q⟩:=q;exact⟨y,L2,by unfold IR;rw[e1];exact e2,q⟩
 .obtain⟨y,L2,e2,q⟩:=q;exact⟨y,L2,by unfold IR;rw[e1];exact e2,q⟩
theorem AA3(h:QA [] L):W2 (AI ρ L) QA:=⟨_,_,rfl,h⟩
theorem AIa(h:W2 (f ρ L) λd L1=>W2 (a ρ L1) λds L2=>QA (d::ds) L2):W2 (AB f a ρ L) QA:=by obtain⟨x,L1,e1,y,L2,e2,q⟩:=h;exact⟨_,L2,by unfold AB;rw[e1,AS,e2];rfl,q⟩
theorem AIP(h:W2 (a ρ L) λds L1=>Ta ds.length (Q (.tup ds) L1)):W2 (DN a ρ L) Q:=by obtain⟨x,L1,e1,hz,q⟩:=h;exact⟨_,L1,by unfold DN;rw[e1,AS];simp only;rw[if_pos hz],q⟩
theorem AA4(h:W2 (a ρ L) λds L1=>Ta ds.length (Q (.ref L1.length) (L1++[.lst ds]))):W2 (CM a ρ L) Q:=by obtain⟨x,L1,e1,hz,q⟩:=h;exact⟨_,_,by unfold CM;rw[e1,AS];simp only;rw[if_pos hz],q⟩
theorem AId{o:GL}(h:W2 (a ρ L) λds L1=>W2 (o ds L1) Q):W2 (AQ o a ρ L) Q:=by obtain⟨x,L1,e1,y,L2,e2,q⟩:=h;exact⟨_,L2,by unfold AQ;rw[e1,AS];exact e2,q⟩
theorem AIX{T:String}{o:GM}(h:W2 (f ρ L) λx L1=>OJ T x L1 (W2 (a ρ L1) λys L2=>W2 (o x ys L2) Q)):W2 (CT T o f a ρ L) Q:=by obtain⟨x,L1,e1,ty,y,L2,e2,z,L3,e3,q⟩:=h;exact⟨_,L3,by unfold CT;rw[e1,AS];simp only;rw[if_pos ty,e2,AS];exact e3,q⟩
theorem AIW(h:QO none L):W2 (GN ρ L) QO:=⟨_,_,rfl,h⟩
theorem AIf(h:W2 (f ρ L) λd L1=>Tb d λi=>QO (some i) L1):W2 (Dm f ρ L) QO:=by obtain⟨x,L1,e1,b,rfl,q⟩:=h;exact⟨_,L1,by unfold Dm;rw[e1];rfl,q⟩
theorem AIR{fl fh:OF}(h:W2 (f ρ L) λx L1=>W2 (fl ρ L1) λlo L2=>W2 (fh ρ L2) λhi L3=>W2 (Ke x lo hi L3) Q):W2 (EJ f fl fh ρ L) Q:=by obtain⟨x,L1,e1,y,L2,e2,z,L3,e3,v,L4,e4,q⟩:=h;exact⟨_,L4,by unfold EJ;rw[e1,AS,e2,AS,e3,AS];exact e4,q⟩
theorem AIb{fi:IF}{n:Nat}{idx:List Nat}{gf:GF}{c:TF}{elt:EF}(h:WI (fi ρ L) λitems ok L1=>W1 (Dl ok gf c elt L1.length items (IZ n idx ρ) (L1++[.lst []])) λL2=>Q (.ref L1.length) L2):W2 (DW fi n idx gf c elt ρ L) Q:=by obtain⟨x,k,L1,e1,L2,e2,q⟩:=h;exact⟨_,_,by unfold DW;rw[e1,AS];simp only;rw[e2];rfl,q⟩
end
section
variable {Q:List D->(AD->Bool)->AD->Prop}{f:EF}{a:AF}
theorem AIK(h:W2 (f ρ L) λd L1=>WI ((KY d L1).bind λJ=>some (J,L1)) Q):WI (CH f ρ L) Q:=by obtain⟨x,L1,e1,y,k,L2,e2,q⟩:=h;exact⟨y,k,L2,by unfold CH;rw[e1,AS];exact e2,q⟩
theorem AIC{xs:List D}(h:Q xs (λ_=>true) L):WI ((KY (.tup xs) L).bind λJ=>some (J,L)) Q:=⟨_,_,_,rfl,h⟩
theorem AIF{k:Nat}{xs:List D}(e:L[k]?=some (.lst xs))(h:Q xs (λL'=>decide (L'[k]?=some (.lst xs))) L):WI ((KY (.ref k) L).bind λJ=>some (J,L)) Q:=⟨_,_,_,by simp only[KY,e];rfl,h⟩
theorem AIE(h:W2 (a ρ L) λds L1=>∃j:Int,ds=[.int j]/\(j<=4611686018427387903/\-4611686018427387904<=j)/\Q (FV 0 j.toNat) (λ_=>true) L1):WI (Hx a ρ L) Q:=by obtain⟨x,L1,e1,j,rfl,hj,q⟩:=h;exact⟨_,_,L1,by unfold Hx;rw[e1,AS];simp only;rw[if_pos hj],q⟩
theorem AID(h:W2 (a ρ L) λds L1=>∃i j:Int,ds=[.int i,.int j]/\((i<=4611686018427387903/\-4611686018427387904<=i)/\(j<=4611686018427387903/\-4611686018427387904<=j))/\Q (FV i (j-i).toNat) (λ_=>true) L1):WI (Lh a ρ L) Q:=by obtain⟨x,L1,e1,i,j,rfl,hj,q⟩:=h;exact⟨_,_,L1,by unfold Lh;rw[e1,AS];simp only;rw[if_pos hj],q⟩
theorem AIJ(h:W2 (a ρ L) λds L1=>∃y:Str,ds=[.str y]/\Q (Fs (sgs y)) (λ_=>true) L1):WI (Lj a ρ L) Q:=by obtain⟨x,L1,e1,y,rfl,q⟩:=h;exact⟨_,_,L1,by unfold Lj;rw[e1,AS],q⟩
end
theorem WS.inx{o:Option Hf}{nx:Fm->AD->Prop}{rt:ALM}{bk ct:Fm->AD->Prop}{ρ':Fm}{L':AD}(e:o=some (.next ρ' L'))(q:nx ρ' L'):WS o nx rt bk ct:=⟨_,e,q⟩
theorem WS.irt{o:Option Hf}{nx:Fm->AD->Prop}{rt:ALM}{bk ct:Fm->AD->Prop}{d:D}{L':AD}(e:o=some (.ret d L'))(q:rt d L'):WS o nx rt bk ct:=⟨_,e,q⟩
theorem WS.ibk{o:Option Hf}{nx:Fm->AD->Prop}{rt:ALM}{bk ct:Fm->AD->Prop}{ρ':Fm}{L':AD}(e:o=some (.brk ρ' L'))(q:bk ρ' L'):WS o nx rt bk ct:=⟨_,e,q⟩
theorem WS.ict{o:Option Hf}{nx:Fm->AD->Prop}{rt:ALM}{bk ct:Fm->AD->Prop}{ρ':Fm}{L':AD}(e:o=some (.cont ρ' L'))(q:ct ρ' L'):WS o nx rt bk ct:=⟨_,e,q⟩
section
variable {nx:Fm->AD->Prop}{rt:ALM}{bk ct:Fm->AD->Prop}{f g:SF}{t:TF}{e:EF}
theorem AH2(h:nx ρ L):WS (BI ρ L) nx rt bk ct:=⟨_,rfl,h⟩
theorem AH7(h:bk ρ L):WS (Sx ρ L) nx rt bk ct:=⟨_,rfl,h⟩
theorem LK(h:WS (f ρ L) (λρ' L'=>WS (g ρ' L') nx rt bk ct) rt bk ct):WS (AM f g ρ L) nx rt bk ct:=by
 obtain⟨x,e1,q⟩:=h
 cases x with
 |next ρ' L'=>obtain⟨y,e2,q⟩:=q;exact⟨y,by unfold AM;rw[e1];exact e2,q⟩
 |ret d L'=>exact WS.irt (by unfold AM;rw[e1];rfl) q
 |brk d L'=>exact WS.ibk (by unfold AM;rw[e1];rfl) q
 |cont d L'=>exact WS.ict (by unfold AM;rw[e1];rfl) q
theorem Mv{i:Nat}(h:W2 (e ρ L) λd L'=>nx (ρ.set i (some d)) L'):WS (AY i e ρ L) nx rt bk ct:=by obtain⟨x,L1,e1,q⟩:=h;exact WS.inx (by unfold AY;rw[e1];rfl) q
theorem AHz(h:W2 (e ρ L) rt):WS (Aa e ρ L) nx rt bk ct:=by obtain⟨x,L1,e1,q⟩:=h;exact WS.irt (by unfold Aa;rw[e1];rfl) q
theorem AH5(h:W2 (e ρ L) λ_ L'=>nx ρ L'):WS (EC e ρ L) nx rt bk ct:=by obtain⟨x,L1,e1,q⟩:=h;exact WS.inx (by unfold EC;rw[e1];rfl) q
theorem AH3(h:W2 (t ρ L) λb L'=>Br b (WS (f ρ L') nx rt bk ct) (WS (g ρ L') nx rt bk ct)):WS (Ax t f g ρ L) nx rt bk ct:=by
 obtain⟨x,L1,e1,q⟩:=h;cases x
 .obtain⟨y,e2,q⟩:=q;exact⟨y,by unfold Ax;rw[e1];exact e2,q⟩
 .obtain⟨y,e2,q⟩:=q;exact⟨y,by unfold Ax;rw[e1];exact e2,q⟩
theorem AH4{fi:IF}{gf:GF}{body:SF}(h:WI (fi ρ L) λitems ok L1=>WS (EB ok gf body items ρ L1) nx rt bk ct):WS (Ca fi gf body ρ L) nx rt bk ct:=by obtain⟨x,k,L1,e1,y,e2,q⟩:=h;exact⟨y,by unfold Ca;rw[e1,AS];exact e2,q⟩
theorem Ul{ok:AD->Bool}{gf:GF}{body:SF}(hk:ok L=true)(h:nx ρ L):WS (EB ok gf body [] ρ L) nx rt bk ct:=WS.inx (by unfold EB;rw[if_pos hk]) h
theorem Ik{ok:AD->Bool}{gf:GF}{body:SF}{x:D}{xs:List D}(hk:ok L=true)(h:W1 (gf x ρ) λρ1=>WS (body ρ1 L) (λρ2 L2=>WS (EB ok gf body xs ρ2 L2) nx rt bk ct) rt nx (λρ2 L2=>WS (EB ok gf body xs ρ2 L2) nx rt bk ct)):WS (EB ok gf body (x::xs) ρ L) nx rt bk ct:=by
 obtain⟨ρ1,e1,y,e2,q⟩:=h
 cases y with
 |next ρ2 L2=>obtain⟨z,e3,q⟩:=q;exact⟨z,by unfold EB;rw[if_pos hk,e1,AS,e2];exact e3,q⟩
 |cont ρ2 L2=>obtain⟨z,e3,q⟩:=q;exact⟨z,by unfold EB;rw[if_pos hk,e1,AS,e2];exact e3,q⟩
 |ret d L2=>exact WS.irt (by unfold EB;rw[if_pos hk,e1,AS,e2];rfl) q
 |brk ρ2 L2=>exact WS.inx (by unfold EB;rw[if_pos hk,e1,AS,e2];rfl) q
theorem Da{ok:AD->Bool}{gf:GF}{body:SF}(I:Nat->Fm->AD->Prop):∀(items:List D) (j:Nat) (ρ:Fm) (L:AD),I j ρ L ->
  (∀i x ρ L,items[i]?=some x->I (j+i) ρ L->ok L=true/\W1 (gf x ρ) λρ1=>WS (body ρ1 L) (I (j+i+1)) rt nx (I (j+i+1))) ->
  (∀ρ L,I (j+items.length) ρ L->ok L=true/\nx ρ L)->WS (EB ok gf body items ρ L) nx rt bk ct
 |[],j,ρ,L,h0,_,fin=>Ul (fin ρ L h0).1 (fin ρ L h0).2
 |x::xs,j,ρ,L,h0,st,fin=>by
  obtain⟨hk,hw⟩:=st 0 x ρ L rfl h0
  have go:∀ρ2 L2,I (j+1) ρ2 L2->WS (EB ok gf body xs ρ2 L2) nx rt bk ct:=λρ2 L2 h2=>Da I xs (j+1) ρ2 L2 h2
   (λi y ρ L e h=>by
    have e':j+(i+1)=j+1+i:=by omega
    have:=st (i+1) y ρ L (by simpa using e) (by rw[e'];exact h);rw[e'] at this
    exact this)
   (λρ L h=>fin ρ L (by have e':j+(x::xs).length=j+1+xs.length:=by simp;omega
                        rw[e'];exact h))
  refine Ik hk ?_;obtain⟨ρ1,e1,hb⟩:=hw;exact⟨ρ1,e1,hb.mono go (λ_ _ h=>h) (λ_ _ h=>h) go⟩
end
section
variable {Q:Fm->Prop}{gf:GF}{gs:Fd}
theorem AAw{i:Nat}{d:D}(h:Q (ρ.set i (some d))):W1 (Az i d ρ) Q:=⟨_,rfl,h⟩
theorem AIL{n:Nat}{ds:List D}(e:ds.length=n)(h:W1 (gs ds ρ) Q):W1 (GQ n gs (.tup ds) ρ) Q:=by obtain⟨ρ',e1,q⟩:=h;exact⟨ρ',by unfold GQ;simp only;rw[if_pos e];exact e1,q⟩
theorem AIM(h:Q ρ):W1 (Fk [] ρ) Q:=⟨_,rfl,h⟩
theorem AIN{d:D}{ds:List D}(h:W1 (gf d ρ) λρ'=>W1 (gs ds ρ') Q):W1 (CZ gf gs (d::ds) ρ) Q:=by obtain⟨ρ1,e1,ρ2,e2,q⟩:=h;exact⟨ρ2,by unfold CZ;simp only;rw[e1];exact e2,q⟩
end
theorem AAx{ok:AD->Bool}{g:GF}{c:TF}{elt:EF}{k:Nat}{Q:AD->Prop}(hk:ok L=true)(h:Q L):W1 (Dl ok g c elt k [] ρ L) Q:=⟨_,by unfold Dl;rw[if_pos hk],h⟩
theorem AAz{ok:AD->Bool}{g:GF}{c:TF}{elt:EF}{k:Nat}{x:D}{xs:List D}{Q:AD->Prop}(hk:ok L=true)
  (h:W1 (g x ρ) λρ1=>W2 (c ρ1 L) λb L1=>Br b (W2 (elt ρ1 L1) λd L2=>∃ys,L2[k]?=some (.lst ys)/\ys.length<16777216/\W1 (Dl ok g c elt k xs ρ1 (L2.set k (.lst (ys++[d])))) Q) (W1 (Dl ok g c elt k xs ρ1 L1) Q)) :
  W1 (Dl ok g c elt k (x::xs) ρ L) Q:=by
 obtain⟨ρ1,e1,b,L1,e2,q⟩:=h;cases b
 .obtain⟨z,e3,q⟩:=q;exact⟨z,by unfold Dl;rw[if_pos hk,e1,AS,e2,AS];exact e3,q⟩
 .obtain⟨d,L2,e3,ys,e4,hz,z,e5,q⟩:=q;refine⟨z,?_,q⟩;unfold Dl;rw[if_pos hk,e1,AS,e2,AS];simp only[if_true];rw[e3,AS];simp only;rw[e4];simp only;rw[if_pos hz];exact e5
theorem Ho{ok:AD->Bool}{g:GF}{c:TF}{elt:EF}{k:Nat}{Q:AD->Prop}(I:Nat->Fm->AD->Prop):∀(items:List D) (j:Nat) (ρ:Fm) (L:AD),I j ρ L ->
  (∀i x ρ L,items[i]?=some x->I (j+i) ρ L->ok L=true/\W1 (g x ρ) λρ1=>W2 (c ρ1 L) λb L1=>Br b (W2 (elt ρ1 L1) λd L2=>∃ys,L2[k]?=some (.lst ys)/\ys.length<16777216/\I (j+i+1) ρ1 (L2.set k (.lst (ys++[d])))) (I (j+i+1) ρ1 L1)) ->
  (∀ρ L,I (j+items.length) ρ L->ok L=true/\Q L)->W1 (Dl ok g c elt k items ρ L) Q
 |[],j,ρ,L,h0,_,fin=>AAx (fin ρ L h0).1 (fin ρ L h0).2
 |x::xs,j,ρ,L,h0,st,fin=>by
  obtain⟨hk,ρ1,e1,b,L1,e2,q⟩:=st 0 x ρ L rfl h0
  have go:∀ρ2 L2,I (j+1) ρ2 L2->W1 (Dl ok g c elt k xs ρ2 L2) Q:=λρ2 L2 h2=>Ho I xs (j+1) ρ2 L2 h2
   (λi y ρ L e h=>by
    have e':j+(i+1)=j+1+i:=by omega
    have:=st (i+1) y ρ L (by simpa using e) (by rw[e'];exact h);rw[e'] at this
    exact this)
   (λρ L h=>fin ρ L (by have e':j+(x::xs).length=j+1+xs.length:=by simp;omega
                        rw[e'];exact h))
  refine AAz hk ⟨ρ1,e1,b,L1,e2,?_⟩;cases b
  .exact go _ _ q
  .obtain⟨d,L2,e3,ys,e4,hz,q⟩:=q;exact⟨d,L2,e3,ys,e4,hz,go _ _ q⟩
theorem Mw{g:GF}{c:TF}{elt:EF}{L0:AD}{Q:AD->Prop}(P:Fm->Prop)(f:D->Option D)(items:List D)(ρ:Fm)
  (hp:P ρ) (hz:items.length<=16777216)
  (h:∀x∈items,∀ρ,P ρ->W1 (g x ρ) λρ1=>P ρ1/\∀acc,W2 (c ρ1 (L0++[.lst acc])) λb L1=>L1=L0++[.lst acc]/\Br b (W2 (elt ρ1 (L0++[.lst acc])) λd L2=>L2=L0++[.lst acc]/\f x=some d) (f x=none))
  (q:Q (L0++[.lst (items.filterMap f)])):W1 (Dl (λ_=>true) g c elt L0.length items ρ (L0++[.lst []])) Q:=by
 refine Ho (I:=λj ρ L=>P ρ/\L=L0++[.lst ((items.take j).filterMap f)]) items 0 ρ _ ⟨hp,by simp⟩ ?_ ?_
 .rintro i x ρ L e ⟨hp,rfl⟩;refine⟨rfl,?_⟩;have hi:i<items.length:=(BY.mp e).1;have hx:x∈items:=Cd e;obtain⟨ρ1,e1,hp1,h2⟩:=h x hx ρ hp;obtain⟨b,L1,e2,rfl,q⟩:=h2 ((items.take (0+i)).filterMap f);refine⟨ρ1,e1,b,_,e2,?_⟩
  have ht:items.take (0+i+1)=items.take (0+i)++[x]:=by rw[CI,AJ5,e];rfl
  cases b
  .have q':f x=none:=q;refine⟨hp1,?_⟩;rw[ht,List.filterMap_append];simp[q']
  .obtain⟨d,L2,e3,rfl,q⟩:=q;refine⟨d,_,e3,(items.take (0+i)).filterMap f,by simp,?_,hp1,?_⟩
   .refine Nat.lt_of_le_of_lt (List.length_filterMap_le _ _) ?_;simp;omega
   .rw[ht,List.filterMap_append];simp[q]
 .rintro ρ L ⟨_,rfl⟩;exact⟨rfl,by simpa using q⟩
section
variable {Q:ALM}{B:SF}{N:List Str}{n:Nat}{xs:List D}
theorem By(hn:xs.length=n)(h:WS (B (Gf N xs) L) (λ_ L2=>L <+: L2/\Q .non L) (λd L2=>d.noRef=true/\L <+: L2/\Q d L) (λ_ _=>False) (λ_ _=>False)):W2 (Au B N n xs L) Q:=by
 obtain⟨x,e,q⟩:=h;have tk:∀L2:AD,L <+: L2->L2.take L.length=L:=λL2 hp=>by obtain⟨M,rfl⟩:=hp;simp
 cases x with
 |next ρ L2=>exact⟨_,_,by unfold Au;rw[if_pos hn,e];simp only;rw[if_pos (tk _ q.1)],q.2⟩
 |ret d L2=>exact⟨_,_,by unfold Au;rw[if_pos hn,e];simp only;rw[if_pos ⟨q.1,tk _ q.2.1⟩],q.2.2⟩
 |brk ρ L2=>exact q.elim
 |cont ρ L2=>exact q.elim
theorem HJ(hn:xs.length=n)(h:WS (B (Gf N xs) L) (λ_ _=>False) (λd L2=>d.noRef=false/\Q d L2) (λ_ _=>False) (λ_ _=>False)):W2 (Au B N n xs L) Q:=by
 obtain⟨x,e,q⟩:=h
 cases x with
 |next ρ L2=>exact q.elim
 |ret d L2=>exact⟨_,_,by unfold Au;rw[if_pos hn,e];simp only;rw[if_neg (λh=>by rw[q.1] at h;cases h.1)],q.2⟩
 |brk ρ L2=>exact q.elim
 |cont ρ L2=>exact q.elim
end
section
variable {Q:ALM}{i j:Int}{x y:Str}
theorem AGD(h:Q (.int (i+j)) L):W2 (CV (.int i) (.int j) L) Q:=⟨_,_,rfl,h⟩
theorem No(hz:x.length+y.length<=16777216)(h:Q (.str (x++y)) L):W2 (CV (.str x) (.str y) L) Q:=⟨_,_,by unfold CV;simp only;rw[if_pos hz],h⟩
theorem YC{a b:Nat}{xs ys:List D}(e1:L[a]?=some (.lst xs))(e2:L[b]?=some (.lst ys))(hz:xs.length+ys.length<=16777216)(h:Q (.ref L.length) (L++[.lst (xs++ys)])):W2 (CV (.ref a) (.ref b) L) Q:=⟨_,_,by unfold CV;simp only;rw[e1,e2];simp only;rw[if_pos hz],h⟩
theorem AIy(h:Q (.int (i-j)) L):W2 (HR (.int i) (.int j) L) Q:=⟨_,_,rfl,h⟩
theorem Gk(hc:cMul i j=true)(h:Q (.int (i*j)) L):W2 (Et (.int i) (.int j) L) Q:=⟨_,_,by unfold Et;simp only;rw[if_pos hc],h⟩
theorem AF7(hc:KR x j=true)(h:Q (.str (Txt.mul x j)) L):W2 (Et (.str x) (.int j) L) Q:=⟨_,_,by unfold Et;simp only;rw[if_pos hc],h⟩
theorem AGA(hc:MC i j=true)(h:Q (.int (i / j)) L):W2 (Cw (.int i) (.int j) L) Q:=⟨_,_,by unfold Cw gI;simp only;rw[if_pos hc],h⟩
theorem Xy(hc:OA i j=true)(h:Q (.int (i % j)) L):W2 (Bq (.int i) (.int j) L) Q:=⟨_,_,by unfold Bq gI;simp only;rw[if_pos hc],h⟩
theorem Xx(hc:Su i j=true)(h:Q (.int (i ^ j.toNat)) L):W2 (IW (.int i) (.int j) L) Q:=⟨_,_,by unfold IW gI;simp only;rw[if_pos hc],h⟩
theorem AI5(h:Q (.int (-i)) L):W2 (IX (.int i) L) Q:=⟨_,_,rfl,h⟩
theorem AI9(h:Q (.bl (decide (i<j))) L):W2 (gLt (.int i) (.int j) L) Q:=⟨_,_,rfl,h⟩
theorem AJH(h:Q (.bl (decide (i<=j))) L):W2 (Nq (.int i) (.int j) L) Q:=⟨_,_,rfl,h⟩
theorem AJN(h:Q (.bl (decide (j<i))) L):W2 (HS (.int i) (.int j) L) Q:=⟨_,_,rfl,h⟩
theorem AJO(h:Q (.bl (decide (j<=i))) L):W2 (Nt (.int i) (.int j) L) Q:=⟨_,_,rfl,h⟩
theorem Kp{p q:Prop}[Decidable p][Decidable q](h:p↔q):decide p=decide q:=by
 by_cases a:p
 .rw[decide_eq_true a,decide_eq_true (h.mp a)]
 .rw[decide_eq_false a,decide_eq_false (λb=>a (h.mpr b))]
theorem Sh{a b:D}(hs:Fi a b=true)(h:Q (.bl (decide (a=b))) L):W2 (CN a b L) Q:=⟨_,_,by unfold CN;rw[if_pos hs],h⟩
theorem YD{a b:D}(hs:Fi a b=true)(h:Q (.bl (!decide (a=b))) L):W2 (Go a b L) Q:=⟨_,_,by unfold Go;rw[if_pos hs],h⟩
theorem AJS(h:Q (.bl (decide (i=j))) L):W2 (CN (.int i) (.int j) L) Q:=Sh rfl (by rw[Kp (show D.int i=D.int j↔i=j by simp)];exact h)
theorem AJQ(h:Q (.bl (decide (x=y))) L):W2 (CN (.str x) (.str y) L) Q:=Sh rfl (by rw[Kp (show D.str x=D.str y↔x=y by simp)];exact h)
theorem AI7(h:Q (.bl (!decide (i=j))) L):W2 (Go (.int i) (.int j) L) Q:=YD rfl (by rw[Kp (show D.int i=D.int j↔i=j by simp)];exact h)
theorem AI6(h:Q (.bl (!decide (x=y))) L):W2 (Go (.str x) (.str y) L) Q:=YD rfl (by rw[Kp (show D.str x=D.str y↔x=y by simp)];exact h)
theorem AJR(h:Q (.bl false) L):W2 (CN .non (.str y) L) Q:=Sh rfl (by rw[decide_eq_false (by intro z;cases z)];exact h)
theorem AJK{a:D}(h:Q (.bl (IQ a)) L):W2 (Ki a .non L) Q:=⟨_,_,rfl,h⟩
theorem AJJ{a:D}(h:Q (.bl (!IQ a)) L):W2 (Kh a .non L) Q:=⟨_,_,rfl,h⟩
theorem AJM(h:Q (.bl (Gi x y)) L):W2 (DK false (.str x) (.str y) L) Q:=⟨_,_,rfl,h⟩
theorem Nr{neg:Bool}{d e:D}{ys:List D}(h0:∀i j,d=.str i->e=.str j->False)(e1:DD e L=some ys)(hf:(BO d&&ys.all BO)=true)(h:Q (.bl (if neg then !Db d ys else Db d ys)) L):W2 (DK neg d e L) Q:=by
 refine⟨_,_,?_,h⟩;unfold DK;split
 .exact(h0 _ _ rfl rfl).elim
 .rw[e1];simp only;rw[if_pos hf]
theorem Nn{d:D}{ys:List D}(hf:(BO d&&ys.all BO)=true)(h:Q (.bl (Db d ys)) L):W2 (DK false d (.tup ys) L) Q:=Nr (λ_ _ _ z=>by cases z) rfl hf h
theorem Nl{d:D}{ys:List D}(hf:(BO d&&ys.all BO)=true)(h:Q (.bl (!Db d ys)) L):W2 (DK true d (.tup ys) L) Q:=Nr (λ_ _ _ z=>by cases z) rfl hf h
theorem AF9{d:D}{k:Nat}{ys:List D}(e:L[k]?=some (.lst ys))(hf:(BO d&&ys.all BO)=true)(h:Q (.bl (Db d ys)) L):W2 (DK false d (.ref k) L) Q:=Nr (λ_ _ _ z=>by cases z) (by simp[DD,e]) hf h
theorem Nm{d:D}{k:Nat}{ys:List D}(e:L[k]?=some (.lst ys))(hf:(BO d&&ys.all BO)=true)(h:Q (.bl (!Db d ys)) L):W2 (DK true d (.ref k) L) Q:=Nr (λ_ _ _ z=>by cases z) (by simp[DD,e]) hf h
theorem Sc{c:Nat}(e:atI x.cps.toList i=some c)(h:Q (.str ⟨#[c]⟩) L):W2 (AZ (.str x) (.int i) L) Q:=⟨_,_,by unfold AZ;simp only;rw[e],h⟩
theorem AJI{xs:List D}{d:D}(e:atI xs i=some d)(h:Q d L):W2 (AZ (.tup xs) (.int i) L) Q:=⟨_,_,by unfold AZ;simp only[DD];rw[e],h⟩
theorem Xz{xs:List D}{d:D}(e:atI xs i=some d)(h:Q d L):W2 (AZ (.fz xs) (.int i) L) Q:=⟨_,_,by unfold AZ;simp only[DD];rw[e],h⟩
theorem DV{k:Nat}{xs:List D}{d:D}(e1:L[k]?=some (.lst xs))(e:atI xs i=some d)(h:Q d L):W2 (AZ (.ref k) (.int i) L) Q:=⟨_,_,by unfold AZ;simp only[DD,e1];rw[e],h⟩
theorem AI0{lo hi:Option Int}(h:Q (.str (Txt.slice x lo hi)) L):W2 (Ke (.str x) lo hi L) Q:=⟨_,_,rfl,h⟩
theorem AI1{lo hi:Option Int}{k:Nat}{xs:List D}(e:L[k]?=some (.lst xs))(h:Q (.ref L.length) (L++[.lst (cutD xs lo hi)])):W2 (Ke (.ref k) lo hi L) Q:=⟨_,_,by unfold Ke;simp only[e],h⟩
theorem AJD(h:Q (.int (x.length:Int)) L):W2 (Bz [.str x] L) Q:=⟨_,_,rfl,h⟩
theorem AJC{xs:List D}(h:Q (.int (xs.length:Int)) L):W2 (Bz [.tup xs] L) Q:=⟨_,_,rfl,h⟩
theorem AJF{xs:List D}(h:Q (.int (xs.length:Int)) L):W2 (Bz [.fz xs] L) Q:=⟨_,_,rfl,h⟩
theorem AJE{k:Nat}{xs:List D}(e:L[k]?=some (.lst xs))(h:Q (.int (xs.length:Int)) L):W2 (Bz [.ref k] L) Q:=⟨_,_,by simp only[Bz,DD,e],h⟩
theorem AJT(h:Q (.int (if i<0 then -i else i)) L):W2 (Lu [.int i] L) Q:=⟨_,_,rfl,h⟩
theorem AI8(h:Q (.int (if j<i then j else i)) L):W2 (Lm [.int i,.int j] L) Q:=⟨_,_,rfl,h⟩
theorem AJL{b:Bool}(h:Q (.int (if b then 1 else 0)) L):W2 (Lq [.bl b] L) Q:=⟨_,_,rfl,h⟩
theorem AIx{k:Nat}{xs:List D}(e:L[k]?=some (.lst xs))(h:Q (.tup xs) L):W2 (Gm [.ref k] L) Q:=⟨_,_,by simp only[Gm,DD,e],h⟩
theorem AJA{k:Nat}{xs:List D}(e:L[k]?=some (.lst xs))(h:Q (.ref L.length) (L++[.lst xs])):W2 (Kg [.ref k] L) Q:=⟨_,_,by simp only[Kg,DD,e],h⟩
theorem YA{d:D}{t T:String}{b:Bool}(hT:["int","str","bool","list","tuple","dict"].contains T=true)(e:GJ d L=some t)(eb:Kb t T=b)(h:Q (.bl b) L):W2 (Di [d,.ty T] L) Q:=⟨_,_,by simp only[Di];rw[if_pos hT,e,<-eb];rfl,h⟩
theorem YB{k:Nat}{ds:List D}{bs:List Bool}(e:L[k]?=some (.lst ds))(e2:blsD ds=some bs)(h:Q (.bl (bs.all id)) L):W2 (Kj [.ref k] L) Q:=⟨_,_,by simp only[Kj,e,e2],h⟩
theorem AF8{k:Nat}{ds:List D}{ys:List Str}(e:L[k]?=some (.lst ds))(e2:CB ds=some ys)(hz:(ys.map (·.length)).sum+ys.length*x.length<=16777216)(h:Q (.str (Txt.join x ys)) L):W2 (Lp (.str x) [.ref k] L) Q:=⟨_,_,by simp only[Lp,DD,e,e2];rw[if_pos hz],h⟩
theorem Hy{k:Nat}{ds:List D}{d:D}(e:L[k]?=some (.lst ds))(hz:ds.length<16777216)(h:Q .non (L.set k (.lst (ds++[d])))):W2 (Fl (.ref k) [d] L) Q:=⟨_,_,by simp only[Fl,e];rw[if_pos hz],h⟩
theorem AI2{f:Str->Bool}(h:Q (.bl (f x)) L):W2 (IV f (.str x) [] L) Q:=⟨_,_,rfl,h⟩
theorem Nk{f:Str->Str}(hz:(f x).length<=16777216)(h:Q (.str (f x)) L):W2 (gS0s f (.str x) [] L) Q:=⟨_,_,by simp only[gS0s];rw[if_pos hz],h⟩
end
end
theorem AFQ{n:Nat}{p:Prop}(h:Nat.ble n 16777216=true)(hp:p):Ta n p:=⟨Nat.le_of_ble_eq_true h,hp⟩
theorem As{α:Type}{L:List α}{a:α}:(L++[a])[L.length]?=some a:=by simp
theorem Aj{α:Type}{L M:List α}{k:Nat}{a:α}(h:L[k]?=some a):(L++M)[k]?=some a:=by rw[Fh (BY.mp h).1];exact h
theorem Dh{α:Type}{L:List α}{k:Nat}{a b:α}(h:L[k]?=some b):(L.set k a)[k]?=some a:=by rw[AJ9 (BY.mp h).1]
theorem FX{α:Type}{L:List α}{k j:Nat}{a b:α}(n:j≠k)(h:L[k]?=some b):(L.set j a)[k]?=some b:=by rw[Em n];exact h
theorem NL{α:Type}{L L2:List α}{k:Nat}{a:α}(h:L <+: L2)(hk:L.length<=k):L <+: L2.set k a:=by obtain⟨M,rfl⟩:=h;rw[List.set_append,if_neg (by omega)];exact BB _ _
section
variable {Q:ALM}{L:AD}
theorem AI4(h:Q (.int 10000000000000000000000000000000000000000) L):W2 (IW (.int 10) (.int 40) L) Q:=Xx (by decide) (by have e:(10:Int) ^ (40:Int).toNat=10000000000000000000000000000000000000000:=(by decide);(rw[e];exact h))
theorem AI3(h:Q (.int 1000000) L):W2 (IW (.int 10) (.int 6) L) Q:=Xx (by decide) (by have e:(10:Int) ^ (6:Int).toNat=1000000:=(by decide);(rw[e];exact h))
end
section
variable {p q:Prop}
theorem AJc(h:p):Br (IQ .non) p q:=h
theorem AJd{i:Int}(h:q):Br (IQ (.int i)) p q:=h
theorem AJa{i:List D}(h:q):Br (IQ (.tup i)) p q:=h
theorem AJb{i:Nat}(h:q):Br (IQ (.ref i)) p q:=h
end
theorem Sd{Q:ALM}{L:AD}{d:D}{t T:String}(hT:["int","str","bool","list","tuple","dict"].contains T=true)(e:GJ d L=some t)(eb:Kb t T=true)(h:Q (.bl true) L):W2 (Di [d,.ty T] L) Q:=YA hT e eb h
theorem GP{Q:ALM}{L:AD}{d:D}{t T:String}(hT:["int","str","bool","list","tuple","dict"].contains T=true)(e:GJ d L=some t)(eb:Kb t T=false)(h:Q (.bl false) L):W2 (Di [d,.ty T] L) Q:=YA hT e eb h
theorem AA2{Q:ALM}{B:SF}{N:List Str}{n:Nat}{xs:List D}{L:AD}(hn:xs.length=n)(h:WS (B (Gf N xs) L) (λ_ _=>False) (λd L2=>L <+: L2/\(d.noRef=true->Q d L)/\(d.noRef=false->Q d L2)) (λ_ _=>False) (λ_ _=>False)):W2 (Au B N n xs L) Q:=by
 obtain⟨x,e,q⟩:=h;have tk:∀L2:AD,L <+: L2->L2.take L.length=L:=λL2 hp=>by obtain⟨M,rfl⟩:=hp;simp
 cases x with
 |next ρ L2=>exact q.elim
 |ret d L2 =>
  cases hd:d.noRef with
  |true=>exact⟨_,_,by unfold Au;rw[if_pos hn,e];simp only;rw[if_pos ⟨hd,tk _ q.1⟩],q.2.1 hd⟩
  |false=>exact⟨_,_,by unfold Au;rw[if_pos hn,e];simp only;rw[if_neg (λh=>by rw[hd] at h;cases h.1)],q.2.2 hd⟩
 |brk ρ L2=>exact q.elim
 |cont ρ L2=>exact q.elim
theorem AIq{j0:Int}{Q:Int->Prop}(hb:j0<=4611686018427387903/\-4611686018427387904<=j0)(h:Q j0):∃j:Int,[D.int j0]=[.int j]/\(j<=4611686018427387903/\-4611686018427387904<=j)/\Q j:=⟨j0,rfl,hb,h⟩
theorem AIp{i0 j0:Int}{Q:Int->Int->Prop}(hb:(i0<=4611686018427387903/\-4611686018427387904<=i0)/\(j0<=4611686018427387903/\-4611686018427387904<=j0))(h:Q i0 j0) :
  ∃i j:Int,[D.int i0,.int j0]=[.int i,.int j]/\((i<=4611686018427387903/\-4611686018427387904<=i)/\(j<=4611686018427387903/\-4611686018427387904<=j))/\Q i j:=⟨i0,j0,rfl,hb,h⟩
theorem AJV{y0:Str}{Q:Str->Prop}(h:Q y0):∃y:Str,[D.str y0]=[.str y]/\Q y:=⟨y0,rfl,h⟩
def sg(y:Str)(i:Nat):Str:=⟨#[y.cps.getD i 0]⟩
theorem AGe(y:Str):Fs (sgs y)=(List.range y.cps.size).map λ(i:Nat)=>D.tup [.int (i:Int),.str (sg y i)]:=by
 apply AKS;intro i;rw[YV,BH]
 by_cases h:i<y.cps.size
 .rw[AKD h];simp[sg,h,Array.getD]
 .have h1:y.cps[i]?=none:=by simp;omega
  have h2:(List.range y.cps.size)[i]?=none:=by simp;omega
  rw[h1,h2];rfl
theorem Lv{α β:Type}{f g:α->Option β}:∀{l:List α},(∀x∈l,f x=g x)->l.filterMap f=l.filterMap g
 |[],_=>rfl
 |x::xs,h=>by
  have ih:=Lv λy hy=>h y (BQ x hy);rw[AKI,AKI,h x BW,ih]
theorem ZL{α β:Type}(f:α->β)(xs:List α)(i:Int):atI (xs.map f) i=(atI xs i).map f:=by
 unfold atI;rw[An]
 cases ixN xs.length i with
 |none=>rfl
 |some j=>simp
theorem ZJ{α:Type}{xs:List α}{i:Int}(h:-(xs.length:Int)<=i/\i<xs.length):∃v,atI xs i=some v:=by
 unfold atI ixN
 by_cases h0:0<=i
 .rw[if_pos h0,if_pos h.2];have:i.toNat<xs.length:=by omega
  exact⟨xs[i.toNat],by simp[this]⟩
 .rw[if_neg h0,if_pos h.1];have:(i+xs.length).toNat<xs.length:=by omega
  exact⟨xs[(i+xs.length).toNat],by simp[this]⟩
theorem ZK{α:Type}{xs:List α}{i:Int}{v:α}(h:atI xs i=some v):v∈xs:=by obtain⟨j,_,hj,_⟩:=OD h;exact Cd hj
theorem OC{α:Type}{xs:List α}{n:Int}(c:Int)(h0:0<n)(h:n<=xs.length):∃v∈xs,atI xs (c % n)=some v:=by have h1:=HG c (b:=n) (by omega);have h2:=HH c h0;obtain⟨v,hv⟩:=ZJ (xs:=xs) (i:=c % n) ⟨by omega,by omega⟩;exact⟨v,ZK hv,hv⟩
theorem ACV(n:Nat):FV 0 n=(List.range n).map λ(i:Nat)=>D.int (i:Int):=by simp[FV]
theorem ACW{lo:Int}{n:Nat}{d:D}(h:d∈FV lo n):∃i:Nat,i<n/\d=.int (lo+(i:Int)):=by unfold FV at h;rw[BC] at h;obtain⟨i,hi,rfl⟩:=h;exact⟨i,Cr.mp hi,rfl⟩
theorem NI{lo:Int}{n i:Nat}{d:D}(h:(FV lo n)[i]?=some d):i<n/\d=.int (lo+(i:Int)):=by
 rw[Vv] at h;split at h
 .rename_i hi;cases h;exact⟨hi,rfl⟩
 .cases h
open Builtin.Int in
theorem Wp{a b:Int}{m n:Nat}(ha:intBits a<=m)(hb:intBits b<=n)(h:m+n<=134217728):cMul a b=true:=decide_eq_true (PySem.IntMulOk.of_le ha hb h)
theorem AHG{a:Int}{n:Nat}(h:a.natAbs<2 ^ n):Builtin.Int.intBits a<=n:=PySem.intBits_le_iff.mpr h
theorem La{a b:Int}(h:-18446744073709551616<a/\a<18446744073709551616):cMul a b=true:=decide_eq_true (.of_left (intBits_le_64 (by omega) (by omega)))
theorem Rx{a b:Int}(h:-18446744073709551616<b/\b<18446744073709551616):cMul a b=true:=decide_eq_true (.of_right (intBits_le_64 (by omega) (by omega)))
theorem ZM{ns:List Int}{k:Int}(h0:0<=k)(h1:k<ns.length):∃z∈ns,atI (ns.map D.int) k=some (.int z):=by
 have hk:k.toNat<ns.length:=by omega
 refine⟨ns[k.toNat],AKn _,?_⟩;have e:((k.toNat:Nat):Int)=k:=by omega
 have q:=Eh (xs:=ns.map D.int) (j:=k.toNat) (v:=.int ns[k.toNat]) (by simp[hk]);rw[e] at q;exact q
def MB:List Nat:=[97,98,99,100,101,102,103,104,105,106,107,108,109,110,111,112,113,114,115,116,117,118,119,120,121,122,65,66,67,68,69,70,71,72,73,74,75,76,77,78,79,80,81,82,83,84,85,86,87,88,89,90,48,49,50,51,52,53,54,55,56,57,32,45,46,44,47]
def TK:Str:="abcdefghijklmnopqrstuvwxyzABCDEFGHIJKLMNOPQRSTUVWXYZ0123456789 -.,/"
def BR(y:Str):Prop:=∀c∈y.cps.toList,c∈MB
noncomputable instance (y:Str):Decidable (BR y):=by unfold BR;infer_instance
theorem BR.at{y:Str}(h:BR y){i:Nat}(hi:i<y.cps.size):y.cps.getD i 0∈MB:=by
 have:y.cps.getD i 0=y.cps[i]:=by simp[Array.getD,hi]
 rw[this];exact h _ (by simp)
theorem BR.one{c:Nat}(h:c∈MB):BR ⟨#[c]⟩:=λz hz=>by
 have:z=c:=by simpa using hz
 rw[this];exact h
theorem TH(x y:Str):(x++y).cps.toList=x.cps.toList++y.cps.toList:=by show(x.cps++y.cps).toList=_;simp
theorem AHW(x y:Str):(x++y).cps.size=x.cps.size+y.cps.size:=by show(x.cps++y.cps).size=_;simp
theorem OH(x y:Str):(x++y).length=x.length+y.length:=AHW x y
theorem BR.app{x y:Str}(hx:BR x)(hy:BR y):BR (x++y):=λc hc=>by
 rw[TH,DB] at hc;rcases hc with h|h
 .exact hx c h
 .exact hy c h
theorem AB1{x:Str}{l u:Option Int}{c:Nat}(h:c∈(Txt.slice x l u).cps.toList):c∈x.cps.toList:=by
 unfold Txt.slice at h;split at h
 .exact h
 .simp only[AKf] at h;obtain⟨j,_,hj⟩:=h;have:=AKy.mp hj;obtain⟨h1,rfl⟩:=this;simp
theorem BR.slice{x:Str}(h:BR x)(l u:Option Int):BR (Txt.slice x l u):=λc hc=>h c (AB1 hc)
theorem BR.join:∀{ys:List Str},(∀y∈ys,BR y)->BR (Txt.join "" ys):=λ{ys} h=>by
 show BR (Builtin.Str.glued "" ys);rw[StrLaws.glued_eq_join]
 induction ys with
 |nil=>exact(by decide)
 |cons x r ih =>
  cases r with
  |nil=>exact h x BW
  |cons y r =>
   show BR (x++("":Str)++Str.join "" (y::r));exact((h x BW).app (by decide)).app (ih λz hz=>h z (BQ _ hz))
theorem Wr{c:Nat}:∀(l:List (Array Nat)) (a:Array Nat),c∈(l.foldl (·++·) a).toList->c∈a.toList\/∃b∈l,c∈b.toList
 |[],a,h=>.inl h
 |b::r,a,h=>by
  rw[AJj] at h;rcases Wr r _ h with h|⟨b',h1,h2⟩
  .rw[Array.toList_append,DB] at h;rcases h with h|h
   .exact .inl h
   .exact .inr ⟨b,BW,h⟩
  .exact .inr ⟨b',BQ _ h1,h2⟩
theorem AEj{x:Str}{n:Int}{c:Nat}(h:c∈(Txt.mul x n).cps.toList):c∈x.cps.toList:=by
 unfold Txt.mul at h;split at h
 .simp[Str.empty] at h
 .split at h
  .exact h
  .rcases Wr _ _ h with h|⟨b,h1,h2⟩
   .simp at h
   .rw[List.eq_of_mem_replicate h1] at h2;exact h2
theorem BR.mul{x:Str}(h:BR x)(n:Int):BR (Txt.mul x n):=λc hc=>h c (AEj hc)
theorem VV:∀{ds:List D},(∀d∈ds,∃s:Str,d=.str s)->∃ys,CB ds=some ys/\ds=ys.map D.str
 |[],_=>⟨[],rfl,rfl⟩
 |d::ds,h=>by
  obtain⟨s,rfl⟩:=h d BW;obtain⟨ys,e,e2⟩:=VV λz hz=>h z (BQ _ hz);exact⟨s::ys,by simp[CB,e],by simp[<-e2]⟩
theorem ABq{ys:List Str}{n:Nat}(h:∀y∈ys,y.length<=n):(ys.map (·.length)).sum<=ys.length*n:=by
 induction ys with
 |nil=>simp
 |cons y r ih =>
  have h1:=h y BW;have h2:=ih λz hz=>h z (BQ _ hz);simp only[Am,FF,EX,AJu];omega
def GK:Nat->D->Bool
 |0,_=>false
 |n+1,.tup xs=>xs.all (GK n)
 |n+1,.fz xs=>xs.all (GK n)
 |_+1,.ref _=>false
 |_+1,.ty _=>false
 |_+1,_=>true
theorem ZU:∀{os:List (Option Bool)},(∀o∈os,o=some true)->GU os=some true
 |[],_=>rfl
 |o::r,h=>by
  have h1:=h o BW;subst h1;rw[GU,ZU λo ho=>h o (BQ _ ho)];rfl
theorem AAU{xs:List D}{z:D×D}(h:z∈xs.zip xs):z.1=z.2/\z.1∈xs:=by
 induction xs with
 |nil=>simp at h
 |cons x r ih =>
  rw[List.zip_cons_cons] at h;rcases Ae.mp h with rfl|h
  .exact⟨rfl,BW⟩
  .exact⟨(ih h).1,BQ _ (ih h).2⟩
theorem Sl:∀(n:Nat) (L:AD) (x:D),GK n x=true->Cm n L x x=some true
 |0,_,_,h=>by cases h
 |n+1,L,x,h=>by
  have seqs:∀xs:List D,xs.all (GK n)=true->GU ((xs.zip xs).map λz=>Cm n L z.1 z.2)=some true:=λxs hx=>by
   refine ZU λo ho=>?_;rw[BC] at ho;obtain⟨z,hz,rfl⟩:=ho;obtain⟨e1,e2⟩:=AAU hz;rw[<-e1];exact Sl n L z.1 (CW.mp hx _ e2)
  rw[Lx]
  cases x with
  |tup xs =>
   simp only[GK] at h;simp[BO,CP,seqs xs h]
  |fz xs =>
   simp only[GK] at h;simp[BO,CP,seqs xs h]
  |ref k=>simp[GK] at h
  |ty k=>simp[GK] at h
  |non=>simp only[BO,if_true];rw[Lw rfl]
  |bl b=>simp only[BO,if_true];rw[Lw rfl]
  |int b=>simp only[BO,if_true];rw[Lw rfl]
  |str b=>simp only[BO,if_true];rw[Lw rfl]
section
variable {Q:ALM}{L:AD}
def Dr(k:Nat)(L L':AD):Prop:=L.length<=L'.length/\∀j,j≠k->j<L.length->L'[j]?=L[j]?
theorem Dr.refl(k:Nat)(L:AD):Dr k L L:=⟨Al _,λ_ _ _=>rfl⟩
theorem Dr.trans{k:Nat}{L L1 L2:AD}(a:Dr k L L1)(b:Dr k L1 L2):Dr k L L2:=⟨DA a.1 b.1,λj h1 h2=>by rw[b.2 j h1 (by have:=a.1;omega),a.2 j h1 h2]⟩
theorem Dr.app(k:Nat)(L M:AD):Dr k L (L++M):=⟨by simp,λj _ h=>by rw[Fh h]⟩
theorem Dr.set(k:Nat)(L:AD)(o:Ob):Dr k L (L.set k o):=⟨by simp,λj h _=>by rw[Em (Ne.symm h)]⟩
theorem Dr.get{k j:Nat}{L L':AD}{o:Ob}(h:Dr k L L')(n:j≠k)(e:L[j]?=some o):L'[j]?=some o:=by rw[h.2 j n (BY.mp e).1];exact e
theorem RD{nx:Fm->AD->Prop}{rt:ALM}{bk ct:Fm->AD->Prop}{ok:AD->Bool}{gf:GF}{body:SF}(P:Fm->Prop)(k m B:Nat)(f:D->List D){items:List D}{ρ:Fm}{acc:List D}
  (hk:L[k]?=some (.lst acc)) (hp:P ρ) (hm:∀x∈items,(f x).length<=m) (hB:acc.length+items.length*m<=B)
  (turn:∀x∈items,∀ρ L' acc',P ρ->Dr k L L'->L'[k]?=some (.lst acc')->acc'.length<=B->ok L'=true/\W1 (gf x ρ) λρ1=>WS (body ρ1 L') (λρ2 L2=>P ρ2/\Dr k L' L2/\L2[k]?=some (.lst (acc'++f x))) rt (λ_ _=>False) (λρ2 L2=>P ρ2/\Dr k L' L2/\L2[k]?=some (.lst (acc'++f x))))
  (fin:∀ρ L',P ρ->Dr k L L'->L'[k]?=some (.lst (acc++items.flatMap f))->ok L'=true/\nx ρ L'):WS (EB ok gf body items ρ L) nx rt bk ct:=by
 refine Da (λj ρ L'=>P ρ/\Dr k L L'/\L'[k]?=some (.lst (acc++(items.take j).flatMap f))) items 0 ρ L ⟨hp,.refl k L,by simpa using hk⟩ ?_ ?_
 .rintro i x ρ L' hx ⟨hp,hkp,hl⟩;have hi:i<items.length:=(BY.mp hx).1;have hxm:=Cd hx;have ht:items.take (0+i+1)=items.take (0+i)++[x]:=by rw[CI,AJ5,hx];rfl
  have hlen:(acc++(items.take (0+i)).flatMap f).length<=B:=by
   have h1:∀(l:List D),(∀x∈l,(f x).length<=m)->(l.flatMap f).length<=l.length*m:=λl=>by
    induction l with
    |nil=>intro _;simp
    |cons y r ih =>
     intro h;have:=ih λz hz=>h z (BQ _ hz);have:=h y BW;simp only[EY,Ck,EX,AJu];omega
   have h2:=h1 (items.take (0+i)) λx hx=>hm x (AKX hx);have h3:(items.take (0+i)).length*m<=items.length*m:=AJ3 _ (by simp;omega);rw[Ck];omega
  obtain⟨h1,ρ1,e1,h2⟩:=turn x hxm ρ L' _ hp hkp hl hlen;refine⟨h1,ρ1,e1,?_⟩;have go:∀ρ2 L2,(P ρ2/\Dr k L' L2/\L2[k]?=some (.lst ((acc++(items.take (0+i)).flatMap f)++f x)))->P ρ2/\Dr k L L2/\L2[k]?=some (.lst (acc++(items.take (0+i+1)).flatMap f)):=λρ2 L2 z2_=>by obtain⟨a,b,c⟩:=z2_;exact⟨a,hkp.trans b,by rw[c,ht];simp⟩
  exact h2.mono go (λ_ _ h=>h) (λ_ _ h=>h.elim) go
 .rintro ρ L' ⟨hp,hkp,hl⟩;exact fin ρ L' hp hkp (by simpa using hl)
theorem AJU{x y:Int}(h:Q (.bl (decide (x=y))) L):W2 (Hz (.int x) (.int y) L) Q:=⟨_,_,by unfold Hz;rw[if_pos (show Fi (D.int x) (D.int y)=true from rfl),Kp (show D.int x=D.int y↔x=y by simp)],h⟩
end
section
variable {ρ:Fm}{L:AD}{Q:ALM}{nx:Fm->AD->Prop}{rt:ALM}{bk ct:Fm->AD->Prop}
def TQ(d:D)(L:AD)(n:Nat)(gs:Fd)(ρ:Fm)(P:Fm->Prop):Prop:=∃ds,DD d L=some ds/\ds.length=n/\W1 (gs ds ρ) P
theorem AIA{e:EF}{n:Nat}{gs:Fd}(h:W2 (e ρ L) λd L'=>TQ d L' n gs ρ λρ'=>nx ρ' L'):WS (Jw e n gs ρ L) nx rt bk ct:=by obtain⟨d,L1,e1,ds,e2,e3,ρ',e4,q⟩:=h;exact WS.inx (by unfold Jw;rw[e1,AS];simp only;rw[e2,AS,if_pos e3,e4];rfl) q
theorem AIi{ds:List D}{n:Nat}{gs:Fd}{P:Fm->Prop}(e:ds.length=n)(h:W1 (gs ds ρ) P):TQ (.tup ds) L n gs ρ P:=⟨ds,rfl,e,h⟩
theorem AIj{k:Nat}{ds:List D}{n:Nat}{gs:Fd}{P:Fm->Prop}(e1:L[k]?=some (.lst ds))(e:ds.length=n)(h:W1 (gs ds ρ) P):TQ (.ref k) L n gs ρ P:=⟨ds,by simp[DD,e1],e,h⟩
theorem CK{f g:SF}(P:Fm->AD->Prop)(h1:WS (f ρ L) P rt bk ct)(h2:∀ρ' L',P ρ' L'->WS (g ρ' L') nx rt bk ct):WS (AM f g ρ L) nx rt bk ct:=LK (h1.mono h2 (λ_ _ h=>h) (λ_ _ h=>h) (λ_ _ h=>h))
theorem AH1{fo fi fv:EF}(h:W2 (fv ρ L) λv L1=>W2 (fo ρ L1) λo L2=>W2 (fi ρ L2) λi L3=>W1 (Kf o i v L3) λL4=>nx ρ L4):WS (DE fo fi fv ρ L) nx rt bk ct:=by obtain⟨v,L1,e1,o,L2,e2,i,L3,e3,L4,e4,q⟩:=h;exact WS.inx (by unfold DE;rw[e1,AS,e2,AS,e3,AS,e4];rfl) q
theorem Xw{k n:Nat}{j:Int}{v:D}{xs:List D}{P:AD->Prop}(e:L[k]?=some (.lst xs))(hn:ixN xs.length j=some n)(h:P (L.set k (.lst (xs.set n v)))):W1 (Kf (.ref k) (.int j) v L) P:=⟨_,by simp only[Kf,e,hn],h⟩
theorem AIc{g g':G2}{fa fb fc:EF}(h:W2 (fa ρ L) λx L1=>W2 (fb ρ L1) λy L2=>W2 (g x y L2) λz L3=>LC z λb=>Br b (W2 (fc ρ L3) λw L4=>W2 (g' y w L4) Q) (Q (.bl false) L3)):W2 (Ju g g' fa fb fc ρ L) Q:=by
 obtain⟨x,L1,e1,y,L2,e2,z,L3,e3,b,rfl,q⟩:=h
 cases b with
 |false=>exact⟨_,_,by unfold Ju;rw[e1,AS,e2,AS,e3];rfl,q⟩
 |true =>
  obtain⟨w,L4,e4,d,L5,e5,q⟩:=q;exact⟨_,_,by unfold Ju;rw[e1,AS,e2,AS,e3,AS];simp only;rw[e4];exact e5,q⟩
end
section
variable {Q:ALM}{ρ:Fm}{L:AD}{nx:Fm->AD->Prop}{rt:ALM}{bk ct:Fm->AD->Prop}{fo fv fe:EF}{af:AF}{cs:List Str}{f c m:Str}
theorem AJP{k:Nat}{fs:List (Str×D)}{d:D}(e:L[k]?=some (.ins c fs))(hc:cs.contains c=true)(hl:fs.lookup f=some d)(h:Q d L):W2 (Bm cs f (.ref k) L) Q :=
 ⟨d,L,by simp only[Bm,e];rw[if_pos (by simpa using hc),hl];rfl,h⟩
theorem AH0(h:W2 (fv ρ L) λv L1=>W2 (fo ρ L1) λx L2=>W1 (LS cs f x v L2) λL3=>nx ρ L3):WS (Gg cs f fo fv ρ L) nx rt bk ct:=by obtain⟨v,L1,e1,x,L2,e2,L3,e3,q⟩:=h;exact WS.inx (by unfold Gg;rw[e1];simp only[AS];rw[e2];simp only[AS];rw[e3];rfl) q
theorem Xv{k:Nat}{fs:List (Str×D)}{v:D}{P:AD->Prop}(e:L[k]?=some (.ins c fs))(hc:cs.contains c=true)(hl:Nat.blt fs.length 1000=true)(h:P (L.set k (.ins c (FL f v fs)))):W1 (LS cs f (.ref k) v L) P:=by
 have h1:fs.length<=999:=by simpa[Nat.blt] using hl
 exact⟨_,by simp only[LS,e];rw[if_pos ⟨by simpa using hc,by omega⟩],h⟩
theorem AIY{G:GL}(h:W2 (af ρ L) λys L1=>W2 (G (.ref L1.length::ys) (L1++[.ins c []])) λz L2=>z=.non/\Q (.ref L1.length) L2):W2 (IP c G af ρ L) Q:=by obtain⟨ys,L1,e1,z,L2,e2,rfl,q⟩:=h;exact⟨_,L2,by unfold IP;rw[e1];simp only[AS];rw[e2];rfl,q⟩
def Zm(cs:List Str)(f:Str)(g:Int->Int->Int)(fv:EF)(ρ:Fm)(nx:Fm->AD->Prop)(x:D)(L:AD):Prop:=∃k c fs i,x=.ref k/\L[k]?=some (.ins c fs)/\c∈cs/\fs.lookup f=some (.int i) /\
 W2 (fv ρ L) λy L2=>∃j fs',y=.int j/\L2[k]?=some (.ins c fs')/\fs'.length<1000/\nx ρ (L2.set k (.ins c (FL f (.int (g i j)) fs')))
theorem AH8{g:Int->Int->Int}(h:W2 (fo ρ L) λx L1=>Zm cs f g fv ρ nx x L1):WS (MG cs f g fo fv ρ L) nx rt bk ct:=by obtain⟨x,L1,e1,k,c,fs,i,rfl,e2,hc,e3,y,L2,e4,j,fs',rfl,e5,hl,q⟩:=h;exact WS.inx (by unfold MG;rw[e1];simp only[AS];rw[e2];simp only;rw[if_pos hc,e3];simp only;rw[e4];simp only[AS];rw[e5];dsimp only;rw[if_pos ⟨rfl,hl⟩]) q
theorem AH9{i:Nat}{g:Int->Int->Int}{a:Int}(e:ρ[i]?=some (some (.int a)))(h:W2 (fe ρ L) λy L1=>Tb y λb=>nx (ρ.set i (some (.int (g a b)))) L1):WS (Ku i g fe ρ L) nx rt bk ct:=by obtain⟨y,L1,e1,b,rfl,q⟩:=h;exact WS.inx (by unfold Ku;rw[e];simp only;rw[e1];rfl) q
theorem RC{t:TF}{b:SF}(I:Nat->Fm->AD->Prop)(st:∀n ρ L,I n ρ L->W2 (t ρ L) λx L1=>Br x (WS (b ρ L1) (λρ2 L2=>∃m,m<n/\I m ρ2 L2) rt nx (λρ2 L2=>∃m,m<n/\I m ρ2 L2)) (nx ρ L1)) :
  ∀(N n:Nat) (ρ:Fm) (L:AD),n<N->I n ρ L->WS (Gd t b N ρ L) nx rt bk ct
 |0,n,ρ,L,h,_=>absurd h (Nat.not_lt_zero _)
 |N+1,n,ρ,L,h,hI=>by
  obtain⟨x,L1,e1,hb⟩:=st n ρ L hI
  cases x with
  |false=>exact WS.inx (by unfold Gd;rw[e1];rfl) hb
  |true =>
   obtain⟨out,e2,q⟩:=(show WS (b ρ L1) _ _ _ _ from hb)
   cases out with
   |next ρ2 L2 =>
    obtain⟨m,hm,hI2⟩:=(show ∃m,m<n/\I m ρ2 L2 from q);obtain⟨o,e3,q3⟩:=RC I st N m ρ2 L2 (by omega) hI2;exact⟨o,by unfold Gd;rw[e1];simp only[AS,if_true];rw[e2];exact e3,q3⟩
   |cont ρ2 L2 =>
    obtain⟨m,hm,hI2⟩:=(show ∃m,m<n/\I m ρ2 L2 from q);obtain⟨o,e3,q3⟩:=RC I st N m ρ2 L2 (by omega) hI2;exact⟨o,by unfold Gd;rw[e1];simp only[AS,if_true];rw[e2];exact e3,q3⟩
   |brk ρ2 L2=>exact WS.inx (by unfold Gd;rw[e1];simp only[AS,if_true];rw[e2];rfl) q
   |ret d L2=>exact WS.irt (by unfold Gd;rw[e1];simp only[AS,if_true];rw[e2];rfl) q
theorem AAt{t:TF}{b:SF}(I:Nat->Fm->AD->Prop){n:Nat}(hn:n<1000000)(h0:I n ρ L)
  (st:∀n ρ L,I n ρ L->W2 (t ρ L) λx L1=>Br x (WS (b ρ L1) (λρ2 L2=>∃m,m<n/\I m ρ2 L2) rt nx (λρ2 L2=>∃m,m<n/\I m ρ2 L2)) (nx ρ L1)):WS (RE t b ρ L) nx rt bk ct:=RC I st 1000000 n ρ L hn h0
theorem Xu{k:Nat}{ds:List D}{ns:List Int}(e:L[k]?=some (.lst ds))(e2:Ee ds=some ns)(h:Q (.int ns.sum) L):W2 (Lk [.ref k] L) Q:=⟨_,_,by unfold Lk;rw[AFE e];simp only[AS];rw[e2];rfl,h⟩
theorem LL{B:SF}{N:List Str}{n:Nat}{xs:List D}(hn:xs.length=n)(h:WS (B (Gf N xs) L) (λ_ L2=>(L <+: L2->Q .non L)/\Q .non L2) (λd L2=>(L <+: L2->d.noRef=true->Q d L)/\Q d L2) (λ_ _=>False) (λ_ _=>False)):W2 (Au B N n xs L) Q:=by
 obtain⟨o,e,q⟩:=h
 cases o with
 |next ρ L2 =>
  by_cases c:L2.take L.length=L
  .exact⟨_,_,by unfold Au;rw[if_pos hn,e];simp only;rw[if_pos c],q.1 (NM c)⟩
  .exact⟨_,_,by unfold Au;rw[if_pos hn,e];simp only;rw[if_neg c],q.2⟩
 |ret d L2 =>
  by_cases c:d.noRef=true/\L2.take L.length=L
  .exact⟨_,_,by unfold Au;rw[if_pos hn,e];simp only;rw[if_pos c],q.1 (NM c.2) c.1⟩
  .exact⟨_,_,by unfold Au;rw[if_pos hn,e];simp only;rw[if_neg c],q.2⟩
 |brk _ _=>exact q.elim
 |cont _ _=>exact q.elim
end
section
variable {Q:ALM}{QI:List D->(AD->Bool)->AD->Prop}{ρ:Fm}{L:AD}{nx:Fm->AD->Prop}{rt:ALM}{bk ct:Fm->AD->Prop}{fo fi fv f:EF}{a:AF}{k ep:Nat}{kvs:List (NK×D)}{kk:NK}{y d:D}
theorem AA5(h:Q (.ref L.length) (L++[.dt [] 0])):W2 (Jr ρ L) Q:=⟨_,_,rfl,h⟩
theorem AIl(e:L[k]?=some (.dt kvs ep)){p:Prop}(h:p):OJ "dict" (.ref k) L p:=⟨by simp[KL,e],h⟩
theorem JD(e:L[k]?=some (.dt kvs ep))(ek:dNK y=some kk)(el:CG kvs kk=some d)(h:Q d L):W2 (Gp (.ref k) y L) Q:=⟨d,L,by simp only[Gp,e,ek,AS,el,AKM],h⟩
theorem Se{neg:Bool}(e:L[k]?=some (.dt kvs ep))(ek:dNK y=some kk)(h:Q (.bl (neg != (CG kvs kk).isSome)) L):W2 (IY neg y (.ref k) L) Q:=⟨_,L,by simp only[IY,e,ek,AKM],h⟩
theorem AJG(e:L[k]?=some (.dt kvs ep))(h:Q (.int (kvs.length:Int)) L):W2 (Lo [.ref k] L) Q:=⟨_,L,by simp only[Lo,e],h⟩
theorem AJB(e:L[k]?=some (.dt kvs ep))(h:Q (.ref L.length) (L++[.lst (Gh kvs)])):W2 (Ln [.ref k] L) Q:=⟨_,_,by simp only[Ln,e],h⟩
theorem AGB(e:L[k]?=some (.dt kvs ep))(ek:dNK y=some kk)(h:Q ((CG kvs kk).getD .non) L):W2 (Lr (.ref k) [y] L) Q:=⟨_,L,by simp only[Lr,e,ek,AKM],h⟩
theorem AF5{v:D}(e:L[k]?=some (.dt kvs ep))(ek:dNK y=some kk)(el:CG kvs kk=some d)(h:Q d L):W2 (IU (.ref k) [y,v] L) Q:=⟨_,L,by simp only[IU,e,ek,AS,el],h⟩
theorem AF6{v:D}(e:L[k]?=some (.dt kvs ep))(ek:dNK y=some kk)(el:CG kvs kk=none)(hz:kvs.length<16777216)(h:Q v (L.set k (.dt (Dq kvs kk v) (epN kvs kk ep)))):W2 (IU (.ref k) [y,v] L) Q:=⟨_,_,by simp only[IU,e,ek,AS,el];rw[if_pos hz],h⟩
theorem Sf{i j:Nat}{as bs:List D}(e1:L[i]?=some (.lst as))(e2:L[j]?=some (.lst bs))(hz:as.length+bs.length<=16777216)(h:Q .non (L.set i (.lst (as++bs)))):W2 (Jo (.ref i) [.ref j] L) Q:=⟨_,_,by simp only[Jo,e1,e2];rw[if_pos hz],h⟩
theorem AH6(h:W2 (fv ρ L) λv L1=>W2 (fo ρ L1) λo L2=>W2 (fi ρ L2) λi L3=>W1 (JF o i v L3) λL4=>nx ρ L4):WS (Jp fo fi fv ρ L) nx rt bk ct:=by obtain⟨v,L1,e1,o,L2,e2,i,L3,e3,L4,e4,q⟩:=h;exact WS.inx (by unfold Jp;rw[e1,AS,e2,AS,e3,AS,e4];rfl) q
theorem Sg{v:D}{P:AD->Prop}(e:L[k]?=some (.dt kvs ep))(hz:kvs.length<16777216)(ek:dNK y=some kk)(h:P (L.set k (.dt (Dq kvs kk v) (epN kvs kk ep)))):W1 (JF (.ref k) y v L) P:=⟨_,by simp only[JF,e];rw[if_pos hz,ek];rfl,h⟩
def Th(d:D)(L:AD)(P:Nat->List (NK×D)->Nat->Prop):Prop:=∃k kvs ep,d=.ref k/\L[k]?=some (.dt kvs ep)/\P k kvs ep
theorem AJW{P:Nat->List (NK×D)->Nat->Prop}(e:L[k]?=some (.dt kvs ep))(h:P k kvs ep):Th (.ref k) L P:=⟨k,kvs,ep,rfl,e,h⟩
theorem AIH(h:W2 (f ρ L) λd L1=>Th d L1 λk kvs ep=>QI (Gh kvs) (Ir k kvs ep) L1):WI (Kd f ρ L) QI:=by obtain⟨d,L1,e1,k,kvs,ep,rfl,e2,q⟩:=h;exact⟨_,_,L1,by unfold Kd;rw[e1,AS];simp only[e2],q⟩
theorem AIG(h:W2 (f ρ L) λd L1=>Th d L1 λk kvs ep=>QI (HL kvs) (λL'=>decide (L'[k]?=some (.dt kvs ep))) L1):WI (Kc f ρ L) QI:=by obtain⟨d,L1,e1,k,kvs,ep,rfl,e2,q⟩:=h;exact⟨_,_,L1,by unfold Kc;rw[e1,AS];simp only[e2],q⟩
def Zf(ds:List D)(L:AD)(P:Nat->List D->Prop):Prop:=∃k xs,ds=[.ref k]/\L[k]?=some (.lst xs)/\P k xs
theorem AIs{P:Nat->List D->Prop}{xs:List D}(e:L[k]?=some (.lst xs))(h:P k xs):Zf [.ref k] L P:=⟨k,xs,rfl,e,h⟩
theorem AII(h:W2 (a ρ L) λds L1=>Zf ds L1 λk xs=>QI (Fs xs) (λL'=>decide (L'[k]?=some (.lst xs))) L1):WI (Li a ρ L) QI:=by obtain⟨ds,L1,e1,k,xs,rfl,e2,q⟩:=h;exact⟨_,_,L1,by unfold Li;rw[e1,AS];simp only[e2],q⟩
def AHk(n:Nat)(ds:List D)(L:AD)(P:List D->List (List D)->Prop):Prop:=∃ys yss,seqs ds L=some (ys::yss)/\((yss.all λzs=>zs.length == ys.length)=true/\yss.length<100/\yss.length+1=n)/\P ys yss
theorem AIB{n:Nat}(h:W2 (a ρ L) λds L1=>AHk n ds L1 λys yss=>QI (GI ys.length (ys::yss)) (λL'=>decide (seqs ds L'=some (ys::yss))) L1):WI (Jn n a ρ L) QI:=by obtain⟨ds,L1,e1,ys,yss,e2,hc,q⟩:=h;exact⟨_,_,L1,by unfold Jn;rw[e1,AS];simp only[e2];rw[if_pos hc],q⟩
theorem AIz{x z:Str}(h:Q (.bl (Txt.startswith x z)) L):W2 (Np (.str x) [.str z] L) Q:=⟨_,_,rfl,h⟩
theorem AHO{cs:List Str}{c fl:Str}{g:Int->Int->Int}{fs:List (Str×D)}{i:Int}(e:L[k]?=some (.ins c fs))(hc:c∈cs)(hl:fs.lookup fl=some (.int i))
  (h:W2 (fv ρ L) λy L2=>∃j fs',y=.int j/\L2[k]?=some (.ins c fs')/\fs'.length<1000/\nx ρ (L2.set k (.ins c (FL fl (.int (g i j)) fs')))):Zm cs fl g fv ρ nx (.ref k) L:=⟨k,c,fs,i,rfl,e,hc,hl,h⟩
end
end L3
set_option maxHeartbeats 8000000
namespace L3
open PySem PySem.Spec PyProof.Rows L2
def JU:D:=D.tup [D.str "small",D.str "great",D.str "figure",D.str "mark",D.str "any"]
def Md:D:=D.tup [D.tup [D.str "small",D.str "abcdefghijklmnopqrstuvwxyz"],D.tup [D.str "great",D.str "ABCDEFGHIJKLMNOPQRSTUVWXYZ"],D.tup [D.str "figure",D.str "0123456789"],D.tup [D.str "mark",D.str " -.,/"]]
def JT:D:=D.tup [D.int (1),D.int (2),D.int (-1),D.int (-2)]
def JS:D:=D.tup [D.str "ahead",D.str "behind"]
def KH:D:=D.tup [D.str "copy",D.str "raise",D.str "sink"]
def JR:D:=D.tup [D.int (1),D.int (2),D.int (3)]
def Mb:D:=D.int (0)
def LJ:D:=D.int (1)
def Qj:List Str:=["_law_cell_here","_law_most","_law_signs","_law_some","_law_size","_law_text_here","_law_k"]
def Qd:SF :=
 (AM (AY 2 (AE (.str "abcdefghijklmnopqrstuvwxyzABCDEFGHIJKLMNOPQRSTUVWXYZ0123456789 -.,/")))
 (AM (AY 3 (AG AZ (CM (AB (AE (.str "abAB12 -")) (AB (AE (.str "aB 1")) (AB (AE (.str "aab")) (AB (AA 2) AI))))) (AG Bq (AG Cw (AA 0) (AE (.int 32))) (AE (.int 4)))))
 (AM (AY 4 (AG Bq (AA 0) (AG CV (AA 1) (AE (.int 1)))))
 (AM (AY 0 (AG Cw (AA 0) (AE (.int 128))))
 (AM (AY 5 (AE (.str "")))
 (AM (Ca (Hx (AB (AA 4) AI)) (Az 6) (AM (AY 5 (AG CV (AA 5) (AG AZ (AA 3) (AG Bq (AA 0) (AQ Bz (AB (AA 3) AI))))))
 (AY 0 (AG Cw (AA 0) (AQ Bz (AB (AA 3) AI))))))
 (Aa (AA 5))))))))
def zm:GL:=Au (Qd) Qj 2
def QZ:List Str:=["_law_cell_here","_law_words_here","_law_number","_law_part","_law_k","_law_word"]
def QS(zm:GL):SF :=
 (AM (AY 1 (CM AI))
 (AM (AY 2 (AG Bq (AA 0) (AE (.int 5))))
 (AM (Ax (AX (AG CN (AG Bq (AG Cw (AA 0) (AE (.int 5))) (AE (.int 4))) (AE (.int 1)))) (AY 2 (AG CV (AE (.int 5)) (AG Bq (AA 0) (AE (.int 2))))) BI)
 (AM (AY 3 (AG Cw (AA 0) (AE (.int 20))))
 (AM (Ca (Hx (AB (AA 2) AI)) (Az 4) (AM (AY 5 (AQ zm (AB (AA 3) (AB (AG AZ (CM (AB (AE (.int 2)) (AB (AE (.int 3)) (AB (AE (.int 3)) (AB (AE (.int 8)) AI))))) (AG Bq (AG Cw (AA 3) (AE (.int 7))) (AE (.int 4)))) AI))))
 (AM (Ax (AX (AG HS (AA 2) (AE (.int 4)))) (AY 5 (EJ (AA 5) GN (Dm (AE (.int 2))))) BI)
 (AM (Ax (AX (AG CN (AA 5) (AE (.str "")))) (AY 5 (AE (.str "-"))) BI)
 (AM (Ax (AX (AG (DK true) (AA 5) (AA 1))) (EC (CT "list" Fl (AA 1) (AB (AA 5) AI))) BI)
 (AY 3 (AG Cw (AA 3) (AG IW (AE (.int 10)) (AE (.int 6))))))))))
 (Aa (AA 1)))))))
def zi1:GL:=Au (QS zm) QZ 1
def QM:List Str:=["_law_cell_here","_law_kind_here"]
def QG:SF :=
 (AM (AY 1 (AG AZ (CM (AB (AE (.str "small")) (AB (AE (.str "great")) (AB (AE (.str "figure")) (AB (AE (.str "mark")) (AB (AE (.str "any")) AI)))))) (AG Bq (AA 0) (AE (.int 5)))))
 (Aa (DN (AB (AA 1) (AB (AG AZ (CM (AB (AE (.int 1)) (AB (AE (.int 2)) (AB (BZ IX (AE (.int 1))) (AB (BZ IX (AE (.int 2))) AI))))) (AG Bq (AG Cw (AA 0) (AE (.int 5))) (AE (.int 4)))) (AB (AG AZ (CM (AB (AE (.str "ahead")) (AB (AE (.str "behind")) AI))) (AG Bq (AG Cw (AA 0) (AE (.int 20))) (AE (.int 2)))) AI))))))
def zc1:GL:=Au (QG) QM 1
def QB:List Str:=["_law_cell_here","_law_words_here","_law_deed"]
def Uc(zc1:GL):SF :=
 (AM (Ax (Jz (AX (AG CN (AG Bq (AA 0) (AE (.int 7))) (AE (.int 0)))) (AX (AG HS (AQ Bz (AB (AA 1) AI)) (AE (.int 0))))) (Aa (DN (AB (AE (.str "word")) (AB (AG AZ (AA 1) (AG Bq (AG Cw (AA 0) (AE (.int 7))) (AQ Bz (AB (AA 1) AI)))) AI)))) BI)
 (AM (AY 2 (AG AZ (CM (AB (AE (.str "copy")) (AB (AE (.str "raise")) (AB (AE (.str "sink")) (AB (AE (.str "copy")) AI))))) (AG Bq (AG Cw (AA 0) (AE (.int 7))) (AE (.int 4)))))
 (Aa (DN (AB (AA 2) (AB (AQ zc1 (AB (AG Cw (AA 0) (AE (.int 28))) AI)) (AB (AQ zc1 (AB (AG Cw (AA 0) (AE (.int 1120))) AI)) AI)))))))
def zj1:GL:=Au (Uc zc1) QB 2
def Pw:List Str:=["_law_sign"]
def Pq:SF :=
 (AM (Ax (AX (CT "str" (IV Txt.islower) (AA 0) AI)) (Aa (AE (.str "small"))) BI)
 (AM (Ax (AX (CT "str" (IV Txt.isupper) (AA 0) AI)) (Aa (AE (.str "great"))) BI)
 (AM (Ax (AX (CT "str" (IV Txt.isdigit) (AA 0) AI)) (Aa (AE (.str "figure"))) BI)
 (Aa (AE (.str "mark"))))))
def zk1:GL:=Au (Pq) Pw 1
def MZ:List Str:=["_law_place_here","_law_text_here","_law_kind_here","_law_nth","_law_edge","_law_found"]
def Pk(zk1:GL):SF :=
 (AM (Jw (AA 0) 3 (CZ (Az 2) (CZ (Az 3) (CZ (Az 4) Fk))))
 (AM (AY 5 (DW (Hx (AB (AQ Bz (AB (AA 1) AI)) AI)) 1 [2,1] (Az 0) (DR (AX (AG CN (AA 1) (AE (.str "any")))) (AX (AG CN (AQ zk1 (AB (AG AZ (AA 2) (AA 0)) AI)) (AA 1)))) (AA 0)))
 (AM (Ax (AX (AG gLt (AQ Bz (AB (AA 5) AI)) (AQ Lu (AB (AA 3) AI)))) (Aa (AE .non)) BI)
 (AM (Ax (AX (AG HS (AA 3) (AE (.int 0)))) (Aa (AG CV (AG AZ (AA 5) (AG HR (AA 3) (AE (.int 1)))) (AQ Lq (AB (AG CN (AA 4) (AE (.str "behind"))) AI)))) BI)
 (Aa (AG CV (AG AZ (AA 5) (AA 3)) (AQ Lq (AB (AG CN (AA 4) (AE (.str "behind"))) AI))))))))
def zx:GL:=Au (Pk zk1) MZ 2
def Pd:List Str:=["_law_piece_here","_law_text_here","_law_start","_law_end"]
def MX(zx:GL):SF :=
 (AM (Ax (AX (AG CN (AG AZ (AA 0) (AE (.int 0))) (AE (.str "word")))) (Aa (AG AZ (AA 0) (AE (.int 1)))) BI)
 (AM (AY 2 (AQ zx (AB (AG AZ (AA 0) (AE (.int 1))) (AB (AA 1) AI))))
 (AM (AY 3 (AQ zx (AB (AG AZ (AA 0) (AE (.int 2))) (AB (AA 1) AI))))
 (AM (Ax (DR (AX (AG Ki (AA 2) (AE .non))) (DR (AX (AG Ki (AA 3) (AE .non))) (AX (AG Nt (AA 2) (AA 3))))) (Aa (AE .non)) BI)
 (AM (Ax (AX (AG CN (AG AZ (AA 0) (AE (.int 0))) (AE (.str "raise")))) (Aa (CT "str" (gS0s Txt.upper) (EJ (AA 1) (Dm (AA 2)) (Dm (AA 3))) AI)) BI)
 (AM (Ax (AX (AG CN (AG AZ (AA 0) (AE (.int 0))) (AE (.str "sink")))) (Aa (CT "str" (gS0s Txt.lower) (EJ (AA 1) (Dm (AA 2)) (Dm (AA 3))) AI)) BI)
 (Aa (EJ (AA 1) (Dm (AA 2)) (Dm (AA 3))))))))))
def zf:GL:=Au (MX zx) Pd 2
def MW:List Str:=["_law_cell_here","_law_words_here","_law_texts","_law_piece_here","_law_whole_here","_law_some"]
def PX(zj1:GL)(zf:GL):SF :=
 (AM (AY 3 (AQ zj1 (AB (AA 0) (AB (AA 1) AI))))
 (AM (Ax (AX (AG CN (AG AZ (AA 3) (AE (.int 0))) (AE (.str "word")))) (Aa (AA 3)) BI)
 (AM (AY 4 (DN (AB (AG AZ (AA 3) (AE (.int 0))) (AB (DN (AB (AE (.str "any")) (AB (AE (.int 1)) (AB (AE (.str "ahead")) AI)))) (AB (DN (AB (AE (.str "any")) (AB (BZ IX (AE (.int 1))) (AB (AE (.str "behind")) AI)))) AI)))))
 (AM (Ca (CH (CM (AB (AA 3) (AB (DN (AB (AG AZ (AA 3) (AE (.int 0))) (AB (AG AZ (AA 3) (AE (.int 2))) (AB (AG AZ (AA 3) (AE (.int 1))) AI)))) (AB (AA 4) AI))))) (Az 5) (Ax (AX (AG (DK true) (AE .non) (DW (CH (AA 2)) 1 [5] (Az 0) Ds (AQ zf (AB (AA 1) (AB (AA 0) AI)))))) (Aa (AA 5)) BI))
 (AM (Ax (AX (AG CN (AQ Bz (AB (AA 1) AI)) (AE (.int 0)))) (Aa (AE .non)) BI)
 (Aa (DN (AB (AE (.str "word")) (AB (AG AZ (AA 1) (AG Bq (AG Cw (AA 0) (AE (.int 28))) (AQ Bz (AB (AA 1) AI)))) AI)))))))))
def zl1:GL:=Au (PX zj1 zf) MW 3
def PR:List Str:=["_law_cell_here","_law_words_here","_law_texts","_law_row_here","_law_part","_law_k","_law_piece_here"]
def PL(zl1:GL):SF :=
 (AM (AY 3 (CM AI))
 (AM (AY 4 (AG Cw (AA 0) (AE (.int 3))))
 (AM (Ca (Hx (AB (AG CV (AE (.int 1)) (AG Bq (AA 0) (AE (.int 3)))) AI)) (Az 5) (AM (AY 6 (AQ zl1 (AB (AA 4) (AB (AA 1) (AB (AA 2) AI)))))
 (AM (Ax (AX (AG Kh (AA 6) (AE .non))) (EC (CT "list" Fl (AA 3) (AB (AA 6) AI))) BI)
 (AY 4 (AG Cw (AA 4) (AE (.int 1000003)))))))
 (Aa (AQ Gm (AB (AA 3) AI))))))
def zm1:GL:=Au (PL zl1) PR 3
def PF:List Str:=["_law_script","_law_k","_law_number"]
def Oz:SF :=
 (AM (Ax (AX (AG gLt (AA 1) (AQ Bz (AB (AA 0) AI)))) (Aa (AG Bq (AG Et (AG CV (AG AZ (AA 0) (AA 1)) (AE (.int 7919))) (AE (.int 2718281828459045235360287471352662497757))) (AG IW (AE (.int 10)) (AE (.int 40))))) BI)
 (AM (AY 2 (AG CV (AG Et (AG Et (AA 1) (AA 1)) (AE (.int 7919))) (AE (.int 5))))
 (AM (Ax (AX (AG HS (AQ Bz (AB (AA 0) AI)) (AE (.int 0)))) (AY 2 (AG CV (AA 2) (AG Et (AG Bq (AG AZ (AA 0) (AG Bq (AG Et (AA 1) (AE (.int 7))) (AQ Bz (AB (AA 0) AI)))) (AG IW (AE (.int 10)) (AE (.int 40)))) (AE (.int 48271))))) BI)
 (Aa (AG Bq (AG Et (AG Bq (AG Et (AA 2) (AA 2)) (AE (.int 2147483629))) (AE (.int 2718281828459045235360287471352662497757))) (AG IW (AE (.int 10)) (AE (.int 40))))))))
def za:GL:=Au (Oz) PF 2
def MV:List Str:=["_law_row_here","_law_text_here","_law_found"]
def Ov(zf:GL):SF :=
 (AM (AY 2 (DW (CH (AA 0)) 1 [1] (Az 0) Ds (AQ zf (AB (AA 0) (AB (AA 1) AI)))))
 (AM (Ax (AX (AG (DK false) (AE .non) (AA 2))) (Aa (AE .non)) BI)
 (Aa (CT "str" Lp (AE (.str "")) (AB (AA 2) AI)))))
def zo:GL:=Au (Ov zf) MV 2
def MT:List Str:=["_law_row_here","_law_texts","_law_cell_here","_law_examples","_law_at","_law_text_here","_law_answer","_law_other"]
def Op(zo:GL):SF :=
 (AM (AY 3 (DW (CH (AA 1)) 1 [0] (Az 0) Ds (DN (AB (AA 0) (AB (AQ zo (AB (AA 1) (AB (AA 0) AI))) AI)))))
 (AM (Ax (Jz (AX (AG CN (AG Bq (AA 2) (AE (.int 4))) (AE (.int 1)))) (AX (AG HS (AQ Bz (AB (AA 3) AI)) (AE (.int 0))))) (AM (AY 4 (AG Bq (AG Cw (AA 2) (AE (.int 4))) (AQ Bz (AB (AA 3) AI))))
 (AM (Jw (AG AZ (AA 3) (AA 4)) 2 (CZ (Az 5) (CZ (Az 6) Fk)))
 (AM (AY 7 (AG AZ (CM (AB (EJ (AG CV (AA 6) (AE (.str "a"))) GN (Dm (AE (.int 72)))) (AB (EJ (AA 6) GN (Dm (BZ IX (AE (.int 1))))) (AB (AG CV (EJ (AA 6) (Dm (AE (.int 1))) GN) (EJ (AA 6) GN (Dm (AE (.int 1))))) (AB (AE (.str "")) AI))))) (AG Bq (AG Cw (AA 2) (AE (.int 16))) (AE (.int 4)))))
 (AY 3 (AG CV (AG CV (EJ (AA 3) GN (Dm (AA 4))) (CM (AB (DN (AB (AA 5) (AB (AA 7) AI))) AI))) (EJ (AA 3) (Dm (AG CV (AA 4) (AE (.int 1)))) GN)))))) BI)
 (Aa (AA 3))))
def zn1:GL:=Au (Op zo) MT 3
def LI:List Str:=["_law_script","_law_start","_law_most","_law_cell_here","_law_number","_law_rows","_law_some","_law_k","_law_at","_law_sign","_law_texts","_law_text_here"]
def Oj(zm:GL)(za:GL):SF :=
 (AM (AY 3 (AQ za (AB (AA 0) (AB (AA 1) AI))))
 (AM (AY 4 (AG CV (AE (.int 1)) (AG Bq (AA 3) (AE (.int 3)))))
 (AM (Ax (AX (AG CN (AG Bq (AG Cw (AA 3) (AE (.int 24))) (AE (.int 4))) (AE (.int 1)))) (AM (AY 4 (AG CV (AE (.int 4)) (AG Bq (AA 3) (AE (.int 3)))))
 (AY 2 (AQ Lm (AB (AA 2) (AB (AE (.int 6)) AI))))) BI)
 (AM (AY 5 (DW (Hx (AB (AA 4) AI)) 1 [] (Az 0) Ds (AE (.str ""))))
 (AM (AY 6 (AG AZ (CM (AB (AE (.str "aB1 -")) (AB (AE (.str "aab")) (AB (AE (.str "abAB12 -")) (AB (AE (.str "abcXYZ019 -.,/")) AI))))) (AG Bq (AG Cw (AA 3) (AE (.int 6))) (AE (.int 4)))))
 (AM (Ax (AX (AG CN (AG Bq (AG Cw (AA 3) (AE (.int 3))) (AE (.int 2))) (AE (.int 0)))) (AY 5 (DW (Hx (AB (AA 4) AI)) 1 [2,0,1] (Az 0) Ds (AQ zm (AB (AQ za (AB (AA 2) (AB (AG CV (AG CV (AA 3) (AE (.int 1))) (AA 0)) AI))) (AB (AA 1) AI))))) (Ca (Lh (AB (AG CV (AA 1) (AE (.int 1))) (AB (AQ Lm (AB (AQ Bz (AB (AA 0) AI)) (AB (AG CV (AG CV (AA 1) (AE (.int 1))) (AG Et (AA 2) (AA 4))) AI))) AI))) (Az 7) (AM (AY 8 (AG Bq (AA 7) (AA 4)))
 (AM (AY 9 (AG AZ (AA 6) (AG Bq (AQ za (AB (AA 0) (AB (AA 7) AI))) (AQ Bz (AB (AA 6) AI)))))
 (DE (AA 5) (AA 8) (AG CV (AG AZ (AA 5) (AA 8)) (AA 9)))))))
 (AM (Ax (AX (AG CN (AG Bq (AG Cw (AA 3) (AE (.int 96))) (AE (.int 8))) (AE (.int 3)))) (DE (AA 5) (AE (.int 0)) (EJ (AG Et (EJ (AA 6) GN (Dm (AG CV (AE (.int 1)) (AG Bq (AG Cw (AA 3) (AE (.int 768))) (AE (.int 2)))))) (AE (.int 24))) GN (Dm (AE (.int 24))))) BI)
 (AM (AY 10 (CM AI))
 (AM (Ca (CH (AA 5)) (Az 11) (Ax (AX (AG (DK true) (AA 11) (AA 10))) (EC (CT "list" Fl (AA 10) (AB (AA 11) AI))) BI))
 (Aa (AA 10)))))))))))
def zo1:GL:=Au (Oj zm za) LI 3
def MS:List Str:=["_law_script","_law_words_here","_law_texts","_law_row_here"]
def Og(zi1:GL)(zm1:GL)(za:GL)(zn1:GL)(zo1:GL):SF :=
 (AM (AY 1 (AQ zi1 (AB (AQ za (AB (AA 0) (AB (AE (.int 0)) AI))) AI)))
 (AM (AY 2 (DW (CH (AQ zo1 (AB (AA 0) (AB (AE (.int 4)) (AB (AE (.int 10)) AI))))) 1 [1] (Az 0) (DR (AX (AG Go (AA 0) (AE (.str "")))) (AX (AG HS (AQ Bz (AB (AA 1) AI)) (AE (.int 0))))) (AA 0)))
 (AM (AY 3 (AQ zm1 (AB (AQ za (AB (AA 0) (AB (AE (.int 1)) AI))) (AB (AA 1) (AB (AA 2) AI)))))
 (Aa (CM (AB (AA 1) (AB (AA 3) (AB (AQ zn1 (AB (AA 3) (AB (AA 2) (AB (AQ za (AB (AA 0) (AB (AE (.int 2)) AI))) AI)))) AI))))))))
def zp1:GL:=Au (Og zi1 zm1 za zn1 zo1) MS 1
def Od:List Str:=["groups","members","answers","pieces","number","piece"]
def OY:SF :=
 (AM (AY 1 Jr)
 (AM (Ca (Kc (AA 0)) (GQ 2 (CZ (Az 2) (CZ (Az 3) Fk))) (Ca (Li (AB (AA 3) AI)) (GQ 2 (CZ (Az 4) (CZ (Az 5) Fk))) (Jp (AA 1) (AA 5) (DN (AB (AA 2) (AB (AA 4) AI))))))
 (Aa (AA 1))))
def zd1:GL:=Au (OY) Od 1
def RB:List Str:=["self","ways"]
def Qx:SF :=
 (AM (Gg ["Node"] "ways" (AA 0) (AA 1))
 (Gg ["Node"] "arms" (AA 0) Jr))
def zh:GL:=Au (Qx) RB 2
def Qs:List Str:=["self","words","groups"]
def Qo(zd1:GL)(zh:GL):SF :=
 (AM (Gg ["Table"] "words" (AA 0) (AA 1))
 (AM (Gg ["Table"] "groups" (AA 0) (AA 2))
 (AM (Gg ["Table"] "members" (AA 0) (AQ zd1 (AB (AA 2) AI)))
 (AM (Gg ["Table"] "nodes" (AA 0) (CM (AB (IP "Node" zh (AB (AE (.int 1)) AI)) (AB (IP "Node" zh (AB (AE (.int 0)) AI)) AI))))
 (AM (Gg ["Table"] "node_numbers" (AA 0) Jr)
 (Gg ["Table"] "roots" (AA 0) (CM AI)))))))
def zq1:GL:=Au (Qo zd1 zh) Qs 3
def Qi:List Str:=["places","kind","nth","edge"]
def Qc:SF :=
 (AM (AY 0 (CM AI))
 (AM (Ca (CH (AE JU)) (Az 1) (Ca (CH (AE JT)) (Az 2) (Ca (CH (AE JS)) (Az 3) (EC (CT "list" Fl (AA 0) (AB (DN (AB (AA 1) (AB (AA 2) (AB (AA 3) AI)))) AI))))))
 (Aa (AA 0))))
def zr1:GL:=Au (Qc) Qi 0
def QY:List Str:=["sign","kind","signs"]
def QR:SF :=
 (AM (Ca (CH (AE Md)) (GQ 2 (CZ (Az 1) (CZ (Az 2) Fk))) (Ax (AX (AG (DK false) (AA 0) (AA 2))) (Aa (AA 1)) BI))
 (Aa (AE .non)))
def zs1:GL:=Au (QR) QY 1
def QL:List Str:=["kind","sign"]
def QF(zs1:GL):SF :=
 (Aa (KO (AG CN (AA 0) (AE (.str "any"))) (AG CN (AQ zs1 (AB (AA 1) AI)) (AA 0))))
def zt1:GL:=Au (QF zs1) QL 2
def MR:List Str:=["place","text","kind","nth","numbers","number"]
def Pz(zt1:GL):SF :=
 (AM (AY 2 (AG AZ (AA 0) (AE (.int 0))))
 (AM (AY 3 (AG AZ (AA 0) (AE (.int 1))))
 (AM (AY 4 (DW (Lj (AB (AA 1) AI)) 2 [2] (GQ 2 (CZ (Az 0) (CZ (Az 1) Fk))) (AX (AQ zt1 (AB (AA 2) (AB (AA 1) AI)))) (AA 0)))
 (AM (Ax (AX (AG gLt (AQ Bz (AB (AA 4) AI)) (AQ Lu (AB (AA 3) AI)))) (Aa (AE .non)) BI)
 (AM (AY 5 (IR (AX (AG HS (AA 3) (AE (.int 0)))) (AG AZ (AA 4) (AG HR (AA 3) (AE (.int 1)))) (AG AZ (AA 4) (AA 3))))
 (Aa (IR (AX (AG CN (AG AZ (AA 0) (AE (.int 2))) (AE (.str "ahead")))) (AA 5) (AG CV (AA 5) (AE (.int 1))))))))))
def zz:GL:=Au (Pz zt1) MR 2
def Mu:List Str:=["texts","places","place","spots"]
def Pv(zr1:GL)(zz:GL):SF :=
 (AM (AY 1 Jr)
 (AM (Ca (CH (AQ zr1 AI)) (Az 2) (AM (AY 3 (AQ Gm (AB (DW (CH (AA 0)) 1 [2] (Az 0) Ds (AQ zz (AB (AA 1) (AB (AA 0) AI)))) AI)))
 (Ax (AX (AG (DK true) (AE .non) (AA 3))) (EC (CT "list" Fl (CT "dict" IU (AA 1) (AB (AA 3) (AB (CM AI) AI))) (AB (AA 2) AI))) BI)))
 (Aa (AA 1))))
def zu1:GL:=Au (Pv zr1 zz) Mu 1
def Ms:List Str:=["answers","wanted"]
def Pp:SF :=
 (Aa (AQ Kj (AB (DW (Jn 2 (AB (AA 0) (AB (AA 1) AI))) 2 [] (GQ 2 (CZ (Az 0) (CZ (Az 1) Fk))) Ds (AG (DK false) (AA 0) (AA 1))) AI)))
def zv1:GL:=Au (Pp) Ms 2
def Pj:List Str:=["groups","wanted","answers","pieces"]
def Pc(zv1:GL):SF :=
 (Ax (AX (AQ zv1 (AB (AA 2) (AB (AA 1) AI)))) (EC (CT "list" Jo (CT "dict" IU (AA 0) (AB (AA 2) (AB (CM AI) AI))) (AB (AA 3) AI))) BI)
def ze1:GL:=Au (Pc zv1) Pj 4
def PV:List Str:=["texts","starts","ends","signs","text","start","end"]
def PQ:SF :=
 (AM (AY 3 (CM AI))
 (AM (Ca (Jn 3 (AB (AA 0) (AB (AA 1) (AB (AA 2) AI)))) (GQ 3 (CZ (Az 4) (CZ (Az 5) (CZ (Az 6) Fk)))) (AM (Ax (AX (AG Nt (AA 5) (AA 6))) (Aa (AE .non)) BI)
 (EC (CT "list" Fl (AA 3) (AB (EJ (AA 4) (Dm (AA 5)) (Dm (AA 6))) AI)))))
 (Aa (AA 3))))
def zw1:GL:=Au (PQ) PV 3
def Mr:List Str:=["deed","starts","ends","pieces","start"]
def PK:SF :=
 (AM (AY 3 (CM AI))
 (AM (Ca (CH (AA 1)) (Az 4) (EC (CT "list" Jo (AA 3) (AB (DW (CH (AA 2)) 1 [0,4] (Az 0) Ds (DN (AB (AA 1) (AB (AA 2) (AB (AA 0) AI))))) AI))))
 (Aa (AA 3))))
def zx1:GL:=Au (PK) Mr 3
def PD:List Str:=["deed","signs"]
def Oy:SF :=
 (AM (Ax (AX (AG CN (AA 0) (AE (.str "copy")))) (Aa (AA 1)) BI)
 (Aa (IR (AX (AG CN (AA 0) (AE (.str "raise")))) (CT "str" (gS0s Txt.upper) (AA 1) AI) (CT "str" (gS0s Txt.lower) (AA 1) AI))))
def zy1:GL:=Au (Oy) PD 2
def LH:List Str:=["words","texts","wanted","groups","word","places","starts","ends","signs","deed","answers"]
def Ou(zu1:GL)(ze1:GL)(zw1:GL)(zx1:GL)(zy1:GL):SF :=
 (AM (AY 3 Jr)
 (AM (Ca (CH (AA 0)) (Az 4) (EC (AQ ze1 (AB (AA 3) (AB (AA 2) (AB (AQ Gm (AB (DW (CH (AA 1)) 1 [4] (Az 0) Ds (AA 1)) AI)) (AB (CM (AB (DN (AB (AE (.str "word")) (AB (AA 4) AI))) AI)) AI)))))))
 (AM (AY 5 (AQ zu1 (AB (AA 1) AI)))
 (AM (Ca (Kd (AA 5)) (Az 6) (Ca (Kd (AA 5)) (Az 7) (AM (AY 8 (AQ zw1 (AB (AA 1) (AB (AA 6) (AB (AA 7) AI)))))
 (Ax (AX (AG Kh (AA 8) (AE .non))) (Ca (CH (AE KH)) (Az 9) (AM (AY 10 (AQ Gm (AB (DW (CH (AA 8)) 1 [9] (Az 0) Ds (AQ zy1 (AB (AA 1) (AB (AA 0) AI)))) AI)))
 (EC (AQ ze1 (AB (AA 3) (AB (AA 2) (AB (AA 10) (AB (AQ zx1 (AB (AA 9) (AB (AG Gp (AA 5) (AA 6)) (AB (AG Gp (AA 5) (AA 7)) AI)))) AI)))))))) BI))))
 (Aa (AA 3))))))
def zz1:GL:=Au (Ou zu1 ze1 zw1 zx1 zy1) LH 3
def Oo:List Str:=["table","length","rest"]
def Oi:SF :=
 (AM (Ax (AX (AG CN (AA 1) (AE (.int 1)))) (Aa (IR (AX (AG (IY false) (AA 2) (BZ (Bm ["Table"] "groups") (AA 0)))) (CM (AB (AA 2) AI)) (CM AI))) BI)
 (Aa (AQ Ln (AB (BZ (Bm ["Table"] "groups") (AA 0)) AI))))
def za2:GL:=Au (Oi) Oo 3
def Of:List Str:=["rest","answers","parts","part","answer"]
def Oc:SF :=
 (AM (AY 2 (CM AI))
 (AM (Ca (Jn 2 (AB (AA 0) (AB (AA 1) AI))) (GQ 2 (CZ (Az 3) (CZ (Az 4) Fk))) (AM (Ax (Dg (AX (CT "str" Np (AA 3) (AB (AA 4) AI)))) (Aa (AE .non)) BI)
 (EC (CT "list" Fl (AA 2) (AB (EJ (AA 3) (Dm (AQ Bz (AB (AA 4) AI))) GN) AI)))))
 (Aa (AQ Gm (AB (AA 2) AI)))))
def zb2:GL:=Au (Oc) Of 2
def OX:List Str:=["table","length","rest","node","answers","behind","number"]
def RA(zh:GL)(za2:GL)(zb2:GL)(zt:GL):SF :=
 (AM (AY 3 (IP "Node" zh (AB (AE (.int 0)) AI)))
 (AM (Ca (CH (AQ za2 (AB (AA 0) (AB (AA 1) (AB (AA 2) AI))))) (Az 4) (AM (AY 5 (AQ zb2 (AB (AA 2) (AB (AA 4) AI))))
 (Ax (AX (AG Kh (AA 5) (AE .non))) (AM (AY 6 (AQ zt (AB (AA 0) (AB (AG HR (AA 1) (AE (.int 1))) (AB (AA 5) AI)))))
 (Ax (AX (AG Go (AA 6) (AE LJ))) (AM (Jp (BZ (Bm ["Node"] "arms") (AA 3)) (AA 4) (DN (AB (BZ (Bm ["Node"] "ways") (AA 3)) (AB (AA 6) AI))))
 (MG ["Node"] "ways" (λi j=>i+j) (AA 3) (AG Et (AQ Bz (AB (AG Gp (BZ (Bm ["Table"] "groups") (AA 0)) (AA 4)) AI)) (BZ (Bm ["Node"] "ways") (AG AZ (BZ (Bm ["Table"] "nodes") (AA 0)) (AA 6)))))) BI)) BI)))
 (AM (Ax (AX (AG CN (BZ (Bm ["Node"] "ways") (AA 3)) (AE (.int 0)))) (Aa (AE LJ)) BI)
 (AM (EC (CT "list" Fl (BZ (Bm ["Table"] "nodes") (AA 0)) (AB (AA 3) AI)))
 (Aa (AG HR (AQ Bz (AB (BZ (Bm ["Table"] "nodes") (AA 0)) AI)) (AE (.int 1))))))))
def Mq(zt:GL):GL:=Au (RA zh za2 zb2 zt) OX 3
def Qw:List Str:=["table","length","rest","key"]
def Mp(zf4:GL):SF :=
 (AM (Ax (AX (AG CN (AA 1) (AE (.int 0)))) (Aa (AE Mb)) BI)
 (AM (AY 3 (DN (AB (AA 1) (AB (AA 2) AI))))
 (AM (Ax (AX (AG (IY true) (AA 3) (BZ (Bm ["Table"] "node_numbers") (AA 0)))) (Jp (BZ (Bm ["Table"] "node_numbers") (AA 0)) (AA 3) (AQ zf4 (AB (AA 0) (AB (AA 1) (AB (AA 2) AI))))) BI)
 (Aa (AG Gp (BZ (Bm ["Table"] "node_numbers") (AA 0)) (AA 3))))))
def Ij:Nat->GL
 |0=>λ_ _=>none
 |n+1=>Au (Mp (Mq (Ij n))) Qw 3
def zt:GL:=Ij 5
def KG:List Str:=["words","examples","ordered","texts","wanted","table"]
def Qr(zq1:GL)(zz1:GL)(zt:GL):SF :=
 (AM (AY 2 (AQ Ll (AB (AA 1) AI)))
 (AM (AY 3 (DW (CH (AA 2)) 1 [] (Az 0) Ds (AG AZ (AA 0) (AE (.int 0)))))
 (AM (AY 4 (AQ Gm (AB (DW (CH (AA 2)) 1 [] (Az 0) Ds (AG AZ (AA 0) (AE (.int 1)))) AI)))
 (AM (AY 5 (IP "Table" zq1 (AB (AQ Gm (AB (AA 0) AI)) (AB (AQ zz1 (AB (AA 0) (AB (AA 3) (AB (AA 4) AI)))) AI))))
 (AM (EC (CT "list" Jo (BZ (Bm ["Table"] "roots") (AA 5)) (AB (DW (CH (AE JR)) 1 [5,4] (Az 0) Ds (AQ zt (AB (AA 1) (AB (AA 0) (AB (AA 2) AI))))) AI)))
 (Aa (AA 5)))))))
def zf1:GL:=Au (Qr zq1 zz1 zt) KG 2
def Mo:List Str:=["table"]
def Qn:SF :=
 (Aa (AQ Lk (AB (DW (CH (BZ (Bm ["Table"] "roots") (AA 0))) 1 [0] (Az 0) Ds (BZ (Bm ["Node"] "ways") (AG AZ (BZ (Bm ["Table"] "nodes") (AA 1)) (AA 0)))) AI)))
def zg1:GL:=Au (Qn) Mo 1
def Qh:List Str:=["_law_found"]
def Qb:SF :=
 (Aa (EQ (AQ Di (AB (AA 0) (AB (AE (.ty "int")) AI))) (Jh (AQ Di (AB (AA 0) (AB (AE (.ty "bool")) AI))))))
def zp:GL:=Au (Qb) Qh 1
def QX:List Str:=["_law_thing"]
def QQ:SF :=
 (AM (Ax (DR (Dg (AX (AQ Di (AB (AA 0) (AB (AE (.ty "tuple")) AI))))) (AX (AG Go (AQ Bz (AB (AA 0) AI)) (AE (.int 3))))) (Aa (AE (.bl false))) BI)
 (AM (Ax (DR (Dg (AX (AQ Di (AB (AG AZ (AA 0) (AE (.int 1))) (AB (AE (.ty "int")) AI))))) (DR (AX (AQ Di (AB (AG AZ (AA 0) (AE (.int 1))) (AB (AE (.ty "bool")) AI)))) (AX (AG (DK true) (AG AZ (AA 0) (AE (.int 1))) (DN (AB (AE (.int 1)) (AB (AE (.int 2)) (AB (BZ IX (AE (.int 1))) (AB (BZ IX (AE (.int 2))) AI))))))))) (Aa (AE (.bl false))) BI)
 (AM (Ax (DR (Dg (AX (AQ Di (AB (AG AZ (AA 0) (AE (.int 0))) (AB (AE (.ty "str")) AI))))) (Dg (AX (AQ Di (AB (AG AZ (AA 0) (AE (.int 2))) (AB (AE (.ty "str")) AI)))))) (Aa (AE (.bl false))) BI)
 (Aa (EQ (AG (DK false) (AG AZ (AA 0) (AE (.int 0))) (DN (AB (AE (.str "small")) (AB (AE (.str "great")) (AB (AE (.str "figure")) (AB (AE (.str "mark")) (AB (AE (.str "any")) AI))))))) (AG (DK false) (AG AZ (AA 0) (AE (.int 2))) (DN (AB (AE (.str "ahead")) (AB (AE (.str "behind")) AI)))))))))
def zh1:GL:=Au (QQ) QX 1
def QK:List Str:=["_law_thing","_law_words_here","_law_piece_here"]
def QE(zh1:GL):SF :=
 (AM (Ax (DR (Dg (AX (AQ Di (AB (AA 0) (AB (AE (.ty "tuple")) AI))))) (Dg (AX (Ju Nq Nq (AE (.int 1)) (AQ Bz (AB (AA 0) AI)) (AE (.int 3)))))) (Aa (AE (.bl false))) BI)
 (AM (Ca (CH (AA 0)) (Az 2) (AM (Ax (DR (Dg (AX (AQ Di (AB (AA 2) (AB (AE (.ty "tuple")) AI))))) (DR (AX (AG gLt (AQ Bz (AB (AA 2) AI)) (AE (.int 2)))) (Dg (AX (AQ Di (AB (AG AZ (AA 2) (AE (.int 0))) (AB (AE (.ty "str")) AI))))))) (Aa (AE (.bl false))) BI)
 (Ax (AX (AG CN (AG AZ (AA 2) (AE (.int 0))) (AE (.str "word")))) (Ax (DR (AX (AG Go (AQ Bz (AB (AA 2) AI)) (AE (.int 2)))) (DR (Dg (AX (AQ Di (AB (AG AZ (AA 2) (AE (.int 1))) (AB (AE (.ty "str")) AI))))) (AX (AG (DK true) (AG AZ (AA 2) (AE (.int 1))) (AA 1))))) (Aa (AE (.bl false))) BI) (Ax (DR (AX (AG Go (AQ Bz (AB (AA 2) AI)) (AE (.int 3)))) (AX (AG (DK true) (AG AZ (AA 2) (AE (.int 0))) (DN (AB (AE (.str "copy")) (AB (AE (.str "raise")) (AB (AE (.str "sink")) AI))))))) (Aa (AE (.bl false))) (Ax (DR (Dg (AX (AQ zh1 (AB (AG AZ (AA 2) (AE (.int 1))) AI)))) (Dg (AX (AQ zh1 (AB (AG AZ (AA 2) (AE (.int 2))) AI))))) (Aa (AE (.bl false))) BI)))))
 (Aa (AE (.bl true)))))
def zc2:GL:=Au (QE zh1) QK 2
def Py:List Str:=["_law_row_here","_law_words_here","_law_examples","_law_text_here","_law_answer"]
def Pu(zo:GL)(zc2:GL):SF :=
 (AM (Ax (Dg (AX (AQ zc2 (AB (AA 0) (AB (AA 1) AI))))) (Aa (AE (.bl false))) BI)
 (AM (Ca (CH (AA 2)) (GQ 2 (CZ (Az 3) (CZ (Az 4) Fk))) (Ax (AX (AG JE (AQ zo (AB (AA 0) (AB (AA 3) AI))) (AA 4))) (Aa (AE (.bl false))) BI))
 (Aa (AE (.bl true)))))
def zq:GL:=Au (Pu zo zc2) Py 3
def Po:List Str:=["node","number","found","answers","arm"]
def Ph:SF :=
 (AM (AY 2 (AE .non))
 (AM (Ca (Kc (BZ (Bm ["Node"] "arms") (AA 0))) (GQ 2 (CZ (Az 3) (CZ (Az 4) Fk))) (AM (Ax (AX (AG HS (AG AZ (AA 4) (AE (.int 0))) (AA 1))) Sx BI)
 (AY 2 (AA 3))))
 (Aa (AA 2))))
def zd2:GL:=Au (Ph) Po 2
def Pb:List Str:=["table","root","number","pieces","node","answers","arm","behind","within"]
def PU(zd2:GL):SF :=
 (AM (AY 3 (CM AI))
 (AM (AY 4 (AG AZ (BZ (Bm ["Table"] "nodes") (AA 0)) (AA 1)))
 (AM (RE (AX (AG HS (AQ Lo (AB (BZ (Bm ["Node"] "arms") (AA 4)) AI)) (AE (.int 0)))) (AM (AY 5 (AQ zd2 (AB (AA 4) (AB (AA 2) AI))))
 (AM (AY 6 (AG Gp (BZ (Bm ["Node"] "arms") (AA 4)) (AA 5)))
 (AM (AY 7 (AG AZ (BZ (Bm ["Table"] "nodes") (AA 0)) (AG AZ (AA 6) (AE (.int 1)))))
 (AM (AY 8 (AG HR (AA 2) (AG AZ (AA 6) (AE (.int 0)))))
 (AM (EC (CT "list" Fl (AA 3) (AB (AG AZ (AG Gp (BZ (Bm ["Table"] "groups") (AA 0)) (AA 5)) (AG Cw (AA 8) (BZ (Bm ["Node"] "ways") (AA 7)))) AI)))
 (AM (AY 2 (AG Bq (AA 8) (BZ (Bm ["Node"] "ways") (AA 7))))
 (AY 4 (AA 7)))))))))
 (Aa (AQ Gm (AB (AA 3) AI))))))
def ze2:GL:=Au (PU zd2) Pb 3
def PP:List Str:=["table","number","root","ways"]
def PJ(ze2:GL):SF :=
 (AM (Ax (AX (AG gLt (AA 1) (AE (.int 0)))) Rw BI)
 (AM (Ca (CH (BZ (Bm ["Table"] "roots") (AA 0))) (Az 2) (AM (AY 3 (BZ (Bm ["Node"] "ways") (AG AZ (BZ (Bm ["Table"] "nodes") (AA 0)) (AA 2))))
 (AM (Ax (AX (AG gLt (AA 1) (AA 3))) (Aa (AQ ze2 (AB (AA 0) (AB (AA 2) (AB (AA 1) AI))))) BI)
 (Ku 1 (λi j=>i-j) (AA 3)))))
 Rw))
def zi:GL:=Au (PJ ze2) PP 2
def PC:List Str:=["length","thing"]
def Ox:SF :=
 (Aa (EQ (AQ Di (AB (AA 1) (AB (AE (.ty "tuple")) AI))) (AG CN (AQ Bz (AB (AA 1) AI)) (AA 0))))
def zr:GL:=Au (Ox) PC 2
def Ot:List Str:=["thing","words"]
def On:SF :=
 (Aa (EQ (AQ Di (AB (AA 0) (AB (AE (.ty "str")) AI))) (AG (DK false) (AA 0) (AA 1))))
def zb:GL:=Au (On) Ot 2
def Oh:List Str:=["thing"]
def Oe:SF :=
 (Aa (EQ (AQ Di (AB (AA 0) (AB (AE (.ty "int")) AI))) (EQ (Jh (AQ Di (AB (AA 0) (AB (AE (.ty "bool")) AI)))) (AG (DK false) (AA 0) (AE JT)))))
def zf2:GL:=Au (Oe) Oh 1
def Oa:List Str:=["thing"]
def OW(zb:GL)(zf2:GL):SF :=
 (AM (Ax (DR (Dg (AX (AQ Di (AB (AA 0) (AB (AE (.ty "tuple")) AI))))) (AX (AG Go (AQ Bz (AB (AA 0) AI)) (AE (.int 3))))) (Aa (AE (.bl false))) BI)
 (Aa (EQ (AQ zb (AB (AG AZ (AA 0) (AE (.int 0))) (AB (AE JU) AI))) (EQ (AQ zf2 (AB (AG AZ (AA 0) (AE (.int 1))) AI)) (AQ zb (AB (AG AZ (AA 0) (AE (.int 2))) (AB (AE JS) AI)))))))
def za1:GL:=Au (OW zb zf2) Oa 1
def Qz:List Str:=["thing"]
def Qv(zr:GL)(zb:GL)(za1:GL):SF :=
 (Aa (EQ (AQ zr (AB (AE (.int 3)) (AB (AA 0) AI))) (EQ (AQ zb (AB (AG AZ (AA 0) (AE (.int 0))) (AB (AE KH) AI))) (EQ (AQ za1 (AB (AG AZ (AA 0) (AE (.int 1))) AI)) (AQ za1 (AB (AG AZ (AA 0) (AE (.int 2))) AI))))))
def zg2:GL:=Au (Qv zr zb za1) Qz 1
def Qq:List Str:=["table","piece"]
def Qm(zr:GL)(zb:GL)(zg2:GL):SF :=
 (AM (Ax (AX (AQ zr (AB (AE (.int 2)) (AB (AA 1) AI)))) (Aa (EQ (AQ zb (AB (AG AZ (AA 1) (AE (.int 0))) (AB (DN (AB (AE (.str "word")) AI)) AI))) (AQ zb (AB (AG AZ (AA 1) (AE (.int 1))) (AB (BZ (Bm ["Table"] "words") (AA 0)) AI))))) BI)
 (Aa (AQ zg2 (AB (AA 1) AI))))
def zh2:GL:=Au (Qm zr zb zg2) Qq 2
def Mn:List Str:=["table","row"]
def Qg(zh2:GL):SF :=
 (AM (Ax (DR (Dg (AX (AQ Di (AB (AA 1) (AB (AE (.ty "tuple")) AI))))) (AX (AG (DK true) (AQ Bz (AB (AA 1) AI)) (AE JR)))) (Aa (AE (.bl false))) BI)
 (Aa (AQ Kj (AB (DW (CH (AA 1)) 1 [0] (Az 0) Ds (AQ zh2 (AB (AA 1) (AB (AA 0) AI)))) AI))))
def zi2:GL:=Au (Qg zh2) Mn 2
def Mm:List Str:=["table","row","shorter","number","node","piece","member","arm"]
def Qa(zi2:GL):SF :=
 (AM (Ax (Dg (AX (AQ zi2 (AB (AA 0) (AB (AA 1) AI))))) (Aa (AE .non)) BI)
 (AM (AY 2 (AG HR (AQ Bz (AB (AA 1) AI)) (AE (.int 1))))
 (AM (AY 3 (AQ Lk (AB (DW (CH (EJ (BZ (Bm ["Table"] "roots") (AA 0)) GN (Dm (AA 2)))) 1 [0] (Az 0) Ds (BZ (Bm ["Node"] "ways") (AG AZ (BZ (Bm ["Table"] "nodes") (AA 1)) (AA 0)))) AI)))
 (AM (AY 4 (AG AZ (BZ (Bm ["Table"] "nodes") (AA 0)) (AG AZ (BZ (Bm ["Table"] "roots") (AA 0)) (AA 2))))
 (AM (Ca (CH (AA 1)) (Az 5) (AM (AY 6 (CT "dict" Lr (BZ (Bm ["Table"] "members") (AA 0)) (AB (AA 5) AI)))
 (AM (Ax (DR (AX (AG Ki (AA 6) (AE .non))) (AX (AG (IY true) (AG AZ (AA 6) (AE (.int 0))) (BZ (Bm ["Node"] "arms") (AA 4))))) (Aa (AE .non)) BI)
 (AM (AY 7 (AG Gp (BZ (Bm ["Node"] "arms") (AA 4)) (AG AZ (AA 6) (AE (.int 0)))))
 (AM (AY 4 (AG AZ (BZ (Bm ["Table"] "nodes") (AA 0)) (AG AZ (AA 7) (AE (.int 1)))))
 (Ku 3 (λi j=>i+j) (AG CV (AG AZ (AA 7) (AE (.int 0))) (AG Et (AG AZ (AA 6) (AE (.int 1))) (BZ (Bm ["Node"] "ways") (AA 4))))))))))
 (Aa (AA 3)))))))
def zj2:GL:=Au (Qa zi2) Mm 2
def QW:List Str:=["_law_table","_law_number","_law_words_here","_law_examples","_law_row_here","_law_back"]
def QP(zp:GL)(zq:GL)(zi:GL)(zj2:GL):SF :=
 (AM (AY 4 (AQ zi (AB (AA 0) (AB (AA 1) AI))))
 (AM (Ax (Dg (AX (AQ zq (AB (AA 4) (AB (AA 2) (AB (AA 3) AI)))))) (Aa (AE (.bl false))) BI)
 (AM (AY 5 (AQ zj2 (AB (AA 0) (AB (AA 4) AI))))
 (Aa (EQ (AQ zp (AB (AA 5) AI)) (AG Hz (AA 5) (AA 1)))))))
def zk2:GL:=Au (QP zp zq zi zj2) QW 4
def QJ:List Str:=["_law_script","_law_words_here","_law_row_here","_law_examples","_law_handed","_law_table","_law_size","_law_some","_law_number","_law_again"]
def QD(za:GL)(zp1:GL)(zf1:GL)(zg1:GL)(zp:GL)(zq:GL)(zi:GL)(zk2:GL):SF :=
 (AM (Jw (AQ zp1 (AB (AA 0) AI)) 3 (CZ (Az 1) (CZ (Az 2) (CZ (Az 3) Fk))))
 (AM (AY 4 (CM (AB (AQ Kg (AB (AA 1) AI)) (AB (AQ Kg (AB (AA 3) AI)) AI))))
 (AM (AY 5 (AQ zf1 (AB (AG AZ (AA 4) (AE (.int 0))) (AB (AG AZ (AA 4) (AE (.int 1))) AI))))
 (AM (AY 6 (AQ zg1 (AB (AA 5) AI)))
 (AM (Ax (DR (Dg (AX (AQ zp (AB (AA 6) AI)))) (DR (AX (AG gLt (AA 6) (AE (.int 0)))) (AX (AG JE (AA 4) (CM (AB (AA 1) (AB (AA 3) AI))))))) (Aa (AE (.bl false))) BI)
 (AM (Ax (AX (AG Hz (AA 6) (AE (.int 0)))) (Aa (Jh (AQ zq (AB (AA 2) (AB (AA 1) (AB (AA 3) AI)))))) BI)
 (AM (EC (CT "list" Fl (AG AZ (AA 4) (AE (.int 0))) (AB (AE (.str "z")) AI)))
 (AM (EC (CT "list" Ls (AG AZ (AA 4) (AE (.int 1))) AI))
 (AM (AY 7 (CM (AB (AG Bq (AQ za (AB (AA 0) (AB (AE (.int 3)) AI))) (AA 6)) (AB (AE (.int 0)) (AB (AG HR (AA 6) (AE (.int 1))) (AB (AG Bq (AG Cw (AQ za (AB (AA 0) (AB (AE (.int 3)) AI))) (AE (.int 7))) (AA 6)) AI))))))
 (AM (Ca (CH (AA 7)) (Az 8) (Ax (Dg (AX (AQ zk2 (AB (AA 5) (AB (AA 8) (AB (AA 1) (AB (AA 3) AI))))))) (Aa (AE (.bl false))) BI))
 (AM (AY 9 (AQ zf1 (AB (AA 1) (AB (AA 3) AI))))
 (Aa (EQ (AG Hz (AQ zg1 (AB (AA 9) AI)) (AA 6)) (AG Hz (AQ zi (AB (AA 9) (AB (AG AZ (AA 7) (AE (.int 0))) AI))) (AQ zi (AB (AA 5) (AB (AG AZ (AA 7) (AE (.int 0))) AI)))))))))))))))))
def KF:GL:=Au (QD za zp1 zf1 zg1 zp zq zi zk2) QJ 1
end L3
set_option maxHeartbeats 4000000
local macro_rules | `(tactic| wtm_at "z_lk") => `(tactic| first | (with_reducible assumption) | (with_reducible exact L3.As) | ((with_reducible refine L3.Aj ?_); wtm_at "z_lk") | ((with_reducible refine L3.Dh ?_); wtm_at "z_lk") | fail)
local macro_rules | `(tactic| wtm_at "z_pf") => `(tactic| first | exact Ac _ | assumption | ((with_reducible refine List.IsPrefix.trans ?_ (BB _ _)); wtm_at "z_pf") | ((with_reducible refine L3.NL ?_ ?_); (focus wtm_at "z_pf"); (focus (first | exact Al _ | simp))) | fail)
local macro_rules | `(tactic| wtm_at "z_1") => do let k1 := Lean.mkIdent `k1; let k2 := Lean.mkIdent `k2; let k3 := Lean.mkIdent `k3; let f := fun (t : Lean.TSyntax `tactic) (s : String) (ks : Array Lean.Ident) (xs : List (Lean.TSyntax `tactic)) => (do let ks ← ks.mapM fun k => `(?$k:ident); let y ← (s.splitOn " ").foldr (fun n t => do let t ← t; `(tactic| first | refine' $(Lean.mkCIdent (.str `L3 n)) $ks* ?_ | $t:tactic)) `(tactic| fail); let y ← `(tactic| with_reducible $y:tactic); let y ← xs.foldlM (fun y x => `(tactic| ($y:tactic; $x:tactic))) y; `(tactic| first | $y:tactic | $t:tactic) : Lean.MacroM (Lean.TSyntax `tactic)); let x0 := fun (k : Lean.Ident) => `(tactic| (case $k:ident => first | rfl | assumption | decide | omega | (simp only [EX, List.length_nil]; omega))); let x1 := fun (k : Lean.Ident) => `(tactic| (case $k:ident => first | decide | omega)); let x2 := fun (k : Lean.Ident) => `(tactic| (case $k:ident => wtm_at "z_lk")); let x3 := fun (k : Lean.Ident) => `(tactic| (case $k:ident => with_unfolding_all rfl)); let x4 := fun (k : Lean.Ident) => `(tactic| (case $k:ident => (first | with_unfolding_all rfl | (refine L3.ty_of_lst (xs := ?y1) ?y2; (case y2 => wtm_at "z_lk")) | (refine L3.ty_of_dk (xs := ?y1) ?y2; (case y2 => wtm_at "z_lk"))))); let x5 := fun (k : Lean.Ident) => `(tactic| (case $k:ident => first | rfl | (unfold L3.MC; rw [CJ]; constructor <;> refine decide_eq_true ?_ <;> omega))); let x6 := fun (k : Lean.Ident) => `(tactic| (case $k:ident => first | rfl | (unfold L3.OA; refine decide_eq_true ?_; omega))); let t ← `(tactic| fail); let t ← f t "AJg" #[k1] [(← x0 k1)]; let t ← f t "AJf" #[k1] [(← x0 k1)]; let t ← f t "AIq AIp" #[k1] [(← x1 k1)]; let t ← f t "" #[k1, k2, k3] [(← x2 k1), (← x2 k2), (← x3 k3)]; let t ← f t "Se AGB" #[k1, k2] [(← x2 k1), (← x3 k2)]; let t ← f t "AJW AIl AJG AJB" #[k1] [(← x2 k1)]; let t ← f t "AJP Xv" #[k1, k2, k3] [(← x2 k1), (← x3 k2), (← x3 k3)]; let t ← f t "AIj" #[k1, k2] [(← x2 k1), (← x3 k2)]; let t ← f t "GP" #[k1, k2, k3] [(← x3 k1), (← x4 k2), (← x3 k3)]; let t ← f t "Sd" #[k1, k2, k3] [(← x3 k1), (← x4 k2), (← x3 k3)]; let t ← f t "AJE Ux AIF AIx AJA AI1 AIs" #[k1] [(← x2 k1)]; let t ← f t "AGA" #[k1] [(← x5 k1)]; let t ← f t "Xy" #[k1] [(← x6 k1)]; let t ← f t "Us AIL AFQ AJI Sc AIi AH9" #[k1] [(← x3 k1)]; let t ← f t "LK Mv AH3 AHz AH2 AH5 AH4 AH7 RF RG AId AIa AA3 AIe AIV AIh AIT AIQ AIP AA4 AIX AIZ AIg AIS AIU AIR AIW AIf AIO AIb AIK AIC AIE AID AIJ AJV AJY AJe AJZ AJc AJd AJa AJb AIu AIt AIk AAw AIM AIN AGD AIy AI5 AI9 AJH AJN AJO AJS AJQ AI7 AI6 AJR AJK AJJ AJM AI0 AJD AJC AJF AJT AI8 AJL AI2 AI4 AI3 AH1 AIA AIc AH0 AIY AH8 AA5 AH6 AIH AIG AII AIB AIz AJU" #[] []; return t
local macro_rules | `(tactic| rfl') => `(tactic| wtm_at "z")
local macro_rules | `(tactic| wtm_at "z") => `(tactic| repeat' (wtm_at "z_1"))
namespace L3
open PySem PySem.Spec PyProof.Rows L2
def ML(n:Int):Prop:=n=1\/n=2\/n=-1\/n=-2
def ES(d:D):Prop:=∃(kind:Str) (nth:Int) (edge:Str),d=.tup [.str kind,.int nth,.str edge]/\ML nth/\(edge = "ahead"\/edge = "behind")/\kind∈([("small":Str),"great","figure","mark","any"]:List Str)
theorem JJ{Q:ALM}{L:AD}{ns:List Int}(hb:∀z∈ns,Builtin.Int.intBits z<=1048576)(hn:ns.length<=63){k:Int}(h0:0<=k)(h1:k<1000)(q:∀v:Int,0<=v->v<10000000000000000000000000000000000000000->Q (.int v) L):W2 (za [.fz (ns.map .int),.int k] L) Q:=by
 have hC:Builtin.Int.intBits 2718281828459045235360287471352662497757<=132:=by decide
 have hlen:((ns.map D.int).length:Int)=ns.length:=by simp
 unfold za;refine By rfl ?_;unfold Oz;have fin:∀x:Int,0<=x % 10000000000000000000000000000000000000000/\x % 10000000000000000000000000000000000000000<10000000000000000000000000000000000000000:=λx=>⟨HG _ (by decide),HH _ (by decide)⟩;rfl';refine Bs (λhk=>?_) (λhk=>?_)
 .obtain⟨z,hz,ez⟩:=ZM h0 (hlen▸hk);rfl';refine Xz ez ?_;rfl';refine Gk (Wp (m:=1048577) (PySem.intBits_add_le (m:=1048576) (n:=13) (hb z hz) (by decide)) hC (by decide)) ?_;rfl';exact⟨rfl,Ac _,q _ (fin _).1 (fin _).2⟩
 .rfl'
  have hkk:0<=k*k/\k*k<=1000000:=by have a1:k*k<=1000*1000:=Int.mul_le_mul (by omega) (by omega) h0 (by omega);exact⟨Int.mul_nonneg h0 h0,by omega⟩
  refine Gk (La (by omega)) ?_;rfl';refine Gk (Rx (by omega)) ?_;rfl'
  have rest:∀v:Int,0<=v->v<100000000000000000000000000000000000000000000000->cMul v v=true/\∀x:Int,cMul (x % 2147483629) 2718281828459045235360287471352662497757=true:=λv a b=>by
   have hv:Builtin.Int.intBits v<=160:=AHG (by
    have:(v.natAbs:Int)<((2 ^ 160:Nat):Int):=by
     have e:((2 ^ 160:Nat):Int)=1461501637330902918203684832716283019655932542976:=by decide
     rw[e];omega
    exact Int.ofNat_lt.mp this)
   refine⟨Wp hv hv (by decide),λx=>La ?_⟩;have:=HG x (b:=2147483629) (by decide);have:=HH x (b:=2147483629) (by decide);omega
  refine Bs (λhl=>?_) (λhl=>?_)
  .have hpos:0<(ns.length:Int):=by omega
   rfl';refine Gk (Rx (by omega)) ?_;rfl';obtain⟨z,hz,ez⟩:=ZM (ns:=ns) (k:=k*7 % ((ns.map D.int).length:Int)) (HG _ (by omega)) (by have:=HH (k*7) (b:=((ns.map D.int).length:Int)) (by omega);omega);refine Xz ez ?_;rfl';refine Gk (Rx (by omega)) ?_;have hr:=fin z;rfl';obtain⟨f1,f2⟩:=rest (k*k*7919+5+z % 10000000000000000000000000000000000000000*48271) (by omega) (by omega);refine Gk f1 ?_;rfl';refine Gk (f2 _) ?_;rfl';exact⟨rfl,Ac _,q _ (fin _).1 (fin _).2⟩
  .rfl';obtain⟨f1,f2⟩:=rest (k*k*7919+5) (by omega) (by omega);refine Gk f1 ?_;rfl';refine Gk (f2 _) ?_;rfl';exact⟨rfl,Ac _,q _ (fin _).1 (fin _).2⟩
theorem Ht{L:AD}{Q:ALM}{k:Nat}{xs:List D}{n:Int}(c:Int)(e:L[k]?=some (.lst xs))(h0:0<n)(h:n<=xs.length)(q:∀d∈xs,Q d L):W2 (AZ (.ref k) (.int (c % n)) L) Q:=by obtain⟨d,hd,e2⟩:=OC (xs:=xs) c h0 h;exact DV e e2 (q d hd)
theorem XB{Q:ALM}{L:AD}(c:Int)(q:∀p,ES p->Q p L):W2 (zc1 [.int c] L) Q:=by
 unfold zc1;refine By rfl ?_;unfold QG;rfl';refine Ht c As (by decide) (by decide) λd hd=>?_;rfl';refine Ht (c / 5) As (by decide) (by decide) λd2 hd2=>?_;rfl';refine Ht (c / 20) As (by decide) (by decide) λd3 hd3=>?_;rfl';simp only[Ae,EH,or_false] at hd hd2 hd3
 have hk:∃kind:Str,d=.str kind/\kind∈([("small":Str),"great","figure","mark","any"]:List Str):=by
  rcases hd with rfl|rfl|rfl|rfl|rfl
  .exact⟨_,rfl,by decide⟩
  .exact⟨_,rfl,by decide⟩
  .exact⟨_,rfl,by decide⟩
  .exact⟨_,rfl,by decide⟩
  .exact⟨_,rfl,by decide⟩
 have hn:∃n:Int,d2=.int n/\ML n:=by
  rcases hd2 with rfl|rfl|rfl|rfl
  .exact⟨_,rfl,.inl rfl⟩
  .exact⟨_,rfl,.inr (.inl rfl)⟩
  .exact⟨_,rfl,.inr (.inr (.inl rfl))⟩
  .exact⟨_,rfl,.inr (.inr (.inr rfl))⟩
 have he:∃e:Str,d3=.str e/\(e = "ahead"\/e = "behind"):=by
  rcases hd3 with rfl|rfl
  .exact⟨_,rfl,.inl rfl⟩
  .exact⟨_,rfl,.inr rfl⟩
 obtain⟨kind,rfl,hk⟩:=hk;obtain⟨n,rfl,hn⟩:=hn;obtain⟨e,rfl,he⟩:=he;exact⟨rfl,by wtm_at "z_pf",q _ ⟨kind,n,e,rfl,hn,he,hk⟩⟩
theorem Wx{Q:ALM}{L:AD}(c most:Int)(h0:0<=most)(h1:most<=100)(q:∀t:Str,BR t->(t.length:Int)<=most->Q (.str t) L):W2 (zm [.int c,.int most] L) Q:=by
 unfold zm;refine By rfl ?_;unfold Qd;have hS:("abcdefghijklmnopqrstuvwxyzABCDEFGHIJKLMNOPQRSTUVWXYZ0123456789 -.,/":Str)=TK:=rfl;rw[hS];have hz1:0<=c % (most+1):=HG _ (by omega);have hz2:c % (most+1)<most+1:=HH _ (by omega);rfl';refine Ht _ As (by decide) (by decide) λd hd=>?_
 have hd':∃m:Str,d=.str m/\BR m/\0<m.length/\m.length<=67:=by simp only[Ae,EH,or_false] at hd;rcases hd with rfl|rfl|rfl|rfl <;> exact⟨_,rfl,by decide +kernel,by decide +kernel,by decide +kernel⟩
 obtain⟨m,rfl,hm1,hm2,hm3⟩:=hd';rfl';generalize hL:L++[Ob.lst [D.str "abAB12 -",D.str "aB 1",D.str "aab",D.str TK]]=L1;have hpre:L <+: L1:=by rw[<-hL];exact BB _ _
 refine Da (λj ρ L'=>L'=L1/\∃(c':Int) (t:Str) (a:Option D),ρ=[some (.int c'),some (.int most),some (.str TK),some (.str m),some (.int (c % (most+1))),some (.str t),a]/\BR t/\t.length<=j) _ 0 _ _ ⟨rfl,_,_,_,rfl,by decide,by decide⟩ ?_ ?_
 .rintro i x ρ L' hx ⟨rfl,c',t,a,rfl,ht1,ht2⟩;obtain⟨hi,rfl⟩:=NI hx;refine⟨rfl,?_⟩;rfl';obtain⟨k,hk1,hk2⟩:=OC (xs:=m.cps.toList) (n:=(m.length:Int)) c' (by omega) (by simp[Str.length]);refine Sc hk2 ?_;have hone:(⟨#[k]⟩:Str).length=1:=rfl;refine No (by rw[hone];omega) ?_;rfl';refine⟨rfl,_,_,_,rfl,ht1.app (.one (hm1 _ hk1)),?_⟩;rw[OH,hone];omega
 .rintro ρ L' ⟨rfl,c',t,a,rfl,ht1,ht2⟩;refine⟨rfl,?_⟩;rfl';rw[IL] at ht2;exact⟨rfl,hpre,q t ht1 (by omega)⟩
def Gv(ws:List Str):Prop:=ws.Nodup/\(∀w∈ws,BR w/\0<w.length/\w.length<=8)/\ws.length<=6
theorem Lg(w:Str):∀ws:List Str,Db (.str w) (ws.map D.str)=decide (w∈ws)
 |[]=>by simp[Db]
 |x::xs=>by
  have ih:=Lg w xs;unfold Db at ih ⊢;rw[Am,AJs,ih]
  have e:Kl (.str x) (.str w)=decide (w=x):=by
   show(x == w)=decide (w=x)
   by_cases h:w=x
   .subst h;simp
   .have:¬x=w:=λz=>h z.symm;simp[h,this]
  rw[e]
  by_cases h:w=x <;> simp[h]
theorem Nu(ws:List Str):(ws.map D.str).all BO=true:=by rw[List.all_map,CW];exact λ_ _=>rfl
theorem Vc{t:Str}(h:t≠""):0<t.length:=by
 rcases Nat.eq_zero_or_pos t.length with h0|h0
 .exfalso;apply h;obtain⟨a⟩:=t;have:a=#[]:=Array.eq_empty_of_size_eq_zero h0;subst this;rfl
 .exact h0
theorem XU{L L':AD}{o:Ob}(h:Dr L.length (L++[o]) L'):L <+: L':=by rw[List.prefix_iff_getElem?];intro j hj;rw[h.2 j (by omega) (by simp;omega),Fh hj];simp[hj]
theorem AE5{Q:ALM}{L:AD}(c:Int)(q:∀ws L',Gv ws->L <+: L'->L'[L.length]?=some (.lst (ws.map D.str))->Q (.ref L.length) L'):W2 (zi1 [.int c] L) Q:=by
 unfold zi1;refine HJ rfl ?_;unfold QS;have m5:=HG c (b:=5) (by decide);have m5':=HH c (b:=5) (by decide);have m2:=HG c (b:=2) (by decide);have m2':=HH c (b:=2) (by decide);refine LK (Mv (AA4 (AA3 (AFQ rfl ?_))));refine LK (Mv (RG (Us rfl (RF (Xy rfl ?_)))));refine CK (λρ L'=>L'=L++[.lst []]/\∃n:Int,0<=n/\n<=6/\ρ=[some (.int c),some (.ref L.length),some (.int n),none,none,none]) ?_ ?_
 .rfl';refine Bs (λh=>?_) (λh=>?_)
  .rfl';exact⟨rfl,_,by omega,by omega,rfl⟩
  .rfl';exact⟨rfl,_,m5,by omega,rfl⟩
 rintro ρ L' ⟨rfl,n,hn0,hn6,rfl⟩;rfl';refine Da (λj ρ L'=>∃(ws:List Str) (p:Int) (a b:Option D),ρ=[some (.int c),some (.ref L.length),some (.int n),some (.int p),a,b]/\Dr L.length (L++[.lst []]) L'/\L'[L.length]?=some (.lst (ws.map D.str))/\ws.Nodup/\(∀w∈ws,BR w/\0<w.length/\w.length<=8)/\ws.length<=j) _ 0 _ _ ⟨[],_,none,none,rfl,.refl _ _,As,Hj,λ_ h=>(nomatch h),Al _⟩ ?_ ?_
 .rintro i x ρ L' hx ⟨ws,p,a,b,rfl,hkp,hg,hnd,hw,hl⟩;obtain⟨hi,rfl⟩:=NI hx;refine⟨rfl,AAw ?_⟩;refine CK (λρ L2=>Dr L.length (L++[.lst []]) L2/\L2[L.length]?=some (.lst (ws.map D.str))/\∃t:Str,BR t/\t.length<=8/\ρ=[some (.int c),some (.ref L.length),some (.int n),some (.int p),some (.int (0+(i:Int))),some (.str t)]) ?_ ?_
  .rfl';refine Ht _ As (by decide) (by decide) λd hd=>?_
   have hd':∃m:Int,d=.int m/\0<=m/\m<=8:=by simp only[Ae,EH,or_false] at hd;rcases hd with rfl|rfl|rfl|rfl <;> exact⟨_,rfl,by decide,by decide⟩
   obtain⟨m,rfl,hm0,hm8⟩:=hd';rfl';refine Wx _ _ hm0 (by omega) λt ht1 ht2=>?_;exact⟨hkp.trans (.app _ _ _),Aj hg,t,ht1,by omega,rfl⟩
  rintro ρ L2 ⟨hkp2,hg2,t,ht1,ht2,rfl⟩;refine CK (λρ L3=>L3=L2/\∃t:Str,BR t/\t.length<=8/\ρ=[some (.int c),some (.ref L.length),some (.int n),some (.int p),some (.int (0+(i:Int))),some (.str t)]) ?_ ?_
  .rfl';refine Bs (λh=>?_) (λh=>?_)
   .rfl';exact⟨rfl,_,ht1.slice _ _,DA (Txt.slice_le _ _ _) ht2,rfl⟩
   .rfl';exact⟨rfl,t,ht1,ht2,rfl⟩
  clear ht1 ht2 t;rintro ρ L3 ⟨rfl,t,ht1,ht2,rfl⟩;refine CK (λρ L4=>L4=L3/\∃t:Str,BR t/\t.length<=8/\0<t.length/\ρ=[some (.int c),some (.ref L.length),some (.int n),some (.int p),some (.int (0+(i:Int))),some (.str t)]) ?_ ?_
  .rfl';refine Bs (λh=>?_) (λh=>?_)
   .rfl';exact⟨rfl,"-",by decide +kernel,by decide,by decide,rfl⟩
   .rfl';exact⟨rfl,t,ht1,ht2,Vc h,rfl⟩
  clear ht1 ht2 t;rintro ρ L4 ⟨rfl,w,hw1,hw2,hw3,rfl⟩;rfl';refine Nm hg2 (by rw[Nu];rfl) ?_;rw[Lg];rfl';refine Bs (λhm=>?_) (λhm=>?_)
  .rfl';exact⟨ws,_,_,_,rfl,hkp2,hg2,hnd,hw,by omega⟩
  .rfl';refine Hy hg2 (by simp;omega) ?_;rfl';refine⟨ws++[w],_,_,_,rfl,hkp2.trans (.set _ _ _),?_,?_,λy hy=>?_,by simp;omega⟩
   .rw[Dh hg2];simp
   .rw[Hl];refine⟨hnd,by simp,λa ha b hb=>?_⟩;have:b=w:=by simpa using hb
    rw[this];rintro rfl;exact hm ha
   .rcases DB.mp hy with h|h
    .exact hw y h
    .have:y=w:=by simpa using h
     rw[this];exact⟨hw1,hw3,hw2⟩
 .rintro ρ L' ⟨ws,p,a,b,rfl,hkp,hg,hnd,hw,hl⟩;refine⟨rfl,?_⟩;rw[IL] at hl;rfl';refine⟨rfl,q ws L' ⟨hnd,hw,by omega⟩ (XU hkp) hg⟩
def JA(s:Str):D:=if Gi s "abcdefghijklmnopqrstuvwxyz"=true then .str "small" else if Gi s "ABCDEFGHIJKLMNOPQRSTUVWXYZ"=true then .str "great" else if Gi s "0123456789"=true then .str "figure" else if Gi s " -.,/"=true then .str "mark" else .non
theorem AFU{Q:ALM}{L:AD}(s:Str)(h:Q (JA s) L):W2 (zs1 [.str s] L) Q:=by
 unfold zs1;refine By rfl ?_;unfold JA at h;simp only[QR,Md];rfl';refine Ik rfl ?_;rfl';refine IB (λh1=>?_) (λh1=>?_)
 .rw[if_pos h1] at h;rfl';exact⟨rfl,Ac _,h⟩
 rw[if_neg (by simp[h1])] at h;rfl';refine Ik rfl ?_;rfl';refine IB (λh1=>?_) (λh1=>?_)
 .rw[if_pos h1] at h;rfl';exact⟨rfl,Ac _,h⟩
 rw[if_neg (by simp[h1])] at h;rfl';refine Ik rfl ?_;rfl';refine IB (λh1=>?_) (λh1=>?_)
 .rw[if_pos h1] at h;rfl';exact⟨rfl,Ac _,h⟩
 rw[if_neg (by simp[h1])] at h;rfl';refine Ik rfl ?_;rfl';refine IB (λh1=>?_) (λh1=>?_)
 .rw[if_pos h1] at h;rfl';exact⟨rfl,Ac _,h⟩
 rw[if_neg (by simp[h1])] at h;rfl';refine Ul rfl ?_;rfl';exact⟨rfl,Ac _,h⟩
def GO(kind s:Str):Bool:=decide (kind = "any") || decide (JA s=.str kind)
theorem AFW(s:Str):JA s=.non\/∃k,JA s=.str k:=by
 unfold JA
 repeat' split
 all_goals first|exact .inl rfl|exact .inr ⟨_,rfl⟩
theorem AFl{Q:ALM}{L:AD}(kind s:Str)(h:Q (.bl (GO kind s)) L):W2 (zt1 [.str kind,.str s] L) Q:=by
 unfold zt1;refine By rfl ?_;unfold QF;rfl';refine Bs (λh1=>?_) (λh1=>?_)
 .have e:GO kind s=true:=by simp[GO,h1]
  rw[e] at h;exact⟨rfl,Ac _,h⟩
 .rfl';refine AFU _ ?_;have e:GO kind s=decide (JA s=.str kind):=by simp[GO,h1]
  rw[e] at h;rcases AFW s with e|⟨k,e⟩
  .rw[e] at h ⊢;rfl';rw[decide_eq_false (by intro z;cases z)] at h;exact⟨rfl,Ac _,h⟩
  .rw[e] at h ⊢;rfl';rw[Kp (show D.str k=D.str kind↔k=kind by simp)] at h;exact⟨rfl,Ac _,h⟩
def nums(p:Nat->Bool)(n:Nat):List Int:=(List.range n).filterMap λ(i:Nat)=>if p i=true then some (i:Int) else none
theorem AEY{p q:Nat->Bool}{n:Nat}(h:∀i,i<n->p i=q i):nums p n=nums q n:=by unfold nums;apply Lv;intro i hi;rw[h i (Cr.mp hi)]
theorem AEX{p:Nat->Bool}{n:Nat}{z:Int}(h:z∈nums p n):0<=z/\z<n:=by
 unfold nums at h;rw[AKf] at h;obtain⟨i,hi,h⟩:=h;have:=Cr.mp hi;split at h
 .cases h;omega
 .cases h
def Hr(ns:List Int)(nth:Int)(b:Bool):Option D:=if (ns.length:Int)<(if nth<0 then -nth else nth) then some .non else (atI ns (if nth>0 then nth-1 else nth)).map λi=>.int (if b then i+1 else i)
theorem Vh{Q:ALM}{L:AD}{kind edge y:Str}{nth:Int}{d:D}(hy:y.length<=1000)(e:Hr (nums (λi=>GO kind (sg y i)) y.cps.size) nth (!decide (edge = "ahead"))=some d)(h:Q d L):W2 (zz [.tup [.str kind,.int nth,.str edge],.str y] L) Q:=by
 unfold zz;refine By rfl ?_;unfold Pz;rfl';have hy':y.cps.size<=1000:=hy;rw[AGe]
 refine Mw (λρ=>∃a b,ρ=[a,b,some (.str kind)]) (λx=>match x with|.tup [.int i,.str s]=>if GO kind s=true then some (.int i) else none|_=>none) _ _ ⟨none,none,rfl⟩ (by simp;omega) ?_ ?_
 .rintro x hx ρ ⟨a,b,rfl⟩;rw[BC] at hx;obtain⟨i,_,rfl⟩:=hx;rfl';refine⟨⟨_,_,rfl⟩,λacc=>?_⟩;rfl';refine AFl _ _ ?_;rfl';refine⟨rfl,IB (λh=>?_) (λh=>?_)⟩
  .rfl';exact⟨rfl,if_pos h⟩
  .exact if_neg (by rw[h];exact Ct)
 have ef:AKO (λx=>match x with|D.tup [.int i,.str s]=>if GO kind s=true then some (D.int i) else none|_=>none) ((List.range y.cps.size).map λ(i:Nat)=>D.tup [.int (i:Int),.str (sg y i)])=(nums (λi=>GO kind (sg y i)) y.cps.size).map D.int:=by rw[List.filterMap_map];unfold nums;rw[List.map_filterMap];apply Lv;intro i _;simp only[Function.comp];split <;> simp
 rw[ef];generalize nums (λi=>GO kind (sg y i)) y.cps.size=ns at e ⊢;have hl:((ns.map D.int).length:Int)=ns.length:=by simp
 unfold Hr at e;rfl';rw[hl];refine Bs (λhlt=>?_) (λhlt=>?_)
 .rw[if_pos hlt] at e;cases e;rfl';exact⟨rfl,BB _ _,h⟩
 .rw[if_neg hlt] at e;rfl'
  cases q:atI ns (if nth>0 then nth-1 else nth) with
  |none=>rw[q] at e;cases e
  |some i =>
   rw[q] at e;cases e
   have q2:atI (ns.map D.int) (if nth>0 then nth-1 else nth)=some (.int i):=by rw[ZL,q];rfl
   refine Bs (λhp=>?_) (λhp=>?_)
   .rw[if_pos hp] at q2;rfl';refine DV As q2 ?_;rfl';refine Bs (λhe=>?_) (λhe=>?_)
    .rfl';rw[decide_eq_true he] at h;exact⟨rfl,BB _ _,h⟩
    .rfl';rw[decide_eq_false he] at h;exact⟨rfl,BB _ _,h⟩
   .rw[if_neg hp] at q2;rfl';refine DV As q2 ?_;rfl';refine Bs (λhe=>?_) (λhe=>?_)
    .rfl';rw[decide_eq_true he] at h;exact⟨rfl,BB _ _,h⟩
    .rfl';rw[decide_eq_false he] at h;exact⟨rfl,BB _ _,h⟩
def Nb(s:Str):Str:=if Txt.islower s=true then "small" else if Txt.isupper s=true then "great" else if Txt.isdigit s=true then "figure" else "mark"
theorem AFA{Q:ALM}{L:AD}(s:Str)(h:Q (.str (Nb s)) L):W2 (zk1 [.str s] L) Q:=by
 unfold zk1;refine By rfl ?_;unfold Pq;unfold Nb at h;rfl';refine IB (λh1=>?_) (λh1=>?_)
 .rw[if_pos h1] at h;rfl';exact⟨rfl,Ac _,h⟩
 rw[if_neg (by simp[h1])] at h;rfl';refine IB (λh1=>?_) (λh1=>?_)
 .rw[if_pos h1] at h;rfl';exact⟨rfl,Ac _,h⟩
 rw[if_neg (by simp[h1])] at h;rfl';refine IB (λh1=>?_) (λh1=>?_)
 .rw[if_pos h1] at h;rfl';exact⟨rfl,Ac _,h⟩
 rw[if_neg (by simp[h1])] at h;rfl';exact⟨rfl,Ac _,h⟩
theorem AFT:∀c∈MB,JA ⟨#[c]⟩=.str (Nb ⟨#[c]⟩):=by decide +kernel
def Ec(kind s:Str):Bool:=decide (kind = "any") || decide (Nb s=kind)
theorem Wj{y:Str}(h:BR y)(kind:Str):nums (λi=>GO kind (sg y i)) y.cps.size=nums (λi=>Ec kind (sg y i)) y.cps.size:=by apply AEY;intro i hi;unfold GO Ec sg;rw[AFT _ (h.at hi)];simp
theorem AB8{y:Str}{i:Nat}(hi:i<y.cps.size):atI y.cps.toList (i:Int)=some (y.cps.getD i 0):=by apply Eh;simp[hi,Array.getD]
theorem Wy{Q:ALM}{L:AD}{kind edge y:Str}{nth:Int}{d:D}(hy:y.length<=1000)(e:Hr (nums (λi=>Ec kind (sg y i)) y.cps.size) nth (decide (edge = "behind"))=some d)(h:Q d L):W2 (zx [.tup [.str kind,.int nth,.str edge],.str y] L) Q:=by
 unfold zx;refine By rfl ?_;unfold Pk;have hy':y.cps.size<=1000:=hy;have hyl:(y.length:Int)=(y.cps.size:Int):=rfl;rfl';rw[hyl,AJr,ACV]
 refine Mw (λρ=>∃a,ρ=[a,some (.str kind),some (.str y)]) (λx=>match x with|.int i=>if Ec kind (sg y i.toNat)=true then some (.int i) else none|_=>none) _ _ ⟨none,rfl⟩ (by simp;omega) ?_ ?_
 .rintro x hx ρ ⟨a,rfl⟩;rw[BC] at hx;obtain⟨i,hi,rfl⟩:=hx;have hi':=Cr.mp hi;have hat:atI y.cps.toList (i:Int)=some (y.cps.getD i 0):=AB8 hi';rfl';refine⟨⟨_,rfl⟩,λacc=>?_⟩;rfl';refine Bs (λh1=>?_) (λh1=>?_)
  .rfl';refine⟨rfl,?_⟩;rfl';exact⟨rfl,if_pos (by rw[AJr];simp[Ec,h1])⟩
  .rfl';refine Sc hat ?_;rfl';refine AFA _ ?_;rfl';refine⟨rfl,Bs (λh2=>?_) (λh2=>?_)⟩
   .rfl';exact⟨rfl,if_pos (by rw[AJr];unfold Ec sg;rw[decide_eq_true h2];simp)⟩
   .exact if_neg (by rw[AJr];unfold Ec sg;rw[decide_eq_false h2,decide_eq_false h1];simp)
 have ef:AKO (λx=>match x with|D.int i=>if Ec kind (sg y i.toNat)=true then some (D.int i) else none|_=>none) ((List.range y.cps.size).map λ(i:Nat)=>D.int (i:Int))=(nums (λi=>Ec kind (sg y i)) y.cps.size).map D.int:=by rw[List.filterMap_map];unfold nums;rw[List.map_filterMap];apply Lv;intro i _;simp only[Function.comp,AJr];split <;> simp
 rw[ef];generalize nums (λi=>Ec kind (sg y i)) y.cps.size=ns at e ⊢;have hl:((ns.map D.int).length:Int)=ns.length:=by simp
 unfold Hr at e;rfl';rw[hl];refine Bs (λhlt=>?_) (λhlt=>?_)
 .rw[if_pos hlt] at e;cases e;rfl';exact⟨rfl,BB _ _,h⟩
 .rw[if_neg hlt] at e;rfl'
  cases q:atI ns (if nth>0 then nth-1 else nth) with
  |none=>rw[q] at e;cases e
  |some i =>
   rw[q] at e;cases e
   have q2:atI (ns.map D.int) (if nth>0 then nth-1 else nth)=some (.int i):=by rw[ZL,q];rfl
   have fin:(D.int (i+if decide (edge = "behind")=true then 1 else 0))=.int (if decide (edge = "behind")=true then i+1 else i):=by split <;> simp
   refine Bs (λhp=>?_) (λhp=>?_)
   .rw[if_pos hp] at q2;rfl';refine DV As q2 ?_;rfl';rw[fin];exact⟨rfl,BB _ _,h⟩
   .rw[if_neg hp] at q2;rfl';refine DV As q2 ?_;rfl';rw[fin];exact⟨rfl,BB _ _,h⟩
theorem NE(p:Nat->Bool)(m:Nat){n:Int}(hn:ML n)(b:Bool):∃d,Hr (nums p m) n b=some d/\(d=.non\/∃i:Int,d=.int i/\0<=i/\i<=m):=by
 unfold Hr
 by_cases hlt:((nums p m).length:Int)<(if n<0 then -n else n)
 .rw[if_pos hlt];exact⟨_,rfl,.inl rfl⟩
 .rw[if_neg hlt]
  obtain⟨v,hv⟩:∃v,atI (nums p m) (if n>0 then n-1 else n)=some v:=ZJ (by
   rcases hn with rfl|rfl|rfl|rfl <;> simp at hlt ⊢ <;> omega)
  rw[hv];have:=AEX (ZK hv);refine⟨_,rfl,.inr ⟨_,rfl,?_⟩⟩;cases b <;> simp <;> omega
theorem AIm{y:Str}{p:D}(hy:y.length<=1000)(hs:BR y)(hp:ES p):∃d,(d=.non\/∃i:Int,d=.int i/\0<=i/\i<=y.cps.size)/\(∀{Q:ALM} {L:AD},Q d L->W2 (zz [p,.str y] L) Q)/\(∀{Q:ALM} {L:AD},Q d L->W2 (zx [p,.str y] L) Q):=by
 obtain⟨kind,nth,edge,rfl,hn,he,_⟩:=hp;obtain⟨d,h1,h2⟩:=NE (λi=>GO kind (sg y i)) y.cps.size hn (!decide (edge = "ahead"));refine⟨d,h2,λ{Q L} h=>Vh hy h1 h,λ{Q L} h=>Wy hy ?_ h⟩;rw[<-Wj hs];have e:(decide (edge = "behind"))=!decide (edge = "ahead"):=by rcases he with rfl|rfl <;> decide
 rw[e];exact h1
def MP(s:Str):Prop:=s = "copy"\/s = "raise"\/s = "sink"
def IG(d:D):Prop:=(∃w:Str,d=.tup [.str "word",.str w]/\BR w/\w.length<=8/\0<w.length)\/(∃(deed:Str) (p q:D),d=.tup [.str deed,p,q]/\MP deed/\ES p/\ES q)
theorem ES.noRef{p:D}(h:ES p):p.noRef=true:=by obtain⟨_,_,_,rfl,_⟩:=h;rfl
theorem IG.noRef{p:D}(h:IG p):p.noRef=true:=by
 rcases h with⟨w,rfl,_⟩|⟨deed,p,q,rfl,_,hp,hq⟩
 .rfl
 .simp[D.noRef,D.noRefL,hp.noRef,hq.noRef]
theorem AGz:∀c∈MB,c<128:=by decide
theorem BR.ascii{x:Str}(h:BR x):∀c∈x.cps.toList,c<128:=λc hc=>AGz c (h c hc)
theorem RJ{x:Str}(h:BR x):(Txt.upper x).length=x.length:=by rw[upper_ascii h.ascii];show(x.cps.map _).size=x.cps.size;simp
theorem SA{x:Str}(h:BR x):(Txt.lower x).length=x.length:=by rw[lower_ascii h.ascii];show(x.cps.map _).size=x.cps.size;simp
theorem VX:∀{xs:List D} {ys:List Str},CB xs=some ys->ys.length=xs.length
 |[],ys,h=>by cases h;rfl
 |x::xs,ys,h=>by
  cases x with
  |str s =>
   simp only[CB] at h
   cases e:CB xs with
   |none=>rw[e] at h;cases h
   |some a=>rw[e] at h;cases h;simp[VX e]
  |_=>simp[CB] at h
theorem VZ:∀{xs:List D} {ys:List Str} {P:Str->Prop},CB xs=some ys->(∀s,D.str s∈xs->P s)->∀y∈ys,P y
 |[],ys,P,h,_=>by cases h;exact λ_ hy=>(nomatch hy)
 |x::xs,ys,P,h,hP=>by
  cases x with
  |str s =>
   simp only[CB] at h
   cases e:CB xs with
   |none=>rw[e] at h;cases h
   |some a =>
    rw[e] at h;cases h;intro y hy;rcases Ae.mp hy with rfl|hy
    .exact hP y BW
    .exact VZ e (λs hs=>hP s (BQ _ hs)) y hy
  |_=>simp[CB] at h
theorem VW:∀{xs:List D} {ys:List Str},CB xs=some ys->xs=ys.map D.str
 |[],ys,h=>by cases h;rfl
 |x::xs,ys,h=>by
  cases x with
  |str s =>
   simp only[CB] at h
   cases e:CB xs with
   |none=>rw[e] at h;cases h
   |some a=>rw[e] at h;cases h;simp[<-VW e]
  |_=>simp[CB] at h
theorem SV:∀{xs:List D},(∀d∈xs,d=.non\/∃t,d=.str t)->Db .non xs=(CB xs).isNone
 |[],_=>rfl
 |x::xs,h=>by
  have ih:=SV λd hd=>h d (BQ _ hd);rcases h x BW with rfl|⟨t,rfl⟩
  .rfl
  .have:Db .non (.str t::xs)=Db .non xs:=rfl;rw[this,ih];simp only[CB];cases CB xs <;> rfl
def Df(p:D)(y:Str):D:=match p with
 |.tup [.str kind,.int nth,.str edge]=>(Hr (nums (λi=>Ec kind (sg y i)) y.cps.size) nth (decide (edge = "behind"))).getD .non
 |_=>.non
theorem LP{kind edge y:Str}{nth:Int}:Df (.tup [.str kind,.int nth,.str edge]) y=(Hr (nums (λi=>Ec kind (sg y i)) y.cps.size) nth (decide (edge = "behind"))).getD .non:=rfl
theorem JZ{p:D}(hp:ES p)(y:Str):Df p y=.non\/∃i:Int,Df p y=.int i/\0<=i/\i<=y.length:=by obtain⟨kind,nth,edge,rfl,hn,he,_⟩:=hp;obtain⟨d,h1,h2⟩:=NE (λi=>Ec kind (sg y i)) y.cps.size hn (decide (edge = "behind"));simp only[LP,h1,AKt];exact h2
theorem Wz{Q:ALM}{L:AD}{p:D}{y:Str}(hy:y.length<=1000)(hp:ES p)(h:Q (Df p y) L):W2 (zx [p,.str y] L) Q:=by obtain⟨kind,nth,edge,rfl,hn,he,_⟩:=hp;obtain⟨d,h1,h2⟩:=NE (λi=>Ec kind (sg y i)) y.cps.size hn (decide (edge = "behind"));simp only[LP,h1,AKt] at h;exact Wy hy h1 h
def Ex(deed:Str)(t:Str):Str:=if deed = "raise" then Txt.upper t else if deed = "sink" then Txt.lower t else t
def CS(y:Str)(pc:D):D:=match pc with
 |.tup [_,q]=>(match q with|.str w=>.str w|_=>.non)
 |.tup [a,p,q]=>(match a with|.str deed=>(match Df p y,Df q y with|.int i,.int j=>if j<=i then .non else .str (Ex deed (Txt.slice y (some i) (some j)))|_,_=>.non)|_=>.non)
 |_=>.non
theorem LX{y deed:Str}{p q:D}:CS y (.tup [.str deed,p,q])=(match Df p y,Df q y with|.int i,.int j=>if j<=i then .non else .str (Ex deed (Txt.slice y (some i) (some j)))|_,_=>.non):=rfl
theorem AGq{deed t:Str}(h:BR t):(Ex deed t).length=t.length:=by
 unfold Ex;split
 .exact RJ h
 .split
  .exact SA h
  .rfl
theorem NP{y:Str}{pc:D}(hy:y.length<=1000)(hs:BR y)(hp:IG pc):CS y pc=.non\/∃t:Str,CS y pc=.str t/\t.length<=1000:=by
 rcases hp with⟨w,rfl,h1,h2,_⟩|⟨deed,p,q,rfl,hd,hp,hq⟩
 .exact .inr ⟨w,rfl,by omega⟩
 .obtain⟨k,n,e,rfl,_⟩:=id hq;rw[LX];rcases JZ hp y with e1|⟨i,e1,_⟩
  .rw[e1];exact .inl rfl
  .rcases JZ hq y with e2|⟨j,e2,_⟩
   .rw[e1,e2];exact .inl rfl
   .rw[e1,e2];simp only;split
    .exact .inl rfl
    .exact .inr ⟨_,rfl,by rw[AGq (hs.slice _ _)];exact DA (Txt.slice_le _ _ _) hy⟩
theorem XC{Q:ALM}{L:AD}{y:Str}{pc:D}(hy:y.length<=1000)(hs:BR y)(hp:IG pc)(h:Q (CS y pc) L):W2 (zf [pc,.str y] L) Q:=by
 rcases hp with⟨w,rfl,h1,h2,_⟩|⟨deed,p,q,rfl,hd,hp,hq⟩
 .unfold zf;refine By rfl ?_;unfold MX;rfl';exact⟨rfl,Ac _,h⟩
 .have hnw:deed≠"word":=by rcases hd with rfl|rfl|rfl <;> decide
  obtain⟨k,n,e,rfl,_⟩:=id hq;rw[LX] at h;unfold zf;refine By rfl ?_;unfold MX;rfl';refine Wz hy hp ?_;rfl';refine Wz hy hq ?_;rcases JZ hp y with e1|⟨i,e1,hi⟩
  .rw[e1] at h ⊢;rfl';exact⟨rfl,Ac _,h⟩
  rcases JZ hq y with e2|⟨j,e2,hj⟩
  .rw[e1,e2] at h ⊢;rfl';exact⟨rfl,Ac _,h⟩
  rw[e1,e2] at h ⊢;simp only at h
  by_cases hij:j<=i
  .rw[if_pos hij] at h;rfl';exact⟨rfl,Ac _,h⟩
  rw[if_neg hij] at h;have hts:=hs.slice (some i) (some j);have htl:(Txt.slice y (some i) (some j)).length<=1000:=DA (Txt.slice_le _ _ _) hy;unfold Ex at h;rfl';refine Bs (λh1=>?_) (λh1=>?_)
  .rw[if_pos h1] at h;rfl';refine Nk (by rw[RJ hts];omega) ?_;exact⟨rfl,Ac _,h⟩
  rw[if_neg h1] at h;rfl';refine Bs (λh2=>?_) (λh2=>?_)
  .rw[if_pos h2] at h;rfl';refine Nk (by rw[SA hts];omega) ?_;exact⟨rfl,Ac _,h⟩
  .rw[if_neg h2] at h;rfl';exact⟨rfl,Ac _,h⟩
def Fj(y:Str)(ps:List D):D:=match CB (ps.map (CS y)) with|some ys=>.str (Txt.join "" ys)|none=>.non
theorem ACU{y:Str}{ps:List D}:Fj y ps=.non\/∃t,Fj y ps=.str t:=by
 unfold Fj;split
 .exact .inr ⟨_,rfl⟩
 .exact .inl rfl
theorem VQ{y:Str}{ps:List D}{ys:List Str}(hy:y.length<=1000)(hs:BR y)(hp:∀p∈ps,IG p)(e:CB (ps.map (CS y))=some ys):(ys.map (·.length)).sum<=ps.length*1000:=by
 have hl:=VX e;rw[An] at hl;rw[<-hl];refine ABq λz hz=>VZ (P:=λz=>z.length<=1000) e (λs hs'=>?_) z hz;rw[BC] at hs';obtain⟨p,hp',e⟩:=hs';rcases NP hy hs (hp p hp') with h|⟨t,h,ht⟩
 .rw[h] at e;cases e
 .rw[h] at e;cases e;exact ht
theorem XA{Q:ALM}{L:AD}{y:Str}{ps:List D}(hy:y.length<=1000)(hs:BR y)(hp:∀p∈ps,IG p)(hl:ps.length<=1000)(h:Q (Fj y ps) L):W2 (zo [.tup ps,.str y] L) Q:=by
 unfold zo;refine By rfl ?_;unfold Ov;rfl';refine Mw (λρ=>∃a,ρ=[a,some (.str y)]) (λx=>some (CS y x)) _ _ ⟨none,rfl⟩ (by omega) ?_ ?_
 .rintro x hx ρ ⟨a,rfl⟩;rfl';refine⟨⟨_,rfl⟩,λacc=>?_⟩;rfl';refine⟨rfl,?_⟩;rfl';refine XC hy hs (hp x hx) ?_;exact⟨rfl,rfl⟩
 have ef:AKO (λx=>some (CS y x)) ps=ps.map (CS y):=by rw[<-List.filterMap_eq_map];rfl
 rw[ef]
 have hk:∀d∈ps.map (CS y),d=.non\/∃t,d=.str t:=λd hd=>by
  rw[BC] at hd;obtain⟨p,hp',rfl⟩:=hd;rcases NP hy hs (hp p hp') with e|⟨t,e,_⟩
  .exact .inl e
  .exact .inr ⟨t,e⟩
 have hfl:(BO .non&&(ps.map (CS y)).all BO)=true:=by rw[CJ,CW];refine⟨rfl,λd hd=>?_⟩;rcases hk d hd with rfl|⟨t,rfl⟩ <;> rfl
 rfl';refine AF9 As hfl ?_;rw[SV hk];unfold Fj at h
 cases e:CB (ps.map (CS y)) with
 |none =>
  rw[e] at h;rfl';refine Sy rfl ?_;rfl';exact⟨rfl,BB _ _,h⟩
 |some ys =>
  rw[e] at h;rfl';refine Kt rfl ?_;rfl';have hsum:=VQ hy hs hp e;have e0:(Str.ofString "").length=0:=rfl;refine AF8 As e (by rw[e0];omega) ?_;exact⟨rfl,BB _ _,h⟩
def Fy(ws:List Str)(d:D):Prop:=(∃w∈ws,d=.tup [.str "word",.str w])\/(∃(deed:Str) (p q:D),d=.tup [.str deed,p,q]/\MP deed/\ES p/\ES q)
theorem Fy.piece{ws:List Str}{d:D}(hw:Gv ws)(h:Fy ws d):IG d:=by
 rcases h with⟨w,hm,rfl⟩|h
 .exact .inl ⟨w,rfl,(hw.2.1 w hm).1,(hw.2.1 w hm).2.2,(hw.2.1 w hm).2.1⟩
 .exact .inr h
theorem AE8{Q:ALM}{L:AD}{k:Nat}{ws:List Str}(c:Int)(hk:L[k]?=some (.lst (ws.map D.str)))(hw:Gv ws)(q:∀p,Fy ws p->Q p L):W2 (zj1 [.int c,.ref k] L) Q:=by
 unfold zj1;refine By rfl ?_;refine CK (λρ L'=>L'=L/\ρ=[some (.int c),some (.ref k),none]) ?_ ?_
 .rfl';refine Bs (λh7=>?_) (λh7=>?_)
  .rfl';refine Bs (λhl=>?_) (λhl=>?_)
   .rfl';refine Ht _ hk (by omega) (Int.le_refl _) λd hd=>?_;rw[BC] at hd;obtain⟨w,hm,rfl⟩:=hd;rfl';exact⟨rfl,Ac _,q _ (.inl ⟨w,hm,rfl⟩)⟩
   .rfl';exact⟨rfl,rfl⟩
  .rfl';exact⟨rfl,rfl⟩
 rintro ρ L' ⟨rfl,rfl⟩;rfl';refine Ht _ As (by decide) (by decide) λd hd=>?_
 have hd':∃m:Str,d=.str m/\MP m:=by
  simp only[Ae,EH,or_false] at hd;rcases hd with rfl|rfl|rfl|rfl
  .exact⟨_,rfl,.inl rfl⟩
  .exact⟨_,rfl,.inr (.inl rfl)⟩
  .exact⟨_,rfl,.inr (.inr rfl)⟩
  .exact⟨_,rfl,.inl rfl⟩
 obtain⟨m,rfl,hm⟩:=hd';rfl';refine XB _ λp1 hp1=>?_;rfl';refine XB _ λp2 hp2=>?_;rfl';have hP:Fy ws (.tup [.str m,p1,p2]):=.inr ⟨m,p1,p2,rfl,hm,hp1,hp2⟩;exact⟨(hP.piece hw).noRef,by wtm_at "z_pf",q _ hP⟩
def Ic(ts:List Str):Prop:=∀y∈ts,BR y/\y.length<=100
def JQ(ts:List Str)(d:D):Prop:=∀y∈ts,∃t,CS y d=.str t
def Il(deed:Str):D:=.tup [.str deed,.tup [.str "any",.int 1,.str "ahead"],.tup [.str "any",.int (-1),.str "behind"]]
theorem AHY:ES (.tup [.str "any",.int 1,.str "ahead"]):=⟨"any",1,"ahead",rfl,.inl rfl,.inl rfl,by decide⟩
theorem AHX:ES (.tup [.str "any",.int (-1),.str "behind"]):=⟨"any",-1,"behind",rfl,.inr (.inr (.inl rfl)),.inr rfl,by decide⟩
theorem Wi(y:Str):nums (λi=>Ec "any" (sg y i)) y.cps.size=(List.range y.cps.size).map λ(i:Nat)=>(i:Int):=by
 unfold nums;rw[<-List.filterMap_eq_map];apply Lv;intro i _;have:Ec "any" (sg y i)=true:=by simp[Ec]
 simp only[this,if_true];rfl
theorem AAv{deed y:Str}(hd:MP deed)(hy:y≠""):∃t,CS y (Il deed)=.str t:=by
 have hpos:0<y.cps.size:=Vc hy
 have e1:Df (.tup [.str "any",.int 1,.str "ahead"]) y=.int 0:=by
  simp only[LP,Wi];unfold Hr;rw[if_neg (by simp;omega)]
  have:atI ((List.range y.cps.size).map λ(i:Nat)=>(i:Int)) (if (1:Int)>0 then 1-1 else 1)=some 0:=by have:=Eh (xs:=(List.range y.cps.size).map λ(i:Nat)=>(i:Int)) (j:=0) (v:=0) (by simp[AKD,hpos]);simpa using this
  rw[this];have:decide (("ahead":Str) = "behind")=false:=by decide
  simp[this]
 have e2:Df (.tup [.str "any",.int (-1),.str "behind"]) y=.int (y.cps.size:Int):=by
  simp only[LP,Wi];unfold Hr;rw[if_neg (by simp;omega)]
  have:atI ((List.range y.cps.size).map λ(i:Nat)=>(i:Int)) (if (-1:Int)>0 then -1-1 else -1)=some ((y.cps.size:Int)-1):=by
   have hs:y.cps.size=(y.cps.size-1)+1:=by omega
   rw[hs,AKP,Dz];have:=AHS ((List.range (y.cps.size-1)).map λ(i:Nat)=>(i:Int)) (((y.cps.size-1:Nat):Int));simp only[Am,AJ2];rw[if_neg (by decide),this]
   congr 1
   omega
  rw[this];have:decide (("behind":Str) = "behind")=true:=by decide
  simp
 unfold Il;simp only[LX,e1,e2];exact⟨_,by rw[if_neg (by omega)]⟩
theorem ZS{ts:List Str}{d:D}(ht:Ic ts)(hp:IG d):(CB (ts.map λy=>CS y d)).isNone=false↔JQ ts d:=by
 induction ts with
 |nil=>simp[CB,JQ]
 |cons y r ih =>
  have ih:=ih λz hz=>ht z (BQ _ hz);have hy:=ht y BW;rw[Am];rcases NP (by omega) hy.1 hp with e|⟨t,e,_⟩
  .rw[e];simp only[CB,Option.isNone_none,Bool.true_eq_false,false_iff];intro h;obtain⟨t,h⟩:=h y BW;rw[e] at h;cases h
  .rw[e];simp only[CB,Option.isNone_map,ih];constructor
   .intro h z hz;rcases Ae.mp hz with rfl|hz
    .exact⟨t,e⟩
    .exact h z hz
   .exact λh z hz=>h z (BQ _ hz)
theorem AFC{Q:ALM}{L:AD}{k t:Nat}{ws ts:List Str}(c:Int)(hk:L[k]?=some (.lst (ws.map D.str)))(htx:L[t]?=some (.lst (ts.map D.str)))(hw:Gv ws)(ht:Ic ts)(hl:ts.length<=1000)
  (hne:ws≠[]\/∀y∈ts,y≠"") (q:∀p,Fy ws p->JQ ts p->Q p L):W2 (zl1 [.int c,.ref k,.ref t] L) Q:=by
 unfold zl1;refine By rfl ?_;unfold PX;have wordAns:∀w:Str,JQ ts (.tup [.str "word",.str w]):=λw y _=>⟨w,rfl⟩;rfl';refine AE8 _ hk hw λp hp=>?_;rcases hp with⟨w,hm,rfl⟩|⟨deed,p1,p2,rfl,hd,hp1,hp2⟩
 .rfl';exact⟨rfl,Ac _,q _ (.inl ⟨w,hm,rfl⟩) (wordAns w)⟩
 have hnw:deed≠"word":=by rcases hd with rfl|rfl|rfl <;> decide
 rfl';have hW:(D.tup [D.str deed,D.tup [D.str "any",D.int 1,D.str "ahead"],D.tup [D.str "any",D.int (-1),D.str "behind"]])=Il deed:=rfl
 have hin:∀x∈[D.tup [.str deed,p1,p2],.tup [.str deed,p2,p1],Il deed],Fy ws x:=λx hx=>by
  simp only[Ae,EH,or_false] at hx;rcases hx with rfl|rfl|rfl
  .exact .inr ⟨deed,p1,p2,rfl,hd,hp1,hp2⟩
  .exact .inr ⟨deed,p2,p1,rfl,hd,hp2,hp1⟩
  .exact .inr ⟨deed,_,_,rfl,hd,AHY,AHX⟩
 rw[hW];generalize hxs:[D.tup [.str deed,p1,p2],.tup [.str deed,p2,p1],Il deed]=xs at hin ⊢;have hlast:xs[2]?=some (Il deed):=by rw[<-hxs];rfl
 have hlen:xs.length=3:=by rw[<-hxs];rfl
 refine Da (λj ρ L'=>L++[Ob.lst xs] <+: L'/\(3<=j->∃y∈ts,y = "")/\∃a:Option D,ρ=[some (.int c),some (.ref k),some (.ref t),some (.tup [.str deed,p1,p2]),some (Il deed),a]) _ 0 _ _ ⟨Ac _,λh=>by omega,none,rfl⟩ ?_ ?_
 .rintro i x ρ L' hx ⟨hpre,_,a,rfl⟩;have hxp:=hin x (Cd hx);have hxi:=hxp.piece hw;have htx':=Dt hpre (Aj (M:=[Ob.lst xs]) htx);refine⟨decide_eq_true (Dt hpre As),?_⟩;rfl';have hfin:∀p:Prop,p->p:=λ_ h=>h
  have comp:W1 (Dl (λL''=>decide (L''[t]?=some (Ob.lst (ts.map D.str)))) (Az 0) Ds (AQ zf (AB (AA 1) (AB (AA 0) AI))) L'.length (ts.map D.str) [none,some x] (L'++[Ob.lst []])) (λL2=>L2=L'++[Ob.lst (ts.map λy=>CS y x)]):=by
   refine Ho (I:=λj ρ L2=>(∃a,ρ=[a,some x])/\L2=L'++[Ob.lst ((ts.take j).map λy=>CS y x)]) _ 0 _ _ ⟨⟨none,rfl⟩,rfl⟩ ?_ ?_
   .rintro i2 z ρ L2 hz ⟨⟨a,rfl⟩,rfl⟩;rw[BH] at hz
    cases hy:ts[i2]? with
    |none=>rw[hy] at hz;cases hz
    |some y =>
     rw[hy] at hz;cases hz;have hyt:=ht y (Cd hy);have hi2:i2<ts.length:=(BY.mp hy).1;have htk:ts.take (0+i2+1)=ts.take (0+i2)++[y]:=by rw[CI,AJ5,hy];rfl
     refine⟨decide_eq_true (Aj htx'),?_⟩;rfl';refine XC (by omega) hyt.1 hxi ?_;refine⟨_,As,by simp;omega,⟨_,rfl⟩,?_⟩;rw[htk];simp
   .rintro ρ L2 ⟨_,rfl⟩;refine⟨decide_eq_true (Aj htx'),?_⟩;simp
  obtain⟨L2,ec,rfl⟩:=comp;refine⟨_,ec,?_⟩
  have hk2:∀d∈ts.map (λy=>CS y x),d=.non\/∃t,d=.str t:=λd hd=>by
   rw[BC] at hd;obtain⟨y,hy,rfl⟩:=hd;rcases NP (by have:=ht y hy;omega) (ht y hy).1 hxi with e|⟨t,e,_⟩
   .exact .inl e
   .exact .inr ⟨t,e⟩
  have hfl:(BO .non&&(ts.map (λy=>CS y x)).all BO)=true:=by rw[CJ,CW];refine⟨rfl,λd hd=>?_⟩;rcases hk2 d hd with rfl|⟨t,rfl⟩ <;> rfl
  refine Nm As hfl ?_;rw[SV hk2];rfl';refine IB (λh=>?_) (λh=>?_)
  .rfl';refine⟨hpre.trans (BB _ _),λh3=>?_,_,rfl⟩;have:i=2:=by have:=(BY.mp hx).1;omega
   subst this;rw[hlast] at hx;cases hx;refine Classical.byContradiction λhno=>?_;have:JQ ts (Il deed):=λy hy=>AAv hd λe=>hno ⟨y,hy,e⟩;rw[(ZS ht hxi).mpr this] at h;cases h
  .rfl';exact⟨hxi.noRef,(BB _ _).trans (hpre.trans (BB _ _)),q _ hxp ((ZS ht hxi).mp h)⟩
 .rintro ρ L' ⟨hpre,h3,a,rfl⟩;have hk':=Dt hpre (Aj (M:=[Ob.lst xs]) hk);refine⟨decide_eq_true (Dt hpre As),?_⟩
  have hwne:ws≠[]:=by
   rcases hne with h|h
   .exact h
   .obtain⟨y,hy,e⟩:=h3 (by omega);exact absurd e (h y hy)
  have hwl:0<ws.length:=List.length_pos_iff.mpr hwne;have hwl':(((ws.map D.str).length:Nat):Int)=ws.length:=by simp
  rfl';refine Ht _ hk' (by omega) (Int.le_refl _) λd hd=>?_;rw[BC] at hd;obtain⟨w,hm,rfl⟩:=hd;rfl';exact⟨rfl,(BB _ _).trans hpre,q _ (.inl ⟨w,hm,rfl⟩) (wordAns w)⟩
def TU(ws ts:List Str)(ps:List D):Prop:=(∀p∈ps,Fy ws p)/\(∀p∈ps,JQ ts p)/\0<ps.length/\ps.length<=3
theorem Ru:∀{ps:List D},(∀p∈ps,p.noRef=true)->D.noRefL ps=true
 |[],_=>rfl
 |p::ps,h=>by rw[D.noRefL,h p BW,Ru λq hq=>h q (BQ _ hq)];rfl
theorem AE7{Q:ALM}{L:AD}{k t:Nat}{ws ts:List Str}(c:Int)(hk:L[k]?=some (.lst (ws.map D.str)))(htx:L[t]?=some (.lst (ts.map D.str)))(hw:Gv ws)(ht:Ic ts)(hl:ts.length<=1000)
  (hne:ws≠[]\/∀y∈ts,y≠"") (q:∀ps,TU ws ts ps->Q (.tup ps) L):W2 (zm1 [.int c,.ref k,.ref t] L) Q:=by
 unfold zm1;refine By rfl ?_;unfold PL;have hm:=HG c (b:=3) (by decide);have hm':=HH c (b:=3) (by decide);have hkl:k<L.length:=(BY.mp hk).1;have htl:t<L.length:=(BY.mp htx).1;rfl';refine Da (λj ρ L'=>∃(ps:List D) (p:Int) (a b:Option D),ρ=[some (.int c),some (.ref k),some (.ref t),some (.ref L.length),some (.int p),a,b]/\L'=L++[Ob.lst ps]/\(∀p∈ps,Fy ws p)/\(∀p∈ps,JQ ts p)/\ps.length=j) _ 0 _ _ ⟨[],_,none,none,rfl,rfl,λ_ h=>(nomatch h),λ_ h=>(nomatch h),rfl⟩ ?_ ?_
 .rintro i x ρ L' hx ⟨ps,p,a,b,rfl,rfl,h1,h2,h3⟩;obtain⟨hi,rfl⟩:=NI hx;refine⟨rfl,?_⟩;rfl';refine AFC _ (Aj hk) (Aj htx) hw ht hl hne λd hd1 hd2=>?_
  have hnn:IQ d=false:=by rcases hd1 with⟨w,_,rfl⟩|⟨_,_,_,rfl,_⟩ <;> rfl
  rfl';refine Kt hnn ?_;rfl';refine Hy As (by omega) ?_;rfl';refine⟨ps++[d],_,_,_,rfl,by simp,λr hr=>?_,λr hr=>?_,by simp;omega⟩
  .rcases DB.mp hr with h|h
   .exact h1 r h
   .have:r=d:=by simpa using h
    rw[this];exact hd1
  .rcases DB.mp hr with h|h
   .exact h2 r h
   .have:r=d:=by simpa using h
    rw[this];exact hd2
 .rintro ρ L' ⟨ps,p,a,b,rfl,rfl,h1,h2,h3⟩;refine⟨rfl,?_⟩;rw[IL] at h3;rfl';have hR:TU ws ts ps:=⟨h1,h2,by omega,by omega⟩;refine⟨?_,BB _ _,q ps hR⟩;rw[D.noRef];exact Ru λp hp=>((h1 p hp).piece hw).noRef
theorem AB0(x:Str)(n:Int)(h:0<=n):((Txt.slice x none (some n)).length:Int)<=n:=by
 have hs:∀k:Nat,(Builtin.Str.strSliceIndices none (some (k:Int)) 1 x.length).length<=k:=λk=>by
  unfold Builtin.Str.strSliceIndices sliceRange;simp only[show(1:Int)>0 by decide,if_true,An,AKs]
  split <;> (try split) <;> (try simp only[Int.ediv_one]) <;> omega
 have hn:((n.toNat:Nat):Int)=n:=by omega
 rw[<-hn];have:=hs n.toNat;unfold Txt.slice;split
 .rename_i h;simp only[CJ,beq_iff_eq] at h;omega
 .show(((AKO _ (Builtin.Str.strSliceIndices none (some (n.toNat:Int)) 1 x.length)).toArray.size:Nat):Int)<=_;rw[Bx];have:=List.length_filterMap_le (λx_1=>x.cps[x_1]?) (Builtin.Str.strSliceIndices none (some (n.toNat:Int)) 1 x.length);omega
theorem AAy{g:GF}{elt:EF}{L0:AD}{Q:AD->Prop}(P:Fm->Prop)(E:D->Prop){items:List D}{ρ:Fm}(hp:P ρ)(hz:items.length<=16777216)
  (h:∀x∈items,∀ρ,P ρ->W1 (g x ρ) λρ1=>P ρ1/\∀acc,W2 (elt ρ1 (L0++[.lst acc])) λd L2=>L2=L0++[.lst acc]/\E d)
  (q:∀ds:List D,ds.length=items.length->(∀d∈ds,E d)->Q (L0++[.lst ds])):W1 (Dl (λ_=>true) g Ds elt L0.length items ρ (L0++[.lst []])) Q:=by
 refine Ho (I:=λj ρ L=>P ρ/\∃ds:List D,ds.length=j/\(∀d∈ds,E d)/\L=L0++[.lst ds]) items 0 ρ _ ⟨hp,[],rfl,λd hd=>(nomatch hd),rfl⟩ ?_ ?_
 .rintro i x ρ L e ⟨hp,ds,hl,hE,rfl⟩;refine⟨rfl,?_⟩;have hi:i<items.length:=(BY.mp e).1;obtain⟨ρ1,e1,hp1,h2⟩:=h x (Cd e) ρ hp;obtain⟨d,L2,e3,rfl,q⟩:=h2 ds;refine⟨ρ1,e1,true,_,rfl,d,_,e3,ds,by simp,by omega,hp1,ds++[d],by simp;omega,λz hz=>?_,by simp⟩;rcases DB.mp hz with h|h
  .exact hE z h
  .have:z=d:=by simpa using h
   rw[this];exact q
 .rintro ρ L ⟨_,ds,hl,hE,rfl⟩;exact⟨rfl,q ds (by omega) hE⟩
theorem AE6{Q:ALM}{L:AD}{ns:List Int}(hb:∀z∈ns,Builtin.Int.intBits z<=1048576)(hn:ns.length<=63)(st most:Int)(h0:0<=st)(h1:st<=20)(h2:0<=most)(h3:most<=24)
  (q:∀ts L',ts.Nodup->Ic ts->0<ts.length->ts.length<=6->∀k,L <+: L'->L'[k]?=some (.lst (ts.map D.str))->Q (.ref k) L'):W2 (zo1 [.fz (ns.map .int),.int st,.int most] L) Q:=by
 unfold zo1;refine HJ rfl ?_;unfold Oj;have hlen:((ns.map D.int).length:Int)=ns.length:=by simp
 refine CK (λρ L'=>L'=L/\∃c:Int,0<=c/\ρ=[some (.fz (ns.map .int)),some (.int st),some (.int most),some (.int c),none,none,none,none,none,none,none,none]) ?_ ?_
 .rfl';exact JJ hb hn h0 (by omega) λc hc1 hc2=>⟨rfl,c,hc1,rfl⟩
 rintro ρ L' ⟨rfl,c,hc1,rfl⟩;have c3:=HG c (b:=3) (by decide);have c3':=HH c (b:=3) (by decide);refine LK (Mv (RG (RF (RG (Us rfl (RF (Xy rfl (AGD ?_))))))));refine CK (λρ L2=>L2=L'/\∃m n:Int,0<=m/\m<=24/\1<=n/\n<=6/\ρ=[some (.fz (ns.map .int)),some (.int st),some (.int m),some (.int c),some (.int n),none,none,none,none,none,none,none]) ?_ ?_
 .rfl';refine Bs (λh=>?_) (λh=>?_)
  .rfl';exact⟨rfl,_,_,by split <;> omega,by split <;> omega,by omega,by omega,rfl⟩
  .rfl';exact⟨rfl,_,_,h2,h3,by omega,by omega,rfl⟩
 rintro ρ L' ⟨rfl,m,n,hm0,hm1,hn1,hn6,rfl⟩;refine CK (λρ L1=>L1=L'++[Ob.lst (AJm n.toNat (D.str ""))]/\ρ=[some (.fz (ns.map .int)),some (.int st),some (.int m),some (.int c),some (.int n),some (.ref L'.length),none,none,none,none,none,none]) ?_ ?_
 .rfl';refine Mw (λρ=>∃a,ρ=[a]) (λ_=>some (D.str "")) _ _ ⟨none,rfl⟩ (by rw[IL];omega) ?_ ?_
  .rintro x hx ρ ⟨a,rfl⟩;rfl';refine⟨⟨_,rfl⟩,λacc=>?_⟩;rfl';refine⟨rfl,?_⟩;rfl';exact⟨rfl,rfl⟩
  .have e:AKO (λ_=>some (D.str "")) (FV 0 n.toNat)=AJm n.toNat (D.str ""):=by
    have:∀l:List D,AKO (λ_=>some (D.str "")) l=AJm l.length (D.str ""):=λl=>by
     induction l with
     |nil=>rfl
     |cons x r ih=>rw[AKI,ih];rfl
    rw[this,IL]
   rw[e];exact⟨rfl,rfl⟩
 rintro ρ L1 ⟨rfl,rfl⟩;refine CK (λρ L1=>L' <+: L1/\∃(sm:Str) (rows:List Str),BR sm/\0<sm.length/\sm.length<=20/\L1[L'.length]?=some (.lst (rows.map D.str))/\rows.length=n.toNat/\(∀y∈rows,y = "")/\ρ=[some (.fz (ns.map .int)),some (.int st),some (.int m),some (.int c),some (.int n),some (.ref L'.length),some (.str sm),none,none,none,none,none]) ?_ ?_
 .rfl';refine Ht _ As (by decide) (by decide) λd hd=>?_
  have hd':∃s:Str,d=.str s/\BR s/\0<s.length/\s.length<=20:=by simp only[Ae,EH,or_false] at hd;rcases hd with rfl|rfl|rfl|rfl <;> exact⟨_,rfl,by decide +kernel,by decide +kernel,by decide +kernel⟩
  obtain⟨sm,rfl,e1,e2,e3⟩:=hd';refine⟨by wtm_at "z_pf",sm,AJm n.toNat "",e1,e2,e3,?_,by simp,λy hy=>List.eq_of_mem_replicate hy,rfl⟩;rw[List.map_replicate];exact Aj As
 rintro ρ L1 ⟨hpre,sm,rows,hs1,hs2,hs3,hg,hrl,hre,rfl⟩
 -- the rows,filled
 refine CK (λρ L2=>L' <+: L2/\∃(r:Nat) (rows:List Str) (a b e:Option D),L2[r]?=some (.lst (rows.map D.str))/\rows.length=n.toNat/\Ic rows/\L'.length<=r/\ρ=[some (.fz (ns.map .int)),some (.int st),some (.int m),some (.int c),some (.int n),some (.ref r),some (.str sm),a,b,e,none,none]) ?_ ?_
 .rfl';refine Bs (λh=>?_) (λh=>?_)
  .rfl';refine AAy (λρ=>∃a,ρ=[a,some (.int m),some (.fz (ns.map .int)),some (.int st)]) (λd=>∃s:Str,d=.str s/\BR s/\s.length<=100) ⟨none,rfl⟩ (by rw[IL];omega) ?_ ?_
   .rintro x hx ρ ⟨a,rfl⟩;obtain⟨i,hi,rfl⟩:=ACW hx;rfl';refine⟨⟨_,rfl⟩,λacc=>?_⟩;rfl';refine JJ hb hn (by omega) (by omega) λv hv1 hv2=>?_;rfl';refine Wx _ _ hm0 (by omega) λt ht1 ht2=>?_;exact⟨rfl,t,rfl,ht1,by omega⟩
   .intro ds hd hE;rw[IL] at hd;obtain⟨ys,_,e3⟩:=VV λd hd=>let ⟨s,a,_⟩:=hE d hd;⟨s,a⟩;refine⟨hpre.trans (BB _ _),L1.length,ys,none,none,none,by rw[<-e3];exact As,by rw[<-hd,e3];simp,λy hy=>?_,hpre.length_le,rfl⟩;obtain⟨s,a,b,c⟩:=hE (.str y) (by rw[e3];exact Cj hy);cases a;exact⟨b,c⟩
  .rfl';refine Gk (La (by omega)) ?_;have hmn:0<=m*n/\m*n<=24*6:=⟨Int.mul_nonneg hm0 (by omega),Int.mul_le_mul hm1 hn6 (by omega) (by omega)⟩;rfl'
   generalize hN:((if st+1+m*n<((List.map D.int ns).length:Int) then st+1+m*n else ((List.map D.int ns).length:Int))-(st+1)).toNat=CA
   have hcnt:CA<=63:=by rw[<-hN];split <;> omega
   clear hN hmn;refine Da (λj ρ L2=>L' <+: L2/\∃(rows:List Str) (a b e:Option D),L2[L'.length]?=some (.lst (rows.map D.str))/\rows.length=n.toNat/\(∀y∈rows,BR y/\y.length<=j)/\ρ=[some (.fz (ns.map .int)),some (.int st),some (.int m),some (.int c),some (.int n),some (.ref L'.length),some (.str sm),a,b,e,none,none]) _ 0 _ _ ⟨hpre,rows,none,none,none,hg,hrl,λy hy=>by rw[hre y hy];exact⟨by decide,by decide⟩,rfl⟩ ?_ ?_
   .rintro i x ρ L2 hx ⟨hpre2,rows,a,b,e,hg2,hrl2,hr2,rfl⟩;obtain⟨hi,rfl⟩:=NI hx;refine⟨rfl,?_⟩;rfl';refine JJ hb hn (by omega) (by omega) λv hv1 hv2=>?_;rfl';obtain⟨sg0,hk1,hk2⟩:=OC (xs:=sm.cps.toList) (n:=(sm.length:Int)) v (by omega) (by simp[Str.length]);refine Sc hk2 ?_;rfl';obtain⟨d,hd,ed⟩:=OC (xs:=rows.map D.str) (n:=n) (st+1+(i:Int)) (by omega) (by simp;omega);rw[BC] at hd;obtain⟨y,hy,rfl⟩:=hd;refine DV hg2 ed ?_;rfl';have hone:(⟨#[sg0]⟩:Str).length=1:=rfl;have hy2:=hr2 y hy;refine No (by rw[hone];omega) ?_;rfl';have a0:=HG (st+1+(i:Int)) (b:=n) (by omega);have a1:=HH (st+1+(i:Int)) (b:=n) (by omega)
    have hix:ixN (rows.map D.str).length ((st+1+(i:Int)) % n)=some ((st+1+(i:Int)) % n).toNat:=by unfold ixN;rw[if_pos a0,if_pos (by simp;omega)]
    refine Xw hg2 hix ?_;refine⟨NL hpre2 (Al _),rows.set ((st+1+(i:Int)) % n).toNat (y++⟨#[sg0]⟩),_,_,_,?_,by simp[hrl2],λz hz=>?_,rfl⟩
    .rw[Dh hg2,List.map_set]
    .rcases List.mem_or_eq_of_mem_set hz with h|h
     .have:=hr2 z h;exact⟨this.1,by omega⟩
     .rw[h];exact⟨hy2.1.app (.one (hs1 _ hk1)),by rw[OH,hone];omega⟩
   .rintro ρ L2 ⟨hpre2,rows,a,b,e,hg2,hrl2,hr2,rfl⟩;rw[IL] at hr2;refine⟨rfl,hpre2,_,rows,_,_,_,hg2,hrl2,λy hy=>?_,Al _,rfl⟩;have:=hr2 y hy;exact⟨this.1,by omega⟩
 clear hg hrl hre hpre rows;rintro ρ L2 ⟨hpre,r,rows,a,b,e,hg,hrl,hr,hrL,rfl⟩;refine CK (λρ L3=>L' <+: L3/\∃(rows:List Str),L3[r]?=some (.lst (rows.map D.str))/\rows.length=n.toNat/\Ic rows/\ρ=[some (.fz (ns.map .int)),some (.int st),some (.int m),some (.int c),some (.int n),some (.ref r),some (.str sm),a,b,e,none,none]) ?_ ?_
 .rfl';refine Bs (λh=>?_) (λh=>?_)
  .rfl';have hsl:=Txt.slice_le sm none (some (1+c / 768 % 2));refine AF7 ?_ ?_
   .unfold KR;simp only[CJ,decide_eq_true_eq];have e24:(24:Int).toNat=24:=rfl;rw[e24];refine⟨⟨by decide,by decide⟩,?_⟩;omega
   rfl'
   have hix:ixN (rows.map D.str).length 0=some 0:=by unfold ixN;rw[if_pos (by decide),if_pos (by simp;omega)];rfl
   refine Xw hg hix ?_;refine⟨NL hpre hrL,rows.set 0 (Txt.slice (Txt.mul (Txt.slice sm none (some (1+c / 768 % 2))) 24) none (some 24)),?_,by simp[hrl],λz hz=>?_,rfl⟩
   .rw[Dh hg,List.map_set]
   .rcases List.mem_or_eq_of_mem_set hz with h|h
    .exact hr z h
    .rw[h];refine⟨((hs1.slice _ _).mul _).slice _ _,?_⟩;have:=AB0 (Txt.mul (Txt.slice sm none (some (1+c / 768 % 2))) 24) 24 (by decide);omega
  .rfl';exact⟨hpre,rows,hg,hrl,hr,rfl⟩
 clear hg hrl hr hpre rows;rintro ρ L3 ⟨hpre,rows,hg,hrl,hr,rfl⟩;rfl';have hrlt:r<L3.length:=(BY.mp hg).1;refine Da (λj ρ L4=>∃(ts:List Str) (z:Option D),L4=L3++[Ob.lst (ts.map D.str)]/\ts.Nodup/\Ic ts/\ts.length<=j/\(0<j->0<ts.length)/\ρ=[some (.fz (ns.map .int)),some (.int st),some (.int m),some (.int c),some (.int n),some (.ref r),some (.str sm),a,b,e,some (.ref L3.length),z]) _ 0 _ _ ⟨[],none,rfl,Hj,λ_ h=>(nomatch h),Al _,λh=>absurd h (by decide),rfl⟩ ?_ ?_
 .rintro i x ρ L4 hx ⟨ts,z,rfl,hnd,hts,hl,hp,rfl⟩;rw[BH] at hx
  cases hy:rows[i]? with
  |none=>rw[hy] at hx;cases hx
  |some y =>
   rw[hy] at hx;cases hx;have hyr:=hr y (Cd hy);have hil:=(BY.mp hy).1;refine⟨decide_eq_true (Aj hg),?_⟩;rfl';refine Nm As (by rw[Nu];rfl) ?_;rw[Lg];rfl';refine Bs (λhm=>?_) (λhm=>?_)
   .rfl';exact⟨ts,_,rfl,hnd,hts,by omega,λ_=>List.length_pos_of_mem hm,rfl⟩
   .rfl';refine Hy As (by simp;omega) ?_;refine⟨ts++[y],_,by simp,?_,λw hw=>?_,by simp;omega,λ_=>by simp,rfl⟩
    .rw[Hl];refine⟨hnd,by simp,λa ha b hb=>?_⟩;have:b=y:=by simpa using hb
     rw[this];rintro rfl;exact hm ha
    .rcases DB.mp hw with h|h
     .exact hts w h
     .have:w=y:=by simpa using h
      rw[this];exact hyr
 .rintro ρ L4 ⟨ts,z,rfl,hnd,hts,hl,hp,rfl⟩;refine⟨decide_eq_true (Aj hg),?_⟩;rw[An,hrl] at hl hp;rfl';exact⟨rfl,q ts _ hnd hts (hp (by omega)) (by omega) _ (hpre.trans (BB _ _)) As⟩
theorem XD{Q:ALM}{L:AD}{p:D}(hp:ES p)(h:Q (.bl true) L):W2 (zh1 [p] L) Q:=by
 obtain⟨kind,nth,edge,rfl,hn,he,hk⟩:=hp;unfold zh1;refine By rfl ?_;unfold QQ;rfl';refine Nl rfl ?_;have e1:Db (.int nth) [.int 1,.int 2,.int (-1),.int (-2)]=true:=by rcases hn with rfl|rfl|rfl|rfl <;> decide +kernel
 rw[e1];rfl';refine Nn rfl ?_
 have e2:Db (.str kind) [.str "small",.str "great",.str "figure",.str "mark",.str "any"]=true:=by simp only[Ae,EH,or_false] at hk;rcases hk with rfl|rfl|rfl|rfl|rfl <;> decide +kernel
 rw[e2];rfl';refine Nn rfl ?_;have e3:Db (.str edge) [.str "ahead",.str "behind"]=true:=by rcases he with rfl|rfl <;> decide +kernel
 rw[e3];exact⟨rfl,Ac _,h⟩
def JL(ws:List Str)(ps:List D):Prop:=(∀p∈ps,Fy ws p)/\0<ps.length/\ps.length<=3
theorem AFB{Q:ALM}{L:AD}{ws:List Str}{ps:List D}{k:Nat}(hk:L[k]?=some (.lst (ws.map D.str)))(hr:JL ws ps)(h:Q (.bl true) L):W2 (zc2 [.tup ps,.ref k] L) Q:=by
 unfold zc2;refine By rfl ?_;unfold QE;have hl1:(1:Int)<=(ps.length:Int):=by have:=hr.2.1;omega
 have hl3:(ps.length:Int)<=3:=by have:=hr.2.2;omega
 rfl';refine Da (λj ρ L'=>L'=L/\∃a,ρ=[some (.tup ps),some (.ref k),a]) _ 0 _ _ ⟨rfl,none,rfl⟩ ?_ ?_
 .rintro i x ρ L' hx ⟨rfl,a,rfl⟩;refine⟨rfl,?_⟩;rcases hr.1 x (Cd hx) with⟨w,hm,rfl⟩|⟨deed,p,q,rfl,hd,hp,hq⟩
  .rfl';refine Nm hk (by rw[Nu];rfl) ?_;rw[Lg,decide_eq_true hm];rfl';exact⟨rfl,_,rfl⟩
  .have hnw:deed≠"word":=by rcases hd with rfl|rfl|rfl <;> decide
   rfl';refine Nl rfl ?_;have e1:Db (.str deed) [.str "copy",.str "raise",.str "sink"]=true:=by rcases hd with rfl|rfl|rfl <;> decide +kernel
   rw[e1];rfl';refine XD hp ?_;rfl';refine XD hq ?_;rfl';exact⟨rfl,_,rfl⟩
 .rintro ρ L' ⟨rfl,a,rfl⟩;refine⟨rfl,?_⟩;rfl';exact⟨rfl,Ac _,h⟩
abbrev El:=List (Str×Str)
def Bi(e:Str×Str):D:=.tup [.str e.1,.str e.2]
def Ii(exs:El):Prop:=∀e∈exs,BR e.1/\e.1.length<=100/\e.2.length<=10000
def Ia(ps:List D)(exs:El):Bool:=exs.all λe=>decide (Fj e.1 ps=.str e.2)
theorem AGG{Q:ALM}{L:AD}{a b:D}(hs:Fi a b=true)(h:Q (.bl (!decide (a=b))) L):W2 (JE a b L) Q:=⟨_,_,by unfold JE;rw[if_pos hs],h⟩
theorem XE{Q:ALM}{L:AD}{ws:List Str}{ps:List D}{exs:El}{k e:Nat}(hk:L[k]?=some (.lst (ws.map D.str)))(he:L[e]?=some (.lst (exs.map Bi)))(hw:Gv ws)(hr:JL ws ps)(hx:Ii exs)(h:Q (.bl (Ia ps exs)) L):W2 (zq [.tup ps,.ref k,.ref e] L) Q:=by
 unfold zq;refine By rfl ?_;unfold Pu;rfl';refine AFB hk hr ?_;rfl';refine Da (λj ρ L'=>L'=L/\Ia ps (exs.take j)=true/\∃a b,ρ=[some (.tup ps),some (.ref k),some (.ref e),a,b]) _ 0 _ _ ⟨rfl,rfl,none,none,rfl⟩ ?_ ?_
 .rintro i x ρ L' hxi ⟨rfl,hf,a,b,rfl⟩;rw[BH] at hxi
  cases hy:exs[i]? with
  |none=>rw[hy] at hxi;cases hxi
  |some ex =>
   rw[hy] at hxi;cases hxi;have hxo:=hx ex (Cd hy);have htk:exs.take (0+i+1)=exs.take (0+i)++[ex]:=by rw[CI,AJ5,hy];rfl
   refine⟨decide_eq_true he,?_⟩;unfold Bi;rfl';refine XA (by omega) hxo.1 (λp hp=>(hr.1 p hp).piece hw) (by have:=hr.2.2;omega) ?_;rfl';refine AGG ?_ ?_
   .rcases ACU (y:=ex.1) (ps:=ps) with e|⟨t,e⟩ <;> rw[e] <;> rfl
   rfl';refine Bs (λhd=>?_) (λhd=>?_)
   .rfl';refine⟨rfl,?_,_,_,rfl⟩;rw[htk];unfold Ia at hf ⊢;rw[List.all_append,hf];simp[hd]
   .rfl';refine⟨rfl,Ac _,?_⟩
    have:Ia ps exs=false:=by unfold Ia;rw[List.all_eq_false];exact⟨ex,Cd hy,by simp[hd]⟩
    rw[this] at h;exact h
 .rintro ρ L' ⟨rfl,hf,a,b,rfl⟩;refine⟨decide_eq_true he,?_⟩;rw[CI,An,HD] at hf;rfl';rw[hf] at h;exact⟨rfl,Ac _,h⟩
theorem Va:∀{xs:List D},(∀x∈xs,∃t,x=D.str t)->∃ys,CB xs=some ys
 |[],_=>⟨[],rfl⟩
 |x::xs,h=>by
  obtain⟨t,rfl⟩:=h x BW;obtain⟨ys,e⟩:=Va λz hz=>h z (BQ _ hz);exact⟨t::ys,by simp[CB,e]⟩
theorem ACT{y:Str}{ps:List D}(hy:y.length<=1000)(hs:BR y)(hp:∀p∈ps,IG p)(ha:∀p∈ps,∃t,CS y p=.str t)(hl:ps.length<=3):∃a:Str,Fj y ps=.str a/\a.length<=3000:=by
 obtain⟨ys,e⟩:=Va (xs:=ps.map (CS y)) λx hx=>by
  rw[BC] at hx;obtain⟨p,hp',rfl⟩:=hx;exact ha p hp'
 have hsum:=VQ hy hs hp e;refine⟨Txt.join "" ys,by unfold Fj;rw[e],?_⟩;have:=join_len "" ys;have e0:(Str.ofString "").length=0:=rfl;rw[e0] at this;have:ps.length*1000<=3*1000:=AJ3 _ hl;omega
def Jy(ps:List D)(y:Str):Str:=match Fj y ps with|.str a=>a|_=>""
theorem Yi(xs:List D)(k:Nat):cutD xs none (some (k:Int))=xs.take k:=by
 unfold cutD;have e:HT.sIx xs.length 0 none=0:=rfl;rw[e,AKE,Nat.sub_zero,HT.AIo]
 by_cases h:k<=xs.length
 .rw[Nat.min_eq_left h]
 .rw[Nat.min_eq_right (by omega),HD,AKN (by omega)]
theorem AGv(xs:List D)(k:Nat):cutD xs (some (k:Int)) none=xs.drop k:=by
 unfold cutD;have e:HT.sIx xs.length xs.length none=xs.length:=rfl;rw[e,HT.AIo]
 by_cases h:k<=xs.length
 .rw[Nat.min_eq_left h,AKN (by simp)]
 .rw[Nat.min_eq_right (by omega),AKW,List.drop_of_length_le (by omega)];simp
theorem AFD{Q:ALM}{L:AD}{ts:List Str}{ps:List D}{t:Nat}(c:Int)(htx:L[t]?=some (.lst (ts.map D.str)))(ht:Ic ts)(hl:ts.length<=1000)(hp:∀p∈ps,IG p)(ha:∀p∈ps,JQ ts p)(hpl:ps.length<=3)
  (q:∀exs:El,exs.map Prod.fst=ts->Ii exs->∀k L',L <+: L'->L'[k]?=some (.lst (exs.map Bi))->Q (.ref k) L'):W2 (zn1 [.tup ps,.ref t,.int c] L) Q:=by
 have hans:∀y∈ts,Fj y ps=.str (Jy ps y)/\(Jy ps y).length<=3000:=λy hy=>by
  obtain⟨a,e,hl⟩:=ACT (by have:=ht y hy;omega) (ht y hy).1 hp (λp hp=>ha p hp y hy) hpl;have:Jy ps y=a:=by unfold Jy;rw[e]
  rw[this];exact⟨e,hl⟩
 unfold zn1;refine HJ rfl ?_;unfold Op;refine CK (λρ L'=>L'=L++[Ob.lst ((ts.map λy=>(y,Jy ps y)).map Bi)]/\ρ=[some (.tup ps),some (.ref t),some (.int c),some (.ref L.length),none,none,none,none]) ?_ ?_
 .rfl';refine Ho (I:=λj ρ L2=>(∃a,ρ=[a,some (.tup ps)])/\L2=L++[Ob.lst (((ts.take j).map λy=>(y,Jy ps y)).map Bi)]) _ 0 _ _ ⟨⟨none,rfl⟩,rfl⟩ ?_ ?_
  .rintro i2 z ρ L2 hz ⟨⟨a,rfl⟩,rfl⟩;rw[BH] at hz
   cases hy:ts[i2]? with
   |none=>rw[hy] at hz;cases hz
   |some y =>
    rw[hy] at hz;cases hz;have hym:=Cd hy;have hyt:=ht y hym;have hi2:i2<ts.length:=(BY.mp hy).1;have htk:ts.take (0+i2+1)=ts.take (0+i2)++[y]:=by rw[CI,AJ5,hy];rfl
    refine⟨decide_eq_true (Aj htx),?_⟩;rfl';refine XA (by omega) hyt.1 hp (by omega) ?_;rfl';refine⟨_,As,by simp;omega,⟨_,rfl⟩,?_⟩;rw[htk,(hans y hym).1];simp[Bi]
  .rintro ρ L2 ⟨_,rfl⟩;refine⟨decide_eq_true (Aj htx),?_⟩;rw[CI,An,HD];exact⟨rfl,rfl⟩
 rintro ρ L' ⟨rfl,rfl⟩;generalize hxs:(ts.map λy=>(y,Jy ps y))=exs;have hfst:exs.map Prod.fst=ts:=by rw[<-hxs,Cs];exact AKY ts
 have hok:∀e∈exs,BR e.1/\e.1.length<=100/\e.2.length<=3000:=λe he=>by
  rw[<-hxs,BC] at he;obtain⟨y,hy,rfl⟩:=he;exact⟨(ht y hy).1,(ht y hy).2,(hans y hy).2⟩
 have hok':Ii exs:=λe he=>⟨(hok e he).1,(hok e he).2.1,by have:=(hok e he).2.2;omega⟩;have hxl:exs.length<=1000:=by rw[<-hxs];simpa using hl
 refine CK (λρ L2=>∃(k:Nat) (exs:El) (a b e f:Option D),L <+: L2/\L2[k]?=some (.lst (exs.map Bi))/\exs.map Prod.fst=ts/\Ii exs/\ρ=[some (.tup ps),some (.ref t),some (.int c),some (.ref k),a,b,e,f]) ?_ ?_
 .have done:∀{p:Prop},p->p:=λh=>h;have keepIt:∃(k:Nat) (exs':El) (a b e f:Option D),L <+: (L++[Ob.lst (exs.map Bi)])/\(L++[Ob.lst (exs.map Bi)])[k]?=some (.lst (exs'.map Bi))/\exs'.map Prod.fst=ts/\Ii exs'/\[some (D.tup ps),some (.ref t),some (.int c),some (.ref L.length),none,none,none,none]=[some (.tup ps),some (.ref t),some (.int c),some (.ref k),a,b,e,f]:=⟨L.length,exs,none,none,none,none,BB _ _,As,hfst,hok',rfl⟩;rfl';refine Bs (λh1=>?_) (λh1=>?_)
  .rfl';refine Bs (λh2=>?_) (λh2=>?_)
   .have h2':0<exs.length:=by simpa using h2
    have hml:(((exs.map Bi).length:Nat):Int)=exs.length:=by simp
    rfl';have a0:=HG (c / 4) (b:=((exs.map Bi).length:Int)) (by omega);have a1:=HH (c / 4) (b:=((exs.map Bi).length:Int)) (by omega);generalize hat:(c / 4 % ((exs.map Bi).length:Int))=at0 at a0 a1 ⊢;obtain⟨n,rfl⟩:∃n:Nat,at0=(n:Int):=⟨at0.toNat,by omega⟩;have hlt:n<exs.length:=by omega
    obtain⟨ex,hex0⟩:∃ex,exs[n]?=some ex:=⟨exs[n],by simp[hlt]⟩
    have hsplit:exs=exs.take n++ex::exs.drop (n+1):=by obtain⟨h1,h2⟩:=BY.mp hex0;rw[<-h2,List.getElem_cons_drop,AKo]
    have ex0:atI (exs.map Bi) (n:Int)=some (Bi ex):=Eh (by rw[BH,hex0];rfl);have hex:=hok ex (Cd hex0);refine DV As ex0 ?_;rw[show Bi ex=D.tup [.str ex.1,.str ex.2] from rfl];rfl';have ha1:(Str.ofString "a").length=1:=by decide
    have s1:=Txt.slice_le (ex.2++"a") none (some 72);have s2:=Txt.slice_le ex.2 none (some (-1));have s3:=Txt.slice_le ex.2 (some 1) none;have s4:=Txt.slice_le ex.2 none (some 1);rw[OH,ha1] at s1;refine No (by rw[ha1];omega) ?_;rfl';refine No (by omega) ?_;rfl';refine Ht _ As (by decide) (by simp) λd hd=>?_
    have hd':∃o:Str,d=.str o/\o.length<=10000:=by
     simp only[Ae,EH,or_false] at hd;rcases hd with rfl|rfl|rfl|rfl
     .exact⟨_,rfl,by omega⟩
     .exact⟨_,rfl,by omega⟩
     .exact⟨_,rfl,by rw[OH];omega⟩
     .exact⟨_,rfl,by decide⟩
    obtain⟨o,rfl,ho⟩:=hd';rfl';rw[Yi];refine YC (by wtm_at "z_lk") As (by simp;omega) ?_;rfl';have en1:((n:Int)+1)=((n+1:Nat):Int):=by omega
    rw[en1,AGv];refine YC (by wtm_at "z_lk") As (by simp;omega) ?_;refine⟨_,exs.take n++(ex.1,o)::exs.drop (n+1),_,_,_,_,by wtm_at "z_pf",?_,?_,λe he=>?_,rfl⟩
    .rw[As];simp[Bi,List.map_take,List.map_drop]
    .rw[<-hfst]
     conv=>rhs;rw[hsplit]
     simp
    .rcases DB.mp he with h|h
     .exact hok' e (AKX h)
     .rcases Ae.mp h with rfl|h
      .exact⟨hex.1,hex.2.1,ho⟩
      .exact hok' e (List.mem_of_mem_drop h)
   .rfl';exact keepIt
  .rfl';exact keepIt
 .rintro ρ L2 ⟨k,exs,a,b,e,f,hpre,hg,h1,h2,rfl⟩;rfl';exact⟨rfl,q exs h1 h2 k L2 hpre hg⟩
theorem AE9{Q:ALM}{L:AD}{ns:List Int}(hb:∀z∈ns,Builtin.Int.intBits z<=1048576)(hn:ns.length<=63)
  (q:∀(ws:List Str) (ps:List D) (exs:El) L' kw ke kk,Gv ws->JL ws ps->Ii exs->(exs.map Prod.fst).Nodup->exs.length<=6->L <+: L'->L'[kw]?=some (.lst (ws.map D.str))->L'[ke]?=some (.lst (exs.map Bi))->L'[kk]?=some (.lst [.ref kw,.tup ps,.ref ke])->Q (.ref kk) L') :
  W2 (zp1 [.fz (ns.map .int)] L) Q:=by
 unfold zp1;refine HJ rfl ?_;unfold Og;refine CK (λρ L'=>∃ws,Gv ws/\L <+: L'/\L'[L.length]?=some (.lst (ws.map D.str))/\ρ=[some (.fz (ns.map .int)),some (.ref L.length),none,none]) ?_ ?_
 .rfl';refine JJ hb hn (by decide) (by decide) λc hc1 hc2=>?_;rfl';exact AE5 _ λws L' h1 h2 h3=>⟨ws,h1,h2,h3,rfl⟩
 rintro ρ L1 ⟨ws,hws,hpre1,hkw,rfl⟩;have hwl:(((ws.map D.str).length:Nat):Int)=ws.length:=by simp
 refine CK (λρ L'=>∃(ts:List Str) (kt:Nat),Ic ts/\ts.Nodup/\ts.length<=6/\(ws≠[]\/∀y∈ts,y≠"")/\L1 <+: L'/\L'[kt]?=some (.lst (ts.map D.str))/\ρ=[some (.fz (ns.map .int)),some (.ref L.length),some (.ref kt),none]) ?_ ?_
 .rfl';refine AE6 hb hn 4 10 (by decide) (by decide) (by decide) (by decide) λts L2 hnd hts hl0 hl6 k hpre hg=>?_;have hkw2:=Dt hpre hkw;rfl';refine Ho (I:=λj ρ L3=>(∃a,ρ=[a,some (.ref L.length)])/\L3=L2++[Ob.lst (((ts.take j).filter λ(y:Str)=>decide (y≠("":Str)) || decide (ws≠[])).map D.str)]) _ 0 _ _ ⟨⟨none,rfl⟩,rfl⟩ ?_ ?_
  .rintro i2 z ρ L3 hz ⟨⟨a,rfl⟩,rfl⟩;rw[BH] at hz
   cases hy:ts[i2]? with
   |none=>rw[hy] at hz;cases hz
   |some y =>
    rw[hy] at hz;cases hz;have hi2:i2<ts.length:=(BY.mp hy).1;have htk:ts.take (0+i2+1)=ts.take (0+i2)++[y]:=by rw[CI,AJ5,hy];rfl
    refine⟨decide_eq_true (Aj hg),?_⟩;have hfl:((ts.take (0+i2)).filter λ(y:Str)=>decide (y≠("":Str)) || decide (ws≠[])).length<16777216:=Nat.lt_of_le_of_lt (List.length_filter_le _ _) (by simp;omega);rfl';refine Bs (λh1=>?_) (λh1=>?_)
    .rfl';refine Bs (λh2=>?_) (λh2=>?_)
     .rfl';refine⟨_,As,by simpa using hfl,⟨_,rfl⟩,?_⟩;have hw':ws≠[]:=by rintro rfl;simp at h2
      rw[htk,List.filter_append];simp[hw']
     .rfl';refine⟨⟨_,rfl⟩,?_⟩
      have hw':ws=[]:=by
       rcases ws with _|⟨x,r⟩
       .rfl
       .exfalso;apply h2;simp
      rw[htk,List.filter_append];simp[hw',h1]
    .rfl';refine⟨_,As,by simpa using hfl,⟨_,rfl⟩,?_⟩;rw[htk,List.filter_append];simp[h1]
  .rintro ρ L3 ⟨_,rfl⟩;refine⟨decide_eq_true (Aj hg),?_⟩;rw[CI,An,HD];refine⟨ts.filter λ(y:Str)=>decide (y≠("":Str)) || decide (ws≠[]),L2.length,λy hy=>hts y (AKd.mp hy).1,hnd.filter _,DA (List.length_filter_le _ _) hl6,?_,hpre.trans (BB _ _),As,rfl⟩
   by_cases hw:ws=[]
   .refine .inr λy hy=>?_;have:=(AKd.mp hy).2;simpa[hw] using this
   .exact .inl hw
 rintro ρ L2 ⟨ts,kt,hts,hnd,hl6,hne,hpre2,hkt,rfl⟩;have hkw2:=Dt hpre2 hkw;refine CK (λρ L'=>L'=L2/\∃ps,TU ws ts ps/\ρ=[some (.fz (ns.map .int)),some (.ref L.length),some (.ref kt),some (.tup ps)]) ?_ ?_
 .rfl';refine JJ hb hn (by decide) (by decide) λc hc1 hc2=>?_;rfl';exact AE7 _ hkw2 hkt hws hts (by omega) hne λps hps=>⟨rfl,ps,hps,rfl⟩
 rintro ρ L3 ⟨rfl,ps,hps,rfl⟩;rfl';refine JJ hb hn (by decide) (by decide) λc hc1 hc2=>?_;rfl';refine AFD _ hkt hts (by omega) (λp hp=>(hps.1 p hp).piece hws) hps.2.1 hps.2.2.2 λexs he1 he2 ke L4 hpre4 hke=>?_;rfl';refine⟨rfl,q ws ps exs _ L.length ke _ hws ⟨hps.1,hps.2.2⟩ he2 (by rw[he1];exact hnd) ?_ ((hpre1.trans hpre2).trans (hpre4.trans (BB _ _))) (Aj (Dt hpre4 hkw2)) (Aj hke) As⟩;have:=congrArg List.length he1;simp at this;omega
def SI:List D:=[.str "small",.str "great",.str "figure",.str "mark",.str "any"]
def Ny:List D:=[.str "ahead",.str "behind"]
def p1(k:D):List D:=[D.int 1,.int 2,.int (-1),.int (-2)].flatMap λn=>Ny.flatMap λe=>[D.tup [k,n,e]]
def DP:List D:=SI.flatMap p1
theorem Rf:∀p∈DP,ES p:=by
 intro p hp;simp only[DP,p1,SI,Ny,EW,Ae,EH,or_false] at hp;obtain⟨k,hk,n,hn,e,he,rfl⟩:=hp
 have h1:∃s:Str,k=.str s/\s∈([("small":Str),"great","figure","mark","any"]:List Str):=by rcases hk with rfl|rfl|rfl|rfl|rfl <;> exact⟨_,rfl,by decide +kernel⟩
 have h2:∃i:Int,n=.int i/\ML i:=by
  rcases hn with rfl|rfl|rfl|rfl
  .exact⟨_,rfl,.inl rfl⟩
  .exact⟨_,rfl,.inr (.inl rfl)⟩
  .exact⟨_,rfl,.inr (.inr (.inl rfl))⟩
  .exact⟨_,rfl,.inr (.inr (.inr rfl))⟩
 have h3:∃s:Str,e=.str s/\(s = "ahead"\/s = "behind"):=by
  clear hk hn h1 h2;rcases he with rfl|rfl
  .exact⟨_,rfl,.inl rfl⟩
  .exact⟨_,rfl,.inr rfl⟩
 obtain⟨s,rfl,hs⟩:=h1;obtain⟨i,rfl,hi⟩:=h2;obtain⟨e,rfl,he'⟩:=h3;exact⟨s,i,e,rfl,hi,he',hs⟩
theorem Re:DP.length=40:=by decide +kernel
theorem AHa{Q:ALM}{L:AD}(h:∀L',L'[L.length]?=some (.lst DP)->L <+: L'->Q (.ref L.length) L'):W2 (zr1 [] L) Q:=by
 unfold zr1;refine HJ rfl ?_;simp only[Qc,JU,JT,JS];rfl';refine RD (λρ=>∃a b c,ρ=[some (.ref L.length),a,b,c]) L.length 8 40 p1 As ⟨none,none,none,rfl⟩ (λx _=>Al _) (by decide) ?_ ?_
 .rintro x hx ρ L1 acc1 ⟨a,b,c,rfl⟩ hkp hl hB;refine⟨rfl,?_⟩;rfl';refine RD (λρ=>∃b c,ρ=[some (.ref L.length),some x,b,c]) L.length 2 48 (λn=>Ny.flatMap λe=>[D.tup [x,n,e]]) hl ⟨_,_,rfl⟩ (λx _=>Al _) (by show acc1.length+8<=48;omega) ?_ ?_
  .rintro n hn ρ L2 acc2 ⟨b,c,rfl⟩ hkp2 hl2 hB2;refine⟨rfl,?_⟩;rfl';refine RD (λρ=>∃c,ρ=[some (.ref L.length),some x,some n,c]) L.length 1 50 (λe=>[D.tup [x,n,e]]) hl2 ⟨_,rfl⟩ (λx _=>Al _) (by show acc2.length+2<=50;omega) ?_ ?_
   .rintro e he ρ L3 acc3 ⟨c,rfl⟩ hkp3 hl3 hB3;refine⟨rfl,?_⟩;rfl';refine Hy hl3 (by omega) ?_;exact⟨⟨_,rfl⟩,.set _ _ _,Dh hl3⟩
   .rintro ρ L3 ⟨c,rfl⟩ hkp3 hl3;exact⟨rfl,⟨_,_,rfl⟩,hkp3,hl3⟩
  .rintro ρ L2 ⟨b,c,rfl⟩ hkp2 hl2;exact⟨rfl,⟨_,_,_,rfl⟩,hkp2,hl2⟩
 .rintro ρ L1 ⟨a,b,c,rfl⟩ hkp hl;refine⟨rfl,?_⟩;rfl';exact⟨rfl,h _ hl (XU hkp)⟩
def BA(S:List Nat)(L L':AD):Prop:=L.length<=L'.length/\∀j,j<L.length->j∉S->L'[j]?=L[j]?
theorem BA.refl(S:List Nat)(L:AD):BA S L L:=⟨Al _,λ_ _ _=>rfl⟩
theorem BA.trans{S:List Nat}{L L1 L2:AD}(a:BA S L L1)(b:BA S L1 L2):BA S L L2:=⟨DA a.1 b.1,λj h1 h2=>by rw[b.2 j (DZ h1 a.1) h2,a.2 j h1 h2]⟩
theorem BA.app(S:List Nat)(L M:AD):BA S L (L++M):=⟨by simp,λj h _=>by rw[Fh h]⟩
theorem BA.set{S:List Nat}{L L1:AD}{k:Nat}{o:Ob}(h:BA S L L1)(hk:k∈S\/L.length<=k):BA S L (L1.set k o):=⟨by rw[AKB];exact h.1,λj h1 h2=>by
 rw[Em (λe=>by subst e;rcases hk with z|z;exact h2 z;omega),h.2 j h1 h2]⟩
theorem BA.step{S S':List Nat}{L L1 L2:AD}(a:BA S L L1)(b:BA S' L1 L2)(i:∀j∈S',j∈S\/L.length<=j):BA S L L2:=⟨DA a.1 b.1,λj h1 h2=>by
 rw[b.2 j (DZ h1 a.1) (λz=>by rcases i j z with q|q;exact h2 q;omega),a.2 j h1 h2]⟩
theorem BA.get{S:List Nat}{L L':AD}{j:Nat}{o:Ob}(h:BA S L L')(n:j∉S)(e:L[j]?=some o):L'[j]?=some o:=by rw[h.2 j (BY.mp e).1 n];exact e
theorem BA.pre{L L':AD}(h:BA [] L L'):L <+: L':=by rw[List.prefix_iff_getElem?];intro j hj;rw[h.2 j hj (by simp)];simp[hj]
theorem BA.of_pre{S:List Nat}{L L':AD}(h:L <+: L'):BA S L L':=by obtain⟨M,rfl⟩:=h;exact .app _ _ _
theorem BA.mono{S S':List Nat}{L L':AD}(h:BA S L L')(i:∀j∈S,j∈S'\/L.length<=j):BA S' L L':=⟨h.1,λj h1 h2=>h.2 j h1 λz=>by rcases i j z with q|q;exact h2 q;omega⟩
theorem CC{L L':AD}{j:Nat}{o:Ob}(h:L <+: L')(e:L[j]?=some o):L'[j]?=some o:=by obtain⟨M,rfl⟩:=h;exact Aj e
theorem Nj{L:AD}{j k:Nat}{a o o':Ob}(hj:L[j]?=some o)(hk:L[k]?=some o')(ne:o≠o'):(L.set j a)[k]?=some o':=by rw[Em (λe=>by subst e;rw[hj] at hk;exact ne (Option.some.inj hk))];exact hk
theorem DU{L:AD}{j:Nat}{o:Ob}(h:L[j]?=some o):j<L.length:=(BY.mp h).1
theorem Im{ok:AD->Bool}{g:GF}{elt:EF}{L0:AD}{Q:AD->Prop}(P:Fm->Prop)(f:D->D){items:List D}{ρ:Fm}(hok:∀acc,ok (L0++[.lst acc])=true)(hp:P ρ)(hz:items.length<=16777216)
  (h:∀x∈items,∀ρ,P ρ->W1 (g x ρ) λρ1=>P ρ1/\∀acc,W2 (elt ρ1 (L0++[.lst acc])) λd L2=>L2=L0++[.lst acc]/\d=f x)
  (q:Q (L0++[.lst (items.map f)])):W1 (Dl ok g Ds elt L0.length items ρ (L0++[.lst []])) Q:=by
 refine Ho (I:=λj ρ L=>P ρ/\L=L0++[.lst ((items.take j).map f)]) items 0 ρ _ ⟨hp,by simp⟩ ?_ ?_
 .rintro i x ρ L e ⟨hp,rfl⟩;refine⟨hok _,?_⟩;have hi:i<items.length:=(BY.mp e).1;obtain⟨ρ1,e1,hp1,h2⟩:=h x (Cd e) ρ hp;obtain⟨d,L2,e3,rfl,rfl⟩:=h2 ((items.take (0+i)).map f);refine⟨ρ1,e1,true,_,rfl,f x,_,e3,(items.take (0+i)).map f,by simp,by simp;omega,hp1,?_⟩;have ht:items.take (0+i+1)=items.take (0+i)++[x]:=by rw[CI,AJ5,e];rfl
  rw[ht,Dz];simp
 .rintro ρ L ⟨_,rfl⟩;exact⟨hok _,by simpa using q⟩
theorem Io{α:Type}{xs:List α}{i:Nat}{x:α}(h:xs[i]?=some x):xs.take (0+i+1)=xs.take (0+i)++[x]:=by rw[CI,AJ5,h];rfl
def FB(d:Str)(xs ys:List D):List D:=xs.flatMap λx=>ys.map λy=>.tup [.str d,x,y]
theorem Jv(d:Str)(xs ys:List D):(FB d xs ys).length=xs.length*ys.length:=by
 unfold FB
 induction xs with
 |nil=>simp
 |cons x xs ih=>rw[EY,Ck,ih,An,EX,AJu];omega
theorem AHH{Q:ALM}{L:AD}{d:Str}{a b:Nat}{xs ys:List D}(ha:L[a]?=some (.lst xs))(hb:L[b]?=some (.lst ys))(hz:xs.length*ys.length<=10000000)(hy:ys.length<=1000000)
  (h:∀L2,L <+: L2->L2[L.length]?=some (.lst (FB d xs ys))->Q (.ref L.length) L2):W2 (zx1 [.str d,.ref a,.ref b] L) Q:=by
 unfold zx1;refine HJ rfl ?_;unfold PK;have hal:=DU ha;have hbl:=DU hb;rfl';refine Da (λj ρ L'=>L <+: L'/\L'[L.length]?=some (.lst (FB d (xs.take j) ys))/\∃e,ρ=[some (.str d),some (.ref a),some (.ref b),some (.ref L.length),e]) _ 0 _ _ ⟨BB _ _,As,none,rfl⟩ ?_ ?_
 .rintro i x ρ L' hx ⟨hp,hl,e,rfl⟩;refine⟨decide_eq_true (CC hp ha),?_⟩;have hb':=CC hp hb;have hi:i<xs.length:=(BY.mp hx).1;rfl';refine Im (λρ=>∃e,ρ=[e,some (.str d),some x]) (λy=>.tup [.str d,x,y]) (λacc=>decide_eq_true (Aj hb')) ⟨_,rfl⟩ (by omega) ?_ ?_
  .rintro y hy ρ ⟨e,rfl⟩;rfl';refine⟨⟨_,rfl⟩,λacc=>?_⟩;rfl';exact⟨rfl,rfl⟩
  .rfl';have hll:=DU hl;refine Sf (Aj hl) As ?_ ?_
   .rw[Jv,An,HF];have h1:min (0+i) xs.length*ys.length<=xs.length*ys.length:=AJ6 (Nat.min_le_right _ _) (Al _);omega
   .rfl';refine⟨NL (hp.trans (BB _ _)) (Al _),?_,_,rfl⟩;rw[Dh (Aj hl),Io hx];unfold FB;rw[AJ7];simp
 .rintro ρ L' ⟨hp,hl,e,rfl⟩;refine⟨decide_eq_true (CC hp ha),?_⟩;rfl';refine⟨rfl,h _ hp ?_⟩;simpa using hl
def Hn(w:Str):D:=.tup [.str "word",.str w]
def Dw:List Str:=["copy","raise","sink"]
theorem NJ{kvs:List (NK×D)}{k:NK}{d:D}{ep:Nat}(h:k∉kvs.map (·.1)):Dq kvs k d=kvs++[(k,d)]/\epN kvs k ep=ep+1:=by
 have:(kvs.any λkv=>decide (kv.1=k))=false:=by rw[AKR];intro ha;obtain⟨x,hx,e⟩:=List.any_eq_true.mp ha;exact h (by rw[<-of_decide_eq_true e];exact Cj hx)
 unfold Dq epN;rw[this];exact⟨rfl,rfl⟩
theorem AFH{kvs:List (NK×D)}{k:NK}(h:k∉kvs.map (·.1)):CG kvs k=none:=by
 unfold CG;rw[AKp.mpr]
 .rfl
 .intro x hx hd;exact h (by rw[<-of_decide_eq_true hd];exact Cj hx)
theorem SE{kvs:List (NK×D)}{i:Nat}{k:NK}{d:D}(nd:(kvs.map (·.1)).Nodup)(h:kvs[i]?=some (k,d)):CG kvs k=some d:=by
 induction kvs generalizing i with
 |nil=>simp at h
 |cons x xs ih =>
  rw[Am,Hk] at nd;unfold CG
  cases i with
  |zero =>
   simp at h;subst h;simp
  |succ i =>
   have h':xs[i]?=some (k,d):=by simpa using h
   have hne:x.1≠k:=λe=>nd.1 (by rw[e];exact Cj (f:=λz:NK×D=>z.1) (Cd h'));rw[GH,decide_eq_false hne];exact ih nd.2 h'
def FD(L:AD)(r:Nat)(w:Int)(a:Nat)(kvs:List (NK×D))(ep:Nat):Prop:=L[r]?=some (.ins "Node" [("ways",.int w),("arms",.ref a)])/\L[a]?=some (.dt kvs ep)
theorem Rs{Q:ALM}{L:AD}{k:Nat}{w:Int}(hk:L[k]?=some (.ins "Node" []))(h:∀L2,FD L2 k w L.length [] 0->L2.length=L.length+1->BA [k] L L2->Q .non L2):W2 (zh [.ref k,.int w] L) Q:=by
 unfold zh;refine LL rfl ?_;unfold Qx;have hkl:=DU hk;rfl';have e1:(L.set k (.ins "Node" (FL "ways" (.int w) [])))[k]?=some (.ins "Node" [("ways",.int w)]):=Dh hk;refine Xv (Aj e1) rfl rfl ?_;rfl'
 have e2:(((L.set k (.ins "Node" (FL "ways" (.int w) [])))++[Ob.dt [] 0]).set k (.ins "Node" (FL "arms" (.ref (L.set k (.ins "Node" (FL "ways" (.int w) []))).length) [("ways",.int w)])))[k]?=some (.ins "Node" [("ways",.int w),("arms",.ref L.length)]):=by rw[Dh (Aj e1),AKB];rfl
 refine⟨λhp=>?_,h _ ⟨e2,?_⟩ (by simp) ?_⟩
 .have:=CC hp hk;rw[e2] at this;cases this
 .rw[Em (by omega)];have:=As (L:=L.set k (.ins "Node" (FL "ways" (.int w) []))) (a:=Ob.dt [] 0)
  rwa [AKB] at this
 .exact((((BA.refl _ _).set (.inl (by simp))).trans (.app _ _ _)).set (.inl (by simp)))
def NA(W:D)(g m nd nn rt:Nat):List (Str×D):=[("words",W),("groups",.ref g),("members",.ref m),("nodes",.ref nd),("node_numbers",.ref nn),("roots",.ref rt)]
def BM(d:D):NK:=(dNK d).getD []
theorem Le{d:D}(h:(dNK d).isSome=true):dNK d=some (BM d):=by
 unfold BM
 cases e:dNK d with
 |none=>rw[e] at h;cases h
 |some k=>rfl
theorem LZ{α β:Type}{f:α->β}:∀{l:List α},(l.map f).Nodup->∀{a b},a∈l->b∈l->f a=f b->a=b
 |[],_,_,_,h,_,_=>nomatch h
 |x::l,h,a,b,ha,hb,e=>by
  rw[Am,Hk] at h;rcases Ae.mp ha with ha'|ha'
  .rcases Ae.mp hb with hb'|hb'
   .rw[ha',hb']
   .exact absurd (by rw[<-ha',e];exact Cj hb') h.1
  .rcases Ae.mp hb with hb'|hb'
   .exact absurd (by rw[<-hb',<-e];exact Cj ha') h.1
   .exact LZ h.2 ha' hb' e
structure KD {κ:Type} (kd:κ->D):Prop where
 key:∀a,dNK (kd a)=some (BM (kd a))
 inj:∀a b,kd a=kd b->a=b
theorem KD.kf{κ:Type}{kd:κ->D}(K:KD kd){a b:κ}(h:BM (kd a)=BM (kd b)):a=b :=
 K.inj a b ((Kq (K.key a)).trans (by rw[h];exact(Kq (K.key b)).symm))
theorem KD.nk{κ:Type}{kd:κ->D}(K:KD kd)(a:κ):Eb (BM (kd a))=kd a:=(Kq (K.key a)).symm
def Ar(xs:List Str):D:=.tup (xs.map D.str)
def Eo(xs:List Int):D:=.tup (xs.map D.int)
theorem NX{α β:Type}{f:α->β}(hf:∀a b,f a=f b->a=b):∀{xs ys:List α},xs.map f=ys.map f->xs=ys
 |[],[],_=>rfl
 |[],_::_,h=>by cases h
 |_::_,[],h=>by cases h
 |x::xs,y::ys,h=>by
  rw[Am,Am] at h;have h1:=List.cons.inj h;rw[hf _ _ h1.1,NX hf h1.2]
theorem EM:KD Ar:=⟨λa=>Le (by
  unfold Ar;show(Gu (a.map D.str)).isSome=true
  induction a with
  |nil=>rfl
  |cons x a ih =>
   rw[Am];show((Kr (.str x)).bind λk=>(Gu (a.map D.str)).map (k::·)).isSome=true
   cases e:Gu (a.map D.str) with
   |none=>rw[e] at ih;cases ih
   |some y=>rfl),λa b h=>NX (λ_ _ e=>D.str.inj e) (D.tup.inj h)⟩
theorem Jl:KD Eo:=⟨λa=>Le (by
  unfold Eo;show(Gu (a.map D.int)).isSome=true
  induction a with
  |nil=>rfl
  |cons x a ih =>
   rw[Am];show((Kr (.int x)).bind λk=>(Gu (a.map D.int)).map (k::·)).isSome=true
   cases e:Gu (a.map D.int) with
   |none=>rw[e] at ih;cases ih
   |some y=>rfl),λa b h=>NX (λ_ _ e=>D.int.inj e) (D.tup.inj h)⟩
def Bk{κ:Type}[DecidableEq κ](c:List (κ×List D))(k:κ)(ds:List D):List (κ×List D):=if k∈c.map (·.1) then c.map (λe=>if e.1=k then (e.1,e.2++ds) else e) else c++[(k,ds)]
def Ef{κ:Type}[DecidableEq κ](c:List (κ×List D))(k:κ):Option (List D):=(c.find? λe=>decide (e.1=k)).map (·.2)
def cont{κ:Type}(es:List (κ×Nat×List D)):List (κ×List D):=es.map λe=>(e.1,e.2.2)
def Bl{κ:Type}(es:List (κ×Nat×List D)):List Nat:=es.map (·.2.1)
def Cu{κ:Type}(kd:κ->D)(es:List (κ×Nat×List D)):List (NK×D):=es.map λe=>(BM (kd e.1),D.ref e.2.1)
structure DL {κ:Type} (kd:κ->D) (L:AD) (g:Nat) (es:List (κ×Nat×List D)):Prop where
 at_:∃ep,L[g]?=some (.dt (Cu kd es) ep)
 it:∀e∈es,L[e.2.1]?=some (.lst e.2.2)
 nd:(Bl es).Nodup
 kn:(es.map (·.1)).Nodup
section
variable {κ:Type}[DecidableEq κ]{kd:κ->D}{L L':AD}{g:Nat}{es:List (κ×Nat×List D)}
theorem MA(es:List (κ×Nat×List D)):(cont es).map (·.1)=es.map (·.1):=by unfold cont;rw[Cs];rfl
theorem HZ{e:κ×Nat×List D}(h:e∈es):e.2.1∈Bl es:=Cj h
theorem DL.same(h:DL kd L g es)(hg:L'[g]?=L[g]?)(ha:∀q∈Bl es,L'[q]?=L[q]?):DL kd L' g es :=
 ⟨let ⟨ep,e⟩:=h.at_;⟨ep,hg.trans e⟩,λe he=>(ha _ (HZ he)).trans (h.it e he),h.nd,h.kn⟩
theorem DL.lt(h:DL kd L g es){q:Nat}(hq:q∈Bl es):q<L.length:=by obtain⟨e,he,rfl⟩:=BC.mp hq;exact DU (h.it e he)
theorem DL.glt(h:DL kd L g es):g<L.length:=by obtain⟨ep,e⟩:=h.at_;exact DU e
theorem DL.keep{S:List Nat}(h:DL kd L g es)(k:BA S L L')(hg:g∉S)(ha:∀q∈Bl es,q∉S):DL kd L' g es:=h.same (k.2 g h.glt hg) λq hq=>k.2 q (h.lt hq) (ha q hq)
theorem DL.pre(h:DL kd L g es)(p:L <+: L'):DL kd L' g es:=h.keep (S:=[]) (.of_pre p) (by simp) (by simp)
theorem Vw(K:KD kd):∀{es es':List (κ×Nat×List D)},Cu kd es=Cu kd es'->(∀e∈es,L[e.2.1]?=some (.lst e.2.2))->(∀e∈es',L[e.2.1]?=some (.lst e.2.2))->es=es'
 |[],[],_,_,_=>rfl
 |[],_::_,h,_,_=>by cases h
 |_::_,[],h,_,_=>by cases h
 |(k,q,ds)::es,(k',q',ds')::es',h,h1,h2=>by
  unfold Cu at h;rw[Am,Am] at h;have h0:=List.cons.inj h;have hk:=K.kf (congrArg Prod.fst h0.1);have hq:q=q':=by have:=congrArg Prod.snd h0.1;exact D.ref.inj this
  have a1:=h1 _ BW;have a2:=h2 _ BW;subst hk hq;rw[a1] at a2;have hd:ds=ds':=Ob.lst.inj (Option.some.inj a2);subst hd;rw[Vw K h0.2 (λe he=>h1 e (BQ _ he)) λe he=>h2 e (BQ _ he)]
theorem DL.uniq(K:KD kd){es':List (κ×Nat×List D)}(h:DL kd L g es)(h':DL kd L g es'):es=es':=by obtain⟨ep,e⟩:=h.at_;obtain⟨ep',e'⟩:=h'.at_;rw[e] at e';exact Vw K (Ob.dt.inj (Option.some.inj e')).1 h.it h'.it
theorem HU{β:Type}{es:List (κ×β)}{k:κ}(h:k∈es.map (·.1)):∃e,es.find? (λe=>decide (e.1=k))=some e/\e∈es/\e.1=k:=by
 cases hf:es.find? (λe=>decide (e.1=k)) with
 |none =>
  obtain⟨e,he,rfl⟩:=BC.mp h;have:=AKp.mp hf e he;simp at this
 |some e=>exact⟨e,rfl,AK2 hf,by have:=List.find?_some hf;simpa using this⟩
theorem AGW{β:Type}{es:List (κ×β)}{k:κ}(h:k∉es.map (·.1)):es.find? (λe=>decide (e.1=k))=none:=by rw[AKp];intro e he hd;exact h (by rw[<-of_decide_eq_true hd];exact Cj he)
theorem NY(K:KD kd)(es:List (κ×Nat×List D))(k:κ):CG (Cu kd es) (BM (kd k))=(es.find? λe=>decide (e.1=k)).map λe=>D.ref e.2.1:=by
 unfold CG Cu
 induction es with
 |nil=>rfl
 |cons e es ih =>
  rw[Am,GH,GH]
  by_cases h:e.1=k
  .subst h;simp
  .rw[decide_eq_false h,decide_eq_false (λz=>h (K.kf z))];exact ih
theorem AGx(es:List (κ×Nat×List D))(k:κ):(cont es).find? (λe=>decide (e.1=k))=(es.find? λe=>decide (e.1=k)).map λe=>(e.1,e.2.2):=by unfold cont;rw[List.find?_map];rfl
theorem DL.get(K:KD kd)(h:DL kd L g es){k:κ}{ds:List D}(e:Ef (cont es) k=some ds):∃q,CG (Cu kd es) (BM (kd k))=some (.ref q)/\L[q]?=some (.lst ds):=by
 unfold Ef at e;rw[AGx] at e;rw[NY K]
 cases hf:es.find? (λe=>decide (e.1=k)) with
 |none=>rw[hf] at e;cases e
 |some x =>
  rw[hf] at e;have e2:x.2.2=ds:=Option.some.inj e;exact⟨x.2.1,rfl,by rw[<-e2];exact h.it x (AK2 hf)⟩
theorem AFI(K:KD kd)(es:List (κ×Nat×List D))(k:κ):(CG (Cu kd es) (BM (kd k))).isSome=decide (k∈(cont es).map (·.1)):=by
 rw[NY K,MA]
 by_cases h:k∈es.map (·.1)
 .obtain⟨e,he,_⟩:=HU h;rw[he,decide_eq_true h];rfl
 .rw[AGW h,decide_eq_false h];rfl
theorem ZW(c:List (κ×List D)){k:κ}(h:k∈c.map (·.1)):Bk c k []=c:=by
 unfold Bk;rw[if_pos h]
 conv=>rhs;rw[<-AKY c]
 apply HE;intro e _
 by_cases z:e.1=k
 .rw[if_pos z];simp
 .rw[if_neg z];rfl
theorem ZX(c:List (κ×List D))(k:κ)(ds:List D):Bk (Bk c k []) k ds=Bk c k ds:=by
 by_cases h:k∈c.map (·.1)
 .rw[ZW c h]
 .have e1:Bk c k []=c++[(k,[])]:=by unfold Bk;rw[if_neg h]
  have e2:Bk c k ds=c++[(k,ds)]:=by unfold Bk;rw[if_neg h]
  rw[e1,e2];unfold Bk;rw[if_pos (by simp),Dz]
  congr 1
  .conv=>rhs;rw[<-AKY c]
   apply HE;intro e he;rw[if_neg (λz=>h (by rw[<-z];exact Cj he))];rfl
  .simp
theorem TM(c:List (κ×List D))(k:κ)(ds:List D):(Bk c k ds).map (·.1)=if k∈c.map (·.1) then c.map (·.1) else c.map (·.1)++[k]:=by
 unfold Bk
 by_cases h:k∈c.map (·.1)
 .rw[if_pos h,if_pos h,Cs];apply HE;intro e _
  show(if e.1=k then (e.1,e.2++ds) else e).1=e.1
  split <;> rfl
 .rw[if_neg h,if_neg h,Dz];rfl
theorem MJ{c:List (κ×List D)}{k:κ}{ds:List D}(h:(c.map (·.1)).Nodup):((Bk c k ds).map (·.1)).Nodup:=by
 rw[TM]
 by_cases z:k∈c.map (·.1)
 .rw[if_pos z];exact h
 .rw[if_neg z,Hl]
  exact⟨h,by simp,λa ha b hb e=>z (by have:b=k:=by simpa using hb
                                      rw[<-this,<-e];exact ha)⟩
theorem KA{c:List (κ×List D)}{k k':κ}{ds ps:List D}(h:(k',ps)∈Bk c k ds):(k',ps)∈c\/k'=k/\((ps=ds)\/∃qs,(k,qs)∈c/\ps=qs++ds):=by
 unfold Bk at h
 by_cases z:k∈c.map (·.1)
 .rw[if_pos z] at h;obtain⟨e,he,h⟩:=BC.mp h
  by_cases y:e.1=k
  .rw[if_pos y] at h;have h1:=congrArg Prod.fst h;have h2:=congrArg Prod.snd h;simp only at h1 h2;refine .inr ⟨by rw[<-h1,y],.inr ⟨e.2,?_,h2.symm⟩⟩;rw[<-y];exact he
  .rw[if_neg y] at h;rw[<-h];exact .inl he
 .rw[if_neg z] at h;rcases DB.mp h with h|h
  .exact .inl h
  .have h':(k',ps)=(k,ds):=by simpa using h
   cases h';exact .inr ⟨rfl,.inl rfl⟩
def ET(c:List (κ×List D))(n b:Nat):Prop:=c.length<=n/\∀e∈c,e.2.length<=b
theorem ET.add{c:List (κ×List D)}{n b m:Nat}{k:κ}{ds:List D}(h:ET c n b)(hd:ds.length<=m):ET (Bk c k ds) (n+1) (b+m):=by
 refine⟨?_,λ⟨k',ps⟩ he=>?_⟩
 .have:=congrArg List.length (TM c k ds);rw[An] at this;rw[this];have h1:=h.1;split
  .rw[An];omega
  .rw[Ck,An];simp;omega
 .rcases KA he with h'|⟨_,h'|⟨qs,h',h2⟩⟩
  .have:=h.2 _ h';simp only at this ⊢;omega
  .simp only;rw[h'];omega
  .have:=h.2 _ h';simp only at this ⊢;rw[h2,Ck];omega
theorem ET.mono{c:List (κ×List D)}{n b n' b':Nat}(h:ET c n b)(h1:n<=n')(h2:b<=b'):ET c n' b':=⟨DA h.1 h1,λe he=>DA (h.2 e he) h2⟩
theorem Ks(es:List (κ×Nat×List D)):(cont es).length=es.length:=by unfold cont;rw[An]
theorem Yb{Q:ALM}(K:KD kd){k:κ}{q:Nat}(h:DL kd L g es)(hz:es.length<16777216)(hq:L[q]?=some (.lst []))(hqn:q∉Bl es)
  (p:∀L2 q2 es2 old,DL kd L2 g es2->(k,q2,old)∈es2->cont es2=Bk (cont es) k []->(∀x∈Bl es2,x∈Bl es\/x=q)->BA [g] L L2->L2.length=L.length->Q (.ref q2) L2):W2 (IU (.ref g) [kd k,.ref q] L) Q:=by
 obtain⟨ep,ha⟩:=h.at_
 by_cases hk:k∈es.map (·.1)
 .obtain⟨e,hf,he,hek⟩:=HU hk;refine AF5 ha (K.key _) (d:=.ref e.2.1) (by rw[NY K,hf];rfl) ?_;refine p L e.2.1 es e.2.2 h (by rw[<-hek];exact he) ?_ (λx hx=>.inl hx) (.refl _ _) rfl;rw[ZW _ (by rw[MA];exact hk)]
 .have hnk:BM (kd k)∉(Cu kd es).map (·.1):=λz=>by
   unfold Cu at z;rw[Cs] at z;obtain⟨e,he,h2⟩:=BC.mp z;exact hk (by rw[<-K.kf h2];exact Cj he)
  refine AF6 ha (K.key _) (AFH hnk) (by unfold Cu;rw[An];exact hz) ?_;have hput:=λd ep=>NJ (d:=d) (ep:=ep) hnk;rw[(hput _ 0).1,(hput .non _).2];have hgq:g≠q:=λz=>by rw[z,hq] at ha;cases ha
  have er:Cu kd es++[(BM (kd k),D.ref q)]=Cu kd (es++[(k,q,[])]):=by unfold Cu;rw[Dz];rfl
  rw[er];refine p _ q (es++[(k,q,[])]) [] ⟨⟨_,Dh ha⟩,λe he=>?_,?_,?_⟩ (by simp) ?_ (λx hx=>?_) ((BA.refl _ _).set (.inl (by simp))) (by simp)
  .rcases DB.mp he with he|he
   .exact Nj ha (h.it e he) (by simp)
   .have:e=(k,q,[]):=by simpa using he
    subst this;exact FX hgq hq
  .unfold Bl;rw[Dz,Hl]
   exact⟨h.nd,by simp,λa ha b hb z=>hqn (by have:b=q:=by simpa using hb
                                            rw[<-this,<-z];exact ha)⟩
  .rw[Dz,Hl]
   exact⟨h.kn,by simp,λa ha b hb z=>hk (by have:b=k:=by simpa using hb
                                           rw[<-this,<-z];exact ha)⟩
  .unfold Bk;rw[MA,if_neg hk];unfold cont;rw[Dz];rfl
  .unfold Bl at hx;rw[Dz] at hx;rcases DB.mp hx with hx|hx
   .exact .inl hx
   .exact .inr (by simpa using hx)
theorem DL.grow{k:κ}{q:Nat}{old ds:List D}(h:DL kd L g es)(hm:(k,q,old)∈es):∃es2,DL kd (L.set q (.lst (old++ds))) g es2/\cont es2=Bk (cont es) k ds/\Bl es2=Bl es:=by
 obtain⟨ep,ha⟩:=h.at_;have hgq:q≠g:=λz=>by have:=h.it _ hm;simp only at this;rw[z,ha] at this;cases this
 have hraw:Cu kd (es.map λe=>if e.1=k then (e.1,e.2.1,e.2.2++ds) else e)=Cu kd es:=by
  unfold Cu;rw[Cs];apply HE;intro e _
  show(BM (kd (if e.1=k then (e.1,e.2.1,e.2.2++ds) else e).1),D.ref (if e.1=k then (e.1,e.2.1,e.2.2++ds) else e).2.1)=_
  split <;> rfl
 have hadr:Bl (es.map λe=>if e.1=k then (e.1,e.2.1,e.2.2++ds) else e)=Bl es:=by
  unfold Bl;rw[Cs];apply HE;intro e _
  show(if e.1=k then (e.1,e.2.1,e.2.2++ds) else e).2.1=_
  split <;> rfl
 refine⟨es.map λe=>if e.1=k then (e.1,e.2.1,e.2.2++ds) else e,⟨⟨ep,by rw[hraw];exact FX hgq ha⟩,λe he=>?_,by rw[hadr];exact h.nd,?_⟩,?_,hadr⟩
 .obtain⟨e0,he0,rfl⟩:=BC.mp he
  by_cases z:e0.1=k
  .rw[if_pos z];have:e0=(k,q,old):=LZ (f:=λe=>e.1) h.kn he0 hm z;subst this;exact Dh (h.it _ hm)
  .rw[if_neg z];refine FX (λy=>z ?_) (h.it e0 he0);have:(k,q,old)=e0:=LZ (l:=es) (f:=λe:κ×Nat×List D=>e.2.1) (show(es.map λe=>e.2.1).Nodup from h.nd) hm he0 y;rw[<-this]
 .rw[Cs]
  have:((λe:κ×Nat×List D=>e.1)∘λe=>if e.1=k then (e.1,e.2.1,e.2.2++ds) else e)=λe=>e.1:=by
   funext e
   show(if e.1=k then (e.1,e.2.1,e.2.2++ds) else e).1=e.1
   split <;> rfl
  rw[this];exact h.kn
 .unfold Bk;rw[if_pos (by rw[MA];exact Cj (f:=λe:κ×Nat×List D=>e.1) hm)];unfold cont;rw[Cs,Cs];apply HE;intro e _
  show((if e.1=k then (e.1,e.2.1,e.2.2++ds) else e).1,(if e.1=k then (e.1,e.2.1,e.2.2++ds) else e).2.2)=if e.1=k then (e.1,e.2.2++ds) else (e.1,e.2.2)
  split <;> rfl
end
theorem Lc{α β:Type}(f:α->β)(xs:List α)(i:Nat)(a:α)(b:β)(h:i<xs.length):(xs.map f)[i]?.getD b=f (xs.getD i a):=by simp[h]
theorem QH{xs ys:List Str}{i:Nat}{x:D}(hl:ys.length=xs.length)(h:(GI (xs.map D.str).length [xs.map D.str,ys.map D.str])[i]?=some x):i<xs.length/\x=.tup [.str (xs.getD i ""),.str (ys.getD i "")]:=by
 unfold GI at h;rw[BH,An] at h
 by_cases hi:i<xs.length
 .rw[AKD hi] at h;refine⟨hi,?_⟩;have h':=Option.some.inj h;rw[<-h'];simp only[Am,AJ2];rw[Lc D.str xs i "" .non hi,Lc D.str ys i "" .non (by omega)]
 .rw[AJw (by simp;omega)] at h;cases h
theorem Ml(n:Nat)(yss:List (List D)):(GI n yss).length=n:=by unfold GI;simp
def JB(as w:List Str):Bool:=(List.range as.length).all λi=>Gi (as.getD i "") (w.getD i "")
theorem AAu{Q:ALM}{L:AD}{as w:List Str}(hl:w.length=as.length)(hz:as.length<=1000)(h:Q (.bl (JB as w)) L):W2 (zv1 [Ar as,Ar w] L) Q:=by
 unfold zv1;refine By rfl ?_;unfold Pp Ar;rfl';refine⟨as.map D.str,[w.map D.str],rfl,⟨by simp[hl],by simp,rfl⟩,?_⟩
 refine Im (λρ=>∃e1 e2,ρ=[e1,e2]) (λx=>match x with|.tup [.str a,.str b]=>.bl (Gi a b)|_=>.non) (λacc=>decide_eq_true rfl) ⟨none,none,rfl⟩ (by rw[Ml,An];omega) ?_ ?_
 .rintro x hx ρ ⟨e1,e2,rfl⟩;obtain⟨i,hi,hx⟩:=AKV hx;obtain⟨hi2,rfl⟩:=QH hl (x:=x) (i:=i) (by rw[List.getElem?_eq_getElem hi,hx]);rfl';refine⟨⟨_,_,rfl⟩,λacc=>?_⟩;rfl';exact⟨rfl,rfl⟩
 .rfl'
  have e0:(GI (as.map D.str).length [as.map D.str,w.map D.str]).map (λx=>match x with|.tup [.str a,.str b]=>D.bl (Gi a b)|_=>.non)=((List.range as.length).map λi=>Gi (as.getD i "") (w.getD i "")).map D.bl:=by
   apply AKS;intro i;rw[BH,BH,BH]
   cases hx:(GI (as.map D.str).length [as.map D.str,w.map D.str])[i]? with
   |none =>
    have:as.length<=i:=by have:=AK1.mp hx;rw[Ml,An] at this;exact this
    rw[AJw (by simp;exact this)];rfl
   |some x =>
    obtain⟨hi2,rfl⟩:=QH hl hx;rw[AKD hi2];rfl
  rw[e0]
  have e2:∀l:List Bool,blsD (l.map D.bl)=some l:=λl=>by
   induction l with
   |nil=>rfl
   |cons x l ih=>rw[Am];simp[blsD,ih]
  refine YB As (e2 _) ?_;refine⟨rfl,BB _ _,?_⟩;rw[List.all_map];exact h
def Bo(w:List Str)(c:List (List Str×List D))(a:List Str×List D):List (List Str×List D):=if JB a.1 w=true then Bk c a.1 a.2 else c
theorem ZY{Q:ALM}{L:AD}{g p:Nat}{es:List (List Str×Nat×List D)}{as w:List Str}{ds:List D}(hg:DL Ar L g es)(hp:L[p]?=some (.lst ds))(hpn:p∉Bl es)(hl:w.length=as.length)(hn:as.length<=1000)
  (hz:es.length<16777216) (hb:∀e∈cont es,e.2.length+ds.length<=16777216) (hd:ds.length<=16777216)
  (h:∀L2 es2,DL Ar L2 g es2->cont es2=Bo w (cont es) (as,ds)->(∀x∈Bl es2,x∈Bl es\/L.length<=x)->BA (g::Bl es) L L2->Q .non L2):W2 (ze1 [.ref g,Ar w,Ar as,.ref p] L) Q:=by
 unfold ze1;refine LL rfl ?_;unfold Pc;obtain⟨ep0,hg0⟩:=hg.at_;rfl';refine AAu hl hn ?_
 by_cases hw:JB as w=true
 .rw[hw];rfl';refine Yb (q:=L.length) EM (hg.pre (BB _ _)) hz As (λz=>AJl _ (hg.lt z)) λL2 q2 es2 old h2 hm hc ha hk hlen=>?_;have hpl:=DU hp
  have hp2:L2[p]?=some (.lst ds):=hk.get (λz=>by
   have:p=g:=by simpa using z
   obtain⟨ep,e⟩:=hg.at_
   rw[<-this,hp] at e;cases e) (Aj hp)
  refine Ux (h2.it _ hm) ?_;rfl';refine Sf (h2.it _ hm) hp2 ?_ ?_
  .have:(as,old)∈cont es2:=Cj (f:=λe:List Str×Nat×List D=>(e.1,e.2.2)) hm;rw[hc] at this;rcases KA this with h'|⟨_,h'|⟨qs,h',h3⟩⟩
   .exact hb _ h'
   .rw[h'];simpa using hd
   .rw[h3];simpa using hb _ h'
  .rfl';obtain⟨es3,h3,hc3,ha3⟩:=h2.grow (ds:=ds) hm
   have hcc:cont es3=Bo w (cont es) (as,ds):=by rw[hc3,hc,ZX];unfold Bo;rw[if_pos hw]
   refine⟨λhpre=>?_,h _ es3 h3 hcc (λx hx=>?_) ?_⟩
   .have e:=DL.uniq EM (hg.pre hpre) h3;refine h L es hg ?_ (λx hx=>.inl hx) (.refl _ _);rw[<-hcc,<-e]
   .rw[ha3] at hx;rcases ha x hx with z|z
    .exact .inl z
    .exact .inr (AJz z.symm)
   .have k1:BA (g::Bl es) L L2:=(BA.app _ _ _).step hk λj hj=>.inl (by simp at hj;simp[hj]);refine k1.set ?_;rcases ha q2 (HZ hm) with z|z
    .exact .inl (BQ _ z)
    .exact .inr (AJz z.symm)
 .rw[Bool.not_eq_true] at hw;rw[hw];rfl';have hcc:cont es=Bo w (cont es) (as,ds):=by unfold Bo;rw[if_neg (by simp[hw])]
  exact⟨λ_=>h L es hg hcc (λx hx=>.inl hx) (.refl _ _),h L es hg hcc (λx hx=>.inl hx) (.refl _ _)⟩
theorem ABv{Q:ALM}{L:AD}{p:D}{y:Str}(hy:y.length<=1000)(hs:BR y)(hp:ES p)(h:Q (Df p y) L):W2 (zz [p,.str y] L) Q:=by
 obtain⟨kind,nth,edge,rfl,hn,he,_⟩:=hp;obtain⟨d,h1,h2⟩:=NE (λi=>Ec kind (sg y i)) y.cps.size hn (decide (edge = "behind"));simp only[LP,h1,AKt] at h;refine Vh hy ?_ h;rw[Wj hs];have e:(!decide (edge = "ahead"))=decide (edge = "behind"):=by rcases he with rfl|rfl <;> decide
 rw[e];exact h1
def OK(ts:List Str):Prop:=(∀y∈ts,BR y/\y.length<=100)/\ts.length<=100
def Er(ts:List Str)(p:D):Option (List Int):=Ee (ts.map λy=>Df p y)
theorem Lf:∀{xs:List D} {ys:List Int},Ee xs=some ys->xs=ys.map D.int
 |[],ys,h=>by cases h;rfl
 |x::xs,ys,h=>by
  cases x with
  |int s =>
   simp only[Ee] at h
   cases e:Ee xs with
   |none=>rw[e] at h;cases h
   |some a=>rw[e] at h;cases h;simp[<-Lf e]
  |_=>simp[Ee] at h
theorem Xh:∀{xs:List D},(∀d∈xs,d=.non\/∃t,d=.int t)->Db .non xs=(Ee xs).isNone
 |[],_=>rfl
 |x::xs,h=>by
  have ih:=Xh λd hd=>h d (BQ _ hd);rcases h x BW with rfl|⟨t,rfl⟩
  .rfl
  .have:Db .non (.int t::xs)=Db .non xs:=rfl;rw[this,ih];simp only[Ee];cases Ee xs <;> rfl
def CQ(ts:List Str)(c:List (List Int×List D))(p:D):List (List Int×List D):=match Er ts p with|some ks=>Bk c ks [p]|none=>c
def CD(ts:List Str):List (List Int×List D):=DP.foldl (CQ ts) []
theorem Rk{ts:List Str}:∀(ps:List D) {c:List (List Int×List D)} {n b:Nat},ET c n b->ET (ps.foldl (CQ ts) c) (n+ps.length) (b+ps.length)
 |[],c,n,b,h=>h
 |p::ps,c,n,b,h=>by
  have h1:ET (CQ ts c p) (n+1) (b+1):=by
   unfold CQ;split
   .exact h.add (by simp)
   .exact h.mono (by omega) (by omega)
  exact(Rk ps h1).mono (by simp;omega) (by simp;omega)
theorem MF{κ:Type}[DecidableEq κ]:ET ([]:List (κ×List D)) 0 0:=⟨Al _,(λ_ h=>(nomatch h))⟩
theorem Si{α β:Type}{f:β->α->β}{xs:List α}{i:Nat}{x:α}{b:β}(h:xs[i]?=some x):(xs.take (0+i+1)).foldl f b=f ((xs.take (0+i)).foldl f b) x:=by rw[Io h,List.foldl_append];rfl
theorem AHE{Q:ALM}{L:AD}{tx:Nat}{ts:List Str}(ht:L[tx]?=some (.lst (ts.map D.str)))(ok:OK ts)
  (h:∀L2 es,L <+: L2->DL Eo L2 L.length es->cont es=CD ts->(∀x∈Bl es,L.length<x)->Q (.ref L.length) L2):W2 (zu1 [.ref tx] L) Q:=by
 unfold zu1;refine HJ rfl ?_;unfold Pv;rfl';refine AHa λL1 h1 hp1=>?_;rfl';have hlen1:=DU h1;have ed1:L1[L.length]?=some (.dt [] 0):=CC hp1 As;have e0:(L++[Ob.dt [] 0]).length=L.length+1:=by simp
 have htl:=DU ht
 refine Da (λj ρ L'=>BA [L.length] L1 L'/\(∃e1 e2,ρ=[some (.ref tx),some (.ref L.length),e1,e2])/\∃es,DL Eo L' L.length es/\cont es=(DP.take j).foldl (CQ ts) []/\∀x∈Bl es,L1.length<=x) _ 0 _ _
  ⟨.refl _ _,⟨none,none,rfl⟩,[],⟨⟨0,ed1⟩,(λ_ h=>(nomatch h)),Hj,Hj⟩,rfl,(λ_ h=>(nomatch h))⟩ ?_ ?_
 .rintro i x ρ L' hx ⟨hk,⟨e1,e2,rfl⟩,es,hd,hc,ha⟩;refine⟨decide_eq_true (hk.get (by simp) h1),?_⟩;have ht1:L'[tx]?=some (.lst (ts.map D.str)):=hk.get (by simp;omega) (CC hp1 (Aj ht));have hpl:=Rf x (Cd hx);have hi:i<40:=by have:=(BY.mp hx).1;rw[Re] at this;exact this
  have hb:ET (cont es) 40 40:=by
   rw[hc];have:=Rk (ts:=ts) (DP.take (0+i)) MF;have hl:(DP.take (0+i)).length<=40:=by rw[HF,Re];omega
   exact this.mono (by omega) (by omega)
  rfl'
  refine Im (λρ=>∃e,ρ=[e,some x]) (λy=>match y with|.str s=>Df x s|_=>.non) (λacc=>decide_eq_true (Aj ht1)) ⟨_,rfl⟩ (by rw[An];have:=ok.2;omega) ?_ ?_
  .rintro y hy ρ ⟨e,rfl⟩;obtain⟨s,hs,rfl⟩:=BC.mp hy;rfl';refine⟨⟨_,rfl⟩,λacc=>?_⟩;rfl';refine ABv (by have:=(ok.1 s hs).2;omega) (ok.1 s hs).1 hpl ?_;exact⟨rfl,rfl⟩
  .have em:(ts.map D.str).map (λy=>match y with|.str s=>Df x s|_=>.non)=ts.map λy=>Df x y:=by rw[Cs];rfl
   rw[em]
   have hk2:∀d∈ts.map (λy=>Df x y),d=.non\/∃t,d=.int t:=λd hd=>by
    obtain⟨y,_,rfl⟩:=BC.mp hd;rcases JZ hpl y with e|⟨t,e,_⟩
    .exact .inl e
    .exact .inr ⟨t,e⟩
   rfl'
   refine Nl (by
    rw[CJ,CW];refine⟨rfl,λd hd=>?_⟩
    rcases hk2 d hd with rfl|⟨t,rfl⟩ <;> rfl) ?_
   rw[Xh hk2];have hf:=Si (f:=CQ ts) (b:=[]) hx
   cases e3:Ee (ts.map λy=>Df x y) with
   |none =>
    have e4:CQ ts ((DP.take (0+i)).foldl (CQ ts) []) x=(DP.take (0+i)).foldl (CQ ts) []:=by unfold CQ Er;rw[e3]
    rw[show(none:Option (List Int)).isNone=true from rfl];rfl';exact⟨hk.trans (.app _ _ _),⟨_,_,rfl⟩,es,hd.pre (BB _ _),by rw[hf,e4];exact hc,ha⟩
   |some ks =>
    have e4:CQ ts ((DP.take (0+i)).foldl (CQ ts) []) x=Bk ((DP.take (0+i)).foldl (CQ ts) []) ks [x]:=by unfold CQ Er;rw[e3]
    rw[show(some ks).isNone=false from rfl,Lf e3];obtain⟨epd,hd0⟩:=hd.at_;rfl';have hkl:=hk.1;refine Yb (k:=ks) (q:=(L'++[Ob.lst (ks.map D.int)]).length) Jl ((hd.pre (BB _ [Ob.lst (ks.map D.int)])).pre (BB _ _)) (by have:=hb.1;rw[Ks] at this;omega) As (λz=>by have:=hd.lt z;simp at this;omega) λL2 q2 es2 old h2 hm hcc haa hkk hlen=>?_;refine Ux (h2.it _ hm) ?_;rfl';refine Hy (h2.it _ hm) ?_ ?_
    .have:(ks,old)∈cont es2:=Cj (f:=λe:List Int×Nat×List D=>(e.1,e.2.2)) hm;rw[hcc] at this;have h9:old.length<=40+0:=(hb.add (m:=0) (ds:=[]) (k:=ks) (Al _)).2 _ this;show old.length<16777216;omega
    .rfl';obtain⟨es3,h3,hc3,ha3⟩:=h2.grow (ds:=[x]) hm;have kk:BA [L.length] L1 L2:=((hk.trans (.app _ _ _)).trans (.app _ _ _)).trans hkk
     have hq2:L1.length<=q2:=by
      rcases haa q2 (HZ hm) with z|z
      .exact ha q2 z
      .rw[z];simp;omega
     refine⟨kk.set (.inr hq2),⟨_,_,rfl⟩,es3,h3,?_,λy hy=>?_⟩
     .rw[hc3,hcc,ZX,hf,e4,hc]
     .rw[ha3] at hy;rcases haa y hy with z|z
      .exact ha y z
      .rw[z];simp;omega
 .rintro ρ L' ⟨hk,⟨e1,e2,rfl⟩,es,hd,hc,ha⟩;refine⟨decide_eq_true (hk.get (by simp) h1),?_⟩;rfl';refine⟨rfl,h _ es ?_ hd ?_ λx hx=>?_⟩
  .have:BA [L.length] (L++[Ob.dt [] 0]) L':=(BA.of_pre hp1).trans hk;exact BA.pre (((BA.app _ _ _).trans this).mono λj hj=>.inr (by simp at hj;omega))
  .rw[hc,CI,HD];rfl
  .have:=ha x hx;omega
def Fb(ts:List Str)(ss ee:List Int):Bool:=(List.range ts.length).all λi=>decide (ss.getD i 0<ee.getD i 0)
def Ey(ts:List Str)(ss ee:List Int)(n:Nat):List Str:=(List.range n).map λi=>Txt.slice (ts.getD i "") (some (ss.getD i 0)) (some (ee.getD i 0))
theorem AAZ{ts:List Str}{ss ee:List Int}{i:Nat}{x:D}(h1:ss.length=ts.length)(h2:ee.length=ts.length)(h:(GI (ts.map D.str).length [ts.map D.str,ss.map D.int,ee.map D.int])[i]?=some x):i<ts.length/\x=.tup [.str (ts.getD i ""),.int (ss.getD i 0),.int (ee.getD i 0)]:=by
 unfold GI at h;rw[BH,An] at h
 by_cases hi:i<ts.length
 .rw[AKD hi] at h;refine⟨hi,?_⟩;have h':=Option.some.inj h;rw[<-h'];simp only[Am,AJ2];rw[Lc D.str ts i "" .non hi,Lc D.int ss i 0 .non (by omega),Lc D.int ee i 0 .non (by omega)]
 .rw[AJw (by simp;omega)] at h;cases h
theorem ABs{Q:ALM}{L:AD}{tx:Nat}{ts:List Str}{ss ee:List Int}(ht:L[tx]?=some (.lst (ts.map D.str)))(hz:ts.length<=1000)(h1:ss.length=ts.length)(h2:ee.length=ts.length)
  (hn:Fb ts ss ee=false->Q .non L) (hy:Fb ts ss ee=true->Q (.ref L.length) (L++[.lst ((Ey ts ss ee ts.length).map D.str)])):W2 (zw1 [.ref tx,Eo ss,Eo ee] L) Q:=by
 unfold zw1;refine AA2 rfl ?_;unfold PQ Eo;rfl';have e0:∀M:AD,M[tx]?=some (.lst (ts.map D.str))->seqs [.ref tx,.tup (ss.map D.int),.tup (ee.map D.int)] M=some [ts.map D.str,ss.map D.int,ee.map D.int]:=λM hM=>by simp[seqs,DD,hM]
 refine⟨ts.map D.str,[ss.map D.int,ee.map D.int],e0 _ (Aj ht),⟨by simp[h1,h2],by simp,rfl⟩,?_⟩;refine Da (λj ρ L'=>L'=L++[.lst ((Ey ts ss ee j).map D.str)]/\(∀i,i<j->i<ts.length->ss.getD i 0<ee.getD i 0)/\∃e1 e2 e3,ρ=[some (.ref tx),some (.tup (ss.map D.int)),some (.tup (ee.map D.int)),some (.ref L.length),e1,e2,e3]) _ 0 _ _ ⟨rfl,λi hi=>(by omega),none,none,none,rfl⟩ ?_ ?_
 .rintro i x ρ L' hx ⟨rfl,hlt,e1,e2,e3,rfl⟩;refine⟨decide_eq_true (e0 _ (Aj ht)),?_⟩;obtain⟨hi,rfl⟩:=AAZ h1 h2 hx;rfl';refine Bs (λhge=>?_) (λhge=>?_)
  .rfl';refine⟨BB _ _,λ_=>hn ?_,λz=>by cases z⟩;rw[AKR];intro hall;unfold Fb at hall;have:=CW.mp hall i (Cr.mpr hi);have:=of_decide_eq_true this;omega
  .rfl';refine Hy As (by unfold Ey;simp;omega) ?_;rfl';refine⟨?_,λk hk hkt=>?_,_,_,_,rfl⟩
   .have:Ey ts ss ee (0+i+1)=Ey ts ss ee (0+i)++[Txt.slice (ts.getD i "") (some (ss.getD i 0)) (some (ee.getD i 0))]:=by
     unfold Ey;rw[AKP,Dz,CI];rfl
    rw[this,Dz];simp
   .by_cases z:k=i
    .subst z;omega
    .exact hlt k (by omega) hkt
 .rintro ρ L' ⟨rfl,hlt,e1,e2,e3,rfl⟩;refine⟨decide_eq_true (e0 _ (Aj ht)),?_⟩;rw[Ml,An,CI] at *;rfl';refine⟨BB _ _,(λz=>by cases z),λ_=>hy ?_⟩;unfold Fb;rw[CW];exact λi hi=>decide_eq_true (hlt i (Cr.mp hi) (Cr.mp hi))
theorem AGn{Q:ALM}{L:AD}{d y:Str}(hd:d∈Dw)(hs:BR y)(hl:y.length<=1000)(h:Q (.str (Ex d y)) L):W2 (zy1 [.str d,.str y] L) Q:=by
 unfold zy1;refine By rfl ?_;unfold Oy;unfold Ex at h;simp only[Dw,Ae,EH,or_false] at hd;rcases hd with rfl|rfl|rfl
 .rw[if_neg (by decide),if_neg (by decide)] at h;rfl';exact⟨rfl,Ac _,h⟩
 .rw[if_pos rfl] at h;rfl';refine Nk (by rw[RJ hs];omega) ?_;exact⟨rfl,Ac _,h⟩
 .rw[if_neg (by decide),if_pos rfl] at h;rfl';refine Nk (by rw[SA hs];omega) ?_;exact⟨rfl,Ac _,h⟩
def Cy(ws ts:List Str):List (List Str×List D):=ws.map λw=>(ts.map (λ_=>w),[Hn w])
def Gs(ts:List Str)(s e:List Int×List D)(d:Str):List Str×List D:=((Ey ts s.1 e.1 ts.length).map (Ex d),FB d s.2 e.2)
def Cv(ts:List Str)(s e:List Int×List D):List (List Str×List D):=if Fb ts s.1 e.1=true then Dw.map (Gs ts s e) else []
def FP(ts:List Str)(P:List (List Int×List D)):List (List Str×List D):=P.flatMap λs=>P.flatMap λe=>Cv ts s e
def CU(ws ts w:List Str):List (List Str×List D):=(Cy ws ts++FP ts (CD ts)).foldl (Bo w) []
theorem Ng{w:List Str}:∀(A:List (List Str×List D)) {c:List (List Str×List D)} {n b:Nat},ET c n b->(∀a∈A,a.2.length<=1600)->ET (A.foldl (Bo w) c) (n+A.length) (b+1600*A.length)
 |[],c,n,b,h,_=>h
 |a::A,c,n,b,h,hA=>by
  have h1:ET (Bo w c a) (n+1) (b+1600):=by
   unfold Bo;split
   .exact h.add (hA a BW)
   .exact h.mono (by omega) (by omega)
  exact(Ng A h1 λx hx=>hA x (BQ _ hx)).mono (by simp;omega) (by simp;omega)
theorem NO(ts:List Str):ET (CD ts) 40 40:=by have:=Rk (ts:=ts) DP MF;rw[Re] at this;exact this.mono (by omega) (by omega)
theorem WM{ts:List Str}:∀(ps:List D) {c:List (List Int×List D)},(∀e∈c,e.1.length=ts.length)->∀e∈ps.foldl (CQ ts) c,e.1.length=ts.length
 |[],c,h=>h
 |p::ps,c,h=>by
  refine WM ps ?_;unfold CQ
  cases e3:Er ts p with
  |none=>exact h
  |some ks =>
   rintro⟨k,qs⟩ he;rcases KA he with h'|⟨rfl,_⟩
   .exact h _ h'
   .have:=congrArg List.length (Lf e3);simpa using this.symm
theorem NN{ts:List Str}{e:List Int×List D}(h:e∈CD ts):e.1.length=ts.length:=WM DP (by simp) e h
theorem WX{ts:List Str}(s e:List Int×List D):(Cv ts s e).length<=3:=by
 unfold Cv;split
 .simp[Dw]
 .simp
theorem Nv{α β:Type}{f:α->List β}{m:Nat}:∀(l:List α),(∀x∈l,(f x).length<=m)->(l.flatMap f).length<=l.length*m
 |[],_=>by simp
 |x::l,h=>by
  rw[EY,Ck,EX,AJu];have h1:=h x BW;have h2:=Nv l λy hy=>h y (BQ _ hy);omega
theorem WW{ts:List Str}{P:List (List Int×List D)}(hP:ET P 40 40){s e:List Int×List D}(hs:s∈P)(he:e∈P):∀a∈Cv ts s e,a.2.length<=1600:=by
 intro a ha;unfold Cv at ha;split at ha
 .obtain⟨d,_,rfl⟩:=BC.mp ha;show(FB d s.2 e.2).length<=1600;rw[Jv];exact AJ6 (hP.2 s hs) (hP.2 e he)
 .cases ha
theorem SJ{κ:Type}{kd:κ->D}(K:KD kd)(es:List (κ×Nat×List D)):Gh (Cu kd es)=es.map λe=>kd e.1:=by unfold Gh Cu;rw[Cs];apply HE;intro e _;exact K.nk e.1
theorem DL.look_mem{κ:Type}[DecidableEq κ]{kd:κ->D}(K:KD kd){L:AD}{g:Nat}{es:List (κ×Nat×List D)}(h:DL kd L g es){e:κ×Nat×List D}(he:e∈es):CG (Cu kd es) (BM (kd e.1))=some (.ref e.2.1):=by rw[NY K];obtain⟨e',hf,he',hk⟩:=HU (Cj (f:=λe:κ×Nat×List D=>e.1) he);rw[hf];have:e'=e:=LZ (f:=λe=>e.1) h.kn he' he hk;rw[this];rfl
theorem AGu{ts:List Str}(ok:OK ts)(ss ee:List Int){n:Nat}{y:Str}(h:y∈Ey ts ss ee n):BR y/\y.length<=100:=by
 unfold Ey at h;obtain⟨i,_,rfl⟩:=BC.mp h
 by_cases hi:i<ts.length
 .have hm:ts.getD i ""∈ts:=by simp[hi]
  exact⟨(ok.1 _ hm).1.slice _ _,DA (Txt.slice_le _ _ _) (ok.1 _ hm).2⟩
 .have e:ts.getD i "" = "":=by simp[Nat.le_of_not_lt hi]
  rw[e];have h0:BR "":=λc hc=>by cases hc
  exact⟨h0.slice _ _,DA (Txt.slice_le _ _ _) (by decide)⟩
theorem Sr(ts:List Str)(ss ee:List Int)(n:Nat):(Ey ts ss ee n).length=n:=by unfold Ey;simp
theorem AF2{Q:ALM}{L:AD}{w tx:Nat}{ws ts wd:List Str}(hw:L[w]?=some (.lst (ws.map D.str)))(hl:ws.length<=6)(ht:L[tx]?=some (.lst (ts.map D.str)))(ok:OK ts)(hwd:wd.length=ts.length)
  (h:∀L2 es,L <+: L2->DL Ar L2 L.length es->cont es=CU ws ts wd->(∀x∈Bl es,L.length<x)->Q (.ref L.length) L2):W2 (zz1 [.ref w,.ref tx,Ar wd] L) Q:=by
 unfold zz1;refine HJ rfl ?_;unfold Ou;simp only[KH];have hwl:=DU hw;have htl:=DU ht;have htn:=ok.2;refine LK (Mv (AA5 ?_));generalize hL1:L++[Ob.dt [] 0]=L1;have hL1l:L1.length=L.length+1:=by rw[<-hL1];simp
 have hg1:L1[L.length]?=some (.dt [] 0):=by rw[<-hL1];exact As
 have hw1:L1[w]?=some (.lst (ws.map D.str)):=by rw[<-hL1];exact Aj hw
 have ht1:L1[tx]?=some (.lst (ts.map D.str)):=by rw[<-hL1];exact Aj ht
 have hAw:∀a∈Cy ws ts,a.2.length<=1600:=λa ha=>by
  obtain⟨x,_,rfl⟩:=BC.mp ha;simp
 have hAl:(Cy ws ts).length<=6:=by unfold Cy;rw[An];exact hl
 refine CK (λρ L'=>∃es,DL Ar L' L.length es/\cont es=(Cy ws ts).foldl (Bo wd) []/\(∀x∈Bl es,L1.length<=x)/\BA [L.length] L1 L'/\∃e,ρ=[some (.ref w),some (.ref tx),some (Ar wd),some (.ref L.length),e,none,none,none,none,none,none]) ?_ ?_
 .rfl'
  refine Da (λj ρ L'=>∃es,DL Ar L' L.length es/\cont es=((Cy ws ts).take j).foldl (Bo wd) []/\(∀x∈Bl es,L1.length<=x)/\BA [L.length] L1 L'/\∃e,ρ=[some (.ref w),some (.ref tx),some (Ar wd),some (.ref L.length),e,none,none,none,none,none,none]) _ 0 _ _
   ⟨[],⟨⟨0,hg1⟩,(λ_ h=>(nomatch h)),Hj,Hj⟩,rfl,(λ_ h=>(nomatch h)),.refl _ _,none,rfl⟩ ?_ ?_
  .rintro i x ρ L' hx ⟨es,hd,hc,ha,hk,e,rfl⟩;refine⟨decide_eq_true (hk.get (by simp;omega) hw1),?_⟩;have ht':L'[tx]?=some (.lst (ts.map D.str)):=hk.get (by simp;omega) ht1;rw[BH] at hx
   cases hxw:ws[i]? with
   |none=>rw[hxw] at hx;cases hx
   |some wd1 =>
    rw[hxw] at hx;cases hx
    have hb:ET (cont es) 6 9600:=by
     rw[hc];have:=Ng (w:=wd) ((Cy ws ts).take (0+i)) MF λa ha=>hAw a (AKX ha);have hl:((Cy ws ts).take (0+i)).length<=6:=by rw[HF];omega
     exact this.mono (by omega) (by omega)
    rfl';refine Im (λρ=>∃e,ρ=[e,some (.str wd1)]) (λ_=>.str wd1) (λacc=>decide_eq_true (Aj ht')) ⟨_,rfl⟩ (by rw[An];omega) ?_ ?_
    .rintro y hy ρ ⟨e,rfl⟩;rfl';refine⟨⟨_,rfl⟩,λacc=>?_⟩;rfl';exact⟨rfl,rfl⟩
    .have em:(ts.map D.str).map (λ_=>D.str wd1)=(ts.map λ_=>wd1).map D.str:=by rw[Cs,Cs];rfl
     rw[em];rfl';have hkl:=hk.1;refine ZY (as:=ts.map λ_=>wd1) (w:=wd) (ds:=[.tup [.str "word",.str wd1]]) ((hd.pre (BB _ _)).pre (BB _ _)) As (λz=>by have:=hd.lt z;simp at this;omega) (by simp[hwd]) (by simp;omega) (by have:=hb.1;rw[Ks] at this;omega) (λe he=>by have:=hb.2 e he;simp;omega) (by simp) λL2 es2 h2 hc2 ha2 hk2=>?_;rfl';refine⟨es2,h2,?_,λy hy=>?_,?_,_,rfl⟩
     .have hxa:(Cy ws ts)[i]?=some (ts.map (λ_=>wd1),[Hn wd1]):=by unfold Cy;rw[BH,hxw];rfl
      rw[Si hxa,<-hc];exact hc2
     .rcases ha2 y hy with z|z
      .exact ha y z
      .simp at z;omega
     .exact((hk.trans (.app _ _ _)).trans (.app _ _ _)).step hk2 (λj hj=>by
       rcases Ae.mp hj with e1|e1
       .exact .inl (by simp[e1])
       .exact .inr (ha j e1))
  .rintro ρ L' ⟨es,hd,hc,ha,hk,e,rfl⟩;refine⟨decide_eq_true (hk.get (by simp;omega) hw1),?_⟩;refine⟨es,hd,?_,ha,hk,_,rfl⟩;rw[hc,An,CI];have:(Cy ws ts).length=ws.length:=by unfold Cy;simp
   rw[<-this,HD]
 rintro ρ L2 ⟨es1,hd1,hc1,ha1,hk1,e,rfl⟩;have ht2:L2[tx]?=some (.lst (ts.map D.str)):=hk1.get (by simp;omega) ht1;have hk1l:=hk1.1;rfl';refine AHE ht2 ok λL3 esP hp3 hdP hcP haP=>?_;have hL3:L2.length<L3.length:=hdP.glt;have hd3:=hd1.pre hp3;have ht3:L3[tx]?=some (.lst (ts.map D.str)):=CC hp3 ht2;obtain⟨epP,hP0⟩:=hdP.at_;have hPb:ET (cont esP) 40 40:=by rw[hcP];exact NO ts
 have hPl:(cont esP).length<=40:=hPb.1
 have free:∀j,j≠L.length->(j<L1.length\/L2.length<=j)->j∉L.length::Bl es1:=λj h1 h2 hj=>by
  rcases Ae.mp hj with e1|e1
  .exact h1 e1
  .have:=hd1.lt e1;have:=ha1 j e1;omega
 rfl';rw[SJ Jl]
 refine Da (λi ρ L'=>∃es,DL Ar L' L.length es/\cont es=(Cy ws ts++((cont esP).take i).flatMap λs=>(cont esP).flatMap λe=>Cv ts s e).foldl (Bo wd) []/\(∀x∈Bl es,x∈Bl es1\/L3.length<=x)/\BA (L.length::Bl es1) L3 L' /\
   ∃e1 e2 e3 e4 e5,ρ=[some (.ref w),some (.ref tx),some (Ar wd),some (.ref L.length),e,some (.ref L2.length),e1,e2,e3,e4,e5]) _ 0 _ _ ⟨es1,hd3,by simpa using hc1,λx hx=>.inl hx,.refl _ _,none,none,none,none,none,rfl⟩ ?_ ?_
 .rintro i x ρ L' hx ⟨es,hd,hc,ha,hk,e1,e2,e3,e4,e5,rfl⟩;have hP':L'[L2.length]?=some (.dt (Cu Eo esP) epP):=hk.get (free _ (by omega) (by omega)) hP0;refine⟨by simp[Ir,hP'],?_⟩;rw[BH] at hx
  cases hse:esP[i]? with
  |none=>rw[hse] at hx;cases hx
  |some se =>
  rw[hse] at hx;cases hx;have hsm:=Cd hse;have hsc:(cont esP)[i]?=some (se.1,se.2.2):=by unfold cont;rw[BH,hse];rfl
  have hscm:=Cd hsc;rfl';rw[SJ Jl];generalize hA1:(Cy ws ts++((cont esP).take (0+i)).flatMap λs=>(cont esP).flatMap λe=>Cv ts s e)=A1 at hc
  have hA1s:∀a∈A1,a.2.length<=1600:=λa ha=>by
   rw[<-hA1] at ha;rcases DB.mp ha with ha|ha
   .exact hAw a ha
   .obtain⟨s,hs,ha⟩:=EW.mp ha;obtain⟨e,he,ha⟩:=EW.mp ha;exact WW hPb (AKX hs) he a ha
  have hA1l:A1.length<=6+4800:=by
   rw[<-hA1,Ck]
   have h1:=Nv (m:=120) ((cont esP).take (0+i)) (f:=λs=>(cont esP).flatMap λe=>Cv ts s e) λs _=>by
    have:=Nv (m:=3) (cont esP) (f:=λe=>Cv ts s e) λe _=>WX s e;omega
   have h2:((cont esP).take (0+i)).length<=40:=by rw[HF];omega
   have h3:=AJ3 120 h2;omega
  refine Da (λj ρ L'=>∃es,DL Ar L' L.length es/\cont es=(A1++((cont esP).take j).flatMap λe=>Cv ts (se.1,se.2.2) e).foldl (Bo wd) []/\(∀x∈Bl es,x∈Bl es1\/L3.length<=x)/\BA (L.length::Bl es1) L3 L' /\
   ∃e2 e3 e4 e5,ρ=[some (.ref w),some (.ref tx),some (Ar wd),some (.ref L.length),e,some (.ref L2.length),some (Eo se.1),e2,e3,e4,e5]) _ 0 _ _ ⟨es,hd,by simpa using hc,ha,hk,_,_,_,_,rfl⟩ ?_ ?_
  .clear hP' hk ha hc hd es;rintro j x ρ L' hx ⟨es,hd,hc,ha,hk,e2,e3,e4,e5,rfl⟩;have hP':L'[L2.length]?=some (.dt (Cu Eo esP) epP):=hk.get (free _ (by omega) (by omega)) hP0;have ht':L'[tx]?=some (.lst (ts.map D.str)):=hk.get (free _ (by omega) (by omega)) ht3;refine⟨by simp[Ir,hP'],?_⟩;rw[BH] at hx
   cases hee:esP[j]? with
   |none=>rw[hee] at hx;cases hx
   |some ee =>
   rw[hee] at hx;cases hx;have hem:=Cd hee;have hec:(cont esP)[j]?=some (ee.1,ee.2.2):=by unfold cont;rw[BH,hee];rfl
   have hecm:=Cd hec;have hkl:=hk.1
   have htake:((cont esP).take (0+j+1)).flatMap (λe=>Cv ts (se.1,se.2.2) e)=((cont esP).take (0+j)).flatMap (λe=>Cv ts (se.1,se.2.2) e)++Cv ts (se.1,se.2.2) (ee.1,ee.2.2):=by rw[Io hec,AJ7];simp
   generalize hA2:(A1++((cont esP).take (0+j)).flatMap λe=>Cv ts (se.1,se.2.2) e)=A2 at hc
   have hA2s:∀a∈A2,a.2.length<=1600:=λa ha=>by
    rw[<-hA2] at ha;rcases DB.mp ha with ha|ha
    .exact hA1s a ha
    .obtain⟨e,he,ha⟩:=EW.mp ha;exact WW hPb hscm (AKX he) a ha
   have hA2l:A2.length<=6+4800+120:=by
    rw[<-hA2,Ck];have h1:=Nv (m:=3) ((cont esP).take (0+j)) (f:=λe=>Cv ts (se.1,se.2.2) e) λe _=>WX _ e;have h2:((cont esP).take (0+j)).length<=40:=by rw[HF];omega
    omega
   rw[show A1++((cont esP).take (0+j+1)).flatMap (λe=>Cv ts (se.1,se.2.2) e)=A2++Cv ts (se.1,se.2.2) (ee.1,ee.2.2) by rw[htake,<-hA2,AJk]];rfl';refine ABs ht' (by omega) (NN (e:=(se.1,se.2.2)) (by rw[<-hcP];exact hscm)) (NN (e:=(ee.1,ee.2.2)) (by rw[<-hcP];exact hecm)) (λhno=>?_) (λhyes=>?_)
   .rfl';refine⟨es,hd,?_,ha,hk,_,_,_,_,rfl⟩;rw[hc];unfold Cv;rw[if_neg (by rw[hno];simp),AKK]
   .rfl';have hpa:Cv ts (se.1,se.2.2) (ee.1,ee.2.2)=Dw.map (Gs ts (se.1,se.2.2) (ee.1,ee.2.2)):=by unfold Cv;rw[if_pos hyes]
    rw[hpa];generalize hcut:Ey ts se.1 ee.1 ts.length=sgs;have hcl:sgs.length=ts.length:=by rw[<-hcut,Sr]
    generalize hL4:L'++[Ob.lst (sgs.map D.str)]=L4;have hp4:L' <+: L4:=by rw[<-hL4];exact BB _ _
    have hL4l:L4.length=L'.length+1:=by rw[<-hL4];simp
    have hs4:L4[L'.length]?=some (.lst (sgs.map D.str)):=by rw[<-hL4];exact As
    have hd4:=hd.pre hp4;have hP4:=CC hp4 hP';have hxs:L4[se.2.1]?=some (.lst se.2.2):=CC hp4 (hk.get (free _ (by have:=haP _ (HZ hsm);omega) (by have:=haP _ (HZ hsm);omega)) (hdP.it se hsm));have hys:L4[ee.2.1]?=some (.lst ee.2.2):=CC hp4 (hk.get (free _ (by have:=haP _ (HZ hem);omega) (by have:=haP _ (HZ hem);omega)) (hdP.it ee hem))
    have outP:∀q,L2.length<=q->q<L3.length->q∉L.length::Bl es:=λq h1 h2 hj=>by
     rcases Ae.mp hj with z|z
     .omega
     .rcases ha q z with y|y
      .have:=hd1.lt y;omega
      .omega
    have outS:L'.length∉L.length::Bl es:=λhj=>by
     rcases Ae.mp hj with z|z
     .omega
     .have:=hd.lt z;omega
    have hsl:=hdP.lt (HZ hsm);have hel:=hdP.lt (HZ hem);have hsl2:=haP _ (HZ hsm);have hel2:=haP _ (HZ hem)
    refine Da (λk ρ L'=>∃es',DL Ar L' L.length es'/\cont es'=(A2++(Dw.take k).map (Gs ts (se.1,se.2.2) (ee.1,ee.2.2))).foldl (Bo wd) []/\(∀x∈Bl es',x∈Bl es\/L4.length<=x)/\BA (L.length::Bl es) L4 L' /\
     ∃e4 e5,ρ=[some (.ref w),some (.ref tx),some (Ar wd),some (.ref L.length),e,some (.ref L2.length),some (Eo se.1),some (Eo ee.1),some (.ref (L4.length-1)),e4,e5]) _ 0 _ _ ⟨es,hd4,by simpa using hc,λx hx=>.inl hx,.refl _ _,_,_,by rw[hL4l];rfl⟩ ?_ ?_
    .rintro k x ρ L5 hx ⟨es5,hd5,hc5,ha5,hk5,e4,e5,rfl⟩
     have hds:∃d,Dw[k]?=some d/\x=.str d:=by
      have:(Dw.map D.str)[k]?=some x:=hx;rw[BH] at this
      cases hd:Dw[k]? with
      |none=>rw[hd] at this;cases this
      |some d=>rw[hd] at this;exact⟨d,rfl,(Option.some.inj this).symm⟩
     obtain⟨d,hdk,rfl⟩:=hds;have hdm:=Cd hdk;refine⟨rfl,?_⟩;have el4:L4.length-1=L'.length:=by omega
     rw[el4];have hs5:L5[L'.length]?=some (.lst (sgs.map D.str)):=hk5.get outS hs4;have hP5:L5[L2.length]?=some (.dt (Cu Eo esP) epP):=hk5.get (outP _ (by omega) (by omega)) hP4;have hxs5:L5[se.2.1]?=some (.lst se.2.2):=hk5.get (outP _ (by omega) hsl) hxs;have hys5:L5[ee.2.1]?=some (.lst ee.2.2):=hk5.get (outP _ (by omega) hel) hys;have hk5l:=hk5.1
     have hb5:ET (cont es5) 10000 12000000:=by
      rw[hc5]
      have h3:((Dw.take (0+k)).map (Gs ts (se.1,se.2.2) (ee.1,ee.2.2))).length<=3:=by rw[An,HF];have:Dw.length=3:=rfl;omega
      have:=Ng (w:=wd) (A2++(Dw.take (0+k)).map (Gs ts (se.1,se.2.2) (ee.1,ee.2.2))) MF λa ha=>by
       rcases DB.mp ha with ha|ha
       .exact hA2s a ha
       .obtain⟨d',_,rfl⟩:=BC.mp ha;show(FB d' se.2.2 ee.2.2).length<=1600;rw[Jv];exact AJ6 (hPb.2 _ hscm) (hPb.2 _ hecm)
      rw[Ck] at this;exact this.mono (by omega) (by omega)
     have hbw:(FB d se.2.2 ee.2.2).length<=1600:=by rw[Jv];exact AJ6 (hPb.2 _ hscm) (hPb.2 _ hecm)
     rfl'
     refine Im (λρ=>∃e,ρ=[e,some (.str d)]) (λy=>match y with|.str s=>.str (Ex d s)|_=>.non) (λacc=>decide_eq_true (Aj hs5)) ⟨_,rfl⟩ (by rw[An,hcl];omega) ?_ ?_
     .rintro y hy ρ ⟨e,rfl⟩;obtain⟨s,hs,rfl⟩:=BC.mp hy;rw[<-hcut] at hs;have hso:=AGu ok _ _ hs;rfl';refine⟨⟨_,rfl⟩,λacc=>?_⟩;rfl';refine AGn hdm hso.1 (by omega) ?_;exact⟨rfl,rfl⟩
     .have em:(sgs.map D.str).map (λy=>match y with|.str s=>D.str (Ex d s)|_=>.non)=(sgs.map (Ex d)).map D.str:=by rw[Cs,Cs];rfl
      rw[em];rfl';refine JD (kk:=BM (Eo se.1)) (Aj hP5) (Jl.key _) (hdP.look_mem Jl hsm) ?_;rfl';refine JD (kk:=BM (Eo ee.1)) (Aj hP5) (Jl.key _) (hdP.look_mem Jl hem) ?_;rfl';refine AHH (Aj hxs5) (Aj hys5) (by have:=hbw;rw[Jv] at this;omega) (by have:=hPb.2 _ hecm;simp only at this;omega) λL6 hp6 hl6=>?_;have hp56:L5 <+: L6:=(BB _ _).trans hp6;have hp6l:=hp6.length_le;simp only[Ck,EX,List.length_nil] at hp6l;rfl';refine ZY (as:=sgs.map (Ex d)) (w:=wd) (hd5.pre hp56) hl6 (λz=>by have:=hd5.lt z;simp at this;omega) (by simp[hwd,hcl]) (by simp[hcl];omega) (by have:=hb5.1;rw[Ks] at this;omega) (λe he=>by have:=hb5.2 e he;omega) (by omega) λL7 es7 h7 hc7 ha7 hk7=>?_;rfl';refine⟨es7,h7,?_,λy hy=>?_,?_,_,_,rfl⟩
      .rw[Io hdk,Dz,<-AJk,List.foldl_append,<-hc5,hc7];show _=Bo wd (cont es5) (Gs ts (se.1,se.2.2) (ee.1,ee.2.2) d);unfold Gs;rw[hcut]
      .rcases ha7 y hy with z|z
       .exact ha5 y z
       .exact .inr (by omega)
      .refine(hk5.trans (.of_pre hp56)).step hk7 λj hj=>?_;rcases Ae.mp hj with z|z
       .exact .inl (by simp[z])
       .rcases ha5 j z with y|y
        .exact .inl (BQ _ y)
        .exact .inr y
    .rintro ρ L5 ⟨es5,hd5,hc5,ha5,hk5,e4,e5,rfl⟩;refine⟨rfl,?_⟩;refine⟨es5,hd5,?_,λy hy=>?_,?_,_,_,_,_,rfl⟩
     .rw[hc5]
      congr 2
     .rcases ha5 y hy with z|z
      .exact ha y z
      .exact .inr (by omega)
     .refine(hk.trans (.of_pre hp4)).step hk5 λj hj=>?_;rcases Ae.mp hj with z|z
      .exact .inl (by simp[z])
      .rcases ha j z with y|y
       .exact .inl (BQ _ y)
       .exact .inr y
  .rintro ρ L' ⟨es,hd,hc,ha,hk,e2,e3,e4,e5,rfl⟩;have hP':L'[L2.length]?=some (.dt (Cu Eo esP) epP):=hk.get (free _ (by omega) (by omega)) hP0;refine⟨by simp[Ir,hP'],es,hd,?_,ha,hk,_,_,_,_,_,rfl⟩;rw[hc,An,CI];have:esP.length=(cont esP).length:=(Ks esP).symm;rw[this,HD,Io hsc,AJ7,<-hA1,AJk];simp
 .rintro ρ L' ⟨es,hd,hc,ha,hk,e1,e2,e3,e4,e5,rfl⟩;have hP':L'[L2.length]?=some (.dt (Cu Eo esP) epP):=hk.get (free _ (by omega) (by omega)) hP0;refine⟨by simp[Ir,hP'],?_⟩;rfl';refine⟨rfl,h L' es ?_ hd ?_ λx hx=>?_⟩
  .have k1:BA [L.length] L L':=by
    have a1:BA [L.length] L L1:=by rw[<-hL1];exact .app _ _ _
    have a2:=(a1.trans hk1).trans (BA.of_pre hp3);refine a2.step hk λj hj=>?_;rcases Ae.mp hj with e8|e8
    .exact .inl (by simp[e8])
    .exact .inr (by have:=ha1 j e8;omega)
   exact(k1.mono λj hj=>.inr (by simp at hj;omega)).pre
  .rw[hc,An,CI];have:esP.length=(cont esP).length:=(Ks esP).symm;rw[this,HD,hcP];rfl
  .rcases ha x hx with z|z
   .have:=ha1 x z;omega
   .omega
def Eu(a:List Str)(ps:List D):List (NK×D):=ps.zipIdx.map λq=>(BM q.1,D.tup [Ar a,.int (q.2:Int)])
theorem AGc{a:List Str}{ps:List D}{i:Nat}{x:D}(h:ps[i]?=some x):Eu a (ps.take (0+i+1))=Eu a (ps.take (0+i))++[(BM x,.tup [Ar a,.int (i:Int)])]:=by have hi:i<ps.length:=(BY.mp h).1;rw[Io h];unfold Eu;rw[List.zipIdx_append,Dz];simp[Nat.min_eq_left (Nat.le_of_lt hi)]
def Dj(G:List (List Str×List D)):List (NK×D):=G.flatMap λe=>Eu e.1 e.2
def FM(xs:List (NK×D)):List (NK×D):=xs.foldl (λm x=>Dq m x.1 x.2) []
theorem ACo(m:List (NK×D))(k:NK)(d:D):(Dq m k d).length<=m.length+1:=by
 unfold Dq;split
 .rw[An];omega
 .simp
theorem ACt(xs:List (NK×D)):(FM xs).length<=xs.length:=by
 have:∀(xs:List (NK×D)) (m:List (NK×D)),(xs.foldl (λm x=>Dq m x.1 x.2) m).length<=m.length+xs.length:=by
  intro xs
  induction xs with
  |nil=>intro m;simp
  |cons x xs ih =>
   intro m;rw[AJj,EX];have h1:=ih (Dq m x.1 x.2);have h2:=ACo m x.1 x.2;omega
 have h:=this xs [];simpa[FM] using h
def FH{κ:Type}(c:List (κ×List D)):Nat:=(c.map λe=>e.2.length).sum
theorem AGS(G:List (List Str×List D)):(Dj G).length=FH G:=by
 unfold Dj FH
 induction G with
 |nil=>rfl
 |cons e G ih =>
  rw[EY,Ck,ih,Am,FF];unfold Eu;simp
theorem ABL{κ:Type}[DecidableEq κ]{c:List (κ×List D)}{k:κ}{ds:List D}(nd:(c.map (·.1)).Nodup):FH (Bk c k ds)=FH c+ds.length:=by
 by_cases h:k∈c.map (·.1)
 .have e:Bk c k ds=c.map (λe=>if e.1=k then (e.1,e.2++ds) else e):=by unfold Bk;rw[if_pos h]
  rw[e];clear e
  induction c with
  |nil=>cases h
  |cons x c ih =>
   rw[Am,Hk] at nd;rw[Am];unfold FH;rw[Am,FF,Am,FF]
   by_cases hx:x.1=k
   .rw[if_pos hx]
    have e2:c.map (λe=>if e.1=k then (e.1,e.2++ds) else e)=c:=by
     conv=>rhs;rw[<-AKY c]
     apply HE;intro e he;rw[if_neg (λz=>nd.1 (by rw[hx,<-z];exact Cj he))];rfl
    rw[e2];simp only[Ck];omega
   .rw[if_neg hx]
    have h':k∈c.map (·.1):=by
     rw[Am] at h;rcases Ae.mp h with z|z
     .exact absurd z.symm hx
     .exact z
    have:=ih nd.2 h';unfold FH at this;omega
 .have e:Bk c k ds=c++[(k,ds)]:=by unfold Bk;rw[if_neg h]
  rw[e];unfold FH;simp
theorem Xm{w:List Str}:∀(A:List (List Str×List D)) {c:List (List Str×List D)},(c.map (·.1)).Nodup->((A.foldl (Bo w) c).map (·.1)).Nodup
 |[],_,h=>h
 |a::A,c,h=>Xm A (by unfold Bo;split;exact MJ h;exact h)
theorem Xj{w:List Str}{m:Nat}:∀(A:List (List Str×List D)) {c:List (List Str×List D)},(c.map (·.1)).Nodup->(∀a∈A,a.2.length<=m)->FH (A.foldl (Bo w) c)<=FH c+A.length*m
 |[],c,_,_=>by simp
 |a::A,c,h,hA=>by
  have h1:FH (Bo w c a)<=FH c+m:=by
   unfold Bo;split
   .rw[ABL h];have:=hA a BW;omega
   .omega
  have h2:=Xj (w:=w) A (c:=Bo w c a) (by unfold Bo;split;exact MJ h;exact h) λx hx=>hA x (BQ _ hx);rw[AJj,EX,AJu];omega
theorem AD2{κ:Type}{kd:κ->D}(K:KD kd)(es:List (κ×Nat×List D)):HL (Cu kd es)=es.map λe=>.tup [kd e.1,.ref e.2.1]:=by unfold HL Cu;rw[Cs];apply HE;intro e _;show D.tup [Eb (BM (kd e.1)),.ref e.2.1]=_;rw[K.nk e.1]
theorem AGR{G:List (List Str×List D)}{i:Nat}{e:List Str×List D}(h:G[i]?=some e):Dj (G.take (0+i+1))=Dj (G.take (0+i))++Eu e.1 e.2:=by unfold Dj;rw[Io h,AJ7];simp
theorem AGQ(G:List (List Str×List D))(i:Nat):(Dj (G.take i)).length<=FH G:=by
 rw[<-AGS G]
 conv=>rhs;rw[<-AKo i G]
 unfold Dj;rw[AJ7,Ck];omega
theorem AEn{Q:ALM}{L:AD}{g:Nat}{es:List (List Str×Nat×List D)}(hg:DL Ar L g es)(hk:∀e∈cont es,∀p∈e.2,dNK p=some (BM p))(hz:FH (cont es)<=8000000)(hb:∀e∈cont es,e.2.length<=8000000)
  (h:∀ep,Q (.ref L.length) (L++[.dt (FM (Dj (cont es))) ep])):W2 (zd1 [.ref g] L) Q:=by
 unfold zd1;refine HJ rfl ?_;unfold OY;obtain⟨ep0,hg0⟩:=hg.at_;rfl';rw[AD2 EM];refine Da (λj ρ L'=>(∃ep,L'=L++[.dt (FM (Dj ((cont es).take j))) ep])/\∃e1 e2 e3 e4,ρ=[some (.ref g),some (.ref L.length),e1,e2,e3,e4]) _ 0 _ _ ⟨⟨0,rfl⟩,none,none,none,none,rfl⟩ ?_ ?_
 .rintro i x ρ L' hx ⟨⟨ep,rfl⟩,e1,e2,e3,e4,rfl⟩;refine⟨decide_eq_true (Aj hg0),?_⟩;rw[BH] at hx
  cases hse:es[i]? with
  |none=>rw[hse] at hx;cases hx
  |some e =>
  rw[hse] at hx;cases hx;have hem:=Cd hse;have hq:=hg.it e hem;have hec:(cont es)[i]?=some (e.1,e.2.2):=by unfold cont;rw[BH,hse];rfl
  have hecm:=Cd hec;rfl';refine Da (λj ρ L'=>(∃ep,L'=L++[.dt (FM (Dj ((cont es).take (0+i))++Eu e.1 (e.2.2.take j))) ep])/\∃e3 e4,ρ=[some (.ref g),some (.ref L.length),some (Ar e.1),some (.ref e.2.1),e3,e4]) _ 0 _ _ ⟨⟨ep,by simp[Eu]⟩,_,_,rfl⟩ ?_ ?_
  .rintro j x ρ L' hx ⟨⟨ep,rfl⟩,e3,e4,rfl⟩;refine⟨decide_eq_true (Aj hq),?_⟩;rw[YW] at hx
   cases hp:e.2.2[j]? with
   |none=>rw[hp] at hx;cases hx
   |some p =>
    rw[hp] at hx;cases hx;rfl';refine Sg (kk:=BM p) As ?_ (hk _ hecm p (Cd hp)) ?_
    .have h1:=ACt (Dj ((cont es).take (0+i))++Eu e.1 (e.2.2.take (0+j)));have h2:=AGQ (cont es) (0+i)
     have h3:(Eu e.1 (e.2.2.take (0+j))).length<=8000000:=by unfold Eu;rw[An,List.length_zipIdx,HF];have:=hb _ hecm;simp only at this;omega
     rw[Ck] at h1;omega
    .have e5:FM (Dj ((cont es).take (0+i))++Eu e.1 (e.2.2.take (0+j+1)))=Dq (FM (Dj ((cont es).take (0+i))++Eu e.1 (e.2.2.take (0+j)))) (BM p) (.tup [Ar e.1,.int (j:Int)]):=by
      rw[AGc hp,<-AJk];unfold FM;rw[List.foldl_append];rfl
     rfl';rw[e5];refine⟨⟨epN (FM (Dj ((cont es).take (0+i))++Eu e.1 (e.2.2.take (0+j)))) (BM p) ep,?_⟩,_,_,rfl⟩;simp
  .rintro ρ L' ⟨⟨ep,rfl⟩,e3,e4,rfl⟩;refine⟨decide_eq_true (Aj hq),⟨ep,?_⟩,_,_,_,_,rfl⟩;have e6:(Fs e.2.2).length=e.2.2.length:=by simp[Fs]
   rw[e6,CI e.2.2.length,HD,AGR hec]
 .rintro ρ L' ⟨⟨ep,rfl⟩,e1,e2,e3,e4,rfl⟩;refine⟨decide_eq_true (Aj hg0),?_⟩;rfl';refine⟨rfl,?_⟩;rw[An,CI];have:es.length=(cont es).length:=(Ks es).symm;rw[this,HD];exact h ep
theorem ABO{Q:ALM}{L:AD}{k g:Nat}{W:D}{M:List (NK×D)}(hk:L[k]?=some (.ins "Table" []))(hgl:g<L.length)(hm:∀(L':AD) (Q':ALM),BA [k] L L'->L'.length=L.length->(∀ep,Q' (.ref L'.length) (L'++[.dt M ep]))->W2 (zd1 [.ref g] L') Q')
  (h:∀L2,L2.length=L.length+8->BA [k] L L2->L2[k]?=some (.ins "Table" (NA W g L.length (L.length+5) (L.length+6) (L.length+7)))->(∃ep,L2[L.length]?=some (.dt M ep)) ->
   L2[L.length+5]?=some (.lst [.ref (L.length+1),.ref (L.length+3)])->FD L2 (L.length+1) 1 (L.length+2) [] 0->FD L2 (L.length+3) 0 (L.length+4) [] 0->L2[L.length+6]?=some (.dt [] 0)->L2[L.length+7]?=some (.lst [])->Q .non L2) :
  W2 (zq1 [.ref k,W,.ref g] L) Q:=by
 unfold zq1;refine LL rfl ?_;unfold Qo;have hkl:=DU hk;refine CK (λρ L'=>ρ=[some (.ref k),some W,some (.ref g)]/\L'.length=L.length/\BA [k] L L'/\L'[k]?=some (.ins "Table" [("words",W)])) ?_ ?_
 .rfl';exact⟨rfl,by simp,(BA.refl _ _).set (.inl (by simp)),Dh hk⟩
 rintro ρ L1 ⟨rfl,l1,k1,t1⟩;refine CK (λρ L'=>ρ=[some (.ref k),some W,some (.ref g)]/\L'.length=L.length/\BA [k] L L'/\L'[k]?=some (.ins "Table" [("words",W),("groups",.ref g)])) ?_ ?_
 .rfl';exact⟨rfl,by simp[l1],k1.set (.inl (by simp)),Dh t1⟩
 rintro ρ L2 ⟨rfl,l2,k2,t2⟩;refine CK (λρ L'=>ρ=[some (.ref k),some W,some (.ref g)]/\L'.length=L.length+1/\BA [k] L L'/\L'[k]?=some (.ins "Table" [("words",W),("groups",.ref g),("members",.ref L.length)])/\(∃ep,L'[L.length]?=some (.dt M ep))) ?_ ?_
 .rfl';refine hm _ _ k2 l2 λep=>?_;rfl';refine⟨rfl,by simp[l2],(k2.trans (.app _ _ _)).set (.inl (by simp)),?_,?_⟩
  .rw[Dh (Aj t2),l2];rfl
  .exact⟨ep,by rw[<-l2,Em (by omega)];exact As⟩
 rintro ρ L3 ⟨rfl,l3,k3,t3,ep,m3⟩;have stayK:∀{L4 L5:AD} {j:Nat} {o:Ob},BA [j] L4 L5->L4.length<=j->∀i,i<L4.length->L4[i]?=some o->L5[i]?=some o:=λ{L4 L5 j o} hk hj i hi e=>hk.get (by simp;omega) e
 refine CK (λρ L'=>ρ=[some (.ref k),some W,some (.ref g)]/\L'.length=L.length+6/\BA [k] L L'/\L'[k]?=some (.ins "Table" [("words",W),("groups",.ref g),("members",.ref L.length),("nodes",.ref (L.length+5))])/\(∃ep,L'[L.length]?=some (.dt M ep)) /\
  L'[L.length+5]?=some (.lst [.ref (L.length+1),.ref (L.length+3)])/\FD L' (L.length+1) 1 (L.length+2) [] 0/\FD L' (L.length+3) 0 (L.length+4) [] 0) ?_ ?_
 .rfl';refine Rs As λL4 n4 l4 k4=>?_;have l4':L4.length=L.length+3:=by rw[l4];simp;omega
  have p4:∀i o,i<L3.length->L3[i]?=some o->L4[i]?=some o:=λi o hi e=>k4.get (by simp;omega) (Aj e);refine⟨rfl,?_⟩;rfl';refine Rs As λL5 n5 l5 k5=>?_;have l5':L5.length=L.length+5:=by rw[l5];simp;omega
  have p5:∀i o,i<L4.length->L4[i]?=some o->L5[i]?=some o:=λi o hi e=>k5.get (by simp;omega) (Aj e);refine⟨rfl,?_⟩;have t5:=p5 _ _ (by omega) (p4 _ _ (by omega) t3);have m5:=p5 _ _ (by omega) (p4 _ _ (by omega) m3);have a5:=p5 _ _ (by omega) n4.1;have b5:=p5 _ _ (by simp at *;omega) n4.2;rfl';have e1:L3.length=L.length+1:=l3;have e2:(L3++[Ob.ins "Node" []]).length=L.length+2:=by simp[l3]
  have e3:L4.length=L.length+3:=l4';have e4:(L4++[Ob.ins "Node" []]).length=L.length+4:=by simp[l4']
  rw[e1] at n4 a5;rw[e2] at n4 b5 a5;rw[e3,e4] at n5;have far:∀(i:Nat) (o o':Ob) (M:AD),i≠k->L5[i]?=some o->((L5++M).set k o')[i]?=some o:=λi o o' M hi e=>by rw[Em (Ne.symm hi)];exact Aj e
  refine⟨rfl,by simp[l5'],?_,?_,⟨ep,far _ _ _ _ (by omega) m5⟩,?_,⟨far _ _ _ _ (by omega) a5,far _ _ _ _ (by omega) b5⟩,⟨far _ _ _ _ (by omega) n5.1,far _ _ _ _ (by omega) n5.2⟩⟩
  .have q1:BA [k] L L4:=(k3.trans (.app _ _ _)).step k4 λj hj=>.inr (by simp at hj;omega);have q2:BA [k] L L5:=(q1.trans (.app _ _ _)).step k5 λj hj=>.inr (by simp at hj;omega);exact(q2.trans (.app _ _ _)).set (.inl (by simp))
  .rw[Dh (Aj t5),l5'];rfl
  .rw[Em (by omega),<-l5',e1,e3];exact As
 rintro ρ L4 ⟨rfl,l4,k4,t4,⟨ep,m4⟩,n4,a4,b4⟩;rfl';have far:∀(i:Nat) (o o':Ob) (N M:AD),i≠k->N[i]?=some o->((N++M).set k o')[i]?=some o:=λi o o' N M hi e=>by rw[Em (Ne.symm hi)];exact Aj e
 have f2:∀(i:Nat) (o o' o'':Ob) (M M':AD),i≠k->L4[i]?=some o->((((L4++M).set k o')++M').set k o'')[i]?=some o:=λi o o' o'' M M' hi e=>far i o o'' _ _ hi (far i o o' _ _ hi e)
 have t5:((L4++[Ob.dt [] 0]).set k (.ins "Table" (FL "node_numbers" (.ref L4.length) [("words",W),("groups",.ref g),("members",.ref L.length),("nodes",.ref (L.length+5))])))[k]?=some (.ins "Table" [("words",W),("groups",.ref g),("members",.ref L.length),("nodes",.ref (L.length+5)),("node_numbers",.ref (L.length+6))]):=by rw[Dh (Aj t4),l4];rfl
 refine Xv (Aj t5) rfl rfl ?_;rfl';refine⟨λhp=>?_,h _ (by simp[l4]) ?_ ?_ ⟨ep,f2 _ _ _ _ _ _ (by omega) m4⟩ (f2 _ _ _ _ _ _ (by omega) n4) ⟨f2 _ _ _ _ _ _ (by omega) a4.1,f2 _ _ _ _ _ _ (by omega) a4.2⟩ ⟨f2 _ _ _ _ _ _ (by omega) b4.1,f2 _ _ _ _ _ _ (by omega) b4.2⟩ (far _ _ _ _ _ (by omega) ?_) ?_⟩
 .have:=CC hp hk;rw[Dh (Aj t5)] at this;cases this
 .exact(((k4.trans (.app _ _ _)).set (.inl (by simp))).trans (.app _ _ _)).set (.inl (by simp))
 .rw[Dh (Aj t5),AKB,Ck,l4];rfl
 .rw[Em (by omega),<-l4];exact As
 .rw[Em (by omega)];have e6:((L4++[Ob.dt [] 0]).set k (.ins "Table" (FL "node_numbers" (.ref L4.length) [("words",W),("groups",.ref g),("members",.ref L.length),("nodes",.ref (L.length+5))]))).length=L.length+7:=by simp[l4]
  rw[<-e6];exact As
abbrev BE:=List (List Str×List D)
def Cf(G:BE)(a:List Str):Nat:=((Ef G a).getD []).length
def LV(rest a:List Str):Bool:=(List.range rest.length).all λi=>Txt.startswith (rest.getD i "") (a.getD i "")
def Fa(rest a:List Str)(n:Nat):List Str:=(List.range n).map λi=>Txt.slice (rest.getD i "") (some ((a.getD i "").length:Int)) none
def Dc(rest a:List Str):Option (List Str):=if LV rest a=true then some (Fa rest a rest.length) else none
theorem TB{rest a b:List Str}(h:Dc rest a=some b):b.length=rest.length:=by
 unfold Dc at h;split at h
 .cases h;unfold Fa;simp
 .cases h
theorem VU(xs:List Str):(Ar xs).noRef=true:=by
 unfold Ar;show D.noRefL (xs.map D.str)=true
 induction xs with
 |nil=>rfl
 |cons x xs ih=>rw[Am,D.noRefL,ih];rfl
theorem AHJ{Q:ALM}{L:AD}{rest a:List Str}(hl:a.length=rest.length)(hz:rest.length<=1000)(hn:Dc rest a=none->Q .non L)(hy:∀b,Dc rest a=some b->Q (Ar b) L):W2 (zb2 [Ar rest,Ar a] L) Q:=by
 unfold zb2;refine By rfl ?_;unfold Oc;have et:∀xs:List Str,Ar xs=.tup (xs.map D.str):=λ_=>rfl;rw[et rest,et a];rfl';refine⟨rest.map D.str,[a.map D.str],rfl,⟨by simp[hl],by simp,rfl⟩,?_⟩;refine Da (λj ρ L'=>L'=L++[.lst ((Fa rest a j).map D.str)]/\(∀i,i<j->i<rest.length->Txt.startswith (rest.getD i "") (a.getD i "")=true)/\∃e1 e2,ρ=[some (.tup (rest.map D.str)),some (.tup (a.map D.str)),some (.ref L.length),e1,e2]) _ 0 _ _ ⟨rfl,λi hi=>(by omega),none,none,rfl⟩ ?_ ?_
 .rintro i x ρ L' hx ⟨rfl,hlt,e1,e2,rfl⟩;refine⟨decide_eq_true rfl,?_⟩;obtain⟨hi,rfl⟩:=QH hl hx;rfl';refine IB (λhs=>?_) (λhs=>?_)
  .rfl';refine Hy As (by unfold Fa;simp;omega) ?_;rfl';refine⟨?_,λk hk hkt=>?_,_,_,rfl⟩
   .have:Fa rest a (0+i+1)=Fa rest a (0+i)++[Txt.slice (rest.getD i "") (some ((a.getD i "").length:Int)) none]:=by
     unfold Fa;rw[AKP,Dz,CI];rfl
    rw[this,Dz];simp
   .by_cases z:k=i
    .subst z;exact hs
    .exact hlt k (by omega) hkt
  .rfl';refine⟨rfl,BB _ _,hn ?_⟩;unfold Dc;rw[if_neg];intro hall;unfold LV at hall;have:=CW.mp hall i (Cr.mpr hi);rw[hs] at this;cases this
 .rintro ρ L' ⟨rfl,hlt,e1,e2,rfl⟩;refine⟨decide_eq_true rfl,?_⟩;rw[Ml,An,CI] at *;rfl';refine⟨VU _,BB _ _,hy _ ?_⟩;unfold Dc;rw[if_pos];unfold LV;rw[CW];exact λi hi=>hlt i (Cr.mp hi) (Cr.mp hi)
def Ba(G:BE)(l:Nat)(rest:List Str):List (List Str):=if l=1 then (if rest∈G.map (·.1) then [rest] else []) else G.map (·.1)
def AT(G:BE):Nat->List Str->Nat
 |0,_=>1
 |l+1,rest=>((Ba G (l+1) rest).map λa=>match Dc rest a with|some b=>Cf G a*AT G l b|none=>0).sum
def EE(G:BE)(l:Nat)(rest:List Str)(st:List (List Str×Nat×List Str)×Nat)(a:List Str):List (List Str×Nat×List Str)×Nat:=match Dc rest a with
 |none=>st
 |some b=>if AT G l b=0 then st else (st.1++[(a,st.2,b)],st.2+Cf G a*AT G l b)
def Dd(G:BE)(l:Nat)(rest:List Str)(xs:List (List Str)):List (List Str×Nat×List Str)×Nat:=xs.foldl (EE G l rest) ([],0)
def FC(G:BE)(l:Nat)(rest:List Str):List (List Str×Nat×List Str):=(Dd G l rest (Ba G (l+1) rest)).1
theorem ZP{G:BE}{l:Nat}{rest:List Str}:∀(xs:List (List Str)) (st:List (List Str×Nat×List Str)×Nat),(xs.foldl (EE G l rest) st).2=st.2+(xs.map λa=>match Dc rest a with|some b=>Cf G a*AT G l b|none=>0).sum
 |[],st=>by simp
 |x::xs,st=>by
  rw[AJj,ZP xs,Am,FF];unfold EE
  cases e:Dc rest x with
  |none=>simp
  |some b =>
   simp only
   by_cases z:AT G l b=0
   .rw[if_pos z,z];simp
   .rw[if_neg z];simp only;omega
theorem ZN(G:BE)(l:Nat)(rest:List Str):(Dd G l rest (Ba G (l+1) rest)).2=AT G (l+1) rest:=by unfold Dd;rw[ZP];simp[AT]
theorem ZQ{G:BE}{l:Nat}{rest:List Str}:∀(xs:List (List Str)) (st:List (List Str×Nat×List Str)×Nat),∃ys,ys.Sublist xs/\((xs.foldl (EE G l rest) st).1).map (·.1)=st.1.map (·.1)++ys
 |[],st=>⟨[],List.Sublist.refl _,by simp⟩
 |x::xs,st=>by
  rw[AJj]
  have key:(EE G l rest st x).1.map (·.1)=st.1.map (·.1)\/(EE G l rest st x).1.map (·.1)=st.1.map (·.1)++[x]:=by
   unfold EE
   cases e:Dc rest x with
   |none=>exact .inl rfl
   |some b =>
    simp only
    by_cases z:AT G l b=0
    .rw[if_pos z];exact .inl rfl
    .rw[if_neg z];exact .inr (by simp)
  obtain⟨ys,h1,h2⟩:=ZQ xs (EE G l rest st x);rcases key with k|k
  .exact⟨ys,h1.cons x,by rw[h2,k]⟩
  .exact⟨x::ys,h1.cons₂ x,by rw[h2,k];simp⟩
theorem OE(G:BE)(l:Nat)(rest:List Str)(xs:List (List Str)):((Dd G l rest xs).1.map (·.1)).Sublist xs:=by obtain⟨ys,h1,h2⟩:=ZQ (G:=G) (l:=l) (rest:=rest) xs ([],0);unfold Dd;rw[h2];simpa using h1
theorem RL{G:BE}(h:(G.map (·.1)).Nodup)(l:Nat)(rest:List Str):(Ba G l rest).Nodup:=by
 unfold Ba;split
 .split
  .simp
  .exact .nil
 .exact h
theorem JX{G:BE}{l:Nat}{rest a:List Str}(h:a∈Ba G l rest):a∈G.map (·.1):=by
 unfold Ba at h;split at h
 .split at h
  .have:a=rest:=by simpa using h
   subst this;assumption
  .cases h
 .exact h
theorem VE{G:BE}{l:Nat}{rest:List Str}:(Ba G l rest).length<=G.length:=by
 unfold Ba;split
 .split
  .rename_i h
   cases G with
   |nil=>cases h
   |cons=>simp
  .simp
 .simp
def EL(G:BE)(sp:List (Nat×List Str))(k:Nat):Nat->List Str->Prop
 |0,_=>k=0
 |l+1,rest=>(AT G (l+1) rest=0/\k=1)\/(AT G (l+1) rest≠0/\∃j,k=j+2/\sp[j]?=some (l,rest))
theorem EL.mono{G:BE}{sp sp':List (Nat×List Str)}{k l:Nat}{rest:List Str}(h:EL G sp k l rest)(p:sp <+: sp'):EL G sp' k l rest:=by
 cases l with
 |zero=>exact h
 |succ l =>
  rcases h with h|⟨h1,j,h2,h3⟩
  .exact .inl h
  .exact .inr ⟨h1,j,h2,Dt p h3⟩
theorem EL.one{G:BE}{sp:List (Nat×List Str)}{k l:Nat}{rest:List Str}(h:EL G sp k l rest):k=1↔AT G l rest=0:=by
 cases l with
 |zero =>
  have:k=0:=h;subst this;simp[AT]
 |succ l =>
  rcases h with⟨h1,h2⟩|⟨h1,j,h2,h3⟩
  .simp[h1,h2]
  .constructor
   .intro z;omega
   .intro z;exact absurd z h1
def Ga(G:BE)(sp:List (Nat×List Str))(l:Nat)(x:List Str×Nat×List Str)(y:NK×D):Prop:=∃num:Nat,y=(BM (Ar x.1),.tup [.int (x.2.1:Int),.int (num:Int)])/\EL G sp num l x.2.2
theorem Ro{α β:Type}{R S:α->β->Prop}{xs:List α}{ys:List β}(h:Paired R xs ys)(i:∀a b,R a b->S a b):Paired S xs ys:=by
 induction h with
 |nil=>exact .nil
 |cons r _ ih=>exact .cons (i _ _ r) ih
theorem AD6{α β:Type}{R:α->β->Prop}{xs:List α}{ys:List β}{x:α}{y:β}(h:Paired R xs ys)(r:R x y):Paired R (xs++[x]) (ys++[y]):=by
 induction h with
 |nil=>exact .cons r .nil
 |cons q _ ih=>exact .cons q ih
theorem Ga.mono{G:BE}{sp sp':List (Nat×List Str)}{l:Nat}{x:List Str×Nat×List Str}{y:NK×D}(p:sp <+: sp')(h:Ga G sp l x y):Ga G sp' l x y:=let ⟨n,e,k⟩:=h;⟨n,e,k.mono p⟩
theorem MH{G:BE}{sp:List (Nat×List Str)}{l:Nat}{xs:List (List Str×Nat×List Str)}{ys:List (NK×D)}(h:Paired (Ga G sp l) xs ys):ys.map (·.1)=xs.map λx=>BM (Ar x.1):=by
 induction h with
 |nil=>rfl
 |cons r _ ih=>obtain⟨n,rfl,_⟩:=r;rw[Am,Am,ih]
def Ed(k:Nat×List Str):D:=.tup [.int (k.1:Int),Ar k.2]
theorem Jk:KD Ed:=⟨λa=>Le (by
  have h:(Js (a.2.map D.str)).isSome=true:=by
   induction a.2 with
   |nil=>rfl
   |cons x a ih =>
    rw[Am]
    cases e:Js (a.map D.str) with
    |none=>rw[e] at ih;cases ih
    |some y=>simp[Js,Lz,e]
  obtain⟨y,hy⟩:=AKi.mp h;show(Gu [.int (a.1:Int),.tup (a.2.map D.str)]).isSome=true
  simp[Gu,Kr,Lz,hy]),λa b h=>by
  have h1:=D.tup.inj h;have h2:=List.cons.inj h1;have h3:=List.cons.inj h2.2;have e1:a.1=b.1:=by have:=D.int.inj h2.1;omega
  have e2:=EM.inj _ _ h3.1
  exact Prod.ext e1 e2⟩
def Ea(mk:List ((Nat×List Str)×Nat)):List (NK×D):=mk.map λe=>(BM (Ed e.1),D.int (e.2:Int))
theorem XG(mk:List ((Nat×List Str)×Nat))(k:Nat×List Str):CG (Ea mk) (BM (Ed k))=(mk.find? λe=>decide (e.1=k)).map λe=>D.int (e.2:Int):=by
 unfold CG Ea
 induction mk with
 |nil=>rfl
 |cons e es ih =>
  rw[Am,GH,GH]
  by_cases h:e.1=k
  .subst h;simp
  .rw[decide_eq_false h,decide_eq_false (λz=>h (Jk.kf z))];exact ih
def LA(G:BE)(sp:List (Nat×List Str))(L:AD)(r a:Nat):Nat->Prop
 |0=>∃ep,FD L r 1 a [] ep
 |1=>∃ep,FD L r 0 a [] ep
 |i+2=>∃l rest kvs ep,sp[i]?=some (l,rest)/\FD L r (AT G (l+1) rest:Int) a kvs ep/\Paired (Ga G sp l) (FC G l rest) kvs
theorem LA.mono{G:BE}{sp sp':List (Nat×List Str)}{L L':AD}{r a i:Nat}(h:LA G sp L r a i)(p:sp <+: sp')(h1:L'[r]?=L[r]?)(h2:L'[a]?=L[a]?):LA G sp' L' r a i:=by
 match i,h with
 |0,⟨ep,n⟩=>exact⟨ep,h1.trans n.1,h2.trans n.2⟩
 |1,⟨ep,n⟩=>exact⟨ep,h1.trans n.1,h2.trans n.2⟩
 |i+2,⟨l,rest,kvs,ep,e,n,k⟩=>exact⟨l,rest,kvs,ep,Dt p e,⟨h1.trans n.1,h2.trans n.2⟩,Ro k λ_ _=>Ga.mono p⟩
theorem LA.node{G:BE}{sp:List (Nat×List Str)}{L:AD}{r a i:Nat}(h:LA G sp L r a i):∃w kvs ep,FD L r w a kvs ep:=by
 match i,h with
 |0,⟨ep,n⟩=>exact⟨_,_,ep,n⟩
 |1,⟨ep,n⟩=>exact⟨_,_,ep,n⟩
 |i+2,⟨l,rest,kvs,ep,e,n,k⟩=>exact⟨_,_,ep,n⟩
structure Bw (G:BE) (X:List Nat) (L:AD) (t g m nd nn rt:Nat) (W:D) (es:List (List Str×Nat×List D)) (sp:List (Nat×List Str)) (rs:List (Nat×Nat)) (mk:List ((Nat×List Str)×Nat)):Prop where
 t_:L[t]?=some (.ins "Table" (NA W g m nd nn rt))
 g_:DL Ar L g es
 gc:cont es=G
 nd_:L[nd]?=some (.lst (rs.map λp=>D.ref p.1))
 nn_:∃ep,L[nn]?=some (.dt (Ea mk) ep)
 mk_:∀e∈mk,EL G sp e.2 e.1.1 e.1.2
 len:rs.length=sp.length+2
 nod:∀i r a,rs[i]?=some (r,a)->LA G sp L r a i
 ndg:nd∉Bl es
 nng:nn≠g
 nnr:∀p∈rs,nn≠p.2
 out:∀x∈X,x≠t/\x≠g/\x∉Bl es/\x≠nd/\x≠nn/\∀p∈rs,x≠p.1/\x≠p.2
section
variable {G:BE}{X:List Nat}{L L':AD}{t g m nd nn rt:Nat}{W:D}{es:List (List Str×Nat×List D)}{sp:List (Nat×List Str)}{rs:List (Nat×Nat)}{mk:List ((Nat×List Str)×Nat)}
theorem Bw.same(T:Bw G X L t g m nd nn rt W es sp rs mk)(h:∀j,(j=t\/j=g\/j∈Bl es\/j=nd\/j=nn\/∃p∈rs,j=p.1\/j=p.2)->L'[j]?=L[j]?):Bw G X L' t g m nd nn rt W es sp rs mk :=
 ⟨(h t (.inl rfl)).trans T.t_,T.g_.same (h g (.inr (.inl rfl))) λq hq=>h q (.inr (.inr (.inl hq))),T.gc,(h nd (.inr (.inr (.inr (.inl rfl))))).trans T.nd_,let ⟨ep,e⟩:=T.nn_;⟨ep,(h nn (.inr (.inr (.inr (.inr (.inl rfl)))))).trans e⟩,T.mk_,T.len,
   λi r a e=>(T.nod i r a e).mono (Ac _) (h r (.inr (.inr (.inr (.inr (.inr ⟨_,Cd e,.inl rfl⟩)))))) (h a (.inr (.inr (.inr (.inr (.inr ⟨_,Cd e,.inr rfl⟩)))))),T.ndg,T.nng,T.nnr,T.out⟩
theorem Bw.lt(T:Bw G X L t g m nd nn rt W es sp rs mk){j:Nat}(h:j=t\/j=g\/j∈Bl es\/j=nd\/j=nn\/∃p∈rs,j=p.1\/j=p.2):j<L.length:=by
 rcases h with rfl|rfl|h|rfl|rfl|⟨p,hp,h⟩
 .exact DU T.t_
 .exact T.g_.glt
 .exact T.g_.lt h
 .exact DU T.nd_
 .obtain⟨ep,e⟩:=T.nn_;exact DU e
 .obtain⟨i,hi⟩:=AKZ hp;obtain⟨w,kvs,ep,n⟩:=(T.nod i p.1 p.2 hi).node;rcases h with rfl|rfl
  .exact DU n.1
  .exact DU n.2
theorem Bw.pre(T:Bw G X L t g m nd nn rt W es sp rs mk)(p:L <+: L'):Bw G X L' t g m nd nn rt W es sp rs mk:=T.same λj hj=>by
 have:=T.lt hj;obtain⟨M,rfl⟩:=p;rw[Fh this]
theorem Bw.setX(T:Bw G X L t g m nd nn rt W es sp rs mk){x:Nat}(hx:x∈X)(o:Ob):Bw G X (L.set x o) t g m nd nn rt W es sp rs mk:=T.same λj hj=>by
 have hne:x≠j:=λz=>by
  obtain⟨h1,h2,h3,h4,h5,h6⟩:=T.out x hx;rcases hj with rfl|rfl|h|rfl|rfl|⟨p,hp,h⟩
  .exact h1 z
  .exact h2 z
  .exact h3 (z▸h)
  .exact h4 z
  .exact h5 z
  .rcases h with rfl|rfl
   .exact(h6 p hp).1 z
   .exact(h6 p hp).2 z
 rw[Em hne]
theorem Bw.more(T:Bw G X L t g m nd nn rt W es sp rs mk){Y:List Nat}(h:∀y∈Y,y∈X\/L.length<=y):Bw G Y L t g m nd nn rt W es sp rs mk :=
 ⟨T.t_,T.g_,T.gc,T.nd_,T.nn_,T.mk_,T.len,T.nod,T.ndg,T.nng,T.nnr,λy hy=>by
  rcases h y hy with z|z
  .exact T.out y z
  .have lt:∀j,(j=t\/j=g\/j∈Bl es\/j=nd\/j=nn\/∃p∈rs,j=p.1\/j=p.2)->y≠j:=λj hj e=>by have:=T.lt hj;omega
   exact⟨lt _ (.inl rfl),lt _ (.inr (.inl rfl)),λhm=>lt y (.inr (.inr (.inl hm))) rfl,lt _ (.inr (.inr (.inr (.inl rfl)))),lt _ (.inr (.inr (.inr (.inr (.inl rfl))))),λp hp=>⟨lt _ (.inr (.inr (.inr (.inr (.inr ⟨p,hp,.inl rfl⟩))))),lt _ (.inr (.inr (.inr (.inr (.inr ⟨p,hp,.inr rfl⟩)))))⟩⟩⟩
theorem Bw.node(T:Bw G X L t g m nd nn rt W es sp rs mk){k l:Nat}{rest:List Str}(h:EL G sp k l rest)(h1:k≠1):∃r a kvs ep,rs[k]?=some (r,a)/\FD L r (AT G l rest:Int) a kvs ep/\(l=0->kvs=[])/\∀l',l=l'+1->Paired (Ga G sp l') (FC G l' rest) kvs:=by
 cases l with
 |zero =>
  have hk:k=0:=h;subst hk;have hlt:0<rs.length:=by rw[T.len];omega
  obtain⟨ep,n⟩:=T.nod 0 rs[0].1 rs[0].2 (by simp[hlt]);exact⟨_,_,[],ep,by simp[hlt],n,λ_=>rfl,λl' e=>by omega⟩
 |succ l =>
  rcases h with⟨_,h2⟩|⟨h2,j,rfl,h3⟩
  .exact absurd h2 h1
  .have hj:j<sp.length:=(BY.mp h3).1;have hlt:j+2<rs.length:=by rw[T.len];omega
   obtain⟨l',rest',kvs,ep,e,n,k⟩:=T.nod (j+2) rs[j+2].1 rs[j+2].2 (by simp[hlt]);rw[h3] at e;cases e;exact⟨_,_,kvs,ep,by simp[hlt],n,λz=>by omega,λl' e=>by cases e;exact k⟩
theorem Xt{k:List Str}(h:k∈G.map (·.1)):∃ds,Ef G k=some ds/\Cf G k=ds.length:=by
 obtain⟨e,hf,_⟩:=HU h;have:Ef G k=some e.2:=by unfold Ef;rw[hf];rfl
 exact⟨e.2,this,by unfold Cf;rw[this];rfl⟩
end
def CA(g:Nat):Nat->Nat
 |0=>0
 |l+1=>1+g*CA g l
section
variable {G:BE}{X:List Nat}{L:AD}{t g m nd nn rt:Nat}{W:D}{es:List (List Str×Nat×List D)}{sp:List (Nat×List Str)}{rs:List (Nat×Nat)}{mk:List ((Nat×List Str)×Nat)}{Q:ALM}
theorem ABK(T:Bw G X L t g m nd nn rt W es sp rs mk)(l:Nat)(rest:List Str)(h:Q (.ref L.length) (L++[.lst ((Ba G l rest).map Ar)])):W2 (za2 [.ref t,.int (l:Int),Ar rest] L) Q:=by
 unfold za2;refine HJ rfl ?_;unfold Oi;have ht:=T.t_;obtain⟨ep,hg⟩:=T.g_.at_;unfold Ba at h;rfl';refine Bs (λh0=>?_) (λh0=>?_)
 .rw[if_pos (by omega)] at h;rfl';refine Se hg (EM.key rest) ?_;have e1:(CG (Cu Ar es) (BM (Ar rest))).isSome=decide (rest∈G.map (·.1)):=by rw[AFI EM,T.gc];exact decide_eq_decide.mpr Iff.rfl
  rw[e1]
  by_cases hm:rest∈G.map (·.1)
  .rw[if_pos hm] at h;rw[decide_eq_true hm];rfl';refine Sy rfl ?_;rfl';exact⟨rfl,h⟩
  .rw[if_neg hm] at h;rw[decide_eq_false hm];rfl';refine Kt rfl ?_;rfl';exact⟨rfl,h⟩
 .rw[if_neg (by omega)] at h;rfl';rw[SJ EM];refine⟨rfl,?_⟩;have e2:es.map (λe=>Ar e.1)=(G.map (·.1)).map Ar:=by rw[<-T.gc,MA,Cs];rfl
  rw[e2];exact h
end
def TY(G:BE)(n l:Nat)(f:Nat):Prop:=∀{X:List Nat} {L:AD} {t g m nd nn rt:Nat} {W:D} {es:List (List Str×Nat×List D)} {sp:List (Nat×List Str)} {rs:List (Nat×Nat)} {mk:List ((Nat×List Str)×Nat)} {Q:ALM} {rest:List Str},
 Bw G X L t g m nd nn rt W es sp rs mk->(∀x∈X,x<L.length)->rest.length=n->mk.length+CA G.length l<=16000000->rs.length+CA G.length l<=16000000 ->
 (∀L2 sp' rs' mk' k,Bw G X L2 t g m nd nn rt W es sp' rs' mk'->sp <+: sp'->mk'.length<=mk.length+CA G.length l->rs'.length<=rs.length+CA G.length l->EL G sp' k l rest->BA [nd,nn] L L2->Q (.int (k:Int)) L2) ->
 W2 (Ij f [.ref t,.int (l:Int),Ar rest] L) Q
theorem Vi{G:BE}{X X':List Nat}{L L2:AD}{t g m nd nn rt:Nat}{W:D}{es:List (List Str×Nat×List D)}{sp sp':List (Nat×List Str)}{rs rs':List (Nat×Nat)}{mk mk':List ((Nat×List Str)×Nat)}(T:Bw G X L t g m nd nn rt W es sp rs mk)(T':Bw G X' L2 t g m nd nn rt W es sp' rs' mk')(p:sp <+: sp')(hp:L <+: L2):sp'=sp:=by have h1:=CC hp T.nd_;rw[T'.nd_] at h1;have h2:=congrArg List.length (Ob.lst.inj (Option.some.inj h1));rw[An,An,T.len,T'.len] at h2;exact(p.eq_of_length (by omega)).symm
theorem AEf{G:BE}{n l f:Nat}(ih:TY G n l f)(hG:(G.map (·.1)).Nodup)(hGn:∀a∈G.map (·.1),a.length=n)(hn:n<=1000)(hGl:G.length<=16000000)(hGs:∀a∈G.map (·.1),Cf G a<=16777216)
  {X:List Nat} {L:AD} {t g m nd nn rt:Nat} {W:D} {es:List (List Str×Nat×List D)} {sp:List (Nat×List Str)} {rs:List (Nat×Nat)} {mk:List ((Nat×List Str)×Nat)} {Q:ALM} {rest:List Str}
  (T:Bw G X L t g m nd nn rt W es sp rs mk) (hX:∀x∈X,x<L.length) (hr:rest.length=n) (hz:mk.length+CA G.length (l+1)<=16000000) (hrs:rs.length+CA G.length (l+1)<=16000000)
  (h:∀L2 sp' rs' mk' k,Bw G X L2 t g m nd nn rt W es sp' rs' mk'->sp <+: sp'->mk'.length<=mk.length+G.length*CA G.length l->rs'.length<=rs.length+CA G.length (l+1)->EL G sp' k (l+1) rest->BA [nd,nn] L L2->Q (.int (k:Int)) L2) :
  W2 (Mq (Ij f) [.ref t,.int ((l+1:Nat):Int),Ar rest] L) Q:=by
 unfold Mq;refine LL rfl ?_;unfold RA;simp only[LJ];refine CK (λρ L1=>FD L1 L.length 0 (L.length+1) [] 0/\L1.length=L.length+2/\L <+: L1/\ρ=[some (.ref t),some (.int ((l+1:Nat):Int)),some (Ar rest),some (.ref L.length),none,none,none]) ?_ ?_
 .rfl';refine Rs As λL1 n1 l1 k1=>⟨rfl,?_⟩;have e1:(L++[Ob.ins "Node" []]).length=L.length+1:=by simp
  rw[e1] at n1 l1;have p1:L <+: L1:=(((BA.app [L.length] L [Ob.ins "Node" []]).trans k1).mono λj hj=>.inr (by simp at hj;omega)).pre;rfl';exact⟨n1,by omega,p1,rfl⟩
 rintro ρ L1 ⟨n1,l1,p1,rfl⟩;have T1:=T.pre p1;have htl:=VE (G:=G) (l:=l+1) (rest:=rest)
 have hfree:∀x,L.length<=x->x∉[nd,nn]:=λx hx hm=>by
  have h1:=DU T.nd_;obtain⟨ep,h2⟩:=T.nn_;have h2:=DU h2;simp only[Ae,EH,or_false] at hm;omega
 refine CK (λρ L'=>∃sp' rs' mk' kvs ep,Bw G (L.length::(L.length+1)::(L.length+2)::X) L' t g m nd nn rt W es sp' rs' mk'/\sp <+: sp'/\mk'.length<=mk.length+G.length*CA G.length l/\rs'.length<=rs.length+G.length*CA G.length l /\
  FD L' L.length (AT G (l+1) rest:Int) (L.length+1) kvs ep/\Paired (Ga G sp' l) (FC G l rest) kvs/\BA [nd,nn] L L'/\∃e4 e5 e6,ρ=[some (.ref t),some (.int ((l+1:Nat):Int)),some (Ar rest),some (.ref L.length),e4,e5,e6]) ?_ ?_
 .have ht1:=T1.t_;rfl';refine ABK T1 (l+1) rest ?_;rfl';generalize hL2:L1++[Ob.lst ((Ba G (l+1) rest).map Ar)]=L2;have p2:L1 <+: L2:=by rw[<-hL2];exact BB _ _
  have l2:L2.length=L.length+3:=by rw[<-hL2];simp[l1]
  have a2:L2[L1.length]?=some (.lst ((Ba G (l+1) rest).map Ar)):=by rw[<-hL2];exact As
  have n2:FD L2 L.length 0 (L.length+1) [] 0:=⟨CC p2 n1.1,CC p2 n1.2⟩
  have T2:Bw G (L.length::(L.length+1)::(L.length+2)::X) L2 t g m nd nn rt W es sp rs mk:=by
   refine(T.more λy hy=>?_).pre (p1.trans p2);simp only[Ae] at hy;rcases hy with rfl|rfl|rfl|hy
   .exact .inr (by omega)
   .exact .inr (by omega)
   .exact .inr (by omega)
   .exact .inl hy
  rw[l1] at a2 ⊢
  refine Da (λj ρ L'=>∃sp' rs' mk' kvs ep,Bw G (L.length::(L.length+1)::(L.length+2)::X) L' t g m nd nn rt W es sp' rs' mk'/\sp <+: sp'/\mk'.length<=mk.length+j*CA G.length l/\rs'.length<=rs.length+j*CA G.length l /\
   FD L' L.length ((Dd G l rest ((Ba G (l+1) rest).take j)).2:Int) (L.length+1) kvs ep/\Paired (Ga G sp' l) (Dd G l rest ((Ba G (l+1) rest).take j)).1 kvs/\L'[L.length+2]?=some (.lst ((Ba G (l+1) rest).map Ar))/\BA [nd,nn] L L' /\
   ∃e4 e5 e6,ρ=[some (.ref t),some (.int ((l+1:Nat):Int)),some (Ar rest),some (.ref L.length),e4,e5,e6]) _ 0 _ _ ⟨sp,rs,mk,[],0,T2,Ac _,by omega,by omega,n2,.nil,a2,.of_pre (p1.trans p2),none,none,none,rfl⟩ ?_ ?_
  .rintro i x ρ L' hx ⟨sp',rs',mk',kvs,ep,T',psp,hmk,hrs',nA,pA,hL',hk,e4,e5,e6,rfl⟩;refine⟨decide_eq_true hL',?_⟩;rw[BH] at hx
   cases hse:(Ba G (l+1) rest)[i]? with
   |none=>rw[hse] at hx;cases hx
   |some a =>
   rw[hse] at hx;cases hx;have hi:i<(Ba G (l+1) rest).length:=(BY.mp hse).1;have haG:=JX (Cd hse)
   have hst:Dd G l rest ((Ba G (l+1) rest).take (0+i+1))=EE G l rest (Dd G l rest ((Ba G (l+1) rest).take (0+i))) a:=by unfold Dd;rw[Si hse]
   have hmul:(i+1)*CA G.length l<=G.length*CA G.length l:=AJ3 _ (by omega);have hcn:CA G.length (l+1)=1+G.length*CA G.length l:=rfl;rw[AJu,Nat.one_mul] at hmul;have hstep:(0+i+1)*CA G.length l=(0+i)*CA G.length l+CA G.length l:=by rw[AJu (0+i) 1,Nat.one_mul]
   have hzi:(0+i)*CA G.length l=i*CA G.length l:=by rw[CI]
   have hmk2:mk'.length+CA G.length l<=16000000:=by omega
   have hrs2:rs'.length+CA G.length l<=16000000:=by omega
   rfl';refine AHJ (by rw[hGn a haG,hr]) (by omega) (λhb=>?_) (λb hb=>?_)
   .have e7:EE G l rest (Dd G l rest ((Ba G (l+1) rest).take (0+i))) a=Dd G l rest ((Ba G (l+1) rest).take (0+i)):=by unfold EE;rw[hb]
    rw[hst,e7];rfl';exact⟨sp',rs',mk',kvs,ep,T',psp,by omega,by omega,nA,pA,hL',hk,_,_,_,rfl⟩
   .rfl';refine Kt rfl ?_;have ec:((l+1:Nat):Int)-1=(l:Int):=by omega
    rfl';rw[ec];refine ih T' (λy hy=>?_) (by rw[TB hb,hr]) hmk2 hrs2 λL3 sp3 rs3 mk3 k3 T3 psp3 hmk3' hrs3 nk3 hk3=>?_
    .have hkl:=hk.1;have hl2:=DU hL';simp only[Ae] at hy;rcases hy with rfl|rfl|rfl|hy
     .omega
     .omega
     .omega
     .have:=hX y hy;omega
    have nA3:FD L3 L.length ((Dd G l rest ((Ba G (l+1) rest).take (0+i))).2:Int) (L.length+1) kvs ep:=⟨hk3.get (hfree _ (Al _)) nA.1,hk3.get (hfree _ (by omega)) nA.2⟩;have hL3:L3[L.length+2]?=some (.lst ((Ba G (l+1) rest).map Ar)):=hk3.get (hfree _ (by omega)) hL';have pA3:Paired (Ga G sp3 l) (Dd G l rest ((Ba G (l+1) rest).take (0+i))).1 kvs:=Ro pA λ_ _=>Ga.mono psp3;have hone:=nk3.one;rfl';refine Bs (λhne=>?_) (λhne=>?_)
    .have hk1:k3=1:=by omega
     have hw0:=hone.mp hk1;have e7:EE G l rest (Dd G l rest ((Ba G (l+1) rest).take (0+i))) a=Dd G l rest ((Ba G (l+1) rest).take (0+i)):=by unfold EE;rw[hb];simp only;rw[if_pos hw0]
     rw[hst,e7];rfl';exact⟨sp3,rs3,mk3,kvs,ep,T3,psp.trans psp3,by omega,by omega,nA3,pA3,hL3,hk.trans hk3,_,_,_,rfl⟩
    .have hk1:k3≠1:=by omega
     have hw0:AT G l b≠0:=λz=>hk1 (hone.mpr z)
     have e7:EE G l rest (Dd G l rest ((Ba G (l+1) rest).take (0+i))) a=((Dd G l rest ((Ba G (l+1) rest).take (0+i))).1++[(a,(Dd G l rest ((Ba G (l+1) rest).take (0+i))).2,b)],(Dd G l rest ((Ba G (l+1) rest).take (0+i))).2+Cf G a*AT G l b):=by unfold EE;rw[hb];simp only;rw[if_neg hw0]
     rw[hst,e7]
     have hknew:BM (Ar a)∉kvs.map (·.1):=by rw[MH pA3];intro hm;obtain⟨y,hy,hy2⟩:=BC.mp hm;have hya:=EM.kf hy2;have hsub:=(OE G l rest ((Ba G (l+1) rest).take (0+i))).subset (Cj (f:=λx:List Str×Nat×List Str=>x.1) hy);have hnd:((Ba G (l+1) rest).take (0+i+1)).Nodup:=List.Sublist.nodup (List.take_sublist _ _) (RL hG _ _);rw[Io hse,Hl] at hnd;exact hnd.2.2 _ hsub a (by simp) hya
     have hkvl:kvs.length<=i:=by have h1:=congrArg List.length (MH pA3);rw[An,An] at h1;have h2:=(OE G l rest ((Ba G (l+1) rest).take (0+i))).length_le;rw[An,HF] at h2;omega
     generalize hwz:(Dd G l rest ((Ba G (l+1) rest).take (0+i))).2=wz at *;generalize haz:(Dd G l rest ((Ba G (l+1) rest).take (0+i))).1=az at *;have n3a:=nA3.1;rfl';refine Sg (kk:=BM (Ar a)) nA3.2 (by omega) (EM.key a) ?_;have hput:=λd ep=>NJ (d:=d) (ep:=ep) hknew;rw[(hput _ 0).1,(hput .non _).2];generalize hL4:L3.set (L.length+1) (.dt (kvs++[(BM (Ar a),.tup [.int (wz:Int),.int (k3:Int)])]) (ep+1))=L4;have T4:Bw G (L.length::(L.length+1)::(L.length+2)::X) L4 t g m nd nn rt W es sp3 rs3 mk3:=by rw[<-hL4];exact T3.setX (by simp) _
     have nA4:FD L4 L.length (wz:Int) (L.length+1) (kvs++[(BM (Ar a),.tup [.int (wz:Int),.int (k3:Int)])]) (ep+1):=by rw[<-hL4];exact⟨FX (by omega) nA3.1,Dh nA3.2⟩
     have hL4':L4[L.length+2]?=some (.lst ((Ba G (l+1) rest).map Ar)):=by rw[<-hL4];exact FX (by omega) hL3
     have hk4:BA [nd,nn] L L4:=by rw[<-hL4];exact(hk.trans hk3).set (.inr (by omega))
     have ht4:=T4.t_;obtain⟨epg,hg4⟩:=T4.g_.at_;have hnd4:=T4.nd_;obtain⟨ds,hds,hsz⟩:=Xt haG;obtain⟨q,hq1,hq2⟩:=T4.g_.get EM (k:=a) (ds:=ds) (by rw[T4.gc];exact hds);obtain⟨r0,a0,kv0,ep0,hr0,m0,_⟩:=T4.node nk3 hk1;have n4a:=nA4.1;have m0a:=m0.1;rfl';refine AHO nA4.1 (by simp) rfl ?_;rfl';refine JD (kk:=BM (Ar a)) hg4 (EM.key a) hq1 ?_;rfl';refine DV (d:=.ref r0) hnd4 (Eh (by rw[BH,hr0];rfl)) ?_;rfl';refine Gk (La (by have:=hGs a haG;rw[hsz] at this;omega)) ?_;refine⟨_,_,rfl,n4a,by show 2<1000;decide,?_⟩;refine⟨sp3,rs3,mk3,_,ep+1,T4.setX (by simp) _,psp.trans psp3,by omega,by omega,⟨?_,FX (by omega) nA4.2⟩,AD6 pA3 ⟨k3,rfl,nk3⟩,FX (by omega) hL4',hk4.set (.inr (Al _)),_,_,_,rfl⟩;rw[Dh n4a,hsz];push_cast;rfl
  .rintro ρ L' ⟨sp',rs',mk',kvs,ep,T',psp,hmk,hrs',nA,pA,hL',hk,e4,e5,e6,rfl⟩;rw[An,CI] at hmk hrs';have hmx:=AJ3 (CA G.length l) htl;refine⟨decide_eq_true hL',sp',rs',mk',kvs,ep,T',psp,by omega,by omega,?_,?_,hk,_,_,_,rfl⟩
   .rw[An,CI,HD,ZN] at nA;exact nA
   .rw[An,CI,HD] at pA;exact pA
 rintro ρ L3 ⟨sp',rs',mk',kvs,ep,T',psp,hmk,hrs',nA,pA,hk,e4,e5,e6,rfl⟩;have TX:Bw G X L3 t g m nd nn rt W es sp' rs' mk':=T'.more λy hy=>.inl (by simp[hy]);have n3a:=nA.1;have ht3:=TX.t_;have hnd3:=TX.nd_;rfl';refine Bs (λhw0=>?_) (λhw0=>?_)
 .have hw:AT G (l+1) rest=0:=by omega
  rfl';have hcn:CA G.length (l+1)=1+G.length*CA G.length l:=rfl;refine⟨λhp _=>?_,h L3 sp' rs' mk' 1 TX psp hmk (by omega) (.inl ⟨hw,rfl⟩) hk⟩;exact h L sp rs mk 1 T (Ac _) (by omega) (by omega) (.inl ⟨hw,rfl⟩) (.refl _ _)
 .have hw:AT G (l+1) rest≠0:=by omega
  have hmx:=hz;have hcn:CA G.length (l+1)=1+G.length*CA G.length l:=rfl;rfl';refine Hy hnd3 (by rw[An];omega) ?_;have hnd5:(L3.set nd (.lst (rs'.map (λp=>D.ref p.1)++[.ref L.length])))[nd]?=some (.lst (rs'.map (λp=>D.ref p.1)++[.ref L.length])):=Dh hnd3;have ht5:(L3.set nd (.lst (rs'.map (λp=>D.ref p.1)++[.ref L.length])))[t]?=some (.ins "Table" (NA W g m nd nn rt)):=Nj hnd3 ht3 (by simp);rfl';have el:(((rs'.map (λp=>D.ref p.1)++[D.ref L.length]).length:Nat):Int)-1=((sp'.length+2:Nat):Int):=by rw[Ck,An,T'.len];simp
  rw[el];have hndn:nd≠L.length/\nd≠L.length+1:=by have:=DU T.nd_;omega
  have pq:sp' <+: sp'++[(l,rest)]:=BB _ _
  have T5:Bw G X (L3.set nd (.lst (rs'.map (λp=>D.ref p.1)++[.ref L.length]))) t g m nd nn rt W es (sp'++[(l,rest)]) (rs'++[(L.length,L.length+1)]) mk':=by
   have stay:∀j,j≠nd->(L3.set nd (.lst (rs'.map (λp=>D.ref p.1)++[.ref L.length])))[j]?=L3[j]?:=λj hj=>Em (Ne.symm hj);obtain⟨epg,hg0⟩:=TX.g_.at_;obtain⟨epn,hnn0⟩:=TX.nn_;have ne1:g≠nd:=λz=>by rw[z,hnd3] at hg0;cases hg0
   have ne2:nn≠nd:=λz=>by rw[z,hnd3] at hnn0;cases hnn0
   refine⟨ht5,TX.g_.same (stay g ne1) λq hq=>stay q λz=>TX.ndg (z▸hq),TX.gc,by rw[hnd5];simp,⟨epn,(stay nn ne2).trans hnn0⟩,λe he=>(TX.mk_ e he).mono pq,by rw[Ck,Ck,TX.len];simp,λi r a hi=>?_,TX.ndg,TX.nng,λp hp=>?_,λx hx=>?_⟩
   .by_cases hlt:i<rs'.length
    .rw[Fh hlt] at hi;have hN:=TX.nod i r a hi;obtain⟨w0,kv0,ep0,m0⟩:=hN.node;refine hN.mono pq (stay r λz=>?_) (stay a λz=>?_)
     .have:=m0.1;rw[z,hnd3] at this;cases this
     .have:=m0.2;rw[z,hnd3] at this;cases this
    .have hi':i=sp'.length+2:=by
      have:=(BY.mp hi).1;rw[Ck,TX.len] at this;rw[TX.len] at hlt;simp at this;omega
     subst hi';rw[AJ0 (by rw[TX.len];exact Al _),TX.len,Nat.sub_self] at hi;cases hi;exact⟨l,rest,kvs,ep,by simp,⟨(stay _ (Ne.symm hndn.1)).trans nA.1,(stay _ (Ne.symm hndn.2)).trans nA.2⟩,Ro pA λ_ _=>Ga.mono pq⟩
   .rcases DB.mp hp with hp|hp
    .exact TX.nnr p hp
    .have:p=(L.length,L.length+1):=by simpa using hp
     subst this;obtain⟨ep0,h0⟩:=T.nn_;have:=DU h0;show nn≠L.length+1;omega
   .obtain⟨h1,h2,h3,h4,h5,h6⟩:=TX.out x hx;refine⟨h1,h2,h3,h4,h5,λp hp=>?_⟩;rcases DB.mp hp with hp|hp
    .exact h6 p hp
    .have:p=(L.length,L.length+1):=by simpa using hp
     subst this;have:=hX x hx;exact⟨by show x≠L.length;omega,by show x≠L.length+1;omega⟩
  refine⟨λhp _=>?_,h _ (sp'++[(l,rest)]) (rs'++[(L.length,L.length+1)]) mk' (sp'.length+2) T5 (psp.trans pq) hmk (by simp;omega) (.inr ⟨hw,sp'.length,rfl,by simp⟩) (hk.set (.inl (by simp)))⟩;have hbad:=Vi T T5 (psp.trans pq) hp;have:=congrArg List.length hbad;have hl:=psp.length_le;rw[Ck] at this;simp at this;omega
def Es(mk:List ((Nat×List Str)×Nat))(k:Nat×List Str)(v:Nat):List ((Nat×List Str)×Nat):=if k∈mk.map (·.1) then mk.map (λe=>if e.1=k then (e.1,v) else e) else mk++[(k,v)]
theorem ACr(mk:List ((Nat×List Str)×Nat))(k:Nat×List Str)(v:Nat):(Es mk k v).length<=mk.length+1:=by
 unfold Es;split
 .rw[An];omega
 .simp
theorem ACq{mk:List ((Nat×List Str)×Nat)}{k:Nat×List Str}{v:Nat}{e:(Nat×List Str)×Nat}(h:e∈Es mk k v):e∈mk\/e=(k,v):=by
 unfold Es at h;split at h
 .obtain⟨x,hx,rfl⟩:=BC.mp h
  by_cases z:x.1=k
  .rw[if_pos z];exact .inr (by rw[z])
  .rw[if_neg z];exact .inl hx
 .rcases DB.mp h with h|h
  .exact .inl h
  .exact .inr (by simpa using h)
theorem ACY(mk:List ((Nat×List Str)×Nat))(k:Nat×List Str)(v:Nat):Ea (Es mk k v)=Dq (Ea mk) (BM (Ed k)) (.int (v:Int)):=by
 by_cases h:k∈mk.map (·.1)
 .have h2:((Ea mk).any λkv=>decide (kv.1=BM (Ed k)))=true:=by
   obtain⟨e,he,rfl⟩:=BC.mp h;rw[List.any_eq_true];exact⟨(BM (Ed e.1),.int (e.2:Int)),Cj (f:=λe:(Nat×List Str)×Nat=>(BM (Ed e.1),D.int (e.2:Int))) he,by simp⟩
  unfold Dq;rw[if_pos h2];unfold Es;rw[if_pos h];unfold Ea;rw[Cs,Cs];apply HE;intro e _
  show(BM (Ed (if e.1=k then (e.1,v) else e).1),D.int ((if e.1=k then (e.1,v) else e).2:Int))=if BM (Ed e.1)=BM (Ed k) then (BM (Ed e.1),D.int (v:Int)) else (BM (Ed e.1),D.int (e.2:Int))
  by_cases z:e.1=k
  .rw[if_pos z,if_pos (by rw[z])]
  .rw[if_neg z,if_neg (λy=>z (Jk.kf y))]
 .have hn:BM (Ed k)∉(Ea mk).map (·.1):=λhm=>by
   unfold Ea at hm;rw[Cs] at hm;obtain⟨e,he,h2⟩:=BC.mp hm;exact h (by rw[<-Jk.kf h2];exact Cj he)
  rw[(NJ (ep:=0) hn).1];unfold Es;rw[if_neg h];unfold Ea;rw[Dz];rfl
theorem AFG(mk:List ((Nat×List Str)×Nat))(k:Nat×List Str)(v:Nat):CG (Ea (Es mk k v)) (BM (Ed k))=some (.int (v:Int)):=by
 rw[XG]
 have hin:k∈(Es mk k v).map (·.1):=by
  unfold Es
  by_cases h:k∈mk.map (·.1)
  .rw[if_pos h,Cs];obtain⟨e,he,hek⟩:=BC.mp h;refine BC.mpr ⟨e,he,?_⟩
   show(if e.1=k then (e.1,v) else e).1=k
   rw[if_pos hek];exact hek
  .rw[if_neg h];simp
 obtain⟨e,hf,he,hk⟩:=HU hin;rw[hf];unfold Es at he
 by_cases h:k∈mk.map (·.1)
 .rw[if_pos h] at he;obtain⟨x,_,rfl⟩:=BC.mp he
  by_cases z:x.1=k
  .rw[if_pos z];rfl
  .rw[if_neg z] at hk;exact absurd hk z
 .rw[if_neg h] at he;rcases DB.mp he with he|he
  .exact absurd (by rw[<-hk];exact Cj he) h
  .have:e=(k,v):=by simpa using he
   rw[this];rfl
theorem Wl{G:BE}{n:Nat}(hG:(G.map (·.1)).Nodup)(hGn:∀a∈G.map (·.1),a.length=n)(hn:n<=1000)(hGl:G.length<=16000000)(hGs:∀a∈G.map (·.1),Cf G a<=16777216):∀(l f:Nat),l<f->TY G n l f
 |0,0,hf=>absurd hf (by omega)
 |0,f+1,hf=>by
  intro T hX hr hz hrs h;rename_i X L t g m nd nn rt W es sp rs mk Q rest;unfold Ij;refine By rfl ?_;unfold Mp;simp only[Mb];rfl';exact⟨rfl,Ac _,h L sp rs mk 0 T (Ac _) (by omega) (by omega) rfl (.refl _ _)⟩
 |l+1,0,hf=>absurd hf (by omega)
 |l+1,f+1,hf=>by
  intro T hX hr hz hrs h;rename_i X L t g m nd nn rt W es sp rs mk Q rest;have ih:TY G n l f:=Wl hG hGn hn hGl hGs l f (by omega);unfold Ij;refine LL rfl ?_;unfold Mp;have ht:=T.t_;obtain⟨epn,hnn⟩:=T.nn_;have hcn:CA G.length (l+1)=1+G.length*CA G.length l:=rfl;rfl';refine Se hnn (Jk.key (l+1,rest)) ?_;have hlk:=XG mk (l+1,rest)
  cases hf:mk.find? (λe=>decide (e.1=(l+1,rest))) with
  |some e =>
   rw[hf] at hlk;have hem:=AK2 hf;have hek:e.1=(l+1,rest):=by have:=List.find?_some hf;simpa using this
   have hnum:=T.mk_ e hem;rw[hek] at hnum;rw[hlk];rfl';refine Kt rfl ?_;rfl';refine JD (kk:=BM (Ed (l+1,rest))) hnn (Jk.key (l+1,rest)) hlk ?_;refine⟨λ_ _=>h L sp rs mk e.2 T (Ac _) (by omega) (by omega) hnum (.refl _ _),h L sp rs mk e.2 T (Ac _) (by omega) (by omega) hnum (.refl _ _)⟩
  |none =>
   rw[hf] at hlk;rw[hlk];rfl';refine Sy rfl ?_;rfl';refine AEf ih hG hGn hn hGl hGs T hX hr hz hrs λL2 sp2 rs2 mk2 k2 T2 psp2 hmk2 hrs2 nk2 hk2=>?_;have ht2:=T2.t_;obtain⟨ep2,hnn2⟩:=T2.nn_;rfl';refine Sg (kk:=BM (Ed (l+1,rest))) hnn2 (by unfold Ea;rw[An];omega) (Jk.key (l+1,rest)) ?_;have hput:=ACY mk2 (l+1,rest) k2;rw[<-hput];have hlk3:=AFG mk2 (l+1,rest) k2;have ne1:nn≠nd:=λz=>by have:=T2.nd_;rw[<-z,hnn2] at this;cases this
   generalize hep:epN (Ea mk2) (BM (Ed (l+1,rest))) ep2=ep3;have hnn3:(L2.set nn (.dt (Ea (Es mk2 (l+1,rest) k2)) ep3))[nn]?=some (.dt (Ea (Es mk2 (l+1,rest) k2)) ep3):=Dh hnn2;have stay:∀j,j≠nn->(L2.set nn (.dt (Ea (Es mk2 (l+1,rest) k2)) ep3))[j]?=L2[j]?:=λj hj=>Em (Ne.symm hj);have ht3:(L2.set nn (.dt (Ea (Es mk2 (l+1,rest) k2)) ep3))[t]?=some (.ins "Table" (NA W g m nd nn rt)):=Nj hnn2 ht2 (by simp)
   have T3:Bw G X (L2.set nn (.dt (Ea (Es mk2 (l+1,rest) k2)) ep3)) t g m nd nn rt W es sp2 rs2 (Es mk2 (l+1,rest) k2):=by
    refine⟨ht3,T2.g_.same (stay g (Ne.symm T2.nng)) λq hq=>stay q λz=>?_,T2.gc,(stay nd (Ne.symm ne1)).trans T2.nd_,⟨ep3,hnn3⟩,λe he=>?_,T2.len,λi r a hi=>?_,T2.ndg,T2.nng,T2.nnr,T2.out⟩
    .obtain⟨e,he,rfl⟩:=BC.mp hq;have:=T2.g_.it e he;rw[z,hnn2] at this;cases this
    .rcases ACq he with h'|rfl
     .exact T2.mk_ e h'
     .exact nk2
    .have hN:=T2.nod i r a hi;obtain⟨w0,kv0,ep0,m0⟩:=hN.node;refine hN.mono (Ac _) (stay r λz=>?_) (stay a λz=>?_)
     .have:=m0.1;rw[z,hnn2] at this;cases this
     .exact T2.nnr _ (Cd hi) z.symm
   have hml:=ACr mk2 (l+1,rest) k2;rfl';refine JD (kk:=BM (Ed (l+1,rest))) hnn3 (Jk.key (l+1,rest)) hlk3 ?_;refine⟨λhp _=>?_,h _ sp2 rs2 _ k2 T3 psp2 (by omega) (by omega) nk2 (hk2.set (.inl (by simp)))⟩;have hsp:=Vi T T3 psp2 hp;rw[hsp] at nk2;exact h L sp rs mk k2 T (Ac _) (by omega) (by omega) nk2 (.refl _ _)
theorem Xn{w:List Str}:∀(A:List (List Str×List D)) {c:List (List Str×List D)} {a:List Str} {ps:List D},(a,ps)∈A.foldl (Bo w) c->∀p∈ps,(∃qs,(a,qs)∈c/\p∈qs)\/∃x∈A,x.1=a/\p∈x.2
 |[],c,a,ps,h,p,hp=>.inl ⟨ps,h,hp⟩
 |x::A,c,a,ps,h,p,hp=>by
  rcases Xn A (c:=Bo w c x) h p hp with⟨qs,h1,h2⟩|⟨y,hy,h1,h2⟩
  .unfold Bo at h1;split at h1
   .rcases KA h1 with h'|⟨h3,h'|⟨zs,h',h4⟩⟩
    .exact .inl ⟨qs,h',h2⟩
    .exact .inr ⟨x,BW,h3.symm,by rw[<-h'];exact h2⟩
    .rw[h4] at h2;rcases DB.mp h2 with h2|h2
     .exact .inl ⟨zs,by rw[h3];exact h',h2⟩
     .exact .inr ⟨x,BW,h3.symm,h2⟩
   .exact .inl ⟨qs,h1,h2⟩
  .exact .inr ⟨y,BQ _ hy,h1,h2⟩
theorem WL{ts:List Str}:∀(A:List D) {c:List (List Int×List D)} {a:List Int} {ps:List D},(a,ps)∈A.foldl (CQ ts) c->∀p∈ps,(∃qs,(a,qs)∈c/\p∈qs)\/(p∈A/\Er ts p=some a)
 |[],c,a,ps,h,p,hp=>.inl ⟨ps,h,hp⟩
 |x::A,c,a,ps,h,p,hp=>by
  rcases WL A (c:=CQ ts c x) h p hp with⟨qs,h1,h2⟩|⟨h1,h2⟩
  .unfold CQ at h1
   cases e:Er ts x with
   |none=>rw[e] at h1;exact .inl ⟨qs,h1,h2⟩
   |some ks =>
    rw[e] at h1
    have hx:∀p,p∈[x]->(p∈x::A/\Er ts p=some ks):=λp hp=>by
     have:p=x:=by simpa using hp
     subst this;exact⟨BW,e⟩
    rcases KA h1 with h'|⟨h3,h'|⟨zs,h',h4⟩⟩
    .exact .inl ⟨qs,h',h2⟩
    .rw[h'] at h2;rw[h3];exact .inr (hx p h2)
    .rw[h4] at h2;rcases DB.mp h2 with h2|h2
     .exact .inl ⟨zs,by rw[h3];exact h',h2⟩
     .rw[h3];exact .inr (hx p h2)
  .exact .inr ⟨BQ _ h1,h2⟩
theorem WH{ts:List Str}{ks:List Int}{ps:List D}(h:(ks,ps)∈CD ts){p:D}(hp:p∈ps):p∈DP/\Er ts p=some ks:=by
 rcases WL DP h p hp with⟨_,h1,_⟩|h1
 .cases h1
 .exact h1
theorem Xo{w:List Str}:∀(A:List (List Str×List D)) {c:List (List Str×List D)} {a:List Str},a∈(A.foldl (Bo w) c).map (·.1)->a∈c.map (·.1)\/∃x∈A,x.1=a
 |[],c,a,h=>.inl h
 |x::A,c,a,h=>by
  rcases Xo A (c:=Bo w c x) h with h1|⟨y,hy,h1⟩
  .unfold Bo at h1;split at h1
   .rw[TM] at h1;split at h1
    .exact .inl h1
    .rcases DB.mp h1 with h1|h1
     .exact .inl h1
     .have h5:a=x.1:=by simpa using h1
      exact .inr ⟨x,BW,h5.symm⟩
   .exact .inl h1
  .exact .inr ⟨y,BQ _ hy,h1⟩
theorem OI{ws ts:List Str}{x:List Str×List D}(h:x∈Cy ws ts++FP ts (CD ts)):(∃w∈ws,x=(ts.map (λ_=>w),[Hn w]))\/∃s∈CD ts,∃e∈CD ts,∃d∈Dw,Fb ts s.1 e.1=true/\x=Gs ts s e d:=by
 rcases DB.mp h with h|h
 .obtain⟨w,hw,rfl⟩:=BC.mp h;exact .inl ⟨w,hw,rfl⟩
 .obtain⟨s,hs,h⟩:=EW.mp h;obtain⟨e,he,h⟩:=EW.mp h;unfold Cv at h;split at h
  .obtain⟨d,hd,rfl⟩:=BC.mp h;exact .inr ⟨s,hs,e,he,d,hd,by assumption,rfl⟩
  .cases h
theorem Xr{ws ts w:List Str}{a:List Str}(h:a∈(CU ws ts w).map (·.1)):a.length=ts.length:=by
 rcases Xo _ h with h|⟨x,hx,rfl⟩
 .cases h
 .rcases OI hx with⟨w,_,rfl⟩|⟨s,_,e,_,d,_,_,rfl⟩
  .simp
  .unfold Gs;simp[Sr]
theorem Xq(ws ts w:List Str):((CU ws ts w).map (·.1)).Nodup:=Xm _ .nil
def ON(ws ts:List Str)(a:List Str)(p:D):Prop:=Fy ws p/\dNK p=some (BM p)/\∀i,i<ts.length->CS (ts.getD i "") p=.str (a.getD i "")
theorem SR{ts:List Str}{p:D}{ks:List Int}(h:Er ts p=some ks){i:Nat}(hi:i<ts.length):Df p (ts.getD i "")=.int (ks.getD i 0):=by
 have e:=Lf h;have hl:ks.length=ts.length:=by have:=congrArg List.length e;simpa using this.symm
 have h1:=congrArg (λl=>l[i]?) e;simp only[BH] at h1;have e1:ts[i]?=some (ts.getD i ""):=by simp[hi]
 have e2:ks[i]?=some (ks.getD i 0):=by simp[hl,hi]
 rw[e1,e2] at h1;exact Option.some.inj h1
theorem Xp{ws ts w:List Str}{a:List Str}{ps:List D}(h:(a,ps)∈CU ws ts w){p:D}(hp:p∈ps):ON ws ts a p:=by
 rcases Xn _ h p hp with⟨_,h1,_⟩|⟨x,hx,rfl,h2⟩
 .cases h1
 .rcases OI hx with⟨w,hw,rfl⟩|⟨s,hs,e,he,d,hd,hlt,rfl⟩
  .have:p=Hn w:=by simpa using h2
   subst this;refine⟨.inl ⟨w,hw,rfl⟩,Le rfl,λi hi=>?_⟩;have:(ts.map λ_=>w).getD i ""=w:=by simp[hi]
   rw[this];rfl
  .unfold Gs FB at h2;simp only[EW,BC] at h2;obtain⟨x,hx,y,hy,rfl⟩:=h2;obtain⟨hx1,hx2⟩:=WH (ks:=s.1) (ps:=s.2) hs hx;obtain⟨hy1,hy2⟩:=WH (ks:=e.1) (ps:=e.2) he hy;have px:=Rf x hx1;have py:=Rf y hy1
   have hdd:MP d:=by simp only[Dw,Ae,EH,or_false] at hd;exact hd
   refine⟨.inr ⟨d,x,y,rfl,hdd,px,py⟩,?_,λi hi=>?_⟩
   .obtain⟨k,n,e,rfl,_⟩:=px;obtain⟨k',n',e',rfl,_⟩:=py;exact Le rfl
   .have i1:=SR hx2 hi;have i2:=SR hy2 hi;have hl:=of_decide_eq_true (CW.mp hlt i (Cr.mpr hi))
    have ec:((Ey ts s.1 e.1 ts.length).map (Ex d)).getD i ""=Ex d (Txt.slice (ts.getD i "") (some (s.1.getD i 0)) (some (e.1.getD i 0))):=by unfold Ey;simp[hi]
    show CS (ts.getD i "") (.tup [.str d,x,y])=.str (((Ey ts s.1 e.1 ts.length).map (Ex d)).getD i "");rw[ec];obtain⟨k',n',e',rfl,_⟩:=py;rw[LX];rw[i1,i2];simp only;rw[if_neg (by omega)]
theorem Yk{α:Type}{p q:α->Bool}(h:∀x,p x=true->q x=false):∀l:List α,l.countP p+l.countP q<=l.length
 |[]=>by simp
 |x::l=>by
  have ih:=Yk h l;rw[AKQ,AKQ,EX]
  cases hp:p x with
  |false=>cases hq:q x <;> simp <;> omega
  |true=>rw[h x hp];simp;omega
def HM{α:Type}(r:α->α->Bool)(l m:List α):Nat:=(l.map λx=>m.countP (r x)).sum
theorem AD8{α:Type}(r:α->α->Bool)(x:α)(l m:List α):HM r l (x::m)=HM r l m+l.countP (λy=>r y x):=by
 unfold HM
 induction l with
 |nil=>rfl
 |cons y l ih =>
  rw[Am,Am,FF,FF,ih,AKQ,AKQ];omega
theorem WY{α:Type}{r:α->α->Bool}(h:∀x y,r x y=true->r y x=false):∀l:List α,2*HM r l l<=l.length*l.length
 |[]=>by simp[HM]
 |x::l=>by
  have ih:=WY h l
  have hx:r x x=false:=by
   cases e:r x x with
   |false=>rfl
   |true=>rw[h x x e] at e;cases e
  have e1:HM r (x::l) (x::l)=(x::l).countP (r x)+HM r l (x::l):=by unfold HM;rw[Am,FF]
  rw[e1,AD8,AKQ,hx];have h2:=Yk (p:=r x) (q:=λy=>r y x) (λy hy=>h x y hy) l;simp only[AKF,if_false,EX]
  have e3:(l.length+1)*(l.length+1)=l.length*l.length+2*l.length+1:=by rw[AJu,Nat.mul_add];omega
  omega
theorem YK{α β:Type}(f:α->List β)(n:α->Nat)(h:∀x,(f x).length=n x):∀l:List α,(l.flatMap f).length=(l.map n).sum
 |[]=>rfl
 |x::l=>by rw[EY,Ck,h,YK f n h l,Am,FF]
theorem Wa(ts:List Str)(s:List Int×List D):∀P:List (List Int×List D),(P.flatMap λe=>Cv ts s e).length=3*P.countP λe=>Fb ts s.1 e.1
 |[]=>rfl
 |e::P=>by
  rw[EY,Ck,Wa ts s P,AKQ];unfold Cv
  by_cases h:Fb ts s.1 e.1=true
  .rw[if_pos h,if_pos h];simp[Dw];omega
  .rw[if_neg h,if_neg h];simp
theorem VR{α:Type}(f:α->Nat):∀l:List α,(l.map λx=>3*f x).sum=3*(l.map f).sum
 |[]=>rfl
 |x::l=>by rw[Am,FF,VR f l,Am,FF];omega
theorem AHh(ts:List Str):(FP ts (CD ts)).length<=2400:=by
 have hb:=NO ts
 have e1:(FP ts (CD ts)).length=3*HM (λs e=>Fb ts s.1 e.1) (CD ts) (CD ts):=by unfold FP;rw[YK _ (λs=>3*(CD ts).countP λe=>Fb ts s.1 e.1) (λs=>Wa ts s _),VR];rfl
 rw[e1]
 cases ts with
 |nil =>
  have hlen:(CD []).length<=1:=by
   have hnd:((CD []).map (·.1)).Nodup:=by
    have:∀(A:List D) (c:List (List Int×List D)),(c.map (·.1)).Nodup->((A.foldl (CQ []) c).map (·.1)).Nodup:=by
     intro A
     induction A with
     |nil=>intro c h;exact h
     |cons x A ih =>
      intro c h;refine ih _ ?_;unfold CQ;split
      .exact MJ h
      .exact h
    exact this DP [] .nil
   match h:CD [] with
   |[]=>simp
   |[_]=>simp
   |a::b::r =>
    rw[h] at hnd;have h1:a.1=[]:=AKL.mp (NN (ts:=[]) (by rw[h];simp));have h2:b.1=[]:=AKL.mp (NN (ts:=[]) (by rw[h];simp));rw[Am,Am,Hk] at hnd;exact absurd (by rw[h1,h2];simp) hnd.1
  have h2:HM (λs e:List Int×List D=>Fb [] s.1 e.1) (CD []) (CD [])<=1:=by
   unfold HM
   match h:CD [] with
   |[]=>simp
   |[a] =>
    simp only[Am,AJ2,FF,List.sum_nil];have:=List.countP_le_length (p:=λe:List Int×List D=>Fb [] a.1 e.1) (l:=[a]);simp at this ⊢;omega
   |a::b::r=>rw[h] at hlen;simp at hlen
  omega
 |cons t ts =>
  have h:=WY (r:=λs e:List Int×List D=>Fb (t::ts) s.1 e.1) (λs e hse=>by
   rw[AKR];intro hes;have h1:=of_decide_eq_true (CW.mp hse 0 (Cr.mpr (by simp)));have h2:=of_decide_eq_true (CW.mp hes 0 (Cr.mpr (by simp)))
   omega) (CD (t::ts))
  have h3:(CD (t::ts)).length*(CD (t::ts)).length<=40*40:=AJ6 hb.1 hb.1;omega
theorem ZV{ws ts:List Str}{x:List Str×List D}(h:x∈Cy ws ts++FP ts (CD ts)):x.2.length<=1600:=by
 rcases OI h with⟨w,_,rfl⟩|⟨s,hs,e,he,d,_,_,rfl⟩
 .simp
 .show(FB d s.2 e.2).length<=1600;rw[Jv];exact AJ6 ((NO ts).2 s hs) ((NO ts).2 e he)
theorem Sb{ws:List Str}(hw:ws.length<=6)(ts w:List Str):(CU ws ts w).length<=2406/\FH (CU ws ts w)<=4000000/\∀e∈CU ws ts w,e.2.length<=4000000:=by
 have hl:(Cy ws ts++FP ts (CD ts)).length<=2406:=by
  rw[Ck];have:=AHh ts;have:(Cy ws ts).length=ws.length:=by unfold Cy;simp
  omega
 have h1:=Ng (w:=w) (Cy ws ts++FP ts (CD ts)) MF λa ha=>ZV ha;have h2:=Xj (w:=w) (m:=1600) (Cy ws ts++FP ts (CD ts)) (c:=[]) .nil λa ha=>ZV ha;have h3:=AJ3 1600 hl;have e0:FH ([]:List (List Str×List D))=0:=rfl;refine⟨?_,?_,λe he=>?_⟩
 .have:=h1.1;unfold CU;omega
 .unfold CU;omega
 .have:=h1.2 e he;omega
theorem VP{ws:List Str}(hw:ws.length<=6)(ts w:List Str){a:List Str}(h:a∈(CU ws ts w).map (·.1)):Cf (CU ws ts w) a<=4000000:=by
 obtain⟨e,hf,he,_⟩:=HU h;have:Cf (CU ws ts w) a=e.2.length:=by unfold Cf Ef;rw[hf];rfl
 rw[this];exact(Sb hw ts w).2.2 e he
def BK(exs:El):El:=(DQ (exs.map Bi)).map λi=>exs.getD i ("","")
theorem ABz(exs:El):sortP (exs.map Bi)=(BK exs).map Bi:=by unfold sortP BK;rw[Cs];apply HE;intro i hi;have hi2:=Cr.mp ((LY (exs.map Bi)).mem_iff.mp hi);rw[An] at hi2;show(exs.map Bi).getD i D.non=Bi (exs.getD i ("",""));simp[hi2]
theorem NF(exs:El):(BK exs).Perm exs:=by have h:=(LY (exs.map Bi)).map λi=>exs.getD i (("",""):Str×Str);rw[An,Vy] at h;exact h
theorem AHZ(exs:El):(exs.map Bi).all isPr=true:=by rw[CW];intro d hd;obtain⟨e,_,rfl⟩:=BC.mp hd;rfl
theorem AF4{Q:ALM}{L:AD}{k:Nat}{exs:El}(e:L[k]?=some (.lst (exs.map Bi)))(hz:exs.length<64)(h:Q (.ref L.length) (L++[.lst ((BK exs).map Bi)])):W2 (Ll [.ref k] L) Q:=by refine⟨_,_,?_,h⟩;unfold Ll;simp only[e];rw[if_pos (by rw[AHZ,An];simp[hz]),ABz]
def cs(g:Nat):Nat->Nat
 |0=>0
 |j+1=>cs g j+CA g (j+1)
def ID(L:AD)(t:Nat)(ws:List Str)(G:BE)(wd:List Str):Prop:=∃g m nd nn rt es sp rs mk,∃ks:List Nat,Bw G [] L t g m nd nn rt (Ar ws) es sp rs mk/\(∃ep,L[m]?=some (.dt (FM (Dj G)) ep))/\L[rt]?=some (.lst (ks.map λ(k:Nat)=>D.int (k:Int)))/\ks.length=3/\∀i k,ks[i]?=some k->EL G sp k (i+1) wd
theorem ID.pre{L L':AD}{t:Nat}{ws:List Str}{G:BE}{wd:List Str}(T:ID L t ws G wd)(p:L <+: L'):ID L' t ws G wd:=by obtain⟨g,m,nd,nn,rt,es,sp,rs,mk,ks,T,⟨ep,hm⟩,hr,hk,hn⟩:=T;exact⟨g,m,nd,nn,rt,es,sp,rs,mk,ks,T.pre p,⟨ep,CC p hm⟩,CC p hr,hk,hn⟩
def Gw(b:Nat)(L:AD)(t:Nat)(ws:List Str)(G:BE)(wd:List Str):Prop:=∃g m nd nn rt es sp rs mk,∃ks:List Nat,Bw G (List.range b) L t g m nd nn rt (Ar ws) es sp rs mk/\(b<=m/\b<=rt)/\(∃ep,L[m]?=some (.dt (FM (Dj G)) ep))/\L[rt]?=some (.lst (ks.map λ(k:Nat)=>D.int (k:Int)))/\ks.length=3/\∀i k,ks[i]?=some k->EL G sp k (i+1) wd
theorem Gw.tab{b:Nat}{L:AD}{t:Nat}{ws:List Str}{G:BE}{wd:List Str}(T:Gw b L t ws G wd):ID L t ws G wd:=by obtain⟨g,m,nd,nn,rt,es,sp,rs,mk,ks,T,_,h1,h2,h3,h4⟩:=T;exact⟨g,m,nd,nn,rt,es,sp,rs,mk,ks,T.more (λ_ hy=>(nomatch hy)),h1,h2,h3,h4⟩
theorem Gw.pre{b:Nat}{L L':AD}{t:Nat}{ws:List Str}{G:BE}{wd:List Str}(T:Gw b L t ws G wd)(p:L <+: L'):Gw b L' t ws G wd:=by obtain⟨g,m,nd,nn,rt,es,sp,rs,mk,ks,T,hb,⟨ep,hm⟩,hr,hk,hn⟩:=T;exact⟨g,m,nd,nn,rt,es,sp,rs,mk,ks,T.pre p,hb,⟨ep,CC p hm⟩,CC p hr,hk,hn⟩
theorem Gw.set{b:Nat}{L:AD}{t k:Nat}{ws:List Str}{G:BE}{wd:List Str}(T:Gw b L t ws G wd)(h:k<b)(o:Ob):Gw b (L.set k o) t ws G wd:=by obtain⟨g,m,nd,nn,rt,es,sp,rs,mk,ks,T,hb,⟨ep,hm⟩,hr,hk,hn⟩:=T;exact⟨g,m,nd,nn,rt,es,sp,rs,mk,ks,T.setX (Cr.mpr h) o,hb,⟨ep,FX (by omega) hm⟩,FX (by omega) hr,hk,hn⟩
theorem AGX{x l N g:Nat}(h:x<l\/x=N+1+7\/x=N+1+8)(hg:g=l+3)(hN:g<N)(n:Nat)(hn:n<=7):x≠N+n:=by omega
theorem AGZ{x l N g:Nat}(h:x<l\/x=N+1+7\/x=N+1+8)(hg:g=l+3)(hN:g<N):x≠g:=by omega
theorem AGY{x l N g:Nat}(h:x<l\/x=N+1+7\/x=N+1+8)(hg:g=l+3)(h1:x<N)(h2:g<x):False:=by omega
theorem VG{Q:ALM}{L:AD}{w ex:Nat}{ws:List Str}{exs:El}(hw:L[w]?=some (.lst (ws.map D.str)))(hl:ws.length<=6)(he:L[ex]?=some (.lst (exs.map Bi)))(hx:Ii exs)(hxl:exs.length<60)
  (h:∀L2 t,L <+: L2->Gw L.length L2 t ws (CU ws ((BK exs).map (·.1)) ((BK exs).map (·.2))) ((BK exs).map (·.2))->Q (.ref t) L2):W2 (zf1 [.ref w,.ref ex] L) Q:=by
 unfold zf1;refine HJ rfl ?_;unfold Qr;simp only[JR];have hsl:(BK exs).length=exs.length:=(NF exs).length_eq;generalize hts:(BK exs).map (·.1)=ts at h;generalize hwd:(BK exs).map (·.2)=wd at h;have htl:ts.length=exs.length:=by rw[<-hts,An,hsl]
 have hwl:wd.length=ts.length:=by rw[<-hts,<-hwd,An,An]
 have ok:OK ts:=⟨λy hy=>by
  rw[<-hts] at hy;obtain⟨e,he,rfl⟩:=BC.mp hy;have:=hx e ((NF exs).mem_iff.mp he)
  exact⟨this.1,this.2.1⟩,by omega⟩
 generalize hS:BK exs=S at hts hwd hsl;rfl';refine AF4 he (by omega) ?_;rw[hS];rfl'
 refine Im (λρ=>∃e,ρ=[e]) (λx=>match x with|.tup [.str a,.str b]=>.str a|_=>.non) (λacc=>decide_eq_true (Aj As)) ⟨_,rfl⟩ (by rw[An];omega) ?_ ?_
 .rintro x hx ρ ⟨e,rfl⟩;obtain⟨y,_,rfl⟩:=BC.mp hx;unfold Bi;rfl';refine⟨⟨_,rfl⟩,λacc=>?_⟩;rfl';exact⟨rfl,rfl⟩
 have em1:(S.map Bi).map (λx=>match x with|.tup [.str a,.str b]=>D.str a|_=>.non)=ts.map D.str:=by rw[<-hts,Cs,Cs];rfl
 rw[em1];rfl'
 refine Im (λρ=>∃e,ρ=[e]) (λx=>match x with|.tup [.str a,.str b]=>.str b|_=>.non) (λacc=>decide_eq_true (Aj (Aj As))) ⟨_,rfl⟩ (by rw[An];omega) ?_ ?_
 .rintro x hx ρ ⟨e,rfl⟩;obtain⟨y,_,rfl⟩:=BC.mp hx;unfold Bi;rfl';refine⟨⟨_,rfl⟩,λacc=>?_⟩;rfl';exact⟨rfl,rfl⟩
 have em2:(S.map Bi).map (λx=>match x with|.tup [.str a,.str b]=>D.str b|_=>.non)=wd.map D.str:=by rw[<-hwd,Cs,Cs];rfl
 rw[em2];rfl';refine AF2 (Aj (Aj (Aj hw))) hl (Aj As) ok hwl λL1 es p1 g1 c1 a1=>?_;generalize hGg:CU ws ts wd=G at c1 h;have hGb:G.length<=2406/\FH G<=4000000/\∀e∈G,e.2.length<=4000000:=by rw[<-hGg];exact Sb hl ts wd
 have hGnd:(G.map (·.1)).Nodup:=by rw[<-hGg];exact Xq ws ts wd
 have hGn:∀a∈G.map (·.1),a.length=ts.length:=λa ha=>by rw[<-hGg] at ha;exact Xr ha
 have hGs:∀a∈G.map (·.1),Cf G a<=16777216:=λa ha=>by
  rw[<-hGg] at ha ⊢;have:=VP hl ts wd ha;omega
 have hGp:∀e∈G,∀p∈e.2,dNK p=some (BM p):=λe he p hp=>by
  rw[<-hGg] at he;exact(Xp (a:=e.1) (ps:=e.2) he hp).2.1
 generalize hG:(L++[Ob.lst (S.map Bi)]++[Ob.lst (ts.map D.str)]++[Ob.lst (wd.map D.str)]).length=g at g1 a1 ⊢;have hG':g=L.length+3:=by rw[<-hG];simp
 have p1':L <+: L1:=((BB _ _).trans ((BB _ _).trans (BB _ _))).trans p1;have hl1:=p1'.length_le;have gl:=g1.glt;rfl';have g1':DL Ar (L1++[Ob.ins "Table" []]) g es:=g1.pre (BB _ _);refine ABO (M:=FM (Dj G)) As g1'.glt (λL' Q' kL lL q=>?_) λL2 l2 k2 t2 m2 n2 a2 b2 nn2 rt2=>⟨rfl,?_⟩
 .have hLn:L1.length∉g::Bl es:=λhm=>by
   rcases Ae.mp hm with z|z
   .omega
   .have:=g1.lt z;omega
  have gL:DL Ar L' g es:=g1'.keep kL (by simp;omega) λq hq z=>by
   have z':q=L1.length:=by simpa using z
   exact hLn (BQ _ (by rw[<-z'];exact hq))
  refine AEn gL (by rw[c1];exact hGp) (by rw[c1];omega) (by rw[c1];exact λe he=>by have:=hGb.2.2 e he;omega) λep=>?_;rw[c1];exact q ep
 have e1:(L1++[Ob.ins "Table" []]).length=L1.length+1:=by simp
 rw[e1] at t2 m2 n2 a2 b2 nn2 rt2 l2;clear e1;generalize hN:L1.length=N at *;have adl:∀q∈Bl es,q<N:=λq hq=>by rw[<-hN];exact g1.lt hq
 have g2:DL Ar L2 g es:=g1'.keep k2 (by simp;omega) λq hq z=>by
  have:q=N:=by simpa using z
  have:=adl q hq;omega
 have T2:Bw G (List.range L.length++[N+1+7,L2.length]) L2 N g (N+1) (N+1+5) (N+1+6) (N+1+7) (Ar ws) es [] [(N+1+1,N+1+2),(N+1+3,N+1+4)] []:=by
  refine⟨t2,g2,c1,n2,⟨0,nn2⟩,(λ_ hm=>(nomatch hm)),rfl,λi r a hr=>?_,λhm=>?_,by omega,λp hp=>?_,λx hx=>?_⟩
  .match i,hr with
   |0,hr=>cases hr;exact⟨_,a2⟩
   |1,hr=>cases hr;exact⟨_,b2⟩
   |i+2,hr=>simp at hr
  .have:=adl _ hm;omega
  .simp only[Ae,EH,or_false] at hp;rcases hp with rfl|rfl
   .exact λh=>absurd (Nat.add_left_cancel h) (by decide)
   .exact λh=>absurd (Nat.add_left_cancel h) (by decide)
  .have hx2:x<L.length\/x=N+1+7\/x=N+1+8:=by
    rcases DB.mp hx with hx|hx
    .exact .inl (Cr.mp hx)
    .simp only[Ae,EH,or_false] at hx;rcases hx with rfl|rfl
     .exact .inr (.inl rfl)
     .exact .inr (.inr (by omega))
   have far:∀n,n<=7->x≠N+n:=AGX hx2 hG' gl;refine⟨far 0 (FE _),AGZ hx2 hG' gl,λhm=>AGY hx2 hG' (adl _ hm) (a1 _ hm),far 6 (by decide),far 7 (by decide),λp hp=>?_⟩;simp only[Ae,EH,or_false] at hp;rcases hp with rfl|rfl
   .exact⟨far 2 (by decide),far 3 (by decide)⟩
   .exact⟨far 4 (by decide),far 5 (by decide)⟩
 have p2:L <+: L2:=by have:BA [N] L1 L2:=(BA.app _ _ _).trans k2;exact p1'.trans (this.mono λj hj=>.inr (by simp at hj;omega)).pre
 have ht2:=T2.t_;rfl';generalize hM:L2.length=M at *
 have hcs:∀j,j<=3->cs G.length j<=6000000:=λj hj=>by
  have hg:=hGb.1
  have e3:cs G.length 3=3+2*G.length+G.length*G.length:=by simp only[cs,CA];simp only[Nat.mul_zero,Nat.add_zero,Nat.mul_one,Nat.mul_add];omega
  have h4:G.length*G.length<=2406*2406:=AJ6 hg hg
  have:cs G.length j<=cs G.length 3:=by
   match j,hj with
   |0,_=>exact FE _
   |1,_=>simp only[cs];omega
   |2,_=>simp only[cs];omega
   |3,_=>exact Al _
  omega
 refine Ho (I:=λj ρ L'=>(∃e,ρ=[e,some (.ref N),some (Ar wd)])/\∃sp rs mk,∃ks:List Nat,Bw G (List.range L.length++[N+1+7,M]) L' N g (N+1) (N+1+5) (N+1+6) (N+1+7) (Ar ws) es sp rs mk/\mk.length<=cs G.length j/\rs.length<=2+cs G.length j/\ks.length=j/\(∀i k,ks[i]?=some k->EL G sp k (i+1) wd) /\
  BA [N+1+5,N+1+6] L2 L'/\L'[M]?=some (.lst (ks.map λ(k:Nat)=>D.int (k:Int)))) _ 0 _ _ ⟨⟨_,rfl⟩,[],_,[],[],T2.pre (BB _ _),Al _,Al _,rfl,λi k hk=>by simp at hk,.app _ _ _,by rw[<-hM];exact As⟩ ?_ ?_
 .rintro i x ρ L' hx ⟨⟨e,rfl⟩,sp,rs,mk,ks,T,hmk,hrs,hks,hkn,k',hM'⟩;refine⟨rfl,?_⟩
  have hi:i<3/\x=.int ((i+1:Nat):Int):=by
   match i,hx with
   |0,hx=>cases hx;exact⟨by decide,rfl⟩
   |1,hx=>cases hx;exact⟨by decide,rfl⟩
   |2,hx=>cases hx;exact⟨by decide,rfl⟩
   |i+3,hx=>simp at hx
  obtain⟨hi,rfl⟩:=hi;have hc:=hcs (0+i+1) (by omega);have hce:cs G.length (0+i+1)=cs G.length (0+i)+CA G.length (i+1):=by rw[CI];rfl
  rfl';refine Wl hGnd hGn (by omega) (by omega) hGs (i+1) 5 (by omega) T (λy hy=>?_) hwl (by omega) (by omega) λL3 sp3 rs3 mk3 k3 T3 psp3 hmk3 hrs3 nk3 hk3=>?_
  .have hM2:=DU hM';rcases DB.mp hy with hy|hy
   .have:=Cr.mp hy;have:=p2.length_le;omega
   .simp only[Ae,EH,or_false] at hy;rcases hy with rfl|rfl <;> omega
  have hM3:L3[M]?=some (.lst (ks.map λ(k:Nat)=>D.int (k:Int))):=hk3.get (by simp;omega) hM';refine⟨_,hM3,by rw[An,hks];omega,⟨_,rfl⟩,sp3,rs3,mk3,ks++[k3],T3.setX (by simp) _,by omega,by omega,by simp[hks],λj k hj=>?_,(k'.trans hk3).set (.inr (by omega)),?_⟩
  .by_cases hlt:j<ks.length
   .rw[Fh hlt] at hj;exact(hkn j k hj).mono psp3
   .have hj':j=ks.length:=by
     have:=(BY.mp hj).1;simp at this;omega
    subst hj';rw[AJ0 (Al _),Nat.sub_self] at hj;cases hj;rw[hks,CI];exact nk3
  .rw[Dh hM3];simp
 .rintro ρ L' ⟨⟨e,rfl⟩,sp,rs,mk,ks,T,hmk,hrs,hks,hkn,k',hM'⟩;refine⟨rfl,?_⟩;have hks3:ks.length=3:=hks;have rt':L'[N+1+7]?=some (.lst []):=k'.get (by simp) rt2;obtain⟨epm,m2⟩:=m2;have m':L'[N+1]?=some (.dt (FM (Dj G)) epm):=k'.get (by simp) m2;have htk:=T.t_;rfl';refine Sf rt' hM' (by simp[hks3]) ?_;rfl';refine⟨rfl,h _ N ?_ ⟨g,N+1,N+1+5,N+1+6,N+1+7,es,sp,rs,mk,ks,(T.setX (by simp) _).more (λy hy=>.inl (AJy _ hy)),⟨by omega,by omega⟩,⟨epm,Nj rt' m' (by simp)⟩,?_,hks3,hkn⟩⟩
  .exact(((BA.of_pre p2).step k' λj hj=>.inr (by simp at hj;omega)).set (.inr (by omega))).pre
  .rw[Dh rt'];simp
abbrev EU:=List Str×Nat×List Str
def Fp(z:Nat):Option EU->List EU->Option EU
 |o,[]=>o
 |o,x::r=>if z<x.2.1 then o else Fp z (some x) r
def Cg(G:BE):Nat->List Str->Nat->List D
 |0,_,_=>[]
 |l+1,rest,z=>match Fp z none (FC G l rest) with
  |none=>[]
  |some x=>(((Ef G x.1).getD [])[(z-x.2.1) / AT G l x.2.2]?.getD .non)::Cg G l x.2.2 ((z-x.2.1) % AT G l x.2.2)
def JW(G:BE)(l:Nat)(x:EU):Nat:=Cf G x.1*AT G l x.2.2
def Ib(G:BE)(l:Nat):Nat->List EU->Nat->Prop
 |s,[],e=>s=e
 |s,x::r,e=>x.2.1=s/\0<JW G l x/\Ib G l (s+JW G l x) r e
theorem Yo{G:BE}{l:Nat}{x:EU}:∀{r:List EU} {s e:Nat},Ib G l s r e->x.2.1=e->0<JW G l x->Ib G l s (r++[x]) (e+JW G l x)
 |[],s,e,h,h1,h2=>⟨h1.trans (Eq.symm h),h2,by show _=_;rw[show s=e from h]⟩
 |y::r,s,e,h,h1,h2=>⟨h.1,h.2.1,Yo h.2.2 h1 h2⟩
theorem ZO{G:BE}{l:Nat}{rest:List Str}(hp:∀a∈G.map (·.1),0<Cf G a):Ib G l 0 (FC G l rest) (AT G (l+1) rest):=by
 rw[<-ZN];unfold FC Dd
 have:∀(xs:List (List Str)) (st:List EU×Nat),(∀a∈xs,a∈G.map (·.1))->Ib G l 0 st.1 st.2->Ib G l 0 (xs.foldl (EE G l rest) st).1 (xs.foldl (EE G l rest) st).2:=by
  intro xs
  induction xs with
  |nil=>intro st _ h;exact h
  |cons x xs ih =>
   intro st hm h;refine ih _ (λa ha=>hm a (BQ _ ha)) ?_;unfold EE
   cases e:Dc rest x with
   |none=>exact h
   |some b =>
    simp only
    by_cases z:AT G l b=0
    .rw[if_pos z];exact h
    .rw[if_neg z];exact Yo h rfl (Nat.mul_pos (hp x (hm x BW)) (Nat.pos_of_ne_zero z))
 exact this _ ([],0) (λa ha=>JX ha) rfl
theorem AGV{G:BE}{l z:Nat}{x:EU}:∀{r:List EU} {s e:Nat},Ib G l s r e->z<s->Fp z (some x) r=some x
 |[],s,e,_,_=>rfl
 |y::r,s,e,h,hz=>by
  unfold Fp;rw[if_pos (by rw[h.1];exact hz)]
theorem YQ{G:BE}{l z:Nat}:∀{r:List EU} {s e:Nat} {o:Option EU},Ib G l s r e->s<=z->z<e->∃x∈r,Fp z o r=some x/\x.2.1<=z/\z<x.2.1+JW G l x
 |[],s,e,o,h,h1,h2=>by have:s=e:=h;omega
 |y::r,s,e,o,h,h1,h2=>by
  unfold Fp;rw[if_neg (by rw[h.1];omega)]
  by_cases hz:z<s+JW G l y
  .exact⟨y,BW,AGV h.2.2 hz,by rw[h.1];exact h1,by rw[h.1];exact hz⟩
  .obtain⟨x,hx,h3⟩:=YQ (o:=some y) h.2.2 (by omega) h2;exact⟨x,BQ _ hx,h3⟩
theorem Jx{G:BE}{l:Nat}{rest:List Str}{x:EU}(h:x∈FC G l rest):x.1∈Ba G (l+1) rest/\Dc rest x.1=some x.2.2/\AT G l x.2.2≠0:=by
 unfold FC Dd at h
 have:∀(xs:List (List Str)) (st:List EU×Nat),x∈(xs.foldl (EE G l rest) st).1->x∈st.1\/(x.1∈xs/\Dc rest x.1=some x.2.2/\AT G l x.2.2≠0):=by
  intro xs
  induction xs with
  |nil=>intro st h;exact .inl h
  |cons y xs ih =>
   intro st h;rcases ih _ h with h1|⟨h1,h2⟩
   .unfold EE at h1
    cases e:Dc rest y with
    |none=>rw[e] at h1;exact .inl h1
    |some b =>
     rw[e] at h1;simp only at h1
     by_cases z:AT G l b=0
     .rw[if_pos z] at h1;exact .inl h1
     .rw[if_neg z] at h1;rcases DB.mp h1 with h1|h1
      .exact .inl h1
      .have h1':x=(y,st.2,b):=by simpa using h1
       subst h1';exact .inr ⟨BW,e,z⟩
   .exact .inr ⟨BQ _ h1,h2⟩
 rcases this _ _ h with h1|h1
 .cases h1
 .exact h1
theorem VS{α:Type}{f:α->Nat}{m:Nat}:∀(l:List α),(∀x∈l,f x<=m)->(l.map f).sum<=l.length*m
 |[],_=>by simp
 |x::l,h=>by
  rw[Am,FF,EX,AJu];have h1:=h x BW;have h2:=VS l λy hy=>h y (BQ _ hy);omega
structure GA (ws ts:List Str) (G:BE):Prop where
 nd:(G.map (·.1)).Nodup
 ln:G.length<=2406
 sz:∀a∈G.map (·.1),Cf G a<=4000000
 pos:∀a∈G.map (·.1),0<Cf G a
 snd:∀e∈G,∀p∈e.2,ON ws ts e.1 p
 len:∀a∈G.map (·.1),a.length=ts.length
theorem Rh{ts:List Str}:∀(A:List D) {c:List (List Int×List D)},(∀e∈c,e.2≠[])->∀e∈A.foldl (CQ ts) c,e.2≠[]
 |[],c,h=>h
 |x::A,c,h=>by
  refine Rh A ?_;unfold CQ
  cases e:Er ts x with
  |none=>exact h
  |some ks =>
   rintro⟨k,qs⟩ he;rcases KA he with h'|⟨_,h'|⟨zs,h',h4⟩⟩
   .exact h _ h'
   .simp only;rw[h'];simp
   .simp only;rw[h4];simp
theorem Xl{w:List Str}:∀(A:List (List Str×List D)) {c:List (List Str×List D)},(∀a∈A,a.2≠[])->(∀e∈c,e.2≠[])->∀e∈A.foldl (Bo w) c,e.2≠[]
 |[],c,_,h=>h
 |x::A,c,hA,h=>by
  refine Xl A (λa ha=>hA a (BQ _ ha)) ?_;unfold Bo;split
  .rintro⟨k,qs⟩ he;have hx:=hA x BW;rcases KA he with h'|⟨_,h'|⟨zs,h',h4⟩⟩
   .exact h _ h'
   .simp only;rw[h'];exact hx
   .simp only;rw[h4];simp[hx]
  .exact h
theorem Nh{ws:List Str}(hw:ws.length<=6)(ts w:List Str):GA ws ts (CU ws ts w):=by
 refine⟨Xq ws ts w,(Sb hw ts w).1,λa ha=>VP hw ts w ha,λa ha=>?_,λe he p hp=>Xp (a:=e.1) (ps:=e.2) he hp,λa ha=>Xr ha⟩;obtain⟨e,hf,he,_⟩:=HU ha;have:Cf (CU ws ts w) a=e.2.length:=by unfold Cf Ef;rw[hf];rfl
 rw[this];refine List.length_pos_iff.mpr (Xl (w:=w) (Cy ws ts++FP ts (CD ts)) (c:=[]) (λx hx=>?_) (by simp) e he);rcases OI hx with⟨w,_,rfl⟩|⟨s,hs,e,he,d,_,_,rfl⟩
 .simp
 .have h1:=Rh (ts:=ts) DP (c:=[]) (by simp) s hs;have h2:=Rh (ts:=ts) DP (c:=[]) (by simp) e he;intro z;have z':(FB d s.2 e.2).length=0:=congrArg List.length z;rw[Jv] at z';rcases Nat.mul_eq_zero.mp z' with q|q
  .exact h1 (AKL.mp q)
  .exact h2 (AKL.mp q)
theorem Ur{ws ts:List Str}{G:BE}(K:GA ws ts G):∀(l:Nat) (rest:List Str),AT G l rest<=10000000000 ^ l
 |0,_=>by simp[AT]
 |l+1,rest=>by
  have h:=VS (m:=4000000*10000000000 ^ l) (f:=λa=>match Dc rest a with|some b=>Cf G a*AT G l b|none=>0) (Ba G (l+1) rest) λa ha=>by
   cases e:Dc rest a with
   |none=>exact FE _
   |some b=>exact AJ6 (K.sz a (JX ha)) (Ur K l b)
  have h2:(Ba G (l+1) rest).length<=2406:=DA VE K.ln;have h3:=AJ3 (4000000*10000000000 ^ l) h2;rw[Nat.pow_succ]
  show((Ba G (l+1) rest).map λa=>match Dc rest a with|some b=>Cf G a*AT G l b|none=>0).sum<=_
  generalize 10000000000 ^ l=B at *;omega
theorem AA0{ws ts:List Str}{G:BE}(K:GA ws ts G){l:Nat}(hl:l<=3)(rest:List Str):AT G l rest<=1000000000000000000000000000000:=by refine DA (Ur K l rest) (DA (Nat.pow_le_pow_right (by decide) hl) (by decide))
theorem NH{G:BE}(hp:∀a∈G.map (·.1),0<Cf G a){l z:Nat}{rest:List Str}(hz:z<AT G (l+1) rest):∃x∈FC G l rest,Fp z none (FC G l rest)=some x/\x.2.1<=z/\(z-x.2.1) / AT G l x.2.2<Cf G x.1/\(z-x.2.1) % AT G l x.2.2<AT G l x.2.2:=by obtain⟨x,hx,h1,h2,h3⟩:=YQ (o:=none) (ZO (l:=l) (rest:=rest) hp) (FE z) hz;have hw:=(Jx hx).2.2;refine⟨x,hx,h1,h2,Nat.div_lt_of_lt_mul ?_,Nat.mod_lt _ (Nat.pos_of_ne_zero hw)⟩;unfold JW at h3;rw[Nat.mul_comm];omega
theorem LQ{ws ts:List Str}{G:BE}(K:GA ws ts G):∀{l z:Nat} {rest:List Str},z<AT G l rest->(Cg G l rest z).length=l/\∀p∈Cg G l rest z,Fy ws p
 |0,z,rest,_=>⟨rfl,(λ_ h=>(nomatch h))⟩
 |l+1,z,rest,hz=>by
  obtain⟨x,hx,h1,h2,h3,h4⟩:=NH K.pos hz;have ih:=LQ K h4;unfold Cg;rw[h1];refine⟨by simp[ih.1],λp hp=>?_⟩;rcases Ae.mp hp with hp|hp
  .obtain⟨e,hf,he,hek⟩:=HU (JX (Jx hx).1);have hg:Ef G x.1=some e.2:=by unfold Ef;rw[hf];rfl
   have hlt:(z-x.2.1) / AT G l x.2.2<e.2.length:=by unfold Cf at h3;rw[hg] at h3;exact h3
   rw[hg] at hp;have:p∈e.2:=by rw[hp];simp[hlt]
   exact(K.snd e he p this).1
  .exact ih.2 p hp
theorem Vb{a b:Str}(h:a.cps.toList=b.cps.toList):a=b:=by obtain⟨x⟩:=a;obtain⟨y⟩:=b;have:x=y:=Array.toList_inj.mp h;rw[this]
theorem Vk{a:Str}{n:Nat}(h:n<=a.length):(Txt.slice a (some (n:Int)) none).cps.toList=a.cps.toList.drop n:=by
 have e0:Builtin.Str.strSliceIndices (some (n:Int)) none 1 a.length=Builtin.Str.strSliceIndices (some (n:Int)) (some (a.length:Int)) 1 a.length:=by
  unfold Builtin.Str.strSliceIndices;simp only[show((1:Int)>0)=True from by simp,if_true];rw[if_neg (by omega)]
  congr 1
  omega
 have e1:=StrLaws.sliced_plain a h (Al _);have hl:(a.cps.toList.drop n).take (a.length-n)=a.cps.toList.drop n:=AKN (by rw[List.length_drop];exact Al _);rw[hl,<-e0] at e1;unfold Txt.slice;split
 .rename_i hc;rw[CJ] at hc;have h2:=eq_of_beq hc.2;rw[e0,StrLaws.strSliceIndices_plain h (Al _),An,AKs] at h2
  by_cases hz:a.length=0
  .have:a.cps.toList=[]:=AKL.mp hz;rw[this];simp
  .have:n=0:=by omega
   rw[this];rfl
 .exact e1
theorem ABt{a b:Str}(h:Txt.startswith a b=true):a.cps.toList=b.cps.toList++(Txt.slice a (some (b.length:Int)) none).cps.toList:=by
 unfold Txt.startswith at h;rw[CJ] at h;have h1:b.length<=a.length:=by have:=of_decide_eq_true h.1;omega
 have h2:=h.2;rw[StrLaws.subAt_eq] at h2;have h3:=eq_of_beq h2;rw[AKE] at h3;rw[Vk h1]
 conv=>lhs;rw[<-AKo b.length a.cps.toList]
 rw[h3]
theorem XV:∀(ys:List Str),(Txt.join "" ys).cps.toList=ys.flatMap λy=>y.cps.toList:=by
 intro ys;rw[show Txt.join "" ys=Str.join "" ys from StrLaws.glued_eq_join "" ys]
 induction ys with
 |nil=>rfl
 |cons y ys ih =>
  cases ys with
  |nil=>simp[Str.join]
  |cons z ys =>
   have e:Str.join "" (y::z::ys)=y++""++Str.join "" (z::ys):=rfl;rw[e,TH,TH,ih,EY];have:(Str.ofString "").cps.toList=[]:=rfl;simp[this]
theorem ACQ{ws ts:List Str}{G:BE}(K:GA ws ts G):∀{l z:Nat} {rest:List Str},z<AT G (l+1) rest->rest.length=ts.length->∃as:List (List Str),as.length=l+1/\(∀(j:Nat) (p:D),(Cg G (l+1) rest z)[j]?=some p->∃a:List Str,as[j]?=some a/\ON ws ts a p)/\∀i,i<ts.length->(as.flatMap λa=>(a.getD i "").cps.toList)=(rest.getD i "").cps.toList:=by
 have one:∀{l z:Nat} {rest:List Str},z<AT G (l+1) rest->∃x∈FC G l rest,Fp z none (FC G l rest)=some x/\(z-x.2.1) % AT G l x.2.2<AT G l x.2.2/\∃p,Cg G (l+1) rest z=p::Cg G l x.2.2 ((z-x.2.1) % AT G l x.2.2)/\ON ws ts x.1 p:=by
  intro l z rest hz;obtain⟨x,hx,h1,h2,h3,h4⟩:=NH K.pos hz;obtain⟨e,hf,he,hek⟩:=HU (JX (Jx hx).1);have hg:Ef G x.1=some e.2:=by unfold Ef;rw[hf];rfl
  have hlt:(z-x.2.1) / AT G l x.2.2<e.2.length:=by unfold Cf at h3;rw[hg] at h3;exact h3
  have hr:Cg G (l+1) rest z=(((Ef G x.1).getD [])[(z-x.2.1) / AT G l x.2.2]?.getD .non)::Cg G l x.2.2 ((z-x.2.1) % AT G l x.2.2):=by
   conv=>lhs;unfold Cg
   rw[h1]
  refine⟨x,hx,h1,h4,_,hr,?_⟩;rw[hg];have hm:(((some e.2).getD [])[(z-x.2.1) / AT G l x.2.2]?).getD .non∈e.2:=by simp[hlt]
  have:=K.snd e he _ hm;rw[hek] at this;exact this
 intro l
 induction l with
 |zero =>
  intro z rest hz hr;obtain⟨x,hx,h1,h4,p,hp,hs⟩:=one hz;have hm:=Jx hx
  have hxr:x.1=rest:=by
   have:=hm.1;unfold Ba at this;rw[if_pos rfl] at this;split at this
   .simpa using this
   .cases this
  refine⟨[x.1],rfl,λj q hq=>?_,λi hi=>?_⟩
  .rw[hp] at hq
   cases j with
   |zero =>
    have e:p=q:=by simpa using hq
    exact⟨x.1,rfl,e▸hs⟩
   |succ j=>simp[Cg] at hq
  .rw[hxr];simp
 |succ l ih =>
  intro z rest hz hr;obtain⟨x,hx,h1,h4,p,hp,hs⟩:=one hz;have hm:=Jx hx;have hbl:=TB hm.2.1;obtain⟨as,ha1,ha2,ha3⟩:=ih h4 (hbl.trans hr);refine⟨x.1::as,by simp[ha1],λj q hq=>?_,λi hi=>?_⟩
  .rw[hp] at hq
   cases j with
   |zero =>
    have e:p=q:=by simpa using hq
    exact⟨x.1,rfl,e▸hs⟩
   |succ j =>
    obtain⟨a,h5,h6⟩:=ha2 j q (by simpa using hq);exact⟨a,by simpa using h5,h6⟩
  .rw[EY,ha3 i hi];have hb:=hm.2.1;unfold Dc at hb;split at hb
   .rename_i hall;have hs:=CW.mp hall i (Cr.mpr (by omega));have hb':=Option.some.inj hb;rw[<-hb']
    have e5:(Fa rest x.1 rest.length).getD i ""=Txt.slice (rest.getD i "") (some ((x.1.getD i "").length:Int)) none:=by unfold Fa;simp[show i<rest.length by omega]
    rw[e5];exact(ABt hs).symm
   .cases hb
theorem ACR{ws ts wd:List Str}{G:BE}(K:GA ws ts G){l z:Nat}(hz:z<AT G (l+1) wd)(hw:wd.length=ts.length){i:Nat}(hi:i<ts.length):Fj (ts.getD i "") (Cg G (l+1) wd z)=.str (wd.getD i ""):=by
 obtain⟨as,ha1,ha2,ha3⟩:=ACQ K hz hw;have hlen:=(LQ K hz).1
 have e1:(Cg G (l+1) wd z).map (CS (ts.getD i ""))=(as.map λa=>a.getD i "").map D.str:=by
  apply AKS;intro j;rw[BH,BH,BH]
  cases hp:(Cg G (l+1) wd z)[j]? with
  |none =>
   have:as[j]?=none:=by rw[AK1] at hp ⊢;omega
   rw[this];rfl
  |some p =>
   obtain⟨a,h1,h2⟩:=ha2 j p hp;rw[h1];simp only[AKM];rw[h2.2.2 i hi]
 have e2:∀ys:List Str,CB (ys.map D.str)=some ys:=λys=>by
  induction ys with
  |nil=>rfl
  |cons y ys ih=>rw[Am];simp only[CB,ih];rfl
 unfold Fj;rw[e1,e2];simp only
 congr 1
 apply Vb;rw[XV,<-ha3 i hi,AKa]
section
variable {G:BE}{X:List Nat}{L:AD}{t g m nd nn rt:Nat}{W:D}{es:List (List Str×Nat×List D)}{sp:List (Nat×List Str)}{rs:List (Nat×Nat)}{mk:List ((Nat×List Str)×Nat)}{Q:ALM}
theorem Bw.ways(T:Bw G X L t g m nd nn rt W es sp rs mk){k l:Nat}{rest:List Str}(h:EL G sp k (l+1) rest):∃r a,rs[k]?=some (r,a)/\L[r]?=some (.ins "Node" [("ways",.int (AT G (l+1) rest:Int)),("arms",.ref a)]):=by
 by_cases h1:k=1
 .subst h1;have hw:=h.one.mp rfl;have hlt:1<rs.length:=by rw[T.len];omega
  obtain⟨ep,n⟩:=T.nod 1 rs[1].1 rs[1].2 (by simp[hlt]);exact⟨rs[1].1,rs[1].2,by simp[hlt],by rw[hw];exact n.1⟩
 .obtain⟨r,a,kvs,ep,e,n,_⟩:=T.node h h1;exact⟨r,a,e,n.1⟩
theorem AD7{α β:Type}{R:α->β->Prop}{xs:List α}{ys:List β}(h:Paired R xs ys):∀{i:Nat} {y:β},ys[i]?=some y->∃x,xs[i]?=some x/\R x y:=by
 induction h with
 |nil=>intro i y e;simp at e
 |cons r _ ih =>
  intro i y e
  cases i with
  |zero=>simp at e;subst e;exact⟨_,rfl,r⟩
  |succ i=>obtain⟨x,h1,h2⟩:=ih (i:=i) (y:=y) (by simpa using e);exact⟨x,by simpa using h1,h2⟩
theorem WV{α β:Type}{R:α->β->Prop}{xs:List α}{ys:List β}(h:Paired R xs ys):∀{i:Nat} {x:α},xs[i]?=some x->∃y,ys[i]?=some y/\R x y:=by
 induction h with
 |nil=>intro i y e;simp at e
 |cons r _ ih =>
  intro i y e
  cases i with
  |zero=>simp at e;subst e;exact⟨_,rfl,r⟩
  |succ i=>obtain⟨x,h1,h2⟩:=ih (i:=i) (x:=y) (by simpa using e);exact⟨x,by simpa using h1,h2⟩
def OG:Option EU->D
 |none=>.non
 |some x=>Ar x.1
theorem ZR(o:Option EU):(OG o).noRef=true:=by
 cases o with
 |none=>rfl
 |some x=>exact VU _
theorem AHV{r a ep l z:Nat}{w:Int}{kvs:List (NK×D)}{arms:List EU}(hn:FD L r w a kvs ep)(pA:Paired (Ga G sp l) arms kvs)(h:Q (OG (Fp z none arms)) L):W2 (zd2 [.ref r,.int (z:Int)] L) Q:=by
 unfold zd2;refine By rfl ?_;unfold Ph;have n1:=hn.1;have n2:=hn.2;rfl';refine Da (λj ρ L'=>L'=L/\∃o e3 e4,Fp z o (arms.drop j)=Fp z none arms/\ρ=[some (.ref r),some (.int (z:Int)),some (OG o),e3,e4]) _ 0 _ _ ⟨rfl,none,none,none,by rw[AKE],rfl⟩ ?_ ?_
 .rintro i x ρ L' hx ⟨rfl,o,e3,e4,ho,rfl⟩;refine⟨decide_eq_true n2,?_⟩;unfold HL at hx;rw[BH] at hx
  cases hkv:kvs[i]? with
  |none=>rw[hkv] at hx;cases hx
  |some kv =>
  rw[hkv] at hx;cases hx;obtain⟨y,hy,num,rfl,_⟩:=AD7 pA hkv;dsimp only;rw[EM.nk]
  have hdr:arms.drop (0+i)=y::arms.drop (0+i+1):=by rw[CI];exact(List.getElem_cons_drop (h:=(BY.mp hy).1)).symm.trans (by rw[(BY.mp hy).2])
  have hstep:Fp z o (y::arms.drop (0+i+1))=if z<y.2.1 then o else Fp z (some y) (arms.drop (0+i+1)):=rfl
  rw[hdr,hstep] at ho;rfl';refine Bs (λhgt=>?_) (λhgt=>?_)
  .rw[if_pos (by omega)] at ho;rfl';rw[ho];exact⟨ZR _,Ac _,h⟩
  .rw[if_neg (by omega)] at ho;rfl';exact⟨rfl,some y,_,_,ho,rfl⟩
 .rintro ρ L' ⟨rfl,o,e3,e4,ho,rfl⟩;refine⟨decide_eq_true n2,?_⟩
  have hl:kvs.length=arms.length:=by have:=congrArg List.length (MH pA);rw[An,An] at this;exact this
  have e5:(HL kvs).length=arms.length:=by unfold HL;rw[An,hl]
  rw[e5,CI,AKW] at ho;have ho':o=Fp z none arms:=ho;rfl';rw[ho'];exact⟨ZR _,Ac _,h⟩
theorem RW{ws ts:List Str}(K:GA ws ts G)(T:Bw G X L t g m nd nn rt W es sp rs mk){k l z:Nat}{rest:List Str}(hk:EL G sp k l rest)(hl3:l<=3)(hz:z<AT G l rest)(hrow:(D.tup (Cg G l rest z)).noRef=true)(h:Q (.tup (Cg G l rest z)) L):W2 (ze2 [.ref t,.int (k:Int),.int (z:Int)] L) Q:=by
 unfold ze2;refine By rfl ?_;unfold PU;have ht:=T.t_;have hnd:=T.nd_;obtain⟨epg,hg⟩:=T.g_.at_
 have notone:∀{k' l' z':Nat} {rest':List Str},EL G sp k' l' rest'->z'<AT G l' rest'->k'≠1:=λh1 h2 e=>by
  have:=h1.one.mp e;omega
 rfl';obtain⟨r1,a1,kv1,ep1,hr1,n1,_,_⟩:=T.node hk (notone hk hz);refine DV (d:=.ref r1) (Aj hnd) (Eh (by rw[BH,hr1];rfl)) ?_;rfl';refine AAt (λj ρ L'=>j<=3/\∃(acc:List D) (z' k' r:Nat) (rest':List Str) (a':Nat) (e1 e2 e3 e4:Option D),L'=L++[.lst acc]/\EL G sp k' j rest'/\rs[k']?=some (r,a')/\z'<AT G j rest'/\acc++Cg G j rest' z'=Cg G l rest z/\acc.length+j<=3/\ρ=[some (.ref t),some (.int (k:Int)),some (.int (z':Int)),some (.ref L.length),some (.ref r),e1,e2,e3,e4]) (n:=l) (by omega) ⟨hl3,[],z,k,r1,rest,a1,none,none,none,none,rfl,hk,hr1,hz,rfl,by simpa using hl3,rfl⟩ ?_;rintro j ρ L' ⟨hj3,acc,z',k',r,rest',a',e1,e2,e3,e4,rfl,hnk,hrk,hzk,hacc,hal,rfl⟩;obtain⟨r',a'',kvs,ep',hr',n',hn0,hnS⟩:=T.node hnk (notone hnk hzk);rw[hrk] at hr';cases hr';have n'a:(L++[Ob.lst acc])[r]?=_:=Aj n'.1;have n'b:(L++[Ob.lst acc])[a']?=_:=Aj n'.2;have ht':(L++[Ob.lst acc])[t]?=_:=Aj ht
 cases j with
 |zero =>
  rw[hn0 rfl] at n'b;have n'c:(L++[Ob.lst acc])[a']?=some (.dt [] ep'):=n'b;rfl';have ea:acc=Cg G l rest z:=by simpa[Cg] using hacc
  rw[ea];exact⟨hrow,BB _ _,h⟩
 |succ j =>
  have pA:=hnS j rfl;obtain⟨x,hx,hf,hle,hdv,hmd⟩:=NH K.pos hzk;have hxm:=Jx hx;obtain⟨i,hi⟩:=AKZ hx;obtain⟨y,hy,num,rfl,hnum⟩:=WV pA hi;have hlen:0<kvs.length:=by have:=(BY.mp hy).1;omega
  have hknd:(kvs.map (·.1)).Nodup:=by rw[MH pA];have h1:((FC G j rest').map (·.1)).Nodup:=List.Sublist.nodup (OE G j rest' (Ba G (j+1) rest')) (RL K.nd _ _);unfold List.Nodup at h1 ⊢;rw[AKb] at h1 ⊢;exact h1.imp λhne e=>hne (EM.kf e)
  have hlk:=SE hknd hy;rfl';refine AHV (z:=z') ⟨n'a,n'b⟩ pA ?_;rw[hf];show WS _ _ _ _ _;have eD:OG (some x)=Ar x.1:=rfl;rw[eD];rfl';refine JD (kk:=BM (Ar x.1)) n'b (EM.key _) hlk ?_;rfl';obtain⟨r2,a2,kv2,ep2,hr2,n2,_,_⟩:=T.node hnum (notone hnum hmd);have n2a:(L++[Ob.lst acc])[r2]?=_:=Aj n2.1;refine DV (d:=.ref r2) (Aj hnd) (Eh (by rw[BH,hr2];rfl)) ?_;rfl';obtain⟨ds,hds,hsz⟩:=Xt (JX hxm.1);obtain⟨q,hq1,hq2⟩:=T.g_.get EM (k:=x.1) (ds:=ds) (by rw[T.gc];exact hds);refine JD (kk:=BM (Ar x.1)) (Aj hg) (EM.key _) hq1 ?_;rfl';have hwb:=AA0 K (l:=j) (by omega) x.2.2;have hwp:0<AT G j x.2.2:=Nat.pos_of_ne_zero hxm.2.2;generalize hN:AT G j x.2.2=N at *;refine AGA (by unfold MC;rw[CJ];exact⟨decide_eq_true (by omega),decide_eq_true (by omega)⟩) ?_;have es0:(z':Int)-(x.2.1:Int)=((z'-x.2.1:Nat):Int):=by omega
  have e0:((z'-x.2.1:Nat):Int) / (N:Int)=(((z'-x.2.1) / N:Nat):Int):=by push_cast;rfl
  have e1':((z'-x.2.1:Nat):Int) % (N:Int)=(((z'-x.2.1) % N:Nat):Int):=by push_cast;rfl
  rw[es0,e0];rw[hsz] at hdv;refine DV (d:=ds[(z'-x.2.1) / N]?.getD .non) (Aj hq2) (Eh (by simp[hdv])) ?_;rfl';refine Hy As (by omega) ?_;have es1:(L++[Ob.lst acc]).set L.length (.lst (acc++[ds[(z'-x.2.1) / N]?.getD .non]))=L++[Ob.lst (acc++[ds[(z'-x.2.1) / N]?.getD .non])]:=by simp
  rw[es1];have n3a:(L++[Ob.lst (acc++[ds[(z'-x.2.1) / N]?.getD .non])])[r2]?=some (.ins "Node" [("ways",.int (N:Int)),("arms",.ref a2)]):=Aj n2.1;rfl';rw[e1'];refine⟨j,by omega,by omega,acc++[ds[(z'-x.2.1) / N]?.getD .non],(z'-x.2.1) % N,num,r2,x.2.2,a2,_,_,_,_,rfl,hnum,hr2,by rw[hN];exact hmd,?_,by simp;omega,rfl⟩;rw[<-hacc,AJk]
  congr 1
  conv=>rhs;unfold Cg
  rw[hf];simp only;rw[hds,hN];rfl
end
def Bv(G:BE)(wd:List Str):Nat:=AT G 1 wd+AT G 2 wd+AT G 3 wd
def Jc(G:BE)(wd:List Str)(z:Nat):List D:=if z<AT G 1 wd then Cg G 1 wd z else if z-AT G 1 wd<AT G 2 wd then Cg G 2 wd (z-AT G 1 wd) else Cg G 3 wd (z-AT G 1 wd-AT G 2 wd)
section
variable {L:AD}{t:Nat}{ws ts wd:List Str}{G:BE}{Q:ALM}
theorem Ww(T:ID L t ws G wd)(h:Q (.int (Bv G wd:Int)) L):W2 (zg1 [.ref t] L) Q:=by
 obtain⟨g,m,nd,nn,rt,es,sp,rs,mk,ks,T,hm,hr,hk3,hkn⟩:=T;unfold zg1;refine By rfl ?_;unfold Qn;have ht:=T.t_;rfl';refine Ho (I:=λj ρ L'=>(∃e,ρ=[e,some (.ref t)])/\L'=L++[.lst ((List.range j).map λi=>D.int (AT G (i+1) wd:Int))]) _ 0 _ _ ⟨⟨_,rfl⟩,rfl⟩ ?_ ?_
 .rintro i x ρ L' hx ⟨⟨e,rfl⟩,rfl⟩;refine⟨decide_eq_true (Aj hr),?_⟩;rw[BH] at hx
  cases hse:ks[i]? with
  |none=>rw[hse] at hx;cases hx
  |some k =>
  rw[hse] at hx;cases hx;have hi:i<3:=by rw[<-hk3];exact(BY.mp hse).1
  obtain⟨r,a,h1,h2⟩:=T.ways (hkn i k hse);have ht':(L++[Ob.lst ((List.range (0+i)).map λi=>D.int (AT G (i+1) wd:Int))])[t]?=_:=Aj ht;have h2':(L++[Ob.lst ((List.range (0+i)).map λi=>D.int (AT G (i+1) wd:Int))])[r]?=_:=Aj h2;rfl';refine DV (d:=.ref r) (Aj T.nd_) (Eh (by rw[BH,h1];rfl)) ?_;rfl';refine⟨_,As,by simp;omega,⟨_,rfl⟩,?_⟩;rw[AKP,Dz,CI];simp
 .rintro ρ L' ⟨⟨e,rfl⟩,rfl⟩;refine⟨decide_eq_true (Aj hr),?_⟩;have e3:(0+(ks.map λ(k:Nat)=>D.int (k:Int)).length)=3:=by rw[An,hk3]
  rw[e3];have e4:((List.range 3).map λi=>D.int (AT G (i+1) wd:Int))=[.int (AT G 1 wd:Int),.int (AT G 2 wd:Int),.int (AT G 3 wd:Int)]:=rfl;rw[e4];rfl';refine Xu As rfl ?_;refine⟨rfl,BB _ _,?_⟩
  have e5:([(AT G 1 wd:Int),(AT G 2 wd:Int),(AT G 3 wd:Int)]:List Int).sum=(Bv G wd:Int):=by unfold Bv;simp only[FF,List.sum_nil];omega
  rw[e5];exact h
theorem KM(K:GA ws ts G)(hw:Gv ws){l z:Nat}{rest:List Str}(hz:z<AT G l rest):(D.tup (Cg G l rest z)).noRef=true:=Ru λp hp=>(((LQ K hz).2 p hp).piece hw).noRef
theorem RX(K:GA ws ts G)(hw:Gv ws)(T:ID L t ws G wd){z:Nat}(hz:z<Bv G wd)(h:Q (.tup (Jc G wd z)) L):W2 (zi [.ref t,.int (z:Int)] L) Q:=by
 obtain⟨g,m,nd,nn,rt,es,sp,rs,mk,ks,T,hm,hr,hk3,hkn⟩:=T
 match ks,hk3 with
 |[k1,k2,k3],_ =>
 have hr':L[rt]?=some (.lst [.int (k1:Int),.int (k2:Int),.int (k3:Int)]):=hr;have n1:=hkn 0 k1 rfl;have n2:=hkn 1 k2 rfl;have n3:=hkn 2 k3 rfl;obtain⟨r1,a1,hr1,w1'⟩:=T.ways n1;have w1:L[r1]?=some (.ins "Node" [("ways",.int (AT G 1 wd:Int)),("arms",.ref a1)]):=w1';obtain⟨r2,a2,hr2,w2'⟩:=T.ways n2;have w2:L[r2]?=some (.ins "Node" [("ways",.int (AT G 2 wd:Int)),("arms",.ref a2)]):=w2';obtain⟨r3,a3,hr3,w3'⟩:=T.ways n3;have w3:L[r3]?=some (.ins "Node" [("ways",.int (AT G 3 wd:Int)),("arms",.ref a3)]):=w3';unfold zi;refine By rfl ?_;unfold PJ;have ht:=T.t_;have hnd:=T.nd_;unfold Bv at hz;unfold Jc at h;rfl';refine Ik (decide_eq_true hr') ?_;rfl';refine DV (d:=.ref r1) hnd (Eh (by rw[BH,hr1];rfl)) ?_;rfl';refine Bs (λh1=>?_) (λh1=>?_)
 .have h1':z<AT G 1 wd:=by omega
  rw[if_pos h1'] at h;rfl';refine RW K T n1 (by decide) h1' (KM K hw h1') ?_;exact⟨KM K hw h1',Ac _,h⟩
 .have h1':¬z<AT G 1 wd:=by omega
  rw[if_neg h1'] at h;have e1:(z:Int)-(AT G 1 wd:Int)=((z-AT G 1 wd:Nat):Int):=by omega
  rfl';refine Ik (decide_eq_true hr') ?_;rfl';refine DV (d:=.ref r2) hnd (Eh (by rw[BH,hr2];rfl)) ?_;rfl';rw[e1];refine Bs (λh2=>?_) (λh2=>?_)
  .have h2':z-AT G 1 wd<AT G 2 wd:=by omega
   rw[if_pos h2'] at h;rfl';refine RW K T n2 (by decide) h2' (KM K hw h2') ?_;exact⟨KM K hw h2',Ac _,h⟩
  .have h2':¬z-AT G 1 wd<AT G 2 wd:=by omega
   have h3':z-AT G 1 wd-AT G 2 wd<AT G 3 wd:=by omega
   rw[if_neg h2'] at h;have e2:((z-AT G 1 wd:Nat):Int)-(AT G 2 wd:Int)=((z-AT G 1 wd-AT G 2 wd:Nat):Int):=by omega
   rfl';refine Ik (decide_eq_true hr') ?_;rfl';refine DV (d:=.ref r3) hnd (Eh (by rw[BH,hr3];rfl)) ?_;rfl';rw[e2];refine RW K T n3 (by decide) h3' (KM K hw h3') ?_;exact⟨KM K hw h3',Ac _,h⟩
end
theorem YO{κ:Type}[DecidableEq κ]{c:List (κ×List D)}{k:κ}{ds:List D}(nd:(c.map (·.1)).Nodup):((Bk c k ds).flatMap (·.2)).Perm (c.flatMap (·.2)++ds):=by
 by_cases h:k∈c.map (·.1)
 .have e:Bk c k ds=c.map (λe=>if e.1=k then (e.1,e.2++ds) else e):=by unfold Bk;rw[if_pos h]
  rw[e];clear e
  induction c with
  |nil=>cases h
  |cons x c ih =>
   rw[Am,Hk] at nd;rw[Am,EY,EY]
   by_cases hx:x.1=k
   .rw[if_pos hx]
    have e2:c.map (λe=>if e.1=k then (e.1,e.2++ds) else e)=c:=by
     conv=>rhs;rw[<-AKY c]
     apply HE;intro e he;rw[if_neg (λz=>nd.1 (by rw[hx,<-z];exact Cj he))];rfl
    rw[e2];simp only[AJk];exact(List.perm_append_comm (l₁:=ds) (l₂:=c.flatMap (·.2))).append_left x.2
   .rw[if_neg hx,AJk]
    have h':k∈c.map (·.1):=by
     rw[Am] at h;rcases Ae.mp h with z|z
     .exact absurd z.symm hx
     .exact z
    exact(ih nd.2 h').append_left x.2
 .have e:Bk c k ds=c++[(k,ds)]:=by unfold Bk;rw[if_neg h]
  rw[e,AJ7];simp
theorem SZ{w:List Str}:∀(A:List (List Str×List D)) {c:List (List Str×List D)},(c.map (·.1)).Nodup->((A.foldl (Bo w) c).flatMap (·.2)).Perm (c.flatMap (·.2)++(A.filter λa=>JB a.1 w).flatMap (·.2))
 |[],c,_=>by simp
 |a::A,c,nd=>by
  rw[AJj]
  by_cases h:JB a.1 w=true
  .have e:Bo w c a=Bk c a.1 a.2:=by unfold Bo;rw[if_pos h]
   rw[e,AKC,if_pos h,EY,<-AJk];exact(SZ A (MJ nd)).trans ((YO nd).append_right _)
  .have e:Bo w c a=c:=by unfold Bo;rw[if_neg h]
   rw[e,AKC,if_neg h];exact SZ A nd
theorem Ri{ts:List Str}:∀(A:List D) {c:List (List Int×List D)},(c.map (·.1)).Nodup->((A.foldl (CQ ts) c).flatMap (·.2)).Perm (c.flatMap (·.2)++A.filter λp=>(Er ts p).isSome)
 |[],c,_=>by simp
 |x::A,c,nd=>by
  rw[AJj]
  cases e:Er ts x with
  |none =>
   have e2:CQ ts c x=c:=by unfold CQ;rw[e]
   rw[e2,AKC,if_neg (by rw[e];simp)];exact Ri A nd
  |some ks =>
   have e2:CQ ts c x=Bk c ks [x]:=by unfold CQ;rw[e]
   rw[e2,AKC,if_pos (by rw[e];rfl)];have h:=(Ri (ts:=ts) A (c:=Bk c ks [x]) (MJ nd)).trans ((YO nd).append_right _);rw[AJk] at h;exact h
theorem ADG:DP.Nodup:=by decide +kernel
theorem ADI(ts:List Str):((CD ts).flatMap (·.2)).Nodup:=by have h:=Ri (ts:=ts) DP (c:=[]) Hj;refine h.nodup_iff.mpr ?_;simpa using List.Sublist.nodup List.filter_sublist ADG
theorem OB{d:Str}{xs ys:List D}{p:D}:p∈FB d xs ys↔∃x∈xs,∃y∈ys,p=.tup [.str d,x,y]:=by
 unfold FB;simp only[EW,BC];constructor
 .rintro⟨x,hx,y,hy,rfl⟩;exact⟨x,hx,y,hy,rfl⟩
 .rintro⟨x,hx,y,hy,rfl⟩;exact⟨x,hx,y,hy,rfl⟩
theorem AHI{d:Str}{xs ys:List D}(hx:xs.Nodup)(hy:ys.Nodup):(FB d xs ys).Nodup:=by
 unfold FB List.Nodup;rw[AKc];refine⟨λx _=>?_,hx.imp λ{a b} h u hu v hv e=>?_⟩
 .rw[AKb];exact hy.imp λh e=>h (by simpa using e)
 .obtain⟨y,_,rfl⟩:=BC.mp hu;obtain⟨z,_,rfl⟩:=BC.mp hv;exact h (by simp at e;exact e.1)
theorem YN{κ:Type}{c:List (κ×List D)}(nd:(c.flatMap (·.2)).Nodup){e:κ×List D}(h:e∈c):e.2.Nodup:=by unfold List.Nodup at nd;rw[AKc] at nd;exact nd.1 e h
theorem WZ(ts:List Str)(s e:List Int×List D):∃l:List Str,l.Nodup/\(∀d∈l,d∈Dw)/\(Cv ts s e).flatMap (·.2)=l.flatMap λd=>FB d s.2 e.2:=by
 unfold Cv;split
 .refine⟨Dw,by decide +kernel,λd h=>h,?_⟩;rw[AKa];rfl
 .exact⟨[],Hj,λd h=>(nomatch h),rfl⟩
theorem AD3{κ:Type}{c:List (κ×List D)}(nd:(c.flatMap (·.2)).Nodup):c.Pairwise λa b=>∀p∈a.2,p∉b.2:=by
 induction c with
 |nil=>exact .nil
 |cons x c ih =>
  rw[EY,Hl] at nd;exact .cons (λb hb p hp hpb=>nd.2.2 p hp p (EW.mpr ⟨b,hb,hpb⟩) rfl) (ih nd.2.1)
theorem AHg{ws:List Str}(hw:ws.Nodup)(ts:List Str):((Cy ws ts++FP ts (CD ts)).flatMap (·.2)).Nodup:=by
 have hP:=ADI ts;have pw:=AD3 hP;rw[AJ7,Hl]
 have e1:(Cy ws ts).flatMap (·.2)=ws.map Hn:=by
  unfold Cy;rw[AKa];show ws.flatMap (λw=>[Hn w])=_
  induction ws with
  |nil=>rfl
  |cons w ws ih=>rw[EY,ih (Hk.mp hw).2];rfl
 have e2:(FP ts (CD ts)).flatMap (·.2)=(CD ts).flatMap λs=>(CD ts).flatMap λe=>(Cv ts s e).flatMap (·.2):=by unfold FP;simp only[List.flatMap_assoc]
 have inP:∀{s e:List Int×List D} {p:D},p∈(Cv ts s e).flatMap (·.2)->∃d∈Dw,∃x∈s.2,∃y∈e.2,p=.tup [.str d,x,y]:=λ{s e p} h=>by
  obtain⟨l,_,hl,he⟩:=WZ ts s e;rw[he] at h;obtain⟨d,hd,h⟩:=EW.mp h;obtain⟨x,hx,y,hy,rfl⟩:=OB.mp h;exact⟨d,hl d hd,x,hx,y,hy,rfl⟩
 refine⟨?_,?_,?_⟩
 .rw[e1];unfold List.Nodup;rw[AKb];exact hw.imp λh e=>h (by simpa[Hn] using e)
 .rw[e2];unfold List.Nodup;rw[AKc];refine⟨λs hs=>?_,pw.imp λ{a b} h u hu v hv e=>?_⟩
  .rw[AKc];refine⟨λe he=>?_,pw.imp λ{a b} h u hu v hv e=>?_⟩
   .obtain⟨l,hl,_,hh⟩:=WZ ts s e;rw[hh,AKc];refine⟨λd _=>AHI (YN hP hs) (YN hP he),hl.imp λ{a b} h u hu v hv e=>?_⟩;obtain⟨x,_,y,_,rfl⟩:=OB.mp hu;obtain⟨x',_,y',_,rfl⟩:=OB.mp hv;exact h (by simp at e;exact e.1)
   .obtain⟨d,_,x,hx,y,hy,rfl⟩:=inP hu;obtain⟨d',_,x',hx',y',hy',rfl⟩:=inP hv;have:y=y':=by simp at e;exact e.2.2
    subst this;exact h y hy hy'
  .obtain⟨e1,_,hu⟩:=EW.mp hu;obtain⟨e2,_,hv⟩:=EW.mp hv;obtain⟨d,_,x,hx,y,hy,rfl⟩:=inP hu;obtain⟨d',_,x',hx',y',hy',rfl⟩:=inP hv;have:x=x':=by simp at e;exact e.2.1
   subst this;exact h x hx hx'
 .rw[e1,e2];intro a ha b hb e;obtain⟨w,_,rfl⟩:=BC.mp ha;obtain⟨s,_,hb⟩:=EW.mp hb;obtain⟨e',_,hb⟩:=EW.mp hb;obtain⟨d,_,x,_,y,_,rfl⟩:=inP hb;simp[Hn] at e
theorem AF1{ws:List Str}(hw:ws.Nodup)(ts w:List Str):((CU ws ts w).flatMap (·.2)).Nodup:=by
 refine(SZ (w:=w) (Cy ws ts++FP ts (CD ts)) (c:=[]) Hj).nodup_iff.mpr ?_;rw[List.flatMap_nil,List.nil_append];have h:=AHg hw ts;generalize Cy ws ts++FP ts (CD ts)=A at h;refine List.Sublist.nodup (?_:(List.Sublist _ _)) h
 induction A with
 |nil=>exact List.Sublist.refl _
 |cons a A ih =>
  rw[EY,Hl] at h;rw[AKC,EY];split
  .rw[EY];exact List.Sublist.append (List.Sublist.refl _) (ih h.2.1)
  .exact(ih h.2.1).trans (List.sublist_append_right _ _)
theorem Xk{w:List Str}:∀(A:List (List Str×List D)) {c:List (List Str×List D)} {a:List Str} {p:D},(∃ps,(a,ps)∈c/\p∈ps)->∃ps,(a,ps)∈A.foldl (Bo w) c/\p∈ps
 |[],_,_,_,h=>h
 |x::A,c,a,p,⟨ps,h1,h2⟩=>by
  refine Xk A ?_;unfold Bo;split
  .by_cases z:x.1∈c.map (·.1)
   .unfold Bk;rw[if_pos z]
    by_cases y:a=x.1
    .exact⟨ps++x.2,BC.mpr ⟨(a,ps),h1,by rw[if_pos y]⟩,AJy _ h2⟩
    .exact⟨ps,BC.mpr ⟨(a,ps),h1,by rw[if_neg y]⟩,h2⟩
   .unfold Bk;rw[if_neg z];exact⟨ps,AJy _ h1,h2⟩
  .exact⟨ps,h1,h2⟩
theorem AHi{c:List (List Str×List D)}{k:List Str}{ds:List D}{p:D}(h:p∈ds):∃ps,(k,ps)∈Bk c k ds/\p∈ps:=by
 unfold Bk
 by_cases z:k∈c.map (·.1)
 .rw[if_pos z];obtain⟨e,he,rfl⟩:=BC.mp z;refine⟨e.2++ds,BC.mpr ⟨e,he,by rw[if_pos rfl]⟩,Hm _ h⟩
 .rw[if_neg z];exact⟨ds,by simp,h⟩
theorem Sa{w:List Str}:∀(A:List (List Str×List D)) {c:List (List Str×List D)} {x:List Str×List D} {p:D},x∈A->JB x.1 w=true->p∈x.2->∃ps,(x.1,ps)∈A.foldl (Bo w) c/\p∈ps
 |[],_,_,_,h,_,_=>(nomatch h)
 |y::A,c,x,p,h,hi,hp=>by
  rw[AJj];rcases Ae.mp h with e|h
  .subst e;refine Xk A ?_;unfold Bo;rw[if_pos hi];exact AHi hp
  .exact Sa A h hi hp
theorem WK{ts:List Str}:∀(A:List D) {c:List (List Int×List D)} {a:List Int} {p:D},(∃ps,(a,ps)∈c/\p∈ps)->∃ps,(a,ps)∈A.foldl (CQ ts) c/\p∈ps
 |[],_,_,_,h=>h
 |x::A,c,a,p,⟨ps,h1,h2⟩=>by
  refine WK A ?_;unfold CQ
  cases Er ts x with
  |none=>exact⟨ps,h1,h2⟩
  |some ks =>
   show ∃qs,(a,qs)∈Bk c ks [x]/\p∈qs
   by_cases z:ks∈c.map (·.1)
   .unfold Bk;rw[if_pos z]
    by_cases y:a=ks
    .exact⟨ps++[x],BC.mpr ⟨(a,ps),h1,by rw[if_pos y]⟩,AJy _ h2⟩
    .exact⟨ps,BC.mpr ⟨(a,ps),h1,by rw[if_neg y]⟩,h2⟩
   .unfold Bk;rw[if_neg z];exact⟨ps,AJy _ h1,h2⟩
theorem Rj{ts:List Str}:∀(A:List D) {c:List (List Int×List D)} {x:D} {ks:List Int},x∈A->Er ts x=some ks->∃ps,(ks,ps)∈A.foldl (CQ ts) c/\x∈ps
 |[],_,_,_,h,_=>(nomatch h)
 |y::A,c,x,ks,h,hs=>by
  rw[AJj];rcases Ae.mp h with e|h
  .subst e;refine WK A ?_;unfold CQ;rw[hs];show ∃ps,(ks,ps)∈Bk c ks [x]/\x∈ps;unfold Bk
   by_cases z:ks∈c.map (·.1)
   .rw[if_pos z];obtain⟨e,he,rfl⟩:=BC.mp z;exact⟨e.2++[x],BC.mpr ⟨e,he,by rw[if_pos rfl]⟩,by simp⟩
   .rw[if_neg z];exact⟨[x],by simp,by simp⟩
  .exact Rj A h hs
theorem WJ{p:D}(h:ES p):p∈DP:=by
 obtain⟨k,n,e,rfl,hn,he,hk⟩:=h;simp only[DP,p1,SI,Ny,EW,Ae,EH,or_false];refine⟨.str k,?_,.int n,?_,.str e,?_,rfl⟩
 .simpa using hk
 .rcases hn with rfl|rfl|rfl|rfl <;> simp
 .rcases he with rfl|rfl <;> simp
theorem Xd{ts:List Str}{p:D}(h:∀i,i<ts.length->∃z,Df p (ts.getD i "")=.int z):∃ks,Er ts p=some ks/\ks.length=ts.length/\∀i,i<ts.length->Df p (ts.getD i "")=.int (ks.getD i 0):=by
 have:∃ks,Er ts p=some ks:=by
  unfold Er
  induction ts with
  |nil=>exact⟨[],rfl⟩
  |cons t ts ih =>
   obtain⟨z,hz⟩:=h 0 (by simp);obtain⟨ks,hk⟩:=ih λi hi=>by simpa using h (i+1) (by simpa using hi)
   have hz':Df p t=.int z:=by simpa using hz
   exact⟨z::ks,by rw[Am,hz'];simp only[Ee,hk];rfl⟩
 obtain⟨ks,hk⟩:=this;exact⟨ks,hk,by have:=congrArg List.length (Lf hk);simpa using this.symm,λi hi=>SR hk hi⟩
theorem RN{a b:List Str}(hl:a.length=b.length)(h:∀i,i<a.length->a.getD i ""=b.getD i ""):a=b:=by apply List.ext_getElem hl;intro i h1 h2;have:=h i h1;simpa[h1,h2] using this
theorem ADP{ws ts wd:List Str}{p:D}{a:List Str}(hp:Fy ws p)(hl:a.length=ts.length)(ha:∀i,i<ts.length->CS (ts.getD i "") p=.str (a.getD i ""))(hi:JB a wd=true):∃ps,(a,ps)∈CU ws ts wd/\p∈ps:=by
 unfold CU;rcases hp with⟨w,hw,rfl⟩|⟨d,x,y,rfl,hd,hx,hy⟩
 .have e:a=ts.map λ_=>w:=by
   apply RN (by simp[hl]);intro i h1;have:=ha i (by omega);have e2:(ts.map λ_=>w).getD i ""=w:=by simp[show i<ts.length by omega]
   rw[e2];exact(D.str.inj this).symm
  subst e;exact Sa _ (x:=(ts.map (λ_=>w),[Hn w])) (AJy _ (Cj hw)) hi (by simp[Hn])
 .have key:∀i,i<ts.length->∃z z',Df x (ts.getD i "")=.int z/\Df y (ts.getD i "")=.int z'/\z<z'/\a.getD i ""=Ex d (Txt.slice (ts.getD i "") (some z) (some z')):=λi h=>by
   have h1:=ha i h;obtain⟨k',n',e',rfl,_⟩:=id hy;rw[LX] at h1;rcases JZ hx (ts.getD i "") with e1|⟨z,e1,_⟩
   .rw[e1] at h1;cases h1
   .rcases JZ hy (ts.getD i "") with e2|⟨z',e2,_⟩
    .rw[e1,e2] at h1;cases h1
    .rw[e1,e2] at h1;simp only at h1;split at h1
     .cases h1
     .exact⟨z,z',e1,e2,by omega,(D.str.inj h1).symm⟩
  obtain⟨ks,hk1,hk2,hk3⟩:=Xd (p:=x) λi h=>by obtain⟨z,z',e1,_⟩:=key i h;exact⟨z,e1⟩
  obtain⟨ls,hl1,hl2,hl3⟩:=Xd (p:=y) λi h=>by obtain⟨z,z',_,e1,_⟩:=key i h;exact⟨z',e1⟩
  obtain⟨xs,hxs,hxm⟩:=Rj (ts:=ts) DP (c:=[]) (WJ hx) hk1;obtain⟨ys,hys,hym⟩:=Rj (ts:=ts) DP (c:=[]) (WJ hy) hl1
  have hlt:Fb ts ks ls=true:=by unfold Fb;rw[CW];intro i h;have h:=Cr.mp h;obtain⟨z,z',e1,e2,h3,_⟩:=key i h;rw[hk3 i h] at e1;rw[hl3 i h] at e2;have:=D.int.inj e1;have:=D.int.inj e2;exact decide_eq_true (by omega)
  have e:a=(Ey ts ks ls ts.length).map (Ex d):=by
   apply RN (by simp[hl,Sr]);intro i h1;have h:=show i<ts.length by omega
   obtain⟨z,z',e1,e2,_,h4⟩:=key i h;rw[hk3 i h] at e1;rw[hl3 i h] at e2;rw[h4,<-D.int.inj e1,<-D.int.inj e2];unfold Ey;simp[h]
  have hdd:d∈Dw:=by rcases hd with rfl|rfl|rfl <;> decide +kernel
  have hm:Gs ts (ks,xs) (ls,ys) d∈Cy ws ts++FP ts (CD ts):=by refine Hm _ (EW.mpr ⟨(ks,xs),hxs,EW.mpr ⟨(ls,ys),hys,?_⟩⟩);unfold Cv;rw[if_pos hlt];exact Cj hdd
  subst e;exact Sa _ (x:=Gs ts (ks,xs) (ls,ys) d) hm hi (OB.mpr ⟨x,hxm,y,hym,rfl⟩)
theorem AFr{x y:Str}{u v:List Nat}(h:y.cps.toList=u++x.cps.toList++v):Gi x y=true:=by
 unfold Gi;rw[StrLaws.found_iff]
 have hl:y.length=u.length+x.length+v.length:=by have:=congrArg List.length h;rw[Ck,Ck] at this;exact this
 refine⟨u.length,by omega,?_⟩;rw[StrLaws.subAt_eq,h,AJk,List.drop_left];have:(x.cps.toList++v).take x.length=x.cps.toList:=List.take_left' rfl;rw[this];simp
theorem Ve{a b:Str}{v:List Nat}(h:a.cps.toList=b.cps.toList++v):Txt.startswith a b=true/\(Txt.slice a (some (b.length:Int)) none).cps.toList=v:=by
 have hl:b.length<=a.length:=by have:=congrArg List.length h;rw[Ck] at this;show b.cps.toList.length<=a.cps.toList.length;omega
 refine⟨?_,?_⟩
 .unfold Txt.startswith
  rw[CJ];refine⟨decide_eq_true (by omega),?_⟩;rw[StrLaws.subAt_eq,h,AKE];have:(b.cps.toList++v).take b.length=b.cps.toList:=List.take_left' rfl;rw[this];simp
 .rw[Vk hl,h];exact List.drop_left' rfl
theorem Uq{ws ts:List Str}{G:BE}(K:GA ws ts G):∀(as:List (List Str)) (rest:List Str),as≠[]->rest.length=ts.length->(∀a∈as,a∈G.map (·.1))->(∀i,i<ts.length->(as.flatMap λa=>(a.getD i "").cps.toList)=(rest.getD i "").cps.toList)->0<AT G as.length rest
 |[],_,h,_,_,_=>absurd rfl h
 |[a],rest,_,hr,hm,hc=>by
  have hal:=K.len a (hm a (by simp))
  have e:a=rest:=by apply RN (by omega);intro i h;have:=hc i (by omega);apply Vb;simpa using this
  subst e;have hin:=hm a (by simp)
  have hb:Dc a a=some (Fa a a a.length):=by unfold Dc;rw[if_pos];unfold LV;rw[CW];exact λi _=>(Ve (v:=[]) (by simp)).1
  show 0<((Ba G 1 a).map _).sum;have ht:Ba G 1 a=[a]:=by unfold Ba;rw[if_pos rfl,if_pos hin]
  rw[ht,Am,AJ2,hb];simp only[FF,List.sum_nil];have:=K.pos a hin;show 0<Cf G a*1+0;omega
 |a::b::as,rest,_,hr,hm,hc=>by
  have hin:=hm a (by simp);have hal:=K.len a hin;have hst:∀i,i<ts.length->Txt.startswith (rest.getD i "") (a.getD i "")=true/\(Txt.slice (rest.getD i "") (some ((a.getD i "").length:Int)) none).cps.toList=(b::as).flatMap λa=>(a.getD i "").cps.toList:=λi h=>Ve (by rw[<-hc i h,EY])
  have hb:Dc rest a=some (Fa rest a rest.length):=by unfold Dc;rw[if_pos];unfold LV;rw[CW];exact λi h=>(hst i (by have:=Cr.mp h;omega)).1
  have hbl:=TB hb
  have ih:=Uq K (b::as) (Fa rest a rest.length) (by simp) (hbl.trans hr) (λx hx=>hm x (BQ _ hx)) λi h=>by
   have e5:(Fa rest a rest.length).getD i ""=Txt.slice (rest.getD i "") (some ((a.getD i "").length:Int)) none:=by unfold Fa;simp[show i<rest.length by omega]
   rw[e5,(hst i h).2]
  have ht:a∈Ba G ((b::as).length+1) rest:=by unfold Ba;rw[if_neg (by simp)];exact hin
  show 0<((Ba G ((b::as).length+1) rest).map _).sum
  have hmem:=Cj (f:=λa=>match Dc rest a with|some b'=>Cf G a*AT G (b::as).length b'|none=>0) ht
  have hle:∀(l:List Nat) (x:Nat),x∈l->x<=l.sum:=λl=>by
   induction l with
   |nil=>intro x h;cases h
   |cons y l ih =>
    intro x h;rw[FF];rcases Ae.mp h with rfl|h
    .omega
    .have:=ih x h;omega
  have:=hle _ _ hmem;rw[hb] at this;simp only at this;have hpos:0<Cf G a*AT G (b::as).length (Fa rest a rest.length):=Nat.mul_pos (K.pos a hin) ih;exact DZ hpos this
def Hw(d:D)(ws:List D):Bool:=match d with|.str _=>Db d ws|_=>false
def NU(d:D):Bool:=match d with|.int i=>Db (.int i) [.int 1,.int 2,.int (-1),.int (-2)]|_=>false
def Nc:List D:=[.str "small",.str "great",.str "figure",.str "mark",.str "any"]
def So:List D:=[.str "ahead",.str "behind"]
theorem TJ{Q:ALM}{L:AD}{d:D}{ws:List D}{t:String}(ht:GJ d L=some t)(hw:ws.all BO=true)(h:Q (.bl (Hw d ws)) L):W2 (zb [d,.tup ws] L) Q:=by
 unfold zb;refine By rfl ?_;unfold On;rfl'
 cases d with
 |str s =>
  refine Sd rfl rfl rfl ?_;rfl';refine Nn (by rw[hw];rfl) ?_;exact⟨rfl,Ac _,h⟩
 |non=>refine GP rfl rfl rfl ?_;rfl';exact⟨rfl,Ac _,h⟩
 |bl b=>refine GP rfl rfl rfl ?_;rfl';exact⟨rfl,Ac _,h⟩
 |int b=>refine GP rfl rfl rfl ?_;rfl';exact⟨rfl,Ac _,h⟩
 |tup b=>refine GP rfl rfl rfl ?_;rfl';exact⟨rfl,Ac _,h⟩
 |fz b=>refine GP rfl rfl rfl ?_;rfl';exact⟨rfl,Ac _,h⟩
 |ty b=>cases ht
 |ref k =>
  have:t = "list"\/t = "dict":=by
   simp only[GJ] at ht;split at ht
   .cases ht;exact .inl rfl
   .cases ht;exact .inr rfl
   .cases ht
  rcases this with rfl|rfl
  .refine GP rfl ht rfl ?_;rfl';exact⟨rfl,Ac _,h⟩
  .refine GP rfl ht rfl ?_;rfl';exact⟨rfl,Ac _,h⟩
theorem AEb{Q:ALM}{L:AD}{d:D}{t:String}(ht:GJ d L=some t)(h:Q (.bl (NU d)) L):W2 (zf2 [d] L) Q:=by
 unfold zf2;refine By rfl ?_;simp only[Oe,JT];rfl'
 cases d with
 |int i =>
  refine Sd rfl rfl rfl ?_;rfl';refine Nn rfl ?_;exact⟨rfl,Ac _,h⟩
 |non=>refine GP rfl rfl rfl ?_;rfl';exact⟨rfl,Ac _,h⟩
 |bl b=>refine Sd rfl rfl rfl ?_;rfl';exact⟨rfl,Ac _,h⟩
 |str b=>refine GP rfl rfl rfl ?_;rfl';exact⟨rfl,Ac _,h⟩
 |tup b=>refine GP rfl rfl rfl ?_;rfl';exact⟨rfl,Ac _,h⟩
 |fz b=>refine GP rfl rfl rfl ?_;rfl';exact⟨rfl,Ac _,h⟩
 |ty b=>cases ht
 |ref k =>
  have:t = "list"\/t = "dict":=by
   simp only[GJ] at ht;split at ht
   .cases ht;exact .inl rfl
   .cases ht;exact .inr rfl
   .cases ht
  rcases this with rfl|rfl
  .refine GP rfl ht rfl ?_;rfl';exact⟨rfl,Ac _,h⟩
  .refine GP rfl ht rfl ?_;rfl';exact⟨rfl,Ac _,h⟩
theorem ADJ{Q:ALM}{L:AD}{a b c:D}{ta tb tc:String}(ha:GJ a L=some ta)(hb:GJ b L=some tb)(hc:GJ c L=some tc)(h:Q (.bl (Hw a Nc&&(NU b&&Hw c So))) L):W2 (za1 [.tup [a,b,c]] L) Q:=by
 unfold za1;refine By rfl ?_;simp only[OW,JU,JS];rfl';refine TJ ha rfl ?_;rfl';have ea:Hw a [.str "small",.str "great",.str "figure",.str "mark",.str "any"]=Hw a Nc:=rfl;have ec:Hw c [.str "ahead",.str "behind"]=Hw c So:=rfl;rw[ea]
 cases h1:Hw a Nc with
 |false=>rw[h1] at h;rfl';exact⟨rfl,Ac _,h⟩
 |true =>
  rw[h1,Bool.true_and] at h;rfl';refine AEb hb ?_;rfl'
  cases h2:NU b with
  |false=>rw[h2] at h;rfl';exact⟨rfl,Ac _,h⟩
  |true =>
   rw[h2,Bool.true_and] at h;rfl';refine TJ hc rfl ?_;rw[ec];exact⟨rfl,Ac _,h⟩
theorem AFV{kind:Str}(h:kind∈([("small":Str),"great","figure","mark","any"]:List Str)):Hw (.str kind) Nc=true:=by simp only[Ae,EH,or_false] at h;rcases h with rfl|rfl|rfl|rfl|rfl <;> decide +kernel
theorem AGl{edge:Str}(h:edge = "ahead"\/edge = "behind"):Hw (.str edge) So=true:=by rcases h with rfl|rfl <;> decide +kernel
theorem AEc{n:Int}(h:ML n):NU (.int n)=true:=by rcases h with rfl|rfl|rfl|rfl <;> decide +kernel
theorem XZ{Q:ALM}{L:AD}{p:D}(hp:ES p)(h:Q (.bl true) L):W2 (za1 [p] L) Q:=by obtain⟨kind,nth,edge,rfl,hn,he,hk⟩:=hp;refine ADJ rfl rfl rfl ?_;rw[AFV hk,AEc hn,AGl he];exact h
theorem ACm{xs:List (NK×D)}:∀{m:List (NK×D)},((m++xs).map (·.1)).Nodup->xs.foldl (λm x=>Dq m x.1 x.2) m=m++xs:=by
 induction xs with
 |nil=>intro m _;simp
 |cons x xs ih =>
  intro m h;rw[AJj]
  have hx:x.1∉m.map (·.1):=λz=>by
   rw[Dz,Hl] at h;exact h.2.2 _ z x.1 (by simp) rfl
  rw[(NJ (ep:=0) hx).1,ih (by simpa using h)];simp
theorem ACs{xs:List (NK×D)}(h:(xs.map (·.1)).Nodup):FM xs=xs:=by unfold FM;rw[ACm (m:=[]) (by simpa using h)];rfl
theorem AGd(a:List Str)(ps:List D):(Eu a ps).map (·.1)=ps.map BM:=by
 unfold Eu;rw[Cs];have e:((ps.zipIdx.map λq=>BM q.1):List NK)=(ps.zipIdx.map Prod.fst).map BM:=by rw[Cs];rfl
 rw[List.zipIdx_map_fst] at e;exact e
theorem AGT(G:BE):(Dj G).map (·.1)=(G.flatMap (·.2)).map BM:=by
 unfold Dj
 induction G with
 |nil=>rfl
 |cons e G ih=>rw[EY,EY,Dz,Dz,ih,AGd]
theorem AEo{ws ts:List Str}{G:BE}(K:GA ws ts G)(nd:(G.flatMap (·.2)).Nodup){a:List Str}{ps:List D}{i:Nat}{p:D}(h:(a,ps)∈G)(hp:ps[i]?=some p):CG (FM (Dj G)) (BM p)=some (.tup [Ar a,.int (i:Int)]):=by
 have hk:((Dj G).map (·.1)).Nodup:=by rw[AGT];unfold List.Nodup at nd ⊢;rw[AKb];refine List.Pairwise.imp_of_mem ?_ nd;intro x y hx hy hxy e;obtain⟨e1,h1,hx⟩:=EW.mp hx;obtain⟨e2,h2,hy⟩:=EW.mp hy;have k1:=Kq (K.snd e1 h1 x hx).2.1;have k2:=Kq (K.snd e2 h2 y hy).2.1;exact hxy (by rw[k1,k2,e])
 rw[ACs hk]
 have hm:(BM p,D.tup [Ar a,.int (i:Int)])∈Dj G:=by refine EW.mpr ⟨(a,ps),h,?_⟩;unfold Eu;exact BC.mpr ⟨(p,i),List.mk_mem_zipIdx_iff_getElem?.mpr hp,rfl⟩
 obtain⟨k,hkk⟩:=AKZ hm;exact SE hk hkk
def KQ(G:BE):Nat->List Str->List D->Nat->Prop
 |0,_,[],n=>n=0
 |l+1,rest,p::row,n=>∃(a:List Str) (ps:List D) (i f:Nat) (b:List Str) (n':Nat),(a,ps)∈G/\ps[i]?=some p/\(a,f,b)∈FC G l rest/\KQ G l b row n'/\n=f+i*AT G l b+n'
 |_,_,_,_=>False
theorem Wk{ws ts:List Str}{G:BE}(K:GA ws ts G):∀{l z:Nat} {rest:List Str},z<AT G l rest->KQ G l rest (Cg G l rest z) z
 |0,z,rest,h=>by
  have:z=0:=by simp[AT] at h;exact h
  subst this;exact rfl
 |l+1,z,rest,h=>by
  obtain⟨x,hx,h1,h2,h3,h4⟩:=NH K.pos h;obtain⟨e,hf,he,hek⟩:=HU (JX (Jx hx).1);have hg:Ef G x.1=some e.2:=by unfold Ef;rw[hf];rfl
  have hlt:(z-x.2.1) / AT G l x.2.2<e.2.length:=by unfold Cf at h3;rw[hg] at h3;exact h3
  have er:Cg G (l+1) rest z=(((Ef G x.1).getD [])[(z-x.2.1) / AT G l x.2.2]?.getD .non)::Cg G l x.2.2 ((z-x.2.1) % AT G l x.2.2):=by
   conv=>lhs;unfold Cg
   rw[h1]
  rw[er,hg];refine⟨x.1,e.2,(z-x.2.1) / AT G l x.2.2,x.2.1,x.2.2,(z-x.2.1) % AT G l x.2.2,by rw[<-hek];exact he,by simp[hlt],hx,Wk K h4,?_⟩;have:=Nat.div_add_mod (z-x.2.1) (AT G l x.2.2);rw[Nat.mul_comm] at this;omega
theorem Yp{G:BE}{l:Nat}:∀{r:List EU} {s e:Nat},Ib G l s r e->s<=e
 |[],s,e,h=>AJz h
 |x::r,s,e,h=>by have:=Yp h.2.2;omega
theorem AHU{G:BE}(hp:∀a∈G.map (·.1),0<Cf G a){l:Nat}{rest:List Str}{x:EU}(hx:x∈FC G l rest):AT G (l+1) rest≠0:=by
 have h:=ZO (l:=l) (rest:=rest) hp
 cases e:FC G l rest with
 |nil=>rw[e] at hx;cases hx
 |cons y r =>
  rw[e] at h;have h1:=h.2.1;have:=Yp h.2.2;omega
theorem AEa{ws ts:List Str}{G:BE}(K:GA ws ts G){l n:Nat}{rest:List Str}{row:List D}(h:KQ G l rest row n):AT G l rest≠0:=by
 cases l with
 |zero=>simp[AT]
 |succ l =>
  cases row with
  |nil=>exact h.elim
  |cons p row =>
   obtain⟨a,ps,i,f,b,n',_,_,h3,_⟩:=h;exact AHU K.pos h3
section
variable {L:AD}{t:Nat}{ws ts wd:List Str}{G:BE}{Q:ALM}
theorem RK{n:Int}{xs:List D}(h:Q (.bl (decide ((xs.length:Int)=n))) L):W2 (zr [.int n,.tup xs] L) Q:=by unfold zr;refine By rfl ?_;unfold Ox;rfl';exact⟨rfl,Ac _,h⟩
theorem SO{w:Str}{ws:List Str}(h:Q (.bl (decide (w∈ws))) L):W2 (zb [.str w,.tup (ws.map D.str)] L) Q:=by refine TJ (t:="str") rfl (Nu ws) ?_;show Q (.bl (Db (.str w) (ws.map D.str))) L;rw[Lg];exact h
theorem ABr{d:Str}{x y:D}(hd:d∈Dw)(hx:ES x)(hy:ES y)(h:Q (.bl true) L):W2 (zg2 [.tup [.str d,x,y]] L) Q:=by unfold zg2;refine By rfl ?_;unfold Qv;rfl';refine RK ?_;rfl';refine SO (ws:=Dw) ?_;rw[decide_eq_true hd];rfl';refine XZ hx ?_;rfl';refine XZ hy ?_;exact⟨rfl,Ac _,h⟩
theorem AA6{p:D}(T:ID L t ws G wd)(hp:Fy ws p)(h:Q (.bl true) L):W2 (zh2 [.ref t,p] L) Q:=by
 obtain⟨g,m,nd,nn,rt,es,sp,rs,mk,ks,T,hm,hr,hk3,hkn⟩:=T;have ht:=T.t_;unfold zh2;refine By rfl ?_;unfold Qm;rcases hp with⟨w,hw,rfl⟩|⟨d,x,y,rfl,hd,hx,hy⟩
 .rfl';refine RK ?_;rfl';refine SO (ws:=["word"]) ?_;rfl';refine SO ?_;rw[decide_eq_true hw];exact⟨rfl,Ac _,h⟩
 .rfl';refine RK ?_;rfl';refine ABr (by rcases hd with rfl|rfl|rfl <;> decide +kernel) hx hy ?_;exact⟨rfl,Ac _,h⟩
theorem ACS{ps:List D}(T:ID L t ws G wd)(hr:JL ws ps)(h:Q (.bl true) L):W2 (zi2 [.ref t,.tup ps] L) Q:=by
 unfold zi2;refine By rfl ?_;unfold Qg;simp only[JR];rfl';refine Nl rfl ?_;have h1:=hr.2.1;have h3:=hr.2.2
 have e1:Db (.int (ps.length:Int)) [.int 1,.int 2,.int 3]=true:=by
  match ps,h1,h3 with
  |[_],_,_=>rfl
  |[_,_],_,_=>rfl
  |[_,_,_],_,_=>rfl
 rw[e1];rfl';refine Im (λρ=>∃e,ρ=[e,some (.ref t)]) (λp=>.bl true) (λacc=>rfl) ⟨_,rfl⟩ (by omega) ?_ ?_
 .rintro x hx ρ ⟨e,rfl⟩;rfl';refine⟨⟨_,rfl⟩,λacc=>?_⟩;rfl';exact AA6 (T.pre (BB _ _)) (hr.1 x hx) ⟨rfl,rfl⟩
 .rfl'
  have e2:∀l:List D,blsD (l.map λ_=>.bl true)=some (l.map λ_=>true):=λl=>by
   induction l with
   |nil=>rfl
   |cons x l ih=>simp[blsD,ih]
  refine YB As (e2 ps) ?_;refine⟨rfl,BB _ _,?_⟩;have:((ps.map λ_=>true).all id)=true:=by simp
  rw[this];exact h
def HY(G:BE)(wd:List Str)(l:Nat):Nat:=((List.range l).map λi=>AT G (i+1) wd).sum
theorem VT{α:Type}(f:α->Nat):∀xs:List α,(xs.map λi=>((f i:Nat):Int)).sum=(((xs.map f).sum:Nat):Int)
 |[]=>rfl
 |x::xs=>by rw[Am,Am,FF,FF,VT f xs];omega
theorem Xf{α:Type}(f:α->Int):∀xs:List α,Ee (xs.map λi=>D.int (f i))=some (xs.map f)
 |[]=>rfl
 |x::xs=>by rw[Am];simp only[Ee,Xf f xs];rfl
theorem AEZ(K:GA ws ts G)(fl:(G.flatMap (·.2)).Nodup)(T:ID L t ws G wd){row:List D}{l n:Nat}(hr:JL ws row)(hl:row.length=l+1)(hn:KQ G (l+1) wd row n)(h:Q (.int ((HY G wd l+n:Nat):Int)) L):W2 (zj2 [.ref t,.tup row] L) Q:=by
 have hl3:l<3:=by have:=hr.2.2;omega
 have T':=T;obtain⟨g,m,nd,nn,rt,es,sp,rs,mk,ks,T,⟨epm,hm⟩,hrt,hk3,hkn⟩:=T;unfold zj2;refine By rfl ?_;unfold Qa;rfl';refine ACS T' hr ?_;have ht:=T.t_;have es0:(row.length:Int)-1=((l:Nat):Int):=by omega
 rfl';rw[es0,Yi];have htk:(ks.map λ(k:Nat)=>D.int (k:Int)).take l=(ks.take l).map λ(k:Nat)=>D.int (k:Int):=by rw[List.map_take]
 rw[htk];generalize hL1:L++[Ob.lst ((ks.take l).map λ(k:Nat)=>D.int (k:Int))]=L1;have p1:L <+: L1:=by rw[<-hL1];exact BB _ _
 have hc1:L1[L.length]?=some (.lst ((ks.take l).map λ(k:Nat)=>D.int (k:Int))):=by rw[<-hL1];exact As
 have T1:=T.pre p1;have ht1:=T1.t_;refine Ho (I:=λj ρ L'=>(∃e,ρ=[e,some (.ref t)])/\L'=L1++[.lst ((List.range j).map λi=>D.int ((AT G (i+1) wd:Nat):Int))]) _ 0 _ _ ⟨⟨_,rfl⟩,rfl⟩ ?_ ?_
 .rintro i x ρ L' hx ⟨⟨e,rfl⟩,rfl⟩;refine⟨decide_eq_true (Aj hc1),?_⟩;rw[BH] at hx
  cases hse:(ks.take l)[i]? with
  |none=>rw[hse] at hx;cases hx
  |some k =>
  rw[hse] at hx;cases hx;have hi:i<l:=by have:=(BY.mp hse).1;rw[HF] at this;omega
  rw[List.getElem?_take_of_lt hi] at hse;obtain⟨r,a,h1,h2⟩:=T1.ways (hkn i k hse);have ht':(L1++[Ob.lst ((List.range (0+i)).map λi=>D.int ((AT G (i+1) wd:Nat):Int))])[t]?=_:=Aj ht1;have h2':(L1++[Ob.lst ((List.range (0+i)).map λi=>D.int ((AT G (i+1) wd:Nat):Int))])[r]?=_:=Aj h2;rfl';refine DV (d:=.ref r) (Aj T1.nd_) (Eh (by rw[BH,h1];rfl)) ?_;rfl';refine⟨_,As,by simp;omega,⟨_,rfl⟩,?_⟩;rw[AKP,Dz,CI];simp
 .rintro ρ L' ⟨⟨e,rfl⟩,rfl⟩;refine⟨decide_eq_true (Aj hc1),?_⟩;have e3:(0+((ks.take l).map λ(k:Nat)=>D.int (k:Int)).length)=l:=by rw[An,HF];omega
  rw[e3];rfl';refine Xu As (Xf _ _) ?_;rw[VT];have e4:((List.range l).map λi=>AT G (i+1) wd).sum=HY G wd l:=rfl;rw[e4];generalize hL0:L1++[Ob.lst ((List.range l).map λi=>D.int ((AT G (i+1) wd:Nat):Int))]=L0;have p0:L <+: L0:=by rw[<-hL0];exact p1.trans (BB _ _)
  have T0:=T.pre p0;have ht0:=T0.t_;have hr0:=CC p0 hrt;have hm0:=CC p0 hm;obtain⟨k0,hk0⟩:∃k0,ks[l]?=some k0:=⟨ks[l]'(by omega),by simp[hk3,hl3]⟩;have nk0:=hkn l k0 hk0;have notone:∀{k' l' n':Nat} {rest':List Str} {row':List D},EL G sp k' l' rest'->KQ G l' rest' row' n'->k'≠1:=λh1 h2 e=>AEa K h2 (h1.one.mp e);obtain⟨r1,a1,kv1,ep1,hr1,n1,_⟩:=T0.node nk0 (notone nk0 hn);rfl';refine DV (d:=.int (k0:Int)) hr0 (Eh (by rw[BH,hk0];rfl)) ?_;rfl';refine DV (d:=.ref r1) T0.nd_ (Eh (by rw[BH,hr1];rfl)) ?_;rfl';refine Da (λj ρ L'=>L'=L0/\∃(r a k z n':Nat) (rest':List Str) (e1 e2 e3:Option D),EL G sp k (l+1-j) rest'/\rs[k]?=some (r,a)/\KQ G (l+1-j) rest' (row.drop j) n'/\z+n'=HY G wd l+n/\ρ=[some (.ref t),some (.tup row),some (.int ((l:Nat):Int)),some (.int (z:Int)),some (.ref r),e1,e2,e3]) _ 0 _ _ ⟨rfl,r1,a1,k0,HY G wd l,n,wd,none,none,none,nk0,hr1,hn,rfl,rfl⟩ ?_ ?_
  .rintro j x ρ L' hx ⟨rfl,r,a,k,z,n',rest',e1,e2,e3,hnk,hrk,hnr,hz,rfl⟩;refine⟨rfl,?_⟩;rw[CI] at hnk hnr;have hj:j<row.length:=(BY.mp hx).1;obtain⟨l',hl'⟩:∃l',l+1-j=l'+1:=⟨l-j,by omega⟩
   have hd:row.drop j=x::row.drop (j+1):=by
    rw[AKl hj]
    congr 1
    exact(BY.mp hx).2
   rw[hl'] at hnk;rw[hl',hd] at hnr;have hno:=notone hnk hnr;obtain⟨a',ps,i,f,b,n2,hG,hps,harm,hnr2,hn2⟩:=hnr;obtain⟨r',a2,kvs,ep',hr',nA,_,hS⟩:=T0.node hnk hno;rw[hrk] at hr';cases hr';have pA:=hS l' rfl;obtain⟨ia,hia⟩:=AKZ harm;obtain⟨y,hy,num,rfl,hnum⟩:=WV pA hia
   have hknd:(kvs.map (·.1)).Nodup:=by rw[MH pA];have h1:((FC G l' rest').map (·.1)).Nodup:=List.Sublist.nodup (OE G l' rest' (Ba G (l'+1) rest')) (RL K.nd _ _);unfold List.Nodup at h1 ⊢;rw[AKb] at h1 ⊢;exact h1.imp λhne e=>hne (EM.kf e)
   have hlk:=SE hknd hy;have nAa:=nA.1;have nAb:=nA.2;obtain⟨r2,a3,kv2,ep2,hr2,nB,_⟩:=T0.node hnum (notone hnum hnr2);have nBa:=nB.1;rfl';refine AGB (kk:=BM x) hm0 (K.snd _ hG x (Cd hps)).2.1 ?_;rw[AEo K fl hG hps];simp only[AKt];rfl';refine Se nAb (EM.key a') ?_;rw[hlk];rfl';refine Kt rfl ?_;rfl';refine JD (kk:=BM (Ar a')) nAb (EM.key a') hlk ?_;rfl';refine DV (d:=.ref r2) T0.nd_ (Eh (by rw[BH,hr2];rfl)) ?_;rfl'
   have hib:i<16777216:=by have h1:=(BY.mp hps).1;obtain⟨e,hf,he,hek⟩:=HU (Cj (f:=λe:List Str×List D=>e.1) hG);have:e=(a',ps):=LZ (f:=λe:List Str×List D=>e.1) K.nd he hG hek;have hs:=K.sz a' (Cj (f:=λe:List Str×List D=>e.1) hG);unfold Cf Ef at hs;rw[hf,this] at hs;have:ps.length<=4000000:=hs;omega
   refine Gk (La (by omega)) ?_;rfl';have eN:(z:Int)+((f:Int)+(i:Int)*((AT G l' b:Nat):Int))=((z+(f+i*AT G l' b):Nat):Int):=by push_cast;rfl
   rw[eN];refine⟨rfl,r2,a3,num,z+(f+i*AT G l' b),n2,b,_,_,_,?_,hr2,?_,by omega,rfl⟩
   .rw[CI,show l+1-(j+1)=l' by omega];exact hnum
   .rw[CI,show l+1-(j+1)=l' by omega];exact hnr2
  .rintro ρ L' ⟨rfl,r,a,k,z,n',rest',e1,e2,e3,hnk,hrk,hnr,hz,rfl⟩;refine⟨rfl,?_⟩;rw[CI,hl,Nat.sub_self] at hnr;have hdr:row.drop (l+1)=[]:=by rw[<-hl,AKW]
   rw[hdr] at hnr;have hn0:n'=0:=hnr;rfl';refine⟨rfl,p0,?_⟩;have:z=HY G wd l+n:=by omega
   rw[this];exact h
end
theorem AGC{Q:ALM}{L:AD}{k:Nat}{xs:List D}(e:L[k]?=some (.lst xs))(h:Q .non (L.set k (.lst []))):W2 (Ls (.ref k) [] L) Q:=⟨_,_,by simp only[Ls,e],h⟩
theorem YT{n:Nat}{L:AD}{a b:Nat}{xs:List D}(h1:L[a]?=some (.lst xs))(h2:L[b]?=some (.lst xs))(ok:xs.all (GK n)=true):Cm (n+1) L (.ref a) (.ref b)=some true:=by
 have s1:CP (.ref a) L=some (false,xs):=by simp[CP,h1]
 have s2:CP (.ref b) L=some (false,xs):=by simp[CP,h2]
 have h:=Sl (n+1) L (.fz xs) ok;rw[Lx] at h ⊢;rw[s1,s2];exact h
theorem AEg{Q:ALM}{L:AD}{a b h0 h1 k0 k1:Nat}{ws:List Str}{exs:El}(ea:L[a]?=some (.lst [.ref h0,.ref h1]))(eb:L[b]?=some (.lst [.ref k0,.ref k1]))(e1:L[h0]?=some (.lst (ws.map D.str)))(e2:L[k0]?=some (.lst (ws.map D.str)))(e3:L[h1]?=some (.lst (exs.map Bi)))(e4:L[k1]?=some (.lst (exs.map Bi)))
  (q:Q (.bl false) L):W2 (JE (.ref a) (.ref b) L) Q:=by
 have s1:CP (.ref a) L=some (false,[.ref h0,.ref h1]):=by simp[CP,ea]
 have s2:CP (.ref b) L=some (false,[.ref k0,.ref k1]):=by simp[CP,eb]
 have w1:Cm 29 L (.ref h0) (.ref k0)=some true:=YT e1 e2 (by
  rw[CW];intro d hd;obtain⟨x,_,rfl⟩:=BC.mp hd
  rfl)
 have w2:Cm 29 L (.ref h1) (.ref k1)=some true:=YT e3 e4 (by
  rw[CW];intro d hd;obtain⟨x,_,rfl⟩:=BC.mp hd
  rfl)
 have w3:Cm 30 L (.ref a) (.ref b)=some true:=by rw[Lx,s1,s2];show(GU [Cm 29 L (.ref h0) (.ref k0),Cm 29 L (.ref h1) (.ref k1)]).map _=_;rw[w1,w2];rfl
 refine⟨_,_,?_,q⟩;unfold JE;rw[if_neg (by simp[Fi,BO]),if_pos (by simp[IK,s1,s2])];simp only[s1,s2,w3];rfl
theorem AGa{Q:ALM}{L:AD}{xs:List D}(h:GK 30 (.tup xs)=true)(q:Q (.bl true) L):W2 (Hz (.tup xs) (.tup xs) L) Q:=by refine⟨_,_,?_,q⟩;unfold Hz;rw[if_neg (by simp[Fi,BO]),if_pos (by simp[IK,CP]),Sl 30 L _ h];rfl
theorem ADQ{ws:List Str}{p:D}(h:Fy ws p):GK 29 p=true:=by
 rcases h with⟨w,_,rfl⟩|⟨d,x,y,rfl,_,hx,hy⟩
 .rfl
 .obtain⟨k,n,e,rfl,_⟩:=hx;obtain⟨k',n',e',rfl,_⟩:=hy;rfl
theorem Um{Q:ALM}{L:AD}{i:Int}(h:Q (.bl true) L):W2 (zp [.int i] L) Q:=by unfold zp;refine By rfl ?_;unfold Qb;rfl';exact⟨rfl,Ac _,h⟩
theorem Vt{G:BE}{wd:List Str}{z:Nat}(hz:z<Bv G wd):∃l z',l<3/\z'<AT G (l+1) wd/\Jc G wd z=Cg G (l+1) wd z'/\z=HY G wd l+z':=by
 unfold Bv at hz;unfold Jc;have b0:HY G wd 0=0:=rfl;have b1:HY G wd 1=AT G 1 wd:=by simp[HY]
 have b2:HY G wd 2=AT G 1 wd+AT G 2 wd:=by simp[HY,AKP]
 by_cases h1:z<AT G 1 wd
 .rw[if_pos h1];exact⟨0,z,by decide,h1,rfl,by omega⟩
 .rw[if_neg h1]
  by_cases h2:z-AT G 1 wd<AT G 2 wd
  .rw[if_pos h2];exact⟨1,_,by decide,h2,rfl,by omega⟩
  .rw[if_neg h2];exact⟨2,z-AT G 1 wd-AT G 2 wd,by decide,by show _<AT G 3 wd;omega,rfl,by omega⟩
theorem Vu{ws:List Str}{exs:El}(hl:ws.length<=6){z:Nat}(hz:z<Bv (CU ws ((BK exs).map (·.1)) ((BK exs).map (·.2))) ((BK exs).map (·.2))) :
  JL ws (Jc (CU ws ((BK exs).map (·.1)) ((BK exs).map (·.2))) ((BK exs).map (·.2)) z)/\Ia (Jc (CU ws ((BK exs).map (·.1)) ((BK exs).map (·.2))) ((BK exs).map (·.2)) z) exs=true:=by
 generalize hts:(BK exs).map (·.1)=ts at *;generalize hwd:(BK exs).map (·.2)=wd at *;have K:=Nh hl ts wd;generalize CU ws ts wd=G at *;have hlen:wd.length=ts.length:=by rw[<-hts,<-hwd,An,An]
 obtain⟨l,z',hl3,hz',e,_⟩:=Vt hz;rw[e];have hm:=LQ K hz';refine⟨⟨hm.2,by rw[hm.1];omega,by rw[hm.1];omega⟩,?_⟩;unfold Ia;rw[CW];intro x hx;obtain⟨i,hi⟩:=AKZ ((NF exs).mem_iff.mpr hx);have hi1:i<(BK exs).length:=(BY.mp hi).1;have e1:ts.getD i ""=x.1:=by rw[<-hts];simp[hi]
 have e2:wd.getD i ""=x.2:=by rw[<-hwd];simp[hi]
 have:=ACR K hz' hlen (i:=i) (by rw[<-hts,An];exact hi1);rw[e1,e2] at this;exact decide_eq_true this
theorem AGU{ws:List Str}{exs:El}{ps:List D}(hl:ws.length<=6)(hr:JL ws ps)(hf:Ia ps exs=true):0<Bv (CU ws ((BK exs).map (·.1)) ((BK exs).map (·.2))) ((BK exs).map (·.2)):=by
 have hS:∀i,i<(BK exs).length->Fj (((BK exs).map (·.1)).getD i "") ps=.str (((BK exs).map (·.2)).getD i ""):=λi hi=>by
  have hm:(BK exs)[i]∈exs:=(NF exs).mem_iff.mp (AKn hi);have:=of_decide_eq_true (CW.mp hf _ hm);simpa[hi] using this
 have hn1:((BK exs).map (·.1)).length=(BK exs).length:=by rw[An]
 have hn2:((BK exs).map (·.2)).length=(BK exs).length:=by rw[An]
 generalize hts:(BK exs).map (·.1)=ts at *;generalize hwd:(BK exs).map (·.2)=wd at *;have K:=Nh hl ts wd
 let ans:Str->D->Str:=λy p=>match CS y p with|.str s=>s|_=>""
 have hall:∀i,i<ts.length->(∀p∈ps,CS (ts.getD i "") p=.str (ans (ts.getD i "") p))/\(ps.flatMap λp=>(ans (ts.getD i "") p).cps.toList)=(wd.getD i "").cps.toList:=λi hi=>by
  have h:=hS i (by omega);unfold Fj at h
  cases e:CB (ps.map (CS (ts.getD i ""))) with
  |none=>rw[e] at h;cases h
  |some ys =>
   rw[e] at h;have hj:Txt.join "" ys=wd.getD i "":=D.str.inj h;have em:=VW e
   have hp:∀p∈ps,CS (ts.getD i "") p=.str (ans (ts.getD i "") p):=λp hp=>by
    have:CS (ts.getD i "") p∈ys.map D.str:=by rw[<-em];exact Cj hp
    obtain⟨s,_,hs⟩:=BC.mp this
    show CS (ts.getD i "") p=.str (match CS (ts.getD i "") p with|.str s=>s|_=>"")
    rw[<-hs]
   refine⟨hp,?_⟩
   have hy:ys=ps.map λp=>ans (ts.getD i "") p:=by
    have:ys.map D.str=(ps.map λp=>ans (ts.getD i "") p).map D.str:=by rw[<-em,Cs];exact HE λp h=>hp p h
    exact NX (λ_ _ e=>D.str.inj e) this
   rw[<-hj,XV,hy,AKa]
 have hin:∀p∈ps,((List.range ts.length).map λi=>ans (ts.getD i "") p)∈(CU ws ts wd).map (·.1):=λp hp=>by
  have hg:∀i,i<ts.length->((List.range ts.length).map λi=>ans (ts.getD i "") p).getD i ""=ans (ts.getD i "") p:=λi hi=>by simp[hi]
  obtain⟨qs,h1,_⟩:=ADP (ws:=ws) (ts:=ts) (wd:=wd) (a:=(List.range ts.length).map λi=>ans (ts.getD i "") p) (hr.1 p hp) (by simp) (λi hi=>by rw[hg i hi];exact(hall i hi).1 p hp) (by
   unfold JB;rw[CW];intro i hi;have hi:i<ts.length:=by simpa using Cr.mp hi
   rw[hg i hi];obtain⟨as,bs,rfl⟩:=List.append_of_mem hp;refine AFr (u:=as.flatMap λp=>(ans (ts.getD i "") p).cps.toList) (v:=bs.flatMap λp=>(ans (ts.getD i "") p).cps.toList) ?_
   rw[<-(hall i hi).2,AJ7,EY,AJk])
  exact Cj (f:=λe:List Str×List D=>e.1) h1
 have hpos:=Uq K (ps.map λp=>(List.range ts.length).map λi=>ans (ts.getD i "") p) wd (by
   intro z;have:=congrArg List.length z;rw[An] at this;have h0:=hr.2.1;simp at this;rw[this] at h0
   simp at h0) (by omega) (λa ha=>by
   obtain⟨p,hp,rfl⟩:=BC.mp ha
   exact hin p hp) λi hi=>by
   rw[AKa,<-(hall i hi).2]
   congr 1
   funext p
   simp[hi]
 rw[An] at hpos;have h0:=hr.2.1;have h3:=hr.2.2;unfold Bv;generalize ps.length=n at *
 match n,h0,h3,hpos with
 |1,_,_,h=>omega
 |2,_,_,h=>omega
 |3,_,_,h=>omega
theorem ACX{Q:ALM}{L:AD}{t kw ke:Nat}{ws:List Str}{exs:El}(hw:Gv ws)(hx:Ii exs)(hkw:L[kw]?=some (.lst (ws.map D.str)))(hke:L[ke]?=some (.lst (exs.map Bi)))(T:ID L t ws (CU ws ((BK exs).map (·.1)) ((BK exs).map (·.2))) ((BK exs).map (·.2)))
  {z:Nat} (hz:z<Bv (CU ws ((BK exs).map (·.1)) ((BK exs).map (·.2))) ((BK exs).map (·.2))) (h:Q (.bl true) L):W2 (zk2 [.ref t,.int (z:Int),.ref kw,.ref ke] L) Q:=by
 have hfit:=Vu (ws:=ws) (exs:=exs) hw.2.2 (z:=z) hz;have K:=Nh hw.2.2 ((BK exs).map (·.1)) ((BK exs).map (·.2));have fl:=AF1 hw.1 ((BK exs).map (·.1)) ((BK exs).map (·.2));generalize (BK exs).map (·.1)=ts at *;generalize (BK exs).map (·.2)=wd at *;generalize CU ws ts wd=G at *;obtain⟨l,z',hl3,hz',e,hzz⟩:=Vt hz;unfold zk2;refine By rfl ?_;unfold QP;rfl';refine RX K hw T hz ?_;rfl';refine XE hkw hke hw hfit.1 hx ?_;rw[hfit.2];rfl';refine AEZ K fl T hfit.1 (by rw[e];exact(LQ K hz').1) (by rw[e];exact Wk K hz') ?_;rw[<-hzz];rfl';refine Um ?_;rfl';refine⟨rfl,Ac _,?_⟩;rw[decide_eq_true rfl];exact h
theorem AFR(ns:List Int)(hn:ns.length<=63)(hb:∀z∈ns,Builtin.Int.intBits z<=1048576):W2 (KF [.fz (ns.map .int)] []) λd _=>d=.bl true:=by
 unfold KF;refine By rfl ?_;unfold QD;refine CK (λρ L'=>∃ws exs ps kw ke,Gv ws/\Ii exs/\JL ws ps/\exs.length<=6/\L'[kw]?=some (.lst (ws.map D.str))/\L'[ke]?=some (.lst (exs.map Bi))/\ρ=[some (.fz (ns.map .int)),some (.ref kw),some (.tup ps),some (.ref ke),none,none,none,none,none,none]) ?_ ?_
 .rfl';refine AE9 hb hn λws ps exs L' kw ke kk h1 h2 h3 h4 h5 h6 h7 h8 h9=>?_;rfl';exact⟨ws,exs,ps,kw,ke,h1,h3,h2,h5,h7,h8,rfl⟩
 rintro ρ L1 ⟨ws,exs,ps,kw,ke,hw,hx,hrow,hxl,hkw1,hke1,rfl⟩
 -- what is handed in
 refine CK (λρ L'=>L'=L1++[Ob.lst (ws.map D.str)]++[.lst (exs.map Bi)]++[.lst [.ref L1.length,.ref (L1.length+1)]]/\ρ=[some (.fz (ns.map .int)),some (.ref kw),some (.tup ps),some (.ref ke),some (.ref (L1.length+2)),none,none,none,none,none]) ?_ ?_
 .rfl';exact⟨by simp,by simp⟩
 rintro ρ L2 ⟨hL2,rfl⟩;have l2:L2.length=L1.length+3:=by rw[hL2];simp
 have p2:L1 <+: L2:=by rw[hL2];exact((BB _ _).trans (BB _ _)).trans (BB _ _)
 have hh:L2[L1.length+2]?=some (.lst [.ref L1.length,.ref (L1.length+1)]):=by rw[hL2];simp
 have h0:L2[L1.length]?=some (.lst (ws.map D.str)):=by rw[hL2];simp
 have h1:L2[L1.length+1]?=some (.lst (exs.map Bi)):=by rw[hL2];simp
 clear hL2;have hkw2:=CC p2 hkw1;have hke2:=CC p2 hke1;have kwl:=DU hkw1;have kel:=DU hke1;refine CK (λρ L'=>∃t,L2 <+: L'/\Gw L2.length L' t ws (CU ws ((BK exs).map (·.1)) ((BK exs).map (·.2))) ((BK exs).map (·.2))/\ρ=[some (.fz (ns.map .int)),some (.ref kw),some (.tup ps),some (.ref ke),some (.ref (L1.length+2)),some (.ref t),none,none,none,none]) ?_ ?_
 .rfl';refine DV (d:=.ref L1.length) hh rfl ?_;rfl';refine DV (d:=.ref (L1.length+1)) hh rfl ?_;rfl';refine VG h0 hw.2.2 h1 hx (by omega) λL3 t hp T=>?_;exact⟨t,hp,T,rfl⟩
 rintro ρ L3 ⟨t,p3,TB3,rfl⟩;have hh3:=CC p3 hh;have h03:=CC p3 h0;have h13:=CC p3 h1;have hkw3:=CC p3 hkw2;have hke3:=CC p3 hke2;have T3:=TB3.tab;have fm:=λhf=>AGU (ws:=ws) (exs:=exs) (ps:=ps) hw.2.2 hrow hf;have rw_:=λ{Q:ALM} {L:AD} {t:Nat} (hkw:L[kw]?=some (.lst (ws.map D.str))) (hke:L[ke]?=some (.lst (exs.map Bi))) T {z:Nat} hz h=>ACX (Q:=Q) (L:=L) (t:=t) (kw:=kw) (ke:=ke) hw hx hkw hke T (z:=z) hz h;have K:=Nh hw.2.2 ((BK exs).map (·.1)) ((BK exs).map (·.2));have tab2:=λ{Q:ALM} {L:AD} (hkw:L[kw]?=some (.lst (ws.map D.str))) (hke:L[ke]?=some (.lst (exs.map Bi))) h=>VG (Q:=Q) (L:=L) hkw hw.2.2 hke hx (by omega) h
 have okr:∀z,z<Bv (CU ws ((BK exs).map (·.1)) ((BK exs).map (·.2))) ((BK exs).map (·.2))->GK 30 (.tup (Jc (CU ws ((BK exs).map (·.1)) ((BK exs).map (·.2))) ((BK exs).map (·.2)) z))=true:=λz hz=>by
  show List.all _ (GK 29)=true;rw[CW];exact λp hp=>ADQ ((Vu hw.2.2 hz).1.1 p hp)
 generalize (BK exs).map (·.1)=ts at *;generalize (BK exs).map (·.2)=wd at *;generalize CU ws ts wd=G at *;refine CK (λρ L'=>L'=L3/\ρ=[some (.fz (ns.map .int)),some (.ref kw),some (.tup ps),some (.ref ke),some (.ref (L1.length+2)),some (.ref t),some (.int (Bv G wd:Int)),none,none,none]) ?_ ?_
 .rfl';refine Ww T3 ?_;exact⟨rfl,rfl⟩
 rintro ρ L4 ⟨rfl,rfl⟩;refine CK (λρ L'=>L4 <+: L'/\ρ=[some (.fz (ns.map .int)),some (.ref kw),some (.tup ps),some (.ref ke),some (.ref (L1.length+2)),some (.ref t),some (.int (Bv G wd:Int)),none,none,none]) ?_ ?_
 .rfl';refine Um ?_;rfl';refine AEg (Aj hh3) As (Aj h03) (Aj hkw3) (Aj h13) (Aj hke3) ?_;rfl';exact⟨BB _ _,rfl⟩
 rintro ρ L5 ⟨p5,rfl⟩;have TB5:=TB3.pre p5;have hh5:=CC p5 hh3;have h05:=CC p5 h03;have h15:=CC p5 h13;have hkw5:=CC p5 hkw3;have hke5:=CC p5 hke3;refine CK (λρ L'=>L'=L5/\0<Bv G wd/\ρ=[some (.fz (ns.map .int)),some (.ref kw),some (.tup ps),some (.ref ke),some (.ref (L1.length+2)),some (.ref t),some (.int (Bv G wd:Int)),none,none,none]) ?_ ?_
 .rfl';refine Bs (λhz=>?_) (λhz=>?_)
  .rfl';refine XE hkw5 hke5 hw hrow hx ?_
   have hno:Ia ps exs=false:=by rw[AKR];intro hf;have:=fm hf;omega
   rw[hno];rfl';exact⟨rfl,List.nil_prefix,rfl⟩
  .rfl';exact⟨rfl,by omega,rfl⟩
 rintro ρ L6 ⟨rfl,hpos,rfl⟩
 -- the lists are changed
 refine CK (λρ L'=>L'=L6.set L1.length (.lst (ws.map D.str++[.str "z"]))/\ρ=[some (.fz (ns.map .int)),some (.ref kw),some (.tup ps),some (.ref ke),some (.ref (L1.length+2)),some (.ref t),some (.int (Bv G wd:Int)),none,none,none]) ?_ ?_
 .rfl';refine DV (d:=.ref L1.length) hh5 rfl ?_;rfl';refine Hy h05 (by rw[An];have:=hw.2.2;omega) ?_;exact⟨rfl,rfl⟩
 rintro ρ L7 ⟨hL7,rfl⟩;have TB7:Gw L2.length L7 t ws G wd:=by rw[hL7];exact TB5.set (by omega) _
 have hh7:L7[L1.length+2]?=some (.lst [.ref L1.length,.ref (L1.length+1)]):=by rw[hL7];exact FX (by omega) hh5
 have h17:L7[L1.length+1]?=some (.lst (exs.map Bi)):=by rw[hL7];exact FX (by omega) h15
 have hkw7:L7[kw]?=some (.lst (ws.map D.str)):=by rw[hL7];exact FX (by omega) hkw5
 have hke7:L7[ke]?=some (.lst (exs.map Bi)):=by rw[hL7];exact FX (by omega) hke5
 refine CK (λρ L'=>L'=L7.set (L1.length+1) (.lst [])/\ρ=[some (.fz (ns.map .int)),some (.ref kw),some (.tup ps),some (.ref ke),some (.ref (L1.length+2)),some (.ref t),some (.int (Bv G wd:Int)),none,none,none]) ?_ ?_
 .rfl';refine DV (d:=.ref (L1.length+1)) hh7 rfl ?_;rfl';refine AGC h17 ?_;exact⟨rfl,rfl⟩
 rintro ρ L8 ⟨hL8,rfl⟩;have TB8:Gw L2.length L8 t ws G wd:=by rw[hL8];exact TB7.set (by omega) _
 have hkw8:L8[kw]?=some (.lst (ws.map D.str)):=by rw[hL8];exact FX (by omega) hkw7
 have hke8:L8[ke]?=some (.lst (exs.map Bi)):=by rw[hL8];exact FX (by omega) hke7
 have T8:=TB8.tab;clear hL8 hL7 TB7 hh7 h17 hkw7 hke7 TB5 hh5 h05 h15 hkw5 hke5 TB3 hh3 h03 h13 hkw3 hke3 T3;refine CK (λρ L'=>L8 <+: L'/\∃(s:Nat) (z0:Nat) (zs:List Nat),z0<Bv G wd/\(∀z∈zs,z<Bv G wd)/\L'[s]?=some (.lst (D.int (z0:Int)::zs.map λ(z:Nat)=>D.int (z:Int)))/\ρ=[some (.fz (ns.map .int)),some (.ref kw),some (.tup ps),some (.ref ke),some (.ref (L1.length+2)),some (.ref t),some (.int (Bv G wd:Int)),some (.ref s),none,none]) ?_ ?_
 .rfl';refine JJ hb hn (by decide) (by decide) λc1 hc1 _=>?_;rfl';refine JJ hb hn (by decide) (by decide) λc2 hc2 _=>?_;rfl';have m1:=HG c1 (b:=(Bv G wd:Int)) (by omega);have m2:=HH c1 (b:=(Bv G wd:Int)) (by omega);have m3:=HG (c2 / 7) (b:=(Bv G wd:Int)) (by omega);have m4:=HH (c2 / 7) (b:=(Bv G wd:Int)) (by omega);refine⟨BB _ _,_,(c1 % (Bv G wd:Int)).toNat,[0,Bv G wd-1,(c2 / 7 % (Bv G wd:Int)).toNat],by omega,λz hz=>?_,?_,rfl⟩
  .simp only[Ae,EH,or_false] at hz;rcases hz with rfl|rfl|rfl <;> omega
  .rw[As];simp only[Am,AJ2];rw[show(((c1 % (Bv G wd:Int)).toNat:Nat):Int)=c1 % (Bv G wd:Int) by omega,show(((c2 / 7 % (Bv G wd:Int)).toNat:Nat):Int)=c2 / 7 % (Bv G wd:Int) by omega,show((Bv G wd-1:Nat):Int)=(Bv G wd:Int)-1 by omega];rfl
 rintro ρ L9 ⟨p9,s,z0,zs,hz0,hzs,hs,rfl⟩;have T9:=T8.pre p9;have hkw9:=CC p9 hkw8;have hke9:=CC p9 hke8;refine CK (λρ L'=>L'=L9/\∃e,ρ=[some (.fz (ns.map .int)),some (.ref kw),some (.tup ps),some (.ref ke),some (.ref (L1.length+2)),some (.ref t),some (.int (Bv G wd:Int)),some (.ref s),e,none]) ?_ ?_
 .rfl';refine Da (λj ρ L'=>L'=L9/\∃e,ρ=[some (.fz (ns.map .int)),some (.ref kw),some (.tup ps),some (.ref ke),some (.ref (L1.length+2)),some (.ref t),some (.int (Bv G wd:Int)),some (.ref s),e,none]) _ 0 _ _ ⟨rfl,_,rfl⟩ ?_ ?_
  .rintro i x ρ L' hx' ⟨rfl,e,rfl⟩;refine⟨decide_eq_true hs,?_⟩
   obtain⟨z,rfl,hz⟩:∃z:Nat,x=.int (z:Int)/\z<Bv G wd:=by
    rcases Ae.mp (Cd hx') with h|h
    .exact⟨z0,h,hz0⟩
    .obtain⟨z,hz,rfl⟩:=BC.mp h;exact⟨z,rfl,hzs z hz⟩
   rfl';refine rw_ hkw9 hke9 T9 hz ?_;rfl';exact⟨rfl,_,rfl⟩
  .rintro ρ L' ⟨rfl,e,rfl⟩;exact⟨decide_eq_true hs,rfl,_,rfl⟩
 rintro ρ L10 ⟨rfl,e,rfl⟩;rfl';refine tab2 hkw9 hke9 λL11 t2 p11 TB11=>?_;have T11:=TB11.tab;have T9':=T9.pre p11;have hs11:=CC p11 hs;rfl';refine Ww T11 ?_;rfl';refine DV (d:=.int (z0:Int)) hs11 (Eh (j:=0) rfl) ?_;rfl';refine RX K hw T11 hz0 ?_;rfl';refine DV (d:=.int (z0:Int)) hs11 (Eh (j:=0) rfl) ?_;rfl';refine RX K hw T9' hz0 ?_;rfl';refine AGa (okr z0 hz0) ?_;exact⟨rfl,List.nil_prefix,rfl⟩
theorem law_true(ns:List Int)(hn:ns.length<=63)(hb:∀z∈ns,Builtin.Int.intBits z<=1048576):∃L',KF [.fz (ns.map .int)] []=some (.bl true,L'):=by obtain⟨d,L',e,rfl⟩:=AFR ns hn hb;exact⟨L',e⟩
end L3
set_option maxHeartbeats 8000000
namespace L3
open PySem PySem.Spec PyProof.Rows L2
local macro_rules | `(tactic| wtm_at "sc") => `(tactic| exact ⟨rfl, rfl, rfl, by decide +kernel, rfl, by decide +kernel, by decide +kernel⟩)
local macro_rules | `(tactic| wtm_at "b0") => `(tactic| (intro _ _ _ _ _ _ us hl; obtain e := L3.AFP hl; subst e; rfl))
local macro_rules | `(tactic| wtm_at "b1") => `(tactic| (intro _ _ _ _ _ _ us hl; obtain ⟨_, e⟩ := L3.XN hl; subst e; rfl))
local macro_rules | `(tactic| wtm_at "b2") => `(tactic| (intro _ _ _ _ _ _ us hl; obtain ⟨_, _, e⟩ := L3.KU hl; subst e; rfl))
local macro_rules | `(tactic| wtm_at "b3") => `(tactic| (intro _ _ _ _ _ _ us hl; obtain ⟨_, _, _, e⟩ := L3.Ix hl; subst e; rfl))
local macro_rules | `(tactic| wtm_at "b4") => `(tactic| (intro _ _ _ _ _ _ us hl; obtain ⟨_, _, _, _, e⟩ := L3.AFO hl; subst e; rfl))
abbrev pW:=PySem.Challenge.pw_byexample_k31_row_told_fits
seal Af Fc JN FR Ej GW JO Ky FQ Kx MK DG Ff OQ MtD
def BU:List Str:=["abs","all","bool","enumerate","int","isinstance","len","list","min","range","sorted","str","sum","tuple","zip"]
abbrev Px:Stmt:=Bb pW 50
theorem Ua:BN Qj ["_law_cell_here","_law_most"] (Ab Px):=by wtm_at "sc"
section
variable {P:Program}{w:World}{K:AO}{mg:ALK}{base:Heap}{k:Nat}
theorem AAi(hb:BS mg BU):BX P w K mg base k Qj "_law_text" Px (Qd):=by intro cdv f A outer s H E hr;have nd:=Ua.nd;exact(AN (Ag nd BJ) (AN (Ag nd (Aw (Cn (AC BJ (AC BJ (AC BJ (AC vv AJ))))) (AW CF (AW DS vv AL) AL))) (AN (Ag nd (AW CF vv (AW DT vv AL))) (AN (Ag nd (AW DS vv AL)) (AN (Ag nd BJ) (AN (DC PassesOwn.never rfl (KN (hb.get "range") (AC vv AJ)) (BF nd) (AN (Ag nd (AW DT vv (Aw vv (AW CF vv (BP Co (hb.get "len") Ci (AC vv AJ)))))) (AR (Ag nd (AW DS vv (BP Co (hb.get "len") Ci (AC vv AJ))))))) (AR (Ad vv))))))))
abbrev Pt:Stmt:=Bb pW 51
theorem UY:BN QZ ["_law_cell_here"] (Ab Pt):=by wtm_at "sc"
theorem AAg(hb:BS mg BU){zm:GL}(zw2:Ao P w K mg base k "_law_text" zm):BX P w K mg base k QZ "_law_words" Pt (QS zm):=by intro cdv f A outer s H E hr;have nd:=UY.nd;exact(AN (Ag nd (Cn AJ)) (AN (Ag nd (AW CF vv AL)) (AN (BG (Ay DJ (AW CF (AW DS vv AL) AL) AL rfl) (AR (Ag nd (AW DT AL (AW CF vv AL)))) BL) (AN (Ag nd (AW DS vv AL)) (AN (DC PassesOwn.never rfl (KN (hb.get "range") (AC vv AJ)) (BF nd) (AN (Ag nd (Ap zw2 hr (AC vv (AC (Aw (Cn (AC AL (AC AL (AC AL (AC AL AJ))))) (AW CF (AW DS vv AL) AL)) AJ)))) (AN (BG (Ay IN vv AL rfl) (AR (Ag nd (FZ vv HN (EK AL)))) BL) (AN (BG (Ay DJ vv BJ rfl) (AR (Ag nd BJ)) BL) (AN (BG (Ay Iv vv vv rfl) (AR (FJ (Eg Gb AJn AJo Hu vv (AC vv AJ)))) BL) (AR (Ag nd (AW DS vv (AW NS AL AL))))))))) (AR (Ad vv)))))))
abbrev Pn:Stmt:=Bb pW 52
theorem UW:BN QM ["_law_cell_here"] (Ab Pn):=by wtm_at "sc"
theorem AAe(hb:BS mg BU):BX P w K mg base k QM "_law_place" Pn (QG):=by intro cdv f A outer s H E hr;have nd:=UW.nd;exact(AN (Ag nd (Aw (Cn (AC BJ (AC BJ (AC BJ (AC BJ (AC BJ AJ)))))) (AW CF vv AL))) (AR (Ad (Dv (AC vv (AC (Aw (Cn (AC AL (AC AL (AC (Km AL) (AC (Km AL) AJ))))) (AW CF (AW DS vv AL) AL)) (AC (Aw (Cn (AC BJ (AC BJ AJ))) (AW CF (AW DS vv AL) AL)) AJ)))))))
abbrev Pg:Stmt:=Bb pW 53
theorem UU:BN QB ["_law_cell_here","_law_words_here"] (Ab Pg):=by wtm_at "sc"
theorem AAc(hb:BS mg BU){zc1:GL}(zj4:Ao P w K mg base k "_law_place" zc1):BX P w K mg base k QB "_law_piece" Pg (Uc zc1):=by intro cdv f A outer s H E hr;have nd:=UU.nd;exact(AN (BG (Ep (Up (Ay DJ (AW CF vv AL) AL rfl) (Uo (Ay IN (BP Co (hb.get "len") Ci (AC vv AJ)) AL rfl)))) (AR (Ad (Dv (AC BJ (AC (Aw vv (AW CF (AW DS vv AL) (BP Co (hb.get "len") Ci (AC vv AJ)))) AJ))))) BL) (AN (Ag nd (Aw (Cn (AC BJ (AC BJ (AC BJ (AC BJ AJ))))) (AW CF (AW DS vv AL) AL))) (AR (Ad (Dv (AC vv (AC (Ap zj4 hr (AC (AW DS vv AL) AJ)) (AC (Ap zj4 hr (AC (AW DS vv AL) AJ)) AJ))))))))
abbrev Pa:Stmt:=Bb pW 54
theorem UR:BN Pw ["_law_sign"] (Ab Pa):=by wtm_at "sc"
theorem AAT(hb:BS mg BU):BX P w K mg base k Pw "_law_kind" Pa (Pq):=by intro cdv f A outer s H E hr;have nd:=UR.nd;exact(AN (BG (DO (JH AJv PySem.F.slot_str_islower PySem.F.type_str_islower AEw vv)) (AR (Ad BJ)) BL) (AN (BG (DO (JH AJv PySem.F.slot_str_isupper PySem.F.type_str_isupper AEv vv)) (AR (Ad BJ)) BL) (AN (BG (DO (JH AJv PySem.F.slot_str_isdigit PySem.F.type_str_isdigit AEx vv)) (AR (Ad BJ)) BL) (AR (Ad BJ)))))
abbrev Mj:Stmt:=Bb pW 55
theorem UP:BN MZ ["_law_place_here","_law_text_here"] (Ab Mj):=by wtm_at "sc"
theorem AAR(hb:BS mg BU){zk1:GL}(zp8:Ao P w K mg base k "_law_kind" zk1):BX P w K mg base k MZ "_law_spot" Mj (Pk zk1):=by intro cdv f A outer s H E hr;have nd:=UP.nd;exact(AN (RR rfl vv (DF (BF nd) (DF (BF nd) (DF (BF nd) Gj)))) (AN (Ip nd rfl (KN (hb.get "range") (AC (BP Co (hb.get "len") Ci (AC vv AJ)) AJ)) (EN (N:=MZ) (N':=["_law_k","_law_kind_here","_law_text_here"]) (n:=1) (idx:=[2,1]) (fnames:=(Ab Mj).names) rfl (λ_=>rfl) rfl (by decide +kernel)) (λ_ _ _ _ _ _=>⟨(BF (i:=0) (show(["_law_k","_law_kind_here","_law_text_here"]:List Str).Nodup by decide +kernel)),(Ra (Ep (EA (Ay DJ vv BJ rfl) (FU (Ay DJ (Ap zp8 hr (AC (Aw vv vv) AJ)) vv rfl))))),vv⟩)) (AN (BG (Ay Jf (BP Co (hb.get "len") Ci (AC vv AJ)) (BP Yw (hb.get "abs") ZA (AC vv AJ)) rfl) (AR (Ad ED)) BL) (AN (BG (Ay IN vv AL rfl) (AR (Ad (AW DT (Aw vv (AW Je vv AL)) (GS Yu (hb.get "int") ME (AC (GR DJ vv BJ rfl) AJ))))) BL) (AR (Ad (AW DT (Aw vv vv) (GS Yu (hb.get "int") ME (AC (GR DJ vv BJ rfl) AJ)))))))))
abbrev PN:Stmt:=Bb pW 56
theorem UN:BN Pd ["_law_piece_here","_law_text_here"] (Ab PN):=by wtm_at "sc"
theorem AAP(hb:BS mg BU){zx:GL}(zl4:Ao P w K mg base k "_law_spot" zx):BX P w K mg base k Pd "_law_piece_answer" PN (MX zx):=by intro cdv f A outer s H E hr;have nd:=UN.nd;exact(AN (BG (Ay DJ (Aw vv AL) BJ rfl) (AR (Ad (Aw vv AL))) BL) (AN (Ag nd (Ap zl4 hr (AC (Aw vv AL) (AC vv AJ)))) (AN (Ag nd (Ap zl4 hr (AC (Aw vv AL) (AC vv AJ)))) (AN (BG (Ep (EA (Ay Rr vv ED rfl) (EA (Ay Rr vv ED rfl) (FU (Ay Wh vv vv rfl))))) (AR (Ad ED)) BL) (AN (BG (Ay DJ (Aw vv AL) BJ rfl) (AR (Ad (JH AJv PySem.F.slot_str_upper PySem.F.type_str_upper Ws (FZ vv (EK vv) (EK vv))))) BL) (AN (BG (Ay DJ (Aw vv AL) BJ rfl) (AR (Ad (JH AJv PySem.F.slot_str_lower PySem.F.type_str_lower Wv (FZ vv (EK vv) (EK vv))))) BL) (AR (Ad (FZ vv (EK vv) (EK vv))))))))))
abbrev Mi:Stmt:=Bb pW 58
theorem UL:BN MW ["_law_cell_here","_law_words_here","_law_texts"] (Ab Mi):=by wtm_at "sc"
theorem AAO(hb:BS mg BU){zj1:GL}(zr8:Ao P w K mg base k "_law_piece" zj1){zf:GL}(zx2:Ao P w K mg base k "_law_piece_answer" zf):BX P w K mg base k MW "_law_fitting" Mi (PX zj1 zf):=by intro cdv f A outer s H E hr;have nd:=UL.nd;exact(AN (Ag nd (Ap zr8 hr (AC vv (AC vv AJ)))) (AN (BG (Ay DJ (Aw vv AL) BJ rfl) (AR (Ad vv)) BL) (AN (Ag nd (Dv (AC (Aw vv AL) (AC (Dv (AC BJ (AC AL (AC BJ AJ)))) (AC (Dv (AC BJ (AC (Km AL) (AC BJ AJ)))) AJ))))) (AN (DC PassesOwn.never rfl (Ch (Cn (AC vv (AC (Dv (AC (Aw vv AL) (AC (Aw vv AL) (AC (Aw vv AL) AJ)))) (AC vv AJ))))) (BF nd) (AR (BG (Ay Iv ED (HW rfl (Ch vv) (EN (N:=MW) (N':=["_law_text_here","_law_some"]) (n:=1) (idx:=[5]) (fnames:=(Ab Mi).names) rfl (λ_=>rfl) rfl (by decide +kernel)) (λ_ _ _ _ _ _=>⟨(BF (i:=0) (show(["_law_text_here","_law_some"]:List Str).Nodup by decide +kernel)),FK,(Ap zx2 hr (AC vv (AC vv AJ)))⟩)) rfl) (AR (Ad vv)) BL))) (AN (BG (Ay DJ (BP Co (hb.get "len") Ci (AC vv AJ)) AL rfl) (AR (Ad ED)) BL) (AR (Ad (Dv (AC BJ (AC (Aw vv (AW CF (AW DS vv AL) (BP Co (hb.get "len") Ci (AC vv AJ)))) AJ))))))))))
abbrev PB:Stmt:=Bb pW 59
theorem UJ:BN PR ["_law_cell_here","_law_words_here","_law_texts"] (Ab PB):=by wtm_at "sc"
theorem AAM(hb:BS mg BU){zl1:GL}(zt8:Ao P w K mg base k "_law_fitting" zl1):BX P w K mg base k PR "_law_row" PB (PL zl1):=by intro cdv f A outer s H E hr;have nd:=UJ.nd;exact(AN (Ag nd (Cn AJ)) (AN (Ag nd (AW DS vv AL)) (AN (DC PassesOwn.never rfl (KN (hb.get "range") (AC (AW DT AL (AW CF vv AL)) AJ)) (BF nd) (AN (Ag nd (Ap zt8 hr (AC vv (AC vv (AC vv AJ))))) (AN (BG (Ay Rq vv ED rfl) (AR (FJ (Eg Gb AJn AJo Hu vv (AC vv AJ)))) BL) (AR (Ag nd (AW DS vv AL)))))) (AR (Ad (GS JK (hb.get "tuple") Fv (AC vv AJ)))))))
abbrev Os:Stmt:=Bb pW 49
theorem UH:BN PF ["_law_script","_law_k"] (Ab Os):=by wtm_at "sc"
theorem AAK(hb:BS mg BU):BX P w K mg base k PF "_law_cell" Os (Oz):=by intro cdv f A outer s H E hr;have nd:=UH.nd;exact(AN (BG (Ay Jf vv (BP Co (hb.get "len") Ci (AC vv AJ)) rfl) (AR (Ad (AW CF (AW HP (AW DT (Aw vv vv) AL) AL) (AW NS AL AL)))) BL) (AN (Ag nd (AW DT (AW HP (AW HP vv vv) AL) AL)) (AN (BG (Ay IN (BP Co (hb.get "len") Ci (AC vv AJ)) AL rfl) (AR (Ag nd (AW DT vv (AW HP (AW CF (Aw vv (AW CF (AW HP vv AL) (BP Co (hb.get "len") Ci (AC vv AJ)))) (AW NS AL AL)) AL)))) BL) (AR (Ad (AW CF (AW HP (AW CF (AW HP vv vv) AL) AL) (AW NS AL AL)))))))
abbrev Mh:Stmt:=Bb pW 57
theorem UF:BN MV ["_law_row_here","_law_text_here"] (Ab Mh):=by wtm_at "sc"
theorem AAI(hb:BS mg BU){zf:GL}(zx2:Ao P w K mg base k "_law_piece_answer" zf):BX P w K mg base k MV "_law_row_answer" Mh (Ov zf):=by intro cdv f A outer s H E hr;have nd:=UF.nd;exact(AN (Ip nd rfl (Ch vv) (EN (N:=MV) (N':=["_law_piece_here","_law_text_here"]) (n:=1) (idx:=[1]) (fnames:=(Ab Mh).names) rfl (λ_=>rfl) rfl (by decide +kernel)) (λ_ _ _ _ _ _=>⟨(BF (i:=0) (show(["_law_piece_here","_law_text_here"]:List Str).Nodup by decide +kernel)),FK,(Ap zx2 hr (AC vv (AC vv AJ)))⟩)) (AN (BG (Ay Jg ED vv rfl) (AR (Ad ED)) BL) (AR (Ad (Eg AJv PySem.F.slot_str_join PySem.F.type_str_join AEu BJ (AC vv AJ))))))
abbrev Mg:Stmt:=Bb pW 61
theorem UD:BN MT ["_law_row_here","_law_texts","_law_cell_here"] (Ab Mg):=by wtm_at "sc"
theorem AAG(hb:BS mg BU){zo:GL}(zy2:Ao P w K mg base k "_law_row_answer" zo):BX P w K mg base k MT "_law_row_examples" Mg (Op zo):=by intro cdv f A outer s H E hr;have nd:=UD.nd;exact(AN (Ip nd rfl (Ch vv) (EN (N:=MT) (N':=["_law_text_here","_law_row_here"]) (n:=1) (idx:=[0]) (fnames:=(Ab Mg).names) rfl (λ_=>rfl) rfl (by decide +kernel)) (λ_ _ _ _ _ _=>⟨(BF (i:=0) (show(["_law_text_here","_law_row_here"]:List Str).Nodup by decide +kernel)),FK,(Dv (AC vv (AC (Ap zy2 hr (AC vv (AC vv AJ))) AJ)))⟩)) (AN (BG (Ep (Up (Ay DJ (AW CF vv AL) AL rfl) (Uo (Ay IN (BP Co (hb.get "len") Ci (AC vv AJ)) AL rfl)))) (AN (Ag nd (AW CF (AW DS vv AL) (BP Co (hb.get "len") Ci (AC vv AJ)))) (AN (RR rfl (Aw vv vv) (DF (BF nd) (DF (BF nd) Gj))) (AN (Ag nd (Aw (Cn (AC (FZ (AW DT vv BJ) HN (EK AL)) (AC (FZ vv HN (EK (Km AL))) (AC (AW DT (FZ vv (EK AL) HN) (FZ vv HN (EK AL))) (AC BJ AJ))))) (AW CF (AW DS vv AL) AL))) (AR (Ag nd (AW DT (AW DT (FZ vv HN (EK vv)) (Cn (AC (Dv (AC vv (AC vv AJ))) AJ))) (FZ vv (EK (AW DT vv AL)) HN))))))) BL) (AR (Ad vv))))
abbrev LG:Stmt:=Bb pW 60
theorem UB:BN LI ["_law_script","_law_start","_law_most"] (Ab LG):=by wtm_at "sc"
theorem AAE(hb:BS mg BU){zm:GL}(zw2:Ao P w K mg base k "_law_text" zm){za:GL}(zu:Ao P w K mg base k "_law_cell" za):BX P w K mg base k LI "_law_drawn_texts" LG (Oj zm za):=by intro cdv f A outer s H E hr;have nd:=UB.nd;exact(AN (Ag nd (Ap zu hr (AC vv (AC vv AJ)))) (AN (Ag nd (AW DT AL (AW CF vv AL))) (AN (BG (Ay DJ (AW CF (AW DS vv AL) AL) AL rfl) (AN (Ag nd (AW DT AL (AW CF vv AL))) (AR (Ag nd (BP (Ys rfl) (hb.get "min") Yy (AC vv (AC AL AJ)))))) BL) (AN (Ip nd rfl (KN (hb.get "range") (AC vv AJ)) (EN (N:=LI) (N':=["_law_k"]) (n:=1) (idx:=[]) (fnames:=(Ab LG).names) rfl (λ_=>rfl) rfl (by decide +kernel)) (λ_ _ _ _ _ _=>⟨(BF (i:=0) (show(["_law_k"]:List Str).Nodup by decide +kernel)),FK,BJ⟩)) (AN (Ag nd (Aw (Cn (AC BJ (AC BJ (AC BJ (AC BJ AJ))))) (AW CF (AW DS vv AL) AL))) (AN (BG (Ay DJ (AW CF (AW DS vv AL) AL) AL rfl) (AR (Ip nd rfl (KN (hb.get "range") (AC vv AJ)) (EN (N:=LI) (N':=["_law_k","_law_most","_law_script","_law_start"]) (n:=1) (idx:=[2,0,1]) (fnames:=(Ab LG).names) rfl (λ_=>rfl) rfl (by decide +kernel)) (λ_ _ _ _ _ _=>⟨(BF (i:=0) (show(["_law_k","_law_most","_law_script","_law_start"]:List Str).Nodup by decide +kernel)),FK,(Ap zw2 hr (AC (Ap zu hr (AC vv (AC (AW DT (AW DT vv AL) vv) AJ))) (AC vv AJ)))⟩))) (AR (DC PassesOwn.never rfl (ADM (hb.get "range") (AC (AW DT vv AL) (AC (BP (Ys rfl) (hb.get "min") Yy (AC (BP Co (hb.get "len") Ci (AC vv AJ)) (AC (AW DT (AW DT vv AL) (AW HP vv vv)) AJ))) AJ))) (BF nd) (AN (Ag nd (AW CF vv vv)) (AN (Ag nd (Aw vv (AW CF (Ap zu hr (AC vv (AC vv AJ))) (BP Co (hb.get "len") Ci (AC vv AJ))))) (AR (Vn vv vv (AW DT (Aw vv vv) vv)))))))) (AN (BG (Ay DJ (AW CF (AW DS vv AL) AL) AL rfl) (AR (Vn vv AL (FZ (AW HP (FZ vv HN (EK (AW DT AL (AW CF (AW DS vv AL) AL)))) AL) HN (EK AL)))) BL) (AN (Ag nd (Cn AJ)) (AN (DC PassesOwn.never rfl (Ch vv) (BF nd) (AR (BG (Ay Iv vv vv rfl) (AR (FJ (Eg Gb AJn AJo Hu vv (AC vv AJ)))) BL))) (AR (Ad vv)))))))))))
abbrev Mf:Stmt:=Bb pW 66
theorem Tz:BN MS ["_law_script"] (Ab Mf):=by wtm_at "sc"
theorem AAC(hb:BS mg BU){zi1:GL}(zv8:Ao P w K mg base k "_law_words" zi1){zm1:GL}(zw8:Ao P w K mg base k "_law_row" zm1){za:GL}(zu:Ao P w K mg base k "_law_cell" za){zn1:GL}(zx8:Ao P w K mg base k "_law_row_examples" zn1){zo1:GL}(zy8:Ao P w K mg base k "_law_drawn_texts" zo1):BX P w K mg base k MS "_law_made" Mf (Og zi1 zm1 za zn1 zo1):=by intro cdv f A outer s H E hr;have nd:=Tz.nd;exact(AN (Ag nd (Ap zv8 hr (AC (Ap zu hr (AC vv (AC AL AJ))) AJ))) (AN (Ip nd rfl (Ch (Ap zy8 hr (AC vv (AC AL (AC AL AJ))))) (EN (N:=MS) (N':=["_law_text_here","_law_words_here"]) (n:=1) (idx:=[1]) (fnames:=(Ab Mf).names) rfl (λ_=>rfl) rfl (by decide +kernel)) (λ_ _ _ _ _ _=>⟨(BF (i:=0) (show(["_law_text_here","_law_words_here"]:List Str).Nodup by decide +kernel)),(Ra (Ep (EA (Ay KP vv BJ rfl) (FU (Ay IN (BP Co (hb.get "len") Ci (AC vv AJ)) AL rfl))))),vv⟩)) (AN (Ag nd (Ap zw8 hr (AC (Ap zu hr (AC vv (AC AL AJ))) (AC vv (AC vv AJ))))) (AR (Ad (Cn (AC vv (AC vv (AC (Ap zx8 hr (AC vv (AC vv (AC (Ap zu hr (AC vv (AC AL AJ))) AJ)))) AJ)))))))))
abbrev OV:Stmt:=Bb pW 36
theorem Tw:BN Od ["groups"] (Ab OV):=by wtm_at "sc"
theorem AAA(hb:BS mg BU):BX P w K mg base k Od "members_of" OV (OY):=by intro cdv f A outer s H E hr;have nd:=Tw.nd;exact(AN (Ag nd Ly) (AN (DC PassesOwn.never rfl (WN vv) (IT (n:=2) rfl (DF (BF nd) (DF (BF nd) Gj))) (AR (DC PassesOwn.never rfl (ADO (hb.get "enumerate") (AC vv AJ)) (IT (n:=2) rfl (DF (BF nd) (DF (BF nd) Gj))) (AR (RQ hr.units vv vv (Dv (AC vv (AC vv AJ)))))))) (AR (Ad vv))))
abbrev Qy:Stmt:=Xi pW 34 0
theorem Tu:BN RB ["self","ways"] (Ab Qy):=by wtm_at "sc"
theorem Zy(hb:BS mg BU)(zg:Bg K "Node" "arms")(zc:Bg K "Node" "ways"):BX P w K mg base k RB "Node.__init__" Qy (Qx):=by intro cdv f A outer s H E hr;have nd:=Tu.nd;exact(AN (Iq vv vv (Be zc Bd)) (AR (Iq vv Ly (Be zg Bd))))
abbrev Qu:Stmt:=Xi pW 35 0
theorem Ts:BN Qs ["self","words","groups"] (Ab Qu):=by wtm_at "sc"
theorem Zw(hb:BS mg BU)(zw:Bg K "Table" "groups")(zz2:Bg K "Table" "members")(zm2:Bg K "Table" "node_numbers")(ze:Bg K "Table" "nodes")(zj:Bg K "Table" "roots")(za3:Bg K "Table" "words"){zd1:GL}(zc9:Ao P w K mg base k "members_of" zd1){zh:GL}(zr2:GY P w K mg base k "Node" zh):BX P w K mg base k Qs "Table.__init__" Qu (Qo zd1 zh):=by intro cdv f A outer s H E hr;have nd:=Ts.nd;exact(AN (Iq vv vv (Be za3 Bd)) (AN (Iq vv vv (Be zw Bd)) (AN (Iq vv (Ap zc9 hr (AC vv AJ)) (Be zz2 Bd)) (AN (Iq vv (Cn (AC (Nw zr2 hr (AC AL AJ)) (AC (Nw zr2 hr (AC AL AJ)) AJ))) (Be ze Bd)) (AN (Iq vv Ly (Be zm2 Bd)) (AR (Iq vv (Cn AJ) (Be zj Bd))))))))
abbrev Ql:Stmt:=Bb pW 11
theorem Tq:BN Qi [] (Ab Ql):=by wtm_at "sc"
theorem Zu(hb:BS mg BU)(zb3:Do K mg "EDGES" JS)(zc3:Do K mg "KINDS" JU)(zd3:Do K mg "NTHS" JT):BX P w K mg base k Qi "all_places" Ql (Qc):=by intro cdv f A outer s H E hr;have nd:=Tq.nd;exact(AN (Ag nd (Cn AJ)) (AN (DC PassesOwn.never rfl (Ch (Ft zc3)) (BF nd) (AR (DC PassesOwn.never rfl (Ch (Ft zd3)) (BF nd) (AR (DC PassesOwn.never rfl (Ch (Ft zb3)) (BF nd) (AR (FJ (Eg Gb AJn AJo Hu vv (AC (Dv (AC vv (AC vv (AC vv AJ)))) AJ))))))))) (AR (Ad vv))))
abbrev Qf:Stmt:=Bb pW 6
theorem To:BN QY ["sign"] (Ab Qf):=by wtm_at "sc"
theorem Zs(hb:BS mg BU)(zf9:Do K mg "SIGNS_BY_KIND" Md):BX P w K mg base k QY "kind_of" Qf (QR):=by intro cdv f A outer s H E hr;have nd:=To.nd;exact(AN (DC PassesOwn.never rfl (Ch (Ft zf9)) (IT (n:=2) rfl (DF (BF nd) (DF (BF nd) Gj))) (AR (BG (Ay Jg vv vv rfl) (AR (Ad vv)) BL))) (AR (Ad ED)))
abbrev QV:Stmt:=Bb pW 7
theorem Tl:BN QL ["kind","sign"] (Ab QV):=by wtm_at "sc"
theorem Zq(hb:BS mg BU){zs1:GL}(zh9:Ao P w K mg base k "kind_of" zs1):BX P w K mg base k QL "is_of" QV (QF zs1):=by intro cdv f A outer s H E hr;have nd:=Tl.nd;exact(AR (Ad (AGi (GR DJ vv BJ rfl) (HV (GR DJ (Ap zh9 hr (AC vv AJ)) vv rfl)))))
abbrev Me:Stmt:=Bb pW 15
theorem Tj:BN MR ["place","text"] (Ab Me):=by wtm_at "sc"
theorem Zo(hb:BS mg BU){zt1:GL}(zi9:Ao P w K mg base k "is_of" zt1):BX P w K mg base k MR "spot" Me (Pz zt1):=by intro cdv f A outer s H E hr;have nd:=Tj.nd;exact(AN (Ag nd (Aw vv AL)) (AN (Ag nd (Aw vv AL)) (AN (Ip nd rfl (ADN (hb.get "enumerate") (AC vv AJ)) (EN (N:=MR) (N':=["number","sign","kind"]) (n:=2) (idx:=[2]) (fnames:=(Ab Me).names) rfl (λ_=>rfl) rfl (by decide +kernel)) (λ_ _ _ _ _ _=>⟨(IT (n:=2) rfl (DF (BF (i:=0) (show(["number","sign","kind"]:List Str).Nodup by decide +kernel)) (DF (BF (i:=1) (show(["number","sign","kind"]:List Str).Nodup by decide +kernel)) Gj))),(Ra (DO (Ap zi9 hr (AC vv (AC vv AJ))))),vv⟩)) (AN (BG (Ay Jf (BP Co (hb.get "len") Ci (AC vv AJ)) (BP Yw (hb.get "abs") ZA (AC vv AJ)) rfl) (AR (Ad ED)) BL) (AN (Ag nd (Nx (Ay IN vv AL rfl) (Aw vv (AW Je vv AL)) (Aw vv vv))) (AR (Ad (Nx (Ay DJ (Aw vv AL) BJ rfl) vv (AW DT vv AL)))))))))
abbrev Mc:Stmt:=Bb pW 37
theorem Uk:BN Mu ["texts"] (Ab Mc):=by wtm_at "sc"
theorem AAs(hb:BS mg BU){zr1:GL}(zj9:Ao P w K mg base k "all_places" zr1){zz:GL}(zk9:Ao P w K mg base k "spot" zz):BX P w K mg base k Mu "places_by_spots" Mc (Pv zr1 zz):=by intro cdv f A outer s H E hr;have nd:=Uk.nd;exact(AN (Ag nd Ly) (AN (DC PassesOwn.never rfl (Ch (AGk zj9 hr)) (BF nd) (AN (Ag nd (GS JK (hb.get "tuple") Fv (AC (HW rfl (Ch vv) (EN (N:=Mu) (N':=["text","place"]) (n:=1) (idx:=[2]) (fnames:=(Ab Mc).names) rfl (λ_=>rfl) rfl (by decide +kernel)) (λ_ _ _ _ _ _=>⟨(BF (i:=0) (show(["text","place"]:List Str).Nodup by decide +kernel)),FK,(Ap zk9 hr (AC vv (AC vv AJ)))⟩)) AJ))) (AR (BG (Ay Iv ED vv rfl) (AR (FJ (Eg Gb AJn AJo Hu (Eg AKq AKz PySem.F.type_dict_setdefault (Wt hr.units) vv (AC vv (AC (Cn AJ) AJ))) (AC vv AJ)))) BL)))) (AR (Ad vv))))
abbrev Ma:Stmt:=Bb pW 39
theorem Ui:BN Ms ["answers","wanted"] (Ab Ma):=by wtm_at "sc"
theorem AAq(hb:BS mg BU):BX P w K mg base k Ms "stand_within" Ma (Pp):=by intro cdv f A outer s H E hr;have nd:=Ui.nd;exact(AR (Ad (BP (Yv rfl) (hb.get "all") Yz (AC (HW rfl (Rl US (hb.get "zip") (AC vv (AC vv AJ))) (EN (N:=Ms) (N':=["answer","whole"]) (n:=2) (idx:=[]) (fnames:=(Ab Ma).names) rfl (λ_=>rfl) rfl (by decide +kernel)) (λ_ _ _ _ _ _=>⟨(IT (n:=2) rfl (DF (BF (i:=0) (show(["answer","whole"]:List Str).Nodup by decide +kernel)) (DF (BF (i:=1) (show(["answer","whole"]:List Str).Nodup by decide +kernel)) Gj))),FK,(GR Jg vv vv rfl)⟩)) AJ))))
abbrev Ps:Stmt:=Bb pW 40
theorem Ug:BN Pj ["groups","wanted","answers","pieces"] (Ab Ps):=by wtm_at "sc"
theorem AAo(hb:BS mg BU){zv1:GL}(zm9:Ao P w K mg base k "stand_within" zv1):BX P w K mg base k Pj "add_to_group" Ps (Pc zv1):=by intro cdv f A outer s H E hr;have nd:=Ug.nd;exact(AR (BG (DO (Ap zm9 hr (AC vv (AC vv AJ)))) (AR (FJ (Eg Gb AK3 AK4 Ry (Eg AKq AKz PySem.F.type_dict_setdefault (Wt hr.units) vv (AC vv (AC (Cn AJ) AJ))) (AC vv AJ)))) BL))
abbrev Pf:Stmt:=Bb pW 38
theorem Ue:BN PV ["texts","starts","ends"] (Ab Pf):=by wtm_at "sc"
theorem AAm(hb:BS mg BU):BX P w K mg base k PV "stretches" Pf (PQ):=by intro cdv f A outer s H E hr;have nd:=Ue.nd;exact(AN (Ag nd (Cn AJ)) (AN (DC PassesOwn.never rfl (Rl AAa (hb.get "zip") (AC vv (AC vv (AC vv AJ)))) (IT (n:=3) rfl (DF (BF nd) (DF (BF nd) (DF (BF nd) Gj)))) (AN (BG (Ay Wh vv vv rfl) (AR (Ad ED)) BL) (AR (FJ (Eg Gb AJn AJo Hu vv (AC (FZ vv (EK vv) (EK vv)) AJ)))))) (AR (Ad vv))))
abbrev MY:Stmt:=Bb pW 41
theorem Ub:BN Mr ["deed","starts","ends"] (Ab MY):=by wtm_at "sc"
theorem AAk(hb:BS mg BU):BX P w K mg base k Mr "pieces_between" MY (PK):=by intro cdv f A outer s H E hr;have nd:=Ub.nd;exact(AN (Ag nd (Cn AJ)) (AN (DC PassesOwn.never rfl (Ch vv) (BF nd) (AR (FJ (Eg Gb AK3 AK4 Ry vv (AC (HW rfl (Ch vv) (EN (N:=Mr) (N':=["end","deed","start"]) (n:=1) (idx:=[0,4]) (fnames:=(Ab MY).names) rfl (λ_=>rfl) rfl (by decide +kernel)) (λ_ _ _ _ _ _=>⟨(BF (i:=0) (show(["end","deed","start"]:List Str).Nodup by decide +kernel)),FK,(Dv (AC vv (AC vv (AC vv AJ))))⟩)) AJ))))) (AR (Ad vv))))
abbrev PZ:Stmt:=Bb pW 18
theorem UZ:BN PD ["deed","signs"] (Ab PZ):=by wtm_at "sc"
theorem AAh(hb:BS mg BU):BX P w K mg base k PD "done_to" PZ (Oy):=by intro cdv f A outer s H E hr;have nd:=UZ.nd;exact(AN (BG (Ay DJ vv BJ rfl) (AR (Ad vv)) BL) (AR (Ad (Nx (Ay DJ vv BJ rfl) (JH AJv PySem.F.slot_str_upper PySem.F.type_str_upper Ws vv) (JH AJv PySem.F.slot_str_lower PySem.F.type_str_lower Wv vv)))))
abbrev LF:Stmt:=Bb pW 42
theorem UX:BN LH ["words","texts","wanted"] (Ab LF):=by wtm_at "sc"
theorem AAf(hb:BS mg BU)(ze3:Do K mg "DEEDS" KH){zu1:GL}(zp9:Ao P w K mg base k "places_by_spots" zu1){ze1:GL}(zu4:Ao P w K mg base k "add_to_group" ze1){zw1:GL}(zq9:Ao P w K mg base k "stretches" zw1){zx1:GL}(zr9:Ao P w K mg base k "pieces_between" zx1){zy1:GL}(zs9:Ao P w K mg base k "done_to" zy1):BX P w K mg base k LH "groups_of" LF (Ou zu1 ze1 zw1 zx1 zy1):=by intro cdv f A outer s H E hr;have nd:=UX.nd;exact(AN (Ag nd Ly) (AN (DC PassesOwn.never rfl (Ch vv) (BF nd) (AR (FJ (Ap zu4 hr (AC vv (AC vv (AC (GS JK (hb.get "tuple") Fv (AC (HW rfl (Ch vv) (EN (N:=LH) (N':=["text","word"]) (n:=1) (idx:=[4]) (fnames:=(Ab LF).names) rfl (λ_=>rfl) rfl (by decide +kernel)) (λ_ _ _ _ _ _=>⟨(BF (i:=0) (show(["text","word"]:List Str).Nodup by decide +kernel)),FK,vv⟩)) AJ)) (AC (Cn (AC (Dv (AC BJ (AC vv AJ))) AJ)) AJ)))))))) (AN (Ag nd (Ap zp9 hr (AC vv AJ))) (AN (DC PassesOwn.never rfl (WP vv) (BF nd) (AR (DC PassesOwn.never rfl (WP vv) (BF nd) (AN (Ag nd (Ap zq9 hr (AC vv (AC vv (AC vv AJ))))) (AR (BG (Ay Rq vv ED rfl) (AR (DC PassesOwn.never rfl (Ch (Ft ze3)) (BF nd) (AN (Ag nd (GS JK (hb.get "tuple") Fv (AC (HW rfl (Ch vv) (EN (N:=LH) (N':=["part","deed"]) (n:=1) (idx:=[9]) (fnames:=(Ab LF).names) rfl (λ_=>rfl) rfl (by decide +kernel)) (λ_ _ _ _ _ _=>⟨(BF (i:=0) (show(["part","deed"]:List Str).Nodup by decide +kernel)),FK,(Ap zs9 hr (AC vv (AC vv AJ)))⟩)) AJ))) (AR (FJ (Ap zu4 hr (AC vv (AC vv (AC vv (AC (Ap zr9 hr (AC vv (AC (Dk (JV hr.units) vv vv (λ_ _=>rfl)) (AC (Dk (JV hr.units) vv vv (λ_ _=>rfl)) AJ)))) AJ)))))))))) BL)))))) (AR (Ad vv))))))
abbrev Ow:Stmt:=Bb pW 44
theorem UV:BN Oo ["table","length","rest"] (Ab Ow):=by wtm_at "sc"
theorem AAd(hb:BS mg BU)(zw:Bg K "Table" "groups"):BX P w K mg base k Oo "answers_to_try" Ow (Oi):=by intro cdv f A outer s H E hr;have nd:=UV.nd;exact(AN (BG (Ay DJ vv AL rfl) (AR (Ad (Nx (Ay (AEW hr.units) vv (Bp vv (Be zw Bd)) rfl) (Cn (AC vv AJ)) (Cn AJ)))) BL) (AR (Ad (GS (AG3 rfl) (hb.get "list") Sv (AC (Bp vv (Be zw Bd)) AJ)))))
abbrev Oq:Stmt:=Bb pW 43
theorem UT:BN Of ["rest","answers"] (Ab Oq):=by wtm_at "sc"
theorem AAb(hb:BS mg BU):BX P w K mg base k Of "rest_behind" Oq (Oc):=by intro cdv f A outer s H E hr;have nd:=UT.nd;exact(AN (Ag nd (Cn AJ)) (AN (DC PassesOwn.never rfl (Rl US (hb.get "zip") (AC vv (AC vv AJ))) (IT (n:=2) rfl (DF (BF nd) (DF (BF nd) Gj))) (AN (BG (EI (DO (Eg AJv PySem.F.slot_str_startswith PySem.F.type_str_startswith AEt vv (AC vv AJ)))) (AR (Ad ED)) BL) (AR (FJ (Eg Gb AJn AJo Hu vv (AC (FZ vv (EK (BP Co (hb.get "len") Ci (AC vv AJ))) HN) AJ)))))) (AR (Ad (GS JK (hb.get "tuple") Fv (AC vv AJ))))))
abbrev Om:Stmt:=Bb pW 45
theorem UQ:BN OX ["table","length","rest"] (Ab Om):=by wtm_at "sc"
theorem AAS(hb:BS mg BU)(zv4:Do K mg "NOWHERE" LJ)(zg:Bg K "Node" "arms")(zc:Bg K "Node" "ways")(zw:Bg K "Table" "groups")(ze:Bg K "Table" "nodes"){zh:GL}(zr2:GY P w K mg base k "Node" zh){za2:GL}(zw9:Ao P w K mg base k "answers_to_try" za2){zb2:GL}(zx9:Ao P w K mg base k "rest_behind" zb2){zt:GL}(zq3:Ao P w K mg base k "node_number" zt):BX P w K mg base k OX "new_node" Om (RA zh za2 zb2 zt):=by intro cdv f A outer s H E hr;have nd:=UQ.nd;exact(AN (Ag nd (Nw zr2 hr (AC AL AJ))) (AN (DC PassesOwn.never rfl (Ch (Ap zw9 hr (AC vv (AC vv (AC vv AJ))))) (BF nd) (AN (Ag nd (Ap zx9 hr (AC vv (AC vv AJ)))) (AR (BG (Ay Rq vv ED rfl) (AN (Ag nd (Ap zq3 hr (AC vv (AC (AW Je vv AL) (AC vv AJ))))) (AR (BG (Ay KP vv (Ft zv4) rfl) (AN (RQ hr.units (Bp vv (Be zg Bd)) vv (Dv (AC (Bp vv (Be zc Bd)) (AC vv AJ)))) (AR (ACB vv (AW HP (BP Co (hb.get "len") Ci (AC (Dk (JV hr.units) (Bp vv (Be zw Bd)) vv (λ_ _=>rfl)) AJ)) (Bp (Dk FG (Bp vv (Be ze Bd)) vv (λ_ _=>rfl)) (Be zc Bd))) (Be zc Bd) AFp))) BL))) BL)))) (AN (BG (Ay DJ (Bp vv (Be zc Bd)) AL rfl) (AR (Ad (Ft zv4))) BL) (AN (FJ (Eg Gb AJn AJo Hu (Bp vv (Be ze Bd)) (AC vv AJ))) (AR (Ad (AW Je (BP Co (hb.get "len") Ci (AC (Bp vv (Be ze Bd)) AJ)) AL)))))))
abbrev OZ:Stmt:=Bb pW 46
theorem UO:BN Qw ["table","length","rest"] (Ab OZ):=by wtm_at "sc"
theorem AAQ(hb:BS mg BU)(zz9:Do K mg "END" Mb)(zm2:Bg K "Table" "node_numbers"){zf4:GL}(zl16:Ao P w K mg base k "new_node" zf4):BX P w K mg base k Qw "node_number" OZ (Mp zf4):=by intro cdv f A outer s H E hr;have nd:=UO.nd;exact(AN (BG (Ay DJ vv AL rfl) (AR (Ad (Ft zz9))) BL) (AN (Ag nd (Dv (AC vv (AC vv AJ)))) (AN (BG (Ay (We hr.units) vv (Bp vv (Be zm2 Bd)) rfl) (AR (RQ hr.units (Bp vv (Be zm2 Bd)) vv (Ap zl16 hr (AC vv (AC vv (AC vv AJ)))))) BL) (AR (Ad (Dk (JV hr.units) (Bp vv (Be zm2 Bd)) vv (λ_ _=>rfl)))))))
abbrev KJ:Stmt:=Bb pW 47
theorem UM:BN KG ["words","examples"] (Ab KJ):=by wtm_at "sc"
theorem AAN(hb:BS mg BU)(zg3:Do K mg "ROW_LENGTHS" JR)(zj:Bg K "Table" "roots"){zq1:GL}(za10:GY P w K mg base k "Table" zq1){zz1:GL}(zb10:Ao P w K mg base k "groups_of" zz1){zt:GL}(zq3:Ao P w K mg base k "node_number" zt):BX P w K mg base k KG "table_of" KJ (Qr zq1 zz1 zt):=by intro cdv f A outer s H E hr;have nd:=UM.nd;exact(AN (Ag nd (BP AG2 (hb.get "sorted") AHF (AC vv AJ))) (AN (Ip nd rfl (Ch vv) (EN (N:=KG) (N':=["example"]) (n:=1) (idx:=[]) (fnames:=(Ab KJ).names) rfl (λ_=>rfl) rfl (by decide +kernel)) (λ_ _ _ _ _ _=>⟨(BF (i:=0) (show(["example"]:List Str).Nodup by decide +kernel)),FK,(Aw vv AL)⟩)) (AN (Ag nd (GS JK (hb.get "tuple") Fv (AC (HW rfl (Ch vv) (EN (N:=KG) (N':=["example"]) (n:=1) (idx:=[]) (fnames:=(Ab KJ).names) rfl (λ_=>rfl) rfl (by decide +kernel)) (λ_ _ _ _ _ _=>⟨(BF (i:=0) (show(["example"]:List Str).Nodup by decide +kernel)),FK,(Aw vv AL)⟩)) AJ))) (AN (Ag nd (Nw za10 hr (AC (GS JK (hb.get "tuple") Fv (AC vv AJ)) (AC (Ap zb10 hr (AC vv (AC vv (AC vv AJ)))) AJ)))) (AN (FJ (Eg Gb AK3 AK4 Ry (Bp vv (Be zj Bd)) (AC (HW rfl (Ch (Ft zg3)) (EN (N:=KG) (N':=["length","table","wanted"]) (n:=1) (idx:=[5,4]) (fnames:=(Ab KJ).names) rfl (λ_=>rfl) rfl (by decide +kernel)) (λ_ _ _ _ _ _=>⟨(BF (i:=0) (show(["length","table","wanted"]:List Str).Nodup by decide +kernel)),FK,(Ap zq3 hr (AC vv (AC vv (AC vv AJ))))⟩)) AJ))) (AR (Ad vv)))))))
abbrev MU:Stmt:=Bb pW 24
theorem UK:BN Mo ["table"] (Ab MU):=by wtm_at "sc"
theorem AAL(hb:BS mg BU)(zc:Bg K "Node" "ways")(ze:Bg K "Table" "nodes")(zj:Bg K "Table" "roots"):BX P w K mg base k Mo "many" MU (Qn):=by intro cdv f A outer s H E hr;have nd:=UK.nd;exact(AR (Ad (BP (Yr rfl) (hb.get "sum") Yx (AC (HW rfl (Ch (Bp vv (Be zj Bd))) (EN (N:=Mo) (N':=["root","table"]) (n:=1) (idx:=[0]) (fnames:=(Ab MU).names) rfl (λ_=>rfl) rfl (by decide +kernel)) (λ_ _ _ _ _ _=>⟨(BF (i:=0) (show(["root","table"]:List Str).Nodup by decide +kernel)),FK,(Bp (Aw (Bp vv (Be ze Bd)) vv) (Be zc Bd))⟩)) AJ))))
abbrev Qt:Stmt:=Bb pW 65
theorem UI:BN Qh ["_law_found"] (Ab Qt):=by wtm_at "sc"
theorem AAJ(hb:BS mg BU):BX P w K mg base k Qh "_law_whole" Qt (Qb):=by intro cdv f A outer s H E hr;have nd:=UI.nd;exact(AR (Ad (Fu (BP Ez (hb.get "isinstance") FA (AC vv (AC (Ev (hb.get "int") ME) AJ))) (HV (Sn (BP Ez (hb.get "isinstance") FA (AC vv (AC (Ev (hb.get "bool") Sw) AJ))))))))
abbrev Qp:Stmt:=Bb pW 62
theorem UG:BN QX ["_law_thing"] (Ab Qp):=by wtm_at "sc"
theorem AAH(hb:BS mg BU):BX P w K mg base k QX "_law_is_place" Qp (QQ):=by intro cdv f A outer s H E hr;have nd:=UG.nd;exact(AN (BG (Ep (EA (EI (DO (BP Ez (hb.get "isinstance") FA (AC vv (AC (Ev (hb.get "tuple") Fv) AJ))))) (FU (Ay KP (BP Co (hb.get "len") Ci (AC vv AJ)) AL rfl)))) (AR (Ad Ew)) BL) (AN (BG (Ep (EA (EI (DO (BP Ez (hb.get "isinstance") FA (AC (Aw vv AL) (AC (Ev (hb.get "int") ME) AJ))))) (EA (DO (BP Ez (hb.get "isinstance") FA (AC (Aw vv AL) (AC (Ev (hb.get "bool") Sw) AJ)))) (FU (Ay Iv (Aw vv AL) (Dv (AC AL (AC AL (AC (Km AL) (AC (Km AL) AJ))))) rfl))))) (AR (Ad Ew)) BL) (AN (BG (Ep (EA (EI (DO (BP Ez (hb.get "isinstance") FA (AC (Aw vv AL) (AC (Ev (hb.get "str") MD) AJ))))) (FU (EI (DO (BP Ez (hb.get "isinstance") FA (AC (Aw vv AL) (AC (Ev (hb.get "str") MD) AJ)))))))) (AR (Ad Ew)) BL) (AR (Ad (Fu (GR Jg (Aw vv AL) (Dv (AC BJ (AC BJ (AC BJ (AC BJ (AC BJ AJ)))))) rfl) (HV (GR Jg (Aw vv AL) (Dv (AC BJ (AC BJ AJ))) rfl))))))))
abbrev Qk:Stmt:=Bb pW 63
theorem UE:BN QK ["_law_thing","_law_words_here"] (Ab Qk):=by wtm_at "sc"
theorem AAF(hb:BS mg BU){zh1:GL}(zx4:Ao P w K mg base k "_law_is_place" zh1):BX P w K mg base k QK "_law_is_row" Qk (QE zh1):=by intro cdv f A outer s H E hr;have nd:=UE.nd;exact(AN (BG (Ep (EA (EI (DO (BP Ez (hb.get "isinstance") FA (AC vv (AC (Ev (hb.get "tuple") Fv) AJ))))) (FU (EI (ABM Wg Wg AL (BP Co (hb.get "len") Ci (AC vv AJ)) AL))))) (AR (Ad Ew)) BL) (AN (DC PassesOwn.never rfl (Ch vv) (BF nd) (AN (BG (Ep (EA (EI (DO (BP Ez (hb.get "isinstance") FA (AC vv (AC (Ev (hb.get "tuple") Fv) AJ))))) (EA (Ay Jf (BP Co (hb.get "len") Ci (AC vv AJ)) AL rfl) (FU (EI (DO (BP Ez (hb.get "isinstance") FA (AC (Aw vv AL) (AC (Ev (hb.get "str") MD) AJ))))))))) (AR (Ad Ew)) BL) (AR (BG (Ay DJ (Aw vv AL) BJ rfl) (AR (BG (Ep (EA (Ay KP (BP Co (hb.get "len") Ci (AC vv AJ)) AL rfl) (EA (EI (DO (BP Ez (hb.get "isinstance") FA (AC (Aw vv AL) (AC (Ev (hb.get "str") MD) AJ))))) (FU (Ay Iv (Aw vv AL) vv rfl))))) (AR (Ad Ew)) BL)) (AR (BG (Ep (EA (Ay KP (BP Co (hb.get "len") Ci (AC vv AJ)) AL rfl) (FU (Ay Iv (Aw vv AL) (Dv (AC BJ (AC BJ (AC BJ AJ)))) rfl)))) (AR (Ad Ew)) (AR (BG (Ep (EA (EI (DO (Ap zx4 hr (AC (Aw vv AL) AJ)))) (FU (EI (DO (Ap zx4 hr (AC (Aw vv AL) AJ))))))) (AR (Ad Ew)) BL)))))))) (AR (Ad Ew))))
abbrev Qe:Stmt:=Bb pW 64
theorem UC:BN Py ["_law_row_here","_law_words_here","_law_examples"] (Ab Qe):=by wtm_at "sc"
theorem AAD(hb:BS mg BU){zo:GL}(zy2:Ao P w K mg base k "_law_row_answer" zo){zc2:GL}(zg10:Ao P w K mg base k "_law_is_row" zc2):BX P w K mg base k Py "_law_row_fits" Qe (Pu zo zc2):=by intro cdv f A outer s H E hr;have nd:=UC.nd;exact(AN (BG (EI (DO (Ap zg10 hr (AC vv (AC vv AJ))))) (AR (Ad Ew)) BL) (AN (DC PassesOwn.never rfl (Ch vv) (IT (n:=2) rfl (DF (BF nd) (DF (BF nd) Gj))) (AR (BG (Ay (Wf hr.units) (Ap zy2 hr (AC vv (AC vv AJ))) vv rfl) (AR (Ad Ew)) BL))) (AR (Ad Ew))))
abbrev QU:Stmt:=Bb pW 25
theorem UA:BN Po ["node","number"] (Ab QU):=by wtm_at "sc"
theorem AAB(hb:BS mg BU)(zg:Bg K "Node" "arms"):BX P w K mg base k Po "arm_answers" QU (Ph):=by intro cdv f A outer s H E hr;have nd:=UA.nd;exact(AN (Ag nd ED) (AN (DC PassesOwn.never rfl (WN (Bp vv (Be zg Bd))) (IT (n:=2) rfl (DF (BF nd) (DF (BF nd) Gj))) (AN (BG (Ay IN (Aw vv AL) vv rfl) (AR ACA) BL) (AR (Ag nd vv)))) (AR (Ad vv))))
abbrev QN:Stmt:=Bb pW 26
theorem Tx:BN Pb ["table","root","number"] (Ab QN):=by wtm_at "sc"
theorem Zz(hb:BS mg BU)(zg:Bg K "Node" "arms")(zc:Bg K "Node" "ways")(zw:Bg K "Table" "groups")(ze:Bg K "Table" "nodes"){zd2:GL}(zj10:Ao P w K mg base k "arm_answers" zd2):BX P w K mg base k Pb "row_from" QN (PU zd2):=by intro cdv f A outer s H E hr;have nd:=Tx.nd;exact(AN (Ag nd (Cn AJ)) (AN (Ag nd (Dk FG (Bp vv (Be ze Bd)) vv (λ_ _=>rfl))) (AN (AB9 PassesOwn.never (Ay IN (BP AG4 (hb.get "len") Ci (AC (Bp vv (Be zg Bd)) AJ)) AL rfl) (AN (Ag nd (Ap zj10 hr (AC vv (AC vv AJ)))) (AN (Ag nd (Dk (JV hr.units) (Bp vv (Be zg Bd)) vv (λ_ _=>rfl))) (AN (Ag nd (Dk FG (Bp vv (Be ze Bd)) (Dk FG vv AL (λ_ _=>rfl)) (λ_ _=>rfl))) (AN (Ag nd (AW Je vv (Dk FG vv AL (λ_ _=>rfl)))) (AN (FJ (Eg Gb AJn AJo Hu vv (AC (Dk FG (Dk (JV hr.units) (Bp vv (Be zw Bd)) vv (λ_ _=>rfl)) (AW DS vv (Bp vv (Be zc Bd))) (λ_ _=>rfl)) AJ))) (AN (Ag nd (AW CF vv (Bp vv (Be zc Bd)))) (AR (Ag nd vv))))))))) (AR (Ad (GS JK (hb.get "tuple") Fv (AC vv AJ)))))))
abbrev QC:Stmt:=Bb pW 27
theorem Tv:BN PP ["table","number"] (Ab QC):=by wtm_at "sc"
theorem Zx(hb:BS mg BU)(zc:Bg K "Node" "ways")(ze:Bg K "Table" "nodes")(zj:Bg K "Table" "roots"){ze2:GL}(zl10:Ao P w K mg base k "row_from" ze2):BX P w K mg base k PP "row_at" QC (PJ ze2):=by intro cdv f A outer s H E hr;have nd:=Tv.nd;exact(AN (BG (Ay Jf vv AL rfl) (AR Vo) BL) (AN (DC PassesOwn.never rfl (Ch (Bp vv (Be zj Bd))) (BF nd) (AN (Ag nd (Bp (Aw (Bp vv (Be ze Bd)) vv) (Be zc Bd))) (AN (BG (Ay Jf vv vv rfl) (AR (Ad (Ap zl10 hr (AC vv (AC vv (AC vv AJ)))))) BL) (AR (Vp nd vv AFm))))) (AR Vo)))
abbrev Pr:Stmt:=Bb pW 21
theorem Tt:BN PC ["length","thing"] (Ab Pr):=by wtm_at "sc"
theorem Zv(hb:BS mg BU):BX P w K mg base k PC "is_tuple_of" Pr (Ox):=by intro cdv f A outer s H E hr;have nd:=Tt.nd;exact(AR (Ad (Fu (BP Ez (hb.get "isinstance") FA (AC vv (AC (Ev (hb.get "tuple") Fv) AJ))) (HV (GR DJ (BP Co (hb.get "len") Ci (AC vv AJ)) vv rfl)))))
abbrev Pl:Stmt:=Bb pW 12
theorem Tr:BN Ot ["thing","words"] (Ab Pl):=by wtm_at "sc"
theorem Zt(hb:BS mg BU):BX P w K mg base k Ot "is_word_among" Pl (On):=by intro cdv f A outer s H E hr;have nd:=Tr.nd;exact(AR (Ad (Fu (BP Ez (hb.get "isinstance") FA (AC vv (AC (Ev (hb.get "str") MD) AJ))) (HV (GR Jg vv vv rfl)))))
abbrev Pe:Stmt:=Bb pW 13
theorem Tp:BN Oh ["thing"] (Ab Pe):=by wtm_at "sc"
theorem Zr(hb:BS mg BU)(zd3:Do K mg "NTHS" JT):BX P w K mg base k Oh "is_nth" Pe (Oe):=by intro cdv f A outer s H E hr;have nd:=Tp.nd;exact(AR (Ad (Fu (BP Ez (hb.get "isinstance") FA (AC vv (AC (Ev (hb.get "int") ME) AJ))) (Fu (Sn (BP Ez (hb.get "isinstance") FA (AC vv (AC (Ev (hb.get "bool") Sw) AJ)))) (HV (GR Jg vv (Ft zd3) rfl))))))
abbrev PY:Stmt:=Bb pW 14
theorem Tn:BN Oa ["thing"] (Ab PY):=by wtm_at "sc"
theorem Zp(hb:BS mg BU)(zb3:Do K mg "EDGES" JS)(zc3:Do K mg "KINDS" JU){zb:GL}(zb1:Ao P w K mg base k "is_word_among" zb){zf2:GL}(zq10:Ao P w K mg base k "is_nth" zf2):BX P w K mg base k Oa "is_place" PY (OW zb zf2):=by intro cdv f A outer s H E hr;have nd:=Tn.nd;exact(AN (BG (Ep (EA (EI (DO (BP Ez (hb.get "isinstance") FA (AC vv (AC (Ev (hb.get "tuple") Fv) AJ))))) (FU (Ay KP (BP Co (hb.get "len") Ci (AC vv AJ)) AL rfl)))) (AR (Ad Ew)) BL) (AR (Ad (Fu (Ap zb1 hr (AC (Aw vv AL) (AC (Ft zc3) AJ))) (Fu (Ap zq10 hr (AC (Aw vv AL) AJ)) (HV (Ap zb1 hr (AC (Aw vv AL) (AC (Ft zb3) AJ)))))))))
abbrev PM:Stmt:=Bb pW 22
theorem Tk:BN Qz ["thing"] (Ab PM):=by wtm_at "sc"
theorem Zn(hb:BS mg BU)(ze3:Do K mg "DEEDS" KH){zr:GL}(zh3:Ao P w K mg base k "is_tuple_of" zr){zb:GL}(zb1:Ao P w K mg base k "is_word_among" zb){za1:GL}(zy4:Ao P w K mg base k "is_place" za1):BX P w K mg base k Qz "is_stretch" PM (Qv zr zb za1):=by intro cdv f A outer s H E hr;have nd:=Tk.nd;exact(AR (Ad (Fu (Ap zh3 hr (AC AL (AC vv AJ))) (Fu (Ap zb1 hr (AC (Aw vv AL) (AC (Ft ze3) AJ))) (Fu (Ap zy4 hr (AC (Aw vv AL) AJ)) (HV (Ap zy4 hr (AC (Aw vv AL) AJ))))))))
abbrev PH:Stmt:=Bb pW 28
theorem Ti:BN Qq ["table","piece"] (Ab PH):=by wtm_at "sc"
theorem AAr(hb:BS mg BU)(za3:Bg K "Table" "words"){zr:GL}(zh3:Ao P w K mg base k "is_tuple_of" zr){zb:GL}(zb1:Ao P w K mg base k "is_word_among" zb){zg2:GL}(zt10:Ao P w K mg base k "is_stretch" zg2):BX P w K mg base k Qq "may_be_used" PH (Qm zr zb zg2):=by intro cdv f A outer s H E hr;have nd:=Ti.nd;exact(AN (BG (DO (Ap zh3 hr (AC AL (AC vv AJ)))) (AR (Ad (Fu (Ap zb1 hr (AC (Aw vv AL) (AC (Dv (AC BJ AJ)) AJ))) (HV (Ap zb1 hr (AC (Aw vv AL) (AC (Bp vv (Be za3 Bd)) AJ))))))) BL) (AR (Ad (Ap zt10 hr (AC vv AJ)))))
abbrev MQ:Stmt:=Bb pW 29
theorem Uj:BN Mn ["table","row"] (Ab MQ):=by wtm_at "sc"
theorem AAp(hb:BS mg BU)(zg3:Do K mg "ROW_LENGTHS" JR){zh2:GL}(zu10:Ao P w K mg base k "may_be_used" zh2):BX P w K mg base k Mn "is_row_of_its_pieces" MQ (Qg zh2):=by intro cdv f A outer s H E hr;have nd:=Uj.nd;exact(AN (BG (Ep (EA (EI (DO (BP Ez (hb.get "isinstance") FA (AC vv (AC (Ev (hb.get "tuple") Fv) AJ))))) (FU (Ay Iv (BP Co (hb.get "len") Ci (AC vv AJ)) (Ft zg3) rfl)))) (AR (Ad Ew)) BL) (AR (Ad (BP (Yv rfl) (hb.get "all") Yz (AC (HW rfl (Ch vv) (EN (N:=Mn) (N':=["piece","table"]) (n:=1) (idx:=[0]) (fnames:=(Ab MQ).names) rfl (λ_=>rfl) rfl (by decide +kernel)) (λ_ _ _ _ _ _=>⟨(BF (i:=0) (show(["piece","table"]:List Str).Nodup by decide +kernel)),FK,(Ap zu10 hr (AC vv (AC vv AJ)))⟩)) AJ)))))
abbrev Mt:Stmt:=Bb pW 30
theorem Uh:BN Mm ["table","row"] (Ab Mt):=by wtm_at "sc"
theorem AAn(hb:BS mg BU)(zg:Bg K "Node" "arms")(zc:Bg K "Node" "ways")(zz2:Bg K "Table" "members")(ze:Bg K "Table" "nodes")(zj:Bg K "Table" "roots"){zi2:GL}(zv10:Ao P w K mg base k "is_row_of_its_pieces" zi2):BX P w K mg base k Mm "row_number" Mt (Qa zi2):=by intro cdv f A outer s H E hr;have nd:=Uh.nd;exact(AN (BG (EI (DO (Ap zv10 hr (AC vv (AC vv AJ))))) (AR (Ad ED)) BL) (AN (Ag nd (AW Je (BP Co (hb.get "len") Ci (AC vv AJ)) AL)) (AN (Ag nd (BP (Yr rfl) (hb.get "sum") Yx (AC (HW rfl (Ch (FZ (Bp vv (Be zj Bd)) HN (EK vv))) (EN (N:=Mm) (N':=["root","table"]) (n:=1) (idx:=[0]) (fnames:=(Ab Mt).names) rfl (λ_=>rfl) rfl (by decide +kernel)) (λ_ _ _ _ _ _=>⟨(BF (i:=0) (show(["root","table"]:List Str).Nodup by decide +kernel)),FK,(Bp (Dk FG (Bp vv (Be ze Bd)) vv (λ_ _=>rfl)) (Be zc Bd))⟩)) AJ))) (AN (Ag nd (Dk FG (Bp vv (Be ze Bd)) (Dk FG (Bp vv (Be zj Bd)) vv (λ_ _=>rfl)) (λ_ _=>rfl))) (AN (DC PassesOwn.never rfl (Ch vv) (BF nd) (AN (Ag nd (Eg AKq PySem.F.slot_dict_get PySem.F.type_dict_get (AEy hr.units) (Bp vv (Be zz2 Bd)) (AC vv AJ))) (AN (BG (Ep (EA (Ay Rr vv ED rfl) (FU (Ay (We hr.units) (Dk FG vv AL (λ_ _=>rfl)) (Bp vv (Be zg Bd)) rfl)))) (AR (Ad ED)) BL) (AN (Ag nd (Dk (JV hr.units) (Bp vv (Be zg Bd)) (Dk FG vv AL (λ_ _=>rfl)) (λ_ _=>rfl))) (AN (Ag nd (Dk FG (Bp vv (Be ze Bd)) (Dk FG vv AL (λ_ _=>rfl)) (λ_ _=>rfl))) (AR (Vp nd (AW DT (Dk FG vv AL (λ_ _=>rfl)) (AW HP (Dk FG vv AL (λ_ _=>rfl)) (Bp vv (Be zc Bd)))) AFn))))))) (AR (Ad vv)))))))
abbrev Ol:Stmt:=Bb pW 67
theorem Uf:BN QW ["_law_table","_law_number","_law_words_here","_law_examples"] (Ab Ol):=by wtm_at "sc"
theorem AAl(hb:BS mg BU){zp:GL}(zi3:Ao P w K mg base k "_law_whole" zp){zq:GL}(zj3:Ao P w K mg base k "_law_row_fits" zq){zi:GL}(zs2:Ao P w K mg base k "row_at" zi){zj2:GL}(zx10:Ao P w K mg base k "row_number" zj2):BX P w K mg base k QW "_law_right" Ol (QP zp zq zi zj2):=by intro cdv f A outer s H E hr;have nd:=Uf.nd;exact(AN (Ag nd (Ap zs2 hr (AC vv (AC vv AJ)))) (AN (BG (EI (DO (Ap zj3 hr (AC vv (AC vv (AC vv AJ)))))) (AR (Ad Ew)) BL) (AN (Ag nd (Ap zx10 hr (AC vv (AC vv AJ)))) (AR (Ad (Fu (Ap zi3 hr (AC vv AJ)) (HV (GR (NT hr.units) vv vv rfl))))))))
abbrev KI:Stmt:=Bb pW 68
theorem Ud:BN QJ ["_law_script"] (Ab KI):=by wtm_at "sc"
theorem AAj(hb:BS mg BU){za:GL}(zu:Ao P w K mg base k "_law_cell" za){zp1:GL}(zy10:Ao P w K mg base k "_law_made" zp1){zf1:GL}(zb5:Ao P w K mg base k "table_of" zf1){zg1:GL}(zc5:Ao P w K mg base k "many" zg1){zp:GL}(zi3:Ao P w K mg base k "_law_whole" zp){zq:GL}(zj3:Ao P w K mg base k "_law_row_fits" zq){zi:GL}(zs2:Ao P w K mg base k "row_at" zi){zk2:GL}(zz10:Ao P w K mg base k "_law_right" zk2):BX P w K mg base k QJ "law" KI (QD za zp1 zf1 zg1 zp zq zi zk2):=by intro cdv f A outer s H E hr;have nd:=Ud.nd;exact(AN (RR rfl (Ap zy10 hr (AC vv AJ)) (DF (BF nd) (DF (BF nd) (DF (BF nd) Gj)))) (AN (Ag nd (Cn (AC (GS Yt (hb.get "list") Sv (AC vv AJ)) (AC (GS Yt (hb.get "list") Sv (AC vv AJ)) AJ)))) (AN (Ag nd (Ap zb5 hr (AC (Aw vv AL) (AC (Aw vv AL) AJ)))) (AN (Ag nd (Ap zc5 hr (AC vv AJ))) (AN (BG (Ep (EA (EI (DO (Ap zi3 hr (AC vv AJ)))) (EA (Ay Jf vv AL rfl) (FU (Ay (Wf hr.units) vv (Cn (AC vv (AC vv AJ))) rfl))))) (AR (Ad Ew)) BL) (AN (BG (Ay (NT hr.units) vv AL rfl) (AR (Ad (Sn (Ap zj3 hr (AC vv (AC vv (AC vv AJ))))))) BL) (AN (FJ (Eg Gb AJn AJo Hu (Aw vv AL) (AC BJ AJ))) (AN (FJ (JH Gb PySem.F.slot_list_clear PySem.F.type_list_clear AEz (Aw vv AL))) (AN (Ag nd (Cn (AC (AW CF (Ap zu hr (AC vv (AC AL AJ))) vv) (AC AL (AC (AW Je vv AL) (AC (AW CF (AW DS (Ap zu hr (AC vv (AC AL AJ))) AL) vv) AJ)))))) (AN (DC PassesOwn.never rfl (Ch vv) (BF nd) (AR (BG (EI (DO (Ap zz10 hr (AC vv (AC vv (AC vv (AC vv AJ))))))) (AR (Ad Ew)) BL))) (AN (Ag nd (Ap zb5 hr (AC vv (AC vv AJ)))) (AR (Ad (Fu (GR (NT hr.units) (Ap zc5 hr (AC vv AJ)) vv rfl) (HV (GR (NT hr.units) (Ap zs2 hr (AC vv (AC (Aw vv AL) AJ))) (Ap zs2 hr (AC vv (AC (Aw vv AL) AJ))) rfl))))))))))))))))
end
theorem AHb{l:PySem.W.OpenLaw}{w:World}{K:AO}{h:Heap}{mg:ALK}{fa:Addr}(X:K.In h)(G:h.Ns mainGlobals mg)(hfa:mg "law"=some (.ref fa))
  {r1:Addr} {o1:Option Addr} {n1:Nat} {l1:Array (Option Value)}
  {t2:Tok}
  {t3:Tok}
  {t4:Tok}
  {r7:Addr} {o7:Option Addr} {n7:Nat} {l7:Array (Option Value)}
  {t8:Tok}
  {t9:Tok}
  {t12:Tok}
  {r14:Addr} {o14:Option Addr} {n14:Nat} {l14:Array (Option Value)}
  {t15:Tok}
  {t16:Tok}
  {t17:Tok}
  {t18:Tok}
  {t19:Tok}
  {t22:Tok}
  {r24:Addr} {o24:Option Addr} {n24:Nat} {l24:Array (Option Value)}
  {t25:Tok}
  {t26:Tok}
  {t27:Tok}
  {t28:Tok}
  {r31:Addr} {o31:Option Addr} {n31:Nat} {l31:Array (Option Value)}
  {t32:Tok}
  {t33:Tok}
  {t34:Tok}
  {r37:Addr} {o37:Option Addr} {n37:Nat} {l37:Array (Option Value)}
  {r38:Addr} {o38:Option Addr} {n38:Nat} {l38:Array (Option Value)}
  {t39:Tok}
  {t40:Tok}
  {r42:Addr} {o42:Option Addr} {n42:Nat} {l42:Array (Option Value)}
  {t43:Tok}
  {t44:Tok}
  {r46:Addr} {o46:Option Addr} {n46:Nat} {l46:Array (Option Value)}
  {t47:Tok}
  {t48:Tok}
  {r50:Addr} {o50:Option Addr} {n50:Nat} {l50:Array (Option Value)}
  {t51:Tok}
  {t52:Tok}
  {zy:Addr}
  {zk:Addr}
  {za11:Addr}
  {ze13:Addr}
  {zf13:Addr}
  {zg13:Addr}
  {zh13:Addr}
  {zi13:Addr}
  {zj13:Addr}
  {zk13:Addr}
  {zl13:Addr}
  {zm13:Addr}
  {zn13:Addr}
  {zo13:Addr}
  {zp13:Addr}
  {zq13:Addr}
  {zr13:Addr}
  {zs13:Addr}
  {zb11:Addr}
  {zc11:Addr}
  {zt13:Addr}
  {zu13:Addr}
  {zv13:Addr}
  {zw13:Addr}
  {zx13:Addr}
  {zy13:Addr}
  {zz13:Addr}
  {za14:Addr}
  {zb14:Addr}
  {zc14:Addr}
  {zd14:Addr}
  {ze14:Addr}
  {zf14:Addr}
  {zg14:Addr}
  {zh14:Addr}
  {zi14:Addr}
  {zj14:Addr}
  {zk14:Addr}
  {zl14:Addr}
  {zm14:Addr}
  {zn14:Addr}
  {zo14:Addr}
  {zp14:Addr}
  {zq14:Addr}
  {zr14:Addr}
  {zs14:Addr}
  {zt14:Addr}
  {zu14:Addr}
  {zv14:Addr}
  {zw14:Addr}
  {zx14:Addr}
  {zy14:Addr}
  {zz14:Addr}
  {za15:Addr}
  (q6:Cp K mainGlobals "DEEDS"=some (some (.ref r1)))
  (q5:K.lookup r1=some ⟨.type "tuple",o1,.seq ([.str "copy" t2,.str "raise" t3,.str "sink" t4]:List Value).toArray n1,l1⟩)
  (q11:Cp K mainGlobals "EDGES"=some (some (.ref r7)))
  (q10:K.lookup r7=some ⟨.type "tuple",o7,.seq ([.str "ahead" t8,.str "behind" t9]:List Value).toArray n7,l7⟩)
  (q13:Cp K mainGlobals "END"=some (some (.int (0) t12)))
  (q21:Cp K mainGlobals "KINDS"=some (some (.ref r14)))
  (q20:K.lookup r14=some ⟨.type "tuple",o14,.seq ([.str "small" t15,.str "great" t16,.str "figure" t17,.str "mark" t18,.str "any" t19]:List Value).toArray n14,l14⟩)
  (q23:Cp K mainGlobals "NOWHERE"=some (some (.int (1) t22)))
  (q30:Cp K mainGlobals "NTHS"=some (some (.ref r24)))
  (q29:K.lookup r24=some ⟨.type "tuple",o24,.seq ([.int (1) t25,.int (2) t26,.int (-1) t27,.int (-2) t28]:List Value).toArray n24,l24⟩)
  (q36:Cp K mainGlobals "ROW_LENGTHS"=some (some (.ref r31)))
  (q35:K.lookup r31=some ⟨.type "tuple",o31,.seq ([.int (1) t32,.int (2) t33,.int (3) t34]:List Value).toArray n31,l31⟩)
  (q55:Cp K mainGlobals "SIGNS_BY_KIND"=some (some (.ref r37)))
  (q54:K.lookup r37=some ⟨.type "tuple",o37,.seq ([.ref r38,.ref r42,.ref r46,.ref r50]:List Value).toArray n37,l37⟩)
  (q41:K.lookup r38=some ⟨.type "tuple",o38,.seq ([.str "small" t39,.str "abcdefghijklmnopqrstuvwxyz" t40]:List Value).toArray n38,l38⟩)
  (q45:K.lookup r42=some ⟨.type "tuple",o42,.seq ([.str "great" t43,.str "ABCDEFGHIJKLMNOPQRSTUVWXYZ" t44]:List Value).toArray n42,l42⟩)
  (q49:K.lookup r46=some ⟨.type "tuple",o46,.seq ([.str "figure" t47,.str "0123456789" t48]:List Value).toArray n46,l46⟩)
  (q53:K.lookup r50=some ⟨.type "tuple",o50,.seq ([.str "mark" t51,.str " -.,/" t52]:List Value).toArray n50,l50⟩)
  (q56:Cp K mainGlobals "abs"=some none)
  (q57:Cp K mainGlobals "all"=some none)
  (q58:Cp K mainGlobals "bool"=some none)
  (q59:Cp K mainGlobals "enumerate"=some none)
  (q60:Cp K mainGlobals "int"=some none)
  (q61:Cp K mainGlobals "isinstance"=some none)
  (q62:Cp K mainGlobals "len"=some none)
  (q63:Cp K mainGlobals "list"=some none)
  (q64:Cp K mainGlobals "min"=some none)
  (q65:Cp K mainGlobals "range"=some none)
  (q66:Cp K mainGlobals "sorted"=some none)
  (q67:Cp K mainGlobals "str"=some none)
  (q68:Cp K mainGlobals "sum"=some none)
  (q69:Cp K mainGlobals "tuple"=some none)
  (q70:Cp K mainGlobals "zip"=some none)
  (q71:Cp K mainGlobals "Node"=some (some (.ref zy)))
  (q72:AKT K zy Str.empty=true)
  (q73:AKU K zy=true)
  (q74:AKg K zy=true)
  (q75:Dy K (.ref zy) "__setattr__"=some (some (.builtin "object.__setattr__")))
  (q76:AKh K zy=true)
  (q77:HB K (.ref zy)=true)
  (q78:Cp K mainGlobals "Table"=some (some (.ref zk)))
  (q79:AKT K zk Str.empty=true)
  (q80:AKU K zk=true)
  (q81:AKg K zk=true)
  (q82:Dy K (.ref zk) "__setattr__"=some (some (.builtin "object.__setattr__")))
  (q83:AKh K zk=true)
  (q84:HB K (.ref zk)=true)
  (q85:Dy K (.ref zy) "arms"=some none)
  (q86:Dy K (.ref zy) "ways"=some none)
  (q87:Dy K (.ref zk) "groups"=some none)
  (q88:Dy K (.ref zk) "members"=some none)
  (q89:Dy K (.ref zk) "node_numbers"=some none)
  (q90:Dy K (.ref zk) "nodes"=some none)
  (q91:Dy K (.ref zk) "roots"=some none)
  (q92:Dy K (.ref zk) "words"=some none)
  (q93:Cp K mainGlobals "NoNumber"=some (some (.ref za11)))
  (q94:PySem.W.excIn K za11 ZB "ValueError.__new__"=true)
  (q95:Bc K "_law_text" ze13)
  (q96:BV K "_law_text" "_law_text" Px ze13)
  (q97:Bc K "_law_words" zf13)
  (q98:BV K "_law_words" "_law_words" Pt zf13)
  (q99:Bc K "_law_place" zg13)
  (q100:BV K "_law_place" "_law_place" Pn zg13)
  (q101:Bc K "_law_piece" zh13)
  (q102:BV K "_law_piece" "_law_piece" Pg zh13)
  (q103:Bc K "_law_kind" zi13)
  (q104:BV K "_law_kind" "_law_kind" Pa zi13)
  (q105:Bc K "_law_spot" zj13)
  (q106:BV K "_law_spot" "_law_spot" Mj zj13)
  (q107:Bc K "_law_piece_answer" zk13)
  (q108:BV K "_law_piece_answer" "_law_piece_answer" PN zk13)
  (q109:Bc K "_law_fitting" zl13)
  (q110:BV K "_law_fitting" "_law_fitting" Mi zl13)
  (q111:Bc K "_law_row" zm13)
  (q112:BV K "_law_row" "_law_row" PB zm13)
  (q113:Bc K "_law_cell" zn13)
  (q114:BV K "_law_cell" "_law_cell" Os zn13)
  (q115:Bc K "_law_row_answer" zo13)
  (q116:BV K "_law_row_answer" "_law_row_answer" Mh zo13)
  (q117:Bc K "_law_row_examples" zp13)
  (q118:BV K "_law_row_examples" "_law_row_examples" Mg zp13)
  (q119:Bc K "_law_drawn_texts" zq13)
  (q120:BV K "_law_drawn_texts" "_law_drawn_texts" LG zq13)
  (q121:Bc K "_law_made" zr13)
  (q122:BV K "_law_made" "_law_made" Mf zr13)
  (q123:Bc K "members_of" zs13)
  (q124:BV K "members_of" "members_of" OV zs13)
  (q125:Dy K (.ref zy) "__init__"=some (some (.ref zb11)))
  (q126:PySem.W.isFn K (.ref zb11)=true)
  (q127:BV K "__init__" "Node.__init__" Qy zb11)
  (q128:Dy K (.ref zk) "__init__"=some (some (.ref zc11)))
  (q129:PySem.W.isFn K (.ref zc11)=true)
  (q130:BV K "__init__" "Table.__init__" Qu zc11)
  (q131:Bc K "all_places" zt13)
  (q132:BV K "all_places" "all_places" Ql zt13)
  (q133:Bc K "kind_of" zu13)
  (q134:BV K "kind_of" "kind_of" Qf zu13)
  (q135:Bc K "is_of" zv13)
  (q136:BV K "is_of" "is_of" QV zv13)
  (q137:Bc K "spot" zw13)
  (q138:BV K "spot" "spot" Me zw13)
  (q139:Bc K "places_by_spots" zx13)
  (q140:BV K "places_by_spots" "places_by_spots" Mc zx13)
  (q141:Bc K "stand_within" zy13)
  (q142:BV K "stand_within" "stand_within" Ma zy13)
  (q143:Bc K "add_to_group" zz13)
  (q144:BV K "add_to_group" "add_to_group" Ps zz13)
  (q145:Bc K "stretches" za14)
  (q146:BV K "stretches" "stretches" Pf za14)
  (q147:Bc K "pieces_between" zb14)
  (q148:BV K "pieces_between" "pieces_between" MY zb14)
  (q149:Bc K "done_to" zc14)
  (q150:BV K "done_to" "done_to" PZ zc14)
  (q151:Bc K "groups_of" zd14)
  (q152:BV K "groups_of" "groups_of" LF zd14)
  (q153:Bc K "answers_to_try" ze14)
  (q154:BV K "answers_to_try" "answers_to_try" Ow ze14)
  (q155:Bc K "rest_behind" zf14)
  (q156:BV K "rest_behind" "rest_behind" Oq zf14)
  (q157:Bc K "new_node" zg14)
  (q158:BV K "new_node" "new_node" Om zg14)
  (q159:Bc K "node_number" zh14)
  (q160:BV K "node_number" "node_number" OZ zh14)
  (q161:Bc K "table_of" zi14)
  (q162:BV K "table_of" "table_of" KJ zi14)
  (q163:Bc K "many" zj14)
  (q164:BV K "many" "many" MU zj14)
  (q165:Bc K "_law_whole" zk14)
  (q166:BV K "_law_whole" "_law_whole" Qt zk14)
  (q167:Bc K "_law_is_place" zl14)
  (q168:BV K "_law_is_place" "_law_is_place" Qp zl14)
  (q169:Bc K "_law_is_row" zm14)
  (q170:BV K "_law_is_row" "_law_is_row" Qk zm14)
  (q171:Bc K "_law_row_fits" zn14)
  (q172:BV K "_law_row_fits" "_law_row_fits" Qe zn14)
  (q173:Bc K "arm_answers" zo14)
  (q174:BV K "arm_answers" "arm_answers" QU zo14)
  (q175:Bc K "row_from" zp14)
  (q176:BV K "row_from" "row_from" QN zp14)
  (q177:Bc K "row_at" zq14)
  (q178:BV K "row_at" "row_at" QC zq14)
  (q179:Bc K "is_tuple_of" zr14)
  (q180:BV K "is_tuple_of" "is_tuple_of" Pr zr14)
  (q181:Bc K "is_word_among" zs14)
  (q182:BV K "is_word_among" "is_word_among" Pl zs14)
  (q183:Bc K "is_nth" zt14)
  (q184:BV K "is_nth" "is_nth" Pe zt14)
  (q185:Bc K "is_place" zu14)
  (q186:BV K "is_place" "is_place" PY zu14)
  (q187:Bc K "is_stretch" zv14)
  (q188:BV K "is_stretch" "is_stretch" PM zv14)
  (q189:Bc K "may_be_used" zw14)
  (q190:BV K "may_be_used" "may_be_used" PH zw14)
  (q191:Bc K "is_row_of_its_pieces" zx14)
  (q192:BV K "is_row_of_its_pieces" "is_row_of_its_pieces" MQ zx14)
  (q193:Bc K "row_number" zy14)
  (q194:BV K "row_number" "row_number" Mt zy14)
  (q195:Bc K "_law_right" zz14)
  (q196:BV K "_law_right" "_law_right" Ol zz14)
  (q197:Bc K "law" za15)
  (q198:BV K "law" "law" KI za15) :
  ∃fd:FuncData,(∀(s:Shared) (v:Value),BindsTo s fd ⟨[v],[]⟩ [("_law_script",v)])/\∀base:Heap,K.In base->base.Ns mainGlobals mg->Dx l.prog w K mg base CX0 14 fa fd ["_law_script"] (Ja K KF):=by
 have ze3:Do K mg "DEEDS" KH:=JC (GC X G q6) (Hq q5 (by show 3<=sizeLine;decide) (.cons (EZ (by decide)) (.cons (EZ (by decide)) (.cons (EZ (by decide)) .nil))));have zb3:Do K mg "EDGES" JS:=JC (GC X G q11) (Hq q10 (by show 2<=sizeLine;decide) (.cons (EZ (by decide)) (.cons (EZ (by decide)) .nil)));have zz9:Do K mg "END" Mb:=JC (GC X G q13) II;have zc3:Do K mg "KINDS" JU:=JC (GC X G q21) (Hq q20 (by show 5<=sizeLine;decide) (.cons (EZ (by decide)) (.cons (EZ (by decide)) (.cons (EZ (by decide)) (.cons (EZ (by decide)) (.cons (EZ (by decide)) .nil))))));have zv4:Do K mg "NOWHERE" LJ:=JC (GC X G q23) II;have zd3:Do K mg "NTHS" JT:=JC (GC X G q30) (Hq q29 (by show 4<=sizeLine;decide) (.cons II (.cons II (.cons II (.cons II .nil)))));have zg3:Do K mg "ROW_LENGTHS" JR:=JC (GC X G q36) (Hq q35 (by show 3<=sizeLine;decide) (.cons II (.cons II (.cons II .nil))));have zf9:Do K mg "SIGNS_BY_KIND" Md:=JC (GC X G q55) (Hq q54 (by show 4<=sizeLine;decide) (.cons (Hq q41 (by show 2<=sizeLine;decide) (.cons (EZ (by decide)) (.cons (EZ (by decide)) .nil))) (.cons (Hq q45 (by show 2<=sizeLine;decide) (.cons (EZ (by decide)) (.cons (EZ (by decide)) .nil))) (.cons (Hq q49 (by show 2<=sizeLine;decide) (.cons (EZ (by decide)) (.cons (EZ (by decide)) .nil))) (.cons (Hq q53 (by show 2<=sizeLine;decide) (.cons (EZ (by decide)) (.cons (EZ (by decide)) .nil))) .nil)))))
 have hb:BS mg BU:=by
  intro x hx;simp only[BU,Ae,EH,or_false] at hx;rcases hx with rfl|rfl|rfl|rfl|rfl|rfl|rfl|rfl|rfl|rfl|rfl|rfl|rfl|rfl|rfl
  .exact GD X G q56
  .exact GD X G q57
  .exact GD X G q58
  .exact GD X G q59
  .exact GD X G q60
  .exact GD X G q61
  .exact GD X G q62
  .exact GD X G q63
  .exact GD X G q64
  .exact GD X G q65
  .exact GD X G q66
  .exact GD X G q67
  .exact GD X G q68
  .exact GD X G q69
  .exact GD X G q70
 have ca_Node:GZ K "Node" zy:=q71;have cl_Node:Cls K zy:=⟨q72,q73,q74,q75⟩;have ca_Table:GZ K "Table" zk:=q78;have cl_Table:Cls K zk:=⟨q79,q80,q81,q82⟩;have zg:Bg K "Node" "arms":=JG ca_Node cl_Node q85;have zc:Bg K "Node" "ways":=JG ca_Node cl_Node q86;have zw:Bg K "Table" "groups":=JG ca_Table cl_Table q87;have zz2:Bg K "Table" "members":=JG ca_Table cl_Table q88;have zm2:Bg K "Table" "node_numbers":=JG ca_Table cl_Table q89;have ze:Bg K "Table" "nodes":=JG ca_Table cl_Table q90;have zj:Bg K "Table" "roots":=JG ca_Table cl_Table q91;have za3:Bg K "Table" "words":=JG ca_Table cl_Table q92;have zp17:AHs K "NoNumber" za11:=⟨q93,q94⟩;obtain⟨zq17,zb15⟩:=q127;have zf17:=zb15.binds (ps:=["self","ways"]) λ_ _ _ _ _ _ us hl=>by obtain⟨_,_,rfl⟩:=KU hl;rfl
 obtain⟨zr17,zc15⟩:=q130;have zg17:=zc15.binds (ps:=["self","words","groups"]) λ_ _ _ _ _ _ us hl=>by obtain⟨_,_,_,rfl⟩:=Ix hl;rfl
 obtain⟨zs17,zd11⟩:=q158;have zh17:=zd11.binds (ps:=["table","length","rest"]) λ_ _ _ _ _ _ us hl=>by obtain⟨_,_,_,rfl⟩:=Ix hl;rfl
 obtain⟨zt17,zd5⟩:=q160;have zd15:=zd5.binds (ps:=["table","length","rest"]) λ_ _ _ _ _ _ us hl=>by obtain⟨_,_,_,rfl⟩:=Ix hl;rfl
 obtain⟨zu17,ze15⟩:=q198;obtain⟨_,_,zi17,zj17,zk17,zl17,zm17,zn17,_,rfl,_,_⟩:=id ze15.ex;have e0:=hfa.symm.trans (GC X G q197);cases e0;refine⟨AJq "law" "law" (Jq KI) (Gr KI) (Ab KI) .none zi17 zj17 zk17 zl17 zm17 zn17,λs v=>.of_eq rfl,λbase _ _=>?_⟩;have fq:=@AGO l.prog w K mg base h X G;have zw2:=fq zm rfl q95 q96 Ua (AAi (k:=0) hb) (by wtm_at "b2");have zv8:=fq zi1 rfl q97 q98 UY (AAg (k:=1) hb zw2.mn) (by wtm_at "b1");have zj4:=fq zc1 rfl q99 q100 UW (AAe (k:=0) hb) (by wtm_at "b1");have zr8:=fq zj1 rfl q101 q102 UU (AAc (k:=1) hb zj4.mn) (by wtm_at "b2");have zp8:=fq zk1 rfl q103 q104 UR (AAT (k:=0) hb) (by wtm_at "b1");have zl4:=fq zx rfl q105 q106 UP (AAR (k:=1) hb zp8.mn) (by wtm_at "b2");have zx2:=fq zf rfl q107 q108 UN (AAP (k:=2) hb zl4.mn) (by wtm_at "b2");have zt8:=fq zl1 rfl q109 q110 UL (AAO (k:=3) hb zr8.mn zx2.mn) (by wtm_at "b3");have zw8:=fq zm1 rfl q111 q112 UJ (AAM (k:=4) hb zt8.mn) (by wtm_at "b3");have zu:=fq za rfl q113 q114 UH (AAK (k:=0) hb) (by wtm_at "b2");have zy2:=fq zo rfl q115 q116 UF (AAI (k:=3) hb zx2.mn) (by wtm_at "b2");have zx8:=fq zn1 rfl q117 q118 UD (AAG (k:=4) hb zy2.mn) (by wtm_at "b3");have zy8:=fq zo1 rfl q119 q120 UB (AAE (k:=1) hb zw2.mn zu.mn) (by wtm_at "b3");have zy10:=fq zp1 rfl q121 q122 Tz (AAC (k:=5) hb zv8.mn zw8.mn zu.mn zx8.mn zy8.mn) (by wtm_at "b1");have zc9:=fq zd1 rfl q123 q124 Tw (AAA (k:=0) hb) (by wtm_at "b1");have zr2:GY l.prog w K mg base 2 "Node" zh:=YH zb15 Tu (λcdv A outer s H E hr=>Zy hb zg zc cdv _ A outer s H E hr) zf17 (GC X G q71) ca_Node ⟨q76,q125,q126,q77⟩;have za10:GY l.prog w K mg base 4 "Table" zq1:=YH zc15 Ts (λcdv A outer s H E hr=>Zw hb zw zz2 zm2 ze zj za3 (zc9.mono (by decide:1<=2)) (zr2.mono (by decide:2<=2)) cdv _ A outer s H E hr) zg17 (GC X G q78) ca_Table ⟨q83,q128,q129,q84⟩;have zj9:=fq zr1 rfl q131 q132 Tq (Zu (k:=0) hb zb3 zc3 zd3) (by wtm_at "b0");have zh9:=fq zs1 rfl q133 q134 To (Zs (k:=0) hb zf9) (by wtm_at "b1");have zi9:=fq zt1 rfl q135 q136 Tl (Zq (k:=1) hb zh9.mn) (by wtm_at "b2");have zk9:=fq zz rfl q137 q138 Tj (Zo (k:=2) hb zi9.mn) (by wtm_at "b2");have zp9:=fq zu1 rfl q139 q140 Uk (AAs (k:=3) hb zj9.mn zk9.mn) (by wtm_at "b1");have zm9:=fq zv1 rfl q141 q142 Ui (AAq (k:=0) hb) (by wtm_at "b2");have zu4:=fq ze1 rfl q143 q144 Ug (AAo (k:=1) hb zm9.mn) (by wtm_at "b4");have zq9:=fq zw1 rfl q145 q146 Ue (AAm (k:=0) hb) (by wtm_at "b3");have zr9:=fq zx1 rfl q147 q148 Ub (AAk (k:=0) hb) (by wtm_at "b3");have zs9:=fq zy1 rfl q149 q150 UZ (AAh (k:=0) hb) (by wtm_at "b2");have zb10:=fq zz1 rfl q151 q152 UX (AAf (k:=4) hb ze3 zp9.mn zu4.mn zq9.mn zr9.mn zs9.mn) (by wtm_at "b3");have zw9:=fq za2 rfl q153 q154 UV (AAd (k:=0) hb zw) (by wtm_at "b3");have zx9:=fq zb2 rfl q155 q156 UT (AAb (k:=0) hb) (by wtm_at "b2")
 have zo17:∀n,Ao l.prog w K mg base (2+2*n) "node_number" (Ij n):=λn=>by
  induction n with
  |zero=>exact fnd_none zd15 (GC X G q159) zd5.kp
  |succ n ih =>
   have FI:Ao l.prog w K mg base (2+2*n+1) "new_node" (Mq (Ij n)):=Sj zd11 UQ (λcdv A outer s H E hr=>AAS hb zv4 zg zc zw ze (zr2.mono (by omega:2<=2+2*n)) (zw9.mono (by omega:1<=2+2*n)) (zx9.mono (by omega:1<=2+2*n)) ih cdv _ A outer s H E hr) zh17 (GC X G q157) zd11.kp;exact Sj zd5 UO (λcdv A outer s H E hr=>AAQ hb zz9 zm2 FI cdv _ A outer s H E hr) zd15 (GC X G q159) zd5.kp
 have zq3:Ao l.prog w K mg base 12 "node_number" zt:=zo17 5;have zb5:=fq zf1 rfl q161 q162 UM (AAN (k:=12) hb zg3 zj za10.mn zb10.mn zq3.mn) (by wtm_at "b2");have zc5:=fq zg1 rfl q163 q164 UK (AAL (k:=0) hb zc ze zj) (by wtm_at "b1");have zi3:=fq zp rfl q165 q166 UI (AAJ (k:=0) hb) (by wtm_at "b1");have zx4:=fq zh1 rfl q167 q168 UG (AAH (k:=0) hb) (by wtm_at "b1");have zg10:=fq zc2 rfl q169 q170 UE (AAF (k:=1) hb zx4.mn) (by wtm_at "b2");have zj3:=fq zq rfl q171 q172 UC (AAD (k:=4) hb zy2.mn zg10.mn) (by wtm_at "b3");have zj10:=fq zd2 rfl q173 q174 UA (AAB (k:=0) hb zg) (by wtm_at "b2");have zl10:=fq ze2 rfl q175 q176 Tx (Zz (k:=1) hb zg zc zw ze zj10.mn) (by wtm_at "b3");have zs2:=fq zi rfl q177 q178 Tv (Zx (k:=2) hb zc ze zj zl10.mn) (by wtm_at "b2");have zh3:=fq zr rfl q179 q180 Tt (Zv (k:=0) hb) (by wtm_at "b2");have zb1:=fq zb rfl q181 q182 Tr (Zt (k:=0) hb) (by wtm_at "b2");have zq10:=fq zf2 rfl q183 q184 Tp (Zr (k:=0) hb zd3) (by wtm_at "b1");have zy4:=fq za1 rfl q185 q186 Tn (Zp (k:=1) hb zb3 zc3 zb1.mn zq10.mn) (by wtm_at "b1");have zt10:=fq zg2 rfl q187 q188 Tk (Zn (k:=2) hb ze3 zh3.mn zb1.mn zy4.mn) (by wtm_at "b1");have zu10:=fq zh2 rfl q189 q190 Ti (AAr (k:=3) hb za3 zh3.mn zb1.mn zt10.mn) (by wtm_at "b2");have zv10:=fq zi2 rfl q191 q192 Uj (AAp (k:=4) hb zg3 zu10.mn) (by wtm_at "b2");have zx10:=fq zj2 rfl q193 q194 Uh (AAn (k:=5) hb zg zc zz2 ze zj zv10.mn) (by wtm_at "b2");have zz10:=fq zk2 rfl q195 q196 Uf (AAl (k:=6) hb zi3.mn zj3.mn zs2.mn zx10.mn) (by wtm_at "b4");exact Sk ze15 Ud KF _ (λ_ _ _ h=>RV h) (λcdv A outer s H E hr=>AAj hb (zu.mono (by decide:1<=13)) (zy10.mono (by decide:6<=13)) (zb5.mono (by decide:13<=13)) (zc5.mono (by decide:1<=13)) (zi3.mono (by decide:1<=13)) (zj3.mono (by decide:5<=13)) (zs2.mono (by decide:3<=13)) (zz10.mono (by decide:7<=13)) cdv _ A outer s H E hr) (λ_ _ _ _ h=>RU h)
end L3
open PySem PySem.W PyProof.Rows
namespace PySem.Challenge.cw_byexample_k31_row_told_fits_holds
def tw2082920051018378858:=()
def tw16935161353104504712:=()
def tw17033527784143926698:=()
def tw10907869510486436876:=()
def tw3625147115802389192:=()
def tw331266892901602105:=()
def tw14265567246083985166:=()
def tw11689880591565866885:=()
def tw10406628989433538457:=()
def tw16545364782752283697:=()
def tw3623221671628836354:=()
def tw1846260968283126239:=()
def tw2121087778481173334:=()
def tw7936010405384297695:=()
def tw4800142869276164687:=()
def tw12125102710060063480:=()
def tw15392082700640393105:=()
def tw5620914369014301169:=()
def tw14471046933800464969:=()
def tw16487817768381063188:=()
def tw8843798764292754426:=()
def tw1956271745118965442:=()
def tw11693713771182921616:=()
def tw11720134851601757716:=()
def tw5614934895714823600:=()
def tw18336257045311024668:=()
def tw9361724183851832140:=()
def tw7868603391837261824:=()
def tw10719334640023575894:=()
def tw11507707353730779775:=()
def tw9864199006946930065:=()
def tw5154301014368875392:=()
def tw7396608650536465944:=()
def tw14968821951799736662:=()
def tw3547972640466173850:=()
def tw8288572878730501115:=()
def tw12021495153148877315:=()
def tw6127303093921585499:=()
def tw5567201771482297587:=()
def tw9843974202890015238:=()
def tw5846835448981677953:=()
def tw2932160122817911318:=()
def tw6385673338376210260:=()
def tw2325628402100593101:=()
def tw6909375976377219019:=()
def tw14976607222754746612:=()
def tw18317602698731657454:=()
def tw8059417831471435395:=()
def tw15296853743239379027:=()
def tw16496335561032496297:=()
def tw2844377760970032888:=()
def tw12418970915443549950:=()
def tw18411389366140225511:=()
def tw5911837711345566068:=()
def tw11898530335008264942:=()
def tw17482368812912118192:=()
def tw6595428011152663386:=()
def tw13297070423029448201:=()
def tw3184506053995071377:=()
def tw18240500308637316802:=()
def tw6557949648364323542:=()
def tw4585381476857913344:=()
def tw10354160271349088482:=()
def tw16810991290546339108:=()
def tw499883654387776439:=()
def tw12949181041868114213:=()
def tw4128468754906928092:=()
def tw18417329906880545331:=()
def tw8334583161750651959:=()
def tw12786816224483601655:=()
def tw14433657003335544174:=()
def tw9732867943750009754:=()
def tw8640702387318427238:=()
def tw16333441541475980662:=()
def tw10484844593638185591:=()
def tw8060712570804843689:=()
def tw18317393230566892169:=()
def tw11215675930750350262:=()
def tw14784831766340506774:=()
def tw1340009815969194484:=()
def tw2392687947552627938:=()
def tw18026382389519475128:=()
def tw4539127719845857705:=()
def tw15847824497882766886:=()
def tw3279602218029589503:=()
def tw18186533180258489596:=()
def tw1019374191087128769:=()
def tw8054620300200666054:=()
def tw15420897744613119737:=()
def tw10385834508349501296:=()
def tw1439785525132405415:=()
def tw1440453645468161494:=()
def tw8702155258580196376:=()
def tw8765702198407086075:=()
def tw54374001967997778:=()
def tw957623465546454283:=()
def tw17257977203370470606:=()
def tw392580716254430043:=()
def tw8571936274169472642:=()
def tw15398141359924314121:=()
def tw5278143416578424226:=()
def tw9902591667952589073:=()
def tw4419689194876492229:=()
def tw2693729818422877170:=()
def tw981759428613003698:=()
def tw5382451007158908374:=()
def tw932877851705155809:=()
def tw9679975058185422875:=()
def tw9661556137417152113:=()
def tw16875538804240120497:=()
def tw7549833868110728449:=()
def tw6651064357589924291:=()
def tw6003696473862400637:=()
def tw17913479077403883520:=()
def tw10600452337395498394:=()
def tw11527906441172577148:=()
def tw11481130040228695656:=()
def tw17183275877888207899:=()
def tw1969745572682638160:=()
def tw7578118816661462151:=()
def tw527630287483850301:=()
def tw18095608539067682667:=()
def tw6456747718998717221:=()
def tw14976141472010392995:=()
def tw8418105969545784451:=()
def tw5449687312721847881:=()
def tw15720544190642874465:=()
def tw13214158487394881315:=()
def tw2774230009583129059:=()
def tw12663202426903694350:=()
def tw15158472017922879321:=()
def tw7947053060881482571:=()
def tw14750402644371553117:=()
def tw17320189626324277847:=()
def tw11686384519586142618:=()
def tw3094264590662265131:=()
def tw3580486118132948269:=()
def tw3386245911125535670:=()
def tw16801015365257914297:=()
def tw15690000160084156898:=()
def tw14171563838949336451:=()
def tw9145891109425984200:=()
def tw12897947385559800176:=()
def tw3390419242286704630:=()
def tw14211143320368351826:=()
def tw9285244183556777330:=()
def tw3366620566335177691:=()
def tw5768733578550927338:=()
def tw6485378790291969480:=()
def tw8513710130250282960:=()
def tw12004006870373493646:=()
def tw6512478777100711901:=()
def tw4130610031538358805:=()
def tw15518285921199918675:=()
def tw16677838692626730551:=()
def tw8891578155791082460:=()
def tw4239623831484209660:=()
def tw12407539375164738197:=()
def tw11305305073743471284:=()
def tw9242591148137161024:=()
def tw11331549802362762604:=()
def tw13274456576042724398:=()
def tw4308870154348918608:=()
def tw17231179641302149496:=()
def tw16920951818580327636:=()
def tw18300379945922617806:=()
def tw11902039382305858085:=()
def tw6400298888457871506:=()
def tw11519708418674235739:=()
def tw14121413609717304572:=()
def tw12583867307034724699:=()
def tw3429653869390722791:=()
def tw633412798797014608:=()
def tw16742292360816291127:=()
def tw14316926265788594429:=()
def tw17867560903886520474:=()
def tw11188383627067331303:=()
def tw12212921292579501715:=()
def tw5523559206048997085:=()
def tw1906985757731563712:=()
def tw10746035819382344626:=()
def tw15670399506312265289:=()
def tw10571247337553436915:=()
def tw2875680796593369836:=()
def tw7536692530923596284:=()
def tw16054260016639956333:=()
def tw3991313279898540063:=()
def tw11010714699878421938:=()
def tw12046267123950308507:=()
def tw16777202207207335803:=()
def tw16673395354159090640:=()
def tw6899953260126923676:=()
def tw8255929488261819651:=()
def tw7176970846413677315:=()
def tw17935870144890372460:=()
def tw3333081910442938337:=()
def tw1089065145192004005:=()
def tw14077060771683980520:=()
def tw17307431364001990697:=()
def tw10373492895777150096:=()
def tw16534560854150955489:=()
def tw15295878039232505037:=()
def tw5821272497036919911:=()
def tw10903129655158997057:=()
def tw62118101339214186:=()
def tw1792376760675468840:=()
def tw16890505522795231295:=()
def tw2412687412777215252:=()
def tw10378026955860306517:=()
def tw3730993415806221914:=()
def tw12116386024435668555:=()
def tw4358721798292673098:=()
def tw7216427050484114577:=()
def tw337445718615898160:=()
def tw8168692182832723278:=()
def tw10488390426216660721:=()
def tw15542935810811885767:=()
def tw16553679875090325025:=()
def tw5422384551416799707:=()
def tw13865490788439174318:=()
def tw29664878216374153:=()
def tw17208987641601342913:=()
def tw241476973207257727:=()
def tw12755664039078145651:=()
def tw627441577796765146:=()
def tw8776147276979923891:=()
def tw5627867803708580217:=()
def tw1930464966804395359:=()
def tw1167599181869793875:=()
def tw3397725998900124564:=()
def tw1556985997840426418:=()
def tw16036841126393436996:=()
def tw1535973242556423530:=()
def tw13446931090045038295:=()
def tw6741328001362005936:=()
def tw1554238199208116255:=()
def tw12341391121934905883:=()
def tw1939998992015455140:=()
def tw1119112118489184628:=()
def tw12485158933360538495:=()
def tw14909273028511542530:=()
def tw6080707046804540664:=()
def tw10493977331981473525:=()
def tw16025001177656933435:=()
def tw1151475388872657149:=()
def tw9403039672247287270:=()
def tw15710510646423140916:=()
def tw2346941092119641093:=()
def tw6839003892405985797:=()
def tw14727742879606033908:=()
def tw5883663979626559084:=()
def tw4473602368200851644:=()
def tw10948721109909631594:=()
def tw9379488159069197374:=()
def tw6148326739429868801:=()
def tw15232020994502446274:=()
def tw8455865320578708500:=()
def tw5357229916002944478:=()
def tw4924853734157585832:=()
def tw7967816228630047508:=()
def tw11611449252349609426:=()
def tw4632562966228083760:=()
def tw11707288691996259502:=()
def tw14615318714338584952:=()
def tw10301235327223120782:=()
def tw1753330267408282870:=()
def tw13331600117130435208:=()
end PySem.Challenge.cw_byexample_k31_row_told_fits_holds
set_option Elab.async true in
set_option maxRecDepth 100000 in
set_option maxHeartbeats 0 in
theorem PySem.Challenge.cw_byexample_k31_row_told_fits_holds : PySem.Challenge.rw_byexample_k31_row_told_fits.Holds := by
 w_on;o_law;k_head;(case hw=>w_witness2)
 k_fill
 refine L3.walk_f (l:=PySem.Challenge.rw_byexample_k31_row_told_fits) (n:=63) (k:=14) (x:="_law_script") (G:=L3.KF) rfl (by decide) rfl ⟨rfl,by decide,by decide⟩ (λw h Y=>PySem.W.kIn_of Y) ?F L3.law_true
 case F =>
  intro w mg fa h KX G hmg
  refine' L3.AHb KX G hmg ?_ ?_ ?_ ?_ ?_ ?_ ?_ ?_ ?_ ?_ ?_ ?_ ?_ ?_ ?_ ?_ ?_ ?_ ?_ ?_ ?_ ?_ ?_ ?_ ?_ ?_ ?_ ?_ ?_ ?_ ?_ ?_ ?_ ?_ ?_ ?_ ?_ ?_ ?_ ?_ ?_ ?_ ?_ ?_ ?_ ?_ ?_ ?_ ?_ ?_ ?_ ?_ ?_ ?_ ?_ ?_ ?_ ?_ ?_ ?_ ?_ ?_ ?_ ?_ ?_ ?_ ?_ ?_ ?_ ?_ ?_ ?_ ?_ ?_ ?_ ?_ ?_ ?_ ?_ ?_ ?_ ?_ ?_ ?_ ?_ ?_ ?_ ?_ ?_ ?_ ?_ ?_ ?_ ?_ ?_ ?_ ?_ ?_ ?_ ?_ ?_ ?_ ?_ ?_ ?_ ?_ ?_ ?_ ?_ ?_ ?_ ?_ ?_ ?_ ?_ ?_ ?_ ?_ ?_ ?_ ?_ ?_ ?_ ?_ ?_ ?_ ?_ ?_ ?_ ?_ ?_ ?_ ?_ ?_ ?_ ?_ ?_ ?_ ?_ ?_ ?_ ?_ ?_ ?_ ?_ ?_ ?_ ?_ ?_ ?_ ?_ ?_ ?_ ?_ ?_ ?_ ?_ ?_ ?_ ?_ ?_
  all_goals first|k_is|(unfold L3.Bc;k_is)|(refine' L3.AGN ?l ?c ?k;(case l=>k_is);(case c=>k_is);(case k=>k_is))|k_exc|kernel_rfl|rfl|decide|skip
