import PyProof.Rows.All
import Wide.All
import OpenK.AllK
import Wide.FinOn
import Lean
import PyProof.EqAt
import PyProof.EqKinds
import PyProof.TupleCall
import PyProof.NeKinds
import KE.KIntText
import KE.KDictList
import PyProof.Rows.SortWalk
import KE.KSortTup
import PySem.Challenge.RW_byexample_k33_no_number
set_option compiler.extract_closed false
local macro_rules | `(command| theorem $i:declId $s:declSig $v:declVal) => do if i.raw.getPos?.isNone || (`PySem).isPrefixOf i.raw[0].getId then Lean.Macro.throwUnsupported else return (← `(command| theorem $i:declId $s:declSig $v:declVal)).raw.rewriteBottomUp fun s => s.setInfo .none
local macro_rules | `(command| def $i:declId $s:optDeclSig $v:declVal) => do return (← `(command| noncomputable def $i:declId $s:optDeclSig $v:declVal)).raw.rewriteBottomUp fun s => s.setInfo .none | `(command| abbrev $i:declId $s:optDeclSig $v:declVal) => `(command| noncomputable abbrev $i:declId $s:optDeclSig $v:declVal)
local macro_rules | `(tactic| omega) => do let f := fun (s : String) (t : Lean.TSyntax `tactic) (g : Lean.Ident → Lean.MacroM (Lean.TSyntax `term)) => (s.splitOn " ").foldr (fun n t => do let t ← t; let a ← g (Lean.mkCIdent (.str `Nat n)); `(tactic| first | exact $a | $t:tactic)) (pure t); let t ← `(tactic| fail); let t ← f "le_trans lt_of_le_of_lt" t fun c => `($c (m := OfNat.ofNat _) (by assumption) (by decide)); let t ← f "le_of_lt ne_of_lt ne_of_gt le_of_eq lt_succ_of_le succ_le_of_lt" t fun c => `($c (by assumption)); let t ← f "le_refl le_add_right le_add_left zero_le succ_pos" t fun c => `($c ..); `(tactic| first | with_reducible (first | assumption | $t:tactic) | omega +splitMinMax)
set_option Elab.async false
set_option linter.all false
set_option maxRecDepth 100000
open PySem.W renaming Frag → AM, nsIn → Bw, findIn → Cw, mg_of → EC, mg_none_of → FR, keepIn → GH, kia_one → GD, emptyDict → AIn, fnOf → AIo, instObj → AIx, mroIn → AIy, kitOne → AIz, excIn → AI4, kitAny → AJP, plainGet → AJV, hasDictIn → AJW, hideAll → AJc, plainOver → AJf, makesIn → AJg, callWith_K → AJh, codeIn → AJk, hideAll_get → AJs, of_hideAll → AJt
open Option renaming bind_some → AS, bind_eq_some_iff → GI, map_eq_some_iff → AI5, map_some → AJY, isSome_iff_exists → AJi
open List renaming mem_cons → Ac, length_map → Ao, map_cons → Ap, prefix_refl → As, prefix_append → BB, getElem?_map → BD, mem_cons_of_mem → BK, mem_cons_self → BN, getElem?_eq_some_iff → BQ, mem_map → BV, size_toArray → By, mem_of_getElem? → CY, length_append → Cz, mem_append → DE, map_map → DF, all_eq_true → De, mem_range → Dd, mem_map_of_mem → Dp, getElem?_set_ne → Dw, length_cons → EO, not_mem_nil → EN, map_append → Eo, getElem?_append_left → FT, find?_cons → Fq, lookup → GK, sum_cons → GJ, take_length → Gj, append_nil → HS, length_take → AIe, mem_singleton → AIf, map_congr_left → AIi, mem_append_right → AIj, nodup_cons → AIk, replicate → AIl, getElem?_set_self → AIm, any_cons → AIq, nodup_nil → AIr, getElem?_eq_none → AIw, getElem?_append_right → AI0, all_cons → AI1, nodup_append → AI2, take_add_one → AI7, flatMap_cons → AI8, length_set → AJD, getElem?_range → AJE, mem_flatMap → AJG, forIn_cons → AJH, filterMap_cons → AJI, map_nil → AJK, drop_zero → AJL, foldl_cons → AJM, length_eq_zero_iff → AJN, take_of_length_le → AJO, filterMap → AJQ, countP_cons → AJR, ext_getElem? → AJT, mem_filterMap → AJU, getElem_of_mem → AJX, mem_of_mem_take → AJZ, flatMap_append → AJa, append_assoc → AJb, mem_filter → AJd, getElem?_replicate → AJj, drop_length → AJl, lookup_cons → AJm, take_append_drop → AJn, find?_eq_none → AJo, length_range → AJq, range_succ → AJr, length_replicate → AJu, drop_eq_getElem_cons → AJy, getElem?_eq_none_iff → AJ3, mem_of_find?_eq_some → AJ4, getElem?_of_mem → AJ5
open Nat renaming le_refl → Ai, ne_of_lt → Bi, zero_add → Ca, le_trans → Ch, lt_of_lt_of_le → Cy, zero_le → FS, ne_of_gt → Gi, lt_irrefl → HR, add_mul → AIs, mul_le_mul_right → AI3, le_add_right → AI6, mul_le_mul → AI9, add_assoc → AJA, le_of_eq → AJB, le_succ → AJC
open Bool renaming and_eq_true → CA, false_ne_true → Cc, noConfusion → Gk, false_eq_true → AJF, eq_iff_iff → AJJ, eq_false_iff → AJS
open PySem.F renaming plainAttrs_list → HQ, slot_list_append → AIt, type_list_append → AIu, plainAttrs_str → AIv, slot_zip_next → AJp, slot_tuple_add → AJv, entry_tuple_add → AJw, args_tuple_add_2 → AJx, slot_dict_setdefault → AJ0, plainAttrs_dict → AJ2, slot_list_extend → AJ6, type_list_extend → AJ7, slot_dict_itemiterator_iter → AJ8, slot_tuple_iterator_next → AJ9
open Int renaming emod_nonneg → AIg, emod_lt_of_pos → AIh, toNat_natCast → AIp
open Array renaming length_toList → AJe, getElem?_eq_some_iff → AJz, getElem?_eq_none → AJ1
open PySem renaming wpAny_bind → AH, wpAny_pure → AR, wpAny_rule → AKA, wpAny_call_entry → Gh, wpAny_seqItems → AKB, wpAny_mono → EM, wpAny_truthy_bool → AKC, wpAny_execs_nil → AKD, wpAny_holding → Do, wpAny_passesOwn → AKE, wpAny_Call_Name_kw → AKF, wpAny_field → FA, wpAny_callSpecial?_slot → AKG, wpAny_newObj_type → AKH, wpAny_getItem_str_slice → AKI, wpAny_notOrdered_dict → AKJ, wpAny_dictEntries → AKK, wpAny_typeNameOfWhole_keyiter → AKL, wpAny_typeNameOfWhole_itemiter → AKM, wpAny_setField_rec → AKN
abbrev AKO:=PySem.Str->Option PySem.Value
abbrev AKP:=PySem.Value->PySem.Shared->Prop
noncomputable section
namespace L2
open PySem PySem.Spec PyProof.Rows
abbrev Key:=Sum Int Str
def JW:Key->Value->Bool
 |.inl k,v=>Value.isInt k v
 |.inr x,v=>Value.isStrOf x v
def KZ(w:World):Key->Int
 |.inl k=>hashInt k
 |.inr x=>hashStr w x
theorem FD:∀{k:Key} {v:Value},JW k v=true->(∃i t,k=Sum.inl i/\v=Value.int i t)\/(∃x t,k=Sum.inr x/\v=Value.str x t)
 |.inl i,v,h=>by
  obtain⟨t,e⟩:=Value.isInt_shape (k:=i) (v:=v) h;exact .inl ⟨i,t,rfl,e⟩
 |.inr x,v,h=>by
  obtain⟨t,e⟩:=Value.isStrOf_shape (x:=x) (v:=v) h;exact .inr ⟨x,t,rfl,e⟩
theorem AEZ(i:Int)(t:Tok):JW (.inl i) (.int i t)=true:=by simp[JW,Value.isInt]
theorem AEY(x:Str)(t:Tok):JW (.inr x) (.str x t)=true:=by simp[JW,Value.isStrOf]
theorem AEX(a b:Int):decide ((Sum.inl a:Key)=Sum.inl b)=(a == b):=by
 by_cases e:a=b
 .subst e;simp
 .have h:¬(Sum.inl a:Key)=Sum.inl b:=λq=>e (Sum.inl.inj q);rw[decide_eq_false h];exact(beq_eq_false_iff_ne.mpr e).symm
theorem AEU(a b:Str):decide ((Sum.inr a:Key)=Sum.inr b)=decide (a=b):=by
 by_cases e:a=b
 .subst e;simp
 .have h:¬(Sum.inr a:Key)=Sum.inr b:=λq=>e (Sum.inr.inj q);rw[decide_eq_false h,decide_eq_false e]
theorem AEW(a:Int)(b:Str):decide ((Sum.inl a:Key)=Sum.inr b)=false:=decide_eq_false (λq=>nomatch q)
theorem AEV(a:Str)(b:Int):decide ((Sum.inr a:Key)=Sum.inl b)=false:=decide_eq_false (λq=>nomatch q)
def Nb(prog:Program)(w:World):PySem.KeyKind prog w Key where
 is:=JW
 hash:=KZ w
 inj:=λv a b ha hb=>by
  rcases FD ha with⟨i,t,rfl,rfl⟩|⟨x,t,rfl,rfl⟩
  .rcases FD hb with⟨j,u,rfl,e⟩|⟨y,u,rfl,e⟩
   .injection e with e1 _;rw[e1]
   .exact nomatch e
  .rcases FD hb with⟨j,u,rfl,e⟩|⟨y,u,rfl,e⟩
   .exact nomatch e
   .injection e with e1 _;rw[e1]
 byValue:=λk v h=>by
  rcases FD h with⟨i,t,rfl,rfl⟩|⟨x,t,rfl,rfl⟩ <;> rfl
 pyHash:=λhv h=>by
  rcases FD hv with⟨i,t,rfl,rfl⟩|⟨x,t,rfl,rfl⟩
  .exact wpAny_pyHash_int h
  .exact wpAny_pyHash_str h
 eqBool:=λhu hv h=>by
  rcases FD hu with⟨i,t,rfl,rfl⟩|⟨x,t,rfl,rfl⟩
  .rcases FD hv with⟨j,u,rfl,rfl⟩|⟨y,u,rfl,rfl⟩
   .rw[AEX] at h;exact wpAny_eqBool_int h
   .rw[AEW] at h;exact SeqAt.EqAt.int_str i t y u _ _ _ _ h
  .rcases FD hv with⟨j,u,rfl,rfl⟩|⟨y,u,rfl,rfl⟩
   .rw[AEV] at h;exact SeqAt.EqAt.str_int x t j u _ _ _ _ h
   .rw[AEU] at h;exact wpAny_eqBool_str h
 «strs»:=λk x t v h=>by
  rcases FD h with⟨i,u,rfl,e⟩|⟨y,u,rfl,e⟩
  .exact nomatch e
  .injection e with e1 _
   subst e1;cases v <;> rfl
inductive V where
 |non|bl (b:Bool)|int (i:Int)|str (x:Str)|byt (b:Array UInt8)|flt (b:UInt64)|ref (a:Addr)|ty (n:String)
 deriving DecidableEq
def Ab:V->Value->Prop
 |.non,u=>u=Value.none
 |.bl b,u=>u=Value.bool b
 |.int i,u=>∃t,u=Value.int i t
 |.str x,u=>∃t,u=Value.str x t
 |.byt b,u=>∃t,u=Value.bytes b t
 |.flt b,u=>∃t,u=Value.float b t
 |.ref a,u=>u=Value.ref a
 |.ty n,u=>u=Value.type n
abbrev Ae:List V->List Value->Prop:=Paired Ab
theorem Ae.length{xs:List V}{us:List Value}(r:Ae xs us):xs.length=us.length:=Paired.length r
theorem Ae.get:∀{xs:List V} {us:List Value} {i:Nat} {x:V},Ae xs us->xs[i]?=some x->∃u,us[i]?=some u/\Ab x u
 |_,_,_,_,.nil,e=>by simp at e
 |_,_,0,_,.cons r _,e=>by simp at e;subst e;exact⟨_,rfl,r⟩
 |_,_,i+1,x,.cons _ t,e=>by
  obtain⟨u,h1,h2⟩:=Ae.get (i:=i) (x:=x) t (by simpa using e);exact⟨u,by simpa using h1,h2⟩
theorem Ae.set{x:V}{u:Value}(r:Ab x u):∀{xs:List V} {us:List Value} (i:Nat),Ae xs us->Ae (xs.set i x) (us.set i u)
 |_,_,_,.nil=>.nil
 |_,_,0,.cons _ t=>.cons r t
 |_,_,i+1,.cons q t=>.cons q (Ae.set r i t)
theorem Ae.append:∀{xs ys:List V} {us ws:List Value},Ae xs us->Ae ys ws->Ae (xs++ys) (us++ws)
 |_,_,_,_,.nil,s=>s
 |_,_,_,_,.cons r t,s=>.cons r (Ae.append t s)
theorem Ae.take:∀{xs:List V} {us:List Value} (n:Nat),Ae xs us->Ae (xs.take n) (us.take n)
 |_,_,0,_=>.nil
 |_,_,_+1,.nil=>.nil
 |_,_,n+1,.cons r t=>.cons r (Ae.take n t)
theorem Ae.drop:∀{xs:List V} {us:List Value} (n:Nat),Ae xs us->Ae (xs.drop n) (us.drop n)
 |_,_,0,r=>r
 |_,_,_+1,.nil=>.nil
 |_,_,n+1,.cons _ t=>Ae.drop n t
def Fy:Option V->Option Value->Prop
 |some v,some u=>Ab v u
 |none,none=>True
 |_,_=>False
def KV{κ:Type}:List (κ×V)->List (κ×Value)->Prop:=Paired λ(p:κ×V) (q:κ×Value)=>p.1=q.1/\Ab p.2 q.2
def kV:Key->V
 |.inl i=>.int i
 |.inr x=>.str x
def Ku(M:Model)(A:Around)(h:Heap)(v:Value)(q:Int×Nat):Prop:=∀(E:AKP) (s:Shared) (Q:Int->Shared->Prop),s.heap=h->Q q.1 {s with toks:=s.toks+q.2}->wpAny M A (pyHash v) Q E s
section
variable {prog:Program}{w:World}{A:Around}{E:AKP}{s:Shared}
theorem UM{a:Addr}{its:List Value}{qs:List (Int×Nat)}(hu:A.units<cLine)(t:s.heap.IsTuple a its.toArray)(each:Paired (Ku (model prog w) A.in1 s.heap) its qs) :
  Ku (model prog w) A s.heap (.ref a) (reduceHash (Builtin.Tuple.tupleHashOf (qs.map (·.1))),(qs.map (·.2)).sum+1):=λE s' Q e0 fin=>by
 have ty:s'.TypeIs (.ref a) "tuple":=by obtain⟨o,g,c,_⟩:=t;exact⟨o,by rw[e0];exact g,c⟩
 have own:∀{R:AKP} {F:AKP},R (.int (Builtin.Tuple.tupleHashOf (qs.map (·.1))) (s'.toks+(qs.map (·.2)).sum)) {s' with toks:=s'.toks+(qs.map (·.2)).sum+1}->wpAny (model prog w) A.in1 (Builtin.«tuple.__hash__» ⟨[.ref a],[]⟩) (λfi s2=>∃v,fi=PySem.Fin.done (Flow.ret v)/\R v s2) F s':=λ{R F} k=>by
  obtain⟨o,g,_,n,dat⟩:=t;show wpAny _ _ (Builtin.Tuple.tupleItemsOf (.ref a) >>= _) _ F s';refine AH (wpAny_tupleItemsOf (by rw[e0];exact g) dat (AH ?_))
  have walk:∀{l:List Value} {m:List (Int×Nat)} (p:Paired (Ku (model prog w) A.in1 s.heap) l m) (acc:Array Int) (u:Nat) {G:Array Int->Shared->Prop},
    G (acc++(m.map (·.1)).toArray) {s' with toks:=u+(m.map (·.2)).sum}->wpAny (model prog w) A.in1 (forIn l acc λx hs=>do let __do_lift <-pyHash x;pure (ForInStep.yield (hs.push __do_lift))) G F {s' with toks:=u}:=by
   intro l m p
   induction p with
   |nil=>intro acc u G hG;exact AR (by simpa using hG)
   |@cons x q l m hx _ ih =>
    intro acc u G hG;rw[AJH];refine AH (AH (hx F {s' with toks:=u} _ e0 (AR ?_)));refine ih (acc.push q.1) (u+q.2) ?_;simpa[AJA] using hG
  have go:=walk each #[] s'.toks (G:=λb s2=>wpAny (model prog w) A.in1 (retInt (Builtin.Tuple.tupleHashOf b.toList)) (λfi s2=>∃v,fi=PySem.Fin.done (Flow.ret v)/\R v s2) F s2) (by
   have e9:((#[]:Array Int)++(qs.map (·.1)).toArray).toList=qs.map (·.1):=by simp
   rw[e9];refine wpAny_ret_mkInt ?_
   exact k)
  simpa using go
 have turn:∀{i:Int} {u:Nat},Q (reduceHash i) {s' with toks:=u}->wpAny (model prog w) A (pyHashByItsType.reduced i) Q E {s' with toks:=u}:=λ{i u} hQ=>by
  unfold reduceHash at hQ
  show wpAny _ _ (if (decide (-(2:Int) ^ 63<=i)&&decide (i<2 ^ 63))=true then _ else _) Q E _
  split at hQ
  .rename_i c;rw[if_pos c];exact AR hQ
  .rename_i c;rw[if_neg c];exact AH (AKA (AR hQ))
 have look:=PySem.F.slot_tuple_hash;unfold pyHash pyHashByItsType;refine AH (wpAny_cRoomFor_or (.inr hu) (AH (wpAny_specialOf ty look.lookup ?_)));refine iteN (AH (wpAny_specialOf ty look.lookup (AH (wpAny_callSpecialIfBoundUnlessNone?_slot ty look (Gh look ty PySem.F.entry_tuple_hash (own (turn (by simpa[AJA] using fin))) (PySem.F.args_tuple_hash_1 _))))))
where
 iteN {α:Type} {M:Model} {A:Around} {x y:Sem α} {Q:α->Shared->Prop} {E:AKP} {s:Shared} {id:String} (h:wpAny M A y Q E s):wpAny M A (if (some (Value.builtin id) == some Value.none)=true then x else y) Q E s:=by rw[if_neg (by rw[beq_builtin_none];simp)];exact h
theorem AGf{α:Type}[DecidableEq α](x y:List α):((List.range (min x.length y.length)).all (λj=>decide (x[j]?=y[j]?))&&x.length == y.length)=decide (x=y):=by
 by_cases h:x=y
 .subst h;simp
 .rw[decide_eq_false h]
  by_cases hl:x.length=y.length
  .rw[Bool.and_eq_false_iff];left;rw[AJS];intro ha;refine h (AJT λj=>?_)
   by_cases hj:j<x.length
   .exact of_decide_eq_true (De.mp ha j (Dd.mpr (by omega)))
   .rw[AIw (by omega),AIw (by omega)]
  .simp[hl]
theorem Paired.both{α β:Type}{R:α->β->Prop}:∀{l:List α} {m:List β} {j:Nat} (h:j<m.length),Paired R l m->∃a,l[j]?=some a/\R a m[j]
 |_,_,0,_,.cons r _=>⟨_,rfl,r⟩
 |_,_,j+1,h,.cons _ t=>by
  obtain⟨a,e,r⟩:=Paired.both (j:=j) (by simpa using h) t;exact⟨a,by simpa using e,by simpa using r⟩
theorem Paired.one{α β:Type}{R:α->β->Prop}(inj:∀a a' b,R a b->R a' b->a=a'):∀{l l':List α} {m:List β},Paired R l m->Paired R l' m->l=l'
 |_,_,_,.nil,p=>by cases p;rfl
 |_,_,_,.cons r t,p=>by
  cases p with
  |cons r' t'=>rw[inj _ _ _ r r',Paired.one inj t t']
theorem UK{α:Type}[DecidableEq α]{R:α->Value->Prop}{a b:Addr}{x y:List α}{us vs:List Value}(hu:A.units<cLine)(inj:∀k k' u,R k u->R k' u->k=k')(each:∀k k' u v,R k u->R k' v->SeqAt.EqAt A.in1 s u v (decide (k=k')))
  (ta:s.heap.IsTuple a us.toArray) (tb:s.heap.IsTuple b vs.toArray) (px:Paired R x us) (py:Paired R y vs):SeqAt.EqAt A s (.ref a) (.ref b) (decide (x=y)):=by
 by_cases ab:a=b
 .subst ab;obtain⟨o,g,_,n,dd⟩:=ta;obtain⟨o',g',_,n',dd'⟩:=tb;rw[g] at g';cases g';rw[dd] at dd';cases dd';rw[Paired.one inj px py,decide_eq_true rfl];exact .same _
 .refine .of_refs ab ?_
  have rc:=SeqAt.RcAt.tuples (e:=λj=>decide (x[j]?=y[j]?)) ta tb hu λj h1 h2=>by
   obtain⟨k,ek,rk⟩:=Paired.both (j:=j) (by simpa using h1) px;obtain⟨k',ek',rk'⟩:=Paired.both (j:=j) (by simpa using h2) py;rw[ek,ek',show decide (some k=some k')=decide (k=k') from decide_eq_decide.mpr (by simp)];exact each k k' _ _ (by simpa using rk) (by simpa using rk')
  rw[By,By,<-Paired.length px,<-Paired.length py,AGf] at rc;exact rc
theorem UL{M:Model}{n:Nat}{a:Addr}{its:List Value}{Q:Bool->Shared->Prop}(t:s.heap.IsTuple a its.toArray)(each:∀v∈its,∀(G:Bool->Shared->Prop),G true s->wpAny M A (eqIsQuiet n v) G E s)(h:Q true s):wpAny M A (eqIsQuiet (n+1) (.ref a)) Q E s:=by
 obtain⟨o,g,c,m,dd⟩:=t;have ty:s.TypeIs (.ref a) "tuple":=⟨o,g,c⟩
 have walk:∀l:List Value,(∀v∈l,v∈its)->wpAny M A (forIn l ((none:Option Bool),PUnit.unit) λy _=>do let __do_lift <-eqIsQuiet n y;if (!__do_lift)=true then pure (ForInStep.done (some false,PUnit.unit)) else pure (ForInStep.yield (none,PUnit.unit)))
   (λr s2=>r.1=none/\s2=s) E s:=by
  intro l
  induction l with
  |nil=>intro _;exact AR ⟨rfl,rfl⟩
  |cons v l ih =>
   intro hl;rw[AJH];refine AH (AH (each v (hl v (by simp)) _ (iteF (by decide) (AR (ih λz hz=>hl z (by simp[hz]))))))
 unfold eqIsQuiet;refine AH (wpAny_specialOf ty PySem.F.slot_tuple_eq.lookup ?_);show wpAny M A (isInstance (.ref a) (.type "tuple") >>= _) Q E s;refine AH (wpAny_isInstance ty isSubtype_tuple_tuple (iteF (by decide) (AH (AKB g dd (AH ?_)))));have w0:=walk its λ_ z=>z;show wpAny M A (forIn its.toArray _ _) _ E s;rw[List.forIn_toArray];refine EM w0 (λr s2 z2_=>?_) λ_ _ z=>z;obtain⟨e1,e2⟩:=z2_;rw[e2];simp only[e1];exact AR h
where
 iteF {α:Type} {M:Model} {A:Around} {x y:Sem α} {Q:α->Shared->Prop} {E:AKP} {s:Shared} {c:Prop} [Decidable c] (hc:¬c) (h:wpAny M A y Q E s):wpAny M A (if c then x else y) Q E s:=by rw[if_neg hc];exact h
end
abbrev NK:=List (Key ⊕ List Key)
def Ee(k:Key)(v:Value):Prop:=JW k v=true
def HM(h:Heap):Key ⊕ List Key->Value->Prop
 |.inl k,v=>Ee k v
 |.inr ks,v=>∃b its,v=.ref b/\h.IsTuple b its.toArray/\Paired Ee ks its
def AGo(h:Heap)(k:NK)(a:Addr):Prop:=∃its,h.IsTuple a its.toArray/\Paired (HM h) k its
def Ru(w:World):Key ⊕ List Key->Int×Nat
 |.inl k=>(KZ w k,1)
 |.inr ks=>(reduceHash (Builtin.Tuple.tupleHashOf ((ks.map λk=>(KZ w k,1)).map (·.1))),((ks.map λk=>(KZ w k,1)).map (·.2)).sum+1)
section
variable {prog:Program}{w:World}{A:Around}{E:AKP}{s:Shared}{h:Heap}
theorem Ee.inj{k k':Key}{u:Value}(x:Ee k u)(y:Ee k' u):k=k':=by rcases FD x with⟨_,_,rfl,rfl⟩|⟨_,_,rfl,rfl⟩ <;> rcases FD y with⟨_,_,rfl,e⟩|⟨_,_,rfl,e⟩ <;> cases e <;> rfl
theorem IsTuple.same{a:Addr}{us vs:List Value}(x:h.IsTuple a us.toArray)(y:h.IsTuple a vs.toArray):us=vs:=by obtain⟨o,g,_,n,dd⟩:=x;obtain⟨o',g',_,n',dd'⟩:=y;rw[g] at g';cases g';rw[dd] at dd';cases dd';rfl
theorem Ee.noRef{k:Key}{a:Addr}(x:Ee k (.ref a)):False:=by rcases FD x with⟨_,_,_,e⟩|⟨_,_,_,e⟩ <;> cases e
theorem HM.inj{k k':Key ⊕ List Key}{u:Value}(x:HM h k u)(y:HM h k' u):k=k':=by
 cases k with
 |inl k =>
  cases k' with
  |inl k'=>rw[Ee.inj x y]
  |inr ks=>obtain⟨b,_,rfl,_⟩:=y;exact x.noRef.elim
 |inr ks =>
  obtain⟨b,its,rfl,t,p⟩:=x
  cases k' with
  |inl k'=>exact(Ee.noRef y).elim
  |inr ks' =>
   obtain⟨b',its',e,t',p'⟩:=y;cases e;rw[IsTuple.same t t'] at p;rw[Paired.one (R:=Ee) (λ_ _ _ a b=>a.inj b) p p']
theorem WX{k k':Key}{u v:Value}(x:Ee k u)(y:Ee k' v):SeqAt.EqAt A s u v (decide (k=k')):=λprog w E Q hQ=>(Nb prog w).eqBool x y hQ
theorem AEg{k k':Key ⊕ List Key}{u v:Value}(hu:A.units<cLine)(x:HM s.heap k u)(y:HM s.heap k' v):SeqAt.EqAt A s u v (decide (k=k')):=by
 cases k with
 |inl k =>
  cases k' with
  |inl k' =>
   rw[show decide ((Sum.inl k:Key ⊕ List Key)=Sum.inl k')=decide (k=k') from decide_eq_decide.mpr (by simp)];exact WX x y
  |inr ks =>
   obtain⟨b,its,rfl,t,p⟩:=y;rw[decide_eq_false (by simp)];rcases FD x with⟨i,t',rfl,rfl⟩|⟨z,t',rfl,rfl⟩
   .exact .int_tuple i t' t hu
   .exact .str_tuple z t' t hu
 |inr ks =>
  obtain⟨a,its,rfl,t,p⟩:=x
  cases k' with
  |inl k' =>
   rw[decide_eq_false (by simp)];rcases FD y with⟨i,t',rfl,rfl⟩|⟨z,t',rfl,rfl⟩
   .exact .tuple_int i t' t hu
   .exact .tuple_str z t' t hu
  |inr ks' =>
   obtain⟨b,its',rfl,t',p'⟩:=y;rw[show decide ((Sum.inr ks:Key ⊕ List Key)=Sum.inr ks')=decide (ks=ks') from decide_eq_decide.mpr (by simp)];exact UK (R:=Ee) hu (λ_ _ _ a b=>a.inj b) (λ_ _ _ _ a b=>WX a b) t t' p p'
theorem WW{k:Key}{v:Value}(x:Ee k v):Ku (model prog w) A h v (KZ w k,1):=λE s Q _ hQ=>(Nb prog w).pyHash x hQ
theorem WU:∀{ks:List Key} {vs:List Value},Paired Ee ks vs->Paired (Ku (model prog w) A h) vs (ks.map λk=>(KZ w k,1))
 |_,_,.nil=>.nil
 |_,_,.cons x t=>.cons (WW x) (WU t)
theorem Rl(hu:A.units<cLine):∀{ks:NK} {vs:List Value},Paired (HM s.heap) ks vs->Paired (Ku (model prog w) A s.heap) vs (ks.map (Ru w))
 |_,_,.nil=>.nil
 |.inl k::_,_,.cons x t=>.cons (WW x) (Rl hu t)
 |.inr ks::_,_,.cons x t=>by
  obtain⟨b,its,rfl,tb,p⟩:=x;exact .cons (UM hu tb (WU p)) (Rl hu t)
theorem WT{M:Model}{n:Nat}{ks:List Key}{vs:List Value}(p:Paired Ee ks vs):∀v∈vs,∀(G:Bool->Shared->Prop),G true s->wpAny M A (eqIsQuiet n v) G E s:=by
 induction p with
 |nil=>intro v hv;cases hv
 |cons x _ ih =>
  intro v hv G hG;rcases Ac.mp hv with e|hv
  .subst e;have:eqIsQuiet n v=pure true:=by rcases FD x with⟨_,_,_,rfl⟩|⟨_,_,_,rfl⟩ <;> (unfold eqIsQuiet;rfl)
   rw[this];exact AR hG
  .exact ih v hv G hG
theorem AEf{M:Model}{n:Nat}{ks:NK}{vs:List Value}(p:Paired (HM s.heap) ks vs):∀v∈vs,∀(G:Bool->Shared->Prop),G true s->wpAny M A (eqIsQuiet (n+1) v) G E s:=by
 induction p with
 |nil=>intro v hv;cases hv
 |@cons k u _ _ x _ ih =>
  intro v hv G hG;rcases Ac.mp hv with e|hv
  .subst e
   cases k with
   |inl k=>exact WT (ks:=[k]) (vs:=[v]) (.cons x .nil) v (by simp) G hG
   |inr ks =>
    obtain⟨b,its,rfl,tb,p⟩:=x;exact UL tb (WT p) hG
  .exact ih v hv G hG
theorem IsTuple.other{h':Heap}{a d:Addr}{its:Array Value}{o:Obj}{es:Array DictEntry}{ep:Nat}(x:h.IsTuple a its)(ho:h.get? d=some o)(hd:o.data=.dict es ep)(hs:Heap.SameBut d h h'):h'.IsTuple a its:=by
 obtain⟨o',g,c,n,dd⟩:=x;have ne:a≠d:=λe=>by subst e;rw[g] at ho;cases ho;rw[dd] at hd;cases hd
 exact⟨o',(hs.2 a ne).trans g,c,n,dd⟩
theorem Paired.to{α β:Type}{F G:α->β->Prop}:∀{l₁:List α} {l₂:List β},Paired F l₁ l₂->(∀a b,F a b->G a b)->Paired G l₁ l₂
 |_,_,.nil,_=>.nil
 |_,_,.cons r t,f=>.cons (f _ _ r) (Paired.to t f)
end
def Hz(prog:Program)(w:World):HeapKind prog w NK where
 is:=AGo
 hash:=λk=>reduceHash (Builtin.Tuple.tupleHashOf ((k.map (Ru w)).map (·.1)))
 draws:=λk=>((k.map (Ru w)).map (·.2)).sum+1
 room:=λA=>A.units+1<cLine
 inj:=λz0_ z1_=>by
  obtain⟨_,t,p⟩:=z0_;obtain⟨_,t',p'⟩:=z1_;rw[IsTuple.same t t'] at p;exact Paired.one (R:=HM _) (λ_ _ _ a b=>a.inj b) p p'
 keeps:=λ⟨its,t,p⟩ ho hd hs=>⟨its,IsTuple.other t ho hd hs,Paired.to p λk v x=>by
  cases k with
  |inl k=>exact x
  |inr ks=>obtain⟨b,l,e,tb,q⟩:=x;exact⟨b,l,e,IsTuple.other tb ho hd hs,q⟩⟩
 pyHash:=λhu z1_ hQ=>by obtain⟨_,t,p⟩:=z1_;exact UM (Nat.lt_of_succ_lt hu) t (Rl hu p) _ _ _ rfl hQ
 eqBool:=λhu z1_ z2_ hQ=>by obtain⟨_,t,p⟩:=z1_;obtain⟨_,t',p'⟩:=z2_;exact UK (R:=HM _) (Nat.lt_of_succ_lt hu) (λ_ _ _ a b=>a.inj b) (λ_ _ _ _ a b=>AEg hu a b) t t' p p' _ _ _ _ hQ
 quiet:=λz0_ hQ=>by obtain⟨_,t,p⟩:=z0_;exact UL t (AEf p) hQ
inductive HO where
 /-- a list -/
 |lst (xs:List V)
 /-- a tuple (never changes) -/
 |tup (xs:List V)
 /-- a dict whose keys are ints and texts;one whose keys are tuples of ints and texts (the empty one is both) -/
 |dK (kvs:List (Key×V))|dT (kvs:List (List Key×V))
 /-- a dict whose keys are tuples: each key,its address,the value;how often its keys have changed -/
 |dN (kvs:List (NK×Addr×V)) (ep:Nat)
 /-- a set of ints: its members,its size -/
 |set (S:Int->Bool) (n:Nat)
 /-- an instance of the class at C,its dict at dx,its attributes -/
 |ins (C dx:Addr) (fs:List (Str×V))
 /-- the dict of the instance at x -/
 |own (x:Addr)
 /-- the dict of an exception -/
 |xd (fs:List (Str×V))
 /-- a bound method,f of x -/
 |met (f x:Addr)
 /-- a range object lo,lo+1,.. below hi -/
 |rng (lo hi:Int)
 /-- a thing that is known to the object (the script;a dict while a loop walks it): read,never written while it is so -/
 |frz (o:Obj) (u:HO)
 /-- a code object's table -/
 |tbl (ps:Array Value)
 /-- any other thing,by what is true of its one object (a def of one's own: SetO a S n:=HO.ext λh=>..) -/
 |ext (φ:Heap->Prop)
abbrev Hp:=Addr->Option HO
def upd(H:Hp)(a:Addr)(o:HO):Hp:=λb=>if b=a then some o else H b
theorem CI{H:Hp}{a:Addr}{o:HO}:upd H a o a=some o:=by unfold upd;rw[if_pos rfl]
theorem BM{H:Hp}{a b:Addr}{o:HO}(h:b≠a):upd H a o b=H b:=by unfold upd;rw[if_neg h]
theorem DJ{H:Hp}{a b:Addr}{o:HO}(h:H a=some o)(h':H b=none):a≠b:=by intro e;subst e;rw[h] at h';cases h'
section
variable (P:Program)(w:World)
def CP(H:Hp)(h:Heap)(a:Addr):HO->Prop
 |.lst xs=>xs.length<=sizeLine/\∃(its:List Value) (n:Nat),Ae xs its/\h.get? a=some {cls:=.type "list",data:=.seq its.toArray n}
 |.tup xs=>xs.length<=sizeLine/\∃its:List Value,Ae xs its/\IsTup h a its.toArray
 |.dK kvs=>kvs.length<=sizeLine/\(a == sysModules)=false/\∃vs,KV kvs vs/\h.DictOf (Nb P w) a vs
 |.dT kvs=>kvs.length<=sizeLine/\(a == sysModules)=false/\∃xs:List (List Key×Addr×Value),
   Paired (λ(p:List Key×V) (q:List Key×Addr×Value)=>p.1=q.1/\H q.2.1=some (.tup (p.1.map kV))/\Ab p.2 q.2.2) kvs xs /\
   ∃o es ep,h.get? a=some o/\o.ExactDict/\o.data=.dict es ep/\es.toList=xs.map (entryOfKey (tupleKind (Nb P w)))/\(xs.map (·.1)).Nodup
 |.dN kvs ep=>kvs.length<=sizeLine/\(a == sysModules)=false/\∃xs:List (NK×Addr×Value),
   Paired (λ(p:NK×Addr×V) (q:NK×Addr×Value)=>p.1=q.1/\p.2.1=q.2.1/\Ab p.2.2 q.2.2) kvs xs /\
   ∃o es,h.get? a=some o/\o.ExactDict/\o.data=.dict es ep/\es.toList=xs.map (entryOfKey (Hz P w))/\(xs.map (·.1)).Nodup
 |.set S n=>h.SetOf (intKind P w) a S n
 |.ins C dx fs=>H dx=some (.own a)/\fs.length<=1000/\dx≠a/\h.get? a=some (AIx C dx) /\
   ∃mA,h.Ns1 dx mA/\(∀f,Fy (fs.lookup f) (mA f))/\PySem.Within mA (fs.map (·.1))
 |.own _=>∃o,h.get? a=some o
 |.xd fs=>∃mA,h.Ns1 a mA/\∀f,Fy (fs.lookup f) (mA f)
 |.rng lo hi=>∃t u v,h.get? a=some {cls:=.type "range",data:=.fields #[.int lo t,.int hi u,.int 1 v]}
 |.frz o u=>h.get? a=some o/\CP H h a u
 |.tbl ps=>h.get? a=some {cls:=.none,data:=.fields ps}
 |.met f x=>h.get? a=some (PySem.W.methodObj (.ref f) (.ref x))
 |.ext φ=>φ h/\(∃o,h.get? a=some o)/\∀h1 h2:Heap,φ h1->(∀o,h1.get? a=some o->h2.get? a=some o)->φ h2
def CW(H:Hp)(h:Heap):Prop:=∀a o,H a=some o->CP P w H h a o
end
section
variable {P:Program}{w:World}{H H':Hp}{h h':Heap}{a:Addr}{o:HO}
theorem CP.lt(x:CP P w H h a o):a<h.objs.size:=by
 cases o with
 |lst xs=>obtain⟨_,_,_,_,e⟩:=x;exact Heap.lt_size e
 |tup xs=>obtain⟨_,_,_,p⟩:=x;exact p.lt
 |dK kvs=>obtain⟨_,_,_,_,o,_,_,e,_⟩:=x;exact Heap.lt_size e
 |dT kvs=>obtain⟨_,_,_,_,o,_,_,e,_⟩:=x;exact Heap.lt_size e
 |dN kvs ep=>obtain⟨_,_,_,_,o,_,e,_⟩:=x;exact Heap.lt_size e
 |set S n=>obtain⟨o,_,_,_,e,_⟩:=x;exact Heap.lt_size e
 |ins C dx fs=>obtain⟨_,_,_,e,_⟩:=x;exact Heap.lt_size e
 |own y=>obtain⟨_,e⟩:=x;exact Heap.lt_size e
 |xd fs=>obtain⟨_,⟨_,_,_,e,_⟩,_⟩:=x;exact Heap.lt_size e
 |rng lo hi=>obtain⟨_,_,_,e⟩:=x;exact Heap.lt_size e
 |frz ob u=>obtain⟨e,_⟩:=x;exact Heap.lt_size e
 |tbl ps=>exact Heap.lt_size (show h.get? a=some _ from x)
 |met f y=>exact Heap.lt_size (show h.get? a=some _ from x)
 |ext φ=>obtain⟨_,⟨_,e⟩,_⟩:=x;exact Heap.lt_size e
theorem Paired.mapP{α β:Type}{F G:α->β->Prop}:∀{l₁:List α} {l₂:List β},Paired F l₁ l₂->(∀a b,F a b->G a b)->Paired G l₁ l₂
 |_,_,.nil,_=>.nil
 |_,_,.cons r t,f=>.cons (f _ _ r) (Paired.mapP t f)
theorem CP.stay(x:CP P w H h a o)(k:∀b u,(b=a\/H b=some (.own a))->h.get? b=some u->h'.get? b=some u)
  (ho:∀b,H b=some (.own a)->H' b=some (.own a)) (ht:∀b xs,H b=some (.tup xs)->H' b=some (.tup xs)):CP P w H' h' a o:=by
 induction o with
 |lst xs=>obtain⟨z,its,n,r,e⟩:=x;exact⟨z,its,n,r,k _ _ (.inl rfl) e⟩
 |tup xs=>obtain⟨z,its,r,ob,e,c⟩:=x;exact⟨z,its,r,ob,k _ _ (.inl rfl) e,c⟩
 |dK kvs=>obtain⟨z,y,vs,r,ob,es,ep,e,c⟩:=x;exact⟨z,y,vs,r,ob,es,ep,k _ _ (.inl rfl) e,c⟩
 |dT kvs =>
  obtain⟨z,y,xs,r,ob,es,ep,e,c⟩:=x;exact⟨z,y,xs,Paired.mapP r λp q z=>⟨z.1,ht _ _ z.2.1,z.2.2⟩,ob,es,ep,k _ _ (.inl rfl) e,c⟩
 |dN kvs ep=>obtain⟨z,y,xs,r,ob,es,e,c⟩:=x;exact⟨z,y,xs,r,ob,es,k _ _ (.inl rfl) e,c⟩
 |set S n=>obtain⟨ob,es,ep,t,e,c⟩:=x;exact⟨ob,es,ep,t,k _ _ (.inl rfl) e,c⟩
 |ins C dx fs =>
  obtain⟨d,z,ne,e,mA,⟨od,es,ep,e2,c⟩,r⟩:=x;exact⟨ho _ d,z,ne,k _ _ (.inl rfl) e,mA,⟨od,es,ep,k _ _ (.inr d) e2,c⟩,r⟩
 |own y=>obtain⟨ob,e⟩:=x;exact⟨ob,k _ _ (.inl rfl) e⟩
 |xd fs=>obtain⟨mA,⟨od,es,ep,e,c⟩,r⟩:=x;exact⟨mA,⟨od,es,ep,k _ _ (.inl rfl) e,c⟩,r⟩
 |rng lo hi=>obtain⟨t,u,v,e⟩:=x;exact⟨t,u,v,k _ _ (.inl rfl) e⟩
 |frz ob u ih=>obtain⟨e,q⟩:=x;exact⟨k _ _ (.inl rfl) e,ih q⟩
 |tbl ps =>
  have e:h.get? a=some {cls:=.none,data:=.fields ps}:=x;show h'.get? a=some {cls:=.none,data:=.fields ps};exact k a _ (.inl rfl) e
 |met f y =>
  have e:h.get? a=some (PySem.W.methodObj (.ref f) (.ref y)):=x;show h'.get? a=some (PySem.W.methodObj (.ref f) (.ref y));exact k a _ (.inl rfl) e
 |ext φ=>obtain⟨p,⟨o,e⟩,st⟩:=x;exact⟨st _ _ p λo q=>k _ _ (.inl rfl) q,⟨o,k _ _ (.inl rfl) e⟩,st⟩
theorem CW.lt(x:CW P w H h)(e:H a=some o):a<h.objs.size:=(x a o e).lt
theorem CW.fresh(x:CW P w H h)(e:h.objs.size<=a):H a=none:=by
 cases q:H a with
 |none=>rfl
 |some u=>exact absurd (Cy (x.lt q) e) (HR _)
theorem CW.kept(x:CW P w H h)(k:∀b u,h.get? b=some u->h'.get? b=some u):CW P w H h':=λa o e =>
 (x a o e).stay (λb u _ q=>k b u q) (λ_ q=>q) λ_ _ q=>q
theorem CW.laid(x:CW P w H h)(k:∀b u,h.get? b=some u->h'.get? b=some u)(hp:h.objs.size<=a)(new:CP P w (upd H a o) h' a o):CW P w (upd H a o) h':=λb u e=>by
 have hn:=x.fresh hp
 by_cases hb:b=a
 .subst hb;rw[CI] at e;cases e;exact new
 .rw[BM hb] at e;exact(x b u e).stay (λc v _ q=>k c v q) (λc q=>by rw[BM (DJ q hn)];exact q) λc xs q=>by rw[BM (DJ q hn)];exact q
end
def Rd(H:Hp)(a:Addr)(u:HO):Prop:=H a=some u\/∃o,H a=some (.frz o u)
theorem Rd.of{H:Hp}{a:Addr}{u:HO}(h:H a=some u):Rd H a u:=.inl h
theorem Rd.ok{P:Program}{w:World}{H:Hp}{h:Heap}{a:Addr}{u:HO}(r:Rd H a u)(x:CW P w H h):CP P w H h a u:=by
 rcases r with r|⟨o,r⟩
 .exact x a u r
 .obtain⟨_,q⟩:=x a _ r;exact q
def MF:Option HO->Prop
 |some (.lst _)=>True
 |some (.dK _)=>True
 |some (.dT _)=>True
 |some (.dN _ _)=>True
 |some (.set _ _)=>True
 |some (.ins _ _ _)=>True
 |some (.ext _)=>True
 |_=>False
section
variable {P:Program}{w:World}{H:Hp}{h h':Heap}{x e:Addr}{o':HO}
theorem CW.write(ok:CW P w H h)(mu:MF (H x))(he:e=x\/H e=some (.own x))(k:∀b u,b≠e->h.get? b=some u->h'.get? b=some u)(heo:∃u,h'.get? e=some u)
  (new:CP P w (upd H x o') h' x o'):CW P w (upd H x o') h':=λb u q=>by
 have nown:∀c y,H c=some (.own y)->c≠x:=λc y r z=>by subst z;rw[r] at mu;exact mu
 have ntup:∀c xs,H c=some (.tup xs)->c≠x:=λc xs r z=>by subst z;rw[r] at mu;exact mu
 by_cases hb:b=x
 .subst hb;rw[CI] at q;cases q;exact new
 .rw[BM hb] at q
  by_cases hbe:b=e
  .have q':H b=some (.own x):=by
    rcases he with z|z
    .exact absurd (hbe.trans z) hb
    .rw[hbe];exact z
   rw[q] at q';cases q';obtain⟨v,hv⟩:=heo;exact⟨v,by rw[hbe];exact hv⟩
  .refine(ok b u q).stay (λc v hc r=>k c v ?_ r) (λc r=>by rw[BM (nown c b r)];exact r) λc xs r=>by rw[BM (ntup c xs r)];exact r
   rcases hc with rfl|hc
   .exact hbe
   .rintro rfl;rcases he with z|z
    .exact nown c b hc z
    .rw[hc] at z;cases z;exact hb rfl
end
structure Un (fs ex:List Addr) (H H':Hp) (h h':Heap):Prop where
 keep:∀b o,h.get? b=some o->H b=none->b∉fs->b∉ex->h'.get? b=some o
 slot:∀b o,h.get? b=some o->H b=none->b∈fs->b∉ex->∃sl,h'.get? b=some {o with slots:=sl}
 free:∀b o,h.get? b=some o->H b=none->b∉ex->H' b=none
 there:∀b o,h.get? b=some o->b∉ex->∃o',h'.get? b=some o'
 tups:∀b xs,H b=some (.tup xs)->H' b=some (.tup xs)
 frzs:∀b o u,H b=some (.frz o u)->H' b=some (.frz o u)
 tbls:∀b ps,H b=some (.tbl ps)->∃more,H' b=some (.tbl (ps++more))
section
variable {fs fs' ex ex':List Addr}{H H1 H2:Hp}{h h1 h2 h':Heap}{a x e:Addr}{o:HO}
theorem Un.any(u:Un fs ex H H1 h h1){b:Addr}{ob:Obj}(q:h.get? b=some ob)(n:H b=none)(hx:b∉ex):∃sl,h1.get? b=some {ob with slots:=sl}:=by
 by_cases hb:b∈fs
 .exact u.slot b ob q n hb hx
 .exact⟨ob.slots,u.keep b ob q n hb hx⟩
theorem Un.trans(a:Un fs ex H H1 h h1)(b:Un fs ex H1 H2 h1 h2):Un fs ex H H2 h h2 where
 keep:=λc ob q n hc hx=>b.keep c ob (a.keep c ob q n hc hx) (a.free c ob q n hx) hc hx
 slot:=λc ob q n hc hx=>by
  obtain⟨sl,e1⟩:=a.slot c ob q n hc hx;obtain⟨sl',e2⟩:=b.slot c _ e1 (a.free c ob q n hx) hc hx;exact⟨sl',e2⟩
 free:=λc ob q n hx=>by
  obtain⟨o',e1⟩:=a.there c ob q hx;exact b.free c o' e1 (a.free c ob q n hx) hx
 there:=λc ob q hx=>by
  obtain⟨o',e1⟩:=a.there c ob q hx;exact b.there c o' e1 hx
 tups:=λc xs q=>b.tups c xs (a.tups c xs q)
 frzs:=λc ob xs q=>b.frzs c ob xs (a.frzs c ob xs q)
 tbls:=λc ps q=>by
  obtain⟨m1,e1⟩:=a.tbls c ps q;obtain⟨m2,e2⟩:=b.tbls c _ e1;exact⟨m1++m2,by rw[e2,Array.append_assoc]⟩
theorem Un.kept(k:∀b u,h.get? b=some u->h'.get? b=some u):Un fs ex H H h h' :=
 ⟨λb ob q _ _ _=>k b ob q,λb ob q _ _ _=>⟨ob.slots,k b ob q⟩,λ_ _ _ n _=>n,λb ob q _=>⟨ob,k b ob q⟩,λ_ _ q=>q,λ_ _ _ q=>q,λ_ ps q=>⟨#[],by rw[q];simp⟩⟩
theorem Un.refl:Un fs ex H H h h:=Un.kept λ_ _ q=>q
theorem Un.laid(k:∀b u,h.get? b=some u->h'.get? b=some u)(hp:h.objs.size<=a)(hn:H a=none):Un fs ex H (upd H a o) h h' where
 keep:=λb u q _ _ _=>k b u q
 slot:=λb u q _ _ _=>⟨u.slots,k b u q⟩
 free:=λb u q n _=>by rw[BM (Bi (Cy (Heap.lt_size q) hp))];exact n
 there:=λb u q _=>⟨u,k b u q⟩
 tups:=λb xs q=>by rw[BM (DJ q hn)];exact q
 frzs:=λb u xs q=>by rw[BM (DJ q hn)];exact q
 tbls:=λb ps q=>⟨#[],by rw[BM (DJ q hn),q];simp⟩
theorem Un.write(mu:MF (H x))(he:e=x\/H e=some (.own x))(k:∀b u,b≠e->h.get? b=some u->h'.get? b=some u)(heo:∃u,h'.get? e=some u):Un fs ex H (upd H x o) h h':=by
 have hx:∀b,H b=none->b≠x:=λb n z=>by subst z;rw[n] at mu;exact mu
 have hb:∀b,H b=none->b≠e:=λb n z=>by
  subst z;rcases he with r|r
  .exact hx b n r
  .rw[n] at r;cases r
 have hm:∀b u,H b=some u->¬MF (some u)->b≠x:=λb u q nm z=>by subst z;rw[q] at mu;exact nm mu
 refine⟨λb u q n _ _=>k b u (hb b n) q,λb u q n _ _=>⟨u.slots,k b u (hb b n) q⟩,λb u q n _=>by rw[BM (hx b n)];exact n,λb u q _=>?_,
  λb xs q=>by rw[BM (hm b _ q λz=>z)];exact q,λb u xs q=>by rw[BM (hm b _ q λz=>z)];exact q,λb ps q=>⟨#[],by rw[BM (hm b _ q λz=>z),q];simp⟩⟩
 by_cases hbe:b=e
 .subst hbe;exact heo
 .exact⟨u,k b u hbe q⟩
theorem Un.mono(u:Un fs ex H H1 h h1)(hs:∀b∈fs,b∈fs')(hx:∀b∈ex,b∈ex'):Un fs' ex' H H1 h h1 :=
 ⟨λb ob q n hb he=>u.keep b ob q n (λz=>hb (hs b z)) λz=>he (hx b z),λ_ _ q n _ he=>u.any q n λz=>he (hx _ z),λb ob q n he=>u.free b ob q n λz=>he (hx b z),λb ob q he=>u.there b ob q λz=>he (hx b z),u.tups,u.frzs,u.tbls⟩
end
def Mz(h:Heap)(H:Hp):List Addr:=(List.range h.objs.size).filter λa=>(H a).isSome
def IB(h:Heap)(H:Hp):Heap:=AJc h (Mz h H)
theorem AEv(h:Heap)(H:Hp):(IB h H).objs.size=h.objs.size:=PySem.W.hideAll_size _ _
theorem AEw{h:Heap}{H:Hp}{b:Addr}{o:Obj}(e:h.get? b=some o)(n:H b=none):(IB h H).get? b=some o :=
 AJs _ e λhm=>by
  have q:(H b).isSome=true:=(AJd.mp hm).2;rw[n] at q;simp at q
theorem ADX{h:Heap}{H:Hp}{b:Addr}{o:Obj}(e:(IB h H).get? b=some o):h.get? b=some o/\H b=none:=by
 have e':h.get? b=some o:=AJt (Mz h H) e;refine⟨e',?_⟩
 cases q:H b with
 |none=>rfl
 |some x =>
  have hm:b∈Mz h H:=AJd.mpr ⟨Dd.mpr (Heap.lt_size e'),by simp[q]⟩;have z:(IB h H).get? b=none:=PySem.W.hideAll_none (Mz h H) hm;rw[z] at e;cases e
def AGh(g h:Heap)(L:Addr):List (Addr×Obj):=(List.range h.objs.size).filterMap λa=>if a=L\/(g.get? a).isSome=true then none else (h.get? a).map λo=>(a,o)
def rest(g h:Heap)(L d:Addr):List (Addr×Obj):=(AGh g h L).filter λp=>decide (p.1≠d)
structure OX (K:AM) (mg:AKO) (base:Heap):Prop where
 kin:K.In base
 glob:base.Ns mainGlobals mg
 blt:∃mb,base.Ns builtinsNs mb/\∀x:Str,x≠"__name__"->mb x=bootBuiltins x
 nolimit:base.NoLimit
structure Cx where
 prog:Program
 w:World
 K:AM
 mg:AKO
 base:Heap
 A:Around
 N:List Str
 s₀:Shared
 H₀:Hp
 env:Env
 outer:List Env
 stack:List Env
 ex:List Addr
 fn:Str->Bool
 calm:Bool
 pn:List (Addr×Obj)
 xe:AKP
def CD(l:List Env):List Addr:=l.filterMap (·.frame)
abbrev Cx.fs(X:Cx):List Addr:=CD X.outer
def JC(sc:Scope)(x:Str):Prop:=sc.names.lookup x=some .local\/sc.names.lookup x=some .cell\/sc.names.lookup x=some .free
def IW(sc:Scope)(x:Str):Prop:=sc.names.lookup x=some .local\/sc.names.lookup x=some .cell
def AGn(env:Env)(h:Heap)(m:AKO)(x:Str)(u:Value):Prop :=
 (env.kindOf x=some .local/\m x=some u)\/((env.kindOf x=some .cell\/env.kindOf x=some .free)/\∃c,env.cells.lookup x=some c/\h.IsCell c (some u))
structure Cx.Ok (X:Cx):Prop where
 mod:OX X.K X.mg X.base
 kind:X.env.scope.kind=.function
 glob:X.env.globals=mainGlobals
 blt:X.env.builtins=builtinsNs
 above:X.s₀.heap.objs.size<=X.env.locals
 inj:∀x y c,X.env.cells.lookup x=some c->X.env.cells.lookup y=some c->x=y
 has:∀x,(X.env.kindOf x=some .cell\/X.env.kindOf x=some .free)->∃c,X.env.cells.lookup x=some c
 cab:∀x c,X.fn x=true->X.env.cells.lookup x=some c->X.s₀.heap.objs.size<=c
 hd:X.calm=true->X.A.handled=none
 frames:X.A.frames=some X.stack
 stk:X.stack=X.outer\/(X.stack=X.env::X.outer/\X.env.frame=some X.env.locals)
 exf:∀b∈X.ex,b≠X.env.locals/\∀x c,X.env.cells.lookup x=some c->c≠b
 bs:∀b o,X.base.get? b=some o->X.s₀.heap.get? b=some o/\X.H₀ b=none
 bsz:X.base.objs.size<=X.s₀.heap.objs.size
 noex:∀b o,X.base.get? b=some o->b∉X.ex
 exfs:∀b∈X.ex,b∉X.fs
 funs:X.s₀.heap.FunFrames X.base X.outer
 frf:∀b∈X.fs,X.H₀ b=none
structure AI (X:Cx) (pins:List (Addr×Obj)) (σ:List (Option V)) (H:Hp) (s:Shared):Prop where
 ok:X.Ok
 os:s.os=X.s₀.os
 bare:AllBare s.gens
 base:Un X.fs X.ex X.H₀ H X.s₀.heap s.heap
 loc:∃m,s.heap.Ns X.env.locals m/\∀(i:Nat) (x:Str) (v:V),X.N[i]?=some x->σ[i]?=some (some v)->JC X.env.scope x->∃u,Ab v u/\AGn X.env s.heap m x u
 cell:∀x c,X.env.cells.lookup x=some c->∃v,s.heap.IsCell c v
 free:H X.env.locals=none
 freeC:∀x c,X.env.cells.lookup x=some c->H c=none
 pin:∀p∈X.pn++pins,s.heap.get? p.1=some p.2/\H p.1=none/\p.1≠X.env.locals/\p.1∉X.fs/\∀v,p.2.data≠.cell v
 hok:CW X.prog X.w H s.heap
 len:σ.length=X.N.length
section
variable {X:Cx}{pins:List (Addr×Obj)}{σ:List (Option V)}{H H':Hp}{s:Shared}{h':Heap}
theorem Cx.Ok.nofr(ok:X.Ok){b:Addr}{o:Obj}(e:X.base.get? b=some o):b∉X.fs:=λhb=>by
 have:=(ok.funs.mem hb).1;rw[e] at this;cases this
theorem AI.bs(I:AI X pins σ H s):∀b o,X.base.get? b=some o->s.heap.get? b=some o/\H b=none:=λb o e =>
 ⟨I.base.keep b o (I.ok.bs b o e).1 (I.ok.bs b o e).2 (I.ok.nofr e) (I.ok.noex b o e),I.base.free b o (I.ok.bs b o e).1 (I.ok.bs b o e).2 (I.ok.noex b o e)⟩
theorem AI.bk(I:AI X pins σ H s):∀b o,X.base.get? b=some o->s.heap.get? b=some o:=λb o e=>(I.bs b o e).1
theorem AI.mod(I:AI X pins σ H s):OX X.K X.mg X.base:=I.ok.mod
theorem AI.kIn(I:AI X pins σ H s):X.K.In s.heap:=I.ok.mod.kin.keeps I.bk
theorem AI.nolimit(I:AI X pins σ H s):s.heap.NoLimit:=I.ok.mod.nolimit.keeps I.bk
theorem AI.lt(I:AI X pins σ H s):X.env.locals<s.heap.objs.size:=let ⟨_,hn,_⟩:=I.loc;hn.lt
theorem AI.sz(I:AI X pins σ H s):X.s₀.heap.objs.size<=s.heap.objs.size:=Ch I.ok.above (Nat.le_of_lt I.lt)
theorem AI.nofs(I:AI X pins σ H s){a:Addr}(h:s.heap.objs.size<=a):a∉X.fs:=λhb=>by
 obtain⟨_,o,ho,_⟩:=I.ok.funs.mem hb;exact absurd (Cy (Heap.lt_size ho) (Ch I.sz h)) (HR _)
theorem AI.cne(I:AI X pins σ H s):∀x c,X.env.cells.lookup x=some c->c≠X.env.locals:=λx c e z=>by
 obtain⟨v,o,ho,hd⟩:=I.cell x c e;obtain⟨m,⟨o',es,ep,ho',hd',_⟩,_⟩:=I.loc;rw[z,ho'] at ho;cases ho;rw[hd'] at hd;cases hd
theorem AI.funs(I:AI X pins σ H s):s.heap.FunFrames X.base X.outer:=by
 have all:∀(l:List Env),(∀b∈CD l,b∈X.fs)->X.s₀.heap.FunFrames X.base l->s.heap.FunFrames X.base l:=by
  intro l
  induction l with
  |nil=>intro _ _;trivial
  |cons env r ih =>
   intro hs hl;obtain⟨hk,⟨L,o,hf,hn,ho,hd⟩,hr⟩:=hl;have hL:L∈X.fs:=hs L (by unfold CD;rw[AJI,hf];exact BN);obtain⟨sl,e⟩:=I.base.slot L o ho (I.ok.frf L hL) hL λz=>I.ok.exfs L z hL;exact⟨hk,⟨L,_,hf,hn,e,hd⟩,ih (λb hb=>hs b (by unfold CD;rw[AJI,hf];exact BK _ hb)) hr⟩
 exact all X.outer (λ_ hb=>hb) I.ok.funs
theorem AI.stack(I:AI X pins σ H s):s.heap.FunFrames X.base X.stack:=by
 rcases I.ok.stk with e|⟨e,hf⟩
 .rw[e];exact I.funs
 .rw[e];obtain⟨m,hn,_⟩:=I.loc;refine .cons (by rw[I.ok.kind];decide) hf hn ?_ I.funs;exact Heap.get?_none_of_le (Ch I.ok.bsz I.ok.above)
theorem AI.stkSub(I:AI X pins σ H s):∀b∈CD X.stack,b∈X.env.locals::X.fs:=λb hb=>by
 rcases I.ok.stk with e|⟨e,hf⟩
 .rw[e] at hb;exact BK _ hb
 .rw[e] at hb;unfold CD at hb;rw[AJI,hf] at hb;exact hb
theorem AI.stkFree(I:AI X pins σ H s):∀b∈CD X.stack,H b=none:=λb hb=>by
 rcases Ac.mp (I.stkSub b hb) with e|hb
 .rw[e];exact I.free
 .obtain⟨_,o,ho,_⟩:=I.ok.funs.mem hb;exact I.base.free b o ho (I.ok.frf b hb) λz=>I.ok.exfs b z hb
theorem AI.step{g':Array GenState}{t':Nat}{d':Drawn}{ch:List Addr}(I:AI X pins σ H s)
  (hch:∀b∈ch,(b∈X.ex\/X.s₀.heap.objs.size<=b)/\b≠X.env.locals/\(∀x c,X.env.cells.lookup x=some c->c≠b)/\∀p∈X.pn++pins,p.1≠b)
  (keep:∀b o,b≠X.env.locals->b∉X.fs->b∉ch->s.heap.get? b=some o->H b=none->h'.get? b=some o)
  (slot:∀b o,b≠X.env.locals->b∈X.fs->b∉ch->s.heap.get? b=some o->H b=none->∃sl,h'.get? b=some {o with slots:=sl}) (free:∀b o,b∉ch->s.heap.get? b=some o->H b=none->H' b=none)
  (there:∀b o,b∉ch->s.heap.get? b=some o->∃o',h'.get? b=some o')
  (tups:∀b xs,H b=some (.tup xs)->H' b=some (.tup xs)) (frzs:∀b o u,H b=some (.frz o u)->H' b=some (.frz o u)) (tbls:∀b ps,H b=some (.tbl ps)->∃more,H' b=some (.tbl (ps++more)))
  (ns:∀m,s.heap.Ns X.env.locals m->h'.Ns X.env.locals m) (hok:CW X.prog X.w H' h') (hg:AllBare g') :
  AI X pins σ H' {s with heap:=h',gens:=g',drawn:=d',toks:=t'}:=by
 have neL:∀b o,X.s₀.heap.get? b=some o->b≠X.env.locals:=λb o e=>Bi (Cy (Heap.lt_size e) I.ok.above)
 have neC:∀b o,X.s₀.heap.get? b=some o->b∉X.ex->b∉ch:=λb o e hx hb=>by
  rcases(hch b hb).1 with z|z
  .exact hx z
  .exact absurd (Cy (Heap.lt_size e) z) (HR _)
 have cellK:∀x c,X.env.cells.lookup x=some c->∀v,s.heap.IsCell c v->h'.IsCell c v:=λx c e v z4_=>by
  obtain⟨o,ho,hd⟩:=z4_;have nch:c∉ch:=λz=>(hch c z).2.2.1 x c e rfl
  by_cases hc:c∈X.fs
  .obtain⟨sl,q⟩:=slot c o (I.cne x c e) hc nch ho (I.freeC x c e);exact⟨_,q,hd⟩
  .exact⟨o,keep c o (I.cne x c e) hc nch ho (I.freeC x c e),hd⟩
 refine⟨I.ok,I.os,hg,⟨λb o e n hb hx=>?_,λb o e n hb hx=>?_,λb o e n hx=>?_,λb o e hx=>?_,λb xs e=>tups b xs (I.base.tups b xs e),λb o xs e=>frzs b o xs (I.base.frzs b o xs e),λb ps e=>?_⟩,?_,λx c e=>?_,?_,λx c e=>?_,λp hp=>?_,hok,I.len⟩
 .exact keep b o (neL b o e) hb (neC b o e hx) (I.base.keep b o e n hb hx) (I.base.free b o e n hx)
 .obtain⟨sl,e1⟩:=I.base.slot b o e n hb hx;obtain⟨sl',e2⟩:=slot b _ (neL b o e) hb (neC b o e hx) e1 (I.base.free b o e n hx);exact⟨sl',e2⟩
 .obtain⟨o',e1⟩:=I.base.there b o e hx;exact free b o' (neC b o e hx) e1 (I.base.free b o e n hx)
 .obtain⟨o',e1⟩:=I.base.there b o e hx;exact there b o' (neC b o e hx) e1
 .obtain⟨m1,e1⟩:=I.base.tbls b ps e;obtain⟨m2,e2⟩:=tbls b _ e1;exact⟨m1++m2,by rw[e2,Array.append_assoc]⟩
 .obtain⟨m,hn,hl⟩:=I.loc;refine⟨m,ns m hn,λi x v e1 e2 e3=>?_⟩;obtain⟨u,r,l⟩:=hl i x v e1 e2 e3;refine⟨u,r,?_⟩;rcases l with l|⟨k,c,e,z⟩
  .exact .inl l
  .exact .inr ⟨k,c,e,cellK x c e _ z⟩
 .obtain⟨v,z⟩:=I.cell x c e;exact⟨v,cellK x c e v z⟩
 .obtain⟨m,⟨o,_,_,ho,_⟩,_⟩:=I.loc;exact free _ o (λz=>(hch _ z).2.1 rfl) ho I.free
 .obtain⟨v,o,ho,hd⟩:=I.cell x c e;exact free c o (λz=>(hch c z).2.2.1 x c e rfl) ho (I.freeC x c e)
 .obtain⟨e,n,ne,nf,d⟩:=I.pin p hp;have nch:p.1∉ch:=λz=>(hch p.1 z).2.2.2 p hp rfl;exact⟨keep p.1 p.2 ne nf nch e n,free p.1 p.2 nch e n,ne,nf,d⟩
theorem AI.un{t':Nat}(I:AI X pins σ H s)(u:Un X.fs [] H H' s.heap h')(hok:CW X.prog X.w H' h'):AI X pins σ H' {s with heap:=h',toks:=t'}:=by
 obtain⟨m,⟨o,es,ep,ho,r⟩,_⟩:=id I.loc;obtain⟨sl,hL⟩:=u.any ho I.free (by simp)
 exact I.step (g':=s.gens) (d':=s.drawn) (ch:=[]) (λ_ z=>nomatch z) (λb o _ hb _ e n=>u.keep b o e n hb (by simp)) (λb o _ hb _ e n=>u.slot b o e n hb (by simp)) (λb o _ e n=>u.free b o e n (by simp)) (λb o _ e=>u.there b o e (by simp)) u.tups u.frzs u.tbls (λm' hm=>by
  obtain⟨o',es',ep',ho',r'⟩:=hm;rw[ho] at ho';cases ho'
  exact⟨_,es',ep',hL,r'⟩) hok I.bare
theorem AI.call{g':Array GenState}{t':Nat}{d':Drawn}{ch:List Addr}(I:AI X pins σ H s)(u:Un (CD X.stack) ch H H' s.heap h')(hok:CW X.prog X.w H' h')(hg:AllBare g')
  (hch:∀b∈ch,(b∈X.ex\/X.s₀.heap.objs.size<=b)/\b≠X.env.locals/\(∀x c,X.env.cells.lookup x=some c->c≠b)/\∀p∈X.pn++pins,p.1≠b) :
  AI X pins σ H' {s with heap:=h',gens:=g',drawn:=d',toks:=t'}:=by
 obtain⟨m,⟨o,es,ep,ho,r⟩,_⟩:=id I.loc;obtain⟨sl,hL⟩:=u.any ho I.free λz=>(hch _ z).2.1 rfl
 exact I.step (ch:=ch) hch (λb o hL hb hc e n=>u.keep b o e n (λz=>(Ac.mp (I.stkSub b z)).elim hL hb) hc) (λb o _ _ hc e n=>u.any e n hc) (λb o hc e n=>u.free b o e n hc) (λb o hc e=>u.there b o e hc) u.tups u.frzs u.tbls (λm' hm=>by
  obtain⟨o',es',ep',ho',r'⟩:=hm;rw[ho] at ho';cases ho'
  exact⟨_,es',ep',hL,r'⟩) hok hg
theorem AI.turned{t':Nat}{it:Addr}(I:AI X pins σ H s)(k:∀b o,b≠it->s.heap.get? b=some o->h'.get? b=some o)(hn:H it=none)(hL:it≠X.env.locals)
  (h1:it∈X.ex\/X.s₀.heap.objs.size<=it) (h2:∀x c,X.env.cells.lookup x=some c->c≠it) (h3:∀p∈X.pn++pins,p.1≠it):AI X pins σ H {s with heap:=h',toks:=t'}:=by
 have nit:∀b u,H b=some u->b≠it:=λb u e z=>by rw[z,hn] at e;cases e
 refine I.step (g':=s.gens) (d':=s.drawn) (ch:=[it]) (λb hb=>?_) (λb o _ _ hc e _=>k b o (λz=>hc (by simp[z])) e) (λb o _ _ hc e _=>⟨o.slots,k b o (λz=>hc (by simp[z])) e⟩) (λ_ _ _ _ n=>n)
  (λb o hc e=>⟨o,k b o (λz=>hc (by simp[z])) e⟩) (λ_ _ e=>e) (λ_ _ _ e=>e) (λb ps e=>⟨#[],by rw[e];simp⟩) (λm hm=>?_) (λb u e=>?_) I.bare
 .have e:b=it:=by simpa using hb
  subst e;exact⟨h1,hL,h2,h3⟩
 .obtain⟨o,es,ep,ho,r⟩:=hm;exact⟨o,es,ep,k _ o (Ne.symm hL) ho,r⟩
 .refine(I.hok b u e).stay (λc v hc q=>k c v ?_ q) (λ_ q=>q) λ_ _ q=>q;rcases hc with z|z
  .rw[z];exact nit b u e
  .exact nit c _ z
theorem AI.tok(I:AI X pins σ H s)(t:Nat):AI X pins σ H {s with toks:=t}:=I.un (h':=s.heap) (t':=t) Un.refl I.hok
theorem AI.kept{t':Nat}(I:AI X pins σ H s)(k:∀b u,s.heap.get? b=some u->h'.get? b=some u):AI X pins σ H {s with heap:=h',toks:=t'}:=I.un (Un.kept k) (I.hok.kept k)
theorem AI.laid{a:Addr}{o:HO}{t':Nat}(I:AI X pins σ H s)(k:∀b u,s.heap.get? b=some u->h'.get? b=some u)(hp:s.heap.objs.size<=a)(new:CP X.prog X.w (upd H a o) h' a o) :
  AI X pins σ (upd H a o) {s with heap:=h',toks:=t'}:=I.un (Un.laid k hp (I.hok.fresh hp)) (I.hok.laid k hp new)
theorem AI.write{x e:Addr}{o:HO}{t':Nat}(I:AI X pins σ H s)(mu:MF (H x))(he:e=x\/H e=some (.own x))(k:∀b u,b≠e->s.heap.get? b=some u->h'.get? b=some u)(heo:∃u,h'.get? e=some u)
  (new:CP X.prog X.w (upd H x o) h' x o):AI X pins σ (upd H x o) {s with heap:=h',toks:=t'}:=I.un (Un.write mu he k heo) (I.hok.write mu he k heo new)
theorem AI.pins_of{pins':List (Addr×Obj)}(I:AI X pins σ H s)(h:∀p∈pins',s.heap.get? p.1=some p.2/\H p.1=none/\p.1≠X.env.locals/\p.1∉X.fs/\∀v,p.2.data≠.cell v):AI X pins' σ H s :=
 ⟨I.ok,I.os,I.bare,I.base,I.loc,I.cell,I.free,I.freeC,λp hp=>(DE.mp hp).elim (λz=>I.pin p (List.mem_append_left _ z)) (h p),I.hok,I.len⟩
theorem RV{N:List Str}(hN:N.Nodup){i j:Nat}{x:Str}(a:N[i]?=some x)(b:N[j]?=some x):i=j:=by obtain⟨h1,e1⟩:=BQ.mp a;obtain⟨h2,e2⟩:=BQ.mp b;exact(List.getElem_inj hN).mp (e1.trans e2.symm)
theorem Uk{M:Model}{A:Around}{E:AKP}{i:Nat}{x:Str}{v:V}{u:Value}{Q:Unit->Shared->Prop}(I:AI X pins σ H s)(hN:X.N.Nodup)(hi:X.N[i]?=some x)(hx:IW X.env.scope x)(r:Ab v u)
  (h:∀s',AI X pins (σ.set i (some v)) H s'->(∃a,Heap.SameBut a s.heap s'.heap/\(a=X.env.locals\/X.env.cells.lookup x=some a))->Q () s') (hf:X.fn x=true\/X.env.scope.names.lookup x=some .local):wpAny M A (storeName X.env x u) Q E s:=by
 obtain⟨m,hn,hl⟩:=id I.loc;have hcls:(X.env.scope.kind == .class || (X.env.scope.kind == .module&&X.env.locals != X.env.globals))=false:=by rw[I.ok.kind];rfl
 have hiσ:i<σ.length:=by rw[I.len];exact(BQ.mp hi).1
 have cne:=I.cne
 have tracked:∀{a:Addr} {h':Heap},(∃o,s.heap.get? a=some o/\H a=none)->Heap.SameBut a s.heap h'->CW X.prog X.w H h':=λ{a h'} ha hs b ob e=>by
  obtain⟨_,_,hfree⟩:=ha;refine(I.hok b ob e).stay (λc w' hc q=>(hs.2 c ?_).trans q) (λ_ q=>q) λ_ _ q=>q;rintro rfl;rcases hc with rfl|hc
  .rw[hfree] at e;cases e
  .rw[hfree] at hc;cases hc
 rcases hx with hk|hk
 .refine wpAny_storeName_local hk hn (λh' hn' hs=>?_) hcls;obtain⟨oL,_,_,hoL,_⟩:=id hn;refine h _ ⟨I.ok,I.os,I.bare,⟨λb o e n hb hx=>?_,λb o e n hb hx=>?_,I.base.free,λb o e hx=>?_,I.base.tups,I.base.frzs,I.base.tbls⟩,⟨_,hn',λj y v' e1 e2 e3=>?_⟩,λy c e=>?_,I.free,I.freeC,λp hp=>?_,tracked ⟨oL,hoL,I.free⟩ hs,by simpa using I.len⟩ ⟨_,hs,.inl rfl⟩
  .exact(hs.2 b (Bi (Cy (Heap.lt_size e) I.ok.above))).trans (I.base.keep b o e n hb hx)
  .obtain⟨sl,e1⟩:=I.base.slot b o e n hb hx;exact⟨sl,(hs.2 b (Bi (Cy (Heap.lt_size e) I.ok.above))).trans e1⟩
  .obtain⟨o',e1⟩:=I.base.there b o e hx;exact⟨o',(hs.2 b (Bi (Cy (Heap.lt_size e) I.ok.above))).trans e1⟩
  .by_cases hj:j=i
   .subst hj;rw[hi] at e1;cases e1;rw[AIm hiσ] at e2;cases e2;exact⟨u,r,.inl ⟨hk,by simp⟩⟩
   .rw[Dw (Ne.symm hj)] at e2;obtain⟨u',r',q⟩:=hl j y v' e1 e2 e3;refine⟨u',r',?_⟩;rcases q with⟨k,e⟩|⟨k,c,e,z⟩
    .refine .inl ⟨k,?_⟩;have:y≠x:=λe=>hj (RV hN e1 (e▸hi));simp[this,e]
    .exact .inr ⟨k,c,e,z.sameBut hs (cne y c e)⟩
  .obtain⟨w',z⟩:=I.cell y c e;exact⟨w',z.sameBut hs (cne y c e)⟩
  .obtain⟨e,n,ne,nf,d⟩:=I.pin p hp;exact⟨(hs.2 p.1 ne).trans e,n,ne,nf,d⟩
 .have hfn:X.fn x=true:=by
   rcases hf with z|z
   .exact z
   .rw[z] at hk;cases hk
  obtain⟨c,hc⟩:=I.ok.has x (.inl hk);obtain⟨w',z⟩:=I.cell x c hc;refine wpAny_storeName_cell I.ok.kind hk hc z (λh' hc' hs=>?_);obtain⟨oc,hoc,hocd⟩:=id z;refine h {s with heap:=h'} ⟨I.ok,I.os,I.bare,⟨λb o e n hb hx=>?_,λb o e n hb hx=>?_,I.base.free,λb o e hx=>?_,I.base.tups,I.base.frzs,I.base.tbls⟩,⟨m,hn.sameBut hs (Ne.symm (cne x c hc)),λj y v' e1 e2 e3=>?_⟩,λy c' e=>?_,I.free,I.freeC,λp hp=>?_,tracked ⟨oc,hoc,I.freeC x c hc⟩ hs,by simpa using I.len⟩ ⟨c,hs,.inr hc⟩
  .exact(hs.2 b (Bi (Cy (Heap.lt_size e) (I.ok.cab x c hfn hc)))).trans (I.base.keep b o e n hb hx)
  .obtain⟨sl,e1⟩:=I.base.slot b o e n hb hx;exact⟨sl,(hs.2 b (Bi (Cy (Heap.lt_size e) (I.ok.cab x c hfn hc)))).trans e1⟩
  .obtain⟨o',e1⟩:=I.base.there b o e hx;exact⟨o',(hs.2 b (Bi (Cy (Heap.lt_size e) (I.ok.cab x c hfn hc)))).trans e1⟩
  .by_cases hj:j=i
   .subst hj;rw[hi] at e1;cases e1;rw[AIm hiσ] at e2;cases e2;exact⟨u,r,.inr ⟨.inl hk,c,hc,hc'⟩⟩
   .rw[Dw (Ne.symm hj)] at e2;obtain⟨u',r',q⟩:=hl j y v' e1 e2 e3;refine⟨u',r',?_⟩;rcases q with q|⟨k,c',e,z'⟩
    .exact .inl q
    .refine .inr ⟨k,c',e,z'.sameBut hs ?_⟩;rintro rfl;exact hj (RV hN e1 (I.ok.inj _ _ _ e hc▸hi))
  .by_cases hcc:c'=c
   .subst hcc;exact⟨_,hc'⟩
   .obtain⟨w2,z2⟩:=I.cell y c' e;exact⟨w2,z2.sameBut hs hcc⟩
  .obtain⟨e,n,ne,nf,d⟩:=I.pin p hp;refine⟨(hs.2 p.1 ?_).trans e,n,ne,nf,d⟩;intro q;rw[q,hoc] at e;have q':oc=p.2:=Option.some.inj e;exact d w' (by rw[<-q'];exact hocd)
theorem ND{M:Model}{A:Around}{E:AKP}{i:Nat}{x:Str}{v:V}{u:Value}{Q:Unit->Shared->Prop}(I:AI X pins σ H s)(hN:X.N.Nodup)(hi:X.N[i]?=some x)(hx:IW X.env.scope x)(r:Ab v u)
  (h:∀s',AI X pins (σ.set i (some v)) H s'->Q () s') (hf:X.fn x=true\/X.env.scope.names.lookup x=some .local):wpAny M A (storeName X.env x u) Q E s :=
 Uk I hN hi hx r (λs' I' _=>h s' I') hf
theorem AI.call'{s':Shared}{ch:List Addr}(I:AI X pins σ H s)(ho:s'.os=s.os)(u:Un (CD X.stack) ch H H' s.heap s'.heap)(hok:CW X.prog X.w H' s'.heap)(hg:AllBare s'.gens)
  (hch:∀b∈ch,(b∈X.ex\/X.s₀.heap.objs.size<=b)/\b≠X.env.locals/\(∀x c,X.env.cells.lookup x=some c->c≠b)/\∀p∈X.pn++pins,p.1≠b):AI X pins σ H' s':=by
 obtain⟨h',g',d',t',o'⟩:=s';have e:o'=s.os:=ho;subst e;exact I.call (g':=g') (t':=t') (d':=d') u hok hg hch
end
abbrev XK:=Value->Option Addr->Hp->Prop
abbrev St:=List (Option V)
abbrev VK:=V->Hp->Prop
abbrev TE:=St->Hp->VK->Prop
abbrev TT:=St->Hp->(Bool->Hp->Prop)->Prop
abbrev TA:=St->Hp->(List V->Hp->Prop)->Prop
structure JK where
 nx:St->Hp->Prop
 rt:VK
 bk:St->Hp->Prop:=λ_ _=>False
 ct:St->Hp->Prop:=λ_ _=>False
abbrev TS:=JK->St->Hp->Prop
def EP(X:Cx)(pins:List (Addr×Obj))(σ:St)(Q:VK)(u:Value)(s':Shared):Prop:=∃v H',AI X pins σ H' s'/\Ab v u/\Q v H'
def TP(X:Cx)(pins:List (Addr×Obj))(σ:St)(Q:Bool->Hp->Prop)(b:Bool)(s':Shared):Prop:=∃H',AI X pins σ H' s'/\Q b H'
def AP(X:Cx)(pins:List (Addr×Obj))(σ:St)(Q:List V->Hp->Prop)(us:List Value)(s':Shared):Prop:=∃vs H',AI X pins σ H' s'/\Ae vs us/\Q vs H'
def SP(X:Cx)(pins:List (Addr×Obj))(D:JK)(f:Flow)(s':Shared):Prop :=
 match f with
 |.next=>∃σ' H',AI X pins σ' H' s'/\D.nx σ' H'
 |.brk=>∃σ' H',AI X pins σ' H' s'/\D.bk σ' H'
 |.cont=>∃σ' H',AI X pins σ' H' s'/\D.ct σ' H'
 |.ret u=>∃v σ' H',AI X pins σ' H' s'/\Ab v u/\D.rt v H'
def PE(X:Cx)(e:Expr)(t:TE):Prop :=
 ∀(pins:List (Addr×Obj)) (s:Shared) (σ:St) (H:Hp) (Q:VK),AI X pins σ H s->t σ H Q->wpAny (model X.prog X.w) X.A (eval e X.env) (EP X pins σ Q) X.xe s
def PT(X:Cx)(e:Expr)(t:TT):Prop :=
 ∀(pins:List (Addr×Obj)) (s:Shared) (σ:St) (H:Hp) (Q:Bool->Hp->Prop),AI X pins σ H s->t σ H Q->wpAny (model X.prog X.w) X.A (isTrue e X.env (eval e X.env)) (TP X pins σ Q) X.xe s
def PW(X:Cx)(e:Expr)(t:TT):Prop :=
 ∀(whole:Sem Value) (pins:List (Addr×Obj)) (s:Shared) (σ:St) (H:Hp) (Q:Bool->Hp->Prop),AI X pins σ H s->t σ H Q->wpAny (model X.prog X.w) X.A (isTrue e X.env whole) (TP X pins σ Q) X.xe s
theorem PW.pt{X:Cx}{e:Expr}{t:TT}(h:PW X e t):PT X e t:=h _
def PA(X:Cx)(es:List Expr)(t:TA):Prop :=
 ∀(pos:Pos) (pins:List (Addr×Obj)) (s:Shared) (σ:St) (H:Hp) (Q:List V->Hp->Prop),AI X pins σ H s->t σ H Q->wpAny (model X.prog X.w) X.A (spliced (backTo pos (starEach es X.env))) (AP X pins σ Q) X.xe s
def PS(X:Cx)(st:Stmt)(t:TS):Prop :=
 ∀(pins:List (Addr×Obj)) (s:Shared) (σ:St) (H:Hp) (D:JK),AI X pins σ H s->t D σ H->wpAny (model X.prog X.w) X.A (exec st X.env) (SP X pins D) X.xe s
def DT(X:Cx)(st:List Stmt)(t:TS):Prop :=
 ∀(pins:List (Addr×Obj)) (s:Shared) (σ:St) (H:Hp) (D:JK),AI X pins σ H s->t D σ H->wpAny (model X.prog X.w) X.A (execs st X.env) (SP X pins D) X.xe s
theorem Ad{α:Type}{t:Sem α}{Q Q':α->Shared->Prop}{M:Model}{A:Around}{E:AKP}{s:Shared}(h:wpAny M A t Q E s)(hQ:∀a s,Q a s->Q' a s):wpAny M A t Q' E s:=EM h hQ λ_ _ x=>x
section
variable {X:Cx}
def Qs(i:Nat):TE:=λσ H Q=>∃v,σ[i]?=some (some v)/\Q v H
def tC(v:V):TE:=λ_ H Q=>Q v H
theorem RO{i:Nat}{x:Str}{pos:Pos}(hN:X.N[i]?=some x)(hv:JC X.env.scope x)(hd:(x == ("__debug__":Str))=false)(hcd:(x == ("__classdict__":Str))=false):PE X (.Name x pos) (Qs i):=by
 intro pins s σ H Q I h;obtain⟨v,e,h⟩:=h;obtain⟨m,hn,hl⟩:=I.loc;obtain⟨u,r,l⟩:=hl i x v hN e hv;have fin:EP X pins σ Q u s:=⟨v,H,I,r,h⟩;rcases l with⟨hk,hm⟩|⟨hk,c,hc,hcell⟩
 .exact wpAny_Name (wpAny_loadName_local I.ok.kind hk hn hm fin) hd
 .rcases hk with hk|hk
  .exact wpAny_Name (wpAny_loadName_cell I.ok.kind hk hc hcell fin) hd
  .exact wpAny_Name (wpAny_loadName_free I.ok.kind hk hc hcell fin hcd) hd
theorem ACq{i j pos}:PE X (.Constant (.int i) j pos) (tC (.int i)):=λ_ _ _ H _ I h=>wpAny_Constant_int ⟨.int i,H,I.tok _,⟨_,rfl⟩,h⟩
theorem AC2{b j pos}:PE X (.Constant (.bool b) j pos) (tC (.bl b)):=λ_ _ _ H _ I h=>Constant_bool ⟨.bl b,H,I,rfl,h⟩
theorem ACm{j pos}:PE X (.Constant .none j pos) (tC .non):=λ_ _ _ H _ I h=>Constant_none ⟨.non,H,I,rfl,h⟩
theorem ACh{x j pos}:PE X (.Constant (.str x) j pos) (tC (.str x)):=λ_ _ _ H _ I h=>Calls.Constant_str ⟨.str x,H,I.tok _,⟨_,rfl⟩,h⟩
def Gl(X:Cx)(x:Str):Prop:=X.env.kindOf x=some .globalImplicit
theorem Hd{E:AKP}{pins:List (Addr×Obj)}{s:Shared}{σ:St}{H:Hp}{x:Str}{u:Value}{pos:Pos}{Q:AKP}(I:AI X pins σ H s)(hg:Gl X x)(hm:X.mg x=some u)(h:Q u s)
  (hd:(x == ("__debug__":Str))=false:=by decide):wpAny (model X.prog X.w) X.A (eval (.Name x pos) X.env) Q E s :=
 Calls.Name_function_global I.ok.kind hg (Calls.loadGlobal_global (by rw[I.ok.glob];exact I.mod.glob.keeps I.bk) hm h) hd
theorem Hy{E:AKP}{pins:List (Addr×Obj)}{s:Shared}{σ:St}{H:Hp}{x:Str}{u:Value}{pos:Pos}{Q:AKP}(I:AI X pins σ H s)(hg:Gl X x)(hm:X.mg x=none)(hv:bootBuiltins x=some u)(h:Q u s)
  (hn:x≠"__name__":=by decide) (hd:(x == ("__debug__":Str))=false:=by decide):wpAny (model X.prog X.w) X.A (eval (.Name x pos) X.env) Q E s:=by
 obtain⟨mb,h1,h2⟩:=I.mod.blt;exact Calls.Name_function_global I.ok.kind hg (Calls.loadGlobal_builtin (by rw[I.ok.glob];exact I.mod.glob.keeps I.bk) hm (by rw[I.ok.blt];exact h1.keeps I.bk) ((h2 x hn).trans hv) h) hd
theorem ACt{x:Str}{v:V}{u:Value}{pos:Pos}(hg:Gl X x)(hm:X.mg x=some u)(r:Ab v u)(hd:(x == ("__debug__":Str))=false:=by decide):PE X (.Name x pos) (tC v) :=
 λ_ _ _ H _ I h=>Hd I hg hm ⟨v,H,I,r,h⟩ hd
theorem AC1{x:Str}{v:V}{u:Value}{pos:Pos}(hg:Gl X x)(hm:X.mg x=none)(hv:bootBuiltins x=some u)(r:Ab v u)(hn:x≠"__name__":=by decide)(hd:(x == ("__debug__":Str))=false:=by decide):PE X (.Name x pos) (tC v) :=
 λ_ _ _ H _ I h=>Hy I hg hm hv ⟨v,H,I,r,h⟩ hn hd
variable {a b:Expr}{ta tb:TE}{pos:Pos}
def tB(t:TE):TT:=λσ H Q=>t σ H λx H1=>∃c,x=.bl c/\Q c H1
theorem AB7{e:Expr}{t:TE}(h:PE X e t)(he:∀whole,isTrue e X.env whole=(do let v <-whole;standAt e.pos;holding [v] (truthy v))):PT X e (tB t):=by intro pins s σ H Q I hw;refine isTrue_plain (Ad (h pins s σ H _ I hw) λv s1 z2_=>?_) (he _);obtain⟨x,H1,I1,r1,q1⟩:=z2_;obtain⟨d,rfl,q⟩:=q1;cases r1;exact AKC ⟨H1,I1,q⟩
variable {tA tB':TT}{rest:List Expr}
def AAy(t u:TT):TT:=λσ H Q=>t σ H λc H1=>if c=true then u σ H1 Q else Q false H1
def tOr(t u:TT):TT:=λσ H Q=>t σ H λc H1=>if c=true then Q true H1 else u σ H1 Q
def AAi(t:TT):TT:=λσ H Q=>t σ H λc H1=>Q (!c) H1
theorem ABz(ha:PT X a tA):PW X (.BoolOp .And [a] pos) tA:=by
 intro wh pins s σ H Q I h;refine isTrue_and (Ad (ha pins s σ H Q I h) λc s1 e=>?_)
 cases c with
 |true=>exact isTrue_and_nil e
 |false=>exact e
theorem ABx(ha:PT X a tA):PW X (.BoolOp .Or [a] pos) tA:=by
 intro wh pins s σ H Q I h;refine isTrue_or (Ad (ha pins s σ H Q I h) λc s1 e=>?_)
 cases c with
 |false=>exact isTrue_or_nil e
 |true=>exact e
theorem AB0(ha:PT X a tA)(hb:PW X (.BoolOp .And (b::rest) pos) tB'):PW X (.BoolOp .And (a::b::rest) pos) (AAy tA tB'):=by
 intro wh pins s σ H Q I h;refine isTrue_and (Ad (ha pins s σ H _ I h) λc s1 z2_=>?_);obtain⟨H1,I1,q1⟩:=z2_
 cases c with
 |true=>exact hb wh pins s1 σ H1 Q I1 q1
 |false=>exact⟨H1,I1,q1⟩
theorem ABy(ha:PT X a tA)(hb:PW X (.BoolOp .Or (b::rest) pos) tB'):PW X (.BoolOp .Or (a::b::rest) pos) (tOr tA tB'):=by
 intro wh pins s σ H Q I h;refine isTrue_or (Ad (ha pins s σ H _ I h) λc s1 z2_=>?_);obtain⟨H1,I1,q1⟩:=z2_
 cases c with
 |true=>exact⟨H1,I1,q1⟩
 |false=>exact hb wh pins s1 σ H1 Q I1 q1
theorem AB8(ha:PT X a tA):PT X (.UnaryOp .Not a pos) (AAi tA):=by intro pins s σ H Q I h;exact isTrue_not (ha pins s σ H (λc H1=>Q (!c) H1) I h)
def AAx(ta tb:TE):TE:=λσ H Q=>ta σ H λx H1=>∃c,x=.bl c/\if c=true then tb σ H1 Q else Q (.bl false) H1
def AAg(ta tb:TE):TE:=λσ H Q=>ta σ H λx H1=>∃c,x=.bl c/\if c=true then Q (.bl true) H1 else tb σ H1 Q
theorem ACl{op}{t:TE}(h:PE X a t):PE X (.BoolOp op [a] pos) t:=λpins s σ H Q I hw=>BoolOp_one (h pins s σ H Q I hw)
theorem AC3(ha:PE X a ta)(hb:PE X (.BoolOp .And (b::rest) pos) tb):PE X (.BoolOp .And (a::b::rest) pos) (AAx ta tb):=by
 intro pins s σ H Q I h;refine BoolOp_and (Ad (ha pins s σ H _ I h) λv s1 z2_=>?_);obtain⟨x,H1,I1,r1,q1⟩:=z2_;obtain⟨c,rfl,q1⟩:=q1;cases r1;refine AKC ?_
 cases c with
 |true=>exact hb pins s1 σ H1 Q I1 q1
 |false=>exact⟨.bl false,H1,I1,rfl,q1⟩
theorem ACj(ha:PE X a ta)(hb:PE X (.BoolOp .Or (b::rest) pos) tb):PE X (.BoolOp .Or (a::b::rest) pos) (AAg ta tb):=by
 intro pins s σ H Q I h;refine BoolOp_or (Ad (ha pins s σ H _ I h) λv s1 z2_=>?_);obtain⟨x,H1,I1,r1,q1⟩:=z2_;obtain⟨c,rfl,q1⟩:=q1;cases r1;refine AKC ?_
 cases c with
 |false=>exact hb pins s1 σ H1 Q I1 q1
 |true=>exact⟨.bl true,H1,I1,rfl,q1⟩
def tIf(t:TT)(ta tb:TE):TE:=λσ H Q=>t σ H λc H1=>if c=true then ta σ H1 Q else tb σ H1 Q
theorem ACr{c:Expr}(hc:PT X c tA)(ha:PE X a ta)(hb:PE X b tb):PE X (.IfExp c a b pos) (tIf tA ta tb):=by
 intro pins s σ H Q I h;refine wpAny_IfExp (Ad (hc pins s σ H _ I h) λd s1 z2_=>?_);obtain⟨H1,I1,q1⟩:=z2_
 cases d with
 |true=>exact ha pins s1 σ H1 Q I1 q1
 |false=>exact hb pins s1 σ H1 Q I1 q1
end
def BY(K:AM)(H:Hp)(a:Addr)(xs:List V):Prop :=
 Rd H a (.lst xs) \/
  ∃(o:Obj) (its:Array Value) (n:Nat),K.lookup a=some o/\o.cls=.type "list"/\o.dict=none/\o.data=.seq its n/\its.size<=sizeLine/\Ae xs its.toList
def Bp(K:AM)(H:Hp)(a:Addr)(xs:List V):Prop :=
 Rd H a (.tup xs) \/
  ∃(o:Obj) (its:Array Value) (n:Nat),K.lookup a=some o/\o.cls=.type "tuple"/\o.data=.seq its n/\its.size<=sizeLine/\Ae xs its.toList
def AGk:Value->Option V
 |.none=>some .non
 |.bool b=>some (.bl b)
 |.int i _=>some (.int i)
 |.str x _=>some (.str x)
 |.bytes b _=>some (.byt b)
 |.float b _=>some (.flt b)
 |.ref a=>some (.ref a)
 |.type n=>some (.ty n)
 |_=>none
theorem Ab.abs{x:V}{u:Value}(r:Ab x u):AGk u=some x:=by
 cases x with
 |non=>cases r;rfl
 |bl _=>cases r;rfl
 |int _=>obtain⟨t,rfl⟩:=r;rfl
 |str _=>obtain⟨t,rfl⟩:=r;rfl
 |byt _=>obtain⟨t,rfl⟩:=r;rfl
 |flt _=>obtain⟨t,rfl⟩:=r;rfl
 |ref _=>cases r;rfl
 |ty _=>cases r;rfl
theorem Ab.inj{x y:V}{u:Value}(r:Ab x u)(q:Ab y u):x=y:=Option.some.inj (r.abs.symm.trans q.abs)
theorem Ae.inj:∀{xs ys:List V} {us:List Value},Ae xs us->Ae ys us->xs=ys
 |_,_,_,.nil,.nil=>rfl
 |_,_,_,.cons r t,.cons r' t'=>by rw[r.inj r',Ae.inj t t']
section
variable {X:Cx}{pins:List (Addr×Obj)}{σ:St}{H:Hp}{s:Shared}{a:Addr}{xs ys:List V}
theorem BY.of{K:AM}(h:H a=some (.lst xs)):BY K H a xs:=.inl (.inl h)
theorem Bp.of{K:AM}(h:H a=some (.tup xs)):Bp K H a xs:=.inl (.inl h)
theorem AI.list(I:AI X pins σ H s)(h:BY X.K H a xs):∃its:List Value,Ae xs its/\PlainL s.heap a its.toArray/\xs.length<=sizeLine:=by
 rcases h with h|⟨o,its,n,hk,hc,hd,hs,hz,r⟩
 .obtain⟨z,its,n,r,e⟩:=h.ok I.hok;exact⟨its,r,⟨_,n,e,rfl,rfl,rfl⟩,z⟩
 .refine⟨its.toList,r,⟨o,n,I.kIn a o hk,hc,hd,by simpa using hs⟩,?_⟩;have e:=r.length;simp only[AJe] at e;omega
theorem AI.tuple(I:AI X pins σ H s)(h:Bp X.K H a xs):∃its:List Value,Ae xs its/\IsTup s.heap a its.toArray/\xs.length<=sizeLine:=by
 rcases h with h|⟨o,its,n,hk,hc,hs,hz,r⟩
 .obtain⟨z,its,r,p⟩:=h.ok I.hok;exact⟨its,r,p,z⟩
 .refine⟨its.toList,r,⟨o,I.kIn a o hk,hc,n,by simpa using hs⟩,?_⟩;have e:=r.length;simp only[AJe] at e;omega
theorem AI.list_inj(I:AI X pins σ H s)(h:BY X.K H a xs)(h':BY X.K H a ys):xs=ys:=by
 obtain⟨its,r,⟨o,n,e,_,_,d⟩,_⟩:=I.list h;obtain⟨its',r',⟨o',n',e',_,_,d'⟩,_⟩:=I.list h';rw[e] at e';cases e';rw[d] at d'
 injection d' with d1 _
 have:its=its':=by simpa using congrArg Array.toList d1
 subst this;exact r.inj r'
theorem AI.tuple_inj(I:AI X pins σ H s)(h:Bp X.K H a xs)(h':Bp X.K H a ys):xs=ys:=by
 obtain⟨its,r,⟨o,e,_,n,d⟩,_⟩:=I.tuple h;obtain⟨its',r',⟨o',e',_,n',d'⟩,_⟩:=I.tuple h';rw[e] at e';cases e';rw[d] at d'
 injection d' with d1 _
 have:its=its':=by simpa using congrArg Array.toList d1
 subst this;exact r.inj r'
end
abbrev Cx.wish(X:Cx)(E:AKP):Cx:={X with xe:=E}
abbrev Cx.nox(X:Cx):Cx:=X.wish λ_ _=>False
theorem Cx.Ok.wish{X:Cx}(ok:X.Ok)(E:AKP):(X.wish E).Ok :=
 ⟨ok.mod,ok.kind,ok.glob,ok.blt,ok.above,ok.inj,ok.has,ok.cab,ok.hd,ok.frames,ok.stk,ok.exf,ok.bs,ok.bsz,ok.noex,ok.exfs,ok.funs,ok.frf⟩
theorem Cx.Ok.unwish{X:Cx}{E:AKP}(ok:(X.wish E).Ok):X.Ok :=
 ⟨ok.mod,ok.kind,ok.glob,ok.blt,ok.above,ok.inj,ok.has,ok.cab,ok.hd,ok.frames,ok.stk,ok.exf,ok.bs,ok.bsz,ok.noex,ok.exfs,ok.funs,ok.frf⟩
section
variable {X:Cx}{pins:List (Addr×Obj)}{σ:St}{H:Hp}{s:Shared}{E:AKP}
theorem AI.wish(I:AI X pins σ H s)(E:AKP):AI (X.wish E) pins σ H s:=⟨I.ok.wish E,I.os,I.bare,I.base,I.loc,I.cell,I.free,I.freeC,I.pin,I.hok,I.len⟩
theorem AI.unwish(I:AI (X.wish E) pins σ H s):AI X pins σ H s:=⟨I.ok.unwish,I.os,I.bare,I.base,I.loc,I.cell,I.free,I.freeC,I.pin,I.hok,I.len⟩
theorem SP.unwish{D:JK}{f:Flow}{s':Shared}(h:SP (X.wish E) pins D f s'):SP X pins D f s':=by
 cases f with
 |next=>obtain⟨σ',H',I,q⟩:=h;exact⟨σ',H',I.unwish,q⟩
 |brk=>obtain⟨σ',H',I,q⟩:=h;exact⟨σ',H',I.unwish,q⟩
 |cont=>obtain⟨σ',H',I,q⟩:=h;exact⟨σ',H',I.unwish,q⟩
 |ret u=>obtain⟨v,σ',H',I,r,q⟩:=h;exact⟨v,σ',H',I.unwish,r,q⟩
theorem PE.nox{e:Expr}{t:TE}(h:PE X.nox e t):PE X e t:=λpins s σ H Q I hw =>
 EM (h pins s σ H Q (I.wish _) hw) (λ_ _ z2_=>(by obtain⟨v,H',I',r,q⟩:=z2_;exact⟨v,H',I'.unwish,r,q⟩)) λ_ _ z=>False.elim z
theorem PT.nox{e:Expr}{t:TT}(h:PT X.nox e t):PT X e t:=λpins s σ H Q I hw =>
 EM (h pins s σ H Q (I.wish _) hw) (λ_ _ z2_=>(by obtain⟨H',I',q⟩:=z2_;exact⟨H',I'.unwish,q⟩)) λ_ _ z=>False.elim z
theorem DT.nox{st:List Stmt}{t:TS}(h:DT X.nox st t):DT X st t:=λpins s σ H D I hw =>
 EM (h pins s σ H D (I.wish _) hw) (λ_ _ q=>q.unwish) λ_ _ z=>False.elim z
end
section
variable {X:Cx}{st:Stmt}{rest:List Stmt}{t u:TS}{e:Expr}{te:TE}{pos:Pos}
def AAk:TS:=λD σ H=>D.nx σ H
def AAd(t u:TS):TS:=λD σ H=>t {D with nx:=u D} σ H
theorem VN:DT X [] AAk:=λ_ _ σ H _ I h=>AKD ⟨σ,H,I,h⟩
theorem VO(h1:PS X st t)(h2:DT X rest u):DT X (st::rest) (AAd t u):=by
 intro pins s σ H D I h;refine wpAny_execs_cons (Ad (h1 pins s σ H {D with nx:=u D} I h) λf s1 q=>?_)
 cases f with
 |next =>
  obtain⟨σ',H',I',q⟩:=q;exact h2 pins s1 σ' H' D I' q
 |ret v=>exact q
 |brk=>exact q
 |cont=>exact q
theorem VM(h1:PS X st t):DT X [st] t:=by
 intro pins s σ H D I h;refine wpAny_execs_cons (Ad (h1 pins s σ H D I h) λf s1 q=>?_)
 cases f with
 |next=>exact AKD q
 |ret v=>exact q
 |brk=>exact q
 |cont=>exact q
def AAt:TS:=λD σ H=>D.bk σ H
theorem ACK:PS X (.Break pos) AAt:=λ_ _ σ H _ I h=>wpAny_Break ⟨σ,H,I,h⟩
theorem AI.quiet{pins:List (Addr×Obj)}{σ:St}{H:Hp}{s:Shared}(I:AI X pins σ H s):interactive X.env=false:=by simp[interactive,I.ok.kind]
def AAr(te:TE):TS:=λD σ H=>te σ H λ_ H1=>D.nx σ H1
theorem ACJ(he:PE X e te)(hs:swapsWith e none pos.line X.env=pure false):PS X (.Expr e pos) (AAr te):=by intro pins s σ H D I h;exact wpAny_Expr_any (Ad (he pins s σ H _ I h) λv s1 z2_=>(by obtain⟨x,H1,I1,r1,q1⟩:=z2_;exact⟨σ,H1,I1,q1⟩)) I.quiet hs
def AAe(te:TE):TS:=λD σ H=>te σ H D.rt
theorem ACD(he:PE X e te):PS X (.Return (some e) pos) (AAe te):=by intro pins s σ H D I h;exact wpAny_Return_some (Ad (he pins s σ H _ I h) λv s1 z2_=>(by obtain⟨x,H1,I1,r1,q1⟩:=z2_;exact⟨x,σ,H1,I1,r1,q1⟩))
def AAn(c:TT)(t u:TS):TS:=λD σ H=>c σ H λb H1=>if b=true then t D σ H1 else u D σ H1
theorem VP{c:Expr}{a b:List Stmt}{tc:TT}(hc:PT X c tc)(ha:DT X a t)(hb:DT X b u):PS X (.If c a b pos) (AAn tc t u):=by
 intro pins s σ H D I h;refine wpAny_If (Ad (hc pins s σ H _ I h) λd s1 z2_=>?_);obtain⟨H1,I1,q1⟩:=z2_
 cases d with
 |true=>exact ha pins s1 σ H1 D I1 q1
 |false=>exact hb pins s1 σ H1 D I1 q1
def AAl:TS:=λ_ _ _=>False
theorem ACF:PS X st AAl:=λ_ _ _ _ _ _ h=>h.elim
end
abbrev TG:=V->St->Hp->(St->Hp->Prop)->Prop
abbrev HH:=List V->St->Hp->(St->Hp->Prop)->Prop
def PG(X:Cx)(target:Expr)(t:TG):Prop :=
 ∀(pins:List (Addr×Obj)) (s:Shared) (σ:St) (H:Hp) (v:V) (u:Value) (Q:St->Hp->Prop),AI X pins σ H s->Ab v u->t v σ H Q ->
  wpAny (model X.prog X.w) X.A (assign target X.env u) (λ_ s'=>∃σ' H',AI X pins σ' H' s'/\Q σ' H') X.xe s
def HK(X:Cx)(ts:List Expr)(t:HH):Prop :=
 ∀(pins:List (Addr×Obj)) (s:Shared) (σ:St) (H:Hp) (vs:List V) (us:List Value) (Q:St->Hp->Prop),AI X pins σ H s->Ae vs us->t vs σ H Q ->
  wpAny (model X.prog X.w) X.A (assignInOrder ((assignEach ts X.env).map (·.2)) us) (λ_ s'=>∃σ' H',AI X pins σ' H' s'/\Q σ' H') X.xe s
abbrev OS:=V->V->V->Hp->(Hp->Prop)->Prop
def Si(X:Cx)(t:OS):Prop :=
 ∀(pins:List (Addr×Obj)) (s:Shared) (σ:St) (H:Hp) (o i v:V) (ov iv u:Value) (Q:Hp->Prop),AI X pins σ H s->Ab o ov->Ab i iv->Ab v u->t o i v H Q ->
  wpAny (model X.prog X.w) X.A (setItem ov iv u) (λ_ s'=>∃H',AI X pins σ H' s'/\Q H') X.xe s
abbrev OT:=V->V->Hp->VK->Prop
def Sj(X:Cx)(op:Operator)(t:OT):Prop :=
 ∀(pins:List (Addr×Obj)) (s:Shared) (σ:St) (H:Hp) (x y:V) (v u:Value) (Q:VK),AI X pins σ H s->Ab x v->Ab y u->t x y H Q ->
  wpAny (model X.prog X.w) X.A (inplaceOp op v u) (EP X pins σ Q) X.xe s
section
variable {X:Cx}{pos:Pos}
def XQ(i:Nat):TG:=λv σ H Q=>Q (σ.set i (some v)) H
theorem ACe{i:Nat}{x:Str}(hN:X.N.Nodup)(hi:X.N[i]?=some x)(hx:IW X.env.scope x)(hf:X.fn x=true\/X.env.scope.names.lookup x=some .local):PG X (.Name x pos) (XQ i):=by intro pins s σ H v u Q I r h;exact wpAny_assign_Name (ND I hN hi hx r (λs' I'=>⟨_,H,I',h⟩) hf)
def AFB:HH:=λvs σ H Q=>vs=[]/\Q σ H
def AFG(t:TG)(u:HH):HH:=λvs σ H Q=>∃v r,vs=v::r/\t v σ H λσ' H'=>u r σ' H' Q
theorem ACc:HK X [] AFB:=by intro pins s σ H vs us Q I r h;obtain⟨e,h⟩:=h;subst e;cases r;exact assignInOrder_nil ⟨σ,H,I,h⟩
theorem ACd{e:Expr}{es:List Expr}{t:TG}{u:HH}(h1:PG X e t)(h2:HK X es u)
  (hs:(assignEach (e::es) X.env).map (·.2)=assign e X.env::(assignEach es X.env).map (·.2):=by rfl):HK X (e::es) (AFG t u):=by
 intro pins s σ H vs us Q I r h;obtain⟨v,vr,e1,h⟩:=h;subst e1
 cases r with
 |cons r rr =>
  rw[hs];refine assignInOrder_cons (Ad (h1 pins s σ H _ _ _ I r h) λ_ s1 z2_=>?_);obtain⟨σ1,H1,I1,q1⟩:=z2_;exact h2 pins s1 σ1 H1 _ _ Q I1 rr q1
def AFA(K:AM)(n:Nat)(t:HH):TG:=λv σ H Q=>∃a xs,v=.ref a/\Bp K H a xs/\xs.length=n/\t xs σ H Q
theorem VZ{es:List Expr}{k:Nat}{t:HH}{n:Nat}(hc:X.calm=true)(h:HK X es t)
  (hn:(assignEach es X.env).length=n:=by rfl) (hst:(assignEach es X.env).findIdx? (·.1)=none:=by rfl):PG X (.Tuple es k pos) (AFA X.K n t):=by
 intro pins s σ H v u Q I r hw;obtain⟨a,xs,e1,hq,hl,hw⟩:=hw;subst e1;cases r;obtain⟨its,rv,ht,hz⟩:=I.tuple hq;refine assign_Tuple_tuple (I.ok.hd hc) ht (by simp[hn,<-hl,rv.length]) hst λh' hx=>?_;have I1:AI X pins σ H {s with heap:=h'}:=I.kept (t':=s.toks) λb o e=>hx b o (Bi (Heap.lt_size e)) e;exact h pins _ σ H xs _ Q I1 (by simpa using rv) hw
def Gx(to ti:TE)(t:OS):TG:=λv σ H Q=>to σ H λo H1=>ti σ H1 λi H2=>t o i v H2 λH3=>Q σ H3
theorem Va{o i:Expr}{to ti:TE}{t:OS}(ho:PE X o to)(hi:PE X i ti)(hs:Si X t)
  (ha:∀v,assign (.Subscript o i pos) X.env v=(do
   let ov <-holding [v] (eval o X.env)
   let iv <-holding [v,ov] (eval i X.env)
   standAt pos
   holding [v,ov,iv] (setItem ov iv v)
   release [v,ov,iv] []):=by intro _;rfl):PG X (.Subscript o i pos) (Gx to ti t):=by
 intro pins s σ H v u Q I r h;rw[ha];refine AH (Do (Ad (ho pins s σ H _ I h) λov s1 z2_=>?_));obtain⟨x,H1,I1,r1,q1⟩:=z2_;refine AH (Do (Ad (hi pins s1 σ H1 _ I1 q1) λiv s2 z2_=>?_));obtain⟨y,H2,I2,r2,q2⟩:=z2_;refine AH (wpAny_standAt (AH (Do (Ad (hs pins s2 σ H2 x y v ov iv u _ I2 r1 r2 r q2) λ_ s3 z2_=>?_))));obtain⟨H3,I3,q3⟩:=z2_;exact wpAny_release ⟨σ,H3,I3,q3⟩
def UW(te:TE)(g:TG):TS:=λD σ H=>te σ H λx H1=>g x σ H1 D.nx
theorem RG{tg e:Expr}{te:TE}{g:TG}(he:PE X e te)(hg:PG X tg g)(hs:swapsWithSole [tg] e pos.line X.env=pure false)(hw:swappedStores [tg] e X.env=pure none)
  (h1:(assignEach [tg] X.env).map (·.2)=[assign tg X.env]):PS X (.Assign [tg] e pos) (UW te g):=by
 intro pins s σ H D I h;refine wpAny_Assign_stores (Ad (he pins s σ H _ I h) λv s1 z2_=>?_) hs hw;obtain⟨x,H1,I1,r1,q1⟩:=z2_;rw[h1];exact Ad (hg pins s1 σ H1 x v _ I1 r1 q1) λ_ s2 q=>q
theorem ACC{i:Nat}{x:Str}{e:Expr}{te:TE}{pos':Pos}(hN:X.N.Nodup)(hi:X.N[i]?=some x)(hx:IW X.env.scope x)(he:PE X e te)(hs:swapsWith e (some (.Name x pos')) pos.line X.env=pure false)(hf:X.fn x=true\/X.env.scope.names.lookup x=some .local) :
  PS X (.Assign [.Name x pos'] e pos) (UW te (XQ i)):=by
 intro pins s σ H D I h;refine wpAny_Assign_Name (Ad (he pins s σ H _ I h) λv s1 z2_=>?_) hs;obtain⟨y,H1,I1,r1,q1⟩:=z2_;exact ND I1 hN hi hx r1 (λs2 I2=>⟨_,H1,I2,q1⟩) hf
def AAw(i:Nat)(te:TE)(ti:OT):TS:=λD σ H=>∃x,σ[i]?=some (some x)/\te σ H λy H1=>ti x y H1 λz H2=>D.nx (σ.set i (some z)) H2
theorem ACL{i:Nat}{x:Str}{e:Expr}{te:TE}{op:Operator}{ti:OT}{pos':Pos}(hN:X.N.Nodup)(hi:X.N[i]?=some x)(hx:IW X.env.scope x)(he:PE X e te)(ho:Sj X op ti)(hf:X.fn x=true\/X.env.scope.names.lookup x=some .local) :
  PS X (.AugAssign (.Name x pos') op e pos) (AAw i te ti):=by
 intro pins s σ H D I h;obtain⟨v,e1,h⟩:=h;obtain⟨m,hn,hl⟩:=I.loc;have vis:JC X.env.scope x:=by rcases hx with k|k;exact .inl k;exact .inr (.inl k)
 obtain⟨u,r,l⟩:=hl i x v hi e1 vis;refine wpAny_AugAssign_Name ?_
 have go:wpAny (model X.prog X.w) X.A (eval e X.env) (λw s₂=>wpAny (model X.prog X.w) X.A (inplaceOp op u w) (λr s₃=>wpAny (model X.prog X.w) X.A (storeName X.env x r) (λ_=>SP X pins D .next) X.xe s₃) X.xe s₂) X.xe s:=by refine Ad (he pins s σ H _ I h) λw s1 z2_=>?_;obtain⟨y,H1,I1,r1,q1⟩:=z2_;refine Ad (ho pins s1 σ H1 v y u w _ I1 r r1 q1) λz s2 z2_=>?_;obtain⟨zv,H2,I2,r2,q2⟩:=z2_;exact ND I2 hN hi hx r2 (λs3 I3=>⟨_,H2,I3,q2⟩) hf
 rcases l with⟨hk,hm⟩|⟨hk,c,hc,hcell⟩
 .exact wpAny_loadName_local I.ok.kind hk hn hm go
 .rcases hk with hk|hk
  .exact wpAny_loadName_cell I.ok.kind hk hc hcell go
  .rcases hx with k|k
   .have:X.env.scope.names.lookup x=some .free:=hk;rw[k] at this;cases this
   .have:X.env.scope.names.lookup x=some .free:=hk;rw[k] at this;cases this
def Wk(f:Int->Int->Int):OT:=λx y H Q=>∃i j,x=.int i/\y=.int j/\Q (.int (f i j)) H
theorem Wj:Sj X .Sub (Wk λi j=>i-j):=by intro pins s σ H x y v u Q I r1 r2 h;obtain⟨i,j,e1,e2,q⟩:=h;subst e1;subst e2;obtain⟨t,rfl⟩:=r1;obtain⟨t',rfl⟩:=r2;exact isub_int ⟨.int _,H,I.tok _,⟨_,rfl⟩,q⟩
end
section
variable {X:Cx}{pos:Pos}
def AAZ(c:TT)(tb:TS):TS:=λD σ H=>∃W:Nat->St->Hp->Prop,(∃m,W m σ H)/\∀m σ H,W m σ H ->
 c σ H λb H1=>if b=true then ∃N:St->Hp->Prop,(∀σ' H',N σ' H'->∃m',m'<m/\W m' σ' H')/\tb {D with nx:=N,ct:=N,bk:=D.nx} σ H1 else D.nx σ H1
theorem ACB{c:Expr}{body:List Stmt}{tc:TT}{tb:TS}(hp:PassesOwn (model X.prog X.w) X.A X.env X.xe)(hc:PT X c tc)(hb:DT X body tb):PS X (.While c body [] pos) (AAZ tc tb):=by
 intro pins s σ H D I h;obtain⟨W,⟨m0,w0⟩,turn⟩:=h;refine wpAny_While (codeAny_whileLoop (λn s'=>∃σ' H',AI X pins σ' H' s'/\W n σ' H') ?_ m0 ⟨σ,H,I,w0⟩);rintro n s1 ⟨σ1,H1,I1,w1⟩;refine AKE hp (Ad (hc pins s1 σ1 H1 _ I1 (turn n σ1 H1 w1)) λb s2 z2_=>?_);obtain⟨H2,I2,q2⟩:=z2_
 cases b with
 |true =>
  obtain⟨N,hN,q2⟩:=q2;rw[if_pos rfl];refine AKE hp (Ad (hb pins s2 σ1 H2 _ I2 q2) λf s3 q3=>?_)
  cases f with
  |next =>
   obtain⟨σ3,H3,I3,n3⟩:=q3;obtain⟨m',hm,w3⟩:=hN σ3 H3 n3;exact⟨m',hm,σ3,H3,I3,w3⟩
  |cont =>
   obtain⟨σ3,H3,I3,n3⟩:=q3;obtain⟨m',hm,w3⟩:=hN σ3 H3 n3;exact⟨m',hm,σ3,H3,I3,w3⟩
  |brk=>exact q3
  |ret v=>exact q3
 |false =>
  rw[if_neg Cc];exact AKD ⟨σ1,H2,I2,q2⟩
end
structure It where
 go:Nat->Hp->Prop
 yld:Nat->Hp->V->Hp->Prop
 stop:Nat->Hp->Prop
def HP(X:Cx)(pins:List (Addr×Obj))(H:Hp)(b:Addr):Prop :=
 H b=none/\b≠X.env.locals/\b∉X.fs/\(b∈X.ex\/X.s₀.heap.objs.size<=b)/\(∀x c,X.env.cells.lookup x=some c->c≠b)/\∀p∈X.pn++pins,p.1≠b
theorem AI.fpOk{X:Cx}{pins:List (Addr×Obj)}{σ:St}{H H':Hp}{s:Shared}{b:Addr}(I:AI X pins σ H s)(hb:s.heap.objs.size<=b)(hn:H' b=none):HP X pins H' b:=by
 refine⟨hn,Gi (Cy I.lt hb),I.nofs hb,.inr (Ch I.sz hb),λx c e z=>?_,λp hp z=>?_⟩
 .obtain⟨v,q⟩:=I.cell x c e;exact absurd (Cy q.lt (by rw[z];exact hb)) (HR _)
 .exact absurd (Cy (Heap.lt_size (I.pin p hp).1) (by rw[z];exact hb)) (HR _)
structure Hl (P:Program) (w:World) (K:AM) (tg:Expr) (J:It) (fp:List Addr) (it:Addr) (tn:Nat->Heap->Prop):Prop where
 mem:it∈fp
 obj:∀i h,tn i h->∀b∈fp,∃o,h.get? b=some o/\∀v,o.data≠.cell v
 keep:∀i h h',tn i h->(∀b∈fp,∀o,h.get? b=some o->h'.get? b=some o)->tn i h'
 item:∀(X:Cx),X.prog=P->X.w=w->X.K=K->X.calm=true->∀(i:Nat) (pins:List (Addr×Obj)) (s:Shared) (σ:St) (H:Hp) (E:AKP),AI X pins σ H s->(∀b∈fp,HP X pins H b)->tn i s.heap->J.go i H ->
  wpAny (model P w) X.A (pyNext (.ref it)) (λr s1=>∃u,r=some u /\
   wpAny (model P w) X.A (letOwnedTupleGo tg (.ref it) u) (λ_ s2=>∃x H',AI X pins σ H' s2/\Ab x u/\J.yld i H x H'/\tn (i+1) s2.heap/\∀b∈fp,H' b=none) E s1) E s
 done:∀(X:Cx),X.prog=P->X.w=w->X.K=K->X.calm=true->∀(i:Nat) (pins:List (Addr×Obj)) (s:Shared) (σ:St) (H:Hp) (E:AKP),AI X pins σ H s->(∀b∈fp,HP X pins H b)->tn i s.heap->J.stop i H ->
  wpAny (model P w) X.A (pyNext (.ref it)) (λr s1=>r=none/\AI X pins σ H s1) E s
 self:∀(A:Around) (i:Nat) (s:Shared) (Q:AKP) (E:AKP),tn i s.heap->Q (.ref it) s->wpAny (model P w) A (pyIter (.ref it)) Q E s
abbrev TI:=St->Hp->(It->Hp->Prop)->Prop
def Yj(X:Cx)(pins:List (Addr×Obj))(σ:St)(tg:Expr)(R:It->Hp->Prop)(itv:Value)(s2:Shared):Prop :=
 ∃(it:Addr) (fp:List Addr) (tn:Nat->Heap->Prop) (J:It) (H':Hp),itv=.ref it/\AI X pins σ H' s2/\Hl X.prog X.w X.K tg J fp it tn/\tn 0 s2.heap/\(∀b∈fp,HP X pins H' b)/\R J H'
def PI(X:Cx)(tg iter:Expr)(wi:TI):Prop :=
 ∀(pins:List (Addr×Obj)) (s:Shared) (σ:St) (H:Hp) (R:It->Hp->Prop),AI X pins σ H s->wi σ H R ->
  wpAny (model X.prog X.w) X.A (eval iter X.env) (λv s1=>wpAny (model X.prog X.w) X.A (pyIter v) (Yj X pins σ tg R) X.xe s1) X.xe s
theorem Np{M:Model}{A:Around}{E:AKP}{s:Shared}{tg:Expr}{it:Addr}{u:Value}{o:Obj}{n:String}{vs:Array Value}{Q:Unit->Shared->Prop}(ho:s.heap.get? it=some o)(hc:o.cls=.type n)(hd:o.data=.fields vs)
  (hn:["enumerate","zip","dict_itemiterator","dict_reverseitemiterator","odict_iterator","itertools.zip_longest","itertools.pairwise"].contains n=false) (hQ:Q () s):wpAny M A (letOwnedTupleGo tg (.ref it) u) Q E s:=by
 unfold letOwnedTupleGo
 cases tg <;> first
  |exact AR hQ
  |(cases u <;> first
    |exact AR hQ
    |(refine AH (wpAny_load ho ?_)
      rw[hc,hd]
      show wpAny M A (if (["enumerate","zip","dict_itemiterator","dict_reverseitemiterator","odict_iterator","itertools.zip_longest","itertools.pairwise"].contains n&&vs[0]? == some (rawInt _))=true then _ else _) Q E s
      rw[if_neg (by intro h;rw[hn,Bool.false_and] at h;cases h)]
      exact AR hQ))
def Yp(K:AM)(a:Addr):It :=
 ⟨λi H=>∃xs x,BY K H a xs/\xs[i]?=some x,λi H x H'=>H'=H/\∀xs,BY K H a xs->xs[i]?=some x,λi H=>∃xs,BY K H a xs/\xs.length<=i⟩
def Yn(K:AM)(a:Addr):It :=
 ⟨λi H=>∃xs x,Bp K H a xs/\xs[i]?=some x,λi H x H'=>H'=H/\∀xs,Bp K H a xs->xs[i]?=some x,λi H=>∃xs,Bp K H a xs/\xs.length<=i⟩
def MG(lo:Int)(n:Nat):It:=⟨λi _=>i<n,λi H x H'=>H'=H/\x=.int (lo+i),λi _=>n<=i⟩
theorem AAN{P:Program}{w:World}{K:AM}{tg:Expr}(a it:Addr):Hl P w K tg (Yp K a) [it] it (λi h=>h.IsListIter it a i) where
 mem:=by simp
 obj:=λi h st b hb=>by
  have e:b=it:=by simpa using hb
  subst e;obtain⟨o,e,c,d⟩:=st;exact⟨o,e,λv z=>by rw[d] at z;cases z⟩
 keep:=λi h h' st k=>st.at λo e=>k it (by simp) o e
 item:=by intro X hP hw hK hc i pins s σ H E I hf st hg;subst hP hw hK;obtain⟨xs,x,hq,hx⟩:=hg;obtain⟨its,rv,p,hz⟩:=I.list hq;obtain⟨u,hu,ru⟩:=rv.get hx;obtain⟨f0,f1,f2,f3,f4,f5⟩:=hf it (by simp);refine wpAny_pyNext_list_item st p.isList (x:=u) (by simpa using hu) λh' st' sb=>?_;have I1:AI X pins σ H {s with heap:=h'}:=I.turned (t':=s.toks) (λb o hb e=>(sb.2 b hb).trans e) f0 f1 f3 f4 f5;obtain⟨o,e,c,d⟩:=id st';exact⟨u,rfl,Np (s:={s with heap:=h'}) e c d (by decide) ⟨x,H,I1,ru,⟨rfl,λys hy=>by rw[I.list_inj hy hq];exact hx⟩,st',λb hb=>(hf b hb).1⟩⟩
 done:=by intro X hP hw hK hc i pins s σ H E I hf st hg;subst hP hw hK;obtain⟨xs,hq,hx⟩:=hg;obtain⟨its,rv,p,hz⟩:=I.list hq;obtain⟨f0,f1,f2,f3,f4,f5⟩:=hf it (by simp);have hl:=rv.length;exact wpAny_pyNext_list_end (I.ok.hd hc) st p.isList (by simp;omega) λh' eb=>⟨rfl,I.turned (t':=s.toks) (λb o hb e=>eb b o hb e) f0 f1 f3 f4 f5⟩
 self:=λ_ _ _ _ _ st h=>wpAny_pyIter_listiter st h
theorem AAK{P:Program}{w:World}{K:AM}{tg:Expr}(a it:Addr):Hl P w K tg (Yn K a) [it] it (λi h=>h.IsTupleIter it a i) where
 mem:=by simp
 obj:=λi h st b hb=>by
  have e:b=it:=by simpa using hb
  subst e;obtain⟨o,e,c,d⟩:=st;exact⟨o,e,λv z=>by rw[d] at z;cases z⟩
 keep:=λi h h' st k=>st.at λo e=>k it (by simp) o e
 item:=by intro X hP hw hK hc i pins s σ H E I hf st hg;subst hP hw hK;obtain⟨xs,x,hq,hx⟩:=hg;obtain⟨its,rv,p,hz⟩:=I.tuple hq;obtain⟨u,hu,ru⟩:=rv.get hx;obtain⟨f0,f1,f2,f3,f4,f5⟩:=hf it (by simp);refine wpAny_pyNext_tuple_item st (show s.heap.IsTuple a its.toArray from p) (x:=u) (by simpa using hu) λh' st' sb=>?_;have I1:AI X pins σ H {s with heap:=h'}:=I.turned (t':=s.toks) (λb o hb e=>(sb.2 b hb).trans e) f0 f1 f3 f4 f5;obtain⟨o,e,c,d⟩:=id st';exact⟨u,rfl,Np (s:={s with heap:=h'}) e c d (by decide) ⟨x,H,I1,ru,⟨rfl,λys hy=>by rw[I.tuple_inj hy hq];exact hx⟩,st',λb hb=>(hf b hb).1⟩⟩
 done:=by intro X hP hw hK hc i pins s σ H E I hf st hg;subst hP hw hK;obtain⟨xs,hq,hx⟩:=hg;obtain⟨its,rv,p,hz⟩:=I.tuple hq;obtain⟨f0,f1,f2,f3,f4,f5⟩:=hf it (by simp);have hl:=rv.length;exact wpAny_pyNext_tuple_end (I.ok.hd hc) st (show s.heap.IsTuple a its.toArray from p) (by simp;omega) λh' eb=>⟨rfl,I.turned (t':=s.toks) (λb o hb e=>eb b o hb e) f0 f1 f3 f4 f5⟩
 self:=λ_ _ _ _ _ st h=>wpAny_pyIter_tupleiter st h
theorem AAL{P:Program}{w:World}{K:AM}{tg:Expr}(it:Addr)(lo:Int)(n:Nat):Hl P w K tg (MG lo n) [it] it (λi h=>IsRangeIter h it (lo+(i:Nat)*1) ((n:Int)-(i:Nat)) 1) where
 mem:=by simp
 obj:=λi h st b hb=>by
  have e:b=it:=by simpa using hb
  subst e
  exact⟨_,st,λv z=>by
   have z':Data.fields _=Data.cell v:=z
   cases z'⟩
 keep:=λi h h' st k=>k it (by simp) _ st
 item:=by intro X hP hw hK hc i pins s σ H E I hf st hg;subst hP hw hK;obtain⟨f0,f1,f2,f3,f4,f5⟩:=hf it (by simp);have W:=Walks.range (prog:=X.prog) (w:=X.w) (I.ok.hd hc) it lo 1 n;refine W.item i s _ _ hg st λv h' tk hv st' kk=>?_;obtain⟨t,rfl⟩:=hv;have I1:AI X pins σ H {s with heap:=h',toks:=tk}:=I.turned (λb o hb e=>kk b o (by simpa using hb) e) f0 f1 f3 f4 f5;refine⟨_,rfl,Np (s:={s with heap:=h',toks:=tk}) (n:="range_iterator") st' rfl rfl (by decide) ⟨.int (lo+i),H,I1,⟨t,?_⟩,⟨rfl,rfl⟩,st',λb hb=>(hf b hb).1⟩⟩;rw[Int.mul_one]
 done:=by intro X hP hw hK hc i pins s σ H E I hf st hg;subst hP hw hK;obtain⟨f0,f1,f2,f3,f4,f5⟩:=hf it (by simp);exact wpAny_pyNext_range_end (I.ok.hd hc) st (by have:n<=i:=hg;omega) λh' eb=>⟨rfl,I.turned (t':=s.toks) (λb o hb e=>eb b o hb e) f0 f1 f3 f4 f5⟩
 self:=λ_ _ _ _ _ st h=>wpAny_pyIter_rangeiter st h
section
variable {X:Cx}{tg:Expr}
def AEu(K:AM)(tl:TE):TI:=λσ H R=>tl σ H λx H1=>∃a,x=.ref a/\(∃xs,BY K H1 a xs)/\R (Yp K a) H1
def AEq(K:AM)(tl:TE):TI:=λσ H R=>tl σ H λx H1=>∃a,x=.ref a/\(∃xs,Bp K H1 a xs)/\R (Yn K a) H1
theorem ACb{l:Expr}{tl:TE}(hl:PE X l tl):PI X tg l (AEu X.K tl):=by
 intro pins s σ H R I h;refine Ad (hl pins s σ H _ I h) λv s1 z2_=>?_;obtain⟨x,H1,I1,r1,q1⟩:=z2_;obtain⟨a,e,⟨xs,hq⟩,q⟩:=q1;subst e;cases r1;obtain⟨its,rv,p,hz⟩:=I1.list hq;refine wpAny_pyIter_list p.isList ?_;refine⟨s1.heap.objs.size,[s1.heap.objs.size],_,_,H1,rfl,I1.kept (t':=s1.toks) λb o e=>Heap.get?_push_of_some _ e,AAN a _,⟨_,Heap.get?_push_size _ rfl,rfl,rfl⟩,λb hb=>?_,q⟩;have e:b=s1.heap.objs.size:=by simpa using hb
 subst e;exact I1.fpOk (Ai _) (I1.hok.fresh (Ai _))
theorem ACX{l:Expr}{tl:TE}(hl:PE X l tl):PI X tg l (AEq X.K tl):=by
 intro pins s σ H R I h;refine Ad (hl pins s σ H _ I h) λv s1 z2_=>?_;obtain⟨x,H1,I1,r1,q1⟩:=z2_;obtain⟨a,e,⟨xs,hq⟩,q⟩:=q1;subst e;cases r1;obtain⟨its,rv,p,hz⟩:=I1.tuple hq;refine wpAny_pyIter_tuple (show s1.heap.IsTuple a its.toArray from p) ?_;refine⟨s1.heap.objs.size,[s1.heap.objs.size],_,_,H1,rfl,I1.kept (t':=s1.toks) λb o e=>Heap.get?_push_of_some _ e,AAK a _,⟨_,Heap.get?_push_size _ rfl,rfl,rfl⟩,λb hb=>?_,q⟩;have e:b=s1.heap.objs.size:=by simpa using hb
 subst e;exact I1.fpOk (Ai _) (I1.hok.fresh (Ai _))
theorem VE{pins:List (Addr×Obj)}{σ:St}{H:Hp}{s:Shared}{R:It->Hp->Prop}{E:AKP}{lo hi:Int}{t u v:Tok}{tk:Nat}(I:AI X pins σ H s)(h1:-(2 ^ 62)<=lo)(h2:lo<2 ^ 62)(h3:-(2 ^ 62)<=hi)(h4:hi<2 ^ 62)
  (q:R (MG lo (hi-lo).toNat) H):wpAny (model X.prog X.w) X.A (pyIter (.ref s.heap.objs.size)) (Yj X pins σ tg R) E {s with heap:=s.heap.push {cls:=.type "range",data:=.fields #[.int lo t,.int hi u,.int 1 v]},toks:=tk}:=by
 refine wpAny_pyIter_range (IsRange.new ..) (small_one h1 h2 h3 h4) ?_;have I1:AI X pins σ H {s with heap:=s.heap.push {cls:=.type "range",data:=.fields #[.int lo t,.int hi u,.int 1 v]},toks:=tk}:=I.kept λb o e=>Heap.get?_push_of_some _ e
 refine⟨(s.heap.push {cls:=.type "range",data:=.fields #[.int lo t,.int hi u,.int 1 v]}).objs.size,[(s.heap.push {cls:=.type "range",data:=.fields #[.int lo t,.int hi u,.int 1 v]}).objs.size],_,_,H,rfl,
  I1.kept (t':=tk) λb o e=>Heap.get?_push_of_some _ e,AAL _ lo (hi-lo).toNat,?_,λb hb=>?_,q⟩
 .have e1:lo+((0:Nat):Int)*1=lo:=by simp
  have e2:(((hi-lo).toNat:Nat):Int)-((0:Nat):Int)=Builtin.Range.rangeSize lo hi 1:=by rw[rangeSize_one];split <;> omega
  show IsRangeIter _ _ (lo+((0:Nat):Int)*1) ((((hi-lo).toNat:Nat):Int)-((0:Nat):Int)) 1;rw[e1,e2];exact Heap.get?_push_size _ rfl
 .have e:b=(s.heap.push {cls:=.type "range",data:=.fields #[.int lo t,.int hi u,.int 1 v]}).objs.size:=by simpa using hb
  subst e;exact I1.fpOk (Ai _) (I1.hok.fresh (Ai _))
def AEt(ta:TA):TI:=λσ H R=>ta σ H λvs H1=>∃j:Int,vs=[.int j]/\-(2 ^ 62)<=j/\j<2 ^ 62/\R (MG 0 j.toNat) H1
def AEs(ta:TA):TI:=λσ H R=>ta σ H λvs H1=>∃i j:Int,vs=[.int i,.int j]/\(-(2 ^ 62)<=i/\i<2 ^ 62/\-(2 ^ 62)<=j/\j<2 ^ 62)/\R (MG i (j-i).toNat) H1
theorem ACa{a:Expr}{ta:TA}{p pos:Pos}(hg:Gl X "range")(hm:X.mg "range"=none)(ha:PA X [a] ta)(hs:starEach [a] X.env=[(false,eval a X.env)]):PI X tg (.Call (.Name "range" p) [a] [] pos) (AEt ta):=by
 intro pins s σ H R I h;refine Call_ (Hy I hg hm boot_range (PyProof.Rows.callWith_type1 (Ad (ha pos pins s σ H _ I h) λus s1 z2_=>?_) hs rfl));obtain⟨vs,H1,I1,r1,q1⟩:=z2_;obtain⟨j,e,q1,q2,q⟩:=q1;subst e
 cases r1 with
 |cons r rr =>
  cases rr;obtain⟨t,rfl⟩:=r;exact call_range_1 (VE I1 (by omega) (by omega) q1 q2 (by simpa using q))
theorem ACZ{a b:Expr}{ta:TA}{p pos:Pos}(hg:Gl X "range")(hm:X.mg "range"=none)(ha:PA X [a,b] ta)(hs:starEach [a,b] X.env=[(false,eval a X.env),(false,eval b X.env)])(hs2:starEach [b] X.env=[(false,eval b X.env)]) :
  PI X tg (.Call (.Name "range" p) [a,b] [] pos) (AEs ta):=by
 intro pins s σ H R I h;refine Call_ (Hy I hg hm boot_range (PyProof.Rows.callWith_type1 (Ad (ha pos pins s σ H _ I h) λus s1 z2_=>?_) (by rw[hs,hs2]) (by rw[hs2];rfl)));obtain⟨vs,H1,I1,r1,q1⟩:=z2_;obtain⟨i,j,e,⟨q1,q2,q3,q4⟩,q⟩:=q1;subst e
 cases r1 with
 |cons r rr =>
  cases rr with
  |cons r' rr =>
   cases rr;obtain⟨t,rfl⟩:=r;obtain⟨t',rfl⟩:=r';exact call_range_2 (VE I1 q1 q2 q3 q4 q)
def AAp(wi:TI)(g:TG)(tb:TS):TS:=λD σ H=>wi σ H λJ H1=>∃W:Nat->Nat->St->Hp->Prop,(∃m,W 0 m σ H1)/\∀i m σ H,W i m σ H ->
 (J.stop i H/\D.nx σ H)\/(J.go i H/\∃N:St->Hp->Prop,(∀σ' H',N σ' H'->∃m',m'<m/\W (i+1) m' σ' H')/\∀x H',J.yld i H x H'->g x σ H' λσ2 H2=>tb {D with nx:=N,ct:=N,bk:=D.nx} σ2 H2)
def LP(fp:List Addr)(h:Heap):List (Addr×Obj):=fp.filterMap λb=>(h.get? b).map λo=>(b,o)
theorem Nc{fp:List Addr}{h:Heap}{b:Addr}{o:Obj}(hb:b∈fp)(e:h.get? b=some o):(b,o)∈LP fp h:=AJU.mpr ⟨b,hb,by rw[e];rfl⟩
theorem ADW{fp:List Addr}{h:Heap}{p:Addr×Obj}(hp:p∈LP fp h):p.1∈fp/\h.get? p.1=some p.2:=by
 obtain⟨b,hb,e⟩:=AJU.mp hp
 cases q:h.get? b with
 |none=>rw[q] at e;cases e
 |some o =>
  rw[q] at e;have e':(b,o)=p:=Option.some.inj e;subst e';exact⟨hb,q⟩
theorem AI.pinned{pins:List (Addr×Obj)}{σ:St}{H:Hp}{s:Shared}{fp:List Addr}(I:AI X pins σ H s)(hf:∀b∈fp,HP X pins H b)(ho:∀b∈fp,∃o,s.heap.get? b=some o/\∀v,o.data≠.cell v):AI X (pins++LP fp s.heap) σ H s :=
 I.pins_of λp hp=>(DE.mp hp).elim (λz=>I.pin p (AIj _ z)) λz=>by
  obtain⟨hb,e⟩:=ADW z;obtain⟨f0,f1,f2,_⟩:=hf p.1 hb;obtain⟨o,e',d⟩:=ho p.1 hb;rw[e] at e';cases e';exact⟨e,f0,f1,f2,d⟩
theorem AI.unpinned{pins pl:List (Addr×Obj)}{σ:St}{H:Hp}{s:Shared}(I:AI X (pins++pl) σ H s):AI X pins σ H s:=I.pins_of λp hp=>I.pin p (AIj _ (List.mem_append_left _ hp))
theorem ACG{iter:Expr}{body:List Stmt}{wi:TI}{g:TG}{tb:TS}{pos:Pos}(hp:PassesOwn (model X.prog X.w) X.A X.env X.xe)(hc:X.calm=true)(hi:PI X tg iter wi)(hg:PG X tg g)(hb:DT X body tb)
  (hs:∀x,foldedSetIterable iter X.env x=pure x:=by intro _;rfl):PS X (.For tg iter body [] pos) (AAp wi g tb):=by
 intro pins s σ H D I h;refine wpAny_For (Ad (hi pins s σ H _ I h) λv s1 h1=>Ad h1 λitv s2 h2=>?_) hs;obtain⟨it,fp,tn,J,H2,e,I2,T,st2,f2,W,⟨m0,w0⟩,turn⟩:=h2;subst e
 -- what stays true of the iterator's objects through the loop
 have stat:∀{H':Hp},(∀b∈fp,H' b=none)->∀b∈fp,HP X pins H' b:=λhn b hb=>⟨hn b hb,(f2 b hb).2⟩;refine codeAny_forLoop_any (λn s'=>∃i σ' H',AI X pins σ' H' s'/\tn i s'.heap/\(∀b∈fp,H' b=none)/\W i n σ' H') ?_ m0 ⟨0,σ,H2,I2,st2,λb hb=>(f2 b hb).1,w0⟩;rintro n s3 ⟨i,σ3,H3,I3,st3,fr3,w3⟩;rcases turn i n σ3 H3 w3 with⟨stop,qn⟩|⟨go,N,hN,step⟩
 .refine AKE hp (Ad (T.done X rfl rfl rfl hc i pins s3 σ3 H3 X.xe I3 (stat fr3) st3 stop) λr s4 z2_=>?_);obtain⟨hr,I4⟩:=z2_;subst hr;exact AKD ⟨σ3,H3,I4,qn⟩
 .refine AKE hp (Ad (T.item X rfl rfl rfl hc i pins s3 σ3 H3 X.xe I3 (stat fr3) st3 go) λr s4 z2_=>?_);obtain⟨u,hr,h4⟩:=z2_;subst hr;refine AKE hp (Ad h4 λ_ s5 z2_=>?_);obtain⟨x,H5,I5,r5,y5,st5,fr5⟩:=z2_;have I5':=I5.pinned (stat fr5) (T.obj _ _ st5);refine AKE hp (Ad (hg _ s5 σ3 H5 x u _ I5' r5 (step x H5 y5)) λ_ s6 z2_=>?_);obtain⟨σ6,H6,I6,q6⟩:=z2_;refine AKE hp (Ad (hb _ s6 σ6 H6 _ I6 q6) λf s7 q7=>?_)
  have again:∀{σ7:St} {H7:Hp},AI X (pins++LP fp s5.heap) σ7 H7 s7->N σ7 H7->∃m,m<n/\∃i σ' H',AI X pins σ' H' s7/\tn i s7.heap/\(∀b∈fp,H' b=none)/\W i m σ' H':=λ{σ7 H7} I7 n7=>by
   obtain⟨m',hm,w7⟩:=hN σ7 H7 n7;refine⟨m',hm,i+1,σ7,H7,I7.unpinned,T.keep _ _ _ st5 λb hb o e=>(I7.pin (b,o) (AIj _ (AIj _ (Nc hb e)))).1,λb hb=>?_,w7⟩;obtain⟨o,e,d⟩:=T.obj _ _ st5 b hb;exact(I7.pin (b,o) (AIj _ (AIj _ (Nc hb e)))).2.1
  cases f with
  |next=>obtain⟨σ7,H7,I7,n7⟩:=q7;exact again I7 n7
  |cont=>obtain⟨σ7,H7,I7,n7⟩:=q7;exact again I7 n7
  |brk=>obtain⟨σ7,H7,I7,q7⟩:=q7;exact⟨σ7,H7,I7.unpinned,q7⟩
  |ret v=>obtain⟨x7,σ7,H7,I7,r7,q7⟩:=q7;exact⟨x7,σ7,H7,I7.unpinned,r7,q7⟩
end
abbrev R2:=V->V->Hp->VK->Prop
def Ar(X:Cx)(f:Value->Value->Sem Value)(r:R2):Prop :=
 ∀(pins:List (Addr×Obj)) (s:Shared) (σ:St) (H:Hp) (x y:V) (v u:Value) (Q:VK),AI X pins σ H s->Ab x v->Ab y u->r x y H Q ->
  wpAny (model X.prog X.w) X.A (f v u) (EP X pins σ Q) X.xe s
def Sf(X:Cx)(f:Value->Sem Value)(r:V->Hp->VK->Prop):Prop :=
 ∀(pins:List (Addr×Obj)) (s:Shared) (σ:St) (H:Hp) (x:V) (v:Value) (Q:VK),AI X pins σ H s->Ab x v->r x H Q ->
  wpAny (model X.prog X.w) X.A (f v) (EP X pins σ Q) X.xe s
def Cu(X:Cx)(f:Value)(r:List V->Hp->VK->Prop):Prop :=
 ∀(pins:List (Addr×Obj)) (s:Shared) (σ:St) (H:Hp) (xs:List V) (us:List Value) (Q:VK),AI X pins σ H s->Ae xs us->r xs H Q ->
  wpAny (model X.prog X.w) X.A (call f us) (EP X pins σ Q) X.xe s
def LH(r:R2)(ta tb:TE):TE:=λσ H Q=>ta σ H λx H1=>tb σ H1 λy H2=>r x y H2 Q
def tUn(r:V->Hp->VK->Prop)(ta:TE):TE:=λσ H Q=>ta σ H λx H1=>r x H1 Q
def rI(C:Int->Int->Prop)(g:Int->Int->V):R2:=λx y H Q=>∃i j,x=.int i/\y=.int j/\C i j/\Q (g i j) H
def Hu(g:Int->Int->V):R2:=λx y H Q=>∃i j,x=.int i/\y=.int j/\Q (g i j) H
def rU(g:Int->V):V->Hp->VK->Prop:=λx H Q=>∃i,x=.int i/\Q (g i) H
section
variable {X:Cx}{a b c:Expr}{ta tb tc:TE}{pos:Pos}
theorem SS(ha:PE X a ta)(hb:PE X b tb){pins:List (Addr×Obj)}{s:Shared}{σ:St}{H:Hp}{R:V->V->Hp->Prop}(I:AI X pins σ H s)
  (h:ta σ H λx H1=>tb σ H1 λy H2=>R x y H2) {Q:AKP} {f:Value->Value->Sem Value}
  (hf:∀v u s2 x y H2,AI X pins σ H2 s2->Ab x v->Ab y u->R x y H2->wpAny (model X.prog X.w) X.A (f v u) Q X.xe s2) :
  wpAny (model X.prog X.w) X.A (eval a X.env) (λv s₁=>wpAny (model X.prog X.w) X.A (eval b X.env) (λu s₂=>wpAny (model X.prog X.w) X.A (f v u) Q X.xe s₂) X.xe s₁) X.xe s:=by
 refine Ad (ha pins s σ H _ I h) λv s1 z2_=>?_;obtain⟨x,H1,I1,r1,q1⟩:=z2_;refine Ad (hb pins s1 σ H1 _ I1 q1) λu s2 z2_=>?_;obtain⟨y,H2,I2,r2,q2⟩:=z2_;exact hf v u s2 x y H2 I2 r1 r2 q2
theorem ACk{op:Operator}{r:R2}(ho:Ar X (binaryOp op) r)(ha:PE X a ta)(hb:PE X b tb):PE X (.BinOp a op b pos) (LH r ta tb):=by intro pins s σ H Q I h;exact wpAny_BinOp (SS ha hb I h λv u s2 x y H2 I2 rx ry q=>ho pins s2 σ H2 x y v u Q I2 rx ry q)
theorem ACg{op:UnaryOp}{r:V->Hp->VK->Prop}(ho:Sf X (unaryOp op) r)(ha:PE X a ta):PE X (.UnaryOp op a pos) (tUn r ta):=by intro pins s σ H Q I h;exact UnaryOp_ (Ad (ha pins s σ H _ I h) λv s1 z2_=>(by obtain⟨x,H1,I1,r1,q1⟩:=z2_;exact ho pins s1 σ H1 x v Q I1 r1 q1))
theorem NW{f:Value->Value->Sem Value}{C:Int->Int->Prop}{g:Int->Int->Int}
  (rule:∀(i j:Int) (t u:Tok) (s:Shared) (Q:AKP) (E:AKP),C i j->Q (.int (g i j) s.toks) {s with toks:=s.toks+1}->wpAny (model X.prog X.w) X.A (f (.int i t) (.int j u)) Q E s) :
  Ar X f (rI C λi j=>.int (g i j)):=by
 intro pins s σ H x y v u Q I rx ry h;obtain⟨i,j,rfl,rfl,hc,q⟩:=h;obtain⟨t,rfl⟩:=rx;obtain⟨t',rfl⟩:=ry;exact rule i j t t' s _ _ hc ⟨.int (g i j),H,I.tok _,⟨_,rfl⟩,q⟩
theorem Vk{f:Value->Value->Sem Value}{g:Int->Int->Int}
  (rule:∀(i j:Int) (t u:Tok) (s:Shared) (Q:AKP) (E:AKP),Q (.int (g i j) s.toks) {s with toks:=s.toks+1}->wpAny (model X.prog X.w) X.A (f (.int i t) (.int j u)) Q E s) :
  Ar X f (Hu λi j=>.int (g i j)):=by
 intro pins s σ H x y v u Q I rx ry h;obtain⟨i,j,rfl,rfl,q⟩:=h;obtain⟨t,rfl⟩:=rx;obtain⟨t',rfl⟩:=ry;exact rule i j t t' s _ _ ⟨.int (g i j),H,I.tok _,⟨_,rfl⟩,q⟩
theorem NX{f:Value->Value->Sem Value}{g:Int->Int->Bool}
  (rule:∀(i j:Int) (t u:Tok) (s:Shared) (Q:AKP) (E:AKP),Q (.bool (g i j)) s->wpAny (model X.prog X.w) X.A (f (.int i t) (.int j u)) Q E s) :
  Ar X f (Hu λi j=>.bl (g i j)):=by
 intro pins s σ H x y v u Q I rx ry h;obtain⟨i,j,rfl,rfl,q⟩:=h;obtain⟨t,rfl⟩:=rx;obtain⟨t',rfl⟩:=ry;exact rule i j t t' s _ _ ⟨.bl (g i j),H,I,rfl,q⟩
def AGv(i j:Int):Prop:=0<=j/\j<=1000000/\i.natAbs<2 ^ 64
def Ys(i j:Int):Prop:=(-(2 ^ 64)<i/\i<2 ^ 64)\/(-(2 ^ 64)<j/\j<2 ^ 64)
theorem Ys.ok{i j:Int}(h:Ys i j):IntMulOk i j:=by
 rcases h with⟨h1,h2⟩|⟨h1,h2⟩
 .exact .of_left (intBits_le_64 h1 h2)
 .exact .of_right (intBits_le_64 h1 h2)
theorem ADT:Ar X (binaryOp .Add) (Hu λi j=>.int (i+j)):=Vk λ_ _ _ _ _ _ _ q=>add_int q
theorem ADC:Ar X (binaryOp .Sub) (Hu λi j=>.int (i-j)):=Vk λ_ _ _ _ _ _ _ q=>sub_int q
theorem ADI:Ar X (binaryOp .Mod) (rI (λ_ j=>0<j) λi j=>.int (i % j)):=NW λi j _ _ _ _ _ hc q=>by
 have h1:(0:Int)<j:=hc;exact mod_int' (by omega) (by rw[Int.fmod_eq_emod_of_nonneg i (by omega)];exact q)
theorem ADD:Ar X (binaryOp .Pow) (rI AGv λi j=>.int (i ^ j.toNat)):=NW λ_ _ _ _ _ _ _ hc q=>pow_int_small hc.1 hc.2.1 hc.2.2 q
theorem unI{f:Value->Sem Value}{g:Int->Int}
  (rule:∀(i:Int) (t:Tok) (s:Shared) (Q:AKP) (E:AKP),Q (.int (g i) s.toks) {s with toks:=s.toks+1}->wpAny (model X.prog X.w) X.A (f (.int i t)) Q E s) :
  Sf X f (rU λi=>.int (g i)):=by
 intro pins s σ H x v Q I rx h;obtain⟨i,rfl,q⟩:=h;obtain⟨t,rfl⟩:=rx;exact rule i t s _ _ ⟨.int (g i),H,I.tok _,⟨_,rfl⟩,q⟩
theorem AAG:Sf X (unaryOp .USub) (rU λi=>.int (-i)):=unI λ_ _ _ _ _ q=>neg_int q
end
def Qy:V->V->Bool
 |.non,.non=>true|.non,.int _=>true|.int _,.non=>true|.non,.bl _=>true|.bl _,.non=>true|.non,.str _=>true|.str _,.non=>true
 |.int _,.int _=>true|.bl _,.bl _=>true|.str _,.str _=>true|.byt _,.byt _=>true
 |.int _,.str _=>true|.str _,.int _=>true|.bl _,.str _=>true|.str _,.bl _=>true
 |_,_=>false
def rEq:R2:=λx y H Q=>Qy x y=true/\Q (.bl (decide (x=y))) H
def rNe:R2:=λx y H Q=>Qy x y=true/\Q (.bl (!decide (x=y))) H
theorem Xo{i j:Int}:decide (V.int i=V.int j)=(i == j):=by rw[AJJ];simp
theorem Xq{i j:Bool}:decide (V.bl i=V.bl j)=(i == j):=by rw[AJJ];simp
theorem Xn{i j:Str}:decide (V.str i=V.str j)=(i == j):=by rw[AJJ];simp
theorem Xp{i j:Array UInt8}:decide (V.byt i=V.byt j)=(i.toList == j.toList):=by rw[AJJ];cases i;cases j;simp
section
variable {X:Cx}{a b c:Expr}{ta tb tc:TE}{pos:Pos}
theorem BS{pins:List (Addr×Obj)}{σ:St}{H:Hp}{s:Shared}{Q:VK}{k k':Bool}(I:AI X pins σ H s)(q:Q (.bl k) H)(e:k=k'):EP X pins σ Q (.bool k') s:=by subst e;exact⟨.bl k,H,I,rfl,q⟩
theorem Vj:Ar X (compareOp .Eq) rEq:=by
 intro pins s σ H x y v u Q I rx ry h;obtain⟨hs,q⟩:=h
 cases x with
 |non =>
  cases rx
  cases y with
  |non=>cases ry;exact PySem.EqNone.eq_none_none (BS I q (by simp))
  |bl j=>cases ry;exact PySem.EqNone.eq_none_bool (BS I q (by simp))
  |int j=>obtain⟨t',rfl⟩:=ry;exact PySem.EqNone.eq_none_int (BS I q (by simp))
  |str j=>obtain⟨t',rfl⟩:=ry;exact PySem.EqNone.eq_none_str (BS I q (by simp))
  |_=>exact absurd (show false=true from hs) Cc
 |bl i =>
  cases rx
  cases y with
  |non=>cases ry;exact PySem.EqNone.eq_bool_none (BS I q (by simp))
  |bl j=>cases ry;exact eq_bool (BS I q Xq)
  |str j=>obtain⟨t',rfl⟩:=ry;exact PySem.EqMixed.eq_bool_str (BS I q (by simp))
  |_=>exact absurd (show false=true from hs) Cc
 |int i =>
  obtain⟨t,rfl⟩:=rx
  cases y with
  |non=>cases ry;exact PySem.EqNone.eq_int_none (BS I q (by simp))
  |int j=>obtain⟨t',rfl⟩:=ry;exact eq_int (BS I q Xo)
  |str j=>obtain⟨t',rfl⟩:=ry;exact PySem.EqMixed.eq_int_str (BS I q (by simp))
  |_=>exact absurd (show false=true from hs) Cc
 |str i =>
  obtain⟨t,rfl⟩:=rx
  cases y with
  |non=>cases ry;exact PySem.EqNone.eq_str_none (BS I q (by simp))
  |bl j=>cases ry;exact PySem.EqMixed.eq_str_bool (BS I q (by simp))
  |int j=>obtain⟨t',rfl⟩:=ry;exact PySem.EqMixed.eq_str_int (BS I q (by simp))
  |str j=>obtain⟨t',rfl⟩:=ry;exact eq_str (BS I q Xn)
  |_=>exact absurd (show false=true from hs) Cc
 |byt i =>
  obtain⟨t,rfl⟩:=rx
  cases y with
  |byt j=>obtain⟨t',rfl⟩:=ry;exact PySem.W.eq_bytes (BS I q Xp)
  |_=>exact absurd (show false=true from hs) Cc
 |_=>cases y <;> exact absurd (show false=true from hs) Cc
theorem Vi:Ar X (compareOp .NotEq) rNe:=by
 intro pins s σ H x y v u Q I rx ry h;obtain⟨hs,q⟩:=h
 cases x with
 |non =>
  cases rx
  cases y with
  |non=>cases ry;exact PySem.EqNone.ne_none_none (BS I q (by simp))
  |bl j=>cases ry;exact PySem.EqNone.ne_none_bool (BS I q (by simp))
  |int j=>obtain⟨t',rfl⟩:=ry;exact PySem.EqNone.ne_none_int (BS I q (by simp))
  |str j=>obtain⟨t',rfl⟩:=ry;exact PySem.EqNone.ne_none_str (BS I q (by simp))
  |_=>exact absurd (show false=true from hs) Cc
 |bl i =>
  cases rx
  cases y with
  |non=>cases ry;exact PySem.EqNone.ne_bool_none (BS I q (by simp))
  |bl j=>cases ry;exact ne_bool (BS I q (congrArg not Xq))
  |str j=>obtain⟨t',rfl⟩:=ry;exact PySem.EqMixed.ne_bool_str (BS I q (by simp))
  |_=>exact absurd (show false=true from hs) Cc
 |int i =>
  obtain⟨t,rfl⟩:=rx
  cases y with
  |non=>cases ry;exact PySem.EqNone.ne_int_none (BS I q (by simp))
  |int j=>obtain⟨t',rfl⟩:=ry;exact ne_int (BS I q (congrArg not Xo))
  |str j=>obtain⟨t',rfl⟩:=ry;exact PySem.EqMixed.ne_int_str (BS I q (by simp))
  |_=>exact absurd (show false=true from hs) Cc
 |str i =>
  obtain⟨t,rfl⟩:=rx
  cases y with
  |non=>cases ry;exact PySem.EqNone.ne_str_none (BS I q (by simp))
  |bl j=>cases ry;exact PySem.EqMixed.ne_str_bool (BS I q (by simp))
  |int j=>obtain⟨t',rfl⟩:=ry;exact PySem.EqMixed.ne_str_int (BS I q (by simp))
  |str j=>obtain⟨t',rfl⟩:=ry;exact ne_str (BS I q (congrArg not Xn))
  |_=>exact absurd (show false=true from hs) Cc
 |byt i =>
  obtain⟨t,rfl⟩:=rx
  cases y with
  |byt j=>obtain⟨t',rfl⟩:=ry;exact PySem.W.ne_bytes (BS I q (congrArg not Xp))
  |_=>exact absurd (show false=true from hs) Cc
 |_=>cases y <;> exact absurd (show false=true from hs) Cc
theorem op_lt:Ar X (compareOp .Lt) (Hu λi j=>.bl (decide (i<j))):=NX λ_ _ _ _ _ _ _ q=>lt_int q
theorem ADJ:Ar X (compareOp .LtE) (Hu λi j=>.bl (decide (i<=j))):=NX λ_ _ _ _ _ _ _ q=>le_int q
theorem ADN:Ar X (compareOp .Gt) (Hu λi j=>.bl (decide (j<i))):=NX λ_ _ _ _ _ _ _ q=>gt_int q
theorem ADO:Ar X (compareOp .GtE) (Hu λi j=>.bl (decide (j<=i))):=NX λ_ _ _ _ _ _ _ q=>ge_int q
theorem ADL:Ar X (compareOp .In) (λx y H Q=>∃i j,x=.str i/\y=.str j/\Q (.bl (!(Builtin.Str.occurrences j i 0 j.length 1).isEmpty)) H):=by intro pins s σ H x y v u Q I rx ry h;obtain⟨i,j,rfl,rfl,q⟩:=h;obtain⟨t,rfl⟩:=rx;obtain⟨t',rfl⟩:=ry;exact in_str (BS I q rfl)
theorem op_isN:Ar X (compareOp .Is) (λx y H Q=>y=.non/\Q (.bl (decide (x=.non))) H):=by
 intro pins s σ H x y v u Q I rx ry h;obtain⟨rfl,q⟩:=h;cases ry;refine is_none_gen (BS I q ?_)
 cases x <;> first
  |(cases rx;rfl)
  |(obtain⟨t,rfl⟩:=rx;rfl)
theorem ADE:Ar X (compareOp .IsNot) (λx y H Q=>y=.non/\Q (.bl (!decide (x=.non))) H):=by
 intro pins s σ H x y v u Q I rx ry h;obtain⟨rfl,q⟩:=h;cases ry;refine isnot_none_gen (BS I q ?_)
 cases x <;> first
  |(cases rx;rfl)
  |(obtain⟨t,rfl⟩:=rx;rfl)
theorem op_notin_str:Ar X (compareOp .NotIn) (λx y H Q=>∃i j,x=.str i/\y=.str j/\Q (.bl (!(!(Builtin.Str.occurrences j i 0 j.length 1).isEmpty))) H):=by intro pins s σ H x y v u Q I rx ry h;obtain⟨i,j,rfl,rfl,q⟩:=h;obtain⟨t,rfl⟩:=rx;obtain⟨t',rfl⟩:=ry;exact notIn_str (BS I q rfl)
theorem Ar.or{f:Value->Value->Sem Value}{r r':R2}(h:Ar X f r)(h':Ar X f r'):Ar X f (λx y H Q=>r x y H Q\/r' x y H Q):=by
 intro pins s σ H x y v u Q I rx ry q;rcases q with q|q
 .exact h pins s σ H x y v u Q I rx ry q
 .exact h' pins s σ H x y v u Q I rx ry q
theorem ACv{op:CmpOp}{r:R2}(ho:Ar X (compareOp op) r)(ha:PE X a ta)(hb:PE X b tb)(hm:behindInMarks op b=false):PE X (.Compare a [op] [b] pos) (LH r ta tb):=by intro pins s σ H Q I h;exact wpAny_Compare1 (SS ha hb I h λv u s2 x y H2 I2 rx ry q=>ho pins s2 σ H2 x y v u Q I2 rx ry q) hm
def UQ(t:TE):TT:=λσ H Q=>t σ H λx H'=>∃k,x=.bl k/\Q k H'
theorem AB9{op:CmpOp}{r:R2}(ho:Ar X (compareOp op) r)(ha:PE X a ta)(hb:PE X b tb)(hm:behindInMarks op b=false):PT X (.Compare a [op] [b] pos) (UQ (LH r ta tb)):=by
 intro pins s σ H Q I h
 refine wpAny_isTrue_Compare1 (Ad (ha pins s σ H _ I h) λv s1 ⟨x,H1,I1,r1,q1⟩=>Ad (hb pins s1 σ H1 _ I1 q1) λu s2 ⟨y,H2,I2,r2,q2⟩ =>
  Ad (ho pins s2 σ H2 x y v u _ I2 r1 r2 q2) λc s3 ⟨z,H3,I3,r3,k,e,q3⟩=>?_) hm
 subst e;cases r3;exact AKC ⟨H3,I3,q3⟩
def UT(r r':R2)(ta tb tc:TE):TE:=λσ H Q=>ta σ H λx H1=>tb σ H1 λy H2=>r x y H2 λz H3=>∃k,z=.bl k /\
 (if k=true then tc σ H3 λw' H4=>r' y w' H4 Q else Q (.bl false) H3)
theorem ACA{op op':CmpOp}{r r':R2}(ho:Ar X (compareOp op) r)(ho':Ar X (compareOp op') r')(ha:PE X a ta)(hb:PE X b tb)(hc:PE X c tc)
  (hm:lastMarks [op,op'] [b,c]=false):PT X (.Compare a [op,op'] [b,c] pos) (UQ (UT r r' ta tb tc)):=by
 intro pins s σ H Q I h
 refine isTrue_chain (Ad (ha pins s σ H _ I h) λv s1 ⟨x,H1,I1,r1,q1⟩=>test_link (Ad (hb pins s1 σ H1 _ I1 q1) λu s2 ⟨y,H2,I2,r2,q2⟩ =>
  Ad (ho pins s2 σ H2 x y v u _ I2 r1 r2 q2) λd s3 ⟨z,H3,I3,r3,k,e,q3⟩=>?_)) hm
 subst e;cases r3;refine AKC ?_
 cases k with
 |false =>
  obtain⟨k',e',q'⟩:=q3;cases e';exact ite_ff ⟨H3,I3,q'⟩
 |true =>
  refine ite_tt (test_last (Ad (hc pins s3 σ H3 _ I3 q3) λw' s4 z2_=>?_));obtain⟨z',H4,I4,r4,q4⟩:=z2_;refine Ad (ho' pins s4 σ H4 y z' u w' _ I4 r2 r4 q4) λd' s5 z2_=>?_;obtain⟨z2,H5,I5,r5,k2,e2,q5⟩:=z2_;subst e2;cases r5;exact AKC ⟨H5,I5,q5⟩
theorem KW:(sizeLine:Nat)<2 ^ 63:=by rw[sizeLine_eq];decide
theorem ADS:Ar X (binaryOp .Add) (λx y H Q=>∃i j,x=.str i/\y=.str j/\i.length+j.length<=sizeLine/\Q (.str (i++j)) H):=by intro pins s σ H x y v u Q I rx ry h;obtain⟨i,j,rfl,rfl,hz,q⟩:=h;obtain⟨t,rfl⟩:=rx;obtain⟨t',rfl⟩:=ry;exact add_str (λt' tk=>⟨.str (i++j),H,I.tok _,⟨_,rfl⟩,q⟩) hz
theorem FB{x:V}{us:List Value}(r:Ae [x] us):∃u,us=[u]/\Ab x u:=by
 cases r with
 |cons r1 r2=>cases r2;exact⟨_,rfl,r1⟩
theorem UE{x y:V}{us:List Value}(r:Ae [x,y] us):∃u w',us=[u,w']/\Ab x u/\Ab y w':=by
 cases r with
 |cons r1 r2 =>
  cases r2 with
  |cons r3 r4=>cases r4;exact⟨_,_,rfl,r1,r3⟩
theorem AGC:Cu X (.builtin "abs") (λxs H Q=>∃i,xs=[.int i]/\Q (.int (if i<0 then -i else i)) H):=by
 intro pins s σ H xs us Q I r h;obtain⟨i,rfl,q⟩:=h;obtain⟨u,rfl,t,rfl⟩:=FB r
 exact call_abs_int λu tk=>⟨.int (if i<0 then -i else i),H,I.tok _,⟨_,rfl⟩,q⟩
theorem AF7(hc:X.calm=true):Cu X (.builtin "min") (λxs H Q=>∃i j,xs=[.int i,.int j]/\Q (.int (if j<i then j else i)) H):=by
 intro pins s σ H xs us Q I r h;obtain⟨i,j,rfl,q⟩:=h;obtain⟨u,w',rfl,⟨t,rfl⟩,⟨t',rfl⟩⟩:=UE r;refine min_two_ints (I.ok.hd hc) λh' tk k=>⟨_,H,I.kept k,?_,q⟩
 by_cases hj:j<i
 .rw[if_pos hj,if_pos hj];exact⟨_,rfl⟩
 .rw[if_neg hj,if_neg hj];exact⟨_,rfl⟩
theorem AGA:Cu X (.type "int") (λxs H Q=>(∃i,xs=[.int i]/\Q (.int i) H)\/∃k,xs=[.bl k]/\Q (.int (if k then 1 else 0)) H):=by
 intro pins s σ H xs us Q I r h;rcases h with⟨i,rfl,q⟩|⟨k,rfl,q⟩
 .obtain⟨u,rfl,t,rfl⟩:=FB r;exact call_int_int ⟨.int i,H,I,⟨_,rfl⟩,q⟩
 .obtain⟨u,rfl,r1⟩:=FB r;cases r1
  exact call_int_bool ⟨.int (if k then 1 else 0),H,I.tok _,⟨_,rfl⟩,q⟩
end
structure Kr (h:Heap) (x dx C:Addr) (mA:AKO):Prop where
 obj:h.get? x=some (AIx C dx)
 ns:h.Ns1 dx mA
 ne:dx≠x
theorem AEH{h:Heap}{dx:Addr}{mA:AKO}(n:h.Ns1 dx mA):∃od,h.get? dx=some od/\∀name,PySem.W.lookIn name od=some (mA name):=by
 obtain⟨o,es,ep,ho,hd,hk,_,hm⟩:=n;refine⟨o,ho,λname=>?_⟩;have e:=hm name;unfold nsFind findBy at e;rw[<-Array.find?_toList] at e;unfold PySem.W.lookIn;rw[hd];dsimp only;split
 .rename_i y q;rw[q] at e;exact congrArg some e
 .rename_i q;rw[q] at e
  have a:es.toList.any (·.refKey)=false:=by rw[List.any_eq_false];intro y hy;obtain⟨z,t,hkey⟩:=hk y (Array.mem_toList_iff.mp hy);simp[DictEntry.refKey,hkey]
  have a':¬es.toList.any (·.refKey)=true:=by rw[a];exact Cc
  rw[if_neg a'];exact congrArg some e
theorem Kr.look{h:Heap}{x dx C:Addr}{mA:AKO}(I:Kr h x dx C mA):∃od,PySem.W.InstAt h x (AIx C dx) C (some od)/\∀name,PySem.W.lookIn name od=some (mA name) :=
 let ⟨od,ho,hl⟩:=AEH I.ns
 ⟨od,⟨I.obj,rfl,rfl,ho⟩,hl⟩
section
variable {prog:Program}{w:World}{A:Around}{E:AKP}{s:Shared}{K:AM}{x dx C f:Addr}{mA:AKO}{name:Str}{v:Value}
theorem AEz{expr:Bool}{Q:AKP}(X:K.In s.heap)(I:Kr s.heap x dx C mA)(hg:AJV K C name=true)(hh:AJW K C=true)
  (ha:Cw K (.ref C) name=some none) (hv:mA name=some v) (hv':PySem.W.handedIn v=true) (h:Q v {s with toks:=s.toks+1}) :
  wpAny (model prog w) A (getAttr (.ref x) name expr) Q E s:=by
 obtain⟨od,J,hl⟩:=I.look;exact PySem.W.get_value X J (PySem.W.plainGet_of hg).1 (PySem.W.findObj_own hh ha rfl (by rw[hl,hv])) hv' h
theorem ABQ{ns:List Str}{Q:Unit->Shared->Prop}(X:K.In s.heap)(I:Kr s.heap x dx C mA)
  (hs:Cw K (.ref C) "__setattr__"=some (some (.builtin "object.__setattr__"))) (hp:AJf K C=true) (ht:PySem.W.takerIn K C name=some none) (hh:AJW K C=true)
  (hw:PySem.Within mA ns) (hsz:ns.length<=sizeLine)
  (h:∀h',Kr h' x dx C (λy=>if y=name then some v else mA y)->Heap.SameBut dx s.heap h'->Q () {s with heap:=h',toks:=s.toks+2}) :
  wpAny (model prog w) A (setAttr (.ref x) name v) Q E s:=by
 obtain⟨od,J,hl⟩:=I.look;refine PySem.W.set_plain X J hs (PySem.W.osa_open (s:={s with toks:=s.toks+1}) (r:=none) X J hp ht λb=>?_);obtain⟨cd,hc,hd'⟩:=PySem.W.any_some hh;have hx:s.heap.get? x=some ⟨.ref C,some dx,.plain,#[]⟩:=I.obj;refine AH (AR (AH (AH (wpAny_loadPart hx (AH (PySem.W.Looks.here (s:={s with toks:=s.toks+1}) (PySem.W.looks_clsIn X hc) ?_))))));rw[hd'];refine AR (a:=some dx) (AH (AR (AH ?_)));refine wpAny_nsSet1 (s:={s with toks:=s.toks+1}) I.ns λh' hn2 hs2=>?_;obtain⟨oD,esD,epD,hoD,hdD,hcD⟩:=hn2.count (PySem.Within.cons name v hw);refine AH (wpAny_lookBehind hoD (by rw[hdD];exact pastItsLine_dict (Ch hcD (by rw[EO];omega))) ?_);exact AR (h _ ⟨(hs2.2 _ (Ne.symm I.ne)).trans I.obj,hn2,I.ne⟩ hs2)
theorem ADy{R:Result->Shared->Prop}{vs:List Value}{kw:List (Str×Value)}(X:K.In s.heap)(hm:AJg K C=true)
  (hi:Cw K (.ref C) "__init__"=some (some (.ref f))) (hf:PySem.W.typeIn K (.ref f)=some (.type "function"))
  (h:codeAny (model prog w) (A.under (.builtin "type.__call__" ⟨.ref C::vs,kw⟩)) (.call (.ref f) ⟨.ref (s.heap.objs.size+1)::vs,kw⟩) (PySem.W.InitBack (s.heap.objs.size+1) R)
   {s with heap:=(s.heap.push AIn).push (AIx C s.heap.objs.size)}) :
  codeAny (model prog w) A (.call (.ref C) ⟨vs,kw⟩) R s:=by
 obtain⟨hh,g,d,t,os⟩:=s;exact PySem.W.make_core (PySem.W.makes_of X hm) (PySem.W.looks_findIn X hi) (λself=>PySem.W.bind_fn X self hf) (.inl rfl) h
end
def Ck(f:Str)(v:V):List (Str×V)->List (Str×V)
 |[]=>[(f,v)]
 |(g,x)::r=>if g=f then (g,v)::r else (g,x)::Ck f v r
theorem WL(f g:Str)(v:V):∀fs:List (Str×V),(Ck f v fs).lookup g=if g=f then some v else fs.lookup g
 |[]=>by
  show GK g [(f,v)]=_
  by_cases h:g=f
  .have hb:(g == f)=true:=beq_iff_eq.mpr h;simp only[GK,hb,if_pos h]
  .have hb:(g == f)=false:=beq_eq_false_iff_ne.mpr h;simp only[GK,hb,if_neg h]
 |(k,x)::r=>by
  have ih:=WL f g v r
  rw[show Ck f v ((k,x)::r)=(if k=f then (k,v)::r else (k,x)::Ck f v r) from rfl]
  by_cases hk:k=f
  .rw[if_pos hk]
   by_cases h:g=k
   .have hb:(g == k)=true:=beq_iff_eq.mpr h;simp only[GK,hb,if_pos (h.trans hk)]
   .have hb:(g == k)=false:=beq_eq_false_iff_ne.mpr h;simp only[GK,hb,if_neg (λe:g=f=>h (e.trans hk.symm))]
  .rw[if_neg hk]
   by_cases h:g=k
   .have hb:(g == k)=true:=beq_iff_eq.mpr h;simp only[GK,hb,if_neg (λe:g=f=>hk (h.symm.trans e))]
   .have hb:(g == k)=false:=beq_eq_false_iff_ne.mpr h;simp only[GK,hb];exact ih
theorem Rk(f:Str)(v:V):∀fs:List (Str×V),f∈(Ck f v fs).map (·.1)/\∀g,g∈fs.map (·.1)->g∈(Ck f v fs).map (·.1)
 |[]=>⟨by simp[Ck],λg h=>by simp at h⟩
 |(k,x)::r=>by
  obtain⟨i1,i2⟩:=Rk f v r
  rw[show Ck f v ((k,x)::r)=(if k=f then (k,v)::r else (k,x)::Ck f v r) from rfl]
  by_cases hk:k=f
  .rw[if_pos hk];subst hk;exact⟨by simp,λg h=>by simpa using h⟩
  .rw[if_neg hk];refine⟨?_,λg h=>?_⟩
   .rw[Ap];exact BK _ i1
   .rw[Ap] at h ⊢;rcases Ac.mp h with e|e
    .exact Ac.mpr (.inl e)
    .exact BK _ (i2 g e)
theorem WP(f:Str)(v:V):∀fs:List (Str×V),(Ck f v fs).length<=fs.length+1
 |[]=>by simp[Ck]
 |(k,x)::r=>by
  have ih:=WP f v r
  rw[show Ck f v ((k,x)::r)=(if k=f then (k,v)::r else (k,x)::Ck f v r) from rfl]
  by_cases hk:k=f
  .rw[if_pos hk,EO,EO];omega
  .rw[if_neg hk,EO,EO];omega
theorem Fy.some_of{v:V}{o:Option Value}(r:Fy (some v) o):∃u,o=some u/\Ab v u:=by
 cases o with
 |none=>exact(show False from r).elim
 |some u=>exact⟨u,rfl,r⟩
theorem AEx{v:V}{u:Value}(r:Ab v u):PySem.W.handedIn u=true:=by
 cases v with
 |non=>cases (show u=Value.none from r);rfl
 |bl b=>cases (show u=Value.bool b from r);rfl
 |int i=>obtain⟨t,e⟩:=(show ∃t,u=Value.int i t from r);cases e;rfl
 |str x=>obtain⟨t,e⟩:=(show ∃t,u=Value.str x t from r);cases e;rfl
 |byt b=>obtain⟨t,e⟩:=(show ∃t,u=Value.bytes b t from r);cases e;rfl
 |flt b=>obtain⟨t,e⟩:=(show ∃t,u=Value.float b t from r);cases e;rfl
 |ref a=>cases (show u=Value.ref a from r);rfl
 |ty n=>cases (show u=Value.type n from r);rfl
section
variable {P:Program}{w:World}{H H':Hp}{h h':Heap}{a C dx:Addr}{fs fs':List (Str×V)}
theorem Ro(hok:CW P w H h)(e:H a=some (.ins C dx fs)):∃mA,Kr h a dx C mA/\(∀f,Fy (fs.lookup f) (mA f))/\PySem.Within mA (fs.map (·.1))/\fs.length<=1000/\H dx=some (.own a):=by obtain⟨d,z,ne,ob,mA,n,r,q⟩:=(show CP P w H h a (.ins C dx fs) from hok a _ e);exact⟨mA,⟨ob,n,ne⟩,r,q,z,d⟩
end
structure Cls (K:AM) (C:Addr):Prop where
 pg:AJV K C Str.empty=true
 hd:AJW K C=true
 po:AJf K C=true
 sa:Cw K (.ref C) "__setattr__"=some (some (.builtin "object.__setattr__"))
theorem Cls.get{K:AM}{C:Addr}(c:Cls K C)(f:Str):AJV K C f=true:=c.pg
def JI(K:AM)(C:Addr)(f:Str):Prop:=Cw K (.ref C) f=some none
theorem JI.taker{K:AM}{C:Addr}{f:Str}(n:JI K C f):PySem.W.takerIn K C f=some none:=by unfold PySem.W.takerIn;rw[show Cw K (.ref C) f=some none from n];rfl
structure AGm (K:AM) (C:Addr) (m:Str) (f:Addr):Prop where
 at_:Cw K (.ref C) m=some (some (.ref f))
 fn:PySem.W.isFn K (.ref f)=true
 kp:GH K (.ref f)=true
section
variable {X:Cx}{pins:List (Addr×Obj)}{σ:St}{H:Hp}{s:Shared}{a C dx:Addr}{fs:List (Str×V)}{f:Str}{v:V}{A:Around}{E:AKP}
theorem XB{b:Bool}{Q:AKP}(I:AI X pins σ H s)(e:H a=some (.ins C dx fs))(c:Cls X.K C)(n:JI X.K C f)(l:fs.lookup f=some v)
  (h:∀u s',AI X pins σ H s'->Ab v u->Q u s'):wpAny (model X.prog X.w) A (getAttr (.ref a) f b) Q E s:=by
 obtain⟨mA,O,r,_,_,_⟩:=Ro I.hok e;obtain⟨u,hu,ru⟩:=Fy.some_of (v:=v) (o:=mA f) (by rw[<-l];exact r f);exact AEz I.kIn O (c.get f) c.hd n hu (AEx ru) (h u _ (I.tok _) ru)
theorem Uz{y:V}{u:Value}{Q:Unit->Shared->Prop}(I:AI X pins σ H s)(e:H a=some (.ins C dx fs))(c:Cls X.K C)(n:JI X.K C f)(hl:fs.length<1000)(ry:Ab y u)
  (h:∀s',AI X pins σ (upd H a (.ins C dx (Ck f y fs))) s'->Q () s'):wpAny (model X.prog X.w) A (setAttr (.ref a) f u) Q E s:=by
 obtain⟨mA,O,r,wi,_,ho⟩:=Ro I.hok e;have hz:(fs.map (·.1)).length<=sizeLine:=by rw[Ao,sizeLine_eq];omega
 refine ABQ I.kIn O c.sa c.po n.taker c.hd wi hz λh' O' sb=>h _ ?_;have hd:∃o,h'.get? dx=some o:=let ⟨o,_,_,e',_⟩:=O'.ns;⟨o,e'⟩;refine I.write (x:=a) (e:=dx) (by rw[e];exact True.intro) (.inr ho) (λb q hb z=>(sb.2 b hb).trans z) hd ?_;refine⟨by rw[BM O.ne];exact ho,?_,O.ne,O'.obj,_,O'.ns,λg=>?_,λg hg=>?_⟩
 .have:=WP f y fs;omega
 .show Fy ((Ck f y fs).lookup g) (if g=f then some u else mA g)
  rw[WL]
  by_cases q:g=f
  .rw[if_pos q,if_pos q];exact ry
  .rw[if_neg q,if_neg q];exact r g
 .by_cases q:g=f
  .rw[q];exact(Rk f y fs).1
  .refine(Rk f y fs).2 g (wi g λz=>hg ?_)
   show(if g=f then some u else mA g)=none
   rw[if_neg q];exact z
theorem AI.made(I:AI X pins σ H s):AI X pins σ (upd (upd H s.heap.objs.size (.own (s.heap.objs.size+1))) (s.heap.objs.size+1) (.ins C s.heap.objs.size []))
  {s with heap:=(s.heap.push AIn).push (AIx C s.heap.objs.size)}:=by
 have e1:(s.heap.push AIn).get? s.heap.objs.size=some AIn:=Heap.get?_push_size s.heap rfl
 have e2:((s.heap.push AIn).push (AIx C s.heap.objs.size)).get? (s.heap.objs.size+1)=some (AIx C s.heap.objs.size):=by
  have:=Heap.get?_push_size (s.heap.push AIn) (o:=AIx C s.heap.objs.size) rfl
  rwa [Heap.size_push] at this
 have e3:(s.heap.push AIn).Ns s.heap.objs.size (λ_=>none):=⟨AIn,#[],_,e1,rfl,(λe he=>absurd he (by simp)),λ_=>rfl⟩;have I1:=I.laid (a:=s.heap.objs.size) (o:=.own (s.heap.objs.size+1)) (h':=s.heap.push AIn) (t':=s.toks) (λb u q=>Heap.get?_push_of_some _ q) (Ai _) ⟨_,e1⟩;refine I1.laid (a:=s.heap.objs.size+1) (o:=.ins C s.heap.objs.size []) (t':=s.toks) (λb u q=>Heap.get?_push_of_some _ q) (AJB (Heap.size_push _ _)) ?_;have ne:s.heap.objs.size≠s.heap.objs.size+1:=Bi (Nat.lt_succ_self _);refine⟨by rw[BM ne,CI],FS _,ne,e2,λ_=>none,(Heap.Ns1.of_empty e3).at λo q=>Heap.get?_push_of_some _ q,λ_=>True.intro,λy hy=>absurd rfl hy⟩
theorem AGS{prog:Program}{w:World}{env:Env}{e:Expr}{f:Str}{pos:Pos}{s:Shared}{Q:AKP}(hb:attributeBase e f env (eval e env)=eval e env)
  (h:wpAny (model prog w) A (eval e env) (λo s₁=>wpAny (model prog w) A (getAttr o f true) Q E s₁) E s):wpAny (model prog w) A (eval (.Attribute e f pos) env) Q E s :=
 Attribute_any_ h (by rw[arm_eval_Attribute,hb])
end
def AAq(K:AM)(ta:TE)(f:Str):TE:=λσ H Q=>ta σ H λx H1=>∃a C dx fs v,x=.ref a/\H1 a=some (.ins C dx fs)/\Cls K C/\JI K C f/\fs.lookup f=some v/\Q v H1
def ABc(K:AM)(ta tv:TE)(f:Str):TS:=λD σ H=>tv σ H λy H1=>ta σ H1 λx H2=>∃a C dx fs,x=.ref a/\H2 a=some (.ins C dx fs)/\Cls K C/\JI K C f/\fs.length<1000 /\
 D.nx σ (upd H2 a (.ins C dx (Ck f y fs)))
def OZ(X:Cx)(op:Operator)(rd:V->V->Hp->VK->Prop):Prop :=
 ∀(pins:List (Addr×Obj)) (s:Shared) (σ:St) (H:Hp) (x y:V) (u v:Value) (Q:VK),AI X pins σ H s->Ab x u->Ab y v->rd x y H Q->wpAny (model X.prog X.w) X.A (inplaceOp op u v) (EP X pins σ Q) X.xe s
def ABb(K:AM)(ta tv:TE)(rd:V->V->Hp->VK->Prop)(f:Str):TS:=λD σ H=>ta σ H λx H1=>∃a C dx fs v,x=.ref a/\H1 a=some (.ins C dx fs)/\Cls K C/\JI K C f/\fs.lookup f=some v /\
 tv σ H1 λy H2=>rd v y H2 λz H3=>∃dx' fs',H3 a=some (.ins C dx' fs')/\fs'.length<1000/\D.nx σ (upd H3 a (.ins C dx' (Ck f z fs')))
section
variable {X:Cx}{o e value:Expr}{f:Str}{pos pos' tpos:Pos}{ta tv:TE}
theorem ACu(he:PE X e ta)(hb:attributeBase e f X.env (eval e X.env)=eval e X.env):PE X (.Attribute e f pos) (AAq X.K ta f):=by intro pins s σ H Q I h;refine AGS hb (Ad (he pins s σ H _ I h) λu s1 z2_=>?_);obtain⟨x,H1,I1,rx,a,C,dx,fs,v,ex,ea,c,n,l,q⟩:=z2_;subst ex;obtain rfl:u=Value.ref a:=rx;exact XB I1 ea c n l λu' s2 I2 ru=>⟨v,H1,I2,ru,q⟩
theorem ACI(ha:PE X o ta)(hv:PE X value tv)(hs:swapsWith value (some (.Attribute o f pos')) pos.line X.env=pure false):PS X (.Assign [.Attribute o f pos'] value pos) (ABc X.K ta tv f):=by intro pins s σ H D I h;refine plainObj_wpAny_Assign_Attribute (Ad (hv pins s σ H _ I h) λu s1 z2_=>?_) hs;obtain⟨y,H1,I1,ry,q⟩:=z2_;refine Ad (ha pins s1 σ H1 _ I1 q) λov s2 z2_=>?_;obtain⟨x,H2,I2,rx,a,C,dx,fs,ex,ea,c,n,l,q2⟩:=z2_;subst ex;obtain rfl:ov=Value.ref a:=rx;exact Uz I2 ea c n l ry λs3 I3=>⟨σ,_,I3,q2⟩
theorem ACH{op:Operator}{rd:V->V->Hp->VK->Prop}(ha:PE X o ta)(hv:PE X value tv)(hop:OZ X op rd):PS X (.AugAssign (.Attribute o f tpos) op value pos) (ABb X.K ta tv rd f):=by intro pins s σ H D I h;refine wpAny_AugAssign_AttributeAny (Ad (ha pins s σ H _ I h) λov s1 z2_=>?_);obtain⟨x,H1,I1,rx,a,C,dx,fs,v,ex,ea,c,n,l,q⟩:=z2_;subst ex;obtain rfl:ov=Value.ref a:=rx;refine XB I1 ea c n l λu s2 I2 ru=>Ad (hv pins s2 σ H1 _ I2 q) λw3 s3 z2_=>?_;obtain⟨y,H2,I3,ry,q3⟩:=z2_;refine Ad (hop pins s3 σ H2 v y u w3 _ I3 ru ry q3) λw4 s4 z2_=>?_;obtain⟨z,H3,I4,rz,dx',fs',ea',l',q4⟩:=z2_;exact Uz I4 ea' c n l' rz λs5 I5=>⟨σ,_,I5,q4⟩
def ABw:V->V->Hp->VK->Prop:=λx y H Q=>∃i j,x=.int i/\y=.int j/\Q (.int (i+j)) H
theorem AEo:OZ X .Add ABw:=by rintro pins s σ H x y u v Q I rx ry ⟨i,j,rfl,rfl,q⟩;obtain⟨t,rfl⟩:=(show ∃t,u=Value.int i t from rx);obtain⟨t',rfl⟩:=(show ∃t',v=Value.int j t' from ry);exact PyProof.Rows.iadd_int ⟨.int (i+j),H,I.tok _,⟨_,rfl⟩,q⟩
end
section
variable {X:Cx}{pins:List (Addr×Obj)}{σ:St}{H:Hp}{s:Shared}{A:Around}{E:AKP}{Q:AKP}{c:Value}{b:Bool}
inductive TyOf (K:AM) (H:Hp):V->Value->Prop where
 |non:TyOf K H .non (.type "NoneType")
 |bl (x:Bool):TyOf K H (.bl x) (.type "bool")
 |int (i:Int):TyOf K H (.int i) (.type "int")
 |str (x:Str):TyOf K H (.str x) (.type "str")
 |flt (x:UInt64):TyOf K H (.flt x) (.type "float")
 |lst {a:Addr} {xs:List V} (e:H a=some (.lst xs)):TyOf K H (.ref a) (.type "list")
 |frz {a:Addr} {o:Obj} {xs:List V} (e:H a=some (.frz o (.lst xs))):TyOf K H (.ref a) (.type "list")
 |tup {a:Addr} {xs:List V} (e:H a=some (.tup xs)):TyOf K H (.ref a) (.type "tuple")
 |dK {a:Addr} {kvs:List (Key×V)} (e:H a=some (.dK kvs)):TyOf K H (.ref a) (.type "dict")
 |dT {a:Addr} {kvs:List (List Key×V)} (e:H a=some (.dT kvs)):TyOf K H (.ref a) (.type "dict")
 |ins {a C dx:Addr} {fs:List (Str×V)} (e:H a=some (.ins C dx fs)) (cl:Cls K C) (ha:Cw K (.ref C) "__class__"=some (some (.builtin "object.__class__")))
   (hn:PySem.W.specialIn K (.builtin "object.__class__") "__get__"=some (some (.builtin "getset_descriptor.__get__"))) (htk:PySem.W.takesIn K (.builtin "object.__class__")=some true)
   (hm:AIy K C (.type "object")=some true):TyOf K H (.ref a) (.ref C)
theorem Kb{x:V}{u t:Value}(I:AI X pins σ H s)(rx:Ab x u)(ty:TyOf X.K H x t)(e:AIz X.K t c=some b)(h:∀tk,Q (.bool b) {s with toks:=tk}) :
  wpAny (model X.prog X.w) A (call (.builtin "isinstance") [u,c]) Q E s:=by
 cases ty with
 |non=>cases (show u=Value.none from rx);exact GD PySem.W.kitx_none I.kIn True.intro e (λz=>nomatch z) h
 |bl y=>cases (show u=Value.bool y from rx);exact GD PySem.W.kitx_bool I.kIn True.intro e (λz=>nomatch z) h
 |int i=>obtain⟨t,q⟩:=(show ∃t,u=Value.int i t from rx);cases q;exact GD PySem.W.kitx_int I.kIn True.intro e (λz=>nomatch z) h
 |str y=>obtain⟨t,q⟩:=(show ∃t,u=Value.str y t from rx);cases q;exact GD PySem.W.kitx_str I.kIn True.intro e (λz=>nomatch z) h
 |flt y=>obtain⟨t,q⟩:=(show ∃t,u=Value.float y t from rx);cases q;exact GD PySem.W.kitx_float I.kIn True.intro e (λz=>nomatch z) h
 |@lst a xs ea =>
  cases (show u=Value.ref a from rx);obtain⟨_,_,n,_,h1⟩:=(show CP X.prog X.w H s.heap a (.lst xs) from I.hok a _ ea);exact GD PySem.W.kitx_list I.kIn ⟨_,h1,rfl⟩ e (λz=>nomatch z) h
 |@frz a ob xs ea =>
  cases (show u=Value.ref a from rx);obtain⟨_,_,_,n,_,h1⟩:=(show CP X.prog X.w H s.heap a (.frz ob (.lst xs)) from I.hok a _ ea);exact GD PySem.W.kitx_list I.kIn ⟨_,h1,rfl⟩ e (λz=>nomatch z) h
 |@tup a xs ea =>
  cases (show u=Value.ref a from rx);obtain⟨_,_,_,p⟩:=(show CP X.prog X.w H s.heap a (.tup xs) from I.hok a _ ea);obtain⟨o,h1,h2,_⟩:=p;exact GD PySem.W.kitx_tuple I.kIn ⟨o,h1,h2⟩ e (λz=>nomatch z) h
 |@dK a kvs ea =>
  cases (show u=Value.ref a from rx);obtain⟨_,_,vs,_,p⟩:=(show CP X.prog X.w H s.heap a (.dK kvs) from I.hok a _ ea);obtain⟨o,es,ep,h1,h2,_⟩:=p;exact GD PySem.W.kitx_dict I.kIn ⟨o,h1,h2.1⟩ e (λz=>nomatch z) h
 |@dT a kvs ea =>
  cases (show u=Value.ref a from rx);obtain⟨_,_,xs,_,o,es,ep,h1,h2,_⟩:=(show CP X.prog X.w H s.heap a (.dT kvs) from I.hok a _ ea);exact GD PySem.W.kitx_dict I.kIn ⟨o,h1,h2.1⟩ e (λz=>nomatch z) h
 |@ins a C dx fs ea cl ha hn htk hm =>
  cases (show u=Value.ref a from rx);obtain⟨mA,O,_⟩:=Ro I.hok ea;obtain⟨od,J,_⟩:=O.look;exact GD (PySem.W.kitx_own (cl.get _) cl.hd ha hn htk hm) I.kIn J e (λz=>nomatch z) h
end
structure Bq (k:Nat) (A:Around):Prop where
 hd:A.handled=none
 dp:A.depth+3*k+5<recursionLimit
 un:A.units+16*k+200<cLine
theorem Bq.mono{j k:Nat}{A:Around}(r:Bq k A)(h:j<=k):Bq j A:=⟨r.hd,by have:=r.dp;omega,by have:=r.un;omega⟩
theorem Bq.deeper{k:Nat}{A:Around}(r:Bq (k+1) A)(env:Env):Bq k (A.deeper env) :=
 ⟨r.hd,by have:=r.dp;show A.depth+1+3*k+5<_;omega,by have:=r.un;show A.units+3+16*k+200<_;omega⟩
theorem Bq.in1{k:Nat}{A:Around}(r:Bq (k+1) A):Bq k A.in1 :=
 ⟨r.hd,by have:=r.dp;show A.depth+3*k+5<_;omega,by have:=r.un;show A.units+1+16*k+200<_;omega⟩
theorem AD0{A:Around}{C:Addr}{us:List Value}{kw:List (Str×Value)}:(A.under (.builtin "type.__call__" ⟨.ref C::us,kw⟩)).depth=A.depth+1:=by first|rfl|simp[Around.under,Code.weight,Code.isCreation,Code.isGuard,Code.isCaller,Code.frames,Code.isFrame,guardIds]
theorem ADx{A:Around}{C:Addr}{us:List Value}{kw:List (Str×Value)}:(A.under (.builtin "type.__call__" ⟨.ref C::us,kw⟩)).units=A.units+1:=by first|rfl|simp[Around.under,Code.cUnits,Code.frames,Code.isFrame]
theorem Bq.make{k:Nat}{A:Around}(r:Bq (k+1) A)(C:Addr)(us:List Value)(kw:List (Str×Value)):Bq k (A.under (.builtin "type.__call__" ⟨.ref C::us,kw⟩)) :=
 ⟨r.hd,by have:=r.dp;rw[AD0];omega,by have:=r.un;rw[ADx];omega⟩
theorem Bq.depth{k:Nat}{A:Around}(r:Bq k A):A.depth<recursionLimit:=by have:=r.dp;omega
theorem Bq.units{k:Nat}{A:Around}(r:Bq k A):A.units+64<cLine:=by have:=r.un;omega
def UR:TA:=λ_ H Q=>Q [] H
def AAs(ta:TE)(tr:TA):TA:=λσ H Q=>ta σ H λx H1=>tr σ H1 λxs H2=>Q (x::xs) H2
section
variable {X:Cx}{e:Expr}{es:List Expr}{te:TE}{t:TA}{pos:Pos}
theorem NU:PA X [] UR:=λ_ _ _ _ H Q I h=>Calls.spliced_nil ⟨[],H,I,.nil,h⟩
theorem KR(ha:PE X e te)(hr:PA X es t)(hs:starEach (e::es) X.env=(false,eval e X.env)::starEach es X.env:=by rfl):PA X (e::es) (AAs te t):=by intro pos pins s σ H Q I h;rw[hs];show wpAny _ _ (spliced ((false,eval e X.env)::backTo pos (starEach es X.env))) _ _ s;refine Calls.spliced_cons (Ad (ha pins s σ H _ I h) λu s1 z2_=>?_);obtain⟨x,H1,I1,r1,q1⟩:=z2_;exact Ad (hr pos pins s1 σ H1 _ I1 q1) λus s2 z2_=>by obtain⟨xs,H2,I2,r2,q2⟩:=z2_;exact⟨x::xs,H2,I2,.cons r1 r2,q2⟩
def AAb(t:TA):TE:=λσ H Q=>t σ H λxs H1=>xs.length<=sizeLine/\∀p,H1 p=none->Q (.ref p) (upd H1 p (.tup xs))
def AAm(t:TA):TE:=λσ H Q=>t σ H λxs H1=>xs.length<=sizeLine/\∀p,H1 p=none->Q (.ref p) (upd H1 p (.lst xs))
theorem Vb{x1}(h:PA X es t):PE X (.Tuple es x1 pos) (AAb t):=by intro pins s σ H Q I hq;refine wpAny_Tuple_spliced (Ad (h pos pins s σ H _ I hq) λus s1 z2_=>?_);obtain⟨xs,H1,I1,r,z,q⟩:=z2_;refine⟨by rw[<-r.length];exact z,?_⟩;have hf:H1 s1.heap.objs.size=none:=I1.hok.fresh (Ai _);refine⟨.ref s1.heap.objs.size,upd H1 s1.heap.objs.size (.tup xs),I1.laid (t':=s1.toks) (λb u e=>Heap.get?_push_of_some _ e) (Ai _) ?_,rfl,q _ hf⟩;exact⟨z,us,r,⟨_,Heap.get?_push_size _ rfl,rfl,_,rfl⟩⟩
theorem ACo(h:PA X es t):PE X (.List es pos) (AAm t):=by intro pins s σ H Q I hq;refine wpAny_List_spliced (Ad (h pos pins s σ H _ I hq) λus s1 z2_=>?_);obtain⟨xs,H1,I1,r,z,q⟩:=z2_;refine⟨by rw[<-r.length];exact z,?_⟩;have hf:H1 s1.heap.objs.size=none:=I1.hok.fresh (Ai _);refine⟨.ref s1.heap.objs.size,upd H1 s1.heap.objs.size (.lst xs),I1.laid (t':=s1.toks) (λb u e=>Heap.get?_push_of_some _ e) (Ai _) ?_,rfl,q _ hf⟩;exact⟨z,us,0,r,Heap.get?_push_size _ rfl⟩
end
abbrev Sp:=List V->Hp->VK->XK->Prop
abbrev Gg:=List Env->Hp->Shared->XK->AKP
structure Hq (P:Program) (w:World) (K:AM) (mg:AKO) (base:Heap) (A:Around) (outer:List Env) (s:Shared) (H:Hp):Prop where
 frames:A.frames=some outer
 mod:OX K mg base
 bs:∀b o,base.get? b=some o->s.heap.get? b=some o/\H b=none
 bsz:base.objs.size<=s.heap.objs.size
 funs:s.heap.FunFrames base outer
 frf:∀b∈CD outer,H b=none
 hok:CW P w H s.heap
 bare:AllBare s.gens
def CE(outer:List Env)(P:Program)(w:World)(H:Hp)(s:Shared)(Q:VK)(u:Value)(s':Shared):Prop :=
 ∃v H',s'.os=s.os/\AllBare s'.gens/\Un (CD outer) [] H H' s.heap s'.heap/\CW P w H' s'.heap/\Ab v u/\Q v H'
def CR(CX:Gg)(outer:List Env)(P:Program)(w:World)(H:Hp)(s:Shared)(Q:VK)(E:XK)(r:Result)(s':Shared):Prop :=
 match r with
 |.ok (.ret u)=>CE outer P w H s Q u s'
 |.ok _=>False
 |.error e=>CX outer H s E e s'
structure Dv (P:Program) (w:World) (K:AM) (mg:AKO) (base:Heap) (CX:Gg) (k:Nat) (f:Addr) (fd:FuncData) (ps:List Str) (sp:Sp):Prop where
 len:∀vs H Q E,sp vs H Q E->vs.length=ps.length
 run:∀(A:Around) (outer:List Env) (s:Shared) (H:Hp) (args:Args) (us:List Value) (vs:List V) (Q:VK) (E:XK),Bq k A->Hq P w K mg base A outer s H->BindsTo s fd args (ps.zip us)->Ae vs us->sp vs H Q E ->
  codeAny (model P w) A (.call (.ref f) args) (CR CX outer P w H s Q E) s
theorem Dv.mono{P:Program}{w:World}{K:AM}{mg:AKO}{base:Heap}{CX:Gg}{j k:Nat}{f:Addr}{fd:FuncData}{ps:List Str}{sp:Sp}(F:Dv P w K mg base CX j f fd ps sp)(h:j<=k) :
  Dv P w K mg base CX k f fd ps sp:=⟨F.len,λA outer s H args us vs Q E hr=>F.run A outer s H args us vs Q E (hr.mono h)⟩
theorem Dv.imp{P:Program}{w:World}{K:AM}{mg:AKO}{base:Heap}{CX:Gg}{k:Nat}{f:Addr}{fd:FuncData}{ps:List Str}{sp sp':Sp}(F:Dv P w K mg base CX k f fd ps sp)
  (h:∀vs H Q E,sp' vs H Q E->sp vs H Q E):Dv P w K mg base CX k f fd ps sp' :=
 ⟨λvs H Q E q=>F.len vs H Q E (h _ _ _ _ q),λA outer s H args us vs Q E hr he hb hv hs=>F.run A outer s H args us vs Q E hr he hb hv (h _ _ _ _ hs)⟩
theorem Hq.make{P:Program}{w:World}{K:AM}{mg:AKO}{base:Heap}{A:Around}{outer:List Env}{s:Shared}{H:Hp}(e:Hq P w K mg base A outer s H)(C:Addr)(us:List Value)(kw:List (Str×Value)) :
  Hq P w K mg base (A.under (.builtin "type.__call__" ⟨.ref C::us,kw⟩)) outer s H:=⟨by first|exact e.frames|(simpa[Around.under,Code.envs,Code.isFrame,pushEnvs] using e.frames),e.mod,e.bs,e.bsz,e.funs,e.frf,e.hok,e.bare⟩
theorem Hq.in1{P:Program}{w:World}{K:AM}{mg:AKO}{base:Heap}{A:Around}{outer:List Env}{s:Shared}{H:Hp}(e:Hq P w K mg base A outer s H) :
  Hq P w K mg base A.in1 outer s H:=⟨e.frames,e.mod,e.bs,e.bsz,e.funs,e.frf,e.hok,e.bare⟩
section
variable {X:Cx}{pins:List (Addr×Obj)}{σ:St}{H:Hp}{s s':Shared}
theorem AI.env0(I:AI X pins σ H s):Hq X.prog X.w X.K X.mg X.base X.A X.stack s H :=
 ⟨I.ok.frames,I.ok.mod,I.bs,Ch I.ok.bsz I.sz,I.stack,I.stkFree,I.hok,I.bare⟩
theorem AI.after{Q:VK}{u:Value}(I:AI X pins σ H s)(h:CE X.stack X.prog X.w H s Q u s'):EP X pins σ Q u s':=by obtain⟨v,H',os,bare,un,hok,r,q⟩:=h;obtain⟨hh,g,d,t,os'⟩:=s';obtain rfl:os'=s.os:=os;exact⟨v,H',I.call (h':=hh) (g':=g) (d':=d) (t':=t) (ch:=[]) un hok bare (λb z=>absurd z (by simp)),r,q⟩
end
def UU(sp:Sp)(dvs:List V)(E:XK)(t:TA):TE:=λσ H Q=>t σ H λvs H1=>sp (vs++dvs) H1 Q E
def US(C:Addr)(sp:Sp)(dvs:List V)(E:XK)(t:TA):TE:=λσ H Q=>t σ H λvs H1=>∀x dx,H1 x=none->H1 dx=none->dx≠x ->
 sp (.ref x::(vs++dvs)) (upd (upd H1 dx (.own x)) x (.ins C dx [])) (λv H2=>v=.non/\Q (.ref x) H2) E
def Ez(K:AM)(fd:FuncData)(ps:List Str)(ds:List Value):Prop :=
 ∀(s:Shared) (us:List Value),K.In s.heap->(us++ds).length=ps.length->BindsTo s fd ⟨us,[]⟩ (ps.zip (us++ds))
theorem Ez.all{K:AM}{fd:FuncData}{ps:List Str}(h:∀us:List Value,us.length=ps.length->bindArgs fd ⟨us,[]⟩=pure (ps.zip us)):Ez K fd ps []:=λs us _ hl=>by
 rw[HS] at hl ⊢;exact .of_eq (h us hl)
def Ko(CX:Gg)(X:Cx)(E:XK):Prop:=∀(pins:List (Addr×Obj)) (σ:St) (H:Hp) (s:Shared) (e:Value) (s':Shared),AI X pins σ H s->CX X.stack H s E e s'->X.xe e s'
section
variable {X:Cx}{CX:Gg}{k:Nat}{f C:Addr}{fd:FuncData}{ps:List Str}{sp:Sp}{dvs:List V}{ds:List Value}{E:XK}{x m:Str}{p pos apos:Pos}{e o:Expr}{es:List Expr}{ta:TE}{t:TA}
theorem VB{pins:List (Addr×Obj)}{σ:St}{H:Hp}{s:Shared}{Q:VK}{us:List Value}{vs:List V}(F:Dv X.prog X.w X.K X.mg X.base CX k f fd ps sp)(hr:Bq k X.A)(hb:Ez X.K fd ps ds)(hd:Ae dvs ds)(hx:Ko CX X E)
  (I:AI X pins σ H s) (r:Ae vs us) (h:sp (vs++dvs) H Q E):wpAny (model X.prog X.w) X.A (call (.ref f) us) (EP X pins σ Q) X.xe s:=by
 have r2:Ae (vs++dvs) (us++ds):=r.append hd;have hl:(us++ds).length=ps.length:=by rw[<-r2.length];exact F.len _ _ _ _ h
 refine wpAny_call (codeAny_mono (F.run X.A X.stack s H ⟨us,[]⟩ (us++ds) (vs++dvs) Q E hr I.env0 (hb s us I.kIn hl) r2 h) λr s' hq=>?_)
 cases r with
 |error e=>exact hx pins σ H s e s' I hq
 |ok fl =>
  cases fl with
  |ret u=>exact I.after hq
  |next=>exact False.elim hq
  |brk=>exact False.elim hq
  |cont=>exact False.elim hq
theorem ACy(F:Dv X.prog X.w X.K X.mg X.base CX k f fd ps sp)(hr:Bq k X.A)(hg:Gl X x)(hm:X.mg x=some (.ref f))(hk:GH X.K (.ref f)=true)(hb:Ez X.K fd ps ds)(hd:Ae dvs ds)(hx:Ko CX X E)
  (ha:PA X (e::es) t) (hdb:(x == ("__debug__":Str))=false:=by decide) (he:starEach (e::es) X.env=(false,eval e X.env)::starEach es X.env:=by rfl) (hpl:(backTo pos (starEach es X.env)).any (·.1)=false:=by rfl) :
  PE X (.Call (.Name x p) (e::es) [] pos) (UU sp dvs E t):=by
 intro pins s σ H Q I h;refine AKF (Hd I hg hm ?_ hdb);refine AJh (h₀:=X.base) I.ok.mod.kin hk (Ad (ha pos pins s σ H _ I h) λus s1 z2_=>?_) he hpl;obtain⟨vs,H1,I1,r,q⟩:=z2_;refine⟨I1.kIn,?_⟩;exact VB F hr hb hd hx I1 r q
theorem ACx(F:Dv X.prog X.w X.K X.mg X.base CX k f fd ps sp)(hr:Bq k X.A)(hg:Gl X x)(hm:X.mg x=some (.ref f))(hk:GH X.K (.ref f)=true)(hb:Ez X.K fd ps ds)(hd:Ae dvs ds)(hx:Ko CX X E)
  (hdb:(x == ("__debug__":Str))=false:=by decide):PE X (.Call (.Name x p) [] [] pos) (UU sp dvs E UR):=by
 intro pins s σ H Q I h;refine AKF (Hd I hg hm ?_ hdb);exact PySem.W.callWith_K0 I.kIn hk (VB (us:=[]) F hr hb hd hx I .nil h)
structure Mk (K:AM) (C f:Addr):Prop where
 makes:AJg K C=true
 init:Cw K (.ref C) "__init__"=some (some (.ref f))
 fn:PySem.W.isFn K (.ref f)=true
 kp:GH K (.ref C)=true
theorem ABd{pins:List (Addr×Obj)}{σ:St}{H:Hp}{s:Shared}{Q:VK}{us:List Value}{vs:List V}(M:Mk X.K C f)(F:Dv X.prog X.w X.K X.mg X.base CX k f fd ps sp)(hr:Bq (k+1) X.A)(hb:Ez X.K fd ps ds)(hd:Ae dvs ds)
  (hx:Ko CX X E) (I:AI X pins σ H s) (r:Ae vs us)
  (h:∀x dx,H x=none->H dx=none->dx≠x->sp (.ref x::(vs++dvs)) (upd (upd H dx (.own x)) x (.ins C dx [])) (λv H2=>v=.non/\Q (.ref x) H2) E) :
  wpAny (model X.prog X.w) X.A (call (.ref C) us) (EP X pins σ Q) X.xe s:=by
 have hq:=h (s.heap.objs.size+1) s.heap.objs.size (I.hok.fresh (AJC _)) (I.hok.fresh (Ai _)) (Bi (Nat.lt_succ_self _));have I2:=AI.made (C:=C) I;have r2:Ae (V.ref (s.heap.objs.size+1)::(vs++dvs)) (Value.ref (s.heap.objs.size+1)::(us++ds)):=.cons rfl (r.append hd)
 have hl:(Value.ref (s.heap.objs.size+1)::us++ds).length=ps.length:=by have e:=r2.length;rw[F.len _ _ _ _ hq] at e;exact e.symm
 refine wpAny_call (ADy (f:=f) I.kIn M.makes M.init (beq_iff_eq.mp M.fn) (codeAny_mono (F.run _ X.stack _ _ ⟨Value.ref (s.heap.objs.size+1)::us,[]⟩ (Value.ref (s.heap.objs.size+1)::(us++ds)) _ _ E (hr.make C us [])
  (I2.env0.make C us []) (hb _ (Value.ref (s.heap.objs.size+1)::us) I2.kIn hl) r2 hq) λr s' hq'=>?_))
 cases r with
 |error e=>exact hx pins σ _ _ e s' I2 hq'
 |ok fl =>
  cases fl with
  |ret u =>
   obtain⟨v,H',I3,rv,ev,q3⟩:=I2.after hq';subst ev;exact⟨rv,⟨V.ref (s.heap.objs.size+1),H',I3,rfl,q3⟩⟩
  |next=>exact False.elim hq'
  |brk=>exact False.elim hq'
  |cont=>exact False.elim hq'
theorem ACn(M:Mk X.K C f)(F:Dv X.prog X.w X.K X.mg X.base CX k f fd ps sp)(hr:Bq (k+1) X.A)(hg:Gl X x)(hm:X.mg x=some (.ref C))(hb:Ez X.K fd ps ds)(hd:Ae dvs ds)(hx:Ko CX X E)
  (ha:PA X (e::es) t) (hdb:(x == ("__debug__":Str))=false:=by decide) (he:starEach (e::es) X.env=(false,eval e X.env)::starEach es X.env:=by rfl) (hpl:(backTo pos (starEach es X.env)).any (·.1)=false:=by rfl) :
  PE X (.Call (.Name x p) (e::es) [] pos) (US C sp dvs E t):=by
 intro pins s σ H Q I h;refine AKF (Hd I hg hm ?_ hdb);refine AJh (h₀:=X.base) I.ok.mod.kin M.kp (Ad (ha pos pins s σ H _ I h) λus s1 z2_=>?_) he hpl;obtain⟨vs,H1,I1,r,q⟩:=z2_;refine⟨I1.kIn,?_⟩;exact ABd M F hr hb hd hx I1 r q
end
structure BP (N P:List Str) (sc:Scope):Prop where
 kind:sc.kind=.function
 co:sc.isCoroutine=false
 gen:sc.isGenerator=false
 nd:N.Nodup
 pre:N.take P.length=P
 par:∀x∈P,sc.names.lookup x=some .local\/sc.names.lookup x=some .cell
 nofree:∀y∈sc.names,y.2≠.free
theorem YK{kindOf:Str->Option NameKind}{x:Str}:∀{binds:List (Str×Value)} {m:AKO},(∀v,(x,v)∉binds)->bindL kindOf binds m x=m x
 |[],_,_=>rfl
 |(n,v)::r,m,h=>by
  unfold bindL;rw[YK λw hw=>h w (BK _ hw)];split
  .have:x≠n:=by rintro rfl;exact h v BN
   simp[this]
  .rfl
theorem YM{kindOf:Str->Option NameKind}{x:Str}:∀{binds:List (Str×Value)} {m:AKO},(∀v,(x,v)∉binds)->bindC kindOf binds m x=m x
 |[],_,_=>rfl
 |(n,v)::r,m,h=>by
  unfold bindC;rw[YM λw hw=>h w (BK _ hw)];split
  .rfl
  .have:x≠n:=by rintro rfl;exact h v BN
   simp[this]
theorem YL{kindOf:Str->Option NameKind}{x:Str}{v:Value}:∀{P:List Str} {vs:List Value} {i:Nat} {m:AKO},P.Nodup->P[i]?=some x->vs[i]?=some v->kindOf x=some .local ->
  bindL kindOf (P.zip vs) m x=some v
 |[],_,_,_,_,h,_,_=>by simp at h
 |_::_,[],_,_,_,_,h,_=>by simp at h
 |p::P,w::vs,0,m,nd,h1,h2,hk=>by
  simp at h1 h2;subst h1;subst h2;show bindL kindOf ((p,w)::P.zip vs) m p=_;unfold bindL;rw[YK λv hv=>(AIk.mp nd).1 (List.of_mem_zip hv).1,if_pos hk];simp
 |p::P,w::vs,i+1,m,nd,h1,h2,hk=>by
  show bindL kindOf ((p,w)::P.zip vs) m x=_;unfold bindL;exact YL (i:=i) (AIk.mp nd).2 (by simpa using h1) (by simpa using h2) hk
theorem YN{kindOf:Str->Option NameKind}{x:Str}{v:Value}:∀{P:List Str} {vs:List Value} {i:Nat} {m:AKO},P.Nodup->P[i]?=some x->vs[i]?=some v->kindOf x≠some .local ->
  bindC kindOf (P.zip vs) m x=some v
 |[],_,_,_,_,h,_,_=>by simp at h
 |_::_,[],_,_,_,_,h,_=>by simp at h
 |p::P,w::vs,0,m,nd,h1,h2,hk=>by
  simp at h1 h2;subst h1;subst h2;show bindC kindOf ((p,w)::P.zip vs) m p=_;unfold bindC;rw[YM λv hv=>(AIk.mp nd).1 (List.of_mem_zip hv).1,if_neg hk];simp
 |p::P,w::vs,i+1,m,nd,h1,h2,hk=>by
  show bindC kindOf ((p,w)::P.zip vs) m x=_;unfold bindC;exact YN (i:=i) (AIk.mp nd).2 (by simpa using h1) (by simpa using h2) hk
def Gp(N:List Str)(vs:List V):St:=vs.map some++AIl (N.length-vs.length) none
def Dt(CX:Gg)(P:Program)(w:World)(K:AM)(mg:AKO)(base:Heap)(N:List Str)(qual:Str)(scope:Scope)(f:Addr)(cd:Value)(A:Around)(outer:List Env)(s:Shared)(H:Hp)(E:XK):Cx where
 prog:=P
 w:=w
 K:=K
 mg:=mg
 base:=base
 A:=A.deeper (envOfC qual scope s.heap.objs.size f cd)
 N:=N
 s₀:=s
 H₀:=H
 env:=envOfC qual scope s.heap.objs.size f cd
 outer:=outer
 stack:=envOfC qual scope s.heap.objs.size f cd::outer
 ex:=[]
 calm:=true
 fn:=λ_=>true
 pn:=[]
 xe:=λe s'=>wpAny (model P w) (A.deeper (envOfC qual scope s.heap.objs.size f cd)) (leaving (envOfC qual scope s.heap.objs.size f cd) e) (λ_ s''=>CX outer H s E e s'') (λe' s''=>CX outer H s E e' s'') s'
theorem YC{sc:Scope}{n:Nat}{x:Str}(h:sc.names.lookup x=some .cell):∃c,(cellsFrom n sc.names []).lookup x=some c:=by have q:=PySem.W.cellsFrom_some sc.names n [] (.inl h);exact AJi.mp q
theorem AEm{CX:Gg}{P:Program}{w:World}{K:AM}{mg:AKO}{base:Heap}{N ps:List Str}{qual:Str}{scope:Scope}{f:Addr}{cd:Value}{A:Around}{outer:List Env}{s s1:Shared}{H:Hp}{E:XK}{us:List Value}{vs:List V}
  (S:BP N ps scope) (hd:A.handled=none) (e0:Hq P w K mg base A outer s H) (hl:vs.length=ps.length) (r:Ae vs us)
  (x:InCallC s s.heap.objs.size (bindL (envOfC qual scope s.heap.objs.size f cd).kindOf (ps.zip us) λ_=>none) (cellsFrom (s.heap.objs.size+1) scope.names []) (bindC (envOfC qual scope s.heap.objs.size f cd).kindOf (ps.zip us) λ_=>none) s1) :
  AI (Dt CX P w K mg base N qual scope f cd A outer s H E) [] (Gp N vs) H s1:=by
 have hpl:ps.length<=N.length:=by have:=congrArg List.length S.pre;rw[AIe] at this;omega
 obtain⟨h1,tk,rfl,hk⟩:=x.done;have noA:∀b:Addr,b∉(Dt CX P w K mg base N qual scope f cd A outer s H E).ex:=λb z=>absurd (show b∈([]:List Addr) from z) (by simp)
 refine⟨⟨e0.mod,S.kind,rfl,rfl,Ai _,λy z c h1 h2=>?_,λy hy=>?_,λy c _ h=>?_,λ_=>hd,Around.frames_deeper e0.frames,.inr ⟨rfl,rfl⟩,λb z=>absurd z (noA b),e0.bs,e0.bsz,λb _ _=>noA b,λb z=>absurd z (noA b),e0.funs,e0.frf⟩,
  rfl,e0.bare,Un.kept hk,⟨_,x.toInCall.ns,λi y v h1 h2 h3=>?_⟩,λy c h=>⟨_,x.cell y c h⟩,e0.hok.fresh (Ai _),λy c h=>?_,λp hp=>absurd (show p∈([]:List (Addr×Obj)) from hp) (by simp),e0.hok.kept hk,?_⟩
 .exact name_of_addr x.apart (PySem.mem_of_lookup h1) (PySem.mem_of_lookup h2)
 .have hy:scope.names.lookup y=some .cell\/scope.names.lookup y=some .free:=hy;rcases hy with hy|hy
  .exact YC hy
  .exact absurd rfl (S.nofree _ (PySem.mem_of_lookup hy))
 .exact Nat.le_of_lt (x.above y c (PySem.mem_of_lookup h))
 .have hi:i<vs.length:=by
   unfold Gp at h2
   by_cases hi:i<vs.length
   .exact hi
   .rw[AI0 (by simpa using hi)] at h2;rw[AJj] at h2;split at h2 <;> cases h2
  have ha:vs[i]?=some v:=by
   unfold Gp at h2;rw[FT (by simpa using hi),BD] at h2
   cases e:vs[i]? with
   |none=>rw[e] at h2;cases h2
   |some a=>rw[e] at h2;cases h2;rfl
  obtain⟨u,hu,rv⟩:=r.get ha
  have hp:ps[i]?=some y:=by rw[<-S.pre,List.getElem?_take_of_lt (by omega)];exact h1
  have ndP:ps.Nodup:=by rw[<-S.pre];exact S.nd.sublist (List.take_sublist _ _)
  refine⟨u,rv,?_⟩;rcases S.par y (CY hp) with k|k
  .exact .inl ⟨k,YL ndP hp hu k⟩
  .obtain⟨c,e⟩:=YC (n:=s.heap.objs.size+1) k;refine .inr ⟨.inl k,c,e,?_⟩;have q:=x.cell y c e;rw[YN ndP hp hu (by show scope.names.lookup y≠_;rw[k];decide)] at q;exact q
 .exact e0.hok.fresh (Nat.le_of_lt (x.above y c (PySem.mem_of_lookup h)))
 .unfold Gp;show _=N.length;rw[Cz,Ao,AJu];omega
theorem XV{CX:Gg}{P:Program}{w:World}{K:AM}{mg:AKO}{base:Heap}{k:Nat}{f:Addr}{name qual:Str}{params:Arguments}{body:List Stmt}{scope:Scope}{dV kV doc pm cdv ct oc:Value}{an od:Option Addr}
  {osl:Array (Option Value)} {N ps:List Str} {sp:Sp} (lk:K.lookup f=some ⟨oc,od,.func (AIo name qual params body scope dV kV doc pm an cdv ct),osl⟩) (hcd:AJk K cdv qual=true) (S:BP N ps scope)
  (len:∀vs H Q E,sp vs H Q E->vs.length=ps.length)
  (hbody:∀(A:Around) (outer:List Env) (s:Shared) (H:Hp) (vs:List V) (Q:VK) (E:XK),Bq k (A.deeper (envOfC qual scope s.heap.objs.size f cdv))->sp vs H Q E ->
   ∃t,DT (Dt CX P w K mg base N qual scope f cdv A outer s H E) body t/\t {nx:=λ_ H'=>Q .non H',rt:=Q} (Gp N vs) H) :
  Dv P w K mg base CX (k+1) f (AIo name qual params body scope dV kV doc pm an cdv ct) ps sp:=by
 refine⟨len,λA outer s H args us vs Q E hr e0 hb r hsp=>?_⟩;have hl:=len _ _ _ _ hsp;have KX:K.In s.heap:=e0.mod.kin.keeps λb o e=>(e0.bs b o e).1;have lim:s.heap.NoLimit:=e0.mod.nolimit.keeps λb o e=>(e0.bs b o e).1
 have hkind:∀y∈ps.zip us,scope.names.lookup y.1=some .local\/(scope.names.lookup y.1=some .cell/\((cellsFrom (s.heap.objs.size+1) scope.names []).lookup y.1).isSome=true):=λ⟨n,v⟩ hy=>by
  rcases S.par n (List.of_mem_zip hy).1 with q|q
  .exact .inl q
  .exact .inr ⟨q,PySem.W.cellsFrom_some _ _ _ (.inl q)⟩
 refine codeAny_call_function hr.depth (KX _ _ lk) rfl S.co S.gen rfl (PySem.W.codeRec_of KX hcd) (hb _ _ _ _ ?_);refine wpAny_newFunctionEnv_cells S.kind hkind λenv he s1 x=>?_;subst he;refine⟨lim.keeps x.toInCall.keep,codeAny_func ?_⟩;obtain⟨t,ht,hq⟩:=hbody A outer s H vs Q E (hr.deeper _) hsp;have I:AI (Dt CX P w K mg base N qual scope f cdv A outer s H E) [] (Gp N vs) H s1:=AEm S hr.hd e0 hl r x;refine EM (ht [] s1 (Gp N vs) H _ I hq) (λfl s' hs=>?_) λe s' hs=>hs
 have fin:∀{σ':St} {H':Hp} {v:V} {u:Value},AI (Dt CX P w K mg base N qual scope f cdv A outer s H E) [] σ' H' s'->Ab v u->Q v H'->CE outer P w H s Q u s' :=
  λ{σ' H' v u} J rv q=>⟨v,H',J.os,J.bare,J.base,J.hok,rv,q⟩
 cases fl with
 |ret u =>
  obtain⟨v,σ',H',J,rv,q⟩:=hs;exact fin J rv q
 |next =>
  obtain⟨σ',H',J,q⟩:=hs;exact fin (v:=V.non) (u:=Value.none) J rfl q
 |brk =>
  obtain⟨_,_,_,q⟩:=hs;exact False.elim q
 |cont =>
  obtain⟨_,_,_,q⟩:=hs;exact False.elim q
section
variable {X:Cx}{x:Str}{p pos:Pos}{e:Expr}{es:List Expr}{t:TA}{id T:String}{r:List V->Hp->VK->Prop}
def UV(r:List V->Hp->VK->Prop)(t:TA):TE:=λσ H Q=>t σ H λvs H1=>r vs H1 Q
theorem RP(hc:Cu X (.builtin id) r)(hg:Gl X x)(hm:X.mg x=none)(hv:bootBuiltins x=some (.builtin id))(ha:PA X (e::es) t)(hn:x≠"__name__":=by decide)(hdb:(x == ("__debug__":Str))=false:=by decide)
  (he:starEach (e::es) X.env=(false,eval e X.env)::starEach es X.env:=by rfl) (hpl:(backTo pos (starEach es X.env)).any (·.1)=false:=by rfl):PE X (.Call (.Name x p) (e::es) [] pos) (UV r t):=by
 intro pins s σ H Q I h;refine AKF (Hy I hg hm hv ?_ hn hdb);exact PyProof.Rows.callWith_builtin1 (Ad (ha pos pins s σ H _ I h) λus s1 z2_=>(by obtain⟨vs,H1,I1,r1,q1⟩:=z2_;exact hc pins s1 σ H1 vs us Q I1 r1 q1)) he hpl
theorem ACw(hc:Cu X (.type T) r)(hg:Gl X x)(hm:X.mg x=none)(hv:bootBuiltins x=some (.type T))(ha:PA X (e::es) t)(hn:x≠"__name__":=by decide)(hdb:(x == ("__debug__":Str))=false:=by decide)
  (he:starEach (e::es) X.env=(false,eval e X.env)::starEach es X.env:=by rfl) (hpl:(backTo pos (starEach es X.env)).any (·.1)=false:=by rfl):PE X (.Call (.Name x p) (e::es) [] pos) (UV r t):=by
 intro pins s σ H Q I h;refine AKF (Hy I hg hm hv ?_ hn hdb);exact PyProof.Rows.callWith_type1 (Ad (ha pos pins s σ H _ I h) λus s1 z2_=>(by obtain⟨vs,H1,I1,r1,q1⟩:=z2_;exact hc pins s1 σ H1 vs us Q I1 r1 q1)) he hpl
end
end L2
namespace HT
open PySem PyProof.Rows
section
variable {prog:Program}{w:World}{A:Around}{E:AKP}{s:Shared}
theorem AIU{t b:Addr}{vs ws:List Value}{Q:AKP}(ht:IsTup s.heap t vs.toArray)(hb:IsTup s.heap b ws.toArray)(hv:vs≠[])
  (h1:ws=[]->Q (.ref t) s) (h2:ws≠[]->Q (.ref s.heap.objs.size) {s with heap:=s.heap.push {cls:=.type "tuple",data:=.seq (vs++ws).toArray}})
  (hsz:vs.length+ws.length<=sizeLine):wpAny (model prog w) A (binaryOp .Add (.ref t) (.ref b)) Q E s:=by
 obtain⟨⟨cls,dd,data,sl⟩,ho,hc,n,hd⟩:=id ht;obtain⟨⟨cls2,dd2,data2,sl2⟩,ho2,hc2,n2,hd2⟩:=id hb;simp only at hc hd hc2 hd2;subst hc hd hc2 hd2;have e:vs.toArray++ws.toArray=(vs++ws).toArray:=by simp
 by_cases hw:ws=[]
 .exact concat_meets ⟨_,ho,rfl⟩ ⟨_,ho2,rfl⟩ noFill_tuple_add seq_tuple_add AJv AJw (AJx _ _)
   (tuple_addW1 t b vs.toArray ws.toArray n n2 dd dd2 sl sl2 (by simpa using hv) (by simp[hw])) ⟨ho,ho2,h1 hw⟩
 .refine concat_meets ⟨_,ho,rfl⟩ ⟨_,ho2,rfl⟩ noFill_tuple_add seq_tuple_add AJv AJw (AJx _ _)
   (tuple_addW2 t b vs.toArray ws.toArray n n2 dd dd2 sl sl2 (by simpa using hv) (by simpa using hw) (by rw[By,By];exact hsz)) ⟨ho,ho2,?_⟩
  rw[e];exact h2 hw
def sIx(n d:Nat):Option Int->Nat
 |none=>d
 |some v=>if v<0 then (v+(n:Int)).toNat else min v.toNat n
theorem AHl(n d k:Nat):sIx n d (some (k:Int))=min k n:=by
 show(if (k:Int)<0 then ((k:Int)+(n:Int)).toNat else min (k:Int).toNat n)=min k n
 rw[if_neg (by omega),AIp]
theorem ABa(n d:Nat)(hd:d<=n)(o:Option Int):sIx n d o<=n:=by
 cases o with
 |none=>exact hd
 |some v =>
  show(if v<0 then (v+(n:Int)).toNat else min v.toNat n)<=n
  by_cases hv:v<0
  .rw[if_pos hv];omega
  .rw[if_neg hv];exact Nat.min_le_right _ _
theorem YA(v:Int)(n d:Nat):(if v<0 then max (v+(n:Int)) 0 else min v (n:Int))=((sIx n d (some v):Nat):Int):=by
 show(if v<0 then max (v+(n:Int)) 0 else min v (n:Int))=(((if v<0 then (v+(n:Int)).toNat else min v.toNat n):Nat):Int)
 by_cases hv:v<0
 .simp only[if_pos hv];omega
 .simp only[if_neg hv];omega
theorem AGi(lo hi:Option Int)(n:Nat):Builtin.Slice.sliceAdjust lo hi 1 (n:Int)=(((sIx n 0 lo:Nat):Int),((sIx n n hi:Nat):Int)):=by
 have h1:¬((1:Int)<0):=by omega
 unfold Builtin.Slice.sliceAdjust;simp only[h1,if_false];refine Prod.ext ?_ ?_
 .cases lo with
  |none=>rfl
  |some v=>exact YA v n 0
 .cases hi with
  |none=>rfl
  |some v=>exact YA v n n
theorem ACQ(i j:Nat):Builtin.Slice.slicePlaces (i:Int) (j:Int) 1=j-i:=by
 unfold Builtin.Slice.slicePlaces;have h1:(1:Int)>0:=by omega
 simp only[h1,if_true,Int.ediv_one];split <;> omega
theorem Uu{v:Value}{o:Option Int}{Q:Option Int->Shared->Prop}(p:IsPart v o)(h:Q o s):wpAny (model prog w) A (Builtin.Slice.slicePartIndex v) Q E s:=by
 cases p with
 |none=>exact slicePart_none h
 |int i t=>exact slicePart_int h
theorem Uv{sl:Addr}{vl vu:Value}{lo hi:Option Int}{n:Nat}{Q:Int×Int×Nat->Shared->Prop}(hs:s.heap.IsSliceOf sl vl vu .none)(pl:IsPart vl lo)(pu:IsPart vu hi)
  (h:Q (((sIx n 0 lo:Nat):Int),1,sIx n n hi-sIx n 0 lo) s):wpAny (model prog w) A (Builtin.Slice.sliceApplied (.ref sl) (pure (n:Int))) Q E s:=by
 obtain⟨os,hos,hcs,hds⟩:=id hs;unfold Builtin.Slice.sliceApplied Builtin.Slice.sliceFields;refine AH (AH (FA hos hds (x:=vl) rfl (AH (FA hos hds (x:=vu) rfl (AH (FA hos hds (x:=.none) rfl (AR ?_)))))));refine AH (slicePart_none ?_)
 show wpAny _ _ (if ((1:Int) == 0)=true then _ else _) _ _ s
 rw[if_neg (by decide)];refine AH (Uu pl (AH (Uu pu (AH (AR ?_)))))
 show wpAny _ _ (match Builtin.Slice.sliceAdjust lo hi 1 (n:Int) with|(lo,hi)=>pure (lo,(1:Int),Builtin.Slice.slicePlaces lo hi 1)) _ _ s
 rw[AGi lo hi n];show wpAny _ _ (pure (((sIx n 0 lo:Nat):Int),(1:Int),Builtin.Slice.slicePlaces ((sIx n 0 lo:Nat):Int) ((sIx n n hi:Nat):Int) 1)) _ _ s;rw[ACQ];exact AR h
theorem ACW(xs:Array Value)(i k:Nat):((List.range k).filterMap λ(m:Nat)=>xs[((i:Int)+(m:Int)*1).toNat]?).toArray=((xs.toList.drop i).take k).toArray:=by
 have e:(λ(m:Nat)=>xs[((i:Int)+(m:Int)*1).toNat]?)=λm=>xs[i+m]?:=by
  funext m
  have:((i:Int)+(m:Int)*1).toNat=i+m:=by omega
  rw[this]
 rw[e];have:=pick_run xs i k;rw[List.filterMap_map] at this;have e2:((λx=>xs[x]?)∘λx=>i+x)=λm=>xs[i+m]?:=rfl;rw[e2] at this;rw[this]
theorem AHt{t sl:Addr}{items:Array Value}{vl vu:Value}{lo hi:Option Int}{Q:AKP}(ht:IsTup s.heap t items)(hs:s.heap.IsSliceOf sl vl vu .none)(pl:IsPart vl lo)(pu:IsPart vu hi)
  (hw:¬(sIx items.size 0 lo=0/\sIx items.size items.size hi=items.size))
  (h:Q (.ref s.heap.objs.size) {s with heap:=s.heap.push {cls:=.type "tuple",data:=.seq ((items.toList.drop (sIx items.size 0 lo)).take (sIx items.size items.size hi-sIx items.size 0 lo)).toArray}})
  (hsz:items.size<=sizeLine):wpAny (model prog w) A (getItem (.ref t) (.ref sl)) Q E s:=by
 have htake:sizeOk (.seq ((items.toList.drop (sIx items.size 0 lo)).take (sIx items.size items.size hi-sIx items.size 0 lo)).toArray):=by show((items.toList.drop (sIx items.size 0 lo)).take (sIx items.size items.size hi-sIx items.size 0 lo)).toArray.size<=sizeLine;rw[By,AIe,List.length_drop,AJe];omega
 have hj:sIx items.size items.size hi<=items.size:=ABa _ _ (Ai _) hi;obtain⟨os,hos,hcs,hds⟩:=id hs;have hTs:s.TypeIs (.ref sl) "slice":=⟨os,hos,hcs⟩;unfold getItem
 try with_reducible refine Do ?_
 first|refine AH (AR ?_)|skip
 refine AH (wpAny_sequenceKey ht.typeIs (by decide) ?_)
 refine AH (AKG (name:=Str.ofString "__getitem__") ht.typeIs PyProof.Rows.slot_tuple_getitem
  (Gh PyProof.Rows.slot_tuple_getitem ht.typeIs entry_tuple_getitem ?_ (args_tuple_getitem _ _)))
 show wpAny _ _ (Builtin.Tuple.tupleItemsOf (.ref t) >>= _) _ _ s;refine AH (tupleItemsOf_ ht ?_);refine AH (wpAny_typeOf hTs ?_);rw[if_pos (by decide)];refine AH (Uv hs pl pu ?_)
 have hno:¬((((sIx items.size 0 lo:Nat):Int) == 0&&(1:Int) == 1&&(sIx items.size items.size hi-sIx items.size 0 lo) == items.size)=true):=by intro q;rw[CA,CA] at q;have q1:((sIx items.size 0 lo:Nat):Int)=0:=eq_of_beq q.1.1;have q2:sIx items.size items.size hi-sIx items.size 0 lo=items.size:=eq_of_beq q.2;exact hw ⟨by omega,by omega⟩
 show wpAny _ _ (if (((sIx items.size 0 lo:Nat):Int) == 0&&(1:Int) == 1&&(sIx items.size items.size hi-sIx items.size 0 lo) == items.size)=true then _ else _) _ _ s
 rw[if_neg hno,ACW]
 first
  |exact AH (m:=Builtin.Tuple.tupleExact _) (AKH (AR ⟨_,rfl,AR h⟩) htake)
  |exact AH (m:=Builtin.Tuple.tupleExact _) (AKH (AH (AR (AR ⟨_,rfl,AR h⟩))) htake)
  |exact AH (AH (m:=Builtin.Tuple.tupleExact _) (AKH (AR (AR ⟨_,rfl,AR h⟩)) htake))
  |exact AH (AH (m:=Builtin.Tuple.tupleExact _) (AKH (AR ⟨_,rfl,AR h⟩) htake))
end
end HT
namespace L2
open PySem PySem.Spec PyProof.Rows
abbrev TO:=St->Hp->(Option Int->Hp->Prop)->Prop
def PO(X:Cx)(e:Option Expr)(t:TO):Prop :=
 ∀(pins:List (Addr×Obj)) (s:Shared) (σ:St) (H:Hp) (Q:Option Int->Hp->Prop),AI X pins σ H s->t σ H Q ->
  wpAny (model X.prog X.w) X.A (evalPart e X.env) (λu s'=>∃o H',AI X pins σ H' s'/\IsPart u o/\Q o H') X.xe s
def AAj:TO:=λ_ H Q=>Q none H
def AAf(t:TE):TO:=λσ H Q=>t σ H λx H1=>∃i,x=.int i/\Q (some i) H1
section
variable {X:Cx}{e:Expr}{te:TE}{lo hi:Option Expr}{tl th:TO}{pos p2:Pos}
theorem ACP:PO X none AAj:=by intro pins s σ H Q I h;rw[evalPart_none];exact AR ⟨none,H,I,.none,h⟩
theorem ACO(h:PE X e te):PO X (some e) (AAf te):=by intro pins s σ H Q I hw;rw[evalPart_some];refine Ad (h pins s σ H _ I hw) λu s1 z2_=>?_;obtain⟨x,H1,I1,r1,q1⟩:=z2_;obtain⟨i,rfl,q⟩:=q1;obtain⟨t,rfl⟩:=r1;exact⟨some i,H1,I1,.int i t,q⟩
def Ge(X:Cx)(r:V->Option Int->Option Int->Hp->VK->Prop):Prop :=
 ∀(pins:List (Addr×Obj)) (s:Shared) (σ:St) (H:Hp) (x:V) (v vl vu:Value) (lo hi:Option Int) (sl:Addr) (Q:VK),AI X pins σ H s->Ab x v->s.heap.IsSliceOf sl vl vu .none->IsPart vl lo->IsPart vu hi->r x lo hi H Q ->
  ∃T id,typeLookup (.type T) "__getitem__"=pure (some (.builtin id))/\s.TypeIs v T/\wpAny (model X.prog X.w) X.A (getItem v (.ref sl)) (EP X pins σ Q) X.xe s
theorem Ge.or{r r':V->Option Int->Option Int->Hp->VK->Prop}(h:Ge X r)(h':Ge X r'):Ge X (λx lo hi H Q=>r x lo hi H Q\/r' x lo hi H Q):=by
 intro pins s σ H x v vl vu lo hi sl Q I rx hs pl pu q;rcases q with q|q
 .exact h pins s σ H x v vl vu lo hi sl Q I rx hs pl pu q
 .exact h' pins s σ H x v vl vu lo hi sl Q I rx hs pl pu q
def tSl(r:V->Option Int->Option Int->Hp->VK->Prop)(te:TE)(tl th:TO):TE:=λσ H Q=>te σ H λx H1=>tl σ H1 λl H2=>th σ H2 λu H3=>r x l u H3 Q
theorem ACi{r:V->Option Int->Option Int->Hp->VK->Prop}(hr:Ge X r)(he:PE X e te)(hl:PO X lo tl)(hu:PO X hi th):PE X (.Subscript e (.Slice lo hi none p2) pos) (tSl r te tl th):=by intro pins s σ H Q I h;refine Subscript_ (Ad (he pins s σ H _ I h) λv s1 z2_=>?_);obtain⟨x,H1,I1,r1,q1⟩:=z2_;refine wpAny_Slice (Ad (hl pins s1 σ H1 _ I1 q1) λvl s2 z2_=>?_);obtain⟨l,H2,I2,pl,q2⟩:=z2_;refine Ad (hu pins s2 σ H2 _ I2 q2) λvu s3 z2_=>?_;obtain⟨u,H3,I3,pu,q3⟩:=z2_;rw[evalPart_none];refine AR ?_;have I4:AI X pins σ H3 {s3 with heap:=s3.heap.push {cls:=.type "slice",data:=.fields #[vl,vu,.none]}}:=I3.kept (t':=s3.toks) λb ob q=>Heap.get?_push_of_some _ q;obtain⟨T,id,hT,ht,hg⟩:=hr pins {s3 with heap:=s3.heap.push {cls:=.type "slice",data:=.fields #[vl,vu,.none]}} σ H3 x v vl vu l u s3.heap.objs.size Q I4 r1 (Heap.IsSliceOf.new ..) pl pu q3;show wpAny (model X.prog X.w) X.A (subscriptTail e (.Slice lo hi none p2) v (.ref s3.heap.objs.size)) (EP X pins σ Q) X.xe {s3 with heap:=s3.heap.push {cls:=.type "slice",data:=.fields #[vl,vu,.none]}};exact tail_any (ops:=[.ref s3.heap.objs.size,v]) ht hT hg (by with_unfolding_all rfl)
def HC(xs:List V)(lo hi:Option Int):List V:=(xs.drop (HT.sIx xs.length 0 lo)).take (HT.sIx xs.length xs.length hi-HT.sIx xs.length 0 lo)
theorem Xt(xs:List V)(lo hi:Option Int):(HC xs lo hi).length<=xs.length:=by unfold HC;rw[AIe,List.length_drop];omega
def ABo(K:AM):V->Option Int->Option Int->Hp->VK->Prop:=λx lo hi H Q=>∃a xs,x=.ref a/\Bp K H a xs /\
 ¬(HT.sIx xs.length 0 lo=0/\HT.sIx xs.length xs.length hi=xs.length)/\∀p,H p=none->Q (.ref p) (upd H p (.tup (HC xs lo hi)))
theorem ABH:Ge X (ABo X.K):=by
 intro pins s σ H x v vl vu lo hi sl Q I rx hs pl pu h;obtain⟨a,xs,rfl,hx,hw,q⟩:=h;cases rx;obtain⟨its,r,ht,hz⟩:=I.tuple hx;have hlen:its.toArray.size=xs.length:=by rw[By];exact r.length.symm
 refine⟨"tuple",_,PyProof.Rows.slot_tuple_getitem.lookup,ht.typeIs,?_⟩;refine HT.AHt ht hs pl pu (by rw[hlen];exact hw) ?_ (by rw[hlen];exact hz);rw[hlen];refine⟨.ref s.heap.objs.size,_,I.laid (t':=s.toks) (o:=.tup (HC xs lo hi)) (λb ob q=>Heap.get?_push_of_some _ q) (Ai _) ?_,rfl,q _ (I.hok.fresh (Ai _))⟩;exact⟨Ch (Xt xs lo hi) hz,_,(r.drop (HT.sIx xs.length 0 lo)).take (HT.sIx xs.length xs.length hi-HT.sIx xs.length 0 lo),IsTup.new _ _⟩
def ABv(K:AM):R2:=λx y H Q=>∃a b xs ys,x=.ref a/\y=.ref b/\Bp K H a xs/\Bp K H b ys/\xs≠[]/\xs.length+ys.length<=sizeLine /\
 (ys=[]->Q (.ref a) H)/\(ys≠[]->∀p,H p=none->Q (.ref p) (upd H p (.tup (xs++ys))))
theorem Ae.nil_iff{xs:List V}{us:List Value}(r:Ae xs us):us=[]↔xs=[]:=by
 cases r with
 |nil=>simp
 |cons _ _=>simp
theorem ADQ:Ar X (binaryOp .Add) (ABv X.K):=by intro pins s σ H x y v u Q I rx ry h;obtain⟨a,b,xs,ys,rfl,rfl,ha,hb,hx,hz,q1,q2⟩:=h;cases rx;cases ry;obtain⟨its,r1,p1,_⟩:=I.tuple ha;obtain⟨its2,r2,p2,_⟩:=I.tuple hb;refine HT.AIU p1 p2 (λz=>hx (r1.nil_iff.mp z)) (λz=>⟨.ref a,H,I,rfl,q1 (r2.nil_iff.mp z)⟩) (λz=>?_) (by rw[<-r1.length,<-r2.length];exact hz);refine⟨.ref s.heap.objs.size,_,I.laid (t':=s.toks) (o:=.tup (xs++ys)) (λb ob q=>Heap.get?_push_of_some _ q) (Ai _) ?_,rfl,q2 (λw=>z (r2.nil_iff.mpr w)) _ (I.hok.fresh (Ai _))⟩;exact⟨by rw[Cz];exact hz,_,r1.append r2,IsTup.new _ _⟩
end
def ixN(n:Nat)(i:Int):Option Nat:=if 0<=i then (if i<n then some i.toNat else none) else if -(n:Int)<=i then some (i+n).toNat else none
def atI{α:Type}(xs:List α)(i:Int):Option α:=(ixN xs.length i).bind λj=>xs[j]?
theorem Wc{n:Nat}{i:Int}{j:Nat}(h:ixN n i=some j):seqIndex? i n=some j/\j<n/\-(n:Int)<=i/\i<n:=by
 unfold ixN at h
 by_cases h0:0<=i
 .rw[if_pos h0] at h
  by_cases h1:i<n
  .rw[if_pos h1] at h;have e:i.toNat=j:=Option.some.inj h;exact⟨by rw[seqIndex_of h0 h1,e],by omega,by omega,h1⟩
  .rw[if_neg h1] at h;cases h
 .rw[if_neg h0] at h
  by_cases h1:-(n:Int)<=i
  .rw[if_pos h1] at h;have e:(i+n).toNat=j:=Option.some.inj h;exact⟨by rw[seqIndex_neg (by omega) h1,e],by omega,h1,by omega⟩
  .rw[if_neg h1] at h;cases h
theorem OL{α:Type}{xs:List α}{i:Int}{v:α}(h:atI xs i=some v):∃j,seqIndex? i xs.length=some j/\xs[j]?=some v/\j<xs.length/\-(xs.length:Int)<=i/\i<xs.length:=by
 unfold atI at h
 cases e:ixN xs.length i with
 |none=>rw[e] at h;cases h
 |some j =>
  rw[e] at h;obtain⟨h1,h2,h3,h4⟩:=Wc e;exact⟨j,h1,h,h2,h3,h4⟩
theorem FL{α:Type}{xs:List α}{j:Nat}{v:α}(h:xs[j]?=some v):atI xs (j:Int)=some v:=by
 have hj:j<xs.length:=(BQ.mp h).1
 have e:ixN xs.length (j:Int)=some j:=by unfold ixN;rw[if_pos (by omega),if_pos (by omega)];simp
 unfold atI;rw[e];exact h
theorem AGV{α:Type}(xs:List α)(v:α):atI (xs++[v]) (-1)=some v:=by
 have hl:(xs++[v]).length=xs.length+1:=by simp
 have e:ixN (xs++[v]).length (-1)=some xs.length:=by
  unfold ixN;rw[hl,if_neg (by decide),if_pos (by omega)]
  congr 1
  omega
 unfold atI;rw[e];show(xs++[v])[xs.length]?=some v;simp
def Sh(b:Expr):Prop:=∀o i,subscripted b false o i=operate [o,i] (getItem o i)
def Fl(X:Cx)(r:R2):Prop :=
 ∀(value slice:Expr) (pins:List (Addr×Obj)) (s:Shared) (σ:St) (H:Hp) (x y:V) (v u:Value) (Q:VK),AI X pins σ H s->Ab x v->Ab y u->r x y H Q ->
  subscripted slice false v u=operate [v,u] (getItem v u)->wpAny (model X.prog X.w) X.A (subscriptTail value slice v u) (EP X pins σ Q) X.xe s
def Fj(X:Cx)(id:String)(r:V->List V->Hp->VK->Prop):Prop :=
 ∀(pins:List (Addr×Obj)) (s:Shared) (σ:St) (H:Hp) (x:V) (xs:List V) (v:Value) (us:List Value) (Q:VK),AI X pins σ H s->Ab x v->Ae xs us->r x xs H Q ->
  wpAny (model X.prog X.w) X.A (call (.builtin id) (v::us)) (EP X pins σ Q) X.xe s
section
variable {X:Cx}{a b:Expr}{ta tb:TE}{pos:Pos}
theorem Fl.or{r r':R2}(h:Fl X r)(h':Fl X r'):Fl X (λx y H Q=>r x y H Q\/r' x y H Q):=by
 intro value slice pins s σ H x y v u Q I rx ry q hs;rcases q with q|q
 .exact h value slice pins s σ H x y v u Q I rx ry q hs
 .exact h' value slice pins s σ H x y v u Q I rx ry q hs
theorem Fj.or{id:String}{r r':V->List V->Hp->VK->Prop}(h:Fj X id r)(h':Fj X id r'):Fj X id (λx xs H Q=>r x xs H Q\/r' x xs H Q):=by
 intro pins s σ H x xs v us Q I rx rs q;rcases q with q|q
 .exact h pins s σ H x xs v us Q I rx rs q
 .exact h' pins s σ H x xs v us Q I rx rs q
theorem ACp{r:R2}(hr:Fl X r)(ha:PE X a ta)(hb:PE X b tb)(hs:Sh b):PE X (.Subscript a b pos) (LH r ta tb):=by intro pins s σ H Q I h;exact Subscript_ (SS ha hb I h λv u s2 x y H2 I2 rx ry q=>hr a b pins s2 σ H2 x y v u Q I2 rx ry q (hs _ _))
def VI(K:AM):R2:=λx y H Q=>∃p xs i v,x=.ref p/\y=.int i/\BY K H p xs/\atI xs i=some v/\Q v H
def VG(K:AM):R2:=λx y H Q=>∃p xs i v,x=.ref p/\y=.int i/\Bp K H p xs/\atI xs i=some v/\Q v H
def VH:R2:=λx y H Q=>∃z i c,x=.str z/\y=.int i/\z.length<=sizeLine/\atI z.cps.toList i=some c/\Q (.str ⟨#[c]⟩) H
theorem AEe:Fl X (VI X.K):=by
 intro value slice pins s σ H x y v u Q I rx ry h hs;obtain⟨p,xs,i,z,rfl,rfl,hq,he,q⟩:=h;cases rx;obtain⟨t,rfl⟩:=ry;obtain⟨its,r,pl,hz⟩:=I.list hq;obtain⟨j,h1,h2,h3,h4,h5⟩:=OL he;obtain⟨w,ew,rw'⟩:=r.get h2;have hl:=r.length;have hn:=KW;have fin:EP X pins σ Q w s:=⟨z,H,I,rw',q⟩
 by_cases h0:0<=i
 .have hj:i.toNat=j:=by
   rw[seqIndex_of h0 h5] at h1;exact Option.some.inj h1
  exact item_listR pl.isList h0 (by omega) (by rw[hj];simpa using ew) fin hs
 .have hj:(i+(its.toArray.size:Int)).toNat=j:=by
   rw[seqIndex_neg (by omega) h4] at h1;rw[By,<-hl];exact Option.some.inj h1
  exact subscriptTail_builtinR (x:=w) pl.isList.typeIs slot_list_getitem.lookup
   (wpAny_getItem_list_neg (Q:=λr s'=>r=w/\EP X pins σ Q r s') pl.isList (by omega) (by rw[By] <;> omega) (by omega) (by rw[hj];simpa using ew) ⟨rfl,fin⟩) hs
theorem AEb:Fl X (VG X.K):=by
 intro value slice pins s σ H x y v u Q I rx ry h hs;obtain⟨p,xs,i,z,rfl,rfl,hq,he,q⟩:=h;cases rx;obtain⟨t,rfl⟩:=ry;obtain⟨its,r,pl,hz⟩:=I.tuple hq;obtain⟨j,h1,h2,h3,h4,h5⟩:=OL he;obtain⟨w,ew,rw'⟩:=r.get h2;have hl:=r.length;have hn:=KW;have fin:EP X pins σ Q w s:=⟨z,H,I,rw',q⟩
 exact subscriptTail_builtinR (x:=w) pl.typeIs slot_tuple_getitem.lookup
  (getItem_tuple (j:=j) (Q:=λr s'=>r=w/\EP X pins σ Q r s') pl (by omega) (by omega) (by rw[By,<-hl];exact h1) (by simpa using ew) ⟨rfl,fin⟩) hs
theorem AEc:Fl X VH:=by
 intro value slice pins s σ H x y v u Q I rx ry h hs;obtain⟨z,i,c,rfl,rfl,hz,he,q⟩:=h;obtain⟨t,rfl⟩:=rx;obtain⟨t',rfl⟩:=ry;obtain⟨j,h1,h2,h3,h4,h5⟩:=OL he;have hl:z.cps.toList.length=z.length:=by simp[Str.length]
 rw[hl] at h1 h4 h5;have hn:=KW
 exact tail_any (typeIs_str s z t) slot_str_getitem.lookup (getItem_str (c:=c) (by
  have e1:decide (i < -(2 ^ 63:Int))=false:=decide_eq_false (by omega);have e2:decide (i ≥ 2 ^ 63)=false:=decide_eq_false (by omega)
  rw[e1,e2,Bool.or_false]) (by rw[h1];simpa using h2) ⟨.str ⟨#[c]⟩,H,I.tok _,⟨_,rfl⟩,q⟩) hs
def rIx(K:AM):R2:=λx y H Q=>VI K x y H Q\/VG K x y H Q\/VH x y H Q
theorem AEd:Fl X (rIx X.K):=AEe.or (AEb.or AEc)
theorem ADw(its:List Value)(n j:Nat)(u:Value):Obj.mapSeq (·.setIfInBounds j u) {cls:=.type "list",data:=.seq its.toArray n}={cls:=.type "list",data:=.seq (its.set j u).toArray n}:=by simp[Obj.mapSeq]
theorem AI.lst{pins:List (Addr×Obj)}{σ:St}{H:Hp}{s:Shared}{p:Addr}{xs:List V}(I:AI X pins σ H s)(h:H p=some (.lst xs)) :
  ∃(its:List Value) (n:Nat),Ae xs its/\s.heap.get? p=some {cls:=.type "list",data:=.seq its.toArray n}/\xs.length<=sizeLine:=by
 obtain⟨z,its,n,r,e⟩:=I.hok p _ h;exact⟨its,n,r,e,z⟩
theorem AI.lstUpd{pins:List (Addr×Obj)}{σ:St}{H:Hp}{s:Shared}{p:Addr}{xs ys:List V}{its its':List Value}{n n':Nat}{f:Obj->Obj}(I:AI X pins σ H s)(h:H p=some (.lst xs))
  (ho:s.heap.get? p=some {cls:=.type "list",data:=.seq its.toArray n}) (hf:f {cls:=.type "list",data:=.seq its.toArray n}={cls:=.type "list",data:=.seq its'.toArray n'}) (r:Ae ys its') (hz:ys.length<=sizeLine) (t:Nat) :
  AI X pins σ (upd H p (.lst ys)) {s with heap:=s.heap.update p f,toks:=t}:=by
 have e:(s.heap.update p f).get? p=some {cls:=.type "list",data:=.seq its'.toArray n'}:=by rw[Heap.get?_update_self f ho (by rw[hf] <;> rfl),hf]
 refine I.write (x:=p) (e:=p) (by rw[h];trivial) (.inl rfl) (λb u hb q=>(Heap.get?_update_other _ _ (Ne.symm hb)).trans q) ⟨_,e⟩ ?_;exact⟨hz,its',n',r,e⟩
def ABq:V->V->V->Hp->(Hp->Prop)->Prop:=λo i v H Q=>∃p xs k j,o=.ref p/\i=.int k/\H p=some (.lst xs)/\ixN xs.length k=some j/\Q (upd H p (.lst (xs.set j v)))
theorem ABR:Si X ABq:=by
 intro pins s σ H o i v ov iv u Q I ro ri rv h;obtain⟨p,xs,k,j,rfl,rfl,hp,hj,q⟩:=h;cases ro;obtain⟨t,rfl⟩:=ri;obtain⟨its,n,r,ho,hz⟩:=I.lst hp;obtain⟨h1,h2,h3,h4⟩:=Wc hj;have hl:=r.length;have hn:=KW
 have I':AI X pins σ (upd H p (.lst (xs.set j v))) {s with heap:=s.heap.update p (Obj.mapSeq (·.setIfInBounds j u))} :=
  I.lstUpd hp ho (ADw its n j u) (r.set rv j) (by rw[AJD];exact hz) s.toks
 by_cases h0:0<=k
 .have hk:k.toNat=j:=by
   rw[seqIndex_of h0 h4] at h1;exact Option.some.inj h1
  exact PySem.W.ki_setAt ho h0 (by omega) (by rw[By,<-hl];exact h4) (by rw[hk];exact⟨_,I',q⟩)
 .have hk:(k+(its.toArray.size:Int)).toNat=j:=by
   rw[seqIndex_neg (by omega) h3] at h1;rw[By,<-hl];exact Option.some.inj h1
  exact PySem.W.ki_setBack ho (by omega) (by rw[By,<-hl];exact h3) (by omega) (by rw[hk];exact⟨_,I',q⟩)
theorem ABE(lo hi:Option Int)(n:Nat):(sliceBounds lo hi none n).1=((HT.sIx n 0 lo:Nat):Int)/\(sliceBounds lo hi none n).2.1=((HT.sIx n n hi:Nat):Int)/\(sliceBounds lo hi none n).2.2=1:=by
 refine⟨?_,?_,rfl⟩
 .cases lo with
  |none=>simp[sliceBounds,HT.sIx]
  |some i =>
   simp only[sliceBounds,HT.sIx,Option.getD_none,show(1:Int)>0 by decide,if_true]
   by_cases h:i<0
   .simp only[h,if_true] <;> omega
   .simp only[h,if_false] <;> omega
 .cases hi with
  |none=>simp[sliceBounds,HT.sIx]
  |some i =>
   simp only[sliceBounds,HT.sIx,Option.getD_none,show(1:Int)>0 by decide,if_true]
   by_cases h:i<0
   .simp only[h,if_true] <;> omega
   .simp only[h,if_false] <;> omega
theorem ABF(its:List Value)(lo hi:Option Int):slicePick its.toArray lo hi none=((its.drop (HT.sIx its.length 0 lo)).take (HT.sIx its.length its.length hi-HT.sIx its.length 0 lo)).toArray:=by obtain⟨h1,h2,h3⟩:=ABE lo hi its.toArray.size;unfold slicePick;rw[h1,h2,h3];simp only[sliceRange_one,pick_run,By] <;> rfl
def ABp(K:AM):V->Option Int->Option Int->Hp->VK->Prop:=λx lo hi H Q=>∃a xs,x=.ref a/\BY K H a xs/\∀p,H p=none->Q (.ref p) (upd H p (.lst (HC xs lo hi)))
theorem ABJ:Ge X (ABp X.K):=by intro pins s σ H x v vl vu lo hi sl Q I rx hs pl pu h;obtain⟨a,xs,rfl,hx,q⟩:=h;cases rx;obtain⟨its,r,ht,hz⟩:=I.list hx;have hlen:=r.length;refine⟨"list",_,slot_list_getitem.lookup,ht.isList.typeIs,?_⟩;refine wpAny_getItem_list_slice ht.isList hs pl pu .none (by simp) ?_ (by rw[By] <;> omega);rw[ABF,<-hlen];refine⟨.ref s.heap.objs.size,_,I.laid (t':=s.toks) (o:=.lst (HC xs lo hi)) (λb ob q=>Heap.get?_push_of_some _ q) (Ai _) ?_,rfl,q _ (I.hok.fresh (Ai _))⟩;exact⟨Ch (Xt xs lo hi) hz,_,0,(r.drop (HT.sIx xs.length 0 lo)).take (HT.sIx xs.length xs.length hi-HT.sIx xs.length 0 lo),Heap.get?_push_size _ rfl⟩
def Gb:V->Bool
 |.non=>true
 |.bl _=>true
 |.int _=>true
 |.str _=>true
 |_=>false
def eqV:V->V->Bool
 |.non,.non=>true
 |.bl a,.bl b=>a == b
 |.bl a,.int b=>(if a then 1 else 0) == b
 |.int a,.bl b=>a == (if b then 1 else 0)
 |.int a,.int b=>a == b
 |.str a,.str b=>a == b
 |_,_=>false
theorem Xe{A:Around}{s:Shared}{y x:V}{u v:Value}(ry:Ab y u)(rx:Ab x v)(fy:Gb y=true)(fx:Gb x=true):SeqAt.EqAt A s u v (eqV y x):=by
 cases y with
 |non =>
  cases ry
  cases x with
  |non=>cases rx;exact SeqAt.EqAt.same _
  |bl b=>cases rx;exact SeqAt.EqAt.none_bool b
  |int b=>obtain⟨t,rfl⟩:=rx;exact SeqAt.EqAt.none_int b t
  |str b=>obtain⟨t,rfl⟩:=rx;exact SeqAt.EqAt.none_str b t
  |_=>exact absurd (show false=true from fx) Cc
 |bl a =>
  cases ry
  cases x with
  |non=>cases rx;exact SeqAt.EqAt.bool_none a
  |bl b=>cases rx;exact SeqAt.EqAt.bool_bool a b
  |int b=>obtain⟨t,rfl⟩:=rx;exact SeqAt.EqAt.bool_int a b t
  |str b=>obtain⟨t,rfl⟩:=rx;exact SeqAt.EqAt.bool_str a b t
  |_=>exact absurd (show false=true from fx) Cc
 |int a =>
  obtain⟨t',rfl⟩:=ry
  cases x with
  |non=>cases rx;exact SeqAt.EqAt.int_none a t'
  |bl b=>cases rx;exact SeqAt.EqAt.int_bool a t' b
  |int b=>obtain⟨t,rfl⟩:=rx;exact SeqAt.EqAt.int_int a t' b t
  |str b=>obtain⟨t,rfl⟩:=rx;exact SeqAt.EqAt.int_str a t' b t
  |_=>exact absurd (show false=true from fx) Cc
 |str a =>
  obtain⟨t',rfl⟩:=ry
  cases x with
  |non=>cases rx;exact SeqAt.EqAt.str_none a t'
  |bl b=>cases rx;exact SeqAt.EqAt.str_bool a t' b
  |int b=>obtain⟨t,rfl⟩:=rx;exact SeqAt.EqAt.str_int a t' b t
  |str b=>obtain⟨t,rfl⟩:=rx;exact SeqAt.EqAt.str_str a t' b t
  |_=>exact absurd (show false=true from fx) Cc
 |_=>exact absurd (show false=true from fy) Cc
def FG(x:V)(u:Value):Bool:=match u with
 |.none=>eqV .non x
 |.bool b=>eqV (.bl b) x
 |.int i _=>eqV (.int i) x
 |.str z _=>eqV (.str z) x
 |_=>false
theorem Xc{x y:V}{u:Value}(r:Ab y u)(f:Gb y=true):FG x u=eqV y x:=by
 cases y with
 |non=>cases r;rfl
 |bl b=>cases r;rfl
 |int i=>obtain⟨t,rfl⟩:=r;rfl
 |str z=>obtain⟨t,rfl⟩:=r;rfl
 |_=>exact absurd (show false=true from f) Cc
theorem MC{x:V}:∀{xs:List V} {us:List Value},Ae xs us->xs.all Gb=true->us.any (FG x)=xs.any λy=>eqV y x
 |_,_,.nil,_=>rfl
 |y::xs,u::us,.cons r t,f=>by
  rw[AI1,CA] at f;rw[AIq,AIq,Xc r f.1,MC t f.2]
theorem LV{A:Around}{s:Shared}{x:V}{v:Value}(rx:Ab x v)(fx:Gb x=true):∀{xs:List V} {us:List Value},Ae xs us->xs.all Gb=true->∀u∈us,SeqAt.EqAt A s u v (FG x u)
 |_,_,.nil,_=>λu hu=>by cases hu
 |y::xs,u::us,.cons r t,f=>λu' hu=>by
  rw[AI1,CA] at f;rcases Ac.mp hu with rfl|hu
  .rw[Xc r f.1];exact Xe r rx f.1 fx
  .exact LV rx fx t f.2 u' hu
def Rp(x:V)(xs:List V):Bool:=xs.any λy=>eqV y x
def RC(K:AM)(neg:Bool):R2:=λx y H Q=>∃p xs,y=.ref p/\(BY K H p xs\/Bp K H p xs)/\Gb x=true/\xs.all Gb=true/\Q (.bl (if neg then !Rp x xs else Rp x xs)) H
theorem ADM:Ar X (compareOp .In) (RC X.K false):=by
 intro pins s σ H x y v u Q I rx ry h;obtain⟨p,xs,rfl,hq,fx,fs,q⟩:=h;cases ry;rcases hq with hq|hq
 .obtain⟨its,r,pl,hz⟩:=I.list hq;refine SeqAt.in_listAt (FG x) pl.isList (λw hw=>LV rx fx r fs w (by simpa using hw)) ⟨.bl _,H,I,rfl,?_⟩;rw[show its.toArray.any (FG x)=its.any (FG x) by simp,MC r fs];exact q
 .obtain⟨its,r,pl,hz⟩:=I.tuple hq;refine SeqAt.in_tupleAt (FG x) pl (λw hw=>LV rx fx r fs w (by simpa using hw)) ⟨.bl _,H,I,rfl,?_⟩;rw[show its.toArray.any (FG x)=its.any (FG x) by simp,MC r fs];exact q
theorem ADF:Ar X (compareOp .NotIn) (RC X.K true):=by
 intro pins s σ H x y v u Q I rx ry h;obtain⟨p,xs,rfl,hq,fx,fs,q⟩:=h;cases ry;rcases hq with hq|hq
 .obtain⟨its,r,pl,hz⟩:=I.list hq;refine SeqAt.notIn_listAt (FG x) pl.isList (λw hw=>LV rx fx r fs w (by simpa using hw)) ⟨.bl _,H,I,rfl,?_⟩;rw[show its.toArray.any (FG x)=its.any (FG x) by simp,MC r fs];exact q
 .obtain⟨its,r,pl,hz⟩:=I.tuple hq;refine SeqAt.notIn_tupleAt (FG x) pl (λw hw=>LV rx fx r fs w (by simpa using hw)) ⟨.bl _,H,I,rfl,?_⟩;rw[show its.toArray.any (FG x)=its.any (FG x) by simp,MC r fs];exact q
theorem AF9:Cu X (.builtin "len") (λxs H Q=>∃p ys,xs=[.ref p]/\(BY X.K H p ys\/Bp X.K H p ys)/\Q (.int ys.length) H):=by
 intro pins s σ H xs us Q I r h;obtain⟨p,ys,rfl,hq,q⟩:=h;obtain⟨u,rfl,rx⟩:=FB r;cases rx;have hn:=KW;rcases hq with hq|hq
 .obtain⟨its,r',pl,hz⟩:=I.list hq;have hlen:=r'.length;exact Calls.call_len_list pl.isList (by simp only[By] <;> omega) ⟨.int ys.length,H,I.tok _,⟨s.toks+1,by rw[By,hlen]⟩,q⟩
 .obtain⟨its,r',pl,hz⟩:=I.tuple hq;have hlen:=r'.length;exact len_tuple pl (by simp only[By] <;> omega) ⟨.int ys.length,H,I.tok _,⟨s.toks+1,by rw[By,hlen]⟩,q⟩
theorem AF8:Cu X (.builtin "len") (λxs H Q=>∃z,xs=[.str z]/\z.length<=sizeLine/\Q (.int z.length) H):=by intro pins s σ H xs us Q I r h;obtain⟨z,rfl,hz,q⟩:=h;obtain⟨u,rfl,t,rfl⟩:=FB r;have hn:=KW;exact len_str (by omega) ⟨.int z.length,H,I.tok _,⟨_,rfl⟩,q⟩
theorem Cu.or{f:Value}{r r':List V->Hp->VK->Prop}(h:Cu X f r)(h':Cu X f r'):Cu X f (λxs H Q=>r xs H Q\/r' xs H Q):=by
 intro pins s σ H xs us Q I rs q;rcases q with q|q
 .exact h pins s σ H xs us Q I rs q
 .exact h' pins s σ H xs us Q I rs q
theorem AF5:Cu X (.type "tuple") (λxs H Q=>∃p ys,xs=[.ref p]/\((BY X.K H p ys/\∀l,H l=none->Q (.ref l) (upd H l (.tup ys)))\/(Bp X.K H p ys/\Q (.ref p) H))):=by
 intro pins s σ H xs us Q I r h;obtain⟨p,ys,rfl,h⟩:=h;obtain⟨u,rfl,rx⟩:=FB r;cases rx;rcases h with⟨hq,q⟩|⟨hq,q⟩
 .obtain⟨its,r',pl,hz⟩:=I.list hq;have hlen:=r'.length;refine call_tuple_list pl.isList (λh' kp=>?_) (by simp only[By] <;> omega);have I1:AI X pins σ H {s with heap:=h'}:=I.kept (t':=s.toks) kp
  have I2:AI X pins σ (upd H h'.objs.size (.tup ys)) {s with heap:=h'.push {cls:=.type "tuple",data:=.seq its.toArray}} :=
   I1.laid (t':=s.toks) (λb o e=>Heap.get?_push_of_some _ e) (Ai _) (show CP X.prog X.w _ _ _ (.tup ys) from ⟨hz,its,r',IsTup.new _ _⟩)
  exact⟨.ref h'.objs.size,_,I2,rfl,q _ (I1.hok.fresh (Ai _))⟩
 .obtain⟨its,r',pl,hz⟩:=I.tuple hq;exact call_tuple_same pl ⟨.ref p,H,I,rfl,q⟩
def Mv(K:AM)(T:String)(x:V)(H:Hp):Prop:=match x with
 |.str _=>T = "str"
 |.int _=>T = "int"
 |.ref p=>(T = "list"/\∃xs,BY K H p xs)\/(T = "tuple"/\∃o,K.lookup p=some o/\o.cls=.type "tuple"/\o.dict=none) \/
   (T = "dict"/\((∃kvs,H p=some (.dK kvs))\/(∃kvs,H p=some (.dT kvs))\/∃kvs ep,H p=some (.dN kvs ep)))\/(T = "set"/\∃S n,H p=some (.set S n))
 |_=>False
theorem UH{pins:List (Addr×Obj)}{σ:St}{H:Hp}{s:Shared}{T:String}{x:V}{v:Value}(I:AI X pins σ H s)(r:Ab x v)(ty:Mv X.K T x H) :
  s.TypeIs v T/\∀a,v=.ref a->∃ob,s.heap.get? a=some ob/\ob.dict=none:=by
 cases x with
 |str z =>
  obtain⟨t,rfl⟩:=r;cases (show T = "str" from ty);exact⟨typeIs_str s z t,λ_ e=>nomatch e⟩
 |int i =>
  obtain⟨t,rfl⟩:=r;cases (show T = "int" from ty);exact⟨typeIs_int s i t,λ_ e=>nomatch e⟩
 |ref p =>
  cases r;rcases ty with⟨rfl,xs,hq⟩|⟨rfl,o,hk,hc,hd⟩|⟨rfl,hk⟩|⟨rfl,S,n,hk⟩
  .obtain⟨its,_,pl,_⟩:=I.list hq;refine⟨pl.isList.typeIs,λa e=>?_⟩;cases e;obtain⟨o,n,e,c,hd,_⟩:=pl;exact⟨o,e,hd⟩
  .refine⟨⟨o,I.kIn p o hk,hc⟩,λa e=>?_⟩;cases e;exact⟨o,I.kIn _ o hk,hd⟩
  .have z:∃o,s.heap.get? p=some o/\o.ExactDict:=by
    rcases hk with⟨kvs,hk⟩|⟨kvs,hk⟩|⟨kvs,ep,hk⟩
    .obtain⟨_,_,_,_,o,_,_,e,ex,_⟩:=I.hok p _ hk;exact⟨o,e,ex⟩
    .obtain⟨_,_,_,_,o,_,_,e,ex,_⟩:=I.hok p _ hk;exact⟨o,e,ex⟩
    .obtain⟨_,_,_,_,o,_,e,ex,_⟩:=I.hok p _ hk;exact⟨o,e,ex⟩
   obtain⟨o,e,ex⟩:=z;refine⟨⟨o,e,ex.1⟩,λa e2=>?_⟩;cases e2;exact⟨o,e,ex.2.1⟩
  .obtain⟨o,_,_,_,e,ex,_⟩:=I.hok p _ hk;refine⟨⟨o,e,ex.1⟩,λa e2=>?_⟩;cases e2;exact⟨o,e,ex.2.1⟩
 |_=>exact False.elim ty
def AAu(K:AM)(T:String)(r:V->List V->Hp->VK->Prop)(to:TE):TE:=λσ H Q=>to σ H λx H1=>Mv K T x H1/\r x [] H1 Q
def tBM(K:AM)(T:String)(r:V->List V->Hp->VK->Prop)(to:TE)(t:TA):TE:=λσ H Q=>to σ H λx H1=>Mv K T x H1/\t σ H1 λxs H2=>r x xs H2 Q
variable {o e:Expr}{es:List Expr}{to:TE}{t:TA}{name:Str}{apos cpos:Pos}{T id:String}{r:V->List V->Hp->VK->Prop}
theorem ACz(pa:PlainAttrs T)(slot:Slot T name id)(hty:typeOf (.builtin id)=pure (.type "method_descriptor"))(hm:Fj X id r)(ho:PE X o to)
  (hbase:attributeBase o name X.env (eval o X.env)=eval o X.env:=by rfl) (hline:(apos.endLine == cpos.line)=true:=by rfl):PE X (.Call (.Attribute o name apos) [] [] cpos) (AAu X.K T r to):=by
 intro pins s σ H Q I h;refine wpAny_Call_method0_late hbase hline (Ad (ho pins s σ H _ I h) λv s1 z2_=>?_);obtain⟨x,H1,I1,r1,ty,q1⟩:=z2_;obtain⟨h1,h2⟩:=UH I1 r1 ty;exact⟨T,id,pa,slot,hty,h1,h2,Calls.callWith_builtin rfl (PySem.evalArgs_none (hm pins s1 σ H1 x [] v [] Q I1 r1 .nil q1))⟩
theorem AC0(pa:PlainAttrs T)(slot:Slot T name id)(hty:typeOf (.builtin id)=pure (.type "method_descriptor"))(hm:Fj X id r)(ho:PE X o to)(ha:PA X (e::es) t)
  (hbase:attributeBase o name X.env (eval o X.env)=eval o X.env:=by rfl)
  (hfew:((backTo cpos (starEach (e::es) X.env)).all (λx=>!x.1)&&(backToKw cpos (keywordEach [] X.env)).all (λx=>x.1.isSome)
   && decide ((e::es).length+([]:List Keyword).length+(if ([]:List Keyword).isEmpty then 0 else 1)<30))=true:=by rfl)
  (hline:(apos.endLine == cpos.line)=true:=by rfl) (hs:starEach (e::es) X.env=(false,eval e X.env)::starEach es X.env:=by rfl) (hplain:(backTo cpos (starEach es X.env)).any (·.1)=false:=by rfl) :
  PE X (.Call (.Attribute o name apos) (e::es) [] cpos) (tBM X.K T r to t):=by
 intro pins s σ H Q I h;refine wpAny_Call_method_late hbase hfew hline rfl (Ad (ho pins s σ H _ I h) λv s1 z2_=>?_);obtain⟨x,H1,I1,r1,ty,q1⟩:=z2_;obtain⟨h1,h2⟩:=UH I1 r1 ty;refine⟨T,id,pa,slot,hty,h1,h2,?_⟩;have hA:=ha cpos pins s1 σ H1 _ I1 q1;rw[hs] at hA ⊢;refine Calls.callWith_builtin (by show(false || (backTo cpos (starEach es X.env)).any (·.1))=false;rw[hplain] <;> rfl) (Calls.evalArgs_plain ?_);exact Ad hA λus s2 z2_=>by obtain⟨vs,H2,I2,r2,q2⟩:=z2_;exact hm pins s2 σ H2 x vs v us Q I2 r1 r2 q2
end
def Yl(X:Cx)(id:String)(r:V->List V->Hp->VK->Prop):Prop :=
 ∀(pins:List (Addr×Obj)) (s:Shared) (σ:St) (H:Hp) (x:V) (xs:List V) (v:Value) (us:List Value) (Q:VK),AI X pins σ H s->Ab x v->Ae xs us->r x xs H Q ->
  wpAny (model X.prog X.w) X.A (call (.builtin id) (v::us)) (EP X pins σ Q) X.xe s
theorem Ae.one:∀{x:V} {us:List Value},Ae [x] us->∃u,us=[u]/\Ab x u
 |_,_,.cons r .nil=>⟨_,rfl,r⟩
theorem Ae.zero:∀{us:List Value},Ae [] us->us=[]
 |_,.nil=>rfl
section
variable {X:Cx}{pins:List (Addr×Obj)}{σ:St}{H:Hp}{s:Shared}{l b:Addr}{xs ys zs:List V}
theorem AI.lset{its its':List Value}{n:Nat}{f:Array Value->Array Value}{t':Nat}(I:AI X pins σ H s)(hH:H l=some (.lst xs))
  (e:s.heap.get? l=some {cls:=.type "list",data:=.seq its.toArray n}) (hf:f its.toArray=its'.toArray) (hv:Ae ys its') (hz:ys.length<=sizeLine) :
  AI X pins σ (upd H l (.lst ys)) {s with heap:=s.heap.update l (Obj.mapSeq f),toks:=t'}:=by
 have q:=PySem.IsL.update e f;rw[hf] at q;refine I.write (x:=l) (e:=l) (by rw[hH];exact trivial) (.inl rfl) (λb' u hb hu=>(Heap.get?_update_other s.heap (Obj.mapSeq f) (Ne.symm hb)).trans hu) ⟨_,q⟩ ?_;exact⟨hz,its',_,hv,q⟩
theorem AI.lnew{its:List Value}{t':Nat}(I:AI X pins σ H s)(hv:Ae ys its)(hz:ys.length<=sizeLine) :
  AI X pins σ (upd H s.heap.objs.size (.lst ys)) {s with heap:=s.heap.push {cls:=.type "list",data:=.seq its.toArray},toks:=t'} :=
 I.laid (λ_ _ q=>Heap.get?_push_of_some _ q) (Ai _) ⟨hz,its,0,hv,Heap.get?_push_size _ rfl⟩
theorem AI.fresh(I:AI X pins σ H s):H s.heap.objs.size=none:=I.hok.fresh (Ai _)
theorem AI.lstM(I:AI X pins σ H s)(hH:H l=some (.lst xs)):xs.length<=sizeLine/\∃(its:List Value) (n:Nat),Ae xs its/\xs.length=its.length/\s.heap.get? l=some {cls:=.type "list",data:=.seq its.toArray n}:=by obtain⟨z,its,n,r,e⟩:=I.hok l _ hH;exact⟨z,its,n,r,r.length,e⟩
theorem ADe{n:Nat}(h:n<=sizeLine):Builtin.List.listTooLong n=false:=by unfold Builtin.List.listTooLong;exact decide_eq_false (by omega)
end
section
variable {X:Cx}
def VJ:V->List V->Hp->VK->Prop:=λx vs H Q=>∃l xs y,x=.ref l/\vs=[y]/\H l=some (.lst xs)/\xs.length<sizeLine/\Q .non (upd H l (.lst (xs++[y])))
theorem Vv:Yl X "list.append" VJ:=by intro pins s σ H x vs v us Q I rx rv h;obtain⟨l,xs,y,rfl,rfl,hH,hz,q⟩:=h;cases rx;obtain⟨u,rfl,ru⟩:=rv.one;obtain⟨z,its,n,r,hl,e⟩:=I.lstM hH;refine call_meets F.slot_list_append ⟨_,e,rfl⟩ F.entry_list_append (F.args_list_append_2 _ _) (PySem.list_append l its.toArray n u (by rw[By];omega)) ⟨e,?_⟩;refine⟨.non,_,I.lset (its':=its++[u]) hH e (by simp) (r.append (.cons ru .nil)) ?_,rfl,q⟩;rw[Cz,List.length_singleton];omega
def rExtend:V->List V->Hp->VK->Prop:=λx vs H Q=>∃l b xs zs,x=.ref l/\vs=[.ref b]/\H l=some (.lst xs)/\H b=some (.lst zs)/\xs.length+zs.length<=sizeLine/\Q .non (upd H l (.lst (xs++zs)))
theorem ADl:Yl X "list.extend" rExtend:=by
 intro pins s σ H x vs v us Q I rx rv h;obtain⟨l,b,xs,zs,rfl,rfl,hH,hB,hz,q⟩:=h;cases rx;obtain⟨u,rfl,ru⟩:=rv.one;cases ru;obtain⟨z,its,n,r,hl,e⟩:=I.lstM hH;obtain⟨z2,its2,n2,r2,hl2,e2⟩:=I.lstM hB;have hsz:its.toArray.size+its2.toArray.size<=sizeLine:=by rw[By,By];omega
 have hlong:¬(!its.toArray.isEmpty&&Builtin.List.listTooLong (its.toArray.size+its2.toArray.size))=true:=by rw[ADe hsz,Bool.and_false];exact Cc
 refine call_meets F.slot_list_extend ⟨_,e,rfl⟩ F.entry_list_extend (F.args_list_extend_2 _ _)
  (AutoSeq1.list_extend_list_list_0 l its.toArray n b its2.toArray n2 hlong (by rw[By];omega) (by omega)) ⟨e,e2,?_⟩
 refine⟨.non,_,I.lset (its':=its++its2) hH e (by simp) (r.append r2) ?_,rfl,q⟩;rw[Cz];omega
def rCat:R2:=λx y H Q=>∃l b xs zs,x=.ref l/\y=.ref b/\H l=some (.lst xs)/\H b=some (.lst zs)/\xs.length+zs.length<=sizeLine/\∀p,H p=none->Q (.ref p) (upd H p (.lst (xs++zs)))
theorem ADR:Ar X (binaryOp .Add) rCat:=by
 intro pins s σ H x y v u Q I rx ry h;obtain⟨l,b,xs,zs,rfl,rfl,hH,hB,hz,q⟩:=h;cases rx;cases ry;obtain⟨z,its,n,r,hl,e⟩:=I.lstM hH;obtain⟨z2,its2,n2,r2,hl2,e2⟩:=I.lstM hB;refine PySem.P.add_list e e2 ?_ (by rw[By,By];omega);have ea:its.toArray++its2.toArray=(its++its2).toArray:=by simp
 rw[ea];exact⟨.ref _,_,I.lnew (t':=s.toks) (r.append r2) (by rw[Cz];omega),rfl,q _ I.fresh⟩
end
section
variable {prog:Program}{w:World}{A:Around}{E:AKP}{s:Shared}
set_option maxRecDepth 100000 in
end
end L2
namespace Att
open PySem PySem.W PySem.Calls PyProof.Rows
theorem ints_of_wellAll{P:Params}{h:Heap}:∀(ns:List Int) (vs:List Value),WellAll P h vs (ns.map WData.int)->IntsAre vs ns:=by
 intro ns
 induction ns with
 |nil =>
  intro vs w;rw[AJK] at w;cases w;exact .nil
 |cons n ns ih =>
  intro vs w;rw[Ap] at w
  cases w with
  |cons a b =>
   cases a;exact .cons _ _ (ih _ b)
theorem AHk{l:OpenLaw}{n:Nat}(hn:l.most=some n){P:Params}{h:Heap}{args:List WData}{vals:List Value}
  (hpre:l.row.toRowW.claim.pre args=true) (hwl:WellAll P h vals args) :
  ∃a vs ns,vals=[Value.ref a]/\args=[WData.list (ns.map WData.int)]/\h.get? a=some {cls:=.type "list",data:=.seq vs.toArray}/\IntsAre vs ns/\ns.length<=n:=by
 have hsh:WShape.hasAll [] args [.list .int]=true:=(pre_splitW hpre).1;have hc:l.pre.holds [] {args:=args}=true:=(pre_splitW hpre).2;obtain⟨d,r,rfl,h1,h2⟩:=hasAllW_cons hsh;obtain rfl:=hasAllW_nil h2;obtain⟨xs,rfl,h3⟩:=hasW_list h1;obtain⟨ns,rfl⟩:=items_int h3
 have hlen:ns.length<=n:=by
  unfold OpenLaw.pre at hc
  have h4:(WTm.not (.lt (.lit (.int (n:Int))) (.len (.arg 0)))).holds [] {args:=[.list (ns.map .int)]}=true:=by have h4:=(holds_andW hc).1;rw[hn] at h4;exact h4
  have h5:=condW_of h4 (w_not (w_lt w_lit (w_len_list (w_arg rfl))));rw[Ao] at h5;refine Nat.le_of_not_lt λq=>?_;have q':(n:Int)<((ns.length:Nat):Int):=by omega
  first
   |(rw[decide_eq_true q'] at h5;exact absurd h5 (by decide))
   |(simp at h5;omega)
 cases hwl with
 |cons w1 w2 =>
  cases w2
  cases w1 with
  |list ho hall=>exact⟨_,_,ns,rfl,rfl,ho,ints_of_wellAll ns _ hall,hlen⟩
theorem AHo(l:OpenLaw)(args:List WData):l.row.toRowW.claim.post args (.bool true) args=true :=
 postW_of (r:=l.row.toRowW) (X:=(true == true))
  (show WShape.has [] (.bool true) .bool=true by first|rfl|decide|simp[WShape.has,WShape.arms,WShape.armsAll])
  (show(WTm.eq .res (.lit (.bool true))).value [] {args:=args,res:=some (.bool true),after:=args}=some (.bool (true == true)) from w_eq_bool (w_res rfl) w_lit) rfl
end Att
namespace L2
open PySem PySem.Spec PyProof.Rows
theorem UD:∀{vs:List Value} {ns:List Int},IntsAre vs ns->Ae (ns.map V.int) vs
 |_,_,.nil=>.nil
 |_,_,.cons n t h=>.cons ⟨t,rfl⟩ (UD h)
def Yk(H:Hp):Prop:=∀b,H b=none\/∃o xs,H b=some (.frz o (.lst xs))
theorem AEQ{P:Program}{w:World}{K:AM}{mg mb:AKO}{CX:Gg}{k:Nat}{fa a:Addr}{fd:FuncData}{x:Str}{sp:Sp}{s₁:Shared}{vs:List Value}{ns:List Int}
  (KX:K.In s₁.heap) (hns:s₁.heap.Ns mainGlobals mg) (hb:s₁.heap.Ns builtinsNs mb) (hbb:∀x:Str,x≠"__name__"->mb x=bootBuiltins x) (hlim:s₁.heap.NoLimit) (hg:s₁.gens=#[])
  (ha:s₁.heap.get? a=some {cls:=.type "list",data:=.seq vs.toArray}) (hi:IntsAre vs ns) (hl:ns.length<=sizeLine) (hr:Bq k callerA)
  (F:∀base:Heap,K.In base->base.Ns mainGlobals mg->Dv P w K mg base CX k fa fd [x] sp) (hbind:∀(s:Shared) (u:Value),BindsTo s fd ⟨[u],[]⟩ [(x,u)])
  (hsp:∀H:Hp,Yk H->BY K H a (ns.map V.int)->sp [.ref a] H (λv _=>v=.bl true) λ_ _ _=>False)
  (hCX:∀H e s',CX [] H s₁ (λ_ _ _=>False) e s'->False) :
  codeAny (model P w) callerA (.call (.ref fa) ⟨[.ref a],[]⟩) (λr s'=>r=.ok (.ret (.bool true))/\OldK s₁.heap s'.heap/\s'.os=s₁.os/\AllBare s'.gens) s₁:=by
 have rv:=UD hi;have lenV:=hi.length
 -- from an abstract heap in which nothing but the script may be tracked
 have core:∀H:Hp,Yk H->BY K H a (ns.map V.int)->CW P w H s₁.heap->(∀b,H b≠none->b=a)->(H a≠none->K.lookup a=none) ->
   codeAny (model P w) callerA (.call (.ref fa) ⟨[.ref a],[]⟩) (λr s'=>r=.ok (.ret (.bool true))/\OldK s₁.heap s'.heap/\s'.os=s₁.os/\AllBare s'.gens) s₁:=by
  intro H hO hS hok hA hK;have base_of:∀{b:Addr} {o:Obj},s₁.heap.get? b=some o->H b=none->(IB s₁.heap H).get? b=some o:=λe n=>AEw e n
  have noA:∀{b:Addr} {o:Obj} {es:Array DictEntry} {ep:Nat},s₁.heap.get? b=some o->o.data=.dict es ep->H b=none:=λ{b o es ep} e d=>by
   cases q:H b with
   |none=>rfl
   |some u =>
    have e':b=a:=hA b (by rw[q];simp);subst e';rw[ha] at e;cases e;have d':Data.seq vs.toArray _=Data.dict es ep:=d;cases d'
  have nsK:∀{b:Addr} {m:AKO},s₁.heap.Ns b m->(IB s₁.heap H).Ns b m:=λ{b m} ⟨o,es,ep,e,d,r⟩=>⟨o,es,ep,base_of e (noA e d),d,r⟩
  have hKb:K.In (IB s₁.heap H):=λb o e=>base_of (KX b o e) (by
   cases q:H b with
   |none=>rfl
   |some u =>
    have e':b=a:=hA b (by rw[q];simp);subst e'
    rw[hK (by rw[q];simp)] at e;cases e)
  have hM:OX K mg (IB s₁.heap H):=⟨hKb,nsK hns,⟨mb,nsK hb,hbb⟩,let ⟨mc,h1,h2⟩:=hlim;⟨mc,nsK h1,h2⟩⟩;have e0:Hq P w K mg (IB s₁.heap H) callerA [] s₁ H:=⟨rfl,hM,λb o e=>ADX e,AJB (AEv _ _),trivial,λb hb=>absurd (show b∈([]:List Addr) from hb) (by simp),hok,.of_eq hg⟩;refine codeAny_mono ((F _ hKb (nsK hns)).run callerA [] s₁ H ⟨[.ref a],[]⟩ [.ref a] [.ref a] _ _ hr e0 (hbind s₁ (.ref a)) (.cons rfl .nil) (hsp H hO hS)) λr s' h=>?_
  cases r with
  |error e=>exact(hCX H e s' h).elim
  |ok fl =>
   cases fl with
   |next=>exact False.elim h
   |brk=>exact False.elim h
   |cont=>exact False.elim h
   |ret u =>
    obtain⟨v,H',os,bare,un,hok',r',q⟩:=h;have q':v=.bl true:=q;subst q';obtain rfl:u=Value.bool true:=r';refine⟨rfl,OldK.of_keep λb o e=>?_,os,bare⟩
    cases q:H b with
    |none=>exact un.keep b o e q (by intro z;exact absurd (show b∈([]:List Addr) from z) (by simp)) (by simp)
    |some u =>
     rcases hO b with z|⟨ob,xs,z⟩
     .rw[q] at z;cases z
     .have z2:=un.frzs b ob _ z;obtain⟨e1,_⟩:=hok b _ z;obtain⟨e2,_⟩:=hok' b _ z2;rw[e] at e1;cases e1;exact e2
 cases hk:K.lookup a with
 |some o =>
  -- the script is one of the module's own objects
  have e:=KX a o hk;rw[ha] at e;cases e;refine core (λ_=>none) (λ_=>.inl rfl) (.inr ⟨_,vs.toArray,_,hk,rfl,rfl,rfl,by rw[By,lenV];exact hl,by simpa using rv⟩) (λb u z=>by have z':(none:Option HO)=some u:=z;cases z') (λb z=>absurd rfl z) λz=>absurd rfl z
 |none =>
  refine core (λb=>if b=a then some (.frz {cls:=.type "list",data:=.seq vs.toArray} (.lst (ns.map V.int))) else none) (λb=>?_) (.inl (.inr ⟨{cls:=.type "list",data:=.seq vs.toArray},if_pos rfl⟩)) (λb u z=>?_) (λb z=>?_) λ_=>hk
  .by_cases hb:b=a
   .exact .inr ⟨_,_,if_pos hb⟩
   .exact .inl (if_neg hb)
  .by_cases hb:b=a
   .have z':=(if_pos hb).symm.trans z;cases z';subst hb;exact⟨ha,by rw[Ao];exact hl,vs,_,rv,ha⟩
   .have z':=(if_neg hb).symm.trans z;cases z'
  .by_cases hb:b=a
   .exact hb
   .exact absurd (if_neg hb) z
def Jj(s:Stmt):Arguments:=match s with
 |.FunctionDef _ a _ _ _ _ _ _ _ _=>a
 |_=>{posonlyargs:=[],args:=[],vararg:=none,kwonlyargs:=[],kw_defaults:=[],kwarg:=none,defaults:=[]}
def Ff(s:Stmt):List Stmt:=match s with
 |.FunctionDef _ _ b _ _ _ _ _ _ _=>b
 |_=>[]
def Aa(s:Stmt):Scope:=match s with
 |.FunctionDef _ _ _ _ _ _ sc _ _ _=>sc
 |_=>{kind:=.function,names:=[],isGenerator:=false,isCoroutine:=false}
abbrev CX0:Gg:=λ_ _ _ _ _ _=>False
abbrev E0:XK:=λ_ _ _=>False
theorem RQ{X:Cx}:Ko CX0 X E0:=λ_ _ _ _ _ _ _ h=>h.elim
structure Ho (K:AM) (x qual:Str) (st:Stmt) (f:Addr) (fd:FuncData):Prop where
 ex:∃(oc:Value) (od:Option Addr) (kV doc pm:Value) (an:Option Addr) (cdv ct:Value) (osl:Array (Option Value)),
  fd=AIo x qual (Jj st) (Ff st) (Aa st) .none kV doc pm an cdv ct/\K.lookup f=some ⟨oc,od,.func fd,osl⟩/\AJk K cdv qual=true
 kp:GH K (.ref f)=true
section
variable {P:Program}{w:World}{K:AM}{mg:AKO}{base:Heap}
theorem Ho.ok{x qual:Str}{st:Stmt}{f:Addr}{fd:FuncData}{N ps:List Str}{k:Nat}{sp:Sp}(F:Ho K x qual st f fd)(S:BP N ps (Aa st))(len:∀vs H Q E,sp vs H Q E->vs.length=ps.length)
  (hbody:∀(cdv:Value) (A:Around) (outer:List Env) (s:Shared) (H:Hp) (vs:List V) (Q:VK) (E:XK),Bq k (A.deeper (envOfC qual (Aa st) s.heap.objs.size f cdv))->sp vs H Q E ->
   ∃t,DT (Dt CX0 P w K mg base N qual (Aa st) f cdv A outer s H E).nox (Ff st) t/\t {nx:=λ_ H'=>Q .non H',rt:=Q} (Gp N vs) H):Dv P w K mg base CX0 (k+1) f fd ps sp:=by
 obtain⟨oc,od,kV,doc,pm,an,cdv,ct,osl,rfl,lk,hcd⟩:=F.ex;refine XV lk hcd S len λA outer s H vs Q E hr hsp=>?_;obtain⟨t,h,q⟩:=hbody cdv A outer s H vs Q E hr hsp;exact⟨t,h.nox,q⟩
theorem Ho.binds{x qual:Str}{st:Stmt}{f:Addr}{fd:FuncData}{ps:List Str}(F:Ho K x qual st f fd)
  (h:∀(kV doc pm:Value) (an:Option Addr) (cdv ct:Value) (us:List Value),us.length=ps.length->bindArgs (AIo x qual (Jj st) (Ff st) (Aa st) .none kV doc pm an cdv ct) ⟨us,[]⟩=pure (ps.zip us)):Ez K fd ps []:=by
 obtain⟨oc,od,kV,doc,pm,an,cdv,ct,osl,rfl,lk,hcd⟩:=F.ex;exact .all (h kV doc pm an cdv ct)
theorem AFH{x qual:Str}{st:Stmt}{f:Addr}{oc:Value}{od an:Option Addr}{osl:Array (Option Value)}{kV doc pm cdv ct:Value}(l:K.lookup f=some ⟨oc,od,.func (AIo x qual (Jj st) (Ff st) (Aa st) .none kV doc pm an cdv ct),osl⟩)
  (c:AJk K cdv qual=true) (k:GH K (.ref f)=true):Ho K x qual st f (AIo x qual (Jj st) (Ff st) (Aa st) .none kV doc pm an cdv ct):=⟨⟨oc,od,kV,doc,pm,an,cdv,ct,osl,rfl,l,c⟩,k⟩
end
section
variable {X:Cx}
theorem pv(i:Nat){x:Str}{pos:Pos}(hN:X.N[i]?=some x:=by rfl)(hv:JC X.env.scope x:=by first|exact Or.inl rfl|exact Or.inr (Or.inl rfl)|exact Or.inr (Or.inr rfl))(hd:(x == ("__debug__":Str))=false:=by decide)
  (hcd:(x == ("__classdict__":Str))=false:=by decide):PE X (.Name x pos) (Qs i):=RO hN hv hd hcd
end
theorem iteF{A B:Prop}(h:B):if false=true then A else B:=by rw[if_neg Cc];exact h
theorem iteT{A B:Prop}(h:A):if true=true then A else B:=by rw[if_pos rfl];exact h
def Hm(H H':Hp):Prop:=∀b o,H b=some o->H' b=some o
theorem Hm.refl(H:Hp):Hm H H:=λ_ _ h=>h
theorem Hm.trans{H H1 H2:Hp}(a:Hm H H1)(b:Hm H1 H2):Hm H H2:=λc o h=>b c o (a c o h)
theorem Hm.free{H H':Hp}(e:Hm H H'){l:Addr}(h:H' l=Option.none):H l=Option.none:=by
 cases q:H l with
 |none=>rfl
 |some o =>
  rw[e l o q] at h;cases h
theorem Hm.seq{K:AM}{H H':Hp}{a:Addr}{xs:List V}(e:Hm H H')(h:BY K H a xs):BY K H' a xs:=by
 rcases h with(h|⟨o,h⟩)|h
 .exact .inl (.inl (e _ _ h))
 .exact .inl (.inr ⟨o,e _ _ h⟩)
 .exact .inr h
section
variable {κ:Type}[DecidableEq κ]
def GP(kvs:List (κ×V))(k:κ):Option V:=(kvs.find? λkv=>decide (kv.1=k)).map (·.2)
def Ij(kvs:List (κ×V))(k:κ)(v:V):List (κ×V) :=
 if (kvs.any λkv=>decide (kv.1=k))=true then kvs.map (λkv=>if kv.1=k then (kv.1,v) else kv) else kvs++[(k,v)]
def Xj(kvs:List (κ×V))(k:κ):List (κ×V):=kvs.filter λkv=>decide (kv.1≠k)
theorem Qp{p:κ×V}{r:List (κ×V)}{k:κ}(e:p.1=k):GP (p::r) k=some p.2:=by simp[GP,Fq,e]
theorem Qq{p:κ×V}{r:List (κ×V)}{k:κ}(e:¬p.1=k):GP (p::r) k=GP r k:=by simp[GP,Fq,e]
theorem UF(k:κ):∀kvs:List (κ×V),(kvs.any λkv=>decide (kv.1=k))=(GP kvs k).isSome
 |[]=>rfl
 |p::r=>by
  rw[AIq]
  by_cases e:p.1=k
  .simp only[Qp e,decide_eq_true e,Bool.true_or,Option.isSome_some]
  .rw[Qq e,decide_eq_false e,Bool.false_or];exact UF k r
theorem Fy.isSome_eq{o:Option V}{u:Option Value}(r:Fy o u):o.isSome=u.isSome:=by
 cases o with
 |none=>cases u with
  |none=>rfl
  |some _=>exact(show False from r).elim
 |some _=>cases u with
  |none=>exact(show False from r).elim
  |some _=>rfl
theorem Fy.getD{o:Option V}{u:Option Value}{d:V}{d':Value}(r:Fy o u)(rd:Ab d d'):Ab (o.getD d) (u.getD d'):=by
 cases o with
 |none=>cases u with
  |none=>exact rd
  |some _=>exact(show False from r).elim
 |some _=>cases u with
  |none=>exact(show False from r).elim
  |some _=>exact r
theorem KV.val{kvs:List (κ×V)}{vs:List (κ×Value)}(r:KV kvs vs)(k:κ):Fy (GP kvs k) (valueAt vs k):=by
 unfold KV at r
 induction r with
 |nil=>exact True.intro
 |@cons p q ps qs h t ih =>
  obtain⟨h1,h2⟩:=h
  by_cases e:p.1=k
  .have e':q.1=k:=h1.symm.trans e;have b:valueAt (q::qs) k=some q.2:=by simp[valueAt,Fq,e']
   rw[Qp e,b];exact h2
  .have e':¬q.1=k:=λz=>e (h1.trans z);have b:valueAt (q::qs) k=valueAt qs k:=by simp[valueAt,Fq,e']
   rw[Qq e,b];exact ih
theorem KV.any{kvs:List (κ×V)}{vs:List (κ×Value)}(r:KV kvs vs)(k:κ):(kvs.any λkv=>decide (kv.1=k))=vs.any λkv=>decide (kv.1=k):=by
 unfold KV at r
 induction r with
 |nil=>rfl
 |cons h t ih=>rw[AIq,AIq,ih,h.1]
theorem KV.repl{kvs:List (κ×V)}{vs:List (κ×Value)}(r:KV kvs vs)(k:κ){y:V}{u:Value}(ry:Ab y u) :
  KV (kvs.map λkv=>if kv.1=k then (kv.1,y) else kv) (vs.map λkv=>if kv.1=k then (kv.1,u) else kv):=by
 unfold KV at r ⊢
 induction r with
 |nil=>exact .nil
 |@cons p q ps qs h t ih =>
  rw[Ap,Ap];refine .cons ?_ ih;obtain⟨h1,h2⟩:=h
  by_cases e:p.1=k
  .rw[if_pos e,if_pos (h1.symm.trans e)];exact⟨h1,ry⟩
  .rw[if_neg e,if_neg (λz=>e (h1.trans z))];exact⟨h1,h2⟩
theorem KV.put{kvs:List (κ×V)}{vs:List (κ×Value)}(r:KV kvs vs)(k:κ){y:V}{u:Value}(ry:Ab y u):KV (Ij kvs k y) (stored vs k u):=by
 unfold Ij stored;rw[r.any k]
 by_cases e:(vs.any λkv=>decide (kv.1=k))=true
 .rw[if_pos e,if_pos e];exact r.repl k ry
 .rw[if_neg e,if_neg e];exact Paired.snoc r ⟨rfl,ry⟩
theorem KV.drop{kvs:List (κ×V)}{vs:List (κ×Value)}(r:KV kvs vs)(k:κ):KV (Xj kvs k) (without vs k):=by
 unfold KV at r ⊢;unfold Xj without
 induction r with
 |nil=>exact .nil
 |@cons p q ps qs h t ih =>
  obtain⟨h1,h2⟩:=h;rw[List.filter_cons,List.filter_cons]
  by_cases e:p.1=k
  .have a:¬decide (p.1≠k)=true:=by simp[e]
   have b:¬decide (q.1≠k)=true:=by simp[h1.symm.trans e]
   rw[if_neg a,if_neg b];exact ih
  .have e':¬q.1=k:=λz=>e (h1.trans z);have a:decide (p.1≠k)=true:=by simp[e]
   have b:decide (q.1≠k)=true:=by simp[e']
   rw[if_pos a,if_pos b];exact .cons ⟨h1,h2⟩ ih
theorem KV.keys{kvs:List (κ×V)}{vs:List (κ×Value)}(r:KV kvs vs):kvs.map (·.1)=vs.map (·.1):=by
 unfold KV at r
 induction r with
 |nil=>rfl
 |cons h t ih=>rw[Ap,Ap,ih,h.1]
theorem KV.length{kvs:List (κ×V)}{vs:List (κ×Value)}(r:KV kvs vs):kvs.length=vs.length:=Paired.length r
end
abbrev KT(H:Hp):List (List Key×V)->List (List Key×Addr×Value)->Prop:=Paired λp q=>p.1=q.1/\H q.2.1=some (.tup (p.1.map kV))/\Ab p.2 q.2.2
theorem KT.val{H:Hp}{kvs:List (List Key×V)}{xs:List (List Key×Addr×Value)}(r:KT H kvs xs)(k:List Key):Fy (GP kvs k) ((atKey xs k).map (·.2)):=by
 induction r with
 |nil=>exact True.intro
 |@cons p q ps qs h t ih =>
  obtain⟨h1,_,h2⟩:=h
  by_cases e:p.1=k
  .have e':q.1=k:=h1.symm.trans e;have b:atKey (q::qs) k=some q.2:=by simp[atKey,Fq,e']
   rw[Qp e,b];exact h2
  .have e':¬q.1=k:=λz=>e (h1.trans z);have b:atKey (q::qs) k=atKey qs k:=by simp[atKey,Fq,e']
   rw[Qq e,b];exact ih
theorem KT.repl{H:Hp}{kvs:List (List Key×V)}{xs:List (List Key×Addr×Value)}(r:KT H kvs xs)(k:List Key){y:V}{u:Value}(ry:Ab y u) :
  KT H (kvs.map λkv=>if kv.1=k then (kv.1,y) else kv) (xs.map (putAt k u)):=by
 induction r with
 |nil=>exact .nil
 |@cons p q ps qs h t ih =>
  rw[Ap,Ap];refine .cons ?_ ih;obtain⟨h1,h2,h3⟩:=h;unfold putAt
  by_cases e:p.1=k
  .rw[if_pos e,if_pos (h1.symm.trans e)];exact⟨h1,h2,ry⟩
  .rw[if_neg e,if_neg (λz=>e (h1.trans z))];exact⟨h1,h2,h3⟩
theorem KT.put{H:Hp}{kvs:List (List Key×V)}{xs:List (List Key×Addr×Value)}(r:KT H kvs xs)(k:List Key){b:Addr}{y:V}{u:Value}(hb:H b=some (.tup (k.map kV)))(ry:Ab y u) :
  KT H (Ij kvs k y) (storedH xs k b u):=by
 have e:(kvs.any λkv=>decide (kv.1=k))=(atKey xs k).isSome:=by rw[UF,(r.val k).isSome_eq,Option.isSome_map]
 unfold Ij storedH;rw[e]
 by_cases q:(atKey xs k).isSome=true
 .rw[if_pos q,if_pos q];exact r.repl k ry
 .rw[if_neg q,if_neg q];exact Paired.snoc r ⟨rfl,hb,ry⟩
theorem KT.keeps{H H':Hp}{kvs:List (List Key×V)}{xs:List (List Key×Addr×Value)}(r:KT H kvs xs)(ht:∀b ys,H b=some (.tup ys)->H' b=some (.tup ys)):KT H' kvs xs :=
 Paired.mapP r λ_ _ z=>⟨z.1,ht _ _ z.2.1,z.2.2⟩
def Oc(H:Hp)(a:Addr)(y:V)(r:Option V):Prop :=
 (∃kvs k,Rd H a (.dK kvs)/\y=kV k/\r=GP kvs k)\/∃kvs k b,Rd H a (.dT kvs)/\y=.ref b/\H b=some (.tup (k.map kV))/\r=GP kvs k
def Oa(H:Hp)(a:Addr)(y v:V)(H':Hp):Prop :=
 (∃kvs k,H a=some (.dK kvs)/\y=kV k/\kvs.length<sizeLine/\H'=upd H a (.dK (Ij kvs k v))) \/
 ∃kvs k b,H a=some (.dT kvs)/\y=.ref b/\H b=some (.tup (k.map kV))/\kvs.length<sizeLine/\H'=upd H a (.dT (Ij kvs k v))
theorem Oc.k{H:Hp}{a:Addr}{kvs:List (Key×V)}{k:Key}(e:H a=some (.dK kvs)):Oc H a (kV k) (GP kvs k):=.inl ⟨kvs,k,.inl e,rfl,rfl⟩
theorem Oc.t{H:Hp}{a b:Addr}{kvs:List (List Key×V)}{k:List Key}(e:H a=some (.dT kvs))(eb:H b=some (.tup (k.map kV))):Oc H a (.ref b) (GP kvs k):=.inr ⟨kvs,k,b,.inl e,rfl,eb,rfl⟩
theorem Oa.k{H:Hp}{a:Addr}{kvs:List (Key×V)}{k:Key}{v:V}(e:H a=some (.dK kvs))(hl:kvs.length<sizeLine):Oa H a (kV k) v (upd H a (.dK (Ij kvs k v))):=.inl ⟨kvs,k,e,rfl,hl,rfl⟩
theorem Oa.t{H:Hp}{a b:Addr}{kvs:List (List Key×V)}{k:List Key}{v:V}(e:H a=some (.dT kvs))(eb:H b=some (.tup (k.map kV)))(hl:kvs.length<sizeLine) :
  Oa H a (.ref b) v (upd H a (.dT (Ij kvs k v))):=.inr ⟨kvs,k,b,e,rfl,eb,hl,rfl⟩
section
variable {X:Cx}{pins:List (Addr×Obj)}{σ:St}{H:Hp}{s:Shared}{a:Addr}{y v:V}{u r:Value}{o:Option V}{A:Around}{E:AKP}
theorem AI.big(I:AI X pins σ H s):sysModules<s.heap.objs.size:=by have h:mainGlobals<s.heap.objs.size:=(I.mod.glob.keeps I.bk).lt;exact Nat.lt_trans (by decide) h
theorem AFn{h':Heap}{t':Nat}{ob:HO}(I:AI X pins σ H s)(mu:MF (H a))(hs:Heap.SameBut a s.heap h')(he:∃q,h'.get? a=some q)(new:CP X.prog X.w (upd H a ob) h' a ob) :
  AI X pins σ (upd H a ob) {s with heap:=h',toks:=t'} :=
 I.write (x:=a) (e:=a) mu (.inl rfl) (λb q hb z=>(hs.2 b hb).trans z) he new
end
end L2
set_option maxHeartbeats 4000000
namespace L3
open PySem PySem.Spec PyProof.Rows L2
inductive D where
 |non|bl (b:Bool)|int (i:Int)|str (x:Str)|tup (xs:List D)|fz (xs:List D)|ref (k:Nat)|ty (n:String)
mutual
def D.beq:D->D->Bool
 |.non,.non=>true
 |.bl a,.bl b=>a == b
 |.int a,.int b=>a == b
 |.str a,.str b=>decide (a=b)
 |.tup a,.tup b=>D.beqL a b
 |.fz a,.fz b=>D.beqL a b
 |.ref a,.ref b=>a == b
 |.ty a,.ty b=>a == b
 |_,_=>false
def D.beqL:List D->List D->Bool
 |[],[]=>true
 |a::as,b::bs=>D.beq a b&&D.beqL as bs
 |_,_=>false
end
mutual
theorem D.beq_refl:∀a:D,D.beq a a=true
 |.non=>rfl
 |.bl b=>(beq_self_eq_true b:(b == b)=true)
 |.int b=>(beq_self_eq_true b:(b == b)=true)
 |.str b=>(decide_eq_true rfl:decide (b=b)=true)
 |.tup xs=>(D.beqL_refl xs:D.beqL xs xs=true)
 |.fz xs=>(D.beqL_refl xs:D.beqL xs xs=true)
 |.ref b=>(beq_self_eq_true b:(b == b)=true)
 |.ty b=>(beq_self_eq_true b:(b == b)=true)
theorem D.beqL_refl:∀a:List D,D.beqL a a=true
 |[]=>rfl
 |a::as=>by show(D.beq a a&&D.beqL as as)=true;rw[D.beq_refl a,D.beqL_refl as];rfl
end
mutual
theorem D.eq_of_beq:∀{a b:D},D.beq a b=true->a=b
 |.non,b,h=>by
  cases b with
  |non=>rfl
  |_=>exact Gk (show false=true from h)
 |.bl x,b,h=>by
  cases b with
  |bl y=>rw[LawfulBEq.eq_of_beq (show(x == y)=true from h)]
  |_=>exact Gk (show false=true from h)
 |.int x,b,h=>by
  cases b with
  |int y=>rw[LawfulBEq.eq_of_beq (show(x == y)=true from h)]
  |_=>exact Gk (show false=true from h)
 |.str x,b,h=>by
  cases b with
  |str y=>rw[of_decide_eq_true (show decide (x=y)=true from h)]
  |_=>exact Gk (show false=true from h)
 |.tup xs,b,h=>by
  cases b with
  |tup ys=>rw[D.eq_of_beqL (show D.beqL xs ys=true from h)]
  |_=>exact Gk (show false=true from h)
 |.fz xs,b,h=>by
  cases b with
  |fz ys=>rw[D.eq_of_beqL (show D.beqL xs ys=true from h)]
  |_=>exact Gk (show false=true from h)
 |.ref x,b,h=>by
  cases b with
  |ref y=>rw[LawfulBEq.eq_of_beq (show(x == y)=true from h)]
  |_=>exact Gk (show false=true from h)
 |.ty x,b,h=>by
  cases b with
  |ty y=>rw[LawfulBEq.eq_of_beq (show(x == y)=true from h)]
  |_=>exact Gk (show false=true from h)
theorem D.eq_of_beqL:∀{a b:List D},D.beqL a b=true->a=b
 |[],b,h=>by
  cases b with
  |nil=>rfl
  |cons _ _=>exact Gk (show false=true from h)
 |a::as,b,h=>by
  cases b with
  |nil=>exact Gk (show false=true from h)
  |cons b bs =>
   have h:(D.beq a b&&D.beqL as bs)=true:=h;rw[CA] at h;rw[D.eq_of_beq h.1,D.eq_of_beqL h.2]
end
noncomputable instance:DecidableEq D:=λa b=>if h:D.beq a b=true then .isTrue (D.eq_of_beq h) else .isFalse λe=>h (by rw[e];exact D.beq_refl b)
inductive Ob where
 |lst (xs:List D)|dk (kvs:List (Key×D))|dt (kvs:List (NK×D)) (ep:Nat)|ins (c:Str) (fs:List (Str×D))|exn (c:Str)
deriving DecidableEq
abbrev AD:=List Ob
abbrev AKQ:=D->AD->Prop
abbrev Fm:=List (Option D)
def SqF(K:AM)(H:Hp)(a:Addr)(xs:List V):Prop :=
 (∃o,H a=some (.frz o (.lst xs))) \/
  ∃(o:Obj) (its:Array Value) (n:Nat),K.lookup a=some o/\o.cls=.type "list"/\o.dict=none/\o.data=.seq its n/\its.size<=sizeLine/\Ae xs its.toList
theorem SqF.sql{K:AM}{H:Hp}{a:Addr}{xs:List V}(h:SqF K H a xs):BY K H a xs:=by
 rcases h with h|h
 .exact .inl (.inr h)
 .exact .inr h
mutual
inductive Is (K:AM) (H:Hp) (O:List Addr):V->D->Prop
 |non:Is K H O .non .non
 |bl (b:Bool):Is K H O (.bl b) (.bl b)
 |int (i:Int):Is K H O (.int i) (.int i)
 |str (x:Str):x.length<=16777216->Is K H O (.str x) (.str x)
 |tup {a:Addr} {vs:List V} {ds:List D}:Bp K H a vs->AV K H O vs ds->Is K H O (.ref a) (.tup ds)
 |fz {a:Addr} {vs:List V} {ds:List D}:SqF K H a vs->AV K H O vs ds->Is K H O (.ref a) (.fz ds)
 |ref {k:Nat} {a:Addr}:O[k]?=some a->Is K H O (.ref a) (.ref k)
 |ty (n:String):Is K H O (.ty n) (.ty n)
inductive AV (K:AM) (H:Hp) (O:List Addr):List V->List D->Prop
 |nil:AV K H O [] []
 |cons {v:V} {d:D} {vs:List V} {ds:List D}:Is K H O v d->AV K H O vs ds->AV K H O (v::vs) (d::ds)
end
def So:HO->Prop
 |.tup _=>True
 |.frz _ _=>True
 |_=>False
def FP(H H':Hp):Prop:=∀a o,H a=some o->So o->H' a=some o
def Ah(H:Hp)(O:List Addr)(H':Hp)(O':List Addr):Prop:=FP H H'/\O <+: O'
theorem FP.refl(H:Hp):FP H H:=λ_ _ h _=>h
theorem FP.trans{H H1 H2:Hp}(a:FP H H1)(b:FP H1 H2):FP H H2:=λc o h f=>b c o (a c o h f) f
theorem Ah.refl(H:Hp)(O:List Addr):Ah H O H O:=⟨.refl H,As O⟩
theorem Ah.trans{H H1 H2:Hp}{O O1 O2:List Addr}(a:Ah H O H1 O1)(b:Ah H1 O1 H2 O2):Ah H O H2 O2:=⟨a.1.trans b.1,a.2.trans b.2⟩
theorem FP.ext{H H':Hp}(h:∀a o,H a=some o->H' a=some o):FP H H':=λa o e _=>h a o e
theorem FP.new{H:Hp}{p:Addr}{o:HO}(h:H p=none):FP H (upd H p o):=.ext λa u e=>by rw[BM (DJ e h)];exact e
theorem FP.write{H:Hp}{p:Addr}{o u:HO}(h:H p=some u)(n:¬So u):FP H (upd H p o):=λa x e f=>by
 by_cases z:a=p
 .subst z;rw[h] at e;cases e;exact absurd f n
 .rw[BM z];exact e
section
variable {K:AM}{H H':Hp}{O O':List Addr}
theorem Bp.grow{a:Addr}{xs:List V}(g:FP H H')(h:Bp K H a xs):Bp K H' a xs:=by
 rcases h with(h|⟨o,h⟩)|h
 .exact .inl (.inl (g _ _ h True.intro))
 .exact .inl (.inr ⟨o,g _ _ h True.intro⟩)
 .exact .inr h
theorem SqF.grow{a:Addr}{xs:List V}(g:FP H H')(h:SqF K H a xs):SqF K H' a xs:=by
 rcases h with⟨o,h⟩|h
 .exact .inl ⟨o,g _ _ h True.intro⟩
 .exact .inr h
theorem ADi{α:Type}{N:List α}(hN:N.Nodup){i j:Nat}{x:α}(a:N[i]?=some x)(b:N[j]?=some x):i=j:=by
 obtain⟨h1,g1⟩:=BQ.mp a;obtain⟨h2,g2⟩:=BQ.mp b;have p:=List.pairwise_iff_getElem.mp hN;rcases Nat.lt_trichotomy i j with h|h|h
 .exact absurd (g1.trans g2.symm) (p i j h1 h2 h)
 .exact h
 .exact absurd (g2.trans g1.symm) (p j i h2 h1 h)
theorem Dr{α:Type}{O O':List α}(h:O <+: O'){k:Nat}{a:α}(e:O[k]?=some a):O'[k]?=some a:=by obtain⟨t,rfl⟩:=h;rw[FT (BQ.mp e).1];exact e
theorem Is.mono(st:Ah H O H' O'){v:V}{d:D}(h:Is K H O v d):Is K H' O' v d :=
 Is.rec (motive_1:=λv d _=>Is K H' O' v d) (motive_2:=λv d _=>AV K H' O' v d) .non .bl .int .str (λh _ r=>.tup (Bp.grow st.1 h) r) (λh _ r=>.fz (SqF.grow st.1 h) r) (λh=>.ref (Dr st.2 h)) .ty .nil (λ_ _ a b=>.cons a b) h
theorem AV.mono(st:Ah H O H' O'){v:List V}{d:List D}(h:AV K H O v d):AV K H' O' v d :=
 AV.rec (motive_1:=λv d _=>Is K H' O' v d) (motive_2:=λv d _=>AV K H' O' v d) .non .bl .int .str (λh _ r=>.tup (Bp.grow st.1 h) r) (λh _ r=>.fz (SqF.grow st.1 h) r) (λh=>.ref (Dr st.2 h)) .ty .nil (λ_ _ a b=>.cons a b) h
theorem AV.length{vs:List V}{ds:List D}(h:AV K H O vs ds):vs.length=ds.length :=
 AV.rec (motive_1:=λ_ _ _=>True) (motive_2:=λvs ds _=>vs.length=ds.length) ⟨⟩ (λ_=>⟨⟩) (λ_=>⟨⟩) (λ_ _=>⟨⟩) (λ_ _ _=>⟨⟩) (λ_ _ _=>⟨⟩) (λ_=>⟨⟩) (λ_=>⟨⟩) rfl (λ_ _ _ b=>congrArg (·+1) b) h
theorem AV.get:∀{vs:List V} {ds:List D} {i:Nat} {d:D},AV K H O vs ds->ds[i]?=some d->∃v,vs[i]?=some v/\Is K H O v d
 |_,_,_,_,.nil,e=>by simp at e
 |_,_,0,_,.cons a _,e=>by simp at e;subst e;exact⟨_,rfl,a⟩
 |_,_,i+1,d,.cons _ b,e=>by
  obtain⟨v,h1,h2⟩:=AV.get (i:=i) (d:=d) b (by simpa using e);exact⟨v,by simpa using h1,h2⟩
theorem AV.append:∀{vs ws:List V} {ds es:List D},AV K H O vs ds->AV K H O ws es->AV K H O (vs++ws) (ds++es)
 |_,_,_,_,.nil,b=>b
 |_,_,_,_,.cons a c,b=>.cons a (AV.append c b)
theorem AV.take:∀{vs:List V} {ds:List D} (n:Nat),AV K H O vs ds->AV K H O (vs.take n) (ds.take n)
 |_,_,0,_=>.nil
 |_,_,_+1,.nil=>.nil
 |_,_,n+1,.cons r t=>.cons r (AV.take n t)
theorem AV.drop:∀{vs:List V} {ds:List D} (n:Nat),AV K H O vs ds->AV K H O (vs.drop n) (ds.drop n)
 |_,_,0,r=>r
 |_,_,_+1,.nil=>.nil
 |_,_,n+1,.cons _ t=>AV.drop n t
theorem AV.set{v:V}{d:D}(r:Is K H O v d):∀{vs:List V} {ds:List D} (i:Nat),AV K H O vs ds->AV K H O (vs.set i v) (ds.set i d)
 |_,_,_,.nil=>.nil
 |_,_,0,.cons _ t=>.cons r t
 |_,_,i+1,.cons q t=>.cons q (AV.set r i t)
theorem AV.one{v:V}{ds:List D}(h:AV K H O [v] ds):∃d,ds=[d]/\Is K H O v d:=by cases h with|cons a b=>cases b;exact⟨_,rfl,a⟩
def keyD:Key->D
 |.inl i=>.int i
 |.inr x=>.str x
def JZ:Key ⊕ List Key->D
 |.inl k=>keyD k
 |.inr ks=>.tup (ks.map keyD)
def EV(k:NK):D:=.tup (k.map JZ)
def EK(K:AM)(c:Str)(C:Addr):Prop:=Bw K mainGlobals c=some (some (.ref C))
def HL(K:AM)(H:Hp)(O:List Addr)(a:Addr):Ob->Prop
 |.exn c=>∃C:Addr,EK K c C/\H a=some (.ext λh=>∃o,h.get? a=some o/\o.cls=.ref C)
 |.ins c fs=>∃(C dx:Addr) (us:List (Str×V)),EK K c C/\H a=some (.ins C dx us)/\us.map (·.1)=fs.map (·.1)/\AV K H O (us.map (·.2)) (fs.map (·.2))
 |.lst ds=>∃vs,H a=some (.lst vs)/\AV K H O vs ds
 |.dk kvs=>∃us:List (Key×V),H a=some (.dK us)/\us.map (·.1)=kvs.map (·.1)/\AV K H O (us.map (·.2)) (kvs.map (·.2))
 |.dt kvs ep=>∃us:List (NK×Addr×V),H a=some (.dN us ep)/\us.map (·.1)=kvs.map (·.1)/\AV K H O (us.map (·.2.2)) (kvs.map (·.2))/\∀u∈us,Is K H O (.ref u.2.1) (EV u.1)
structure Am (K:AM) (H:Hp) (O:List Addr) (L:AD):Prop where
 len:O.length=L.length
 nd:O.Nodup
 ob:∀(k:Nat) (a:Addr) (o:Ob),O[k]?=some a->L[k]?=some o->HL K H O a o
theorem HL.ho{a:Addr}{o:Ob}(h:HL K H O a o):∃u,H a=some u/\¬So u:=by
 cases o with
 |lst ds=>obtain⟨vs,e,_⟩:=h;exact⟨_,e,id⟩
 |dk ds=>obtain⟨vs,e,_⟩:=h;exact⟨_,e,id⟩
 |dt ds ep=>obtain⟨vs,e,_⟩:=h;exact⟨_,e,id⟩
 |ins c fs=>obtain⟨C,dx,us,_,e,_⟩:=h;exact⟨_,e,id⟩
 |exn c=>obtain⟨C,_,e⟩:=h;exact⟨_,e,id⟩
theorem HL.move{a:Addr}{o:Ob}(h:HL K H O a o)(st:Ah H O H' O')(e:H' a=H a):HL K H' O' a o:=by
 cases o with
 |lst ds=>obtain⟨vs,q,r⟩:=h;exact⟨vs,by rw[e];exact q,r.mono st⟩
 |dk ds=>obtain⟨vs,q,r1,r2⟩:=h;exact⟨vs,by rw[e];exact q,r1,r2.mono st⟩
 |dt ds ep=>obtain⟨vs,q,r1,r2,r3⟩:=h;exact⟨vs,by rw[e];exact q,r1,r2.mono st,λu hu=>(r3 u hu).mono st⟩
 |ins c fs=>obtain⟨C,dx,us,z,q,r1,r2⟩:=h;exact⟨C,dx,us,z,by rw[e];exact q,r1,r2.mono st⟩
 |exn c=>obtain⟨C,z,q⟩:=h;exact⟨C,z,by rw[e];exact q⟩
theorem Am.has{L:AD}(r:Am K H O L){k:Nat}{a:Addr}(e:O[k]?=some a):∃o,L[k]?=some o/\HL K H O a o:=by
 have h:k<L.length:=by rw[<-r.len];exact(BQ.mp e).1
 exact⟨L[k],by simp[h],r.ob k a _ e (by simp[h])⟩
theorem Am.at{L:AD}(r:Am K H O L){k:Nat}{o:Ob}(e:L[k]?=some o):∃a,O[k]?=some a/\HL K H O a o:=by
 have h:k<O.length:=by rw[r.len];exact(BQ.mp e).1
 exact⟨O[k],by simp[h],r.ob k _ o (by simp[h]) e⟩
theorem Am.ext{L:AD}(r:Am K H O L)(k:∀a o,H a=some o->H' a=some o):Am K H' O L :=
 ⟨r.len,r.nd,λj a o e1 e2=>by
  have q:=r.ob j a o e1 e2;obtain⟨u,hu,_⟩:=q.ho
  exact q.move ⟨.ext k,As _⟩ (by rw[hu];exact k a u hu)⟩
theorem Am.new{L:AD}{p:Addr}{u:HO}{o:Ob}(r:Am K H O L)(hp:H p=none)(n:HL K (upd H p u) (O++[p]) p o):Am K (upd H p u) (O++[p]) (L++[o]):=by
 have hm:p∉O:=λhm=>by
  obtain⟨k,hk,e⟩:=AJX hm;obtain⟨o',_,q⟩:=r.has (k:=k) (a:=p) (by rw[<-e];simp[hk]);obtain⟨u',hu,_⟩:=q.ho;rw[hp] at hu;cases hu
 refine⟨by simp[r.len],by rw[AI2];exact⟨r.nd,by simp,λa ha b hb=>by simp at hb;subst hb;rintro rfl;exact hm ha⟩,λk a o' e1 e2=>?_⟩
 by_cases h:k<O.length
 .rw[FT h] at e1;rw[FT (by rw[<-r.len];exact h)] at e2;have q:=r.ob k a o' e1 e2;obtain⟨u',hu,_⟩:=q.ho;exact q.move ⟨.new hp,BB _ _⟩ (by rw[BM (DJ hu hp)])
 .have hk:k=O.length:=by
   have:=(BQ.mp e1).1;simp at this;omega
  subst hk;rw[AI0 (Ai _)] at e1;rw[AI0 (by rw[r.len];exact Ai _)] at e2;simp at e1;rw[r.len] at e2;simp at e2;subst e1 e2;exact n
theorem Am.write{L:AD}{k:Nat}{a:Addr}{u:HO}{o':Ob}(r:Am K H O L)(e:O[k]?=some a)(n:HL K (upd H a u) O a o'):Am K (upd H a u) O (L.set k o'):=by
 obtain⟨o,e2,q⟩:=r.has e;obtain⟨u0,hu0,nf⟩:=q.ho;refine⟨by simp[r.len],r.nd,λj b o2 f1 f2=>?_⟩
 by_cases h:j=k
 .subst h;rw[e] at f1;cases f1;rw[AIm (BQ.mp e2).1] at f2;cases f2;exact n
 .rw[Dw (Ne.symm h)] at f2;have q2:=r.ob j b o2 f1 f2
  have hb:b≠a:=λz=>by
   subst z;exact h (ADi r.nd f1 e)
  exact q2.move ⟨.write hu0 nf,As _⟩ (by rw[BM hb])
end
structure Gf (K:AM) (H:Hp) (O:List Addr) (σ:L2.St) (ρ:Fm):Prop where
 len:σ.length=ρ.length
 at':∀(i:Nat) (d:D),ρ[i]?=some (some d)->∃v,σ[i]?=some (some v)/\Is K H O v d
structure DS (K:AM) (H:Hp) (O:List Addr) (σ:L2.St) (ρ:Fm) (L:AD):Prop where
 s:Am K H O L
 f:Gf K H O σ ρ
theorem Gf.mono{K:AM}{H H':Hp}{O O':List Addr}{σ:L2.St}{ρ:Fm}(st:Ah H O H' O')(h:Gf K H O σ ρ):Gf K H' O' σ ρ :=
 ⟨h.len,λi d e=>let ⟨v,a,b⟩:=h.at' i d e;⟨v,a,b.mono st⟩⟩
theorem Gf.set{K:AM}{H:Hp}{O:List Addr}{σ:L2.St}{ρ:Fm}{v:V}{d:D}(h:Gf K H O σ ρ)(r:Is K H O v d)(i:Nat):Gf K H O (σ.set i (some v)) (ρ.set i (some d)):=by
 refine⟨by simp[h.len],λj e q=>?_⟩
 by_cases z:j=i
 .subst z
  have hj:j<ρ.length:=by have:=(BQ.mp q).1;simpa using this
  rw[AIm hj] at q;cases q;exact⟨v,by rw[AIm (by rw[h.len];exact hj)],r⟩
 .rw[Dw (Ne.symm z)] at q;obtain⟨v',a,b⟩:=h.at' j e q;exact⟨v',by rw[Dw (Ne.symm z)];exact a,b⟩
abbrev EF:=Fm->AD->Option (D×AD)
abbrev TF:=Fm->AD->Option (Bool×AD)
abbrev AF:=Fm->AD->Option (List D×AD)
abbrev G1:=D->AD->Option (D×AD)
abbrev G2:=D->D->AD->Option (D×AD)
abbrev GL:=List D->AD->Option (D×AD)
def Gv(K:AM)(f:EF):TE:=λσ H Q=>∃O ρ L d L',DS K H O σ ρ L/\f ρ L=some (d,L') /\
 ∀v H' O',Ah H O H' O'->Am K H' O' L'->Is K H' O' v d->Q v H'
def Nf(K:AM)(f:TF):TT:=λσ H Q=>∃O ρ L b L',DS K H O σ ρ L/\f ρ L=some (b,L') /\
 ∀H' O',Ah H O H' O'->Am K H' O' L'->Q b H'
def Rh(K:AM)(f:AF):TA:=λσ H Q=>∃O ρ L ds L',DS K H O σ ρ L/\f ρ L=some (ds,L') /\
 ∀vs H' O',Ah H O H' O'->Am K H' O' L'->AV K H' O' vs ds->Q vs H'
def AZ(X:Cx)(e:Expr)(f:EF):Prop:=PE X e (Gv X.K f)
def Ex(X:Cx)(e:Expr)(f:TF):Prop:=PT X e (Nf X.K f)
def JF(X:Cx)(e:Expr)(f:TF):Prop:=PW X e (Nf X.K f)
def Ed(X:Cx)(es:List Expr)(f:AF):Prop:=PA X es (Rh X.K f)
theorem PE.weaken{X:Cx}{e:Expr}{t t':TE}(h:PE X e t)(i:∀σ H Q,t' σ H Q->t σ H Q):PE X e t':=λpins s σ H Q I q=>h pins s σ H Q I (i σ H Q q)
theorem PT.weaken{X:Cx}{e:Expr}{t t':TT}(h:PT X e t)(i:∀σ H Q,t' σ H Q->t σ H Q):PT X e t':=λpins s σ H Q I q=>h pins s σ H Q I (i σ H Q q)
theorem PW.weaken{X:Cx}{e:Expr}{t t':TT}(h:PW X e t)(i:∀σ H Q,t' σ H Q->t σ H Q):PW X e t':=λw pins s σ H Q I q=>h w pins s σ H Q I (i σ H Q q)
theorem PA.weaken{X:Cx}{e:List Expr}{t t':TA}(h:PA X e t)(i:∀σ H Q,t' σ H Q->t σ H Q):PA X e t':=λp pins s σ H Q I q=>h p pins s σ H Q I (i σ H Q q)
theorem DS.to{K:AM}{H H':Hp}{O O':List Addr}{σ:L2.St}{ρ:Fm}{L L':AD}(r:DS K H O σ ρ L)(st:Ah H O H' O')(rs:Am K H' O' L'):DS K H' O' σ ρ L':=⟨rs,r.f.mono st⟩
def AE(d:D):EF:=λ_ L=>some (d,L)
def AA(i:Nat):EF:=λρ L=>match ρ[i]? with|some (some d)=>some (d,L)|_=>none
def AG(g:G2)(fa fb:EF):EF:=λρ L=>(fa ρ L).bind λx=>(fb ρ x.2).bind λy=>g x.1 y.1 y.2
def BU(g:G1)(fa:EF):EF:=λρ L=>(fa ρ L).bind λx=>g x.1 x.2
section
variable {X:Cx}{a b c:Expr}{fa fb fc:EF}{pos:Pos}
theorem Kk{v:V}{d:D}(h:PE X a (tC v))(i:∀H O,Is X.K H O v d):AZ X a (AE d) :=
 PE.weaken h λσ H Q z3_=>by
  obtain⟨O,ρ,L,d',L',r,e,k⟩:=z3_;cases e;exact k _ _ _ (.refl _ _) r.s (i _ _)
theorem AL{i:Int}{j:Nat}{pos:Pos}:AZ X (.Constant (.int i) j pos) (AE (.int i)):=Kk ACq λ_ _=>.int _
theorem Eb{i:Bool}{j:Nat}{pos:Pos}:AZ X (.Constant (.bool i) j pos) (AE (.bl i)):=Kk AC2 λ_ _=>.bl _
theorem Ea{j:Nat}{pos:Pos}:AZ X (.Constant .none j pos) (AE .non):=Kk ACm λ_ _=>.non
theorem BE{x:Str}{j:Nat}{pos:Pos}(h:x.length<=16777216:=by decide):AZ X (.Constant (.str x) j pos) (AE (.str x)):=Kk ACh λ_ _=>.str _ h
theorem HA{i:Nat}(h:PE X a (Qs i)):AZ X a (AA i) :=
 PE.weaken h λσ H Q z3_=>by
  obtain⟨O,ρ,L,d',L',r,e,k⟩:=z3_;unfold AA at e;split at e
  .rename_i d hd;cases e;obtain⟨v,hv,is⟩:=r.f.at' i _ hd;exact⟨v,hv,k _ _ _ (.refl _ _) r.s is⟩
  .cases e
def rD(K:AM)(g:G2):R2:=λv u H Q=>∃O L x y d L',Am K H O L/\Is K H O v x/\Is K H O u y/\g x y L=some (d,L') /\
 ∀w H' O',Ah H O H' O'->Am K H' O' L'->Is K H' O' w d->Q w H'
def rC(K:AM)(g:GL):List V->Hp->VK->Prop:=λvs H Q=>∃O L xs d L',Am K H O L/\AV K H O vs xs/\g xs L=some (d,L') /\
 ∀w H' O',Ah H O H' O'->Am K H' O' L'->Is K H' O' w d->Q w H'
def Cq(X:Cx)(f:Value->Value->Sem Value)(g:G2):Prop:=Ar X f (rD X.K g)
def Fp(X:Cx)(f:Value)(g:GL):Prop:=Cu X f (rC X.K g)
def OY(X:Cx)(g:G2):Prop:=Fl X (rD X.K g)
theorem Ar.weaken{f:Value->Value->Sem Value}{r r':R2}(h:Ar X f r)(i:∀x y H Q,r' x y H Q->r x y H Q):Ar X f r' :=
 λpins s σ H x y v u Q I rx ry q=>h pins s σ H x y v u Q I rx ry (i _ _ _ _ q)
theorem Fl.weaken{r r':R2}(h:Fl X r)(i:∀x y H Q,r' x y H Q->r x y H Q):Fl X r' :=
 λa b pins s σ H x y v u Q I rx ry q=>h a b pins s σ H x y v u Q I rx ry (i _ _ _ _ q)
theorem Cu.weaken{f:Value}{r r':List V->Hp->VK->Prop}(h:Cu X f r)(i:∀xs H Q,r' xs H Q->r xs H Q):Cu X f r' :=
 λpins s σ H xs us Q I rx q=>h pins s σ H xs us Q I rx (i _ _ _ q)
theorem two_lift{K:AM}{g:G2}{σ:L2.St}{H:Hp}{Q:VK}(h:Gv K (AG g fa fb) σ H Q):LH (rD K g) (Gv K fa) (Gv K fb) σ H Q:=by
 obtain⟨O,ρ,L,d,L',r,e,k⟩:=h;unfold AG at e
 cases e1:fa ρ L with
 |none=>rw[e1] at e;cases e
 |some p =>
  rw[e1] at e;simp only[AS] at e
  cases e2:fb ρ p.2 with
  |none=>rw[e2] at e;cases e
  |some q =>
   rw[e2] at e;simp only[AS] at e;refine⟨O,ρ,L,p.1,p.2,r,e1,λv H1 O1 st1 rs1 is1=>?_⟩;refine⟨O1,ρ,p.2,q.1,q.2,r.to st1 rs1,e2,λu H2 O2 st2 rs2 is2=>?_⟩;exact⟨O2,q.2,p.1,q.1,d,L',rs2,is1.mono st2,is2,e,λw H' O' st rs is=>k w H' O' ((st1.trans st2).trans st) rs is⟩
theorem AU{op:Operator}{g:G2}(ho:Cq X (binaryOp op) g)(ha:AZ X a fa)(hb:AZ X b fb):AZ X (.BinOp a op b pos) (AG g fa fb) :=
 PE.weaken (ACk ho ha hb) λ_ _ _ h=>two_lift h
theorem IP{op:CmpOp}{g:G2}(ho:Cq X (compareOp op) g)(ha:AZ X a fa)(hb:AZ X b fb)(hm:behindInMarks op b=false):AZ X (.Compare a [op] [b] pos) (AG g fa fb) :=
 PE.weaken (ACv ho ha hb hm) λ_ _ _ h=>two_lift h
theorem Fe{g:G2}(ho:OY X g)(ha:AZ X a fa)(hb:AZ X b fb)(hs:Sh b):AZ X (.Subscript a b pos) (AG g fa fb) :=
 PE.weaken (ACp ho ha hb hs) λ_ _ _ h=>two_lift h
def AW(f:EF):TF:=λρ L=>(f ρ L).bind λx=>match x.1 with|.bl b=>some (b,x.2)|_=>none
theorem SV{K:AM}{f:EF}{σ:L2.St}{H:Hp}{Q:Bool->Hp->Prop}(h:Nf K (AW f) σ H Q):Gv K f σ H λx H'=>∃k,x=.bl k/\Q k H':=by
 obtain⟨O,ρ,L,b,L',r,e,k⟩:=h;unfold AW at e
 cases e1:f ρ L with
 |none=>rw[e1] at e;cases e
 |some p =>
  rw[e1] at e;obtain⟨d,L1⟩:=p
  cases d <;> simp only[AS] at e <;> try (cases e;done)
  cases e;refine⟨O,ρ,L,_,_,r,e1,λv H' O' st rs is=>?_⟩;cases is;exact⟨_,rfl,k H' O' st rs⟩
theorem Ay{op:CmpOp}{g:G2}(ho:Cq X (compareOp op) g)(ha:AZ X a fa)(hb:AZ X b fb)(hm:behindInMarks op b=false):Ex X (.Compare a [op] [b] pos) (AW (AG g fa fb)) :=
 PT.weaken (AB9 ho ha hb hm) λσ H Q h=>by
  have q:=SV h;exact two_lift q
theorem Dg(ha:AZ X a fa)(he:∀whole,isTrue a X.env whole=(do let v <-whole;standAt a.pos;holding [v] (truthy v)):=by intro _;rfl):Ex X a (AW fa) :=
 PT.weaken (AB7 ha he) λσ H Q h=>SV h
def Ds(f:TF):TF:=λρ L=>(f ρ L).bind λx=>some (!x.1,x.2)
def Jr(f g:TF):TF:=λρ L=>(f ρ L).bind λx=>if x.1=true then g ρ x.2 else some (false,x.2)
def Di(f g:TF):TF:=λρ L=>(f ρ L).bind λx=>if x.1=true then some (true,x.2) else g ρ x.2
theorem Ei{f:TF}(ha:Ex X a f):Ex X (.UnaryOp .Not a pos) (Ds f) :=
 PT.weaken (AB8 ha) λσ H Q z3_=>by
  obtain⟨O,ρ,L,b,L',r,e,k⟩:=z3_;unfold Ds at e
  cases e1:f ρ L with
  |none=>rw[e1] at e;cases e
  |some p=>rw[e1] at e;cases e;exact⟨O,ρ,L,p.1,p.2,r,e1,λH' O' st rs=>k H' O' st rs⟩
theorem Tw{f:TF}(ha:Ex X a f):JF X (.BoolOp .And [a] pos) f:=ABz ha
theorem GO{f:TF}(ha:Ex X a f):JF X (.BoolOp .Or [a] pos) f:=ABx ha
theorem Tx{f g:TF}{rest:List Expr}(ha:Ex X a f)(hb:JF X (.BoolOp .And (b::rest) pos) g):JF X (.BoolOp .And (a::b::rest) pos) (Jr f g) :=
 PW.weaken (AB0 ha hb) λσ H Q z3_=>by
  obtain⟨O,ρ,L,c,L',r,e,k⟩:=z3_;unfold Jr at e
  cases e1:f ρ L with
  |none=>rw[e1] at e;cases e
  |some p =>
   rw[e1] at e;obtain⟨b1,L1⟩:=p;refine⟨O,ρ,L,b1,L1,r,e1,λH1 O1 st rs=>?_⟩
   cases b1 with
   |true =>
    refine iteT ⟨O1,ρ,L1,c,L',r.to st rs,by simpa using e,λH' O' st' rs'=>k H' O' (st.trans st') rs'⟩
   |false =>
    simp at e;obtain⟨rfl,rfl⟩:=e;exact iteF (k H1 O1 st rs)
theorem Eg{f g:TF}{rest:List Expr}(ha:Ex X a f)(hb:JF X (.BoolOp .Or (b::rest) pos) g):JF X (.BoolOp .Or (a::b::rest) pos) (Di f g) :=
 PW.weaken (ABy ha hb) λσ H Q z3_=>by
  obtain⟨O,ρ,L,c,L',r,e,k⟩:=z3_;unfold Di at e
  cases e1:f ρ L with
  |none=>rw[e1] at e;cases e
  |some p =>
   rw[e1] at e;obtain⟨b1,L1⟩:=p;refine⟨O,ρ,L,b1,L1,r,e1,λH1 O1 st rs=>?_⟩
   cases b1 with
   |true =>
    simp at e;obtain⟨rfl,rfl⟩:=e;exact iteT (k H1 O1 st rs)
   |false =>
    refine iteF ⟨O1,ρ,L1,c,L',r.to st rs,by simpa using e,λH' O' st' rs'=>k H' O' (st.trans st') rs'⟩
theorem FU{f:TF}(h:JF X a f):Ex X a f:=PW.pt h
def IS(f g:EF):EF:=λρ L=>(f ρ L).bind λx=>match x.1 with|.bl true=>g ρ x.2|.bl false=>some (.bl false,x.2)|_=>none
def KS(f g:EF):EF:=λρ L=>(f ρ L).bind λx=>match x.1 with|.bl true=>some (.bl true,x.2)|.bl false=>g ρ x.2|_=>none
theorem OC{op:BoolOp}{f:EF}(h:AZ X a f):AZ X (.BoolOp op [a] pos) f:=ACl h
theorem SJ{f g:EF}{rest:List Expr}(ha:AZ X a f)(hb:AZ X (.BoolOp .And (b::rest) pos) g):AZ X (.BoolOp .And (a::b::rest) pos) (IS f g) :=
 PE.weaken (AC3 ha hb) λσ H Q z3_=>by
  obtain⟨O,ρ,L,c,L',r,e,k⟩:=z3_;unfold IS at e
  cases e1:f ρ L with
  |none=>rw[e1] at e;cases e
  |some p =>
   rw[e1] at e;obtain⟨d,L1⟩:=p;refine⟨O,ρ,L,d,L1,r,e1,λv H1 O1 st rs is=>?_⟩
   cases d <;> simp only[AS] at e <;> try (cases e;done)
   rename_i b1;cases is;refine⟨b1,rfl,?_⟩
   cases b1 with
   |true=>exact iteT ⟨O1,ρ,L1,c,L',r.to st rs,by simpa using e,λv H' O' st' rs' is'=>k v H' O' (st.trans st') rs' is'⟩
   |false =>
    simp at e;obtain⟨rfl,rfl⟩:=e;exact iteF (k _ H1 O1 st rs (.bl _))
theorem AFd{f g:EF}{rest:List Expr}(ha:AZ X a f)(hb:AZ X (.BoolOp .Or (b::rest) pos) g):AZ X (.BoolOp .Or (a::b::rest) pos) (KS f g) :=
 PE.weaken (ACj ha hb) λσ H Q z3_=>by
  obtain⟨O,ρ,L,c,L',r,e,k⟩:=z3_;unfold KS at e
  cases e1:f ρ L with
  |none=>rw[e1] at e;cases e
  |some p =>
   rw[e1] at e;obtain⟨d,L1⟩:=p;refine⟨O,ρ,L,d,L1,r,e1,λv H1 O1 st rs is=>?_⟩
   cases d <;> simp only[AS] at e <;> try (cases e;done)
   rename_i b1;cases is;refine⟨b1,rfl,?_⟩
   cases b1 with
   |false=>exact iteF ⟨O1,ρ,L1,c,L',r.to st rs,by simpa using e,λv H' O' st' rs' is'=>k v H' O' (st.trans st') rs' is'⟩
   |true =>
    simp at e;obtain⟨rfl,rfl⟩:=e;exact iteT (k _ H1 O1 st rs (.bl _))
def IA(t:TF)(f g:EF):EF:=λρ L=>(t ρ L).bind λx=>if x.1=true then f ρ x.2 else g ρ x.2
theorem OE{t:TF}{f g:EF}(hc:Ex X c t)(ha:AZ X a f)(hb:AZ X b g):AZ X (.IfExp c a b pos) (IA t f g) :=
 PE.weaken (ACr hc ha hb) λσ H Q z3_=>by
  obtain⟨O,ρ,L,d,L',r,e,k⟩:=z3_;unfold IA at e
  cases e1:t ρ L with
  |none=>rw[e1] at e;cases e
  |some p =>
   rw[e1] at e;obtain⟨b1,L1⟩:=p;refine⟨O,ρ,L,b1,L1,r,e1,λH1 O1 st rs=>?_⟩
   cases b1 with
   |true=>exact iteT ⟨O1,ρ,L1,d,L',r.to st rs,by simpa using e,λv H' O' st' rs' is'=>k v H' O' (st.trans st') rs' is'⟩
   |false=>exact iteF ⟨O1,ρ,L1,d,L',r.to st rs,by simpa using e,λv H' O' st' rs' is'=>k v H' O' (st.trans st') rs' is'⟩
def Dx:Expr->Bool
 |.Starred _ _=>false
 |_=>true
theorem Gq{e:Expr}{es:List Expr}{env:Env}(h:Dx e=true):starEach (e::es) env=(false,eval e env)::starEach es env:=by cases e <;> first|rfl|(cases h)
theorem Hv:∀{es:List Expr} {env:Env} {pos:Pos},es.all Dx=true->(backTo pos (starEach es env)).any (·.1)=false
 |[],_,_,_=>rfl
 |e::es,env,pos,h=>by
  rw[AI1,CA] at h;rw[Gq h.1];have:=Hv (env:=env) (pos:=pos) h.2;unfold backTo at this ⊢;rw[Ap,AIq,this];rfl
theorem VS:∀{es:List Expr} {env:Env} {pos:Pos},es.all Dx=true->(backTo pos (starEach es env)).all (λx=>!x.1)=true
 |[],_,_,_=>rfl
 |e::es,env,pos,h=>by
  rw[AI1,CA] at h;rw[Gq h.1];have:=VS (env:=env) (pos:=pos) h.2;unfold backTo at this ⊢;rw[Ap,AI1,this];rfl
def AJ:AF:=λ_ L=>some ([],L)
def AB(f:EF)(g:AF):AF:=λρ L=>(f ρ L).bind λx=>(g ρ x.2).bind λy=>some (x.1::y.1,y.2)
theorem AK:Ed X [] AJ:=PA.weaken NU λσ H Q z3_=>by obtain⟨O,ρ,L,d,L',r,e,k⟩:=z3_;cases e;exact k _ _ _ (.refl _ _) r.s .nil
theorem AC{e:Expr}{es:List Expr}{f:EF}{g:AF}(ha:AZ X e f)(hr:Ed X es g)(hs:Dx e=true:=by rfl):Ed X (e::es) (AB f g) :=
 PA.weaken (KR ha hr (Gq hs)) λσ H Q z3_=>by
  obtain⟨O,ρ,L,d,L',r,e,k⟩:=z3_;unfold AB at e
  cases e1:f ρ L with
  |none=>rw[e1] at e;cases e
  |some p =>
   rw[e1] at e;simp only[AS] at e
   cases e2:g ρ p.2 with
   |none=>rw[e2] at e;cases e
   |some q =>
    rw[e2] at e;cases e;refine⟨O,ρ,L,p.1,p.2,r,e1,λv H1 O1 st1 rs1 is1=>?_⟩;refine⟨O1,ρ,p.2,q.1,q.2,r.to st1 rs1,e2,λu H2 O2 st2 rs2 is2=>?_⟩;exact k _ _ _ (st1.trans st2) rs2 (.cons (is1.mono st2) is2)
def DN(f:AF):EF:=λρ L=>(f ρ L).bind λx=>if x.1.length<=16777216 then some (.tup x.1,x.2) else none
def Bt(f:AF):EF:=λρ L=>(f ρ L).bind λx=>if x.1.length<=16777216 then some (.ref x.2.length,x.2++[.lst x.1]) else none
theorem EA{es:List Expr}{f:AF}{x1:Nat}(h:Ed X es f):AZ X (.Tuple es x1 pos) (DN f) :=
 PE.weaken (Vb h) λσ H Q z3_=>by
  obtain⟨O,ρ,L,d,L',r,e,k⟩:=z3_;unfold DN at e
  cases e1:f ρ L with
  |none=>rw[e1] at e;cases e
  |some p =>
   rw[e1] at e;simp only[AS] at e;split at e
   .rename_i hz;cases e;refine⟨O,ρ,L,p.1,p.2,r,e1,λvs H1 O1 st rs is=>⟨by rw[is.length,sizeLine_eq];exact hz,λq hq=>?_⟩⟩;have st2:Ah H1 O1 (upd H1 q (.tup vs)) O1:=⟨.new hq,As _⟩;exact k _ _ _ (st.trans st2) (rs.ext λa u e=>by rw[BM (DJ e hq)];exact e) (.tup (Bp.of CI) (is.mono st2))
   .cases e
theorem CN{es:List Expr}{f:AF}(h:Ed X es f):AZ X (.List es pos) (Bt f) :=
 PE.weaken (ACo h) λσ H Q z3_=>by
  obtain⟨O,ρ,L,d,L',r,e,k⟩:=z3_;unfold Bt at e
  cases e1:f ρ L with
  |none=>rw[e1] at e;cases e
  |some p =>
   rw[e1] at e;simp only[AS] at e;split at e
   .rename_i hz;cases e;refine⟨O,ρ,L,p.1,p.2,r,e1,λvs H1 O1 st rs is=>⟨by rw[is.length,sizeLine_eq];exact hz,λq hq=>?_⟩⟩;have st2:Ah H1 O1 (upd H1 q (.lst vs)) (O1++[q]):=⟨.new hq,BB _ _⟩;refine k _ _ _ (st.trans st2) (rs.new hq ⟨vs,CI,is.mono st2⟩) (.ref ?_);rw[<-rs.len];simp
   .cases e
def AT(g:GL)(f:AF):EF:=λρ L=>(f ρ L).bind λx=>g x.1 x.2
theorem SM{K:AM}{g:GL}{f:AF}{σ:L2.St}{H:Hp}{Q:VK}(h:Gv K (AT g f) σ H Q):Rh K f σ H λvs H1=>rC K g vs H1 Q:=by
 obtain⟨O,ρ,L,d,L',r,e,k⟩:=h;unfold AT at e
 cases e1:f ρ L with
 |none=>rw[e1] at e;cases e
 |some p =>
  rw[e1] at e;exact⟨O,ρ,L,p.1,p.2,r,e1,λvs H1 O1 st rs is=>⟨O1,p.2,p.1,d,L',rs,is,e,λw H' O' st' rs' is'=>k w H' O' (st.trans st') rs' is'⟩⟩
theorem Bf{x:Str}{p:Pos}{e:Expr}{es:List Expr}{id:String}{g:GL}{f:AF}(hc:Fp X (.builtin id) g)(hm:X.mg x=none)(hv:bootBuiltins x=some (.builtin id))(ha:Ed X (e::es) f)(hg:Gl X x:=by rfl)(hn:x≠"__name__":=by decide)(hdb:(x == ("__debug__":Str))=false:=by decide)
  (he:Dx e=true:=by rfl) (hpl:es.all Dx=true:=by rfl):AZ X (.Call (.Name x p) (e::es) [] pos) (AT g f) :=
 PE.weaken (RP hc hg hm hv ha hn hdb (Gq he) (Hv hpl)) λσ H Q h=>SM h
theorem HB{x:Str}{p:Pos}{e:Expr}{es:List Expr}{T:String}{g:GL}{f:AF}(hc:Fp X (.type T) g)(hm:X.mg x=none)(hv:bootBuiltins x=some (.type T))(ha:Ed X (e::es) f)(hg:Gl X x:=by rfl)(hn:x≠"__name__":=by decide)(hdb:(x == ("__debug__":Str))=false:=by decide)
  (he:Dx e=true:=by rfl) (hpl:es.all Dx=true:=by rfl):AZ X (.Call (.Name x p) (e::es) [] pos) (AT g f) :=
 PE.weaken (ACw hc hg hm hv ha hn hdb (Gq he) (Hv hpl)) λσ H Q h=>SM h
end
inductive Fi where
 |next (ρ:Fm) (L:AD)|ret (d:D) (L:AD)|brk (ρ:Fm) (L:AD)|cont (ρ:Fm) (L:AD)
abbrev SF:=Fm->AD->Option Fi
def JE(K:AM)(H:Hp)(O:List Addr)(E:JK):Fi->Prop
 |.next ρ L=>∀σ' H' O',Ah H O H' O'->DS K H' O' σ' ρ L->E.nx σ' H'
 |.ret d L=>∀v H' O',Ah H O H' O'->Am K H' O' L->Is K H' O' v d->E.rt v H'
 |.brk ρ L=>∀σ' H' O',Ah H O H' O'->DS K H' O' σ' ρ L->E.bk σ' H'
 |.cont ρ L=>∀σ' H' O',Ah H O H' O'->DS K H' O' σ' ρ L->E.ct σ' H'
theorem JE.mono{K:AM}{H H1:Hp}{O O1:List Addr}{E:JK}{out:Fi}(st:Ah H O H1 O1)(h:JE K H O E out):JE K H1 O1 E out:=by
 cases out with
 |next ρ L=>exact λσ' H' O' st' r=>h σ' H' O' (st.trans st') r
 |ret d L=>exact λv H' O' st' r i=>h v H' O' (st.trans st') r i
 |brk ρ L=>exact λσ' H' O' st' r=>h σ' H' O' (st.trans st') r
 |cont ρ L=>exact λσ' H' O' st' r=>h σ' H' O' (st.trans st') r
def Ng(K:AM)(f:SF):TS:=λE σ H=>∃O ρ L out,DS K H O σ ρ L/\f ρ L=some out/\JE K H O E out
def Du(X:Cx)(st:Stmt)(f:SF):Prop:=PS X st (Ng X.K f)
def FM(X:Cx)(st:List Stmt)(f:SF):Prop:=DT X st (Ng X.K f)
theorem PS.weaken{X:Cx}{e:Stmt}{t t':TS}(h:PS X e t)(i:∀D σ H,t' D σ H->t D σ H):PS X e t':=λpins s σ H D I q=>h pins s σ H D I (i D σ H q)
theorem DT.weaken{X:Cx}{e:List Stmt}{t t':TS}(h:DT X e t)(i:∀D σ H,t' D σ H->t D σ H):DT X e t':=λpins s σ H D I q=>h pins s σ H D I (i D σ H q)
def Az:SF:=λρ L=>some (.next ρ L)
def AN(f g:SF):SF:=λρ L=>(f ρ L).bind λout=>match out with|.next ρ' L'=>g ρ' L'|o=>some o
def Ag(f:EF):SF:=λρ L=>(f ρ L).bind λx=>some (.ret x.1 x.2)
def EZ(f:EF):SF:=λρ L=>(f ρ L).bind λx=>some (.next ρ x.2)
def AY(i:Nat)(f:EF):SF:=λρ L=>(f ρ L).bind λx=>some (.next (ρ.set i (some x.1)) x.2)
def An(t:TF)(f g:SF):SF:=λρ L=>(t ρ L).bind λx=>if x.1=true then f ρ x.2 else g ρ x.2
def SQ:SF:=λρ L=>some (.brk ρ L)
section
variable {X:Cx}{st:Stmt}{rest:List Stmt}{f g:SF}{fe:EF}{e:Expr}{pos:Pos}
theorem BH:FM X [] Az:=DT.weaken VN λD σ H z3_=>by obtain⟨O,ρ,L,out,r,e,k⟩:=z3_;cases e;exact k σ H O (.refl _ _) r
theorem AO(h1:Du X st f)(h2:FM X rest g):FM X (st::rest) (AN f g) :=
 DT.weaken (VO h1 h2) λD σ H z3_=>by
  obtain⟨O,ρ,L,out,r,e,k⟩:=z3_;unfold AN at e
  cases e1:f ρ L with
  |none=>rw[e1] at e;cases e
  |some o1 =>
   rw[e1] at e;simp only[AS] at e;refine⟨O,ρ,L,o1,r,e1,?_⟩
   cases o1 with
   |next ρ1 L1=>exact λσ' H' O' st' r'=>⟨O',ρ1,L1,out,r',e,k.mono st'⟩
   |ret d L1=>cases e;exact k
   |brk ρ1 L1=>cases e;exact k
   |cont ρ1 L1=>cases e;exact k
theorem AQ(h1:Du X st f):FM X [st] f:=DT.weaken (VM h1) λD σ H h=>h
theorem ABO:Du X (.Break pos) SQ:=PS.weaken ACK λD σ H z3_=>by obtain⟨O,ρ,L,out,r,e,k⟩:=z3_;cases e;exact k σ H O (.refl _ _) r
theorem FV(he:AZ X e fe)(hs:swapsWith e none pos.line X.env=pure false:=by rfl):Du X (.Expr e pos) (EZ fe) :=
 PS.weaken (ACJ he hs) λD σ H z3_=>by
  obtain⟨O,ρ,L,out,r,e,k⟩:=z3_;unfold EZ at e
  cases e1:fe ρ L with
  |none=>rw[e1] at e;cases e
  |some p=>rw[e1] at e;cases e;exact⟨O,ρ,L,p.1,p.2,r,e1,λv H' O' st rs is=>k σ H' O' st (r.to st rs)⟩
theorem Aj(he:AZ X e fe):Du X (.Return (some e) pos) (Ag fe) :=
 PS.weaken (ACD he) λD σ H z3_=>by
  obtain⟨O,ρ,L,out,r,e,k⟩:=z3_;unfold Ag at e
  cases e1:fe ρ L with
  |none=>rw[e1] at e;cases e
  |some p=>rw[e1] at e;cases e;exact⟨O,ρ,L,p.1,p.2,r,e1,λv H' O' st rs is=>k v H' O' st rs is⟩
theorem Af{i:Nat}{x:Str}{pos':Pos}(hN:X.N.Nodup)(he:AZ X e fe)(hi:X.N[i]?=some x:=by rfl)(hx:IW X.env.scope x:=by first|exact Or.inl rfl|exact Or.inr rfl)(hs:swapsWith e (some (.Name x pos')) pos.line X.env=pure false:=by rfl)
  (hf:X.fn x=true\/X.env.scope.names.lookup x=some .local:=by first|exact .inl rfl|exact .inr rfl):Du X (.Assign [.Name x pos'] e pos) (AY i fe) :=
 PS.weaken (ACC hN hi hx he hs hf) λD σ H z3_=>by
  obtain⟨O,ρ,L,out,r,e,k⟩:=z3_;unfold AY at e
  cases e1:fe ρ L with
  |none=>rw[e1] at e;cases e
  |some p=>rw[e1] at e;cases e;exact⟨O,ρ,L,p.1,p.2,r,e1,λv H' O' st rs is=>k _ H' O' st ⟨rs,(r.f.mono st).set is i⟩⟩
theorem BG{c:Expr}{a b:List Stmt}{t:TF}(hc:Ex X c t)(ha:FM X a f)(hb:FM X b g):Du X (.If c a b pos) (An t f g) :=
 PS.weaken (VP hc ha hb) λD σ H z3_=>by
  obtain⟨O,ρ,L,out,r,e,k⟩:=z3_;unfold An at e
  cases e1:t ρ L with
  |none=>rw[e1] at e;cases e
  |some p =>
   rw[e1] at e;obtain⟨b1,L1⟩:=p;refine⟨O,ρ,L,b1,L1,r,e1,λH1 O1 st rs=>?_⟩
   cases b1 with
   |true=>exact iteT ⟨O1,ρ,L1,out,r.to st rs,by simpa using e,k.mono st⟩
   |false=>exact iteF ⟨O1,ρ,L1,out,r.to st rs,by simpa using e,k.mono st⟩
end
abbrev GF:=D->Fm->Option Fm
abbrev FO:=List D->Fm->Option Fm
def AEL(K:AM)(g:GF):TG:=λv σ H Q=>∃O ρ L d ρ',DS K H O σ ρ L/\Is K H O v d/\g d ρ=some ρ'/\∀σ',DS K H O σ' ρ' L->Q σ' H
def WO(K:AM)(g:FO):HH:=λv σ H Q=>∃O ρ L d ρ',DS K H O σ ρ L/\AV K H O v d/\g d ρ=some ρ'/\∀σ',DS K H O σ' ρ' L->Q σ' H
def JH(X:Cx)(tg:Expr)(g:GF):Prop:=PG X tg (AEL X.K g)
def Kq(X:Cx)(tg:List Expr)(g:FO):Prop:=HK X tg (WO X.K g)
theorem PG.weaken{X:Cx}{e:Expr}{t t':TG}(h:PG X e t)(i:∀v σ H Q,t' v σ H Q->t v σ H Q):PG X e t':=λpins s σ H v u Q I r q=>h pins s σ H v u Q I r (i _ _ _ _ q)
theorem HK.weaken{X:Cx}{e:List Expr}{t t':HH}(h:HK X e t)(i:∀v σ H Q,t' v σ H Q->t v σ H Q):HK X e t':=λpins s σ H v u Q I r q=>h pins s σ H v u Q I r (i _ _ _ _ q)
def Av(i:Nat):GF:=λd ρ=>some (ρ.set i (some d))
def FY:FO:=λds ρ=>match ds with|[]=>some ρ|_=>none
def CM(g:GF)(h:FO):FO:=λds ρ=>match ds with|d::r=>(g d ρ).bind λρ'=>h r ρ'|[]=>none
def Fu(n:Nat)(h:FO):GF:=λd ρ=>match d with|.tup ds=>if ds.length=n then h ds ρ else none|_=>none
section
variable {X:Cx}{pos:Pos}
theorem BC{i:Nat}{x:Str}(hN:X.N.Nodup)(hi:X.N[i]?=some x:=by rfl)(hx:IW X.env.scope x:=by first|exact Or.inl rfl|exact Or.inr rfl)(hf:X.fn x=true\/X.env.scope.names.lookup x=some .local:=by first|exact .inl rfl|exact .inr rfl):JH X (.Name x pos) (Av i) :=
 PG.weaken (ACe hN hi hx hf) λv σ H Q z4_=>by
  obtain⟨O,ρ,L,d,ρ',r,is,e,k⟩:=z4_;cases e;exact k _ ⟨r.s,r.f.set is i⟩
theorem GY:Kq X [] FY:=HK.weaken ACc λv σ H Q z4_=>by
 obtain⟨O,ρ,L,d,ρ',r,is,e,k⟩:=z4_
 cases is with
 |nil=>cases e;exact⟨rfl,k _ r⟩
 |cons a b=>cases e
end
section
variable {X:Cx}{pos:Pos}
theorem Cp{e:Expr}{es:List Expr}{g:GF}{h:FO}(h1:JH X e g)(h2:Kq X es h)
  (hs:(assignEach (e::es) X.env).map (·.2)=assign e X.env::(assignEach es X.env).map (·.2):=by rfl):Kq X (e::es) (CM g h) :=
 HK.weaken (ACd h1 h2 hs) λv σ H Q z4_=>by
  obtain⟨O,ρ,L,ds,ρ',r,is,e,k⟩:=z4_
  cases is with
  |nil=>cases e
  |@cons v d vs ds a b =>
   simp only[CM] at e
   cases e1:g d ρ with
   |none=>rw[e1] at e;cases e
   |some ρ1 =>
    rw[e1] at e;exact⟨v,vs,rfl,O,ρ,L,d,ρ1,r,a,e1,λσ' r'=>⟨O,ρ1,L,ds,ρ',r',b,e,k⟩⟩
theorem IC{es:List Expr}{k:Nat}{h:FO}{n:Nat}(hc:X.calm=true)(h1:Kq X es h)
  (hn:(assignEach es X.env).length=n:=by rfl) (hst:(assignEach es X.env).findIdx? (·.1)=none:=by rfl):JH X (.Tuple es k pos) (Fu n h) :=
 PG.weaken (VZ hc h1 hn hst) λv σ H Q z4_=>by
  obtain⟨O,ρ,L,d,ρ',r,is,e,k⟩:=z4_
  cases is with
  |@tup a vs ds hq il =>
   simp only[Fu] at e;split at e
   .rename_i hl;exact⟨a,vs,rfl,hq,by rw[il.length];exact hl,O,ρ,L,ds,ρ',r,il,e,k⟩
   .cases e
  |_=>cases e
end
structure MH where
 items:List D
 ok:AD->Bool
abbrev IF:=Fm->AD->Option (MH×AD)
def Kt(K:AM)(H0:Hp)(O0:List Addr)(Jt:It)(J:MH):Prop:=∀(i:Nat) (H:Hp) (O:List Addr) (L:AD),Ah H0 O0 H O->Am K H O L->J.ok L=true ->
 (∀d,J.items[i]?=some d->Jt.go i H/\∀x H',Jt.yld i H x H'->Ah H O H' O/\Am K H' O L/\Is K H' O x d)/\(J.items.length<=i->Jt.stop i H)
theorem Kt.mono{K:AM}{H0 H1:Hp}{O0 O1:List Addr}{Jt:It}{J:MH}(st:Ah H0 O0 H1 O1)(h:Kt K H0 O0 Jt J):Kt K H1 O1 Jt J:=λi H O L s r o=>h i H O L (st.trans s) r o
def AEK(K:AM)(f:IF):TI:=λσ H R=>∃O ρ L J L',DS K H O σ ρ L/\f ρ L=some (J,L')/\∀Jt H' O',Ah H O H' O'->Am K H' O' L'->Kt K H' O' Jt J->R Jt H'
def Ey(X:Cx)(tg iter:Expr)(f:IF):Prop:=PI X tg iter (AEK X.K f)
theorem PI.weaken{X:Cx}{tg e:Expr}{t t':TI}(h:PI X tg e t)(i:∀σ H R,t' σ H R->t σ H R):PI X tg e t':=λpins s σ H R I q=>h pins s σ H R I (i _ _ _ q)
def Dy(ok:AD->Bool)(g:GF)(body:SF):List D->Fm->AD->Option Fi
 |[],ρ,L=>if ok L=true then some (.next ρ L) else none
 |x::xs,ρ,L=>if ok L=true then (g x ρ).bind λρ1=>(body ρ1 L).bind λout=>match out with
   |.next ρ2 L2=>Dy ok g body xs ρ2 L2
   |.cont ρ2 L2=>Dy ok g body xs ρ2 L2
   |.brk ρ2 L2=>some (.next ρ2 L2)
   |.ret d L2=>some (.ret d L2)
  else none
def CG(fi:IF)(g:GF)(body:SF):SF:=λρ L=>(fi ρ L).bind λx=>Dy x.1.ok g body x.1.items ρ x.2
theorem Cj{X:Cx}{tg iter:Expr}{body:List Stmt}{fi:IF}{g:GF}{fb:SF}{pos:Pos}(hp:PassesOwn (model X.prog X.w) X.A X.env X.xe)(hc:X.calm=true)(hi:Ey X tg iter fi)(hg:JH X tg g)(hb:FM X body fb)
  (hs:∀x,foldedSetIterable iter X.env x=pure x:=by intro _;rfl):Du X (.For tg iter body [] pos) (CG fi g fb) :=
 PS.weaken (ACG hp hc hi hg hb hs) λD σ H z3_=>by
  obtain⟨O,ρ,L,out,r,e,k⟩:=z3_;unfold CG at e
  cases e1:fi ρ L with
  |none=>rw[e1] at e;cases e
  |some p =>
   rw[e1] at e;obtain⟨⟨items,ok⟩,L1⟩:=p;simp only[AS] at e;refine⟨O,ρ,L,_,_,r,e1,λJt H1 O1 st1 rs1 it=>?_⟩
   refine⟨λi m σ H=>m=items.length-i/\i<=items.length/\∃O ρ L,Ah H1 O1 H O/\DS X.K H O σ ρ L/\Dy ok g fb (items.drop i) ρ L=some out/\JE X.K H O D out,
    ⟨items.length,rfl,FS _,O1,ρ,L1,.refl _ _,r.to st1 rs1,e,k.mono st1⟩,?_⟩
   rintro i m σ' H' ⟨rfl,hi',O',ρ',L',st',r',el,k'⟩
   by_cases hlt:i<items.length
   .have ed:items.drop i=items[i]::items.drop (i+1):=AJy hlt;rw[ed] at el;simp only[Dy] at el;split at el
    .rename_i hok;obtain⟨h1,_⟩:=it i H' O' L' st' r'.s hok;obtain⟨go,yl⟩:=h1 items[i] (by simp[hlt])
     refine .inr ⟨go,λσ2 H2=>∃m',m'<items.length-i/\m'=items.length-(i+1)/\i+1<=items.length/\∃O ρ L,Ah H1 O1 H2 O/\DS X.K H2 O σ2 ρ L/\Dy ok g fb (items.drop (i+1)) ρ L=some out/\JE X.K H2 O D out,
      λσ2 H2 h=>h,λx H2 y=>?_⟩
     obtain⟨st2,rs2,is2⟩:=yl x H2 y
     cases eg:g items[i] ρ' with
     |none=>rw[eg] at el;cases el
     |some ρ1 =>
      rw[eg] at el;simp only[AS] at el;refine⟨O',ρ',L',_,ρ1,r'.to st2 rs2,is2,eg,λσ3 r3=>?_⟩
      cases eb:fb ρ1 L' with
      |none=>rw[eb] at el;cases el
      |some o1 =>
       rw[eb] at el;simp only[AS] at el;refine⟨O',ρ1,L',o1,r3,eb,?_⟩
       cases o1 with
       |next ρ2 L2=>exact λσ4 H4 O4 st4 r4=>⟨items.length-(i+1),by omega,rfl,hlt,O4,ρ2,L2,(st'.trans st2).trans st4,r4,el,(k'.mono st2).mono st4⟩
       |cont ρ2 L2=>exact λσ4 H4 O4 st4 r4=>⟨items.length-(i+1),by omega,rfl,hlt,O4,ρ2,L2,(st'.trans st2).trans st4,r4,el,(k'.mono st2).mono st4⟩
       |brk ρ2 L2=>cases el;exact λσ4 H4 O4 st4 r4=>k' σ4 H4 O4 (st2.trans st4) r4
       |ret d L2=>cases el;exact λv H4 O4 st4 r4 i4=>k' v H4 O4 (st2.trans st4) r4 i4
    .cases el
   .have hi2:i=items.length:=by omega
    subst hi2;rw[AJl] at el;simp only[Dy] at el;split at el
    .rename_i hok;cases el;obtain⟨_,h2⟩:=it _ H' O' L' st' r'.s hok;exact .inl ⟨h2 (Ai _),k' σ' H' O' (.refl _ _) r'⟩
    .cases el
def Rs(f:EF):IF:=λρ L=>(f ρ L).bind λx=>match x.1 with|.tup xs=>some (⟨xs,λ_=>true⟩,x.2)|_=>none
def Nn(f:EF):IF:=λρ L=>(f ρ L).bind λx=>match x.1 with
 |.fz xs=>some (⟨xs,λ_=>true⟩,x.2)
 |.ref k=>match x.2[k]? with|some (.lst xs)=>some (⟨xs,λL'=>decide (L'[k]?=some (.lst xs))⟩,x.2)|_=>none
 |_=>none
def FC(lo:Int)(n:Nat):List D:=(List.range n).map λ(i:Nat)=>.int (lo+((i:Nat):Int))
def Hf(f:AF):IF:=λρ L=>(f ρ L).bind λx=>match x.1 with
 |[.int j]=>if j<=4611686018427387903/\-4611686018427387904<=j then some (⟨FC 0 j.toNat,λ_=>true⟩,x.2) else none
 |_=>none
def Lb(f:AF):IF:=λρ L=>(f ρ L).bind λx=>match x.1 with
 |[.int i,.int j]=>if (i<=4611686018427387903/\-4611686018427387904<=i)/\(j<=4611686018427387903/\-4611686018427387904<=j) then some (⟨FC i (j-i).toNat,λ_=>true⟩,x.2) else none
 |_=>none
section
variable {X:Cx}{tg l:Expr}{f:EF}
theorem VC(lo:Int)(n i:Nat):(FC lo n)[i]?=if i<n then some (.int (lo+(i:Int))) else none:=by
 unfold FC;rw[BD]
 by_cases h:i<n
 .rw[if_pos h];simp[AJE h]
 .rw[if_neg h];simp;omega
theorem Ht(lo:Int)(n:Nat):(FC lo n).length=n:=by simp[FC]
theorem Wd{K:AM}{H0:Hp}{O0:List Addr}{lo:Int}{n:Nat}:Kt K H0 O0 (MG lo n) ⟨FC lo n,λ_=>true⟩:=by
 intro i H O L st rs _;refine⟨λd hd=>?_,λh=>by rw[Ht] at h;exact h⟩;simp only at hd;rw[VC] at hd;split at hd
 .rename_i hlt;cases hd;refine⟨hlt,λx H' y=>?_⟩;obtain⟨e,y⟩:=y;subst e y;exact⟨.refl _ _,rs,.int _⟩
 .cases hd
theorem ACR(hl:AZ X l f):Ey X tg l (Rs f):=PI.weaken (ACX hl) λσ H R z3_=>by
 obtain⟨O,ρ,L,J,L',r,e,k⟩:=z3_;unfold Rs at e
 cases e1:f ρ L with
 |none=>rw[e1] at e;cases e
 |some p =>
  rw[e1] at e;obtain⟨d,L1⟩:=p
  cases d <;> simp only[AS] at e <;> try (cases e;done)
  cases e;refine⟨O,ρ,L,_,_,r,e1,λv H1 O1 st rs is=>?_⟩
  cases is with
  |@tup a vs ds hq il =>
   refine⟨a,rfl,⟨vs,hq⟩,k _ _ _ st rs λi H2 O2 L2 st2 rs2 _=>?_⟩;have hq2:=Bp.grow st2.1 hq;have il2:=il.mono st2;refine⟨λd hd=>?_,λh=>⟨vs,hq2,by rw[il.length];exact h⟩⟩;obtain⟨v,hv,iv⟩:=il2.get hd;refine⟨⟨vs,v,hq2,hv⟩,λx H' y=>?_⟩;obtain⟨e,y⟩:=y;subst e;have:=y vs hq2;rw[hv] at this;cases this;exact⟨.refl _ _,rs2,iv⟩
theorem VX(hl:AZ X l f):Ey X tg l (Nn f):=PI.weaken (ACb hl) λσ H R z3_=>by
 obtain⟨O,ρ,L,J,L',r,e,k⟩:=z3_;unfold Nn at e
 cases e1:f ρ L with
 |none=>rw[e1] at e;cases e
 |some p =>
  rw[e1] at e;obtain⟨d,L1⟩:=p
  cases d <;> simp only[AS] at e <;> try (cases e;done)
  .cases e;refine⟨O,ρ,L,_,_,r,e1,λv H1 O1 st rs is=>?_⟩
   cases is with
   |@fz a vs ds hq il =>
    refine⟨a,rfl,⟨vs,hq.sql⟩,k _ _ _ st rs λi H2 O2 L2 st2 rs2 _=>?_⟩;have hq2:=(SqF.grow st2.1 hq).sql;have il2:=il.mono st2;refine⟨λd hd=>?_,λh=>⟨vs,hq2,by rw[il.length];exact h⟩⟩;obtain⟨v,hv,iv⟩:=il2.get hd;refine⟨⟨vs,v,hq2,hv⟩,λx H' y=>?_⟩;obtain⟨e,y⟩:=y;subst e;have:=y vs hq2;rw[hv] at this;cases this;exact⟨.refl _ _,rs2,iv⟩
  .rename_i kk
   cases e2:L1[kk]? with
   |none=>rw[e2] at e;cases e
   |some o =>
    rw[e2] at e
    cases o with
    |dk _=>cases e
    |ins _ _=>cases e
    |dt _ _=>cases e
    |exn _=>cases e
    |lst xs =>
     cases e;refine⟨O,ρ,L,_,_,r,e1,λv H1 O1 st rs is=>?_⟩
     cases is with
     |@ref _ a hk =>
      obtain⟨vs,hv,il⟩:=rs.ob _ _ _ hk e2;refine⟨a,rfl,⟨vs,BY.of hv⟩,k _ _ _ st rs λi H2 O2 L2 st2 rs2 hok=>?_⟩;have hk2:=Dr st2.2 hk;obtain⟨ws,hw,iw⟩:=rs2.ob _ _ _ hk2 (of_decide_eq_true hok);refine⟨λd hd=>?_,λh=>⟨ws,BY.of hw,by rw[iw.length];exact h⟩⟩;obtain⟨v,hv',iv⟩:=iw.get hd;refine⟨⟨ws,v,BY.of hw,hv'⟩,λx H' y=>?_⟩;obtain⟨e,y⟩:=y;subst e;have:=y ws (BY.of hw);rw[hv'] at this;cases this;exact⟨.refl _ _,rs2,iv⟩
theorem KQ{a:Expr}{fa:AF}{p pos:Pos}(hm:X.mg "range"=none)(ha:Ed X [a] fa)(hg:Gl X "range":=by rfl)(hs:starEach [a] X.env=[(false,eval a X.env)]:=by rfl):Ey X tg (.Call (.Name "range" p) [a] [] pos) (Hf fa) :=
 PI.weaken (ACa hg hm ha hs) λσ H R z3_=>by
  obtain⟨O,ρ,L,J,L',r,e,k⟩:=z3_;unfold Hf at e
  cases e1:fa ρ L with
  |none=>rw[e1] at e;cases e
  |some q =>
   rw[e1] at e;obtain⟨ds,L1⟩:=q;simp only[AS] at e;refine⟨O,ρ,L,ds,L1,r,e1,λvs H1 O1 st rs is=>?_⟩;split at e
   .rename_i j;split at e
    .rename_i hj;cases e
     cases is with
     |cons i1 i2 =>
      cases i1;cases i2;exact⟨j,rfl,by omega,by omega,k _ _ _ st rs Wd⟩
    .cases e
   .cases e
theorem ACT{a b:Expr}{fa:AF}{p pos:Pos}(hm:X.mg "range"=none)(ha:Ed X [a,b] fa)(hg:Gl X "range":=by rfl)(hs:starEach [a,b] X.env=[(false,eval a X.env),(false,eval b X.env)]:=by rfl)(hs2:starEach [b] X.env=[(false,eval b X.env)]:=by rfl):Ey X tg (.Call (.Name "range" p) [a,b] [] pos) (Lb fa) :=
 PI.weaken (ACZ hg hm ha hs hs2) λσ H R z3_=>by
  obtain⟨O,ρ,L,J,L',r,e,k⟩:=z3_;unfold Lb at e
  cases e1:fa ρ L with
  |none=>rw[e1] at e;cases e
  |some q =>
   rw[e1] at e;obtain⟨ds,L1⟩:=q;simp only[AS] at e;refine⟨O,ρ,L,ds,L1,r,e1,λvs H1 O1 st rs is=>?_⟩;split at e
   .rename_i i j;split at e
    .rename_i hj;cases e
     cases is with
     |cons i1 i2 =>
      cases i1
      cases i2 with
      |cons i3 i4 =>
       cases i3;cases i4;exact⟨i,j,rfl,⟨by omega,by omega,by omega,by omega⟩,k _ _ _ st rs Wd⟩
    .cases e
   .cases e
end
theorem AFJ{names:List (Str×NameKind)}{env:Env}:∀(cs:List (Str×Addr)),(∀y∈names,y.2=.free->∃c,env.cells.lookup y.1=some c) ->
  ∃cl:List (Str×Addr),(forIn names cs (λ(x:Str×NameKind) (r:List (Str×Addr))=>match x with
   |(name,kind)=>if (kind == NameKind.free)=true then do let a <-cellOf env name;pure (ForInStep.yield ((name,a)::r)) else pure (ForInStep.yield r)):Sem (List (Str×Addr)))=pure cl /\
   (∀x,(x,NameKind.free)∈names->cl.lookup x=env.cells.lookup x)/\(∀x c,cl.lookup x=some c->env.cells.lookup x=some c\/cs.lookup x=some c)/\(∀x,(cs.lookup x=env.cells.lookup x)->cl.lookup x=env.cells.lookup x):=by
 induction names with
 |nil=>intro cs _;exact⟨cs,rfl,λx h=>by simp at h,λx c h=>.inr h,λx h=>h⟩
 |cons y r ih =>
  intro cs h;obtain⟨n,kd⟩:=y;rw[AJH]
  by_cases hk:kd=.free
  .subst hk;obtain⟨c,hc⟩:=h (n,.free) BN rfl;obtain⟨cl,e1,e2,e3,e4⟩:=ih ((n,c)::cs) λy hy=>h y (BK _ hy)
   have here:∀x,((n,c)::cs).lookup x=if x == n then some c else cs.lookup x:=λx=>by
    cases hx:x == n <;> simp[GK,hx]
   refine⟨cl,?_,λx hx=>?_,λx c' hx=>?_,λx hx=>e4 x ?_⟩
   .simp only[cellOf,hc];rw[<-e1];rfl
   .rcases Ac.mp hx with z|z
    .injection z with z1 _
     subst z1;refine e4 x ?_;rw[here];simp[hc]
    .exact e2 x z
   .rcases e3 x c' hx with z|z
    .exact .inl z
    .rw[here] at z
     cases hxn:x == n with
     |true =>
      rw[hxn] at z;simp at z;subst z;have:x=n:=by simpa using hxn
      subst this;exact .inl hc
     |false=>rw[hxn] at z;exact .inr z
   .rw[here]
    cases hxn:x == n with
    |true =>
     have:x=n:=by simpa using hxn
     subst this;simp[hc]
    |false=>simpa using hx
  .have hb:(kd == NameKind.free)=false:=by simpa using hk
   obtain⟨cl,e1,e2,e3,e4⟩:=ih cs λy hy=>h y (BK _ hy);refine⟨cl,?_,λx hx=>?_,e3,e4⟩
   .simp only[hb];rw[<-e1];rfl
   .rcases Ac.mp hx with z|z
    .injection z with _ z2
     exact absurd z2.symm hk
    .exact e2 x z
theorem AFy{scope:Scope}{env:Env}(h:∀y∈scope.names,y.2=.free->∃c,env.cells.lookup y.1=some c) :
  ∃cl,closureFor scope env=pure cl/\(∀x,(x,NameKind.free)∈scope.names->cl.lookup x=env.cells.lookup x)/\(∀x c,cl.lookup x=some c->env.cells.lookup x=some c):=by
 obtain⟨cl,e1,e2,e3,_⟩:=AFJ (names:=scope.names) (env:=env) [] h;refine⟨cl,?_,e2,λx c hx=>?_⟩
 .unfold closureFor;simp only[bind_pure]
  first
   |exact e1
   |(rw[e1];rfl)
 .rcases e3 x c hx with z|z
  .exact z
  .simp at z
section
variable {prog:Program}{w:World}{A:Around}{R:Result->Shared->Prop}{s:Shared}
theorem AFw{elt target iter:Expr}{ifs:List Expr}{scope:Scope}{pos:Pos}{it acc:Value}{env:Env}(I:Nat->Shared->Prop)
  (turn:∀n s,I n s->wpAny (model prog w) A (pyNext it) (λr s₁=>match r with
   |none=>R (.ok .next) s₁
   |some v=>wpAny (model prog w) A (letOwnedTupleGo target it v) (λ_ s₁'=>wpAny (model prog w) A (assign target env v) (λ_ s₂ =>
     wpAny (model prog w) A (forIn ifs true λc r=>if r=true then do let ok <-isTrue c env (eval c env);pure (ForInStep.yield ok) else pure (ForInStep.yield r)) (λok s₃ =>
      if ok=true then wpAny (model prog w) A (eval elt env) (λx s₄ =>
       wpAny (model prog w) A (call (.builtin "list.append") [acc,x]) (λ_ s₅=>∃m,m<n/\I m s₅) (λ_ _=>False) s₄) (λ_ _=>False) s₃
      else ∃m,m<n/\I m s₃) (λ_ _=>False) s₂) (λ_ _=>False) s₁') (λ_ _=>False) s₁) (λ_ _=>False) s)
  (n:Nat) (h:I n s) :
  codeAny (model prog w) A (.compLoop (.ListComp elt [⟨target,iter,ifs,0⟩] scope pos) 0 it acc env) R s:=by
 refine codeAny_loop rfl I (λn s hI=>?_) n h
 show wpAny _ A ((compTurn (.ListComp elt [⟨target,iter,ifs,0⟩] scope pos) 0 it acc env).onRaise (λx=>do noteFrame x env;theTreesLotGoes x)) _ _ s
 refine wpAny_noted ?_;rw[compTurn_list];refine AH (wpAny_standAt (AH (EM (turn n s hI) (λr s₁ h₁=>?_) λ_ _ h'=>h'.elim)))
 cases r with
 |none=>exact AR h₁
 |some v =>
  refine AH (EM h₁ (λ_ s₁' h₁'=>?_) λ_ _ h'=>h'.elim);refine AH (EM h₁' (λ_ s₂ h₂=>AH (EM h₂ (λok s₃ h₃=>?_) λ_ _ h'=>h'.elim)) λ_ _ h'=>h'.elim)
  cases ok with
  |false=>exact AR ⟨rfl,h₃⟩
  |true =>
   exact AH (AH (EM h₃ (λx s₄ h₄=>AH (EM h₄ (λ_ s₅ h₅=>AR (AR ⟨rfl,h₅⟩)) λ_ _ h'=>h'.elim)) λ_ _ h'=>h'.elim))
end
def EH(X:Cx)(N':List Str)(scope:Scope)(cl:List (Str×Addr))(C:Addr)(s:Shared)(H:Hp)(fp:List Addr)(pins:List (Addr×Obj)):Cx where
 prog:=X.prog
 w:=X.w
 K:=X.K
 mg:=X.mg
 base:=X.base
 A:=X.A
 N:=N'
 s₀:=s
 H₀:=H
 env:=compEnvC scope cl C X.env
 outer:=X.stack
 stack:=X.stack
 ex:=fp
 fn:=λ_=>false
 calm:=X.calm
 pn:=X.pn++pins
 xe:=λ_ _=>False
def Kp(X:Cx)(ifs:List Expr)(c:TF):Prop :=
 ∀(pins:List (Addr×Obj)) (s:Shared) (σ:L2.St) (H:Hp) (Q:Bool->Hp->Prop),AI X pins σ H s->Nf X.K c σ H Q ->
  wpAny (model X.prog X.w) X.A (forIn ifs true λc r=>if r=true then do let ok <-isTrue c X.env (eval c X.env);pure (ForInStep.yield ok) else pure (ForInStep.yield r)) (TP X pins σ Q) X.xe s
def EE:TF:=λ_ L=>some (true,L)
theorem FW{X:Cx}:Kp X [] EE:=λpins s σ H Q I z6_=>by
 obtain⟨O,ρ,L,b,L',r,e,k⟩:=z6_;cases e;exact wpAny_tests_nil ⟨H,I,k H O (.refl _ _) r.s⟩
theorem RD{X:Cx}{c:Expr}{f:TF}(h:Ex X c f):Kp X [c] f:=λpins s σ H Q I q=>wpAny_tests_one (h pins s σ H Q I q)
def Db(ok:AD->Bool)(g:GF)(c:TF)(elt:EF)(k:Nat):List D->Fm->AD->Option AD
 |[],ρ,L=>if ok L=true then some L else none
 |x::xs,ρ,L=>if ok L=true then (g x ρ).bind λρ1=>(c ρ1 L).bind λp=>if p.1=true then (elt ρ1 p.2).bind λq=>match q.2[k]? with
    |some (.lst ys)=>if ys.length<16777216 then Db ok g c elt k xs ρ1 (q.2.set k (.lst (ys++[q.1]))) else none
    |_=>none
   else Db ok g c elt k xs ρ1 p.2
  else none
def IJ(n:Nat)(idx:List Nat)(ρ:Fm):Fm:=AIl n none++idx.map λj=>(ρ[j]?).join
def Dc(fi:IF)(n:Nat)(idx:List Nat)(g:GF)(c:TF)(elt:EF):EF:=λρ L=>(fi ρ L).bind λx =>
 (Db x.1.ok g c elt x.2.length x.1.items (IJ n idx ρ) (x.2++[.lst []])).bind λL2=>some (.ref x.2.length,L2)
theorem RB{env:Env}:∀{names:List (Str×NameKind)} {x:Str} {k:NameKind},
  (names.map λ(n,k)=>if (k == NameKind.free&&env.scope.kind == .function&&env.kindOf n == some .cell) then (n,NameKind.cell) else (n,k)).lookup x=some k ->
  ∃k',(x,k')∈names/\(k=k'\/(k=.cell/\k'=.free))
 |[],_,_,h=>by simp at h
 |(n,k0)::r,x,k,h=>by
  rw[Ap] at h;dsimp only at h;have ih:=@RB env r x k
  by_cases hc:(k0 == NameKind.free&&env.scope.kind == .function&&env.kindOf n == some .cell)=true
  .rw[if_pos hc] at h
   cases hx:x == n with
   |true =>
    simp only[AJm,hx] at h;cases h;have e:x=n:=by simpa using hx
    subst e
    have hk:k0=.free:=by simp only[CA] at hc;simpa using hc.1.1
    subst hk;exact⟨.free,BN,.inr ⟨rfl,rfl⟩⟩
   |false =>
    simp only[AJm,hx] at h;obtain⟨k',a,b⟩:=ih h;exact⟨k',BK _ a,b⟩
  .rw[if_neg hc] at h
   cases hx:x == n with
   |true =>
    simp only[AJm,hx] at h;cases h;have e:x=n:=by simpa using hx
    subst e;exact⟨_,BN,.inl rfl⟩
   |false =>
    simp only[AJm,hx] at h;obtain⟨k',a,b⟩:=ih h;exact⟨k',BK _ a,b⟩
section
variable {X:Cx}{elt tg iter:Expr}{ifs:List Expr}{scope:Scope}{pos pos':Pos}{N':List Str}{n:Nat}{idx:List Nat}{fi:IF}{g:GF}{c:TF}{fe:EF}
structure Od (X:Cx) (scope:Scope) (N':List Str) (n:Nat) (idx:List Nat):Prop where
 kind:scope.kind=.function
 cell:∀y∈scope.names,y.2≠.cell
 names:∀y∈scope.names,y.2=.local->scope.names.lookup y.1=some .local
 free:∀y∈scope.names,y.2=.free->X.env.kindOf y.1=some .cell\/X.env.kindOf y.1=some .free
 len:N'.length=n+idx.length
 idx:∀(j:Nat) (i:Nat),idx[j]?=some i->∃x,N'[n+j]?=some x/\X.N[i]?=some x/\(x,NameKind.free)∈scope.names/\∀k,(x,k)∈scope.names->k=.free
theorem Xy(hc:X.calm=true)(hi:Ey X tg iter fi)(S:Od X scope N' n idx)
  (hbody:∀cl C s3 H3 fp pins,JH (EH X N' scope cl C s3 H3 fp pins) tg g/\Kp (EH X N' scope cl C s3 H3 fp pins) ifs c/\AZ (EH X N' scope cl C s3 H3 fp pins) elt fe)
  (hs:∀x,foldedSetIterable iter X.env x=pure x)
  {pins:List (Addr×Obj)} {s:Shared} {σ:L2.St} {H:Hp} {use:Option (Value->Sem Unit)} {Q':AKP} (I:AI X pins σ H s) {O:List Addr} {ρ:Fm} {L L1 L9:AD} {items:List D} {ok:AD->Bool}
  (r:DS X.K H O σ ρ L) (e1:fi ρ L=some (⟨items,ok⟩,L1)) (e2:Db ok g c fe L1.length items (IJ n idx ρ) (L1++[.lst []])=some L9)
  (fin:∀(C D:Addr) (s':Shared) (H':Hp) (O':List Addr) (m:AKO),AI X pins σ H' s'->s'.heap.Ns C m->H' C=none->C≠X.env.locals->X.s₀.heap.objs.size<=C->(∀x c,X.env.cells.lookup x=some c->c≠C)->(∀p∈X.pn++pins,p.1≠C) ->
   Ah H O H' O'->Am X.K H' O' L9->O'[L1.length]?=some D->compPost (model X.prog X.w) X.A X.xe use Q' (.ref D) C (.ok .next) s') :
  wpAny (model X.prog X.w) X.A (comprehension (.ListComp elt [⟨tg,iter,ifs,0⟩] scope pos) scope X.env pos' (newList []) false (eval iter X.env) use) Q' X.xe s:=by
 obtain⟨cl,hclos,clget,clsub⟩:=AFy (scope:=scope) (env:=X.env) λy hy hk=>I.ok.has _ (S.free y hy hk);refine wpAny_comprehension_free rfl hs hclos S.kind S.names ?_;refine Ad (hi pins s σ H (λJt H1=>∃O1,Ah H O H1 O1/\Am X.K H1 O1 L1/\Kt X.K H1 O1 Jt ⟨items,ok⟩) I ⟨O,ρ,L,_,_,r,e1,λJt H1 O1 st rs it=>⟨O1,st,rs,it⟩⟩) λv s1 h1=>Ad h1 λitv s2 h2=>?_;obtain⟨it,fp,tn,J,H2,rfl,I2,T,st0,f2,O1,stp,rs1,itis⟩:=h2;refine AKH (wpAny_newFunctionEnv S.cell (by intro y hy;simp at hy) (λh₁ hns₁ hsb₁=>?_) S.kind);dsimp only at hns₁ hsb₁ ⊢
 -- the list
 have I3:AI X pins σ (upd H2 s2.heap.objs.size (.lst [])) {s2 with heap:=s2.heap.push {cls:=.type "list",dict:=none,data:=.seq ([]:List Value).toArray},toks:=s2.toks} :=
  I2.laid (t':=s2.toks) (λb o e=>Heap.get?_push_of_some _ e) (Ai _) ⟨by simp,[],0,.nil,Heap.get?_push_size _ rfl⟩
 have hf2:H2 s2.heap.objs.size=none:=I2.hok.fresh (Ai _);have rs3:Am X.K (upd H2 s2.heap.objs.size (.lst [])) (O1++[s2.heap.objs.size]) (L1++[.lst []]):=rs1.new hf2 ⟨[],CI,.nil⟩;have st3:Ah H2 O1 (upd H2 s2.heap.objs.size (.lst [])) (O1++[s2.heap.objs.size]):=⟨.new hf2,BB _ _⟩
 have fpne:∀b∈fp,b≠s2.heap.objs.size:=λb hb z=>by
  obtain⟨o,e,_⟩:=T.obj 0 _ st0 b hb;exact absurd (Heap.lt_size e) (by rw[z];exact HR _)
 have f3:∀b∈fp,HP X pins (upd H2 s2.heap.objs.size (.lst [])) b:=λb hb=>⟨by rw[BM (fpne b hb)];exact(f2 b hb).1,(f2 b hb).2⟩;generalize hH2:s2.heap.push {cls:=.type "list",dict:=none,data:=.seq ([]:List Value).toArray}=hp3 at hns₁ hsb₁ I3 ⊢;have hD0:O1.length=L1.length:=rs1.len;generalize hDD:s2.heap.objs.size=D at *;generalize hH3:upd H2 D (.lst [])=H3 at *;have hDs:(O1++[D])[L1.length]?=some D:=by rw[<-hD0];simp
 have tn3:tn 0 hp3:=T.keep _ _ _ st0 λb hb o e=>by rw[<-hH2];exact Heap.get?_push_of_some _ e
 -- the block's frame
 generalize hC:hp3.objs.size=C at *;have kept:∀b o,hp3.get? b=some o->h₁.get? b=some o:=λb o e=>hsb₁.extBut b o (by rw[<-hC];exact Bi (Heap.lt_size e)) (Heap.get?_push_of_some _ e);have tn4:tn 0 h₁:=T.keep _ _ _ tn3 λb hb o e=>kept b o e
 let s3:Shared:={s2 with heap:=hp3,toks:=s2.toks}
 have Cfresh:∀(b:Addr) (o:Obj),hp3.get? b=some o->b≠C:=λb o e=>by rw[<-hC];exact Bi (Heap.lt_size e)
 have CL:C≠X.env.locals:=λz=>by
  have:=I3.lt;rw[<-z,<-hC] at this;exact HR _ this
 have Ccell:∀x c,X.env.cells.lookup x=some c->c≠C:=λx c e=>by
  obtain⟨v,o,ho,_⟩:=I3.cell x c e;exact Cfresh c o ho
 have Cpin:∀p∈X.pn++pins,p.1≠C:=λp hp=>Cfresh _ _ (I3.pin p hp).1;have C0:X.s₀.heap.objs.size<=C:=by rw[<-hC];exact I3.sz
 have frsub:∀b∈CD X.stack,b=X.env.locals\/b∈X.fs:=λb hb=>Ac.mp (I3.stkSub b hb)
 have kindC:∀x k,(relabel scope X.env).names.lookup x=some k->(k=.cell\/k=.free)->(x,NameKind.free)∈scope.names:=λx k e hk=>by
  obtain⟨k',a,b⟩:=RB e;rcases b with rfl|⟨_,rfl⟩
  .rcases hk with rfl|rfl
   .exact absurd rfl (S.cell _ a)
   .exact a
  .exact a
 have okX:(EH X N' scope cl C s3 H3 fp pins).Ok:=by
  refine⟨I3.ok.mod,S.kind,I3.ok.glob,I3.ok.blt,AJB hC,λx y d h1 h2=>I3.ok.inj x y d (clsub x d h1) (clsub y d h2),λx hx=>?_,λx d h1=>(nomatch h1),I3.ok.hd,I3.ok.frames,.inl rfl,
   λb hb=>⟨λz=>?_,λx d e=>(f3 b hb).2.2.2.2.1 x d (clsub x d e)⟩,I3.bs,Ch I3.ok.bsz I3.sz,λb o e hb=>?_,λb hb hz=>?_,I3.stack,I3.stkFree⟩
  .have hx':(relabel scope X.env).names.lookup x=some .cell\/(relabel scope X.env).names.lookup x=some .free:=hx
   have hm:(x,NameKind.free)∈scope.names:=by
    rcases hx' with h|h
    .exact kindC x _ h (.inl rfl)
    .exact kindC x _ h (.inr rfl)
   obtain⟨d,hd⟩:=I3.ok.has x (S.free _ hm rfl);exact⟨d,(clget x hm).trans hd⟩
  .obtain⟨o,e,_⟩:=T.obj 0 _ tn3 b hb;exact Cfresh b o e z
  .rcases(f3 b hb).2.2.2.1 with z|z
   .exact I3.ok.noex b o e z
   .have h1:=Cy (Heap.lt_size e) I3.ok.bsz;exact absurd (Cy h1 z) (HR _)
  .rcases frsub b hz with z|z
   .exact(f3 b hb).2.1 z
   .exact(f3 b hb).2.2.1 z
 -- its state
 have I4:AI (EH X N' scope cl C s3 H3 fp pins) [] (AIl n none++idx.map λj=>(σ[j]?).join) H3 {s3 with heap:=h₁,toks:=s2.toks+([]:List (Str×Value)).length}:=by
  refine⟨okX,rfl,I3.bare,Un.kept kept,⟨_,hns₁,λi x v h1 h2 h3=>?_⟩,λx d e=>?_,?_,λx d e=>I3.freeC x d (clsub x d e),λp hp=>?_,I3.hok.kept kept,?_⟩
  .by_cases hin:i<n
   .rw[FT (by simpa using hin)] at h2;rw[AJj,if_pos hin] at h2;cases h2
   .rw[AI0 (by simpa using hin)] at h2;simp only[AJu] at h2;rw[BD] at h2
    cases e:idx[i-n]? with
    |none=>rw[e] at h2;cases h2
    |some j =>
     rw[e] at h2;have h2':(σ[j]?).join=some v:=Option.some.inj h2
     have hσ:σ[j]?=some (some v):=by
      cases q:σ[j]? with
      |none=>rw[q] at h2';cases h2'
      |some o=>rw[q] at h2';cases o with
       |none=>cases h2'
       |some w=>cases h2';rfl
     obtain⟨y,a1,a2,a3,a4⟩:=S.idx _ _ e
     have hxy:y=x:=by
      have:N'[n+(i-n)]?=some x:=by rw[show n+(i-n)=i from by omega];exact h1
      rw[a1] at this;exact Option.some.inj this
     subst hxy;have hk:=S.free _ a3 rfl;obtain⟨m,hm,hl⟩:=I3.loc
     have hvis:JC X.env.scope y:=by
      rcases hk with z|z
      .exact .inr (.inl z)
      .exact .inr (.inr z)
     obtain⟨u,ru,lk⟩:=hl j y v a2 hσ hvis;refine⟨u,ru,.inr ⟨?_,?_⟩⟩
     .rcases h3 with z|z|z
      .obtain⟨k',b1,b2⟩:=RB (show(relabel scope X.env).names.lookup y=some .local from z);rcases b2 with b2|⟨b2,_⟩
       .have:=a4 _ b1;rw[<-b2] at this;cases this
       .cases b2
      .exact .inl z
      .exact .inr z
     .rcases lk with⟨z,_⟩|⟨_,d,hd,⟨o,ho,hdt⟩⟩
      .rcases hk with q|q <;> rw[q] at z <;> cases z
      .exact⟨d,(clget y a3).trans hd,o,kept d o ho,hdt⟩
  .obtain⟨v,o,ho,hdt⟩:=I3.cell x d (clsub x d e);exact⟨v,o,kept d o ho,hdt⟩
  .exact I3.hok.fresh (AJB hC)
  .have hp':p∈X.pn++pins:=by simpa[EH] using hp
   obtain⟨q1,q2,q3,q4,q5⟩:=I3.pin p hp';refine⟨kept _ _ q1,q2,Cpin p hp',λz=>?_,q5⟩;rcases frsub _ z with y|y
   .exact q3 y
   .exact q4 y
  .show _=N'.length;rw[S.len];simp
 have fp4:∀{H':Hp} {pl:List (Addr×Obj)},pl=[]->(∀b∈fp,H' b=none)->∀b∈fp,HP (EH X N' scope cl C s3 H3 fp pins) pl H' b:=λ{H' pl} hpl hn b hb=>by
  subst hpl;refine⟨hn b hb,λz=>(okX.exf b hb).1 z,okX.exfs b hb,.inl hb,λx d e=>(okX.exf b hb).2 x d e,λp hp=>?_⟩;have hp':p∈X.pn++pins:=by simpa[EH] using hp
  exact(f3 b hb).2.2.2.2.2 p hp'
 obtain⟨bg,bq,be⟩:=hbody cl C s3 H3 fp pins
 have fr4:Gf X.K H3 (O1++[D]) (AIl n none++idx.map λj=>(σ[j]?).join) (IJ n idx ρ):=by
  have fσ:=(r.f.mono stp).mono st3;refine⟨by simp[IJ],λi d hd=>?_⟩;unfold IJ at hd
  by_cases hin:i<n
  .rw[FT (by simpa using hin),AJj,if_pos hin] at hd;cases hd
  .rw[AI0 (by simpa using hin)] at hd ⊢;simp only[AJu] at hd ⊢;rw[BD] at hd ⊢
   cases e:idx[i-n]? with
   |none=>rw[e] at hd;cases hd
   |some j =>
    rw[e] at hd;have hd':(ρ[j]?).join=some d:=Option.some.inj hd
    have hρ:ρ[j]?=some (some d):=by
     cases q:ρ[j]? with
     |none=>rw[q] at hd';cases hd'
     |some o=>rw[q] at hd';cases o with
      |none=>cases hd'
      |some w=>cases hd';rfl
    obtain⟨v,hv,iv⟩:=fσ.at' j d hρ;exact⟨v,by simp[hv],iv⟩
 have loop:∀s₃:Shared,s₃={s3 with heap:=h₁,toks:=s2.toks+([]:List (Str×Value)).length} ->
   codeAny (model X.prog X.w) X.A (.compLoop (.ListComp elt [⟨tg,iter,ifs,0⟩] scope pos) 0 (.ref it) (.ref D) (compEnvC scope cl C X.env))
    (compPost (model X.prog X.w) X.A X.xe use Q' (.ref D) C) s₃:=by
  rintro s₃ rfl
  refine AFw (λm s'=>∃i σ' H' O' ρ' L',m=items.length-i/\i<=items.length/\AI (EH X N' scope cl C s3 H3 fp pins) [] σ' H' s'/\tn i s'.heap/\(∀b∈fp,H' b=none) /\
   Ah H3 (O1++[D]) H' O'/\DS X.K H' O' σ' ρ' L'/\Db ok g c fe L1.length (items.drop i) ρ' L'=some L9) ?_ items.length
   ⟨0,_,H3,O1++[D],IJ n idx ρ,L1++[.lst []],rfl,FS _,I4,tn4,λb hb=>(f3 b hb).1,.refl _ _,⟨rs3,fr4⟩,by rw[AJL];exact e2⟩
  rintro m s' ⟨i,σ',H',O',ρ',L',rfl,hi',I',tn',fr',st',r',el⟩
  by_cases hlt:i<items.length
  .have ed:items.drop i=items[i]::items.drop (i+1):=AJy hlt;rw[ed] at el;simp only[Db] at el;split at el
   .rename_i hok;obtain⟨q1,_⟩:=itis i H' O' L' (st3.trans st') r'.s hok;obtain⟨go,yl⟩:=q1 items[i] (by simp[hlt]);refine Ad (T.item (EH X N' scope cl C s3 H3 fp pins) rfl rfl rfl hc i [] s' σ' H' (λ_ _=>False) I' (fp4 rfl fr') tn' go) λrr s4 z2_=>?_;obtain⟨u,hr,h4⟩:=z2_;subst hr;refine Ad h4 λ_ s5 z2_=>?_;obtain⟨x,H5,I5,r5,y5,st5,fr5⟩:=z2_;obtain⟨stp5,rs5,is5⟩:=yl x H5 y5;have I5':=I5.pinned (fp4 rfl fr5) (T.obj _ _ st5)
    have back:∀{s7:Shared} {σ7:L2.St} {H7:Hp},AI (EH X N' scope cl C s3 H3 fp pins) ([]++LP fp s5.heap) σ7 H7 s7->tn (i+1) s7.heap/\(∀b∈fp,H7 b=none):=λ{s7 σ7 H7} I7=>by
     refine⟨T.keep _ _ _ st5 λb hb o e=>(I7.pin (b,o) (AIj _ (AIj _ (Nc hb e)))).1,λb hb=>?_⟩;obtain⟨o,e,d⟩:=T.obj _ _ st5 b hb;exact(I7.pin (b,o) (AIj _ (AIj _ (Nc hb e)))).2.1
    cases eg:g items[i] ρ' with
    |none=>rw[eg] at el;cases el
    |some ρ1 =>
     rw[eg] at el;simp only[AS] at el;refine Ad (bg _ s5 σ' H5 x u (λσ2 Ha=>Ha=H5/\DS X.K H5 O' σ2 ρ1 L') I5' r5 ⟨O',ρ',L',_,ρ1,r'.to stp5 rs5,is5,eg,λσ2 r2=>⟨rfl,r2⟩⟩) λ_ s6 z2_=>?_;obtain⟨σ6,H6,I6,q6a,q6⟩:=z2_;subst q6a
     cases ec:c ρ1 L' with
     |none=>rw[ec] at el;cases el
     |some pc =>
      rw[ec] at el;obtain⟨b1,L5⟩:=pc;simp only[AS] at el;refine Ad (bq _ s6 σ6 H6 (λb Hb=>b=b1/\∃Ob,Ah H6 O' Hb Ob/\Am X.K Hb Ob L5) I6 ⟨O',ρ1,L',b1,L5,q6,ec,λHb Ob st rs=>⟨rfl,Ob,st,rs⟩⟩) λokb s7 z2_=>?_;obtain⟨H7,I7,hb7,O7,st7,rs7⟩:=z2_;subst hb7
      cases okb with
      |false =>
       rw[if_neg (by simp)] at el;rw[if_neg (by simp)];obtain⟨b1,b2⟩:=back I7;exact⟨items.length-(i+1),by omega,i+1,σ6,H7,O7,ρ1,L5,rfl,hlt,I7.unpinned,b1,b2,(st'.trans stp5).trans st7,q6.to st7 rs7,el⟩
      |true =>
       rw[if_pos rfl] at el;rw[if_pos rfl]
       cases ee:fe ρ1 L5 with
       |none=>rw[ee] at el;cases el
       |some pe =>
        rw[ee] at el;obtain⟨de,L6⟩:=pe;simp only[AS] at el;refine Ad (be _ s7 σ6 H7 (λv Hb=>∃Ob,Ah H7 O7 Hb Ob/\Am X.K Hb Ob L6/\Is X.K Hb Ob v de) I7 ⟨O7,ρ1,L5,de,L6,q6.to st7 rs7,ee,λv Hb Ob st rs is=>⟨Ob,st,rs,is⟩⟩) λue s8 z2_=>?_;obtain⟨ve,H8,I8,r8,O8,st8,rs8,is8⟩:=z2_
        cases ek:L6[L1.length]? with
        |none=>rw[ek] at el;cases el
        |some oo =>
         rw[ek] at el
         cases oo with
         |dk _=>cases el
         |ins _ _=>cases el
         |dt _ _=>cases el
         |exn _=>cases el
         |lst ys =>
          simp only at el;split at el
          .rename_i hys;have stA:Ah H3 (O1++[D]) H8 O8:=((st'.trans stp5).trans st7).trans st8;have hD8:O8[L1.length]?=some D:=Dr stA.2 hDs;obtain⟨vs,hv,il⟩:=rs8.ob _ _ _ hD8 ek
           refine Ad (Vv (X:=EH X N' scope cl C s3 H3 fp pins) _ s8 σ6 H8 (.ref D) [ve] (.ref D) [ue] (λv Hb=>Hb=upd H8 D (.lst (vs++[ve]))) I8 rfl (.cons r8 .nil) ⟨D,vs,ve,rfl,rfl,hv,by rw[il.length,sizeLine_eq];exact hys,rfl⟩)
            λ_ s9 ⟨_,H9,I9,_,q9⟩=>?_
           subst q9;have stw:Ah H8 O8 (upd H8 D (.lst (vs++[ve]))) O8:=⟨.write hv id,As _⟩;obtain⟨b1,b2⟩:=back I9;refine⟨items.length-(i+1),by omega,i+1,σ6,_,O8,ρ1,_,rfl,hlt,I9.unpinned,b1,b2,stA.trans stw,⟨rs8.write (o':=.lst (ys++[de])) hD8 ⟨_,CI,(il.mono stw).append (.cons (is8.mono stw) .nil)⟩,((q6.f.mono st7).mono st8).mono stw⟩,el⟩
          .cases el
   .cases el
  .have hi2:i=items.length:=by omega
   subst hi2;rw[AJl] at el;simp only[Db] at el;split at el
   .rename_i hok;cases el;obtain⟨_,q2⟩:=itis _ H' O' _ (st3.trans st') r'.s hok;refine Ad (T.done (EH X N' scope cl C s3 H3 fp pins) rfl rfl rfl hc _ [] s' σ' H' (λ_ _=>False) I' (fp4 rfl fr') tn' (q2 (Ai _))) λrr s4 z2_=>?_;obtain⟨hr,I4'⟩:=z2_;subst hr;obtain⟨m,hm,_⟩:=I4'.loc;have hos:s4.os=s3.os:=I4'.os;have J:AI X pins σ H' s4:=I3.call' (s':=s4) (ch:=fp) hos I4'.base I4'.hok I4'.bare λb hb=>⟨(f3 b hb).2.2.2.1,(f3 b hb).2.1,(f3 b hb).2.2.2.2.1,(f3 b hb).2.2.2.2.2⟩;exact fin C D s4 H' O' m J hm I4'.free CL C0 Ccell Cpin ((stp.trans st3).trans st') r'.s (Dr st'.2 hDs)
   .cases el
 exact codeAny_compStart_list (loop _ rfl) (T.self X.A 0 _ _ _ tn4 (loop _ rfl))
theorem IN(hc:X.calm=true)(hi:Ey X tg iter fi)(S:Od X scope N' n idx)
  (hbody:∀cl C s3 H3 fp pins,JH (EH X N' scope cl C s3 H3 fp pins) tg g/\Kp (EH X N' scope cl C s3 H3 fp pins) ifs c/\AZ (EH X N' scope cl C s3 H3 fp pins) elt fe)
  (hs:∀x,foldedSetIterable iter X.env x=pure x:=by intro _;rfl):AZ X (.ListComp elt [⟨tg,iter,ifs,0⟩] scope pos) (Dc fi n idx g c fe):=by
 rintro pins s σ H Q I ⟨O,ρ,L,d,L',r,e,k⟩;unfold Dc at e
 cases e1:fi ρ L with
 |none=>rw[e1] at e;cases e
 |some p =>
  rw[e1] at e;obtain⟨⟨items,ok⟩,L1⟩:=p;simp only[AS] at e
  cases e2:Db ok g c fe L1.length items (IJ n idx ρ) (L1++[.lst []]) with
  |none=>rw[e2] at e;cases e
  |some L9 =>
   rw[e2] at e;cases e;rw[eval_ListComp];refine Xy hc hi S hbody hs I r e1 e2 λC D s' H' O' m J hn hfree hL h0 hcell hpin st rs hD=>?_;refine⟨m,hn,λh' sb=>?_⟩;exact⟨.ref D,H',J.turned (t':=s'.toks) (λb o hb e=>(sb.2 b hb).trans e) hfree hL (.inr h0) hcell hpin,rfl,k _ _ _ st rs (.ref hD)⟩
theorem Ie{i:Nat}{x:Str}{px:Pos}(hN:X.N.Nodup)(hc:X.calm=true)(hi:Ey X tg iter fi)(S:Od X scope N' n idx)
  (hbody:∀cl C s3 H3 fp pins,JH (EH X N' scope cl C s3 H3 fp pins) tg g/\Kp (EH X N' scope cl C s3 H3 fp pins) ifs c/\AZ (EH X N' scope cl C s3 H3 fp pins) elt fe)
  (hi2:X.N[i]?=some x:=by rfl) (hx:IW X.env.scope x:=by first|exact Or.inl rfl|exact Or.inr rfl)
  (hsw:swapsWith (.ListComp elt [⟨tg,iter,ifs,0⟩] scope pos) (some (.Name x px)) pos'.line X.env=pure true:=by rfl)
  (hf:X.fn x=true\/X.env.scope.names.lookup x=some .local:=by first|exact .inl rfl|exact .inr rfl)
  (hs:∀x,foldedSetIterable iter X.env x=pure x:=by intro _;rfl):Du X (.Assign [.Name x px] (.ListComp elt [⟨tg,iter,ifs,0⟩] scope pos) pos') (AY i (Dc fi n idx g c fe)):=by
 rintro pins s σ H E I ⟨O,ρ,L,out,r,e,k⟩;unfold AY Dc at e
 cases e1:fi ρ L with
 |none=>rw[e1] at e;cases e
 |some p =>
  rw[e1] at e;obtain⟨⟨items,ok⟩,L1⟩:=p;simp only[AS] at e
  cases e2:Db ok g c fe L1.length items (IJ n idx ρ) (L1++[.lst []]) with
  |none=>rw[e2] at e;cases e
  |some L9 =>
   rw[e2] at e;cases e;rw[exec_Assign_Name_used _ _ _ _ hsw];refine AH (wpAny_standAt (AH ?_))
   show wpAny _ X.A (do let _ <-comprehension (.ListComp elt [⟨tg,iter,ifs,0⟩] scope pos) scope X.env _ (newList []) false (eval iter X.env) (some (assign (.Name x px) X.env))) _ _ s
   refine AH (EM (Xy (use:=some (assign (.Name x px) X.env)) (Q':=λ_ s'=>SP X pins E .next s') hc hi S hbody hs I r e1 e2
    λC D s' H' O' m J hn hfree hL h0 hcell hpin st rs hD=>?_) (λ_ s' hq=>AR (AR hq)) λ_ _ e=>e)
   show wpAny _ X.A (assign (.Name x px) X.env (.ref D)) _ _ _;refine wpAny_assign_Name (Uk (v:=.ref D) J hN hi2 hx rfl (λs2 J2 z2_=>?_) hf);obtain⟨a,sb,ha⟩:=z2_
   have aC:C≠a:=by
    rcases ha with z|z
    .rw[z];exact hL
    .exact(hcell x a z).symm
   refine⟨m,hn.sameBut sb aC,λh' sb'=>?_⟩;exact⟨_,H',J2.turned (t':=s2.toks) (λb o hb e=>(sb'.2 b hb).trans e) hfree hL (.inr h0) hcell hpin,k _ _ _ st ⟨rs,(r.f.mono st).set (.ref hD) i⟩⟩
end
section
variable {X:Cx}{pins:List (Addr×Obj)}{σ:L2.St}{H:Hp}{s:Shared}{h':Heap}
theorem Mw{t':Nat}{fp:List Addr}{T:Addr}{o:HO}(I:AI X pins σ H s)(hf:∀b∈fp,HP X pins H b)(k:∀b o,b∉fp->s.heap.get? b=some o->h'.get? b=some o)(hT:s.heap.objs.size<=T)(nT:T∉fp)
  (there:∀b∈fp,∃o,h'.get? b=some o) (new:CP X.prog X.w (upd H T o) h' T o):AI X pins σ (upd H T o) {s with heap:=h',toks:=t'}:=by
 have fT:H T=none:=I.hok.fresh hT;have nit:∀b u,H b=some u->b∉fp:=λb u e z=>by rw[(hf b z).1] at e;cases e
 have old:∀b o,s.heap.get? b=some o->b≠T:=λb o e=>Bi (Cy (Heap.lt_size e) hT)
 refine I.step (g':=s.gens) (d':=s.drawn) (ch:=fp) (λb hb=>⟨(hf b hb).2.2.2.1,(hf b hb).2.1,(hf b hb).2.2.2.2.1,(hf b hb).2.2.2.2.2⟩) (λb o _ _ hc e _=>k b o hc e) (λb o _ _ hc e _=>⟨o.slots,k b o hc e⟩)
  (λb o _ e n=>by rw[BM (old b o e)];exact n) (λb o hc e=>⟨o,k b o hc e⟩) (λb xs e=>by rw[BM (DJ e fT)];exact e) (λb o u e=>by rw[BM (DJ e fT)];exact e)
  (λb ps e=>⟨#[],by rw[BM (DJ e fT),e];simp⟩) (λm hm=>?_) (λb u e=>?_) I.bare
 .obtain⟨o,es,ep,ho,r⟩:=hm;exact⟨o,es,ep,k _ o (λz=>(hf _ z).2.1 rfl) ho,r⟩
 .by_cases hb:b=T
  .subst hb;rw[CI] at e;cases e;exact new
  .rw[BM hb] at e;refine(I.hok b u e).stay (λc v hc q=>k c v ?_ q) (λc q=>by rw[BM (DJ q fT)];exact q) λc xs q=>by rw[BM (DJ q fT)];exact q
   rcases hc with z|z
   .rw[z];exact nit b u e
   .exact nit c _ z
end
def Yo(x:Str):It:=⟨λi _=>i<x.cps.size,λi H v H'=>H'=H/\∃c,x.cps[i]?=some c/\v=.str ⟨#[c]⟩,λi _=>x.cps.size<=i⟩
theorem UJ{P:Program}{w:World}{K:AM}{tg:Expr}(x:Str)(t:Tok)(it:Addr)(ty:String)(hty:["enumerate","zip","dict_itemiterator","dict_reverseitemiterator","odict_iterator","itertools.zip_longest","itertools.pairwise"].contains ty=false)
  (W:∀A':Around,A'.handled=none->Walks P w A' it [it] [it] x.cps.size (SignAt x) (λi h=>h.IsStrIter it ty x t i))
  (hself:∀(A:Around) (i:Nat) (s:Shared) (Q:AKP) (E:AKP),s.heap.IsStrIter it ty x t i->Q (.ref it) s->wpAny (model P w) A (pyIter (.ref it)) Q E s) :
  Hl P w K tg (Yo x) [it] it (λi h=>h.IsStrIter it ty x t i/\i<=x.cps.size) where
 mem:=by simp
 obj:=λi h st b hb=>by
  have e:b=it:=by simpa using hb
  subst e;obtain⟨⟨o,e,c,d⟩,_⟩:=st;exact⟨o,e,λv z=>by rw[d] at z;cases z⟩
 keep:=λi h h' st k=>⟨let ⟨o,ho,r⟩:=st.1;⟨o,k it (by simp) o ho,r⟩,st.2⟩
 item:=by intro X hP hw hK hc i pins s σ H E I hf st hg;subst hP hw hK;obtain⟨f0,f1,f2,f3,f4,f5⟩:=hf it (by simp);refine(W X.A (I.ok.hd hc)).item i s _ _ hg st.1 λv h' tk hv st' kk=>?_;obtain⟨c,u,hc',rfl⟩:=hv;have I1:AI X pins σ H {s with heap:=h',toks:=tk}:=I.turned (λb o hb e=>kk b o (by simpa using hb) e) f0 f1 f3 f4 f5;obtain⟨o,e,cc,d⟩:=id st';exact⟨_,rfl,Np (s:={s with heap:=h',toks:=tk}) e cc d hty ⟨.str ⟨#[c]⟩,H,I1,⟨u,rfl⟩,⟨rfl,c,hc',rfl⟩,⟨st',hg⟩,λb hb=>(hf b hb).1⟩⟩
 done:=by intro X hP hw hK hc i pins s σ H E I hf st hg;subst hP hw hK;obtain⟨f0,f1,f2,f3,f4,f5⟩:=hf it (by simp);have hi:i=x.cps.size:=Nat.le_antisymm st.2 hg;have st1:=st.1;rw[hi] at st1;exact(W X.A (I.ok.hd hc)).done s _ _ st1 λh' tk kk=>⟨rfl,I.turned (λb o hb e=>kk b o (by simpa using hb) e) f0 f1 f3 f4 f5⟩
 self:=λA i s Q E st h=>hself A i s Q E st.1 h
section
variable {X:Cx}{tg l:Expr}{f:EF}
def AEr(tl:TE):TI:=λσ H R=>tl σ H λv H1=>∃x,v=.str x/\R (Yo x) H1
theorem ACY{tl:TE}(hl:PE X l tl):PI X tg l (AEr tl):=by
 intro pins s σ H R I h;refine Ad (hl pins s σ H _ I h) λv s1 z2_=>?_;obtain⟨y,H1,I1,r1,x,e,q⟩:=z2_;subst e;obtain⟨t,rfl⟩:=r1
 have hb:∀(o:Obj) (b:Addr),b∈[s1.heap.objs.size]->HP X pins H1 b:=λo b hb=>by
  have e:b=s1.heap.objs.size:=by simpa using hb
  subst e;exact I1.fpOk (Ai _) (I1.hok.fresh (Ai _))
 cases ha:x.cps.all (·<128)
 .refine wpAny_pyIter_wide ha ⟨s1.heap.objs.size,[s1.heap.objs.size],_,_,H1,rfl,I1.kept (t':=s1.toks) λb o e=>Heap.get?_push_of_some _ e,UJ x t _ "str_iterator" (by decide) (λA' hA=>Walks.strWide hA _ x t) (λ_ _ _ _ _ st h=>wpAny_pyIter_striter_wide st h),
   ⟨⟨_,Heap.get?_push_size _ rfl,rfl,rfl⟩,FS _⟩,hb default,q⟩
 .refine wpAny_pyIter_ascii ha ⟨s1.heap.objs.size,[s1.heap.objs.size],_,_,H1,rfl,I1.kept (t':=s1.toks) λb o e=>Heap.get?_push_of_some _ e,UJ x t _ "str_ascii_iterator" (by decide) (λA' hA=>Walks.strAscii hA _ x t) (λ_ _ _ _ _ st h=>wpAny_pyIter_striter_ascii st h),
   ⟨⟨_,Heap.get?_push_size _ rfl,rfl,rfl⟩,FS _⟩,hb default,q⟩
def sgs(x:Str):List D:=x.cps.toList.map λc=>.str ⟨#[c]⟩
def Rt(f:EF):IF:=λρ L=>(f ρ L).bind λx=>match x.1 with|.str y=>some (⟨sgs y,λ_=>true⟩,x.2)|_=>none
theorem ACS(hl:AZ X l f):Ey X tg l (Rt f):=PI.weaken (ACY hl) λσ H R z3_=>by
 obtain⟨O,ρ,L,J,L',r,e,k⟩:=z3_;unfold Rt at e
 cases e1:f ρ L with
 |none=>rw[e1] at e;cases e
 |some p =>
  rw[e1] at e;obtain⟨d,L1⟩:=p
  cases d <;> simp only[AS] at e <;> try (cases e;done)
  rename_i y;cases e;refine⟨O,ρ,L,_,_,r,e1,λv H1 O1 st rs is=>?_⟩;cases is;refine⟨y,rfl,k _ _ _ st rs λi H2 O2 L2 st2 rs2 _=>⟨λd hd=>?_,λh=>by show y.cps.size<=i;simpa[sgs] using h⟩⟩;simp only[sgs,BD] at hd
  cases ec:y.cps[i]? with
  |none=>simp[ec] at hd
  |some c =>
   simp[ec] at hd;subst hd;refine⟨(AJz.mp ec).1,λx H' y'=>?_⟩;obtain⟨e,c',h1,rfl⟩:=y';subst e;rw[ec] at h1;cases h1;exact⟨.refl _ _,rs2,.str _ (by simp[Str.length])⟩
end
def Yq(x:Str):It:=⟨λi _=>i<x.cps.size,λi H v H'=>∃T c,H T=none/\x.cps[i]?=some c/\v=.ref T/\H'=upd H T (.tup [.int (i:Int),.str ⟨#[c]⟩]),λi _=>x.cps.size<=i⟩
theorem Xk{P:Program}{w:World}{A:Around}(hh:A.handled=none)(it:Addr)(x:Str)(t:Tok) :
  Draws P w A it [it] x.cps.size (λi v=>∃c u,x.cps[i]?=some c/\v=.str ⟨#[c]⟩ u) (λi h=>h.IsStrIter it (strIterType x) x t i):=by
 unfold strIterType;cases ha:x.cps.all (·<128)
 .exact Draws.strWide hh it x t
 .exact Draws.strAscii hh it x t
theorem AAQ{P:Program}{w:World}{K:AM}{elts:List Expr}{x1:Nat}{tp:Pos}(x:Str)(t:Tok)(e it:Addr)(hei:e≠it) :
  Hl P w K (.Tuple elts x1 tp) (Yq x) [e,it] e (λi h=>(∃old,IsEnum h e it (i:Int) old)/\h.IsStrIter it (strIterType x) x t i/\i<=x.cps.size) where
 mem:=by simp
 obj:=λi h st b hb=>by
  obtain⟨⟨old,he⟩,⟨o,e1,c,d⟩,_⟩:=st;rcases Ac.mp hb with rfl|hb
  .exact⟨_,he,λv z=>by cases z⟩
  .have e':b=it:=by simpa using hb
   subst e';exact⟨o,e1,λv z=>by rw[d] at z;cases z⟩
 keep:=λi h h' st k=>by
  obtain⟨⟨old,he⟩,⟨o,e1,r⟩,hi⟩:=st;exact⟨⟨old,k e (by simp) _ he⟩,⟨o,k it (by simp) o e1,r⟩,hi⟩
 item:=by
  intro X hP hw hK hc i pins s σ H E I hf st hg;subst hP hw hK;obtain⟨⟨old,he⟩,hs,hi⟩:=st;have hh:X.A.in1.handled=none:=I.ok.hd hc;refine wpAny_pyNext_enum_itemD (Xk hh it x t) he hs hg hei (by simpa using hei) λv h' tk hv heo hs' ht hz kk=>⟨_,rfl,?_⟩;obtain⟨c,u,hc',rfl⟩:=hv;refine wpAny_letOwnedTupleGo_enum heo λh2 he2 sb2=>?_;have hel:e<s.heap.objs.size:=Heap.lt_size he;have hil:it<s.heap.objs.size:=by obtain⟨o,e1,_⟩:=hs;exact Heap.lt_size e1
  have hs2:h2.IsStrIter it (strIterType x) x t (i+1):=by obtain⟨o,e1,r⟩:=hs';exact⟨o,(sb2.2 it (Ne.symm hei)).trans e1,r⟩
  have ht2:h2.get? s.heap.objs.size=some {cls:=.type "tuple",data:=.seq #[.int i tk,.str ⟨#[c]⟩ u]}:=(sb2.2 _ (Gi hel)).trans ht
  have new:CP X.prog X.w (upd H s.heap.objs.size (.tup [.int (i:Int),.str ⟨#[c]⟩])) h2 s.heap.objs.size (.tup [.int (i:Int),.str ⟨#[c]⟩]) :=
   ⟨by rw[sizeLine_eq];show 2<=16777216;decide,[.int i tk,.str ⟨#[c]⟩ u],.cons ⟨_,rfl⟩ (.cons ⟨_,rfl⟩ .nil),⟨_,ht2,rfl,_,rfl⟩⟩
  have I1:=Mw (t':=tk+1) (h':=h2) I hf (λb o hb q=>by
    have hbe:b≠e:=λz=>hb (by simp[z]);have hbi:b≠it:=λz=>hb (by simp[z])
    exact(sb2.2 b hbe).trans (kk b o hbe hbi q)) (Ai _) (λz=>by
    rcases Ac.mp z with z|z
    .exact absurd z (Gi hel)
    .exact absurd (AIf.mp z) (Gi hil)) (λb hb=>by
    rcases Ac.mp hb with rfl|hb
    .exact⟨_,he2⟩
    .have e':b=it:=by simpa using hb
     subst e';obtain⟨o,e1,_⟩:=hs2
     exact⟨o,e1⟩) new
  refine⟨.ref s.heap.objs.size,_,I1,rfl,⟨s.heap.objs.size,c,I.hok.fresh (Ai _),hc',rfl,rfl⟩,⟨⟨.str ⟨#[c]⟩ u,?_⟩,hs2,hg⟩,λb hb=>?_⟩
  .have:((i+1:Nat):Int)=(i:Int)+1:=by omega
   rw[this];exact he2
  .rw[BM]
   .exact(hf b hb).1
   .rcases Ac.mp hb with z|z
    .rw[z];exact Bi hel
    .rw[AIf.mp z];exact Bi hil
 done:=by intro X hP hw hK hc i pins s σ H E I hf st hg;subst hP hw hK;obtain⟨⟨old,he⟩,hs,hi⟩:=st;have hh:X.A.in1.handled=none:=I.ok.hd hc;obtain⟨f0,f1,f2,f3,f4,f5⟩:=hf it (by simp);have hi:i=x.cps.size:=Nat.le_antisymm hi hg;rw[hi] at hs;exact wpAny_pyNext_enum_endD (Xk hh it x t) he hs λh' eb=>⟨rfl,I.turned (t':=s.toks) (λb o hb q=>eb b o hb q) f0 f1 f3 f4 f5⟩
 self:=λA i s Q E st h=>by
  obtain⟨⟨old,he⟩,_⟩:=st;exact wpAny_pyIter_enum he h
def Fc(xs:List D):List D:=xs.zipIdx.map λp=>.tup [.int (p.2:Int),p.1]
def Ld(f:AF):IF:=λρ L=>(f ρ L).bind λx=>match x.1 with|[.str y]=>some (⟨Fc (sgs y),λ_=>true⟩,x.2)|_=>none
theorem Xf(y:Str)(i:Nat):(Fc (sgs y))[i]?=(y.cps[i]?).map λc=>.tup [.int (i:Int),.str ⟨#[c]⟩]:=by unfold Fc sgs;rw[BD,List.getElem?_zipIdx,BD,Array.getElem?_toList];cases y.cps[i]? <;> simp
theorem AFb(y:Str):(Fc (sgs y)).length=y.cps.size:=by simp[Fc,sgs]
section
variable {X:Cx}{elts:List Expr}{x1:Nat}{tp p pos:Pos}{a:Expr}{fa:AF}
theorem ACU(hm:X.mg "enumerate"=none)(ha:Ed X [a] fa)(hg:Gl X "enumerate":=by rfl)(hs:starEach [a] X.env=[(false,eval a X.env)]:=by rfl):Ey X (.Tuple elts x1 tp) (.Call (.Name "enumerate" p) [a] [] pos) (Ld fa):=by
 rintro pins s σ H R I ⟨O,ρ,L,J,L',r,e,k⟩;unfold Ld at e
 cases e1:fa ρ L with
 |none=>rw[e1] at e;cases e
 |some q =>
  rw[e1] at e;obtain⟨ds,L1⟩:=q;simp only[AS] at e;split at e
  .rename_i y;simp only[Option.some.injEq,Prod.mk.injEq] at e;obtain⟨hJ,hL⟩:=e;subst hJ;subst hL;refine Call_ (Hy I hg hm (u:=.type "enumerate") (by decide +kernel) (PyProof.Rows.callWith_type1 (Ad (ha pos pins s σ H (λvs H1=>vs=[.str y]/\∃O1,Ah H O H1 O1/\Am X.K H1 O1 L1) I ⟨O,ρ,L,_,_,r,e1,λvs H1 O1 st rs is=>?_⟩) λus s1 ⟨vs,H1,I1,r1,ev,O1,st,rs⟩=>?_) hs rfl))
   .cases is with
    |cons i1 i2=>cases i1;cases i2;exact⟨rfl,O1,st,rs⟩
   .subst ev;obtain⟨u,rfl,t,rfl⟩:=FB r1;refine call_enumerate_str λh' he hs' hz kk=>?_;refine wpAny_pyIter_enum he ?_;have I2:AI X pins σ H1 {s1 with heap:=h'}:=I1.kept (t':=s1.toks) kk;refine⟨s1.heap.objs.size+1,[s1.heap.objs.size+1,s1.heap.objs.size],_,_,H1,rfl,I2,AAQ y t _ _ (Nat.succ_ne_self _),⟨⟨_,he⟩,hs',FS _⟩,λb hb=>?_,k (Yq y) H1 O1 st rs λi H2 O2 L2 st2 rs2 _=>?_⟩
    .rcases Ac.mp hb with rfl|hb
     .exact I1.fpOk (AJC _) (I1.hok.fresh (AJC _))
     .have e':b=s1.heap.objs.size:=by simpa using hb
      subst e';exact I1.fpOk (Ai _) (I1.hok.fresh (Ai _))
    .refine⟨λd hd=>?_,λh=>by rw[AFb] at h;exact h⟩;simp only at hd;rw[Xf] at hd
     cases ec:y.cps[i]? with
     |none=>simp[ec] at hd
     |some c =>
      simp[ec] at hd;subst hd;refine⟨(AJz.mp ec).1,λx H' yy=>?_⟩;obtain⟨T,c',hT,h1,rfl,rfl⟩:=yy;rw[ec] at h1;cases h1;have st3:Ah H2 O2 (upd H2 T (.tup [.int (i:Int),.str ⟨#[c]⟩])) O2:=⟨.new hT,As _⟩;exact⟨st3,rs2.ext λa u e=>by rw[BM (DJ e hT)];exact e,.tup (Bp.of CI) (.cons (.int _) (.cons (.str _ (by simp[Str.length])) .nil))⟩
  .cases e
end
mutual
def D.noRef:D->Bool
 |.tup xs=>D.noRefL xs
 |.fz xs=>D.noRefL xs
 |.ref _=>false
 |_=>true
def D.noRefL:List D->Bool
 |[]=>true
 |x::xs=>D.noRef x&&D.noRefL xs
end
section
variable {K:AM}{H H' H0:Hp}{O O':List Addr}
theorem Vs{v:V}{d:D}{vs:List V}{ds:List D}(a:d.noRef=true->Is K H O' v d)(b:D.noRefL ds=true->AV K H O' vs ds)(e:D.noRefL (d::ds)=true):AV K H O' (v::vs) (d::ds):=by have e:(D.noRef d&&D.noRefL ds)=true:=e;rw[CA] at e;exact .cons (a e.1) (b e.2)
theorem Is.nr{v:V}{d:D}(h:Is K H O v d):d.noRef=true->Is K H O' v d :=
 Is.rec (motive_1:=λv d _=>d.noRef=true->Is K H O' v d) (motive_2:=λv d _=>D.noRefL d=true->AV K H O' v d) (λ_=>.non) (λb _=>.bl b) (λb _=>.int b) (λb h _=>.str b h) (λh _ r e=>.tup h (r e)) (λh _ r e=>.fz h (r e)) (λ_ e=>Gk (show false=true from e)) (λn _=>.ty n) (λ_=>.nil) (λ_ _ a b=>Vs a b) h
theorem AV.nr{v:List V}{d:List D}(h:AV K H O v d):D.noRefL d=true->AV K H O' v d :=
 AV.rec (motive_1:=λv d _=>d.noRef=true->Is K H O' v d) (motive_2:=λv d _=>D.noRefL d=true->AV K H O' v d) (λ_=>.non) (λb _=>.bl b) (λb _=>.int b) (λb h _=>.str b h) (λh _ r e=>.tup h (r e)) (λh _ r e=>.fz h (r e)) (λ_ e=>Gk (show false=true from e)) (λn _=>.ty n) (λ_=>.nil) (λ_ _ a b=>Vs a b) h
theorem AGO(p:O <+: O'){k:Nat}{a:Addr}(q:O[k]?=some a){v:V}(h:Is K H' O' v (.ref k)):Is K H' O v (.ref k):=by
 cases h with
 |ref q' =>
  have:=Dr p q;rw[q'] at this;cases this;exact .ref q
theorem AGN{ds:List D}(r:∀{v:List V},AV K H' O' v ds->AV K H' O v ds){v:V}(h:Is K H' O' v (.tup ds)):Is K H' O v (.tup ds):=by cases h with|tup q r'=>exact .tup q (r r')
theorem AGP{ds:List D}(r:∀{v:List V},AV K H' O' v ds->AV K H' O v ds){v:V}(h:Is K H' O' v (.fz ds)):Is K H' O v (.fz ds):=by cases h with|fz q r'=>exact .fz q (r r')
theorem AGQ{d:D}{ds:List D}(a:∀{v:V},Is K H' O' v d->Is K H' O v d)(r:∀{v:List V},AV K H' O' v ds->AV K H' O v ds){v:List V}(h:AV K H' O' v (d::ds)):AV K H' O v (d::ds):=by cases h with|cons a' b'=>exact .cons (a a') (r b')
theorem AV.back(p:O <+: O'){v0:List V}{d:List D}(i:AV K H0 O v0 d):∀{v:List V},AV K H' O' v d->AV K H' O v d :=
 AV.rec (motive_1:=λ_ d _=>∀{v:V},Is K H' O' v d->Is K H' O v d) (motive_2:=λ_ d _=>∀{v:List V},AV K H' O' v d->AV K H' O v d) (λh=>h.nr rfl) (λ_ _ h=>h.nr rfl) (λ_ _ h=>h.nr rfl) (λ_ _ _ h=>h.nr rfl) (λ_ _ r _ h=>AGN r h) (λ_ _ r _ h=>AGP r h) (λq _ h=>AGO p q h) (λ_ _ h=>h.nr rfl) (λh=>h.nr rfl) (λ_ _ a b _ h=>AGQ a b h) i
theorem RZ{α:Type}{f:α->D}(h:∀a,(f a).noRef=true):∀xs:List α,D.noRefL (xs.map f)=true
 |[]=>rfl
 |x::r=>by rw[Ap,D.noRefL,h x,RZ h r];rfl
theorem keyD_noRef(k:Key):(keyD k).noRef=true:=by cases k <;> rfl
theorem AEh(k:Key ⊕ List Key):(JZ k).noRef=true:=by
 cases k with
 |inl k=>exact keyD_noRef k
 |inr ks=>exact RZ keyD_noRef ks
theorem ADf(k:NK):(EV k).noRef=true:=RZ AEh k
theorem Am.back{L M:AD}(r0:Am K H O L)(st:Ah H O H' O')(r1:Am K H' O' (L++M)):Am K H' O L:=by
 refine⟨r0.len,r0.nd,λk a o e1 e2=>?_⟩;have q0:=r0.ob k a o e1 e2;have q1:=r1.ob k a o (Dr st.2 e1) (by rw[FT (BQ.mp e2).1];exact e2)
 cases o with
 |lst ds =>
  obtain⟨vs0,_,i0⟩:=q0;obtain⟨vs,hv,i1⟩:=q1;exact⟨vs,hv,AV.back st.2 i0 i1⟩
 |dk kvs =>
  obtain⟨us0,_,_,i0⟩:=q0;obtain⟨us,hv,hk,i1⟩:=q1;exact⟨us,hv,hk,AV.back st.2 i0 i1⟩
 |dt kvs ep =>
  obtain⟨us0,_,_,i0,_⟩:=q0;obtain⟨us,hv,hk,i1,i2⟩:=q1;exact⟨us,hv,hk,AV.back st.2 i0 i1,λu hu=>(i2 u hu).nr (ADf _)⟩
 |ins c fs =>
  obtain⟨_,_,us0,_,_,_,i0⟩:=q0;obtain⟨C,dx,us,z,hv,hk,i1⟩:=q1;exact⟨C,dx,us,z,hv,hk,AV.back st.2 i0 i1⟩
 |exn c=>exact q1
end
def DP(N:List Str)(ds:List D):Fm:=ds.map some++AIl (N.length-ds.length) none
def JQ(K:AM)(G:GL):Sp:=λvs H Q _=>rC K G vs H Q
def Yg(B:SF)(N:List Str)(xs:List D)(L:AD)(d:D)(L':AD):Prop :=
 ∃L'',(B (DP N xs) L=some (.ret d L'')\/(d=.non/\∃ρ',B (DP N xs) L=some (.next ρ' L'')))/\(L''=L'\/(L'=L/\L <+: L''/\d.noRef=true))
structure BA (P:Program) (w:World) (K:AM) (mg:AKO) (base:Heap) (k:Nat) (x:Str) (G:GL):Prop where
 ex:∃f fd ps,Dv P w K mg base CX0 k f fd ps (JQ K G)/\mg x=some (.ref f)/\GH K (.ref f)=true/\Ez K fd ps []
section
variable {P:Program}{w:World}{K:AM}{mg:AKO}{base:Heap}
theorem Lp{H:Hp}{O:List Addr}{N:List Str}{vs:List V}{ds:List D}(h:AV K H O vs ds):Gf K H O (L2.Gp N vs) (DP N ds):=by
 refine⟨by simp[L2.Gp,DP,h.length],λi d e=>?_⟩;unfold DP at e;unfold L2.Gp
 by_cases hi:i<ds.length
 .rw[FT (by simpa using hi),BD] at e;rw[FT (by simpa[h.length] using hi),BD]
  cases q:ds[i]? with
  |none=>rw[q] at e;cases e
  |some d' =>
   rw[q] at e;cases e;obtain⟨v,hv,iv⟩:=h.get q;exact⟨v,by simp[hv],iv⟩
 .rw[AI0 (by simpa using hi),AJj] at e;split at e <;> cases e
theorem SE{x qual:Str}{st:Stmt}{f:Addr}{fd:FuncData}{N ps:List Str}{k:Nat}(F:Ho K x qual st f fd)(S:BP N ps (Aa st))(G:GL)(B:SF)(hlen:∀xs L r,G xs L=some r->xs.length=ps.length)
  (hb:∀(cdv:Value) (A:Around) (outer:List Env) (s:Shared) (H:Hp) (E:XK),Bq k (A.deeper (envOfC qual (Aa st) s.heap.objs.size f cdv)) ->
   FM (Dt CX0 P w K mg base N qual (Aa st) f cdv A outer s H E).nox (Ff st) B)
  (hG:∀xs L d L',G xs L=some (d,L')->Yg B N xs L d L'):Dv P w K mg base CX0 (k+1) f fd ps (JQ K G):=by
 refine F.ok S (λvs H Q E h=>?_) (λcdv A outer s H vs Q E hr h=>?_)
 .obtain⟨O,L,xs,d,L',_,is,e,_⟩:=h;rw[is.length];exact hlen _ _ _ e
 .obtain⟨O,L,xs,d,L',rs,is,e,kk⟩:=h;refine⟨_,hb cdv A outer s H E hr,?_⟩;obtain⟨L'',hB,hd⟩:=hG _ _ _ _ e
  have close:∀v H' O',Ah H O H' O'->Am K H' O' L''->Is K H' O' v d->Q v H':=λv H' O' st' rs' is'=>by
   rcases hd with rfl|⟨rfl,⟨M,rfl⟩,nr⟩
   .exact kk v H' O' st' rs' is'
   .exact kk v H' O ⟨st'.1,As _⟩ (rs.back st' rs') (is'.nr nr)
  rcases hB with hB|⟨rfl,ρ',hB⟩
  .exact⟨O,DP N xs,L,_,⟨rs,Lp is⟩,hB,close⟩
  .exact⟨O,DP N xs,L,_,⟨rs,Lp is⟩,hB,λσ' H' O' st' r'=>close _ H' O' st' r'.s .non⟩
theorem BA.mono{j k:Nat}{x:Str}{G:GL}(F:BA P w K mg base j x G)(h:j<=k):BA P w K mg base k x G:=by obtain⟨f,fd,ps,a,b⟩:=F.ex;exact⟨f,fd,ps,a.mono h,b⟩
theorem BA.imp{k:Nat}{x:Str}{G G':GL}(F:BA P w K mg base k x G)(h:∀xs L r,G' xs L=some r->G xs L=some r):BA P w K mg base k x G':=by obtain⟨f,fd,ps,a,b⟩:=F.ex;exact⟨f,fd,ps,a.imp λvs H Q E z4_=>(by obtain⟨O,L,xs,d,L',rs,is,e,kk⟩:=z4_;exact⟨O,L,xs,d,L',rs,is,h _ _ _ e,kk⟩),b⟩
end
section
variable {X:Cx}{k:Nat}{x:Str}{G:GL}{p pos:Pos}{e:Expr}{es:List Expr}{f:AF}
theorem BF(F:BA X.prog X.w X.K X.mg X.base k x G)(hr:Bq k X.A)(ha:Ed X (e::es) f)(hg:Gl X x:=by rfl)(hdb:(x == ("__debug__":Str))=false:=by decide)
  (he:Dx e=true:=by rfl) (hpl:es.all Dx=true:=by rfl):AZ X (.Call (.Name x p) (e::es) [] pos) (AT G f):=by
 obtain⟨fa,fd,ps,a,b,c,d⟩:=F.ex
 exact PE.weaken (ACy a hr hg b c d .nil RQ ha hdb (Gq he) (Hv hpl)) λσ H Q h=>by
  have q:=SM h;obtain⟨O,ρ,L,ds,L',r,e,k⟩:=q;exact⟨O,ρ,L,ds,L',r,e,λvs H1 O1 st rs is=>by show rC X.K G (vs++[]) H1 Q;rw[HS];exact k vs H1 O1 st rs is⟩
theorem AFh(F:BA X.prog X.w X.K X.mg X.base k x G)(hr:Bq k X.A)(hg:Gl X x:=by rfl)(hdb:(x == ("__debug__":Str))=false:=by decide):AZ X (.Call (.Name x p) [] [] pos) (AT G AJ):=by
 obtain⟨fa,fd,ps,a,b,c,d⟩:=F.ex
 exact PE.weaken (ACx a hr hg b c d .nil RQ hdb) λσ H Q h=>by
  obtain⟨O,ρ,L,ds,L',r,e,k⟩:=h;exact⟨O,L,[],ds,L',r.s,.nil,e,k⟩
end
noncomputable instance decMul (a b:Int):Decidable (IntMulOk a b):=by unfold IntMulOk;infer_instance
section
variable {X:Cx}
theorem ADU:Ar X (binaryOp .Mult) (rI IntMulOk λi j=>.int (i*j)):=NW λ_ _ _ _ _ _ _ hc q=>mul_int q hc
theorem op_catE:Ar X (binaryOp .Add) (λx y H Q=>∃a b ys,x=.ref a/\y=.ref b/\Bp X.K H a []/\Bp X.K H b ys/\Q (.ref b) H):=by
 intro pins s σ H x y v u Q I rx ry h;obtain⟨a,b,ys,rfl,rfl,ha,hb,q⟩:=h;cases rx;cases ry;obtain⟨its,r1,p1,_⟩:=I.tuple ha;obtain⟨its2,r2,p2,_⟩:=I.tuple hb;have hi:its=[]:=r1.nil_iff.mpr rfl;subst hi;obtain⟨⟨cls,dd,data,sl⟩,ho,hc,n,hd⟩:=p1;obtain⟨⟨cls2,dd2,data2,sl2⟩,ho2,hc2,n2,hd2⟩:=p2;simp only at hc hd hc2 hd2;subst hc hd hc2 hd2
 exact concat_meets ⟨_,ho,rfl⟩ ⟨_,ho2,rfl⟩ noFill_tuple_add seq_tuple_add AJv AJw (AJx _ _)
  (tuple_addW0 a b _ _ n n2 dd dd2 sl sl2 rfl) ⟨ho,ho2,.ref b,H,I,rfl,q⟩
def CC:G2
 |.int i,.int j,L=>some (.int (i+j),L)
 |.str x,.str y,L=>if x.length+y.length<=16777216 then some (.str (x++y),L) else none
 |.ref a,.ref b,L=>match L[a]?,L[b]? with
  |some (.lst xs),some (.lst ys)=>if xs.length+ys.length<=16777216 then some (.ref L.length,L++[.lst (xs++ys)]) else none
  |_,_=>none
 |.tup xs,.tup ys,L=>if xs=[] then some (.tup ys,L) else if xs.length+ys.length<=16777216 then some (.tup (xs++ys),L) else none
 |_,_,_=>none
theorem DB:Cq X (binaryOp .Add) CC:=Ar.weaken (Ar.or ADT (Ar.or ADS (Ar.or ADR (Ar.or ADQ op_catE)))) λv u H Q z4_=>by
 obtain⟨O,L,x,y,d,L',rs,ix,iy,e,k⟩:=z4_;unfold CC at e;split at e
 .cases ix;cases iy;cases e;exact .inl ⟨_,_,rfl,rfl,k _ _ _ (.refl _ _) rs (.int _)⟩
 .cases ix with|str _ h1=>cases iy with|str _ h2 =>
   split at e
   .rename_i hz;cases e;exact .inr (.inl ⟨_,_,rfl,rfl,by rw[sizeLine_eq];exact hz,k _ _ _ (.refl _ _) rs (.str _ (by rw[strLen_append];exact hz))⟩)
   .cases e
 .rename_i a b
  cases ix with|ref ha=>cases iy with|ref hb =>
   split at e
   .rename_i xs ys e1 e2;split at e
    .rename_i hz;cases e;obtain⟨vs,hv,iv⟩:=rs.ob _ _ _ ha e1;obtain⟨ws,hw,iw⟩:=rs.ob _ _ _ hb e2;refine .inr (.inr (.inl ⟨_,_,vs,ws,rfl,rfl,hv,hw,by rw[iv.length,iw.length,sizeLine_eq];exact hz,λp hp=>?_⟩));have st:Ah H O (upd H p (.lst (vs++ws))) (O++[p]):=⟨.new hp,BB _ _⟩;exact k _ _ _ st (rs.new hp ⟨_,CI,(iv.append iw).mono st⟩) (.ref (by rw[<-rs.len];simp))
    .cases e
   .cases e
 .rename_i xs ys;split at e
  .rename_i hx;subst hx;cases e
   cases ix with|@tup a vs _ h1 i1=>cases iy with|@tup b ws _ h2 i2 =>
    cases i1;exact .inr (.inr (.inr (.inr ⟨_,_,ws,rfl,rfl,h1,h2,k _ _ _ (.refl _ _) rs (.tup h2 i2)⟩)))
  .rename_i hx;split at e
   .rename_i hz;cases e
    cases ix with|@tup a vs _ h1 i1=>cases iy with|@tup b ws _ h2 i2 =>
     refine .inr (.inr (.inr (.inl ⟨_,_,vs,ws,rfl,rfl,h1,h2,?_,by rw[i1.length,i2.length,sizeLine_eq];exact hz,λq=>?_,λq p hp=>?_⟩)))
     .rintro rfl;cases i1;exact hx rfl
     .subst q;cases i2;rw[HS] at k;exact k _ _ _ (.refl _ _) rs (.tup h1 i1)
     .have st:Ah H O (upd H p (.tup (vs++ws))) O:=⟨.new hp,As _⟩;exact k _ _ _ st (rs.ext λa u e=>by rw[BM (DJ e hp)];exact e) (.tup (Bp.of CI) ((i1.append i2).mono st))
   .cases e
 .cases e
def gI(C:Int->Int->Bool)(f:Int->Int->D):G2:=λx y L=>match x,y with|.int i,.int j=>if C i j=true then some (f i j,L) else none|_,_=>none
theorem Il{f:Value->Value->Sem Value}{C:Int->Int->Prop}{Cb:Int->Int->Bool}{g:Int->Int->V}{gd:Int->Int->D}(h:Ar X f (rI C g))(hc:∀i j,Cb i j=true->C i j)(hg:∀K H O i j,Is K H O (g i j) (gd i j)):Cq X f (gI Cb gd) :=
 Ar.weaken h λv u H Q z4_=>by
  obtain⟨O,L,x,y,d,L',rs,ix,iy,e,k⟩:=z4_;unfold gI at e;split at e
  .split at e
   .rename_i hcc;cases ix;cases iy;cases e;exact⟨_,_,rfl,rfl,hc _ _ hcc,k _ _ _ (.refl _ _) rs (hg _ _ _ _ _)⟩
   .cases e
  .cases e
theorem LM{f:Value->Value->Sem Value}{g:Int->Int->V}(h:Ar X f (Hu g)):Ar X f (rI (λ_ _=>True) g):=Ar.weaken h λx y H Q z4_=>by obtain⟨i,j,a,b,_,q⟩:=z4_;exact⟨i,j,a,b,q⟩
def LG(_ _:Int):Bool:=true
def Ly(_ j:Int):Bool:=decide (0<j)&&decide (j<10000000000000000000000000000000000000000000000000000000000000000000000000000000000000000000000000000)
def OI(_ j:Int):Bool:=decide (0<j)
def SN(i j:Int):Bool:=decide (0<=j)&&decide (j<=1000000)&&decide (i.natAbs<2 ^ 64)
def cMul(i j:Int):Bool:=decide (IntMulOk i j)
def Gx:G2:=gI LG λi j=>.int (i-j)
def CV:G2:=gI Ly λi j=>.int (i / j)
def Bl:G2:=gI OI λi j=>.int (i % j)
def IH:G2:=gI SN λi j=>.int (i ^ j.toNat)
theorem JS:Cq X (binaryOp .Sub) Gx:=Il (LM ADC) (λ_ _ _=>True.intro) λ_ _ _ _ _=>.int _
theorem AEI{j:Int}(h0:0<j)(h1:j<10000000000000000000000000000000000000000000000000000000000000000000000000000000000000000000000000000):j.natAbs.log2<340:=by
 have hn:j.natAbs≠0:=by omega
 refine(Nat.log2_lt hn).mpr ?_;have e:10000000000000000000000000000000000000000000000000000000000000000000000000000000000000000000000000000<(2:Nat) ^ 340:=by decide +kernel
 omega
theorem ADP:Ar X (binaryOp .FloorDiv) (rI (λ_ j=>0<j/\j<10000000000000000000000000000000000000000000000000000000000000000000000000000000000000000000000000000) λi j=>.int (i / j)):=NW λi j _ _ _ _ _ hc q=>by
 rw[<-Int.fdiv_eq_ediv_of_nonneg i (Int.le_of_lt hc.1)] at q;exact floordiv_int (by omega) q (.inl (PyProof.noPylong_of_log2 (by have:=AEI hc.1 hc.2;omega)))
theorem Cn:Cq X (binaryOp .FloorDiv) CV:=Il ADP (λi j h=>by simp only[Ly,CA,decide_eq_true_eq] at h;exact h) λ_ _ _ _ _=>.int _
theorem Bs:Cq X (binaryOp .Mod) Bl:=Il ADI (λi j h=>by simp[OI] at h;exact h) λ_ _ _ _ _=>.int _
theorem NY:Cq X (binaryOp .Pow) IH:=Il ADD (λi j h=>by simp[SN] at h;exact⟨h.1.1,h.1.2,h.2⟩) λ_ _ _ _ _=>.int _
def KU(x:Str)(n:Int):Bool:=decide (-1000000<=n)&&decide (n<=1000000)&&decide (x.length*n.toNat<=16777216)
def Eu:G2:=λx y L=>match x,y with
 |.int i,.int j=>if cMul i j=true then some (.int (i*j),L) else none
 |.str x,.int n=>if KU x n=true then some (.str (Txt.mul x n),L) else none
 |_,_=>none
theorem WQ:∀(l:List (Array Nat)) (a:Array Nat),(l.foldl (·++·) a).size=a.size+(l.map (·.size)).sum
 |[],a=>by simp
 |b::r,a=>by rw[AJM,WQ r];simp[Array.size_append];omega
theorem ADk(x:Str)(n:Int):(Txt.mul x n).length<=x.length*n.toNat:=by
 unfold Txt.mul;split
 .exact FS _
 .split
  .rename_i h1 h2;simp only[Bool.or_eq_true,beq_iff_eq] at h2;rcases h2 with h2|h2
   .subst h2;simp
   .rw[h2];simp
  .show((AIl n.toNat x.cps).foldl (·++·) #[]).size<=_;rw[WQ];simp[Str.length,Nat.mul_comm]
theorem ADH:Ar X (binaryOp .Mult) (λx y H Q=>∃z n,x=.str z/\y=.int n/\KU z n=true/\Q (.str (Txt.mul z n)) H):=by
 intro pins s σ H x y v u Q I rx ry h;obtain⟨z,n,rfl,rfl,hc,q⟩:=h;obtain⟨t,rfl⟩:=rx;obtain⟨t',rfl⟩:=ry;simp only[KU,CA,decide_eq_true_eq] at hc;obtain⟨⟨h1,h2⟩,h3⟩:=hc;refine SB.mul ⟨?_,λhn _ hz=>?_,λ_ _=>?_⟩ λt' k=>⟨.str _,H,I.tok _,⟨_,rfl⟩,q⟩
 .have e1:decide (n < -(2 ^ 63:Int))=false:=decide_eq_false (by omega);have e2:decide (n ≥ 2 ^ 63)=false:=decide_eq_false (by omega);rw[e1,e2];rfl
 .have e1:(z.length:Int)*n<=16777216:=by
   have h4:((z.length*n.toNat:Nat):Int)<=((16777216:Nat):Int):=Int.ofNat_le.mpr h3;rw[Int.natCast_mul,Int.toNat_of_nonneg (by omega)] at h4;omega
  have e2:(z.length:Int)<=((2:Int) ^ 63-1) / n:=Int.le_ediv_of_mul_le (by omega) (by omega);omega
 .have h5:¬(z.length*n.toNat>sizeLine):=by rw[sizeLine_eq];omega
  exact decide_eq_false h5
theorem HZ:Cq X (binaryOp .Mult) Eu:=Ar.weaken (Ar.or ADU ADH) λv u H Q z4_=>by
 obtain⟨O,L,x,y,d,L',rs,ix,iy,e,k⟩:=z4_;unfold Eu at e;split at e
 .split at e
  .rename_i hc;cases ix;cases iy;cases e;exact .inl ⟨_,_,rfl,rfl,of_decide_eq_true hc,k _ _ _ (.refl _ _) rs (.int _)⟩
  .cases e
 .split at e
  .rename_i hc;cases ix;cases iy;cases e;refine .inr ⟨_,_,rfl,rfl,hc,k _ _ _ (.refl _ _) rs (.str _ ?_)⟩;simp only[KU,CA,decide_eq_true_eq] at hc;exact Ch (ADk _ _) hc.2
  .cases e
 .cases e
def gLt:G2:=gI LG λi j=>.bl (decide (i<j))
def Nx:G2:=gI LG λi j=>.bl (decide (i<=j))
def Ga:G2:=gI LG λi j=>.bl (decide (j<i))
def Nz:G2:=gI LG λi j=>.bl (decide (j<=i))
theorem Ik:Cq X (compareOp .Lt) gLt:=Il (LM op_lt) (λ_ _ _=>True.intro) λ_ _ _ _ _=>.bl _
theorem Vl:Cq X (compareOp .LtE) Nx:=Il (LM ADJ) (λ_ _ _=>True.intro) λ_ _ _ _ _=>.bl _
theorem Hc:Cq X (compareOp .Gt) Ga:=Il (LM ADN) (λ_ _ _=>True.intro) λ_ _ _ _ _=>.bl _
theorem Vn:Cq X (compareOp .GtE) Nz:=Il (LM ADO) (λ_ _ _=>True.intro) λ_ _ _ _ _=>.bl _
def Df:D->V
 |.non=>.non|.bl b=>.bl b|.int i=>.int i|.str x=>.str x|_=>.non
def BR:D->Bool
 |.non=>true|.bl _=>true|.int _=>true|.str _=>true|_=>false
theorem Ev{K:AM}{H:Hp}{O:List Addr}{v:V}{d:D}(h:Is K H O v d)(f:BR d=true):v=Df d:=by cases h <;> first|rfl|(simp[BR] at f)
theorem XW{K:AM}{H:Hp}{O:List Addr}:∀{vs:List V} {ds:List D},AV K H O vs ds->ds.all BR=true->vs=ds.map Df
 |_,_,.nil,_=>rfl
 |_,_,.cons a b,f=>by
  rw[AI1,CA] at f;rw[Ap,Ev a f.1,XW b f.2]
theorem Ki{d:D}(f:BR d=true):Gb (Df d)=true:=by cases d <;> simp_all [BR,Df,Gb]
theorem JO{a b:D}(fa:BR a=true)(fb:BR b=true):(Df a=Df b)↔a=b:=by cases a <;> simp[BR] at fa <;> cases b <;> simp[BR] at fb <;> simp[Df]
def GQ(a b:D):Bool:=BR a&&BR b&&Qy (Df a) (Df b)
def Bx:G2:=λx y L=>if GQ x y=true then some (.bl (decide (x=y)),L) else none
def Gy:G2:=λx y L=>if GQ x y=true then some (.bl (!decide (x=y)),L) else none
theorem Co:Cq X (compareOp .Eq) Bx:=Ar.weaken Vj λv u H Q z4_=>by
 obtain⟨O,L,x,y,d,L',rs,ix,iy,e,k⟩:=z4_;unfold Bx at e;split at e
 .rename_i h;cases e;simp only[GQ,CA] at h;obtain⟨⟨h1,h2⟩,h3⟩:=h;rw[Ev ix h1,Ev iy h2];refine⟨h3,?_⟩;have:decide (Df x=Df y)=decide (x=y):=by simp[JO h1 h2]
  rw[this];exact k _ _ _ (.refl _ _) rs (.bl _)
 .cases e
theorem LR:Cq X (compareOp .NotEq) Gy:=Ar.weaken Vi λv u H Q z4_=>by
 obtain⟨O,L,x,y,d,L',rs,ix,iy,e,k⟩:=z4_;unfold Gy at e;split at e
 .rename_i h;cases e;simp only[GQ,CA] at h;obtain⟨⟨h1,h2⟩,h3⟩:=h;rw[Ev ix h1,Ev iy h2];refine⟨h3,?_⟩;have:decide (Df x=Df y)=decide (x=y):=by simp[JO h1 h2]
  rw[this];exact k _ _ _ (.refl _ _) rs (.bl _)
 .cases e
def Iq:D->Bool|.non=>true|_=>false
theorem Wg{K:AM}{H:Hp}{O:List Addr}{v:V}{d:D}(h:Is K H O v d):decide (v=.non)=Iq d:=by cases h <;> simp[Iq]
def isBl(b:Bool):D->Bool|.bl c=>c == b|_=>false
theorem ADK:Ar X (compareOp .Is) (λx y H Q=>∃b,y=.bl b/\(∀n,x≠.ty n)/\Q (.bl (decide (x=.bl b))) H):=by
 intro pins s σ H x y v u Q I rx ry h;obtain⟨b,rfl,hn,q⟩:=h;cases ry
 cases x with
 |non=>cases rx;exact AR (BS I q rfl)
 |bl c=>cases rx;exact AR (BS I q (by cases c <;> cases b <;> rfl))
 |int c=>obtain⟨t,rfl⟩:=rx;exact AR (BS I q rfl)
 |str c=>obtain⟨t,rfl⟩:=rx;exact AR (BS I q rfl)
 |byt c=>obtain⟨t,rfl⟩:=rx;exact AR (BS I q rfl)
 |flt c=>obtain⟨t,rfl⟩:=rx;exact AR (BS I q rfl)
 |ref c=>cases rx;exact AR (BS I q rfl)
 |ty c=>exact absurd rfl (hn c)
theorem ADG:Ar X (compareOp .IsNot) (λx y H Q=>∃b,y=.bl b/\(∀n,x≠.ty n)/\Q (.bl (!decide (x=.bl b))) H):=by
 intro pins s σ H x y v u Q I rx ry h;obtain⟨b,rfl,hn,q⟩:=h;cases ry
 cases x with
 |non=>cases rx;exact AR (BS I q rfl)
 |bl c=>cases rx;exact AR (BS I q (by cases c <;> cases b <;> rfl))
 |int c=>obtain⟨t,rfl⟩:=rx;exact AR (BS I q rfl)
 |str c=>obtain⟨t,rfl⟩:=rx;exact AR (BS I q rfl)
 |byt c=>obtain⟨t,rfl⟩:=rx;exact AR (BS I q rfl)
 |flt c=>obtain⟨t,rfl⟩:=rx;exact AR (BS I q rfl)
 |ref c=>cases rx;exact AR (BS I q rfl)
 |ty c=>exact absurd rfl (hn c)
theorem Wi{K:AM}{H:Hp}{O:List Addr}{v:V}{d:D}{b:Bool}(h:Is K H O v d):decide (v=.bl b)=isBl b d:=by cases h <;> simp[isBl];rename_i c;cases c <;> cases b <;> rfl
def noTy:D->Bool|.ty _=>false|_=>true
theorem Vt{K:AM}{H:Hp}{O:List Addr}{v:V}{d:D}(h:Is K H O v d)(n:noTy d=true):∀m,v≠.ty m:=by
 intro m z
 cases h <;> first|(cases z;done)|(simp[noTy] at n)
def Lk:G2:=λx y L=>match y with|.non=>some (.bl (Iq x),L)|.bl b=>if noTy x=true then some (.bl (isBl b x),L) else none|_=>none
def Kh:G2:=λx y L=>match y with|.non=>some (.bl (!Iq x),L)|.bl b=>if noTy x=true then some (.bl (!isBl b x),L) else none|_=>none
theorem Vm:Cq X (compareOp .Is) Lk:=Ar.weaken (Ar.or op_isN ADK) λv u H Q z4_=>by
 obtain⟨O,L,x,y,d,L',rs,ix,iy,e,k⟩:=z4_;unfold Lk at e;split at e
 .cases e;cases iy;refine .inl ⟨rfl,?_⟩;rw[Wg ix];exact k _ _ _ (.refl _ _) rs (.bl _)
 .split at e
  .rename_i hn;cases e;cases iy;refine .inr ⟨_,rfl,Vt ix hn,?_⟩;rw[Wi ix];exact k _ _ _ (.refl _ _) rs (.bl _)
  .cases e
 .cases e
theorem RU:Cq X (compareOp .IsNot) Kh:=Ar.weaken (Ar.or ADE ADG) λv u H Q z4_=>by
 obtain⟨O,L,x,y,d,L',rs,ix,iy,e,k⟩:=z4_;unfold Kh at e;split at e
 .cases e;cases iy;refine .inl ⟨rfl,?_⟩;rw[Wg ix];exact k _ _ _ (.refl _ _) rs (.bl _)
 .split at e
  .rename_i hn;cases e;cases iy;refine .inr ⟨_,rfl,Vt ix hn,?_⟩;rw[Wi ix];exact k _ _ _ (.refl _ _) rs (.bl _)
  .cases e
 .cases e
def He(i j:Str):Bool:=!(Builtin.Str.occurrences j i 0 j.length 1).isEmpty
def Kj(a b:D):Bool:=eqV (Df a) (Df b)
def Dz(x:D)(xs:List D):Bool:=xs.any λy=>Kj y x
def DH(d:D)(L:AD):Option (List D):=match d with
 |.tup xs=>some xs|.fz xs=>some xs
 |.ref k=>match L[k]? with|some (.lst xs)=>some xs|_=>none
 |_=>none
theorem KM{K:AM}{H:Hp}{O:List Addr}{L:AD}{v:V}{d:D}{xs:List D}(rs:Am K H O L)(h:Is K H O v d)(e:DH d L=some xs):∃a vs,v=.ref a/\(BY K H a vs\/Bp K H a vs)/\AV K H O vs xs:=by
 cases h with
 |tup hq il=>cases e;exact⟨_,_,rfl,.inr hq,il⟩
 |fz hq il=>cases e;exact⟨_,_,rfl,.inl hq.sql,il⟩
 |ref hk =>
  simp only[DH] at e;split at e
  .rename_i ys e2;cases e;obtain⟨vs,hv,iv⟩:=rs.ob _ _ _ hk e2;exact⟨_,vs,rfl,.inl (BY.of hv),iv⟩
  .cases e
 |_=>cases e
def Da(neg:Bool):G2:=λx y L=>match x,y with
 |.str i,.str j=>some (.bl (if neg then !He i j else He i j),L)
 |_,_=>match DH y L with|some ys=>if BR x&&ys.all BR then some (.bl (if neg then !Dz x ys else Dz x ys),L) else none|none=>none
theorem AEp{x:D}{xs:List D}:Rp (Df x) (xs.map Df)=Dz x xs:=by unfold Rp Dz Kj;rw[List.any_map];rfl
theorem AGg{xs:List D}(h:xs.all BR=true):(xs.map Df).all Gb=true:=by rw[List.all_map];rw[De] at h ⊢;exact λd hd=>Ki (h d hd)
theorem XR{K:AM}{H:Hp}{O:List Addr}{L L':AD}{v u:V}{x y d:D}{neg:Bool}{Q:VK}(rs:Am K H O L)(ix:Is K H O v x)(iy:Is K H O u y)
  (e:(match DH y L with|some ys=>if BR x&&ys.all BR then some (D.bl (if neg then !Dz x ys else Dz x ys),L) else none|none=>none)=some (d,L'))
  (k:∀w H' O',Ah H O H' O'->Am K H' O' L'->Is K H' O' w d->Q w H'):RC K neg v u H Q:=by
 split at e
 .rename_i ys hy;split at e
  .rename_i hf;cases e;rw[CA] at hf;obtain⟨a,vs,rfl,hs,il⟩:=KM rs iy hy;have e1:=Ev ix hf.1;have e2:=XW il hf.2;subst e1 e2;refine⟨a,_,rfl,hs,Ki hf.1,AGg hf.2,?_⟩;rw[AEp];exact k _ _ _ (.refl _ _) rs (.bl _)
  .cases e
 .cases e
theorem LS:Cq X (compareOp .In) (Da false):=Ar.weaken (Ar.or ADL ADM) λv u H Q z4_=>by
 obtain⟨O,L,x,y,d,L',rs,ix,iy,e,k⟩:=z4_;unfold Da at e;split at e
 .cases e;cases ix;cases iy;exact .inl ⟨_,_,rfl,rfl,k _ _ _ (.refl _ _) rs (.bl _)⟩
 .exact .inr (XR rs ix iy e k)
theorem JT:Cq X (compareOp .NotIn) (Da true):=Ar.weaken (Ar.or op_notin_str ADF) λv u H Q z4_=>by
 obtain⟨O,L,x,y,d,L',rs,ix,iy,e,k⟩:=z4_;unfold Da at e;split at e
 .cases e;cases ix;cases iy;exact .inl ⟨_,_,rfl,rfl,k _ _ _ (.refl _ _) rs (.bl _)⟩
 .exact .inr (XR rs ix iy e k)
def Ak:G2:=λx y L=>match y with
 |.int i=>match x with
  |.str z=>(match atI z.cps.toList i with|some c=>some (.str ⟨#[c]⟩,L)|none=>none)
  |_=>(match DH x L with|some xs=>(match atI xs i with|some d=>some (d,L)|none=>none)|none=>none)
 |_=>none
theorem AGW{K:AM}{H:Hp}{O:List Addr}{vs:List V}{xs:List D}{i:Int}{d:D}(il:AV K H O vs xs)(e:atI xs i=some d):∃v,atI vs i=some v/\Is K H O v d:=by
 unfold atI at e ⊢;rw[il.length]
 cases q:ixN xs.length i with
 |none=>rw[q] at e;cases e
 |some j=>rw[q] at e;exact il.get e
theorem Ia:OY X Ak:=Fl.weaken AEd λv u H Q z4_=>by
 obtain⟨O,L,x,y,d,L',rs,ix,iy,e,k⟩:=z4_;unfold Ak at e;split at e
 .cases iy;split at e
  .split at e
   .rename_i c hc;cases e
    cases ix with|str _ hz =>
     exact .inr (.inr ⟨_,_,c,rfl,rfl,by rw[sizeLine_eq];exact hz,hc,k _ _ _ (.refl _ _) rs (.str _ (by simp[Str.length]))⟩)
   .cases e
  .split at e
   .rename_i xs hx;split at e
    .rename_i dd hd;cases e;obtain⟨a,vs,rfl,hs,il⟩:=KM rs ix hx;obtain⟨w,hw,iw⟩:=AGW il hd;rcases hs with hs|hs
     .exact .inl ⟨a,vs,_,w,rfl,rfl,hs,hw,k _ _ _ (.refl _ _) rs iw⟩
     .exact .inr (.inl ⟨a,vs,_,w,rfl,rfl,hs,hw,k _ _ _ (.refl _ _) rs iw⟩)
    .cases e
   .cases e
 .cases e
end
end L3
set_option maxHeartbeats 4000000
namespace HT
open PySem PySem.Spec PyProof.Rows
section
variable {prog:Program}{w:World}{A:Around}{E:AKP}{s:Shared}
theorem AHs{t sl:Addr}{items:Array Value}{vl vu:Value}{lo hi:Option Int}{Q:AKP}(ht:IsTup s.heap t items)(hs:s.heap.IsSliceOf sl vl vu .none)(pl:IsPart vl lo)(pu:IsPart vu hi)
  (hw:sIx items.size 0 lo=0/\sIx items.size items.size hi=items.size) (h:Q (.ref t) s) (hsz:items.size<=sizeLine):wpAny (model prog w) A (getItem (.ref t) (.ref sl)) Q E s:=by
 obtain⟨os,hos,hcs,hds⟩:=id hs;have hTs:s.TypeIs (.ref sl) "slice":=⟨os,hos,hcs⟩;unfold getItem
 try with_reducible refine Do ?_
 first|refine AH (AR ?_)|skip
 refine AH (wpAny_sequenceKey ht.typeIs (by decide) ?_)
 refine AH (AKG (name:=Str.ofString "__getitem__") ht.typeIs PyProof.Rows.slot_tuple_getitem
  (Gh PyProof.Rows.slot_tuple_getitem ht.typeIs entry_tuple_getitem ?_ (args_tuple_getitem _ _)))
 show wpAny _ _ (Builtin.Tuple.tupleItemsOf (.ref t) >>= _) _ _ s;refine AH (tupleItemsOf_ ht ?_);refine AH (wpAny_typeOf hTs ?_);rw[if_pos (by decide)];refine AH (Uv hs pl pu ?_)
 have hyes:(((sIx items.size 0 lo:Nat):Int) == 0&&(1:Int) == 1&&(sIx items.size items.size hi-sIx items.size 0 lo) == items.size)=true:=by rw[hw.1,hw.2];simp
 show wpAny _ _ (if (((sIx items.size 0 lo:Nat):Int) == 0&&(1:Int) == 1&&(sIx items.size items.size hi-sIx items.size 0 lo) == items.size)=true then _ else _) _ _ s
 rw[if_pos hyes];unfold Builtin.Tuple.tupleIsExact;refine AH (AH (wpAny_typeOf ht.typeIs (AR ?_)));rw[if_pos (by decide)];refine AH (AKA ?_);exact AR ⟨_,rfl,AR h⟩
end
end HT
namespace L2
open PySem PySem.Spec PyProof.Rows
section
variable {X:Cx}
theorem ABG:Ge X (λx lo hi H Q=>∃a xs,x=.ref a/\Bp X.K H a xs/\(HT.sIx xs.length 0 lo=0/\HT.sIx xs.length xs.length hi=xs.length)/\Q (.ref a) H):=by
 intro pins s σ H x v vl vu lo hi sl Q I rx hs pl pu h;obtain⟨a,xs,rfl,hx,hw,q⟩:=h;cases rx;obtain⟨its,r,ht,hz⟩:=I.tuple hx;have hlen:its.toArray.size=xs.length:=by rw[By];exact r.length.symm
 refine⟨"tuple",_,PyProof.Rows.slot_tuple_getitem.lookup,ht.typeIs,?_⟩;exact HT.AHs ht hs pl pu (by rw[hlen];exact hw) ⟨.ref a,H,I,rfl,q⟩ (by rw[hlen];exact hz)
end
end L2
set_option maxHeartbeats 4000000
namespace L3
open PySem PySem.Spec PyProof.Rows L2
abbrev OF:=Fm->AD->Option (Option Int×AD)
def AEJ(K:AM)(f:OF):TO:=λσ H Q=>∃O ρ L d L',DS K H O σ ρ L/\f ρ L=some (d,L')/\∀H' O',Ah H O H' O'->Am K H' O' L'->Q d H'
def ME(X:Cx)(e:Option Expr)(f:OF):Prop:=PO X e (AEJ X.K f)
def GV:OF:=λ_ L=>some (none,L)
def Dl(f:EF):OF:=λρ L=>(f ρ L).bind λx=>match x.1 with|.int i=>some (some i,x.2)|_=>none
section
variable {X:Cx}{e:Expr}{f:EF}{lo hi:Option Expr}{fl fh:OF}{pos p2:Pos}
theorem HY:ME X none GV:=λpins s σ H Q I z6_=>by
 obtain⟨O,ρ,L,d,L',r,e,k⟩:=z6_;cases e;exact ACP pins s σ H Q I (k H O (.refl _ _) r.s)
theorem EU(h:AZ X e f):ME X (some e) (Dl f):=λpins s σ H Q I z6_=>by
 obtain⟨O,ρ,L,d,L',r,ee,k⟩:=z6_;refine ACO h pins s σ H Q I ?_;unfold Dl at ee
 cases e1:f ρ L with
 |none=>rw[e1] at ee;cases ee
 |some p =>
  rw[e1] at ee;obtain⟨x,L1⟩:=p
  cases x <;> simp only[AS] at ee <;> try (cases ee;done)
  cases ee;refine⟨O,ρ,L,_,_,r,e1,λv H' O' st rs is=>?_⟩;cases is;exact⟨_,rfl,k H' O' st rs⟩
theorem ABI:Ge X (λx lo hi H Q=>∃z,x=.str z/\z.length<=sizeLine/\Q (.str (Txt.slice z lo hi)) H):=by
 intro pins s σ H x v vl vu lo hi sl Q I rx hs pl pu h;obtain⟨z,rfl,hz,q⟩:=h;obtain⟨t,rfl⟩:=rx;refine⟨"str",_,F.slot_str_getitem.lookup,typeIs_str _ _ _,?_⟩;have fin:∀t' k,EP X pins σ Q (.str (Txt.slice z lo hi) t') {s with toks:=k}:=λt' k=>⟨.str _,H,I.tok _,⟨_,rfl⟩,q⟩;have hl:(Txt.slice z lo hi).length<=sizeLine:=Ch (Txt.slice_le z _ _) hz
 cases pl with
 |none=>cases pu with
  |none=>exact AKI (l:=none) (u:=none) (st:=none) hs rfl (post_val_or_str ⟨hl,fin⟩)
  |int j tj=>exact AKI (l:=none) (u:=some (j,tj)) (st:=none) hs rfl (post_val_or_str ⟨hl,fin⟩)
 |int i ti=>cases pu with
  |none=>exact AKI (l:=some (i,ti)) (u:=none) (st:=none) hs rfl (post_val_or_str ⟨hl,fin⟩)
  |int j tj=>exact AKI (l:=some (i,ti)) (u:=some (j,tj)) (st:=none) hs rfl (post_val_or_str ⟨hl,fin⟩)
def cutD(xs:List D)(lo hi:Option Int):List D:=(xs.drop (HT.sIx xs.length 0 lo)).take (HT.sIx xs.length xs.length hi-HT.sIx xs.length 0 lo)
def Kf(x:D)(lo hi:Option Int)(L:AD):Option (D×AD):=match x with
 |.str z=>some (.str (Txt.slice z lo hi),L)
 |.fz xs=>some (.ref L.length,L++[.lst (cutD xs lo hi)])
 |.ref k=>(match L[k]? with|some (.lst xs)=>some (.ref L.length,L++[.lst (cutD xs lo hi)])|_=>none)
 |.tup xs=>some (.tup (cutD xs lo hi),L)
 |_=>none
def ES(f:EF)(fl fh:OF):EF:=λρ L=>(f ρ L).bind λx=>(fl ρ x.2).bind λl=>(fh ρ l.2).bind λh=>Kf x.1 l.1 h.1 h.2
theorem SL{K:AM}{H:Hp}{O:List Addr}{vs:List V}{xs:List D}(il:AV K H O vs xs)(lo hi:Option Int):AV K H O (HC vs lo hi) (cutD xs lo hi):=by unfold HC cutD;rw[il.length];exact(il.drop _).take _
theorem Fd(he:AZ X e f)(hl:ME X lo fl)(hh:ME X hi fh):AZ X (.Subscript e (.Slice lo hi none p2) pos) (ES f fl fh) :=
 PE.weaken (ACi (Ge.or ABI (Ge.or ABJ (Ge.or ABH ABG))) he hl hh) λσ H Q z3_=>by
  obtain⟨O,ρ,L,d,L',r,ee,k⟩:=z3_;unfold ES at ee
  cases e1:f ρ L with
  |none=>rw[e1] at ee;cases ee
  |some p =>
   rw[e1] at ee;simp only[AS] at ee
   cases e2:fl ρ p.2 with
   |none=>rw[e2] at ee;cases ee
   |some q =>
    rw[e2] at ee;simp only[AS] at ee
    cases e3:fh ρ q.2 with
    |none=>rw[e3] at ee;cases ee
    |some w =>
     rw[e3] at ee;simp only[AS] at ee;refine⟨O,ρ,L,p.1,p.2,r,e1,λv H1 O1 st1 rs1 is1=>⟨O1,ρ,p.2,q.1,q.2,r.to st1 rs1,e2,λH2 O2 st2 rs2=>⟨O2,ρ,q.2,w.1,w.2,r.to (st1.trans st2) rs2,e3,λH3 O3 st3 rs3=>?_⟩⟩⟩;have is3:=(is1.mono st2).mono st3;have stA:=(st1.trans st2).trans st3;unfold Kf at ee;split at ee
     .rename_i z hz;rw[hz] at is3;cases ee
      cases is3 with|str _ hl =>
       exact .inl ⟨_,rfl,by rw[sizeLine_eq];exact hl,k _ _ _ stA rs3 (.str _ (Ch (Txt.slice_le _ _ _) hl))⟩
     .rename_i xs hx;rw[hx] at is3;cases ee
      cases is3 with|@fz a vs ds hq il =>
       refine .inr (.inl ⟨_,_,rfl,hq.sql,λpa hp=>?_⟩);have st4:Ah H3 O3 (upd H3 pa (.lst (HC vs q.1 w.1))) (O3++[pa]):=⟨.new hp,BB _ _⟩;exact k _ _ _ (stA.trans st4) (rs3.new hp ⟨_,CI,(SL il _ _).mono st4⟩) (.ref (by rw[<-rs3.len];simp))
     .rename_i kk hx;rw[hx] at is3;split at ee
      .rename_i xs e4;cases ee
       cases is3 with|ref hk =>
        obtain⟨vs,hv,il⟩:=rs3.ob _ _ _ hk e4;refine .inr (.inl ⟨_,_,rfl,BY.of hv,λpa hp=>?_⟩);have st4:Ah H3 O3 (upd H3 pa (.lst (HC vs q.1 w.1))) (O3++[pa]):=⟨.new hp,BB _ _⟩;exact k _ _ _ (stA.trans st4) (rs3.new hp ⟨_,CI,(SL il _ _).mono st4⟩) (.ref (by rw[<-rs3.len];simp))
      .cases ee
     .rename_i xs hx;rw[hx] at is3;cases ee
      cases is3 with|@tup a vs ds hq il =>
       by_cases hw:HT.sIx vs.length 0 q.1=0/\HT.sIx vs.length vs.length w.1=vs.length
       .refine .inr (.inr (.inr ⟨_,vs,rfl,hq,hw,?_⟩))
        have e5:cutD xs q.1 w.1=xs:=by unfold cutD;rw[<-il.length,hw.1,hw.2,AJL,Nat.sub_zero,il.length,Gj]
        rw[e5] at k;exact k _ _ _ stA rs3 (.tup hq il)
       .refine .inr (.inr (.inl ⟨_,vs,rfl,hq,hw,λpa hp=>?_⟩));have st4:Ah H3 O3 (upd H3 pa (.tup (HC vs q.1 w.1))) O3:=⟨.new hp,As _⟩;exact k _ _ _ (stA.trans st4) (rs3.ext λa u e=>by rw[BM (DJ e hp)];exact e) (.tup (Bp.of CI) ((SL il _ _).mono st4))
     .cases ee
end
section
variable {X:Cx}
def CF:GL:=λxs L=>match xs with
 |[.str z]=>some (.int (z.length:Int),L)
 |[x]=>(match DH x L with|some ys=>some (.int (ys.length:Int),L)|none=>none)
 |_=>none
theorem DK:Fp X (.builtin "len") CF:=Cu.weaken (Cu.or AF8 AF9) λvs H Q z3_=>by
 obtain⟨O,L,xs,d,L',rs,is,e,k⟩:=z3_;unfold CF at e;split at e
 .cases e
  cases is with|cons i1 i2=>cases i2;cases i1 with|str _ hz =>
   exact .inl ⟨_,rfl,by rw[sizeLine_eq];exact hz,k _ _ _ (.refl _ _) rs (.int _)⟩
 .split at e
  .rename_i ys hy;cases e
   cases is with|cons i1 i2 =>
    cases i2;obtain⟨a,vs,rfl,hs,il⟩:=KM rs i1 hy;exact .inr ⟨a,vs,rfl,hs,by rw[il.length];exact k _ _ _ (.refl _ _) rs (.int _)⟩
  .cases e
 .cases e
def Lo:GL:=λxs L=>match xs with|[.int i]=>some (.int (if i<0 then -i else i),L)|_=>none
theorem YF:Fp X (.builtin "abs") Lo:=Cu.weaken AGC λvs H Q z3_=>by
 obtain⟨O,L,xs,d,L',rs,is,e,k⟩:=z3_;unfold Lo at e;split at e
 .cases e;cases is with|cons i1 i2=>cases i2;cases i1;exact⟨_,rfl,k _ _ _ (.refl _ _) rs (.int _)⟩
 .cases e
def Lg:GL:=λxs L=>match xs with|[.int i,.int j]=>some (.int (if j<i then j else i),L)|_=>none
theorem YD(hc:X.calm=true):Fp X (.builtin "min") Lg:=Cu.weaken (AF7 hc) λvs H Q z3_=>by
 obtain⟨O,L,xs,d,L',rs,is,e,k⟩:=z3_;unfold Lg at e;split at e
 .cases e;cases is with|cons i1 i2=>cases i2 with|cons i3 i4=>cases i4;cases i1;cases i3;exact⟨_,_,rfl,k _ _ _ (.refl _ _) rs (.int _)⟩
 .cases e
def Ll:GL:=λxs L=>match xs with|[.int i]=>some (.int i,L)|[.bl b]=>some (.int (if b then 1 else 0),L)|_=>none
theorem YE:Fp X (.type "int") Ll:=Cu.weaken AGA λvs H Q z3_=>by
 obtain⟨O,L,xs,d,L',rs,is,e,k⟩:=z3_;unfold Ll at e;split at e
 .cases e;cases is with|cons i1 i2=>cases i2;cases i1;exact .inl ⟨_,rfl,k _ _ _ (.refl _ _) rs (.int _)⟩
 .cases e;cases is with|cons i1 i2=>cases i2;cases i1;exact .inr ⟨_,rfl,k _ _ _ (.refl _ _) rs (.int _)⟩
 .cases e
def GZ:GL:=λxs L=>match xs with
 |[.tup ys]=>some (.tup ys,L)
 |[x]=>(match DH x L with|some ys=>some (.tup ys,L)|none=>none)
 |_=>none
theorem JA:Fp X (.type "tuple") GZ:=Cu.weaken AF5 λvs H Q z3_=>by
 obtain⟨O,L,xs,d,L',rs,is,e,k⟩:=z3_;unfold GZ at e;split at e
 .cases e;cases is with|cons i1 i2=>cases i2;cases i1 with|tup hq il=>exact⟨_,_,rfl,.inr ⟨hq,k _ _ _ (.refl _ _) rs (.tup hq il)⟩⟩
 .split at e
  .rename_i ys hy;cases e
   cases is with|cons i1 i2 =>
    cases i2;obtain⟨a,vs,rfl,hs,il⟩:=KM rs i1 hy;rcases hs with hs|hs
    .refine⟨a,vs,rfl,.inl ⟨hs,λl hl=>?_⟩⟩;have st:Ah H O (upd H l (.tup vs)) O:=⟨.new hl,As _⟩;exact k _ _ _ st (rs.ext λb u e=>by rw[BM (DJ e hl)];exact e) (.tup (Bp.of CI) (il.mono st))
    .exact⟨a,vs,rfl,.inr ⟨hs,k _ _ _ (.refl _ _) rs (.tup hs il)⟩⟩
  .cases e
 .cases e
theorem AGB(hc:X.calm=true):Cu X (.builtin "all") (λxs H Q=>∃(p:Addr) (bs:List Bool),xs=[.ref p]/\BY X.K H p (bs.map V.bl)/\Q (.bl (bs.all id)) H):=by
 intro pins s σ H xs us Q I r h;obtain⟨p,bs,rfl,hq,q⟩:=h;obtain⟨u,rfl,rx⟩:=FB r;cases rx;obtain⟨its,rv,pl,hz⟩:=I.list hq;have hI:∀b o,s.heap.get? b=some o->b≠s.heap.objs.size:=λb o e=>Bi (Heap.lt_size e);obtain⟨ol,hol,hcl,nl,hdl⟩:=pl.isList;have hbs:bs.length=its.length:=by have:=rv.length;simpa using this
 refine call_all_walk (wpAny_pyIter_list pl.isList ⟨s.heap.objs.size,_,_,_,_,_,λi=>(bs[i]?).getD true,rfl,
  Walks.list (A:=X.A.in1) (show X.A.in1.handled=none from I.ok.hd hc) s.heap.objs.size p (hI p ol hol) its.toArray,⟨⟨_,Heap.get?_push_size _ rfl,rfl,rfl⟩,⟨ol,Heap.get?_push_of_some _ hol,hcl,nl,hdl⟩⟩,?_,?_⟩)
 .intro i v s' Q' E' hv hQ;have hv':its[i]?=some v:=by simpa using hv
  have hi:i<its.length:=(BQ.mp hv').1;have hb:bs[i]?=some bs[i]:=by simp[hbs,hi]
  obtain⟨w',hw,rw'⟩:=rv.get (i:=i) (x:=.bl bs[i]) (by simp[hbs,hi]);rw[hv'] at hw;cases hw;cases rw';dsimp only at hQ;rw[hb] at hQ;exact AKC hQ
 .intro h' tk kk;have I1:AI X pins σ H {s with heap:=h',toks:=tk}:=I.kept λb o e=>kk b o (by simpa using hI b o e) (Heap.get?_push_of_some _ e);refine⟨.bl (bs.all id),H,I1,?_,q⟩;show Value.bool _=Value.bool _
  congr 1
  rw[By,<-hbs];rw[AJJ,De,De];constructor
  .intro h b hb;obtain⟨i,hi,rfl⟩:=AJX hb;have:=h i (Dd.mpr hi);simpa[hi] using this
  .intro h i hi;have hi':=Dd.mp hi;simpa[hi'] using h _ (List.getElem_mem hi')
def blsD:List D->Option (List Bool)
 |[]=>some []
 |.bl b::r=>(blsD r).map (b::·)
 |_=>none
theorem YI{K:AM}{H:Hp}{O:List Addr}:∀{vs:List V} {ds:List D} {bs:List Bool},AV K H O vs ds->blsD ds=some bs->vs=bs.map V.bl
 |_,_,_,.nil,e=>by cases e;rfl
 |_,d::ds,bs,.cons a b,e=>by
  cases a <;> simp only[blsD] at e <;> try (cases e;done)
  cases q:blsD ds with
  |none=>rw[q] at e;cases e
  |some r =>
   rw[q] at e;cases e;rw[YI b q];rfl
def Ln:GL:=λxs L=>match xs with
 |[.ref k]=>(match L[k]? with|some (.lst ds)=>(match blsD ds with|some bs=>some (.bl (bs.all id),L)|none=>none)|_=>none)
 |_=>none
theorem AF4(hc:X.calm=true):Fp X (.builtin "all") Ln:=Cu.weaken (AGB hc) λvs H Q z3_=>by
 obtain⟨O,L,xs,d,L',rs,is,e,k⟩:=z3_;unfold Ln at e;split at e
 .split at e
  .rename_i ds hd;split at e
   .rename_i bs hb;cases e
    cases is with|cons i1 i2 =>
     cases i2
     cases i1 with|ref hk =>
      obtain⟨vs,hv,il⟩:=rs.ob _ _ _ hk hd;rw[YI il hb] at hv;exact⟨_,bs,rfl,BY.of hv,k _ _ _ (.refl _ _) rs (.bl _)⟩
   .cases e
  .cases e
 .cases e
end
abbrev GM:=D->List D->AD->Option (D×AD)
def rM(K:AM)(g:GM):V->List V->Hp->VK->Prop:=λv vs H Q=>∃O L x xs d L',Am K H O L/\Is K H O v x/\AV K H O vs xs/\g x xs L=some (d,L') /\
 ∀w H' O',Ah H O H' O'->Am K H' O' L'->Is K H' O' w d->Q w H'
def MtD(X:Cx)(id:String)(g:GM):Prop:=Fj X id (rM X.K g)
theorem Fj.weaken{X:Cx}{id:String}{r r':V->List V->Hp->VK->Prop}(h:Fj X id r)(i:∀x xs H Q,r' x xs H Q->r x xs H Q):Fj X id r' :=
 λpins s σ H x xs v us Q I rx rs q=>h pins s σ H x xs v us Q I rx rs (i _ _ _ _ q)
def KH(T:String)(x:D)(L:AD):Bool:=match x with
 |.str _=>T == "str"
 |.fz _=>T == "list"
 |.ref k=>match L[k]? with|some (.lst _)=>T == "list" | some (.dk _)=>T == "dict" | some (.dt _ _)=>T == "dict" | _=>false
 |_=>false
theorem UI{K:AM}{H:Hp}{O:List Addr}{L:AD}{T:String}{v:V}{x:D}(rs:Am K H O L)(i:Is K H O v x)(h:KH T x L=true):Mv K T v H:=by
 unfold KH at h;split at h
 .cases i;exact beq_iff_eq.mp h
 .cases i with|fz hq il=>exact .inl ⟨beq_iff_eq.mp h,_,hq.sql⟩
 .cases i with|ref hk =>
   split at h
   .rename_i e;obtain⟨vs,hv,_⟩:=rs.ob _ _ _ hk e;exact .inl ⟨beq_iff_eq.mp h,_,BY.of hv⟩
   .rename_i e;obtain⟨vs,hv,_⟩:=rs.ob _ _ _ hk e;exact .inr (.inr (.inl ⟨beq_iff_eq.mp h,.inl ⟨_,hv⟩⟩))
   .rename_i e;obtain⟨vs,hv,_⟩:=rs.ob _ _ _ hk e;exact .inr (.inr (.inl ⟨beq_iff_eq.mp h,.inr (.inr ⟨_,_,hv⟩)⟩))
   .cases h
 .cases h
def CZ(T:String)(g:GM)(fo:EF)(fa:AF):EF:=λρ L=>(fo ρ L).bind λx=>if KH T x.1 x.2=true then (fa ρ x.2).bind λy=>g x.1 y.1 y.2 else none
section
variable {X:Cx}{o e:Expr}{es:List Expr}{fo:EF}{fa:AF}{name:Str}{apos cpos:Pos}{T id:String}{g:GM}
theorem Jh(pa:PlainAttrs T)(slot:Slot T name id)(hty:typeOf (.builtin id)=pure (.type "method_descriptor"))(hm:MtD X id g)(ho:AZ X o fo)
  (hbase:attributeBase o name X.env (eval o X.env)=eval o X.env:=by rfl) (hline:(apos.endLine == cpos.line)=true:=by rfl):AZ X (.Call (.Attribute o name apos) [] [] cpos) (CZ T g fo AJ) :=
 PE.weaken (ACz pa slot hty hm ho hbase hline) λσ H Q z3_=>by
  obtain⟨O,ρ,L,d,L',r,e,k⟩:=z3_;unfold CZ at e
  cases e1:fo ρ L with
  |none=>rw[e1] at e;cases e
  |some p =>
   rw[e1] at e;simp only[AS] at e;split at e
   .rename_i ht;refine⟨O,ρ,L,p.1,p.2,r,e1,λv H1 O1 st rs is=>⟨UI rs is ht,O1,p.2,p.1,[],d,L',rs,is,.nil,e,λw H' O' st' rs' is'=>k w H' O' (st.trans st') rs' is'⟩⟩
   .cases e
theorem Ew(pa:PlainAttrs T)(slot:Slot T name id)(hty:typeOf (.builtin id)=pure (.type "method_descriptor"))(hm:MtD X id g)(ho:AZ X o fo)(ha:Ed X (e::es) fa)
  (hbase:attributeBase o name X.env (eval o X.env)=eval o X.env:=by rfl)
  (hfew:decide ((e::es).length+([]:List Keyword).length+(if ([]:List Keyword).isEmpty then 0 else 1)<30)=true:=by rfl)
  (hline:(apos.endLine == cpos.line)=true:=by rfl) (hs:Dx e=true:=by rfl) (hplain:es.all Dx=true:=by rfl) :
  AZ X (.Call (.Attribute o name apos) (e::es) [] cpos) (CZ T g fo fa) :=
 PE.weaken (AC0 pa slot hty hm ho ha hbase (by rw[VS (by rw[AI1,hs,hplain];rfl),hfew];rfl) hline (Gq hs) (Hv hplain)) λσ H Q z3_=>by
  obtain⟨O,ρ,L,d,L',r,e,k⟩:=z3_;unfold CZ at e
  cases e1:fo ρ L with
  |none=>rw[e1] at e;cases e
  |some p =>
   rw[e1] at e;simp only[AS] at e;split at e
   .rename_i ht
    cases e2:fa ρ p.2 with
    |none=>rw[e2] at e;cases e
    |some q =>
     rw[e2] at e;simp only[AS] at e;refine⟨O,ρ,L,p.1,p.2,r,e1,λv H1 O1 st rs is=>⟨UI rs is ht,O1,ρ,p.2,q.1,q.2,r.to st rs,e2,λvs H2 O2 st2 rs2 is2=>?_⟩⟩;exact⟨O2,q.2,p.1,q.1,d,L',rs2,is.mono st2,is2,e,λw H' O' st' rs' is'=>k w H' O' ((st.trans st2).trans st') rs' is'⟩
   .cases e
def IG(f:Str->Bool):GM:=λx xs L=>match x,xs with|.str z,[]=>some (.bl (f z),L)|_,_=>none
def gS0s(f:Str->Str):GM:=λx xs L=>match x,xs with|.str z,[]=>if (f z).length<=16777216 then some (.str (f z),L) else none|_,_=>none
theorem Rc{id:String}{f:Str->Bool}(h:∀(z:Str) (t:Tok) (s:Shared) (Q E:AKP),Q (.bool (f z)) s->wpAny (model X.prog X.w) X.A (call (.builtin id) [.str z t]) Q E s):MtD X id (IG f) :=
 λpins s σ H x xs v us Q I rx rs z12_=>by
  obtain⟨O,L,dx,dxs,d,L',rp,ix,ixs,e,k⟩:=z12_;unfold IG at e;split at e
  .cases e;cases ix;cases ixs;cases rs;obtain⟨t,rfl⟩:=rx;exact h _ _ _ _ _ ⟨.bl _,H,I,rfl,k _ _ _ (.refl _ _) rp (.bl _)⟩
  .cases e
theorem WA{id:String}{f:Str->Str}(h:∀(z:Str) (t:Tok) (s:Shared) (Q E:AKP),Builtin.Str.tooLong (f z).length=false->Q (.str (f z) s.toks) {s with toks:=s.toks+1}->wpAny (model X.prog X.w) X.A (call (.builtin id) [.str z t]) Q E s):MtD X id (gS0s f) :=
 λpins s σ H x xs v us Q I rx rs z12_=>by
  obtain⟨O,L,dx,dxs,d,L',rp,ix,ixs,e,k⟩:=z12_;unfold gS0s at e;split at e
  .split at e
   .rename_i hz;cases e;cases ix;cases ixs;cases rs;obtain⟨t,rfl⟩:=rx;exact h _ _ _ _ _ (decide_eq_false (by rw[sizeLine_eq];omega)) ⟨.str _,H,I.tok _,⟨_,rfl⟩,k _ _ _ (.refl _ _) rp (.str _ hz)⟩
   .cases e
  .cases e
theorem ADu:MtD X "str.islower" (IG Txt.islower):=Rc λ_ _ _ _ _ h=>SC.islower h
theorem ADt:MtD X "str.isupper" (IG Txt.isupper):=Rc λ_ _ _ _ _ h=>SC.isupper h
theorem ADv:MtD X "str.isdigit" (IG Txt.isdigit):=Rc λ_ _ _ _ _ h=>SC.isdigit h
theorem Vy:MtD X "str.upper" (gS0s Txt.upper):=WA λ_ _ _ _ _ hz h=>SC.upper hz h
theorem WB:MtD X "str.lower" (gS0s Txt.lower):=WA λ_ _ _ _ _ hz h=>SC.lower hz h
def CS:List D->Option (List Str)
 |[]=>some []
 |.str x::r=>(CS r).map (x::·)
 |_=>none
theorem Ug{K:AM}{H:Hp}{O:List Addr}:∀{vs:List V} {ds:List D} {ys:List Str},AV K H O vs ds->CS ds=some ys->vs=ys.map V.str
 |_,_,_,.nil,e=>by cases e;rfl
 |_,d::ds,ys,.cons a b,e=>by
  cases a <;> simp only[CS] at e <;> try (cases e;done)
  cases q:CS ds with
  |none=>rw[q] at e;cases e
  |some r =>
   rw[q] at e;cases e;rw[Ug b q];rfl
theorem Qt:∀{ys:List Str} {us:List Value},Ae (ys.map V.str) us->StrsAre us ys
 |[],_,r=>by rw[AJK] at r;cases r;exact .nil
 |y::ys,_,r=>by
  rw[Ap] at r
  cases r with
  |cons r1 r2=>obtain⟨t,rfl⟩:=r1;exact .cons y t (Qt r2)
def Lj:GM:=λx xs L=>match x,xs with
 |.str sep,[y]=>(match DH y L with|some ds=>(match CS ds with|some ys=>if (ys.map (·.length)).sum+ys.length*sep.length<=16777216 then some (.str (Txt.join sep ys),L) else none|none=>none)|none=>none)
 |_,_=>none
theorem join_len(sep:Str)(ys:List Str):(Txt.join sep ys).length<=(ys.map (·.length)).sum+ys.length*sep.length:=by show(Builtin.Str.glued sep ys).length<=_;rw[size_glued];exact Nat.add_le_add_left (AI3 _ (Nat.sub_le _ _)) _
theorem ADs:MtD X "str.join" Lj:=λpins s σ H x xs v us Q I rx rs z12_=>by
 obtain⟨O,L,dx,dxs,d,L',rp,ix,ixs,e,k⟩:=z12_;unfold Lj at e;split at e
 .split at e
  .rename_i ds hd;split at e
   .rename_i ys hy;split at e
    .rename_i hz;cases e;cases ix
     cases ixs with|cons i1 i2 =>
      cases i2;obtain⟨t,rfl⟩:=rx;obtain⟨u,rfl,ru⟩:=FB rs;obtain⟨a,vs,rfl,hs,il⟩:=KM rp i1 hd;cases ru;have e1:=Ug il hy;subst e1;have fin:∀t' k',EP X pins σ Q (.str (Txt.join _ ys) t') {s with toks:=k'}:=λt' k'=>⟨.str _,H,I.tok _,⟨_,rfl⟩,k _ _ _ (.refl _ _) rp (.str _ (Ch (join_len _ _) hz))⟩;rcases hs with hs|hs
      .obtain⟨its,rv,pl,_⟩:=I.list hs;exact join_list pl.isList (by simpa using Qt rv) hz fin
      .obtain⟨its,rv,pl,_⟩:=I.tuple hs;exact join_tuple pl (by simpa using Qt rv) hz fin
    .cases e
   .cases e
  .cases e
 .cases e
def Fv:GM:=λx xs L=>match x,xs with
 |.ref k,[y]=>(match L[k]? with|some (.lst ds)=>if ds.length<16777216 then some (.non,L.set k (.lst (ds++[y]))) else none|_=>none)
 |_,_=>none
theorem Hx:MtD X "list.append" Fv:=Fj.weaken (show Fj X "list.append" VJ from Vv) λv vs H Q z4_=>by
 obtain⟨O,L,dx,dxs,d,L',rp,ix,ixs,e,k⟩:=z4_;unfold Fv at e;split at e
 .split at e
  .rename_i ds hd;split at e
   .rename_i hz;cases e
    cases ix with|@ref kk a hk =>
     cases ixs with|@cons v1 y1 _ _ i1 i2 =>
      cases i2;obtain⟨ws,hw,il⟩:=rp.ob _ _ _ hk hd;refine⟨_,ws,_,rfl,rfl,hw,by rw[il.length,sizeLine_eq];exact hz,?_⟩;have st:Ah H O (upd H a (.lst (ws++[v1]))) O:=⟨.write hw id,As _⟩;exact k _ _ _ st (rp.write (o':=.lst (ds++[_])) hk ⟨_,CI,(il.mono st).append (.cons (i1.mono st) .nil)⟩) .non
   .cases e
  .cases e
 .cases e
end
def KG(x:D)(L:AD):Option String:=match x with
 |.non=>some "NoneType" | .bl _=>some "bool" | .int _=>some "int" | .str _=>some "str" | .tup _=>some "tuple" | .fz _=>some "list"
 |.ref k=>(match L[k]? with|some (.lst _)=>some "list" | some (.dk _)=>some "dict" | _=>none)
 |.ty _=>none
def Kc(t T:String):Bool:=t == T || (t == "bool"&&T == "int")
def FF:GL:=λxs L=>match xs with
 |[x,.ty T]=>if ["int","str","bool","list","tuple","dict"].contains T then (KG x L).map λt=>(.bl (Kc t T),L) else none
 |_=>none
section
variable {X:Cx}
theorem Io(K:AM){t T:String}(ht:t∈["NoneType","bool","int","str","tuple","list","dict"])(hT:T∈["int","str","bool","list","tuple","dict"]):AIz K (.type t) (.type T)=some (Kc t T):=by
 simp only[Ac,EN,or_false] at ht hT
 rcases ht with rfl|rfl|rfl|rfl|rfl|rfl|rfl <;> rcases hT with rfl|rfl|rfl|rfl|rfl|rfl <;> first|rfl|decide
theorem IR:Fp X (.builtin "isinstance") FF:=λpins s σ H xs us Q I r z9_=>by
 obtain⟨O,L,ds,d,L',rp,is,e,k⟩:=z9_;unfold FF at e;split at e
 .rename_i x T;split at e
  .rename_i hT;have hT':T∈["int","str","bool","list","tuple","dict"]:=by simpa using hT
   cases is with|cons i1 i2=>cases i2 with|cons i3 i4 =>
    cases i4;cases i3;obtain⟨u,u2,rfl,r1,r2⟩:=UE r;cases r2
    cases ht:KG x L with
    |none=>rw[ht] at e;cases e
    |some t =>
     rw[ht] at e;cases e;have fin:∀tk,EP X pins σ Q (.bool (Kc t T)) {s with toks:=tk}:=λtk=>⟨.bl _,H,I.tok _,rfl,k _ _ _ (.refl _ _) rp (.bl _)⟩
     cases i1 with
     |non=>cases ht;exact Kb I r1 .non (Io _ (by simp) hT') fin
     |bl b=>cases ht;exact Kb I r1 (.bl b) (Io _ (by simp) hT') fin
     |int b=>cases ht;exact Kb I r1 (.int b) (Io _ (by simp) hT') fin
     |str b _=>cases ht;exact Kb I r1 (.str b) (Io _ (by simp) hT') fin
     |tup hq il =>
      cases ht;cases r1;obtain⟨its,rv,pl,_⟩:=I.tuple hq;obtain⟨o,h1,h2,_⟩:=pl;exact GD PySem.W.kitx_tuple I.kIn ⟨o,h1,h2⟩ (Io _ (by simp) hT') (λz=>nomatch z) fin
     |fz hq il =>
      cases ht;cases r1;obtain⟨its,rv,pl,_⟩:=I.list hq.sql;obtain⟨o,h1,h2,_⟩:=pl.isList;exact GD PySem.W.kitx_list I.kIn ⟨o,h1,h2⟩ (Io _ (by simp) hT') (λz=>nomatch z) fin
     |ref hk =>
      simp only[KG] at ht;split at ht
      .rename_i e2;cases ht;obtain⟨vs,hv,_⟩:=rp.ob _ _ _ hk e2;exact Kb I r1 (.lst hv) (Io _ (by simp) hT') fin
      .rename_i e2;cases ht;obtain⟨vs,hv,_⟩:=rp.ob _ _ _ hk e2;exact Kb I r1 (.dK hv) (Io _ (by simp) hT') fin
      .cases ht
     |ty n=>cases ht
  .cases e
 .cases e
theorem IL{x:Str}{T:String}{pos:Pos}(hm:X.mg x=none)(hv:bootBuiltins x=some (.type T))(hg:Gl X x:=by rfl)(hn:x≠"__name__":=by decide)(hd:(x == ("__debug__":Str))=false:=by decide):AZ X (.Name x pos) (AE (.ty T)) :=
 Kk (AC1 hg hm hv (v:=.ty T) rfl hn hd) λ_ _=>.ty T
theorem AFg{x:Str}{v:V}{u:Value}{d:D}{pos:Pos}(hm:X.mg x=some u)(r:Ab v u)(i:∀H O,Is X.K H O v d)(hg:Gl X x:=by rfl)(hd:(x == ("__debug__":Str))=false:=by decide):AZ X (.Name x pos) (AE d):=Kk (ACt hg hm r hd) i
end
def Xz(names fnames:List (Str×NameKind))(N N':List Str)(n:Nat)(idx:List Nat):Bool :=
 names.all (λp=>!(p.2 == .cell))&&names.all (λp=>!(p.2 == .local) || names.lookup p.1 == some .local)&&names.all (λp=>!(p.2 == .free) || fnames.lookup p.1 == some .cell || fnames.lookup p.1 == some .free) &&
 N'.length == n+idx.length&&(List.range idx.length).all λj=>match idx[j]? with
  |some i=>(match N'[n+j]?,N[i]? with|some x,some y=>x == y&&names.contains (x,.free)&&names.all (λp=>!(p.1 == x) || p.2 == .free)|_,_=>false)
  |none=>false
theorem El{X:Cx}{scope:Scope}{N N':List Str}{n:Nat}{idx:List Nat}{fnames:List (Str×NameKind)}(h1:scope.kind=.function)(hk:∀x,X.env.kindOf x=fnames.lookup x)(hN:X.N=N)(hc:Xz scope.names fnames N N' n idx=true):Od X scope N' n idx:=by
 subst hN;unfold Xz at hc;simp only[CA] at hc;obtain⟨⟨⟨⟨c1,c2⟩,c3⟩,c4⟩,c5⟩:=hc;rw[De] at c1 c2 c3 c5;refine⟨h1,λy hy e=>?_,λy hy e=>?_,λy hy e=>?_,beq_iff_eq.mp c4,λj i e=>?_⟩
 .have:=c1 y hy;rw[e] at this;exact absurd this (by decide)
 .have:=c2 y hy;rw[e] at this;simpa using this
 .have:=c3 y hy;rw[e] at this;rw[hk];simpa using this
 .have hj:=(BQ.mp e).1;have:=c5 j (Dd.mpr hj);rw[e] at this;simp only at this
  cases q1:N'[n+j]? with
  |none=>simp[q1] at this
  |some x =>
   cases q2:X.N[i]? with
   |none=>simp[q1,q2] at this
   |some y =>
    simp only[q1,q2,CA] at this;obtain⟨⟨a1,a2⟩,a3⟩:=this;have a1':x=y:=beq_iff_eq.mp a1;subst a1';refine⟨x,rfl,rfl,by simpa using a2,λk hk'=>?_⟩;rw[De] at a3;have:=a3 _ hk';simpa using this
open PySem.W in
theorem AGT{l:OpenLaw}{n:Nat}{q:Program}{loose:List Str}{XP:(AKO)->Heap->Prop}{YP:World->Heap->Prop}{d:DefRec}
  (hn:l.most=some n) (hdf:d.params.defaults=[])
  (call:∀(w:World) (s₀ s₁:Shared) (mg mb:AKO) (fa:Addr) (a:Addr) (vs:List Value) (ns:List Int),
   Ground q loose [] XP w s₀ mg mb s₁.heap->YP w s₁.heap->mg d.name=some (.ref fa) ->
   s₁.heap.get? a=some {cls:=.type "list",data:=.seq vs.toArray}->IntsAre vs ns->ns.length<=n->(∀z∈ns,Builtin.Int.intBits z<=1048576)->s₁.gens=#[] ->
   codeAny (model l.prog w) callerA (.call (.ref fa) ⟨[.ref a],[]⟩) (λr s'=>r=.ok (.ret (.bool true))/\OldK s₁.heap s'.heap/\s'.os=s₁.os/\AllBare s'.gens) s₁) :
  WalkO q loose XP YP l.row.toRowW d [] (λf vs=>PySem.call f vs):=by
 intro w s₀ s₁ mg mb G Y fa o pm cd doc dV kV ho hd hcd hD hmg hg args vals as hpre hlay hrd hwl hlo;obtain rfl:dV=.none:=Dflts.none hD hdf;obtain rfl:kV=.none:=Dflts.noKw hD;obtain⟨a,vs,ns,rfl,rfl,hobj,hints,hlen⟩:=Att.AHk hn hpre hwl
 have hb:∀z∈ns,Builtin.Int.intBits z<=1048576:=λz hz=>by
  have h1:=layableW_arg hlay _ BN;have h2:=layableW_item h1 (.int z) (BV.mpr ⟨z,hz,rfl⟩);have h3:=(layableW_iff.mp h2).2.2;simpa only[WData.weight,Builtin.Int.intBits] using h3
 refine enter_call (codeAny_mono (call w s₀ s₁ mg mb fa a vs ns G Y hmg hobj hints hlen hb hg) λr s' hq=>?_);obtain⟨rfl,h2,h3,h4⟩:=hq;exact⟨.inl ⟨.bool true,.bool true,[],rfl,λ_=>rfl,.bool true,Att.AHo l _,λ_=>⟨List.Pairwise.nil,λ_ hm=>(nomatch hm)⟩⟩,h2,h3,h4⟩
theorem Wf{K:AM}{H:Hp}{O:List Addr}:∀ns:List Int,AV K H O (ns.map V.int) (ns.map D.int)
 |[]=>.nil
 |n::ns=>.cons (.int n) (Wf ns)
theorem walk_f{l:PySem.W.OpenLaw}{n k:Nat}{q:Program}{loose:List Str}{XP:(AKO)->Heap->Prop}{YP:World->Heap->Prop}{d:DefRec}{K:Params->AM}{x:Str}{G:GL}
  (hn:l.most=some n) (hn2:n<=sizeLine) (hdf:d.params.defaults=[]) (hr:Bq k callerA)
  (hY:∀(w:World) (h:Heap),YP w h->(K w.params).In h)
  (F:∀(w:World) (mg:AKO) (fa:Addr) (h:Heap),(K w.params).In h->h.Ns mainGlobals mg->mg d.name=some (.ref fa) ->
   ∃fd:FuncData,(∀(s:Shared) (u:Value),BindsTo s fd ⟨[u],[]⟩ [(x,u)]) /\
    ∀base:Heap,(K w.params).In base->base.Ns mainGlobals mg->Dv l.prog w (K w.params) mg base CX0 k fa fd [x] (JQ (K w.params) G))
  (hG:∀ns:List Int,ns.length<=n->(∀z∈ns,Builtin.Int.intBits z<=1048576)->∃L',G [.fz (ns.map .int)] []=some (.bl true,L')) :
  PySem.W.WalkO q loose XP YP l.row.toRowW d [] (λf vs=>PySem.call f vs):=by
 refine AGT hn hdf λw s₀ s₁ mg mb fa a vs ns GG Y hmg hobj hints hlen hb hg=>?_;have KX:=hY w _ Y;obtain⟨fd,hbd,hF⟩:=F w mg fa _ KX GG.T.g hmg;refine AEQ KX GG.T.g GG.T.b GG.T.builtins GG.T.nolimit hg hobj hints (Ch hlen hn2) hr hF hbd (λH hO hS=>?_) λH e s' h=>h;obtain⟨L',e⟩:=hG ns hlen hb
 have hS':SqF (K w.params) H a (ns.map V.int):=by
  rcases hS with(h|h)|h
  .rcases hO a with z|⟨o,xs,z⟩
   .rw[h] at z;cases z
   .rw[h] at z;cases z
  .exact .inl h
  .exact .inr h
 exact⟨[],[],[.fz (ns.map .int)],.bl true,L',⟨rfl,AIr,λk a o e=>by simp at e⟩,.cons (.fz hS' (Wf ns)) .nil,e,λw' H' O' st rs is=>by cases is;rfl⟩
section
variable {X:Cx}{a l tg:Expr}{f:EF}{pos:Pos}
def Hg:G1:=λx L=>match x with|.int i=>some (.int (-i),L)|_=>none
theorem Jg(ha:AZ X a f):AZ X (.UnaryOp .USub a pos) (BU Hg f):=PE.weaken (ACg AAG ha) λσ H Q z3_=>by
 obtain⟨O,ρ,L,d,L',r,e,k⟩:=z3_;unfold BU at e
 cases e1:f ρ L with
 |none=>rw[e1] at e;cases e
 |some p =>
  rw[e1] at e;obtain⟨x,L1⟩:=p
  cases x <;> simp only[AS,Hg] at e <;> try (cases e;done)
  cases e;refine⟨O,ρ,L,_,_,r,e1,λv H1 O1 st rs is=>?_⟩;cases is;exact⟨_,rfl,k _ _ _ st rs (.int _)⟩
structure Ef (K:AM) (mg:AKO) (x:Str) (d:D):Prop where
 ex:∃v u,mg x=some u/\Ab v u/\∀H O,Is K H O v d
theorem IM{x:Str}{d:D}(h:Ef X.K X.mg x d)(hg:Gl X x:=by rfl)(hd:(x == ("__debug__":Str))=false:=by decide):AZ X (.Name x pos) (AE d):=by obtain⟨v,u,a,b,c⟩:=h.ex;exact AFg a b c hg hd
def Ka(d:D)(L:AD):Option MH:=match d with
 |.tup xs=>some ⟨xs,λ_=>true⟩
 |.fz xs=>some ⟨xs,λ_=>true⟩
 |.ref k=>(match L[k]? with|some (.lst xs)=>some ⟨xs,λL'=>decide (L'[k]?=some (.lst xs))⟩|_=>none)
 |.str y=>some ⟨sgs y,λ_=>true⟩
 |_=>none
def CB(f:EF):IF:=λρ L=>(f ρ L).bind λx=>(Ka x.1 x.2).bind λJ=>some (J,x.2)
theorem Ce(hl:AZ X l f):Ey X tg l (CB f):=λpins s σ H R I z6_=>by
 obtain⟨O,ρ,L,J,L',r,e,k⟩:=z6_;unfold CB at e
 cases e1:f ρ L with
 |none=>rw[e1] at e;cases e
 |some p =>
  rw[e1] at e;obtain⟨d,L1⟩:=p;simp only[AS] at e
  cases d <;> simp only[Ka,AS,Option.bind_none] at e <;> try (cases e;done)
  .exact ACS hl pins s σ H R I ⟨O,ρ,L,J,L',r,by simp only[Rt,e1,AS];exact e,k⟩
  .exact ACR hl pins s σ H R I ⟨O,ρ,L,J,L',r,by simp only[Rs,e1,AS];exact e,k⟩
  .exact VX hl pins s σ H R I ⟨O,ρ,L,J,L',r,by simp only[Nn,e1,AS];exact e,k⟩
  .rename_i kk;refine VX hl pins s σ H R I ⟨O,ρ,L,J,L',r,?_,k⟩;simp only[Nn,e1,AS]
   cases e2:L1[kk]? with
   |none=>rw[e2] at e;cases e
   |some o=>rw[e2] at e;cases o <;> simp at e ⊢ <;> exact e
end
theorem SO:bootBuiltins "int"=some (.type "int"):=by decide +kernel
theorem OJ:bootBuiltins "str"=some (.type "str"):=by decide +kernel
theorem AGH:bootBuiltins "bool"=some (.type "bool"):=by decide +kernel
theorem AGG:bootBuiltins "list"=some (.type "list"):=by decide +kernel
theorem HD:bootBuiltins "tuple"=some (.type "tuple"):=by decide +kernel
theorem DC:bootBuiltins "len"=some (.builtin "len"):=by decide +kernel
theorem YH:bootBuiltins "abs"=some (.builtin "abs"):=by decide +kernel
theorem YG:bootBuiltins "min"=some (.builtin "min"):=by decide +kernel
theorem AGI:bootBuiltins "all"=some (.builtin "all"):=by decide +kernel
theorem HE:bootBuiltins "isinstance"=some (.builtin "isinstance"):=by decide +kernel
def BW(mg:AKO)(ns:List Str):Prop:=∀x∈ns,mg x=none
theorem BW.get{mg:AKO}{ns:List Str}(h:BW mg ns)(x:Str)(hx:x∈ns:=by decide):mg x=none:=h x hx
def Bg(p:Program)(i:Nat):Stmt:=p.main.body.getD i (.Pass ⟨0,0,0,0⟩)
def Ax(B:SF)(N:List Str)(n:Nat):GL:=λxs L=>if xs.length=n then
  (match B (DP N xs) L with
   |some (.ret d L2)=>some (if d.noRef=true/\L2.take L.length=L then (d,L) else (d,L2))
   |some (.next _ L2)=>some (if L2.take L.length=L then (.non,L) else (.non,L2))
   |_=>none)
 else none
theorem NP{L L2:AD}(h:L2.take L.length=L):L <+: L2:=⟨L2.drop L.length,by have:=AJn L.length L2;rw[h] at this;exact this⟩
theorem NI{B:SF}{N:List Str}{n:Nat}{xs:List D}{L:AD}{d:D}{L':AD}(h:Ax B N n xs L=some (d,L')):Yg B N xs L d L':=by
 unfold Ax at h;split at h
 .split at h
  .rename_i d2 L2 e;split at h
   .rename_i c;cases h;exact⟨L2,.inl e,.inr ⟨rfl,NP c.2,c.1⟩⟩
   .cases h;exact⟨_,.inl e,.inl rfl⟩
  .rename_i ρ L2 e;split at h
   .rename_i c;cases h;exact⟨L2,.inr ⟨rfl,ρ,e⟩,.inr ⟨rfl,NP c,rfl⟩⟩
   .cases h;exact⟨_,.inr ⟨rfl,ρ,e⟩,.inl rfl⟩
  .cases h
 .cases h
theorem NJ{B:SF}{N:List Str}{n:Nat}{xs:List D}{L:AD}{r:D×AD}(h:Ax B N n xs L=some r):xs.length=n:=by
 unfold Ax at h;split at h
 .assumption
 .cases h
section
variable {P:Program}{w:World}{K:AM}{mg:AKO}{base:Heap}
theorem OA{x qual:Str}{st:Stmt}{f:Addr}{fd:FuncData}{N ps:List Str}{k:Nat}{B:SF}(Fn:Ho K x qual st f fd)(S:BP N ps (Aa st))
  (hb:∀(cdv:Value) (A:Around) (outer:List Env) (s:Shared) (H:Hp) (E:XK),Bq k (A.deeper (envOfC qual (Aa st) s.heap.objs.size f cdv)) ->
   FM (Dt CX0 P w K mg base N qual (Aa st) f cdv A outer s H E).nox (Ff st) B)
  (bi:Ez K fd ps []) (m:mg x=some (.ref f)) (kp:GH K (.ref f)=true):BA P w K mg base (k+1) x (Ax B N ps.length) :=
 ⟨f,fd,ps,SE Fn S _ B (λ_ _ _ h=>NJ h) hb (λ_ _ _ _ h=>NI h),m,kp,bi⟩
structure TupK (K:AM) (u:Value) (d:D):Prop where
 ex:∃v,Ab v u/\∀H O,Is K H O v d
theorem Hs{i:Int}{t:Tok}:TupK K (.int i t) (.int i):=⟨.int i,⟨t,rfl⟩,λ_ _=>.int i⟩
theorem EQ{x:Str}{t:Tok}(h:x.length<=16777216):TupK K (.str x t) (.str x):=⟨.str x,⟨t,rfl⟩,λ_ _=>.str x h⟩
theorem AAR:TupK K .none .non:=⟨.non,rfl,λ_ _=>.non⟩
inductive TupsK (K:AM):List Value->List D->Prop
 |nil:TupsK K [] []
 |cons {u:Value} {d:D} {us:List Value} {ds:List D}:TupK K u d->TupsK K us ds->TupsK K (u::us) (d::ds)
theorem TupsK.get:∀{us:List Value} {ds:List D},TupsK K us ds->∃vs,Ae vs us/\∀H O,AV K H O vs ds
 |_,_,.nil=>⟨[],.nil,λ_ _=>.nil⟩
 |_,_,.cons a b=>by
  obtain⟨v,r,i⟩:=a.ex;obtain⟨vs,rs,is⟩:=b.get;exact⟨v::vs,.cons r rs,λH O=>.cons (i H O) (is H O)⟩
theorem HU{a:Addr}{od:Option Addr}{its:List Value}{n:Nat}{sl:Array (Option Value)}{ds:List D}(l:K.lookup a=some ⟨.type "tuple",od,.seq its.toArray n,sl⟩)(hz:its.length<=sizeLine)(t:TupsK K its ds):TupK K (.ref a) (.tup ds):=by obtain⟨vs,rv,is⟩:=t.get;exact⟨.ref a,rfl,λH O=>.tup (.inr ⟨_,its.toArray,n,l,rfl,rfl,by simpa using hz,by simpa using rv⟩) (is H O)⟩
theorem Ir{x:Str}{u:Value}{d:D}(m:mg x=some u)(t:TupK K u d):Ef K mg x d:=by obtain⟨v,r,i⟩:=t.ex;exact⟨v,u,m,r,i⟩
end
theorem WR{α:Type}{us:List α}(h:us.length=1):∃a,us=[a]:=List.length_eq_one_iff.mp h
theorem Ri{α:Type}{us:List α}{n:Nat}(h:us.length=n+1):∃a vs,us=a::vs/\vs.length=n:=by
 cases us with
 |nil=>cases h
 |cons a vs=>exact⟨a,vs,rfl,Nat.succ.inj h⟩
theorem AEN{α:Type}{us:List α}(h:us.length=0):us=[]:=AJN.mp h
theorem JV{α:Type}{us:List α}(h:us.length=2):∃a b,us=[a,b]:=by obtain⟨a,vs,rfl,h'⟩:=Ri h;obtain⟨b,rfl⟩:=WR h';exact⟨a,b,rfl⟩
theorem Im{α:Type}{us:List α}(h:us.length=3):∃a b c,us=[a,b,c]:=by obtain⟨a,vs,rfl,h'⟩:=Ri h;obtain⟨b,c,rfl⟩:=JV h';exact⟨a,b,c,rfl⟩
theorem AEM{α:Type}{us:List α}(h:us.length=4):∃a b c d,us=[a,b,c,d]:=by obtain⟨a,vs,rfl,h'⟩:=Ri h;obtain⟨b,c,d,rfl⟩:=Im h';exact⟨a,b,c,d,rfl⟩
def DG(x:D)(L:AD):Option (Bool×List D):=match x with
 |.tup xs=>some (true,xs)
 |.fz xs=>some (false,xs)
 |.ref k=>(match L[k]? with|some (.lst xs)=>some (false,xs)|_=>none)
 |_=>none
def IT:List (Option Bool)->Option Bool
 |[]=>some true
 |none::_=>none
 |some b::r=>(IT r).map (b&&·)
def Dk:Nat->AD->D->D->Option Bool
 |0,_,_,_=>none
 |n+1,L,x,y =>
  if BR x=true then (if BR y=true then some (Kj x y) else (DG y L).map λ_=>false)
  else (DG x L).bind λp=>if BR y=true then some false else (DG y L).bind λq =>
   if p.1=q.1 then (IT ((p.2.zip q.2).map λz=>Dk n L z.1 z.2)).map (·&&p.2.length == q.2.length) else some false
theorem SH(n:Nat)(L:AD)(x y:D):Dk (n+1) L x y=if BR x=true then (if BR y=true then some (Kj x y) else (DG y L).map λ_=>false)
  else (DG x L).bind λp=>if BR y=true then some false else (DG y L).bind λq =>
   if p.1=q.1 then (IT ((p.2.zip q.2).map λz=>Dk n L z.1 z.2)).map (·&&p.2.length == q.2.length) else some false:=rfl
theorem Sa:∀{os:List (Option Bool)} {b:Bool},IT os=some b->∃bs:List Bool,os=bs.map some/\b=bs.all id
 |[],b,h=>by cases h;exact⟨[],rfl,rfl⟩
 |none::_,b,h=>by cases h
 |some c::r,b,h=>by
  simp only[IT] at h
  cases e:IT r with
  |none=>rw[e] at h;cases h
  |some d =>
   rw[e] at h;cases h;obtain⟨bs,e1,e2⟩:=Sa e;exact⟨c::bs,by rw[e1];rfl,by rw[e2];rfl⟩
section
variable {X:Cx}{pins:List (Addr×Obj)}{σ:L2.St}{H:Hp}{s:Shared}{O:List Addr}{L:AD}
theorem HX(I:AI X pins σ H s)(rs:Am X.K H O L){v:V}{x:D}{t:Bool}{xs:List D}(i:Is X.K H O v x)(e:DG x L=some (t,xs)) :
  ∃(a:Addr) (vs:List V) (its:List Value),v=.ref a/\AV X.K H O vs xs/\Ae vs its/\(if t=true then s.heap.IsTuple a its.toArray else s.heap.IsList a its.toArray):=by
 cases i with
 |tup h il =>
  cases e;obtain⟨its,r,hp,_⟩:=I.tuple h;exact⟨_,_,its,rfl,il,r,hp⟩
 |fz h il =>
  cases e;obtain⟨its,r,hp,_⟩:=I.list h.sql;exact⟨_,_,its,rfl,il,r,hp.isList⟩
 |ref hk =>
  simp only[DG] at e;split at e
  .rename_i ys e2;cases e;obtain⟨vs,hv,iv⟩:=rs.ob _ _ _ hk e2;obtain⟨its,r,hp,_⟩:=I.list (BY.of hv);exact⟨_,vs,its,rfl,iv,r,hp.isList⟩
  .cases e
 |_=>cases e
theorem ABX{a:Addr}{us ws:List Value}{t:Bool}(h1:if t=true then s.heap.IsTuple a us.toArray else s.heap.IsList a us.toArray)(h2:if t=true then s.heap.IsTuple a ws.toArray else s.heap.IsList a ws.toArray):us=ws:=by
 have q:us.toArray=ws.toArray:=by
  cases t
  .obtain⟨o,ho,hc,n,hd⟩:=h1;obtain⟨o2,ho2,hc2,n2,hd2⟩:=h2;rw[ho] at ho2;cases ho2;rw[hd] at hd2;cases hd2;rfl
  .obtain⟨o,ho,hc,n,hd⟩:=h1;obtain⟨o2,ho2,hc2,n2,hd2⟩:=h2;rw[ho] at ho2;cases ho2;rw[hd] at hd2;cases hd2;rfl
 simpa using congrArg Array.toList q
theorem XZ{v:V}{x:D}{a:Addr}(i:Is X.K H O v x)(f:BR x=true):v≠.ref a:=by cases i <;> first|(intro z;cases z;done)|(simp[BR] at f)
theorem AFY{x:D}(f:BR x=true):Kj x x=true:=by
 cases x with
 |non=>rfl
 |bl b=>exact(beq_self_eq_true b:(b == b)=true)
 |int b=>exact(beq_self_eq_true b:(b == b)=true)
 |str b=>exact(beq_self_eq_true b:(b == b)=true)
 |_=>exact Gk (show false=true from f)
theorem Xd(I:AI X pins σ H s)(rs:Am X.K H O L):∀(n:Nat) {v:V} {x y:D} {b:Bool},Is X.K H O v x->Is X.K H O v y->Dk n L x y=some b->b=true
 |0,_,_,_,_,_,_,e=>by cases e
 |n+1,v,x,y,b,ix,iy,e=>by
  simp only[Dk] at e
  by_cases fx:BR x=true
  .rw[if_pos fx] at e
   by_cases fy:BR y=true
   .rw[if_pos fy] at e;cases e;have:x=y:=(JO fx fy).mp ((Ev ix fx).symm.trans (Ev iy fy));subst this;exact AFY fx
   .rw[if_neg fy] at e
    cases hy:DG y L with
    |none=>rw[hy] at e;cases e
    |some q =>
     obtain⟨a,_,_,hv,_⟩:=HX I rs iy hy;exact absurd hv (XZ ix fx)
  .rw[if_neg fx] at e
   cases hx:DG x L with
   |none=>rw[hx] at e;cases e
   |some p =>
    rw[hx] at e;simp only[AS] at e;obtain⟨a,vs,its,hv,il,r,hp⟩:=HX I rs ix hx
    by_cases fy:BR y=true
    .exact absurd hv (XZ iy fy)
    .rw[if_neg fy] at e
     cases hy:DG y L with
     |none=>rw[hy] at e;cases e
     |some q =>
      rw[hy] at e;simp only[AS] at e;obtain⟨a',vs',its',hv',il',r',hp'⟩:=HX I rs iy hy;rw[hv] at hv';cases hv';obtain⟨t,xs⟩:=p;obtain⟨t',ys⟩:=q;simp only at e hp hp' il il'
      by_cases ht:t=t'
      .subst ht;rw[if_pos rfl] at e;have hits:=ABX hp hp';subst hits;have hvs:=r.inj r';subst hvs
       cases q:IT ((xs.zip ys).map λz=>Dk n L z.1 z.2) with
       |none=>rw[q] at e;cases e
       |some c =>
        rw[q] at e;cases e;obtain⟨bs,e1,rfl⟩:=Sa q;rw[CA];refine⟨?_,beq_iff_eq.mpr (il.length.symm.trans il'.length)⟩;rw[De];intro c hc;obtain⟨j,hj,rfl⟩:=AJX hc;have e2:((xs.zip ys).map λz=>Dk n L z.1 z.2)[j]?=some (some bs[j]):=by rw[e1];simp[hj]
        rw[BD] at e2
        cases e3:(xs.zip ys)[j]? with
        |none=>rw[e3] at e2;cases e2
        |some z =>
         rw[e3] at e2;simp only[AJY,Option.some.injEq] at e2;rw[List.getElem?_zip_eq_some] at e3;obtain⟨v1,h1,i1⟩:=il.get e3.1;obtain⟨v2,h2,i2⟩:=il'.get e3.2;rw[h1] at h2;cases h2;exact Xd I rs n i1 i2 e2
      .exfalso
       cases t <;> cases t' <;> first|exact ht rfl|skip
       .exact SeqAt.ne_of_list_tuple hp hp' rfl
       .exact SeqAt.ne_of_list_tuple hp' hp rfl
theorem XY{A:Around}{v u:V}{a:Addr}{w w':Value}{its:List Value}{t:Bool}(hu:A.units<cLine)(f:Gb v=true)(rv:Ab v w)(hp:if t=true then s.heap.IsTuple a its.toArray else s.heap.IsList a its.toArray) :
  SeqAt.EqAt A s w (.ref a) false/\SeqAt.EqAt A s (.ref a) w false:=by
 cases v with
 |non=>cases rv;cases t;exact⟨.none_list hp hu,.list_none hp hu⟩;exact⟨.none_tuple hp hu,.tuple_none hp hu⟩
 |bl b=>cases rv;cases t;exact⟨.bool_list b hp hu,.list_bool b hp hu⟩;exact⟨.bool_tuple b hp hu,.tuple_bool b hp hu⟩
 |int b=>obtain⟨k,rfl⟩:=rv;cases t;exact⟨.int_list b k hp hu,.list_int b k hp hu⟩;exact⟨.int_tuple b k hp hu,.tuple_int b k hp hu⟩
 |str b=>obtain⟨k,rfl⟩:=rv;cases t;exact⟨.str_list b k hp hu,.list_str b k hp hu⟩;exact⟨.str_tuple b k hp hu,.tuple_str b k hp hu⟩
 |_=>cases f
theorem Ya(bs:List Bool):(List.range bs.length).all (λj=>bs.getD j false)=bs.all id:=by
 rw[AJJ,De,De];constructor
 .intro h c hc;obtain⟨j,hj,rfl⟩:=AJX hc;have:=h j (Dd.mpr hj);simpa[hj] using this
 .intro h j hj;have hj':=Dd.mp hj;have:=h bs[j] (List.getElem_mem hj');simpa[hj'] using this
theorem AC6{A:Around}{xs ys:List D}{vs ws:List V}{us zs:List Value}{n:Nat}{bs:List Bool}(ix:AV X.K H O vs xs)(iy:AV X.K H O ws ys)(rx:Ae vs us)(ry:Ae ws zs)
  (e1:(xs.zip ys).map (λz=>Dk n L z.1 z.2)=bs.map some)
  (rec:∀{v w:V} {x y:D} {u z:Value} {b:Bool},Is X.K H O v x->Is X.K H O w y->Ab v u->Ab w z->Dk n L x y=some b->SeqAt.EqAt A s u z b) :
  ∀j (h1:j<us.toArray.size) (h2:j<zs.toArray.size),SeqAt.EqAt A s us.toArray[j] zs.toArray[j] (bs.getD j false):=by
 intro j h1 h2;have h1':j<us.length:=by simpa using h1
 have h2':j<zs.length:=by simpa using h2
 have hx:j<xs.length:=by rw[<-ix.length,rx.length];exact h1'
 have hy:j<ys.length:=by rw[<-iy.length,ry.length];exact h2'
 obtain⟨v,hv,iv⟩:=ix.get (i:=j) (d:=xs[j]) (by simp[hx]);obtain⟨w,hw,iw⟩:=iy.get (i:=j) (d:=ys[j]) (by simp[hy]);obtain⟨u,hu,ru⟩:=rx.get hv;obtain⟨z,hz,rz⟩:=ry.get hw
 have eu:us.toArray[j]=u:=by have:=BQ.mp hu;obtain⟨_,q⟩:=this;simpa using q
 have ez:zs.toArray[j]=z:=by have:=BQ.mp hz;obtain⟨_,q⟩:=this;simpa using q
 rw[eu,ez]
 have hb:j<bs.length:=by have:=congrArg List.length e1;simp at this;omega
 have e2:((xs.zip ys).map λz=>Dk n L z.1 z.2)[j]?=some (some bs[j]):=by rw[e1];simp[hb]
 have e3:(xs.zip ys)[j]?=some (xs[j],ys[j]):=by rw[List.getElem?_zip_eq_some];exact⟨by simp[hx],by simp[hy]⟩
 rw[BD,e3] at e2;simp only[AJY,Option.some.injEq] at e2;have e4:bs.getD j false=bs[j]:=by simp[hb]
 rw[e4];exact rec iv iw ru rz e2
theorem Qx{A:Around}{a c:Addr}{xs ys:List D}{vs ws:List V}{us zs:List Value}{n:Nat}{t b:Bool}(hu:A.units<cLine)(ix:AV X.K H O vs xs)(iy:AV X.K H O ws ys)(rx:Ae vs us)(ry:Ae ws zs)
  (hp:if t=true then s.heap.IsTuple a us.toArray else s.heap.IsList a us.toArray) (hq:if t=true then s.heap.IsTuple c zs.toArray else s.heap.IsList c zs.toArray)
  (e:(IT ((xs.zip ys).map λz=>Dk n L z.1 z.2)).map (·&&xs.length == ys.length)=some b)
  (rec:∀{v w:V} {x y:D} {u z:Value} {b:Bool},Is X.K H O v x->Is X.K H O w y->Ab v u->Ab w z->Dk n L x y=some b->SeqAt.EqAt A.in1 s u z b) :
  SeqAt.RcAt A s (.ref a) (.ref c) b/\SeqAt.RcNeAt A s (.ref a) (.ref c) (!b):=by
 cases q:IT ((xs.zip ys).map λz=>Dk n L z.1 z.2) with
 |none=>rw[q] at e;cases e
 |some k =>
  rw[q] at e;cases e;obtain⟨bs,e1,rfl⟩:=Sa q;have he:=AC6 ix iy rx ry e1 rec;have lx:us.toArray.size=xs.length:=by simp[<-rx.length,ix.length]
  have ly:zs.toArray.size=ys.length:=by simp[<-ry.length,iy.length]
  have lb:bs.length=min xs.length ys.length:=by have:=congrArg List.length e1;simpa using this.symm
  cases t
  .by_cases hl:xs.length=ys.length
   .have h1:=SeqAt.RcAt.lists hp hq (by omega) hu he;have h2:=SeqAt.RcNeAt.lists hp hq (by omega) hu he;rw[show us.toArray.size=bs.length by omega,Ya] at h1 h2;have:(xs.length == ys.length)=true:=beq_iff_eq.mpr hl;rw[this];simp only[Bool.and_true];exact⟨h1,h2⟩
   .have:(xs.length == ys.length)=false:=by simpa using hl
    rw[this];simp only[Bool.and_false];have hne:(us.toArray.size != zs.toArray.size)=true:=by rw[lx,ly];simpa using hl
    exact⟨SeqAt.RcAt.lists_lengths hp hq hne hu,SeqAt.RcNeAt.lists_lengths hp hq hne hu⟩
  .have h1:=SeqAt.RcAt.tuples hp hq hu he;have h2:=SeqAt.RcNeAt.tuples hp hq hu he;rw[lx,ly,<-lb,Ya] at h1 h2;exact⟨h1,h2⟩
theorem SI(I:AI X pins σ H s)(rs:Am X.K H O L):∀(n:Nat) {A:Around} {v w:V} {x y:D} {u z:Value} {b:Bool},A.units+n<cLine->Is X.K H O v x->Is X.K H O w y->Ab v u->Ab w z->Dk n L x y=some b->SeqAt.EqAt A s u z b
 |0,_,_,_,_,_,_,_,_,_,_,_,_,_,e=>by cases e
 |n+1,A,v,w,x,y,u,z,b,hu,ix,iy,ru,rz,e=>by
  have e0:=e;simp only[Dk] at e
  by_cases fx:BR x=true
  .rw[if_pos fx] at e
   by_cases fy:BR y=true
   .rw[if_pos fy] at e;cases e;have h1:=Ev ix fx;have h2:=Ev iy fy;subst h1 h2;exact Xe ru rz (Ki fx) (Ki fy)
   .rw[if_neg fy] at e
    cases hy:DG y L with
    |none=>rw[hy] at e;cases e
    |some q =>
     rw[hy] at e;cases e;obtain⟨a,_,its,rfl,_,_,hp⟩:=HX I rs iy hy;cases rz;have h1:=Ev ix fx;subst h1;exact(XY (u:=.non) (w':=.none) (by omega) (Ki fx) ru hp).1
  .rw[if_neg fx] at e
   cases hx:DG x L with
   |none=>rw[hx] at e;cases e
   |some p =>
    rw[hx] at e;simp only[AS] at e;obtain⟨a,vs,its,rfl,il,r,hp⟩:=HX I rs ix hx;cases ru
    by_cases fy:BR y=true
    .rw[if_pos fy] at e;cases e;have h1:=Ev iy fy;subst h1;exact(XY (u:=.non) (w':=.none) (by omega) (Ki fy) rz hp).2
    .rw[if_neg fy] at e
     cases hy:DG y L with
     |none=>rw[hy] at e;cases e
     |some q =>
      rw[hy] at e;simp only[AS] at e;obtain⟨c,ws,zs,rfl,il',r',hp'⟩:=HX I rs iy hy;cases rz;obtain⟨t,xs⟩:=p;obtain⟨t',ys⟩:=q;simp only at e hp hp' il il'
      by_cases ht:t=t'
      .subst ht;rw[if_pos rfl] at e
       by_cases hac:a=c
       .subst hac;have:=Xd I rs (n+1) ix iy e0;subst this;exact .same _
       .refine .of_refs hac (Qx (by omega) il il' r r' hp hp' e λa1 a2 a3 a4 a5=>SI I rs n ?_ a1 a2 a3 a4 a5).1;rw[Around.in1_units];omega
      .rw[if_neg ht] at e;cases e
       cases t <;> cases t' <;> first|exact absurd rfl ht|skip
       .exact .list_tuple hp hp' (by omega)
       .exact .tuple_list hp hp' (by omega)
end
def Ih(x:D)(L:AD):Bool:=(DG x L).isSome
def Lm:G2:=λx y L=>if GQ x y=true then some (.bl (decide (x=y)),L) else if (Ih x L&&Ih y L)=true then (Dk 30 L x y).map λb=>(.bl b,L) else none
def Lf:G2:=λx y L=>if GQ x y=true then some (.bl (!decide (x=y)),L) else if (Ih x L&&Ih y L)=true then (match DG x L,DG y L with
  |some (t,_),some (t',_)=>if t=t' then (Dk 30 L x y).map λb=>(.bl (!b),L) else none
  |_,_=>none) else none
section
variable {X:Cx}
theorem NH{x:D}{L:AD}{p:Bool×List D}(h:DG x L=some p):BR x=false:=by cases x <;> first|rfl|(simp[DG] at h)
theorem AFX(hu:X.A.units+64<cLine):Ar X (compareOp .Eq) (λv u H Q=>∃O L x y b,Am X.K H O L/\Is X.K H O v x/\Is X.K H O u y/\Ih x L=true/\Ih y L=true/\Dk 30 L x y=some b/\Q (.bl b) H):=by
 intro pins s σ H v u w z Q I rv ru h;obtain⟨O,L,x,y,b,rs,ix,iy,sx,sy,e,q⟩:=h;unfold Ih at sx sy;obtain⟨⟨t,xs⟩,hx⟩:=AJi.mp sx;obtain⟨⟨t',ys⟩,hy⟩:=AJi.mp sy;have fx:=NH hx;have fy:=NH hy;rw[show(30:Nat)=29+1 from rfl,SH,if_neg (by rw[fx];exact Cc),hx,AS,if_neg (by rw[fy];exact Cc),hy,AS] at e;obtain⟨a,vs,its,rfl,il,r,hp⟩:=HX I rs ix hx;obtain⟨c,ws,zs,rfl,il',r',hp'⟩:=HX I rs iy hy;cases rv;cases ru;simp only at e
 by_cases ht:t=t'
 .subst ht;rw[if_pos rfl] at e;exact(Qx (by omega) il il' r r' hp hp' e λa1 a2 a3 a4 a5=>SI I rs 29 (by rw[Around.in1_units];omega) a1 a2 a3 a4 a5).1 _ _ _ _ ⟨.bl b,H,I,rfl,q⟩
 .rw[if_neg ht] at e;cases e
  cases t <;> cases t' <;> first|exact absurd rfl ht|skip
  .exact SeqAt.RcAt.list_tuple hp hp' (by omega) _ _ _ _ ⟨.bl _,H,I,rfl,q⟩
  .exact SeqAt.RcAt.tuple_list hp hp' (by omega) _ _ _ _ ⟨.bl _,H,I,rfl,q⟩
theorem ADh(hu:X.A.units+64<cLine):Ar X (compareOp .NotEq) (λv u H Q=>∃O L x y b t xs ys,Am X.K H O L/\Is X.K H O v x/\Is X.K H O u y/\DG x L=some (t,xs)/\DG y L=some (t,ys)/\Dk 30 L x y=some b/\Q (.bl (!b)) H):=by intro pins s σ H v u w z Q I rv ru h;obtain⟨O,L,x,y,b,t,xs,ys,rs,ix,iy,hx,hy,e,q⟩:=h;have fx:=NH hx;have fy:=NH hy;rw[show(30:Nat)=29+1 from rfl,SH,if_neg (by rw[fx];exact Cc),hx,AS,if_neg (by rw[fy];exact Cc),hy,AS] at e;obtain⟨a,vs,its,rfl,il,r,hp⟩:=HX I rs ix hx;obtain⟨c,ws,zs,rfl,il',r',hp'⟩:=HX I rs iy hy;cases rv;cases ru;rw[if_pos rfl] at e;exact(Qx (by omega) il il' r r' hp hp' e λa1 a2 a3 a4 a5=>SI I rs 29 (by rw[Around.in1_units];omega) a1 a2 a3 a4 a5).2 _ _ _ _ ⟨.bl _,H,I,rfl,q⟩
theorem ADb(hu:X.A.units+64<cLine):Cq X (compareOp .Eq) Lm:=Ar.weaken (Ar.or Vj (AFX hu)) λv u H Q z4_=>by
 obtain⟨O,L,x,y,d,L',rs,ix,iy,e,k⟩:=z4_;unfold Lm at e;split at e
 .rename_i hs;cases e;have hs':=hs;simp only[GQ,CA] at hs;have h1:=Ev ix hs.1.1;have h2:=Ev iy hs.1.2;subst h1 h2;refine .inl ⟨hs.2,?_⟩;have:=k (.bl (decide (x=y))) _ _ (.refl _ _) rs (.bl _)
  have e:decide (Df x=Df y)=decide (x=y):=by
   by_cases h:x=y
   .rw[decide_eq_true h,decide_eq_true ((JO hs.1.1 hs.1.2).mpr h)]
   .rw[decide_eq_false h,decide_eq_false (λz=>h ((JO hs.1.1 hs.1.2).mp z))]
  rw[e];exact this
 .split at e
  .rename_i hq;rw[CA] at hq
   cases q:Dk 30 L x y with
   |none=>rw[q] at e;cases e
   |some b =>
    rw[q] at e;cases e;exact .inr ⟨O,L,x,y,b,rs,ix,iy,hq.1,hq.2,q,k _ _ _ (.refl _ _) rs (.bl _)⟩
  .cases e
theorem ADZ(hu:X.A.units+64<cLine):Cq X (compareOp .NotEq) Lf:=Ar.weaken (Ar.or Vi (ADh hu)) λv u H Q z4_=>by
 obtain⟨O,L,x,y,d,L',rs,ix,iy,e,k⟩:=z4_;unfold Lf at e;split at e
 .rename_i hs;cases e;simp only[GQ,CA] at hs;have h1:=Ev ix hs.1.1;have h2:=Ev iy hs.1.2;subst h1 h2;refine .inl ⟨hs.2,?_⟩;have:=k (.bl (!decide (x=y))) _ _ (.refl _ _) rs (.bl _)
  have e:decide (Df x=Df y)=decide (x=y):=by
   by_cases h:x=y
   .rw[decide_eq_true h,decide_eq_true ((JO hs.1.1 hs.1.2).mpr h)]
   .rw[decide_eq_false h,decide_eq_false (λz=>h ((JO hs.1.1 hs.1.2).mp z))]
  rw[e];exact this
 .split at e
  .split at e
   .rename_i t xs t' ys hx hy;split at e
    .rename_i ht;subst ht
     cases q:Dk 30 L x y with
     |none=>rw[q] at e;cases e
     |some b =>
      rw[q] at e;cases e;exact .inr ⟨O,L,x,y,b,t,xs,ys,rs,ix,iy,hx,hy,q,k _ _ _ (.refl _ _) rs (.bl _)⟩
    .cases e
   .cases e
  .cases e
end
def JU:SF:=λ_ _=>none
theorem Ux{X:Cx}{st:Stmt}:Du X st JU:=PS.weaken ACF λD σ H z3_=>by obtain⟨O,ρ,L,out,r,e,k⟩:=z3_;cases e
theorem fnd_none{P:Program}{w:World}{K:AM}{mg:AKO}{base:Heap}{k:Nat}{x:Str}{f:Addr}{fd:FuncData}{ps:List Str}(bi:Ez K fd ps [])(m:mg x=some (.ref f))(kp:GH K (.ref f)=true):BA P w K mg base k x (λ_ _=>none) :=
 ⟨f,fd,ps,⟨(λvs H Q E h=>by obtain⟨_,_,_,_,_,_,_,e,_⟩:=h;cases e),(λA outer s H args us vs Q E _ _ _ _ h=>by obtain⟨_,_,_,_,_,_,_,e,_⟩:=h;cases e)⟩,m,kp,bi⟩
def Kg(o i v:D)(L:AD):Option AD:=match o,i with
 |.ref k,.int j=>(match L[k]? with|some (.lst xs)=>(match ixN xs.length j with|some n=>some (L.set k (.lst (xs.set n v)))|none=>none)|_=>none)
 |_,_=>none
def Ck(fo fi fv:EF):SF:=λρ L=>(fv ρ L).bind λv=>(fo ρ v.2).bind λo=>(fi ρ o.2).bind λi=>(Kg o.1 i.1 v.1 i.2).bind λL'=>some (.next ρ L')
section
variable {X:Cx}{a b c o i e:Expr}{fa fb fc fo fi fv:EF}{pos:Pos}
theorem Uw{p2:Pos}(ho:AZ X o fo)(hi:AZ X i fi)(he:AZ X e fv)(hs:swapsWithSole [.Subscript o i p2] e pos.line X.env=pure false:=by rfl)(hw:swappedStores [.Subscript o i p2] e X.env=pure none:=by rfl)
  (h1:(assignEach [.Subscript o i p2] X.env).map (·.2)=[assign (.Subscript o i p2) X.env]:=by rfl)
  (ha:∀v,assign (.Subscript o i p2) X.env v=(do
   let ov <-holding [v] (eval o X.env)
   let iv <-holding [v,ov] (eval i X.env)
   standAt p2
   holding [v,ov,iv] (setItem ov iv v)
   release [v,ov,iv] []):=by intro _;rfl):Du X (.Assign [.Subscript o i p2] e pos) (Ck fo fi fv) :=
 PS.weaken (RG he (Va ho hi ABR ha) hs hw h1) λD σ H z3_=>by
  obtain⟨O,ρ,L,out,r,ee,k⟩:=z3_;unfold Ck at ee
  cases e1:fv ρ L with
  |none=>rw[e1] at ee;cases ee
  |some p =>
   rw[e1] at ee;simp only[AS] at ee
   cases e2:fo ρ p.2 with
   |none=>rw[e2] at ee;cases ee
   |some q =>
    rw[e2] at ee;simp only[AS] at ee
    cases e3:fi ρ q.2 with
    |none=>rw[e3] at ee;cases ee
    |some w =>
     rw[e3] at ee;simp only[AS] at ee
     cases e4:Kg q.1 w.1 p.1 w.2 with
     |none=>rw[e4] at ee;cases ee
     |some L' =>
      rw[e4] at ee;cases ee;refine⟨O,ρ,L,p.1,p.2,r,e1,λv H1 O1 st1 rs1 is1=>⟨O1,ρ,p.2,q.1,q.2,r.to st1 rs1,e2,λov H2 O2 st2 rs2 is2=>⟨O2,ρ,q.2,w.1,w.2,r.to (st1.trans st2) rs2,e3,λiv H3 O3 st3 rs3 is3=>?_⟩⟩⟩;have isv:=(is1.mono st2).mono st3;have iso:=is2.mono st3;unfold Kg at e4;split at e4
      .rename_i kk jj hk hj;rw[hk] at iso;rw[hj] at is3;cases is3
       cases iso with|@ref _ pa hka =>
        split at e4
        .rename_i xs hx;split at e4
         .rename_i n hn;cases e4;obtain⟨vs,hv,il⟩:=rs3.ob _ _ _ hka hx;refine⟨pa,vs,_,n,rfl,rfl,hv,by rw[il.length];exact hn,?_⟩;have st4:Ah H3 O3 (upd H3 pa (.lst (vs.set n v))) O3:=⟨.write hv id,As _⟩;have stA:=((st1.trans st2).trans st3).trans st4;exact k _ _ _ stA ⟨rs3.write (o':=.lst (xs.set n p.1)) hka ⟨_,CI,(il.mono st4).set (isv.mono st4) n⟩,r.f.mono stA⟩
         .cases e4
        .cases e4
      .cases e4
def Jm(g g':G2)(fa fb fc:EF):EF:=λρ L=>(fa ρ L).bind λx=>(fb ρ x.2).bind λy=>(g x.1 y.1 y.2).bind λz=>match z.1 with
 |.bl true=>(fc ρ z.2).bind λw=>g' y.1 w.1 w.2
 |.bl false=>some (.bl false,z.2)
 |_=>none
theorem AFz{K:AM}{g g':G2}{σ:L2.St}{H:Hp}{Q:VK}(h:Gv K (Jm g g' fa fb fc) σ H Q):UT (rD K g) (rD K g') (Gv K fa) (Gv K fb) (Gv K fc) σ H Q:=by
 obtain⟨O,ρ,L,d,L',r,e,k⟩:=h;unfold Jm at e
 cases e1:fa ρ L with
 |none=>rw[e1] at e;cases e
 |some p =>
  rw[e1] at e;simp only[AS] at e
  cases e2:fb ρ p.2 with
  |none=>rw[e2] at e;cases e
  |some q =>
   rw[e2] at e;simp only[AS] at e
   cases e3:g p.1 q.1 q.2 with
   |none=>rw[e3] at e;cases e
   |some z =>
    rw[e3] at e;simp only[AS] at e;refine⟨O,ρ,L,p.1,p.2,r,e1,λv H1 O1 st1 rs1 is1=>⟨O1,ρ,p.2,q.1,q.2,r.to st1 rs1,e2,λu H2 O2 st2 rs2 is2=>?_⟩⟩;refine⟨O2,q.2,p.1,q.1,z.1,z.2,rs2,is1.mono st2,is2,e3,λw H3 O3 st3 rs3 is3=>?_⟩;have stA:=(st1.trans st2).trans st3;obtain⟨zd,zL⟩:=z
    cases zd <;> try (cases e;done)
    rename_i bb;cases is3;refine⟨bb,rfl,?_⟩
    cases bb with
    |false=>cases e;exact iteF (k _ _ _ stA rs3 (.bl _))
    |true =>
     simp only at e
     cases e4:fc ρ zL with
     |none=>rw[e4] at e;cases e
     |some w =>
      rw[e4] at e;simp only[AS] at e;refine iteT ⟨O3,ρ,zL,w.1,w.2,r.to stA rs3,e4,λu4 H4 O4 st4 rs4 is4=>?_⟩;exact⟨O4,w.2,q.1,w.1,d,L',rs4,(is2.mono st3).mono st4,is4,e,λy H5 O5 st5 rs5 is5=>k _ _ _ ((stA.trans st4).trans st5) rs5 is5⟩
theorem AAV{op op':CmpOp}{g g':G2}(ho:Cq X (compareOp op) g)(ho':Cq X (compareOp op') g')(ha:AZ X a fa)(hb:AZ X b fb)(hc:AZ X c fc)
  (hm:lastMarks [op,op'] [b,c]=false:=by with_unfolding_all rfl):Ex X (.Compare a [op,op'] [b,c] pos) (AW (Jm g g' fa fb fc)) :=
 PT.weaken (ACA ho ho' ha hb hc hm) λσ H Q h=>by
  have q:=SV h;exact AFz q
end
end L3
set_option maxHeartbeats 4000000
namespace HT
open PySem PySem.Spec PyProof.Rows
section
variable {prog:Program}{w:World}{A:Around}{E:AKP}
theorem Xl{it t:Addr}{items:Array Value}(hne:t≠it):∀(n i:Nat) (s:Shared) (Q:List Value->Shared->Prop),s.heap.IsListIter it t i->s.heap.IsList t items->i+n<=items.size ->
  (∀h',Heap.IsListIter h' it t (i+n)->Heap.SameBut it s.heap h'->Q ((items.toList.drop i).take n) {s with heap:=h'})->wpAny (model prog w) A (draw (.ref it) n) Q E s
 |0,i,s,Q,hit,_,_,hQ=>by
  show wpAny _ _ (pure []) Q E s;exact AR (by simpa using hQ s.heap hit (Heap.SameBut.refl ..))
 |n+1,i,s,Q,hit,ht,hle,hQ=>by
  have hlt:i<items.size:=by omega
  show wpAny _ _ (pyNext (.ref it) >>= _) Q E s;refine AH (wpAny_pyNext_list_item hit ht (x:=items[i]) (by simp[hlt]) λh₁ hit₁ hs₁=>?_);refine AH (Do (Xl hne n (i+1) _ _ hit₁ (ht.extBut hs₁.extBut hne) (by omega) λh₂ hit₂ hs₂=>AR ?_));have hd:items.toList.drop i=items[i]::items.toList.drop (i+1):=by simp[AJy,hlt]
  have:=hQ h₂ (by rw[show i+(n+1)=i+1+n by omega];exact hit₂) (hs₁.trans hs₂);rw[hd,List.take_succ_cons] at this;exact this
variable {s:Shared}
theorem AAF{t:Addr}{items:Array Value}{Q:List Value->Shared->Prop}(hh:A.handled=none)(ht:s.heap.IsList t items)
  (hQ:∀h',Heap.ExtBut s.heap.objs.size s.heap h'->Q items.toList {s with heap:=h'}):wpAny (model prog w) A (unpackItems (.ref t) items.size none) Q E s:=by
 have hlt:t≠s.heap.objs.size:=by obtain⟨o,ho,_⟩:=ht;exact Bi (Heap.lt_size ho)
 have htp:∀ob,Heap.IsList (s.heap.push ob) t items:=λob=>let ⟨o,ho,r⟩:=ht;⟨o,Heap.get?_push_of_some _ ho,r⟩;unfold unpackItems;refine AH ?_
 .unfold notIterableAtAll;refine AH (wpAny_specialOf ht.typeIs slot_list_iter.lookup ?_);refine AR ?_;simp only[AJF,if_false];refine AH (Do (wpAny_pyIter_list ht ?_));refine AH (Do (Xl hlt items.size 0 _ _ ⟨_,Heap.get?_push_size _ rfl,rfl,rfl⟩ (htp _) (by omega) λh₁ hit₁ hs₁=>?_))
  have hall:List.take items.size (List.drop 0 items.toList)=items.toList:=by rw[AJL];exact AJO (by simp)
  rw[hall];rw[if_neg (by simp)];have ht₁:Heap.IsList h₁ t items:=(htp _).extBut hs₁.extBut hlt;refine AH (Do (wpAny_pyNext_list_end hh hit₁ ht₁ (by simp) λh₂ he₂=>?_));simp only[Option.isSome_none,AJF,if_false];refine AR (hQ h₂ λb o hb e=>he₂ b o hb (hs₁.extBut b o hb (Heap.get?_push_of_some _ e)))
theorem AId{env:Env}{elts:List Expr}{x1}{pos:Pos}{t:Addr}{items:Array Value}{Q:Unit->Shared->Prop}(hh:A.handled=none)(ht:s.heap.IsList t items)
  (hn:(assignEach elts env).length=items.size) (hstar:(assignEach elts env).findIdx? (·.1)=none)
  (h:∀h',Heap.ExtBut s.heap.objs.size s.heap h'->wpAny (model prog w) A (assignInOrder ((assignEach elts env).map (·.2)) items.toList) Q E {s with heap:=h'}) :
  wpAny (model prog w) A (assign (.Tuple elts x1 pos) env (.ref t)) Q E s:=by
 rw[assign_Tuple];refine AH (wpAny_standAt ?_);unfold unpack;rw[hn,hstar];exact AH (Do (AAF hh ht h))
end
end HT
namespace L2
open PySem PySem.Spec PyProof.Rows
section
variable {X:Cx}{pos:Pos}
def AFD(K:AM)(n:Nat)(t:HH):TG:=λv σ H Q=>∃a xs,v=.ref a/\BY K H a xs/\xs.length=n/\t xs σ H Q
theorem ACf{es:List Expr}{k:Nat}{t:HH}{n:Nat}(hc:X.calm=true)(h:HK X es t)
  (hn:(assignEach es X.env).length=n:=by rfl) (hst:(assignEach es X.env).findIdx? (·.1)=none:=by rfl):PG X (.Tuple es k pos) (AFD X.K n t):=by
 intro pins s σ H v u Q I r hw;obtain⟨a,xs,e1,hq,hl,hw⟩:=hw;subst e1;cases r;obtain⟨its,rv,ht,hz⟩:=I.list hq;refine HT.AId (I.ok.hd hc) ht.isList (by simp[hn,<-hl,rv.length]) hst λh' hx=>?_;have I1:AI X pins σ H {s with heap:=h'}:=I.kept (t':=s.toks) λb o e=>hx b o (Bi (Heap.lt_size e)) e;exact h pins _ σ H xs _ Q I1 (by simpa using rv) hw
theorem PG.or{tg:Expr}{t t':TG}(h:PG X tg t)(h':PG X tg t'):PG X tg (λv σ H Q=>t v σ H Q\/t' v σ H Q):=by
 intro pins s σ H v u Q I r q;rcases q with q|q
 .exact h pins s σ H v u Q I r q
 .exact h' pins s σ H v u Q I r q
end
end L2
namespace L3
open PySem PySem.Spec PyProof.Rows L2
def Jp(f:EF)(n:Nat)(gs:FO):SF:=λρ L=>(f ρ L).bind λx=>(DH x.1 x.2).bind λds=>if ds.length=n then (gs ds ρ).bind λρ'=>some (.next ρ' x.2) else none
theorem Qw{X:Cx}{es:List Expr}{k n:Nat}{e:Expr}{f:EF}{gs:FO}{pos p2:Pos}(hc:X.calm=true)(he:AZ X e f)(hg:Kq X es gs)
  (hn:(assignEach es X.env).length=n:=by rfl) (hst:(assignEach es X.env).findIdx? (·.1)=none:=by rfl)
  (hs:swapsWithSole [.Tuple es k p2] e pos.line X.env=pure false:=by rfl) (hw:swappedStores [.Tuple es k p2] e X.env=pure none:=by rfl)
  (h1:(assignEach [.Tuple es k p2] X.env).map (·.2)=[assign (.Tuple es k p2) X.env]:=by rfl):Du X (.Assign [.Tuple es k p2] e pos) (Jp f n gs) :=
 PS.weaken (RG he (PG.or (VZ hc hg hn hst) (ACf hc hg hn hst)) hs hw h1) λD σ H z3_=>by
  obtain⟨O,ρ,L,out,r,ee,kk⟩:=z3_;unfold Jp at ee
  cases e1:f ρ L with
  |none=>rw[e1] at ee;cases ee
  |some p =>
   rw[e1] at ee;simp only[AS] at ee
   cases e2:DH p.1 p.2 with
   |none=>rw[e2] at ee;cases ee
   |some ds =>
    rw[e2] at ee;simp only[AS] at ee;split at ee
    .rename_i hl
     cases e3:gs ds ρ with
     |none=>rw[e3] at ee;cases ee
     |some ρ' =>
      rw[e3] at ee;cases ee;refine⟨O,ρ,L,p.1,p.2,r,e1,λv H1 O1 st1 rs1 is1=>?_⟩;obtain⟨a,vs,rfl,hq,il⟩:=KM rs1 is1 e2;have g:WO X.K gs vs σ H1 (λσ' H'=>D.nx σ' H'):=⟨O1,ρ,p.2,ds,ρ',r.to st1 rs1,il,e3,λσ' rp=>kk σ' H1 O1 st1 rp⟩;rcases hq with hq|hq
      .exact .inr ⟨a,vs,rfl,hq,by rw[il.length];exact hl,g⟩
      .exact .inl ⟨a,vs,rfl,hq,by rw[il.length];exact hl,g⟩
    .cases ee
def Er(f:Str)(v:D):List (Str×D)->List (Str×D)
 |[]=>[(f,v)]
 |(g,x)::r=>if g=f then (g,v)::r else (g,x)::Er f v r
section
variable {K:AM}{H:Hp}{O:List Addr}
theorem Rg{f:Str}{d:D}:∀{us:List (Str×V)} {fs:List (Str×D)},us.map (·.1)=fs.map (·.1)->AV K H O (us.map (·.2)) (fs.map (·.2))->fs.lookup f=some d->∃v,us.lookup f=some v/\Is K H O v d
 |[],[],_,_,h=>by cases h
 |[],_::_,h,_,_=>by cases h
 |_::_,[],h,_,_=>by cases h
 |(g,u)::us,(g',x)::fs,hk,hi,hl=>by
  simp only[Ap,List.cons.injEq] at hk;obtain⟨rfl,hk⟩:=hk
  cases hi with
  |cons a b =>
   by_cases e:f=g
   .subst e;simp only[GK,beq_self_eq_true,Option.some.injEq] at hl;subst hl;exact⟨u,by simp[GK],a⟩
   .have hb:(f == g)=false:=beq_eq_false_iff_ne.mpr e;simp only[GK,hb] at hl;obtain⟨v,h1,h2⟩:=Rg hk b hl;exact⟨v,by simp only[GK,hb];exact h1,h2⟩
theorem RF{f:Str}{v:V}{d:D}(iv:Is K H O v d):∀{us:List (Str×V)} {fs:List (Str×D)},us.map (·.1)=fs.map (·.1)->AV K H O (us.map (·.2)) (fs.map (·.2)) ->
  (L2.Ck f v us).map (·.1)=(Er f d fs).map (·.1)/\AV K H O ((L2.Ck f v us).map (·.2)) ((Er f d fs).map (·.2))
 |[],[],_,_=>⟨rfl,.cons iv .nil⟩
 |[],_::_,h,_=>by cases h
 |_::_,[],h,_=>by cases h
 |(g,u)::us,(g',x)::fs,hk,hi=>by
  simp only[Ap,List.cons.injEq] at hk;obtain⟨rfl,hk⟩:=hk
  cases hi with
  |cons a b =>
   obtain⟨h1,h2⟩:=RF iv hk b;unfold L2.Ck Er
   by_cases e:g=f
   .rw[if_pos e,if_pos e];exact⟨by simp[hk],.cons iv b⟩
   .rw[if_neg e,if_neg e];exact⟨by simp[h1],.cons a h2⟩
end
structure Ba (K:AM) (c f:Str):Prop where
 ok:∀C,EK K c C->Cls K C/\JI K C f
def Bn(cs:List Str)(f:Str):G1:=λx L=>match x with
 |.ref k=>(match L[k]? with|some (.ins c fs)=>if c∈cs then (fs.lookup f).bind λd=>some (d,L) else none|_=>none)
 |_=>none
section
variable {X:Cx}{o e:Expr}{fo fe:EF}{f:Str}{cs:List Str}{pos pos':Pos}
theorem CO(he:AZ X o fo)(hc:∀c∈cs,Ba X.K c f)(hb:attributeBase o f X.env (eval o X.env)=eval o X.env:=by rfl):AZ X (.Attribute o f pos) (BU (Bn cs f) fo) :=
 PE.weaken (ACu he hb) λσ H Q z3_=>by
  obtain⟨O,ρ,L,d,L',r,e,k⟩:=z3_;unfold BU at e
  cases e1:fo ρ L with
  |none=>rw[e1] at e;cases e
  |some p =>
   rw[e1] at e;obtain⟨x,L1⟩:=p;simp only[AS,Bn] at e;refine⟨O,ρ,L,x,L1,r,e1,λv H1 O1 st rs is=>?_⟩
   cases is <;> try (cases e;done)
   rename_i kk a hk;simp only at e
   cases e2:L1[kk]? with
   |none=>rw[e2] at e;cases e
   |some ob =>
    rw[e2] at e
    cases ob with
    |lst _=>cases e
    |dk _=>cases e
    |dt _ _=>cases e
    |exn _=>cases e
    |ins c fs =>
     simp only at e;split at e
     .rename_i hcm;obtain⟨C,dx,us,hC,hH,hk1,hi⟩:=rs.ob _ _ _ hk e2
      cases e3:fs.lookup f with
      |none=>rw[e3] at e;cases e
      |some d0 =>
       rw[e3] at e;cases e;obtain⟨v',hv',iv⟩:=Rg hk1 hi e3;obtain⟨h1,h2⟩:=(hc c hcm).ok C hC;exact⟨a,C,dx,us,v',rfl,hH,h1,h2,hv',k _ _ _ st rs iv⟩
     .cases e
def LN(cs:List Str)(f:Str)(x v:D)(L:AD):Option AD:=match x with
 |.ref k=>(match L[k]? with|some (.ins c fs)=>if c∈cs/\fs.length<1000 then some (L.set k (.ins c (Er f v fs))) else none|_=>none)
 |_=>none
def GS(cs:List Str)(f:Str)(fo fv:EF):SF:=λρ L=>(fv ρ L).bind λv=>(fo ρ v.2).bind λx=>(LN cs f x.1 v.1 x.2).bind λL'=>some (.next ρ L')
theorem Ig(ho:AZ X o fo)(he:AZ X e fe)(hc:∀c∈cs,Ba X.K c f)(hs:swapsWith e (some (.Attribute o f pos')) pos.line X.env=pure false:=by rfl):Du X (.Assign [.Attribute o f pos'] e pos) (GS cs f fo fe) :=
 PS.weaken (ACI ho he hs) λD σ H z3_=>by
  obtain⟨O,ρ,L,out,r,e,k⟩:=z3_;unfold GS at e
  cases e1:fe ρ L with
  |none=>rw[e1] at e;cases e
  |some p =>
   rw[e1] at e;simp only[AS] at e
   cases e2:fo ρ p.2 with
   |none=>rw[e2] at e;cases e
   |some q =>
    rw[e2] at e;simp only[AS] at e;obtain⟨x,L2⟩:=q;refine⟨O,ρ,L,p.1,p.2,r,e1,λy H1 O1 st1 rs1 is1=>?_⟩;refine⟨O1,ρ,p.2,x,L2,r.to st1 rs1,e2,λv H2 O2 st2 rs2 is2=>?_⟩
    cases is2 <;> try (cases e;done)
    rename_i kk a hk;simp only[LN] at e
    cases e3:L2[kk]? with
    |none=>rw[e3] at e;cases e
    |some ob =>
     rw[e3] at e
     cases ob with
     |lst _=>cases e
     |dk _=>cases e
     |dt _ _=>cases e
     |exn _=>cases e
     |ins c fs =>
      simp only at e;split at e
      .rename_i hcm;simp only[AS] at e;cases e;obtain⟨C,dx,us,hC,hH,hk1,hi⟩:=rs2.ob _ _ _ hk e3;obtain⟨h1,h2⟩:=(hc c hcm.1).ok C hC
       have hlen:us.length<1000:=by have:=congrArg List.length hk1;simp at this;rw[this];exact hcm.2
       refine⟨a,C,dx,us,rfl,hH,h1,h2,hlen,?_⟩;have st3:Ah H2 O2 (upd H2 a (.ins C dx (_root_.L2.Ck f y us))) O2:=⟨.write hH id,As _⟩;obtain⟨g1,g2⟩:=RF ((is1.mono st2).mono st3) hk1 (hi.mono st3);exact k σ _ O2 ((st1.trans st2).trans st3) (r.to ((st1.trans st2).trans st3) (rs2.write hk ⟨C,dx,_,hC,CI,g1,g2⟩))
      .cases e
def MB(cs:List Str)(f:Str)(g:Int->Int->Int)(fo fv:EF):SF:=λρ L=>(fo ρ L).bind λx=>match x.1 with
 |.ref k=>(match x.2[k]? with
  |some (.ins c fs)=>if c∈cs then (match fs.lookup f with
   |some (.int i)=>(fv ρ x.2).bind λy=>(match y.1 with
    |.int j=>(match y.2[k]? with
     |some (.ins c' fs')=>if c'=c/\fs'.length<1000 then some (.next ρ (y.2.set k (.ins c (Er f (.int (g i j)) fs')))) else none
     |_=>none)
    |_=>none)
   |_=>none) else none
  |_=>none)
 |_=>none
theorem ABP{op:Operator}{g:Int->Int->Int}(ho:AZ X o fo)(he:AZ X e fe)(hc:∀c∈cs,Ba X.K c f)(hop:OZ X op λx y H Q=>∃i j,x=.int i/\y=.int j/\Q (.int (g i j)) H):Du X (.AugAssign (.Attribute o f pos') op e pos) (MB cs f g fo fe) :=
 PS.weaken (ACH ho he hop) λD σ H z3_=>by
  obtain⟨O,ρ,L,out,r,e,k⟩:=z3_;unfold MB at e
  cases e1:fo ρ L with
  |none=>rw[e1] at e;cases e
  |some p =>
   rw[e1] at e;obtain⟨x,L1⟩:=p;simp only[AS] at e;refine⟨O,ρ,L,x,L1,r,e1,λv H1 O1 st rs is=>?_⟩
   cases is <;> try (cases e;done)
   rename_i kk a hk;simp only at e
   cases e2:L1[kk]? with
   |none=>rw[e2] at e;cases e
   |some ob =>
    rw[e2] at e
    cases ob with
    |lst _=>cases e
    |dk _=>cases e
    |dt _ _=>cases e
    |exn _=>cases e
    |ins c fs =>
     simp only at e;split at e
     .rename_i hcm;obtain⟨C,dx,us,hC,hH,hk1,hi⟩:=rs.ob _ _ _ hk e2
      cases e3:fs.lookup f with
      |none=>rw[e3] at e;cases e
      |some d0 =>
       rw[e3] at e
       cases d0 <;> try (cases e;done)
       rename_i i;simp only at e;obtain⟨v',hv',iv⟩:=Rg hk1 hi e3;obtain⟨h1,h2⟩:=(hc c hcm).ok C hC;refine⟨a,C,dx,us,v',rfl,hH,h1,h2,hv',?_⟩
       cases e4:fe ρ L1 with
       |none=>rw[e4] at e;cases e
       |some q =>
        rw[e4] at e;obtain⟨y,L2⟩:=q;simp only[AS] at e;refine⟨O1,ρ,L1,y,L2,r.to st rs,e4,λw H2 O2 st2 rs2 is2=>?_⟩
        cases y <;> try (cases e;done)
        rename_i j;cases iv;cases is2;refine⟨i,j,rfl,rfl,?_⟩;simp only at e
        cases e5:L2[kk]? with
        |none=>rw[e5] at e;cases e
        |some ob =>
         rw[e5] at e
         cases ob with
         |lst _=>cases e
         |dk _=>cases e
         |dt _ _=>cases e
         |exn _=>cases e
         |ins c' fs' =>
          simp only at e;split at e
          .rename_i hcm';cases e;obtain⟨rfl,hl⟩:=hcm';have hk':=Dr st2.2 hk;obtain⟨C',dx',us',hC',hH',hk1',hi'⟩:=rs2.ob _ _ _ hk' e5
           have hCC:C'=C:=by unfold EK at hC hC';rw[hC] at hC';cases hC';rfl
           subst hCC
           have hlen:us'.length<1000:=by have:=congrArg List.length hk1';simp at this;rw[this];exact hl
           refine⟨dx',us',hH',hlen,?_⟩;have st3:Ah H2 O2 (upd H2 a (.ins C' dx' (_root_.L2.Ck f (.int (g i j)) us'))) O2:=⟨.write hH' id,As _⟩;obtain⟨g1,g2⟩:=RF (Is.int (g i j)) hk1' (hi'.mono st3);exact k σ _ O2 ((st.trans st2).trans st3) (r.to ((st.trans st2).trans st3) (rs2.write hk' ⟨C',dx',_,hC',CI,g1,g2⟩))
          .cases e
     .cases e
theorem AEn:OZ X .Add λx y H Q=>∃i j,x=.int i/\y=.int j/\Q (.int (i+j)) H:=AEo
def Jo(i:Nat)(g:Int->Int->Int)(fe:EF):SF:=λρ L=>match ρ[i]? with
 |some (some (.int a))=>(fe ρ L).bind λy=>(match y.1 with|.int b=>some (.next (ρ.set i (some (.int (g a b)))) y.2)|_=>none)
 |_=>none
theorem Uy{i:Nat}{x:Str}{op:Operator}{g:Int->Int->Int}(hN:X.N.Nodup)(he:AZ X e fe)(ho:Sj X op (Wk g))(hi:X.N[i]?=some x:=by rfl)(hx:IW X.env.scope x:=by first|exact Or.inl rfl|exact Or.inr rfl)
  (hf:X.fn x=true\/X.env.scope.names.lookup x=some .local:=by first|exact .inl rfl|exact .inr rfl):Du X (.AugAssign (.Name x pos') op e pos) (Jo i g fe) :=
 PS.weaken (ACL hN hi hx he ho hf) λD σ H z3_=>by
  obtain⟨O,ρ,L,out,r,e,k⟩:=z3_;unfold Jo at e;split at e
  .rename_i a ha;obtain⟨v,hv,iv⟩:=r.f.at' i _ ha;cases iv;refine⟨_,hv,?_⟩
   cases e1:fe ρ L with
   |none=>rw[e1] at e;cases e
   |some p =>
    rw[e1] at e;obtain⟨y,L1⟩:=p;simp only[AS] at e;refine⟨O,ρ,L,y,L1,r,e1,λv H1 O1 st rs is=>?_⟩
    cases y <;> try (cases e;done)
    cases e;cases is;exact⟨_,_,rfl,rfl,k _ _ _ st ⟨rs,(r.f.mono st).set (.int _) i⟩⟩
  .cases e
end
structure Sn (P:Program) (w:World) (K:AM) (mg:AKO) (base:Heap) (k:Nat) (c m:Str) (G:GL):Prop where
 ex:∃C f fd ps,Dv P w K mg base CX0 k f fd ps (JQ K G)/\EK K c C/\Cls K C/\AGm K C m f/\Ez K fd ps []
structure Fz (P:Program) (w:World) (K:AM) (mg:AKO) (base:Heap) (k:Nat) (c:Str) (G:GL):Prop where
 ex:∃C f fd ps j,Dv P w K mg base CX0 j f fd ps (JQ K G)/\j+1<=k/\mg c=some (.ref C)/\EK K c C/\Mk K C f/\Ez K fd ps []
theorem Sn.mono{P:Program}{w:World}{K:AM}{mg:AKO}{base:Heap}{j k:Nat}{c m:Str}{G:GL}(F:Sn P w K mg base j c m G)(h:j<=k):Sn P w K mg base k c m G:=by obtain⟨C,f,fd,ps,a,b⟩:=F.ex;exact⟨C,f,fd,ps,a.mono h,b⟩
theorem Fz.mono{P:Program}{w:World}{K:AM}{mg:AKO}{base:Heap}{j k:Nat}{c:Str}{G:GL}(F:Fz P w K mg base j c G)(h:j<=k):Fz P w K mg base k c G:=by obtain⟨C,f,fd,ps,i,a,b,c⟩:=F.ex;exact⟨C,f,fd,ps,i,a,by omega,c⟩
def Hw(c:Str)(G:GL)(a:AF):EF:=λρ L=>(a ρ L).bind λy=>(G (.ref y.2.length::y.1) (y.2++[.ins c []])).bind λz=>match z.1 with
 |.non=>some (.ref y.2.length,z.2)
 |_=>none
section
variable {X:Cx}{k:Nat}{c m x:Str}{G:GL}{p pos apos:Pos}{o e:Expr}{es:List Expr}{fo:EF}{f:AF}
theorem ADz{C:Addr}(hC:EK X.K c C){t:TA}(ht:∀σ H Q,Rh X.K f σ H Q->t σ H Q){σ:L2.St}{H:Hp}{Q:VK}(h:Gv X.K (Hw c G f) σ H Q):US C (JQ X.K G) [] E0 t σ H Q:=by
 obtain⟨O,ρ,L,d,L',r,e,k⟩:=h;unfold Hw at e
 cases e1:f ρ L with
 |none=>rw[e1] at e;cases e
 |some p =>
  rw[e1] at e;obtain⟨ys,L1⟩:=p;simp only[AS] at e
  cases e2:G (.ref L1.length::ys) (L1++[.ins c []]) with
  |none=>rw[e2] at e;cases e
  |some z =>
   rw[e2] at e;obtain⟨zd,L2⟩:=z
   cases zd <;> simp only[AS] at e <;> try (cases e;done)
   cases e;refine ht _ _ _ ⟨O,ρ,L,ys,L1,r,e1,λvs H1 O1 st rs is x dx hx hdx hne=>?_⟩;show rC X.K G (V.ref x::(vs++[])) _ _;rw[HS];have s1:Ah H1 O1 (upd H1 dx (.own x)) O1:=⟨.new hdx,As _⟩;have rs1:Am X.K (upd H1 dx (.own x)) O1 L1:=rs.ext λa u e=>by rw[BM (DJ e hdx)];exact e
   have hx1:upd H1 dx (.own x) x=none:=by rw[BM (Ne.symm hne)];exact hx
   have s2:Ah (upd H1 dx (.own x)) O1 (upd (upd H1 dx (.own x)) x (.ins C dx [])) (O1++[x]):=⟨.new hx1,BB _ _⟩;have rs2:Am X.K (upd (upd H1 dx (.own x)) x (.ins C dx [])) (O1++[x]) (L1++[.ins c []]):=rs1.new hx1 ⟨C,dx,[],hC,CI,rfl,.nil⟩;have hk:(O1++[x])[L1.length]?=some x:=by rw[<-rs.len];simp
   refine⟨O1++[x],L1++[.ins c []],_,.non,_,rs2,.cons (.ref hk) (is.mono (s1.trans s2)),e2,λw H' O' st' rs' is'=>?_⟩;cases is';exact⟨rfl,k _ H' O' ((st.trans (s1.trans s2)).trans st') rs' (.ref (Dr st'.2 hk))⟩
theorem OD(F:Fz X.prog X.w X.K X.mg X.base k c G)(hr:Bq k X.A)(ha:Ed X (e::es) f)(hg:Gl X c:=by rfl)(hdb:(c == ("__debug__":Str))=false:=by decide)
  (he:Dx e=true:=by rfl) (hpl:es.all Dx=true:=by rfl):AZ X (.Call (.Name c p) (e::es) [] pos) (Hw c G f):=by
 obtain⟨C,fa,fd,ps,j,a,hj,hm,hC,hM,bi⟩:=F.ex;exact PE.weaken (ACn (E:=E0) hM a (hr.mono hj) hg hm bi .nil RQ ha hdb (Gq he) (Hv hpl)) λσ H Q h=>ADz hC (λ_ _ _ h=>h) h
end
theorem Bj{K:AM}{f:Str}:∀c∈([]:List Str),Ba K c f:=λ_ h=>by cases h
theorem Bk{K:AM}{f c:Str}{cs:List Str}(a:Ba K c f)(b:∀c∈cs,Ba K c f):∀x∈c::cs,Ba K x f:=λx h=>by
 rcases Ac.mp h with rfl|h
 .exact a
 .exact b x h
theorem Iw{K:AM}{c f:Str}{C:Addr}(hC:EK K c C)(cl:Cls K C)(n:Cw K (.ref C) f=some none):Ba K c f:=⟨λC' h=>by
 have:C'=C:=by unfold EK at hC h;rw[hC] at h;cases h;rfl
 subst this
 exact⟨cl,n⟩⟩
section
variable {P:Program}{w:World}{K:AM}{mg:AKO}{base:Heap}
theorem XU{x qual c:Str}{C:Addr}{st:Stmt}{f:Addr}{fd:FuncData}{N ps:List Str}{k:Nat}{B:SF}(Fn:Ho K x qual st f fd)(S:BP N ps (Aa st))
  (hb:∀(cdv:Value) (A:Around) (outer:List Env) (s:Shared) (H:Hp) (E:XK),Bq k (A.deeper (envOfC qual (Aa st) s.heap.objs.size f cdv)) ->
   FM (Dt CX0 P w K mg base N qual (Aa st) f cdv A outer s H E).nox (Ff st) B)
  (bi:Ez K fd ps []) (mc:mg c=some (.ref C)) (hC:EK K c C) (M:Mk K C f):Fz P w K mg base (k+2) c (Ax B N ps.length) :=
 ⟨C,f,fd,ps,k+1,SE Fn S _ B (λ_ _ _ h=>NJ h) hb (λ_ _ _ _ h=>NI h),Ai _,mc,hC,M,bi⟩
end
def Wp(p:Program)(i j:Nat):Stmt:=match Bg p i with
 |.ClassDef _ _ _ body _ _ _ _ _ _ _=>body.getD j (.Pass ⟨0,0,0,0⟩)
 |s=>s
def GN(t:TF)(b:SF):Nat->SF
 |0=>λ_ _=>none
 |n+1=>λρ L=>(t ρ L).bind λx=>if x.1=true then (b ρ x.2).bind λout=>(match out with
   |.next ρ2 L2=>GN t b n ρ2 L2
   |.cont ρ2 L2=>GN t b n ρ2 L2
   |.brk ρ2 L2=>some (.next ρ2 L2)
   |.ret d L2=>some (.ret d L2)) else some (.next ρ x.2)
def Qm(t:TF)(b:SF):SF:=GN t b 1000000
theorem ABL{X:Cx}{c:Expr}{body:List Stmt}{t:TF}{b:SF}{pos:Pos}(hp:PassesOwn (model X.prog X.w) X.A X.env X.xe)(hc:Ex X c t)(hb:FM X body b):Du X (.While c body [] pos) (Qm t b) :=
 PS.weaken (ACB hp hc hb) λD σ H z3_=>by
  obtain⟨O,ρ,L,out,r,e,k⟩:=z3_;refine⟨λn σ H=>∃O ρ L,DS X.K H O σ ρ L/\GN t b n ρ L=some out/\JE X.K H O D out,⟨1000000,O,ρ,L,r,e,k⟩,?_⟩;rintro n σ1 H1 ⟨O1,ρ1,L1,r1,e1,k1⟩
  cases n with
  |zero=>cases e1
  |succ n =>
   simp only[GN] at e1
   cases e2:t ρ1 L1 with
   |none=>rw[e2] at e1;cases e1
   |some p =>
    rw[e2] at e1;obtain⟨bb,L2⟩:=p;simp only[AS] at e1;refine⟨O1,ρ1,L1,bb,L2,r1,e2,λH2 O2 st2 rs2=>?_⟩
    cases bb with
    |false =>
     simp only[AJF,if_false] at e1 ⊢;cases e1;exact k1 _ _ _ st2 (r1.to st2 rs2)
    |true =>
     simp only[if_true] at e1 ⊢;refine⟨λσ' H'=>∃O ρ L,DS X.K H' O σ' ρ L/\GN t b n ρ L=some out/\JE X.K H' O D out,λσ' H' h=>⟨n,Nat.lt_succ_self _,h⟩,?_⟩
     cases e3:b ρ1 L2 with
     |none=>rw[e3] at e1;cases e1
     |some o1 =>
      rw[e3] at e1;simp only[AS] at e1;refine⟨O2,ρ1,L2,o1,r1.to st2 rs2,e3,?_⟩
      cases o1 with
      |next ρ2 L3=>exact λσ' H' O' st' r'=>⟨O',ρ2,L3,r',e1,(k1.mono st2).mono st'⟩
      |cont ρ2 L3=>exact λσ' H' O' st' r'=>⟨O',ρ2,L3,r',e1,(k1.mono st2).mono st'⟩
      |brk ρ2 L3=>cases e1;exact λσ' H' O' st' r'=>k1 _ _ _ (st2.trans st') r'
      |ret d L3=>cases e1;exact λv H' O' st' r' i'=>k1 _ _ _ (st2.trans st') r' i'
theorem Wl:∀{ns:List Int} {its:List Value},Ae (ns.map V.int) its->∃xs:List (Int×Tok),its=xs.map (λp=>Value.int p.1 p.2)/\xs.map (·.1)=ns
 |[],_,h=>by cases h;exact⟨[],rfl,rfl⟩
 |n::ns,_,h=>by
  cases h with
  |cons a b =>
   obtain⟨t,rfl⟩:=(show ∃t,_=Value.int n t from a);obtain⟨xs,rfl,e⟩:=Wl b;exact⟨(n,t)::xs,rfl,by simp[e]⟩
def FE:List D->Option (List Int)
 |[]=>some []
 |.int b::r=>(FE r).map (b::·)
 |_=>none
theorem Wn{K:AM}{H:Hp}{O:List Addr}:∀{vs:List V} {ds:List D} {bs:List Int},AV K H O vs ds->FE ds=some bs->vs=bs.map V.int
 |_,_,_,.nil,e=>by cases e;rfl
 |_,d::ds,bs,.cons a b,e=>by
  cases a <;> simp only[FE] at e <;> try (cases e;done)
  cases q:FE ds with
  |none=>rw[q] at e;cases e
  |some r =>
   rw[q] at e;cases e;rw[Wn b q];rfl
section
variable {X:Cx}
theorem AF6(hc:X.calm=true):Cu X (.builtin "sum") (λxs H Q=>∃(p:Addr) (ns:List Int),xs=[.ref p]/\BY X.K H p (ns.map V.int)/\Q (.int ns.sum) H):=by
 intro pins s σ H xs us Q I r h;obtain⟨p,ns,rfl,hq,q⟩:=h;obtain⟨u,rfl,rx⟩:=FB r;cases rx;obtain⟨its,rv,pl,hz⟩:=I.list hq;obtain⟨ps,rfl,rfl⟩:=Wl rv
 have hl:s.heap.IsList p (intItems ps.toArray):=by
  have:=pl.isList;have e:(ps.map (λp=>Value.int p.1 p.2)).toArray=intItems ps.toArray:=by simp[intItems]
  rw[<-e];exact this
 refine PySem.sum_intListG (I.ok.hd hc) hl λh' tk t' hk=>⟨.int (ps.map (·.1)).sum,H,I.kept hk,⟨t',?_⟩,q⟩;rw[preSum_eq,AJO (by simp)]
def LX(xs:List D)(L:AD):Option (List D):=match xs with
 |[.ref k]=>(match L[k]? with|some (.lst ds)=>some ds|_=>none)
 |_=>none
def Nv:GL:=λxs L=>(LX xs L).bind λds=>(FE ds).bind λns=>some (.int ns.sum,L)
theorem AEC{K:AM}{H:Hp}{O:List Addr}{L:AD}{vs:List V}{xs ds:List D}(rs:Am K H O L)(is:AV K H O vs xs)(e:LX xs L=some ds):∃(p:Addr) (us:List V),vs=[.ref p]/\BY K H p us/\AV K H O us ds:=by
 unfold LX at e;split at e
 .split at e
  .rename_i ds' hd;cases e
   cases is with|cons i1 i2 =>
    cases i2
    cases i1 with|ref hk =>
     obtain⟨us,hv,il⟩:=rs.ob _ _ _ hk hd;exact⟨_,us,rfl,BY.of hv,il⟩
  .cases e
 .cases e
theorem YJ{α β:Type}{o:Option α}{f:α->Option β}{b:β}(h:o.bind f=some b):∃a,o=some a/\f a=some b:=GI.mp h
theorem AF0(hc:X.calm=true):Fp X (.builtin "sum") Nv:=Cu.weaken (AF6 hc) λvs H Q z3_=>by
 obtain⟨O,L,xs,d,L',rs,is,e,k⟩:=z3_;obtain⟨ds,e1,e⟩:=YJ e;obtain⟨ns,e2,e⟩:=YJ e;cases e;obtain⟨p,us,rfl,hq,il⟩:=AEC rs is e1;rw[Wn il e2] at hq;exact⟨p,ns,rfl,hq,k _ _ _ (.refl _ _) rs (.int _)⟩
end
theorem AGE:bootBuiltins "sum"=some (.builtin "sum"):=by decide +kernel
section
variable {L:AD}{Q:AKQ}{k:Nat}{ds:List D}
theorem AEB(e:L[k]?=some (.lst ds)):LX [.ref k] L=some ds:=by simp[LX,e]
end
end L3
set_option maxHeartbeats 4000000
namespace L3
open PySem PySem.Spec PyProof.Rows L2 Builtin Builtin.Str
inductive EntsK (K:AM):List DictEntry->List (Str×D)->Prop
 |nil:EntsK K [] []
 |cons {h:Int} {x:Str} {t:Tok} {u:Value} {d:D} {es:List DictEntry} {ds:List (Str×D)}:TupK K u d->EntsK K es ds->EntsK K (⟨h,.str x t,u⟩::es) ((x,d)::ds)
theorem EntsK.at{K:AM}(z:Str):∀{es:List DictEntry} {ds:List (Str×D)},EntsK K es ds->TupK K ((findBy Value.isStrOf es.toArray z).getD .none) ((ds.lookup z).getD .non)
 |_,_,.nil=>AAR
 |_,_,.cons (x:=x) (t:=t) (u:=u) (d:=d) (es:=es) (ds:=ds) a b=>by
  have ih:=EntsK.at z b;unfold findBy at ih ⊢;rw[List.find?_toArray] at ih ⊢;rw[Fq]
  by_cases h:z=x
  .subst h;have e1:Value.isStrOf z (.str z t)=true:=by simp[Value.isStrOf]
   simp only[e1,GK,beq_self_eq_true];exact a
  .have e1:Value.isStrOf z (.str x t)=false:=by
    have:¬x=z:=λq=>h q.symm;simp[Value.isStrOf,this]
   have e2:(z == x)=false:=beq_eq_false_iff_ne.mpr h;simp only[e1,GK,e2];exact ih
theorem Vo{P:Program}{w:World}{H:Hp}{h:Heap}{a:Addr}{o:HO}(x:CP P w H h a o):∃u,h.get? a=some u:=by
 cases o with
 |lst xs=>obtain⟨_,_,_,_,e⟩:=x;exact⟨_,e⟩
 |tup xs=>obtain⟨_,_,_,o,e,_⟩:=x;exact⟨_,e⟩
 |dK kvs=>obtain⟨_,_,_,_,o,_,_,e,_⟩:=x;exact⟨_,e⟩
 |dT kvs=>obtain⟨_,_,_,_,o,_,_,e,_⟩:=x;exact⟨_,e⟩
 |dN kvs ep=>obtain⟨_,_,_,_,o,_,e,_⟩:=x;exact⟨_,e⟩
 |set S n=>obtain⟨o,_,_,_,e,_⟩:=x;exact⟨_,e⟩
 |ins C dx fs=>obtain⟨_,_,_,e,_⟩:=x;exact⟨_,e⟩
 |own y=>exact x
 |xd fs=>obtain⟨_,⟨_,_,_,e,_⟩,_⟩:=x;exact⟨_,e⟩
 |rng lo hi=>obtain⟨_,_,_,e⟩:=x;exact⟨_,e⟩
 |frz ob u=>obtain⟨e,_⟩:=x;exact⟨_,e⟩
 |tbl ps=>exact⟨_,(show h.get? a=some _ from x)⟩
 |met f y=>exact⟨_,(show h.get? a=some _ from x)⟩
 |ext φ=>obtain⟨_,e,_⟩:=x;exact e
def Jv(B:Heap)(l:List Env)(h0:Heap)(H:Hp):Prop:=(∀b o,h0.get? b=some o->b∉CD l->∃u,B.get? b=some u)/\∀b u,H b=some u->∃o,B.get? b=some o
def GB(P:Program)(w:World):Gg:=λouter H s E e s'=>∃(ea:Addr) (cv a0:Value) (H':Hp) (B:Heap),e=.ref ea/\s'.os=s.os/\AllBare s'.gens/\Un (CD outer) [] H H' s.heap s'.heap/\CW P w H' s'.heap /\
 Heap.FlyingW B outer ea cv a0 s'.heap/\Jv B outer s.heap H'/\E cv none H'
def XS(X:Cx)(cv:Value)(e:Value)(H:Hp)(s':Shared):Prop:=∃(pins:List (Addr×Obj)) (σ:L2.St) (ea:Addr),e=.ref ea /\
 ((∃s2 vs,AI X pins σ H s2/\Heap.MadeExcOf s2.heap s'.heap ea cv vs/\s'.os=s2.os/\s'.gens=s2.gens) \/
  ∃(B:Heap) (a0:Value) (s2:Shared) (H2:Hp),AI X pins σ H2 s2/\s'.os=s2.os/\AllBare s'.gens/\Un (CD X.stack) [] H2 H s2.heap s'.heap/\CW X.prog X.w H s'.heap/\Heap.FlyingW B X.stack ea cv a0 s'.heap/\Jv B X.stack s2.heap H)
section
variable {X:Cx}{pins:List (Addr×Obj)}{σ:L2.St}{H H2:Hp}{s2:Shared}{h h' B:Heap}
theorem KC(I:AI X pins σ H2 s2)(U:Un (CD X.stack) [] H2 H s2.heap h)(hok:CW X.prog X.w H h)(hB:B.StaysIn h)(hC:Jv B X.stack s2.heap H)(kB:B.StaysIn h')(up:h.UpToSlots h') :
  Un (CD X.stack) [] H2 H s2.heap h'/\CW X.prog X.w H h':=by
 have kept:∀b u o,B.get? b=some u->h.get? b=some o->h'.get? b=some o:=λb u o e q=>by
  have:=hB b u e;rw[q] at this;cases this;exact kB b _ e
 refine⟨⟨λb o q n hb hx=>?_,λb o q n hb hx=>?_,U.free,λb o q hx=>?_,U.tups,U.frzs,U.tbls⟩,λa o e=>?_⟩
 .obtain⟨u,e⟩:=hC.1 b o q hb;exact kept b u o e (U.keep b o q n hb hx)
 .obtain⟨sl,e⟩:=U.slot b o q n hb hx;obtain⟨_,o',ho',hd⟩:=I.stack.mem hb;rw[q] at ho';cases ho';obtain⟨sl',e'⟩:=up b _ e hd;exact⟨sl',e'⟩
 .obtain⟨o',e⟩:=U.there b o q hx
  by_cases hb:b∈CD X.stack
  .obtain⟨sl,e2⟩:=U.slot b o q (I.stkFree b hb) hb hx;obtain⟨_,o2,ho2,hd⟩:=I.stack.mem hb;rw[q] at ho2;cases ho2;obtain⟨sl',e'⟩:=up b _ e2 hd;exact⟨_,e'⟩
  .obtain⟨u,eu⟩:=hC.1 b o q hb;exact⟨_,kept b u o' eu e⟩
 .refine(hok a o e).stay (λb u hb q=>?_) (λ_ z=>z) λ_ _ z=>z
  have:∃x,H b=some x:=by
   rcases hb with rfl|hb
   .exact⟨_,e⟩
   .exact⟨_,hb⟩
  obtain⟨x,hx⟩:=this;obtain⟨u',eu⟩:=hC.2 b x hx;exact kept b u' u eu q
theorem AFt(I:AI X pins σ H s2):Jv (AJc s2.heap (CD X.stack)) X.stack s2.heap H :=
 ⟨λb o q hb=>⟨o,AJs _ q hb⟩,λb u e=>by
  obtain⟨o,q⟩:=Vo (I.hok b u e)
  exact⟨o,AJs _ q λhb=>by rw[I.stkFree b hb] at e;cases e⟩⟩
theorem AFI(I:AI X pins σ H s2):s2.heap.FunFrames (AJc s2.heap (CD X.stack)) X.stack :=
 PySem.W.funFrames_hide I.stack λenv he a ha=>AJU.mpr ⟨env,he,ha⟩
end
section
variable {P:Program}{w:World}{K:AM}{mg:AKO}{base:Heap}{N:List Str}{qual:Str}{scope:Scope}{f:Addr}{cdv:Value}{A:Around}{outer:List Env}{s0:Shared}{H0:Hp}{E:XK}
theorem WV{pins:List (Addr×Obj)}{σ:L2.St}{H H2:Hp}{s2:Shared}{h':Heap}(I:AI (Dt (GB P w) P w K mg base N qual scope f cdv A outer s0 H0 E) pins σ H2 s2)
  (U:Un (CD (Dt (GB P w) P w K mg base N qual scope f cdv A outer s0 H0 E).stack) [] H2 H s2.heap h'):Un (CD outer) [] H0 H s0.heap h':=by
 have hfr:CD (Dt (GB P w) P w K mg base N qual scope f cdv A outer s0 H0 E).stack=s0.heap.objs.size::CD outer:=rfl;rw[hfr] at U;have hb:Un (CD outer) [] H0 H2 s0.heap s2.heap:=I.base
 have nn:∀b o,s0.heap.get? b=some o->b∉CD outer->b∉s0.heap.objs.size::CD outer:=λb o q h z=>by
  rcases Ac.mp z with rfl|z
  .exact absurd (Heap.lt_size q) (HR _)
  .exact h z
 refine⟨λb o q n hf hx=>U.keep b o (hb.keep b o q n hf hx) (hb.free b o q n hx) (nn b o q hf) hx,λb o q n hf hx=>?_,λb o q n hx=>?_,λb o q hx=>?_,λb xs q=>U.tups b xs (hb.tups b xs q),λb o u q=>U.frzs b o u (hb.frzs b o u q),λb ps q=>?_⟩
 .obtain⟨sl,e⟩:=hb.slot b o q n hf hx;obtain⟨sl',e'⟩:=U.slot b _ e (hb.free b o q n hx) (BK _ hf) hx;exact⟨sl',e'⟩
 .obtain⟨o',e⟩:=hb.there b o q hx;exact U.free b o' e (hb.free b o q n hx) hx
 .obtain⟨o',e⟩:=hb.there b o q hx;exact U.there b o' e hx
 .obtain⟨m1,e1⟩:=hb.tbls b ps q;obtain⟨m2,e2⟩:=U.tbls b _ e1;exact⟨m1++m2,by rw[e2,Array.append_assoc]⟩
theorem Xw{pins:List (Addr×Obj)}{σ:L2.St}{H H2:Hp}{s2:Shared}{B:Heap}(I:AI (Dt (GB P w) P w K mg base N qual scope f cdv A outer s0 H0 E) pins σ H2 s2)
  (C:Jv B (Dt (GB P w) P w K mg base N qual scope f cdv A outer s0 H0 E).stack s2.heap H):Jv B outer s0.heap H:=by
 refine⟨λb o q hf=>?_,C.2⟩;obtain⟨o',e⟩:=I.base.there b o q (by simp[Dt]);refine C.1 b o' e λz=>?_;have z':b∈s0.heap.objs.size::CD outer:=z;rcases Ac.mp z' with rfl|z'
 .exact absurd (Heap.lt_size q) (HR _)
 .exact hf z'
theorem Zr{cv e:Value}{H:Hp}{s':Shared}(hE:E cv none H)(x:XS (Dt (GB P w) P w K mg base N qual scope f cdv A outer s0 H0 E) cv e H s'):(Dt (GB P w) P w K mg base N qual scope f cdv A outer s0 H0 E).xe e s':=by
 obtain⟨pins,σ,ea,rfl,x⟩:=x;show wpAny (model P w) (A.deeper (envOfC qual scope s0.heap.objs.size f cdv)) (leaving (envOfC qual scope s0.heap.objs.size f cdv) (.ref ea)) (λ_ s''=>GB P w outer H0 s0 E (.ref ea) s'') (λe' s''=>GB P w outer H0 s0 E e' s'') s';rcases x with⟨s2,vs,I,hx,ho,hg⟩|⟨B,a0,s2,H2,I,ho,hg,U,hok,fly,C⟩
 .refine wpAny_leaves_madeW (base:=AJc s2.heap (CD (envOfC qual scope s0.heap.objs.size f cdv::outer))) (h:=s2.heap) I.ok.frames rfl (λb o q=>AJt _ q) (AFI I) hx λh' t fly _ _ up=>?_;have C:=AFt I;have U0:Un (CD (Dt (GB P w) P w K mg base N qual scope f cdv A outer s0 H0 E).stack) [] H H s2.heap s2.heap:=Un.refl;obtain⟨U,hok⟩:=KC I U0 I.hok (λb o q=>AJt _ q) C fly.1 ((Heap.UpToSlots.of_keeps hx.keeps).trans up);exact⟨ea,cv,.ref t,H,_,rfl,ho.trans I.os,by show AllBare s'.gens;rw[hg];exact I.bare,WV I U,hok,fly,Xw I C,hE⟩
 .refine wpAny_leaves_onW (base:=B) I.ok.frames rfl fly λh' fly' up=>?_;obtain⟨U',hok'⟩:=KC I U hok fly.1 C fly'.1 up;exact⟨ea,cv,a0,H,B,rfl,ho.trans I.os,hg,WV I U',hok',fly',Xw I C,hE⟩
end
abbrev SX:=Fm->AD->Option (Str×AD)
abbrev HN:=List D->AD->Option (Str×AD)
def WN(X:Cx)(fx:SX):L2.St->Hp->Prop:=λσ H=>∃O ρ L c L' C,DS X.K H O σ ρ L/\fx ρ L=some (c,L')/\EK X.K c C /\
 ∀H' O' e s',Ah H O H' O'->Am X.K H' O' L'->XS X (.ref C) e H' s'->X.xe e s'
def MD(X:Cx)(st:Stmt)(f:SF)(fx:SX):Prop:=PS X st λE σ H=>Ng X.K f E σ H\/WN X fx σ H
def JG(X:Cx)(st:List Stmt)(f:SF)(fx:SX):Prop:=DT X st λE σ H=>Ng X.K f E σ H\/WN X fx σ H
def LU:SX:=λ_ _=>none
def KL(f:SF)(fx gx:SX):SX:=λρ L=>match fx ρ L with
 |some r=>some r
 |none=>(match f ρ L with|some (.next ρ' L')=>gx ρ' L'|_=>none)
def La(t:TF)(fx gx:SX):SX:=λρ L=>(t ρ L).bind λx=>if x.1=true then fx ρ x.2 else gx ρ x.2
def LL(c:Str):SX:=λ_ L=>some (c,L)
section
variable {X:Cx}{st:Stmt}{rest:List Stmt}{f g:SF}{fx gx:SX}{e:Expr}{fe:EF}{pos:Pos}
theorem ACE{t:TS}(h:PS X.nox st t):PS X st t:=λpins s σ H D I hw=>EM (h pins s σ H D (I.wish _) hw) (λ_ _ q=>q.unwish) λ_ _ z=>False.elim z
theorem AAz(h:Du X.nox st f):MD X st f LU:=PS.weaken (ACE h) λD σ H q=>by
 rcases q with q|⟨O,ρ,L,c,L',C,r,e,_⟩
 .exact q
 .cases e
theorem AA5:JG X [] Az LU:=DT.weaken VN λD σ H q=>by
 rcases q with⟨O,ρ,L,out,r,e,k⟩|⟨O,ρ,L,c,L',C,r,e,_⟩
 .cases e;exact k σ H O (.refl _ _) r
 .cases e
theorem Ul(h1:MD X st f fx):JG X [st] f fx:=DT.weaken (VM h1) λD σ H h=>h
theorem Um(h1:MD X st f fx)(h2:JG X rest g gx):JG X (st::rest) (AN f g) (KL f fx gx) :=
 DT.weaken (VO h1 h2) λD σ H q=>by
  rcases q with⟨O,ρ,L,out,r,e,k⟩|⟨O,ρ,L,c,L',C,r,e,hC,k⟩
  .unfold AN at e
   cases e1:f ρ L with
   |none=>rw[e1] at e;cases e
   |some o1 =>
    rw[e1] at e;simp only[AS] at e;refine .inl ⟨O,ρ,L,o1,r,e1,?_⟩
    cases o1 with
    |next ρ1 L1=>exact λσ' H' O' st' r'=>.inl ⟨O',ρ1,L1,out,r',e,k.mono st'⟩
    |ret d L1=>cases e;exact k
    |brk ρ1 L1=>cases e;exact k
    |cont ρ1 L1=>cases e;exact k
  .unfold KL at e
   cases e1:fx ρ L with
   |some p =>
    rw[e1] at e;cases e;exact .inr ⟨O,ρ,L,c,L',C,r,e1,hC,k⟩
   |none =>
    rw[e1] at e
    cases e2:f ρ L with
    |none=>rw[e2] at e;cases e
    |some o1 =>
     rw[e2] at e
     cases o1 with
     |next ρ1 L1 =>
      refine .inl ⟨O,ρ,L,_,r,e2,λσ' H' O' st' r'=>.inr ⟨O',ρ1,L1,c,L',C,r',e,hC,λH2 O2 ev s2 st2 rs2 x=>k H2 O2 ev s2 (st'.trans st2) rs2 x⟩⟩
     |ret d L1=>cases e
     |brk ρ1 L1=>cases e
     |cont ρ1 L1=>cases e
theorem AA0{c:Expr}{a b:List Stmt}{t:TF}(hc:Ex X c t)(ha:JG X a f fx)(hb:JG X b g gx):MD X (.If c a b pos) (An t f g) (La t fx gx) :=
 PS.weaken (VP hc ha hb) λD σ H q=>by
  rcases q with⟨O,ρ,L,out,r,e,k⟩|⟨O,ρ,L,cn,L',C,r,e,hC,k⟩
  .unfold An at e
   cases e1:t ρ L with
   |none=>rw[e1] at e;cases e
   |some p =>
    rw[e1] at e;obtain⟨b1,L1⟩:=p;refine⟨O,ρ,L,b1,L1,r,e1,λH1 O1 st rs=>?_⟩
    cases b1 with
    |true=>exact iteT (.inl ⟨O1,ρ,L1,out,r.to st rs,by simpa using e,k.mono st⟩)
    |false=>exact iteF (.inl ⟨O1,ρ,L1,out,r.to st rs,by simpa using e,k.mono st⟩)
  .unfold La at e
   cases e1:t ρ L with
   |none=>rw[e1] at e;cases e
   |some p =>
    rw[e1] at e;obtain⟨b1,L1⟩:=p;refine⟨O,ρ,L,b1,L1,r,e1,λH1 O1 st rs=>?_⟩
    cases b1 with
    |true=>exact iteT (.inr ⟨O1,ρ,L1,cn,L',C,r.to st rs,by simpa using e,hC,λH2 O2 ev s2 st2 rs2 x=>k H2 O2 ev s2 (st.trans st2) rs2 x⟩)
    |false=>exact iteF (.inr ⟨O1,ρ,L1,cn,L',C,r.to st rs,by simpa using e,hC,λH2 O2 ev s2 st2 rs2 x=>k H2 O2 ev s2 (st.trans st2) rs2 x⟩)
end
def JP(K:AM)(G:GL)(GX:HN):Sp:=λvs H Q E=>rC K G vs H Q\/∃O L xs c L' C,Am K H O L/\AV K H O vs xs/\GX xs L=some (c,L')/\EK K c C/\∀H' O',Ah H O H' O'->Am K H' O' L'->E (.ref C) none H'
structure JJ (P:Program) (w:World) (K:AM) (mg:AKO) (base:Heap) (k:Nat) (x:Str) (G:GL) (GX:HN):Prop where
 ex:∃f fd ps,Dv P w K mg base (GB P w) k f fd ps (JP K G GX)/\mg x=some (.ref f)/\GH K (.ref f)=true/\Ez K fd ps []
theorem JJ.mono{P:Program}{w:World}{K:AM}{mg:AKO}{base:Heap}{j k:Nat}{x:Str}{G:GL}{GX:HN}(F:JJ P w K mg base j x G GX)(h:j<=k):JJ P w K mg base k x G GX:=by obtain⟨f,fd,ps,a,b⟩:=F.ex;exact⟨f,fd,ps,a.mono h,b⟩
def KN(B:SX)(N:List Str)(n:Nat):HN:=λxs L=>if xs.length=n then B (DP N xs) L else none
theorem AFK{P:Program}{w:World}{K:AM}{mg:AKO}{base:Heap}{x qual:Str}{st:Stmt}{f:Addr}{fd:FuncData}{N ps:List Str}{k:Nat}{B:SF}{BX:SX}(Fn:Ho K x qual st f fd)(S:BP N ps (Aa st))
  (hb:∀(cdv:Value) (A:Around) (outer:List Env) (s:Shared) (H:Hp) (E:XK),Bq k (A.deeper (envOfC qual (Aa st) s.heap.objs.size f cdv)) ->
   JG (Dt (GB P w) P w K mg base N qual (Aa st) f cdv A outer s H E) (Ff st) B BX)
  (bi:Ez K fd ps []) (m:mg x=some (.ref f)) (kp:GH K (.ref f)=true):JJ P w K mg base (k+1) x (Ax B N ps.length) (KN BX N ps.length):=by
 refine⟨f,fd,ps,?_,m,kp,bi⟩;obtain⟨oc,od,kV,doc,pm,an,cdv,ct,osl,rfl,lk,hcd⟩:=Fn.ex;refine XV lk hcd S (λvs H Q E h=>?_) λA outer s H vs Q E hr hsp=>⟨_,hb cdv A outer s H E hr,?_⟩
 .rcases h with⟨O,L,xs,d,L',_,is,e,_⟩|⟨O,L,xs,c,L',C,_,is,e,_⟩
  .rw[is.length];exact NJ e
  .rw[is.length];unfold KN at e;split at e
   .assumption
   .cases e
 .rcases hsp with⟨O,L,xs,d,L',rs,is,e,kk⟩|⟨O,L,xs,c,L',C,rs,is,e,hC,kk⟩
  .obtain⟨L'',hB,hd⟩:=NI e
   have close:∀v H' O',Ah H O H' O'->Am K H' O' L''->Is K H' O' v d->Q v H':=λv H' O' st' rs' is'=>by
    rcases hd with rfl|⟨rfl,⟨M,rfl⟩,nr⟩
    .exact kk v H' O' st' rs' is'
    .exact kk v H' O ⟨st'.1,As _⟩ (rs.back st' rs') (is'.nr nr)
   rcases hB with hB|⟨rfl,ρ',hB⟩
   .exact .inl ⟨O,DP N xs,L,_,⟨rs,Lp is⟩,hB,close⟩
   .exact .inl ⟨O,DP N xs,L,_,⟨rs,Lp is⟩,hB,λσ' H' O' st' r'=>close _ H' O' st' r'.s .non⟩
  .unfold KN at e;split at e
   .exact .inr ⟨O,DP N xs,L,c,L',C,⟨rs,Lp is⟩,e,hC,λH' O' ev s' st' rs' x=>Zr (kk H' O' st' rs') x⟩
   .cases e
abbrev JB:List Value:=[.type "ValueError",.type "Exception",.type "BaseException",.type "object"]
structure Cg (K:AM) (c:Str) (C:Addr):Prop where
 ns:Bw K mainGlobals c=some (some (.ref C))
 ok:AI4 K C JB "ValueError.__new__"=true
def Yr(h:Heap)(C:Addr):Prop:=∃(bm:List Value) (N:Addr) (nm qn:Str) (bs:List Value) (hd:Bool) (sn:List Str) (sub:List Value) (ab:Bool) (col:Option Bool) (dd:Option Addr) (k0 k1 k2 k3 k5:Option Value) (mN:AKO),
 h.get? C=some (excClassObj nm qn C N bs bm hd sn sub ab col dd k0 k1 k2 k3 k5 "ValueError.__new__")/\h.Ns N mN/\mN "__init__"=none/\OwnTail h JB bm
theorem Ix{K:AM}{h:Heap}{c:Str}{C:Addr}(KI:K.In h)(z:Cg K c C):Yr h C:=by
 have q:=z.ok;unfold AI4 at q;split at q
 .rename_i od cdat slots look;split at q
  .rename_i Cx mr s0 s1 s2 s3 nw s5 hmro hslots;simp only[CA,beq_iff_eq,Bool.not_eq_true'] at q;obtain⟨⟨⟨⟨⟨e1,e2⟩,e3⟩,tl⟩,nsk⟩,nini⟩:=q;subst e1 e2
   cases cdat with
   |mk nm bs mro ns qn hd sn sub ab col del =>
    dsimp only at hmro e3 nsk nini;subst hmro e3
    cases slots with
    |mk sl =>
     dsimp only at hslots;subst hslots;exact⟨mr,ns,nm,qn,bs,hd,sn,sub,ab,col,od,s0,s1,s2,s3,s5,h.nsMap ns,KI _ _ look,.of_isNs (PySem.W.isNs_of_in KI nsk),PySem.W.nsMap_none_of_in KI nsk nini,PySem.W.tail_of_in KI tl⟩
  .cases q
 .cases q
section
variable {X:Cx}{c:Str}{C:Addr}{y:Str}{j:Nat}{p np cpos pos:Pos}
theorem UY(z:Cg X.K c C)(hcalm:X.calm=true)(hg:Gl X c:=by rfl)(hdb:(c == ("__debug__":Str))=false:=by decide) :
  MD X (.Raise (some (.Call (.Name c np) [.Constant (.str y) j p] [] cpos)) none pos) JU (LL c):=by
 intro pins s σ H D I h;rcases h with⟨O,ρ,L,out,r,e,k⟩|⟨O,ρ,L,c',L',C',r,e,hC,k⟩
 .cases e
 .cases e
  have hCC:C'=C:=by have:=z.ns;unfold EK at hC;rw[hC] at this;cases this;rfl
  subst hCC;have hm:X.mg c=some (.ref C'):=EC I.mod.kin I.mod.glob z.ns;obtain⟨bm,N,nm,qn,bs,hd,sn,sub,ab,col,dd,k0,k1,k2,k3,k5,mN,hobj,hns,hni,T⟩:=Ix (I.tok (s.toks+1)).kIn z;refine wpAny_Raise_call_subU (k5:=k5) (k3:=k3) (k2:=k2) (k1:=k1) (k0:=k0) (dd:=dd) (col:=col) (ab:=ab) (sub:=sub) (sn:=sn) (hdct:=hd) (bs:=bs) (N:=N) (q:=qn) (nm:=nm) (C:=C') PySem.F.excBase_ValueError rfl PySem.F.excBase_ValueError (mN:=mN) (T.hasType rfl) (I.ok.hd hcalm) rfl hni (Hd I hg hm ⟨rfl,?_⟩ hdb);refine Calls.evalArgs_plain ?_;show wpAny _ _ (spliced [(false,eval (.Constant (.str y) j p) X.env)]) _ _ s;refine Calls.spliced_cons (Calls.Constant_str (k:=j) (pos:=p) (Calls.spliced_nil ?_));refine⟨rfl,by simp[sizeLine_eq],hobj,hns,T,λh' ev hx=>?_⟩;exact k H O (.ref ev) _ (.refl _ _) r.s ⟨pins,σ,ev,rfl,.inl ⟨_,_,I.tok _,hx,rfl,rfl⟩⟩
end
section
variable {M:Model}{A:Around}{E:AKP}
theorem Xb{h:Heap}{g:Array GenState}{d:Drawn}{t:Nat}{os:OsState}{ev C C2:Addr}{oe:Obj}{Q:Bool->Shared->Prop}(z:Yr h C2)(he:h.get? ev=some oe)(hcls:oe.cls=.ref C)
  {nm qn:Str} {N:Addr} {bs bm:List Value} {hd:Bool} {sn:List Str} {sub:List Value} {ab:Bool} {col:Option Bool} {dd:Option Addr} {k0 k1 k2 k3 k5:Option Value} {nw:String}
  (hC:h.get? C=some (excClassObj nm qn C N bs bm hd sn sub ab col dd k0 k1 k2 k3 k5 nw)) (hm:(Value.ref C::bm).contains (.ref C2)=true)
  (hq:Q true ⟨h,g,d,t,os⟩):wpAny M A (excMatches (.ref ev) (.ref C2)) Q E ⟨h,g,d,t,os⟩:=by
 obtain⟨bm2,N2,nm2,qn2,bs2,hd2,sn2,sub2,ab2,col2,dd2,j0,j1,j2,j3,j5,mN2,hC2,_,_,T2⟩:=z
 have hB:(Value.ref C2::bm2).contains (.type "BaseException")=true:=by have h1:bm2.contains (.type "BaseException")=true:=T2.hasType rfl;rw[List.contains_cons,h1,Bool.or_true]
 have f:=tc_notTuple;unfold excMatches
 repeat (first
  |(with_reducible refine wpAny_loadPart_at he ?_;rw[hcls])
  |with_reducible refine wpAny_loadPart_at hC2 ?_
  |(with_reducible refine wpAny_isSubtype_exc hC2 ?_;rw[hB])
  |(with_reducible refine wpAny_isSubtype_exc hC ?_;rw[hm])
  |wp_step)
 exact hq
end
def Kv(x C:Addr)(h:Heap):Prop:=∃o,h.get? x=some o/\o.cls=.ref C
theorem Kv.ty{x C:Addr}{h:Heap}(p:Kv x C h)(M:Model):PySem.W.Looks M h (typeOf (.ref x)) (.ref C):=by obtain⟨o,h1,h2⟩:=p;rw[<-h2];exact(PySem.W.Looks.ld h1).andThen .now
structure GA (K:AM) (C:Addr):Prop where
 ga:Cw K (.ref C) "__getattribute__"=some (some (.builtin "BaseException.__getattribute__"))
 gh:Cw K (.ref C) "__getattr__"=some none
 ha:Cw K (.ref C) "__class__"=some (some (.builtin "object.__class__"))
 hn:PySem.W.specialIn K (.builtin "object.__class__") "__get__"=some (some (.builtin "getset_descriptor.__get__"))
 tk:PySem.W.takesIn K (.builtin "object.__class__")=some true
 mr:AIy K C (.type "object")=some true
section
open PySem.W Builtin Builtin.ObjectAttr Builtin.Getset_descriptor
variable {prog:Program}{w:World}{A:Around}{E:AKP}{s:Shared}{K:Frag}{x C:Addr}
theorem AFS{M:Model}{h:Heap}(KI:K.In h)(c:GA K C):Looks M h (find (.ref x) (.ref C) "__class__") (.bind (.builtin "getset_descriptor.__get__") (.builtin "object.__class__")) :=
 (looks_findIn KI c.ha).andThen ((looks_specialIn KI c.hn).andThen (((looks_takesIn KI c.tk).andThen .now:Looks M h (dataDescriptor? (some (.builtin "object.__class__")) (some (.builtin "getset_descriptor.__get__"))) (some (.builtin "getset_descriptor.__get__",.builtin "object.__class__"))).andThen (Looks.tag .now)))
theorem AFT{R:Result->Shared->Prop}{tp:Value}(KI:K.In s.heap)(p:Kv x C s.heap)(c:GA K C)(h:R (.ok (.ret (.ref C))) s) :
  codeAny (model prog w) A (.call (.builtin "getset_descriptor.__get__") ⟨[.builtin "object.__class__",.ref x,tp],[]⟩) R s:=by
 cases s with
 |mk hh g dr t os =>
  have T0:=p.ty (model prog w);have T1:=looks_mroIn (M:=model prog w) KI c.mr;refine codeAny_call_builtin KF.slot_gs.plain KF.entry_gs (KF.slot_gs.check _ _ _ _ _ _ _ _ KF.type_class (KF.args_gs _ _ _) ?_);unfold Builtin.«getset_descriptor.__get__» descrGet;rw[dga_obj];refine AH (AR ?_);unfold descrGetter descrCheckInstance descrNameAndClass isInstance;simp only[KF.owner_class]
  repeat lk
  refine⟨Code.quiet_builtin _ (by decide +kernel),codeAny_builtin KF.entry_class ?_⟩
  unfold Builtin.«object.__class__» shownTypeOf;repeat lk
  exact h
theorem AFV{M:Model}{nameV:Value}{Q:Unit->Shared->Prop}{c:Str}(z:Cg K c C)(KI:K.In s.heap)(p:Kv x C s.heap)(hq:Q () s):wpAny M A (checkBuiltinCall "BaseException.__getattribute__" ⟨[.ref x,nameV],[]⟩) Q E s:=by
 obtain⟨o,hx,hc⟩:=p;obtain⟨bm,N,nm,qn,bs,hd,sn,sub,ab,col,dd,k0,k1,k2,k3,k5,mN,hC,_,_,T⟩:=Ix KI z;obtain⟨h,g,d,t,os⟩:=s;have hk:builtinKind "BaseException.__getattribute__"=some .slot:=by decide +kernel
 have hsplit:splitId "BaseException.__getattribute__"=some ("BaseException","__getattribute__"):=by decide +kernel
 have hcB:(Value.ref C::bm).contains (.type "BaseException")=true:=by rw[List.contains_cons,T.hasType rfl];rfl
 have ha:=F.args_bexc_ga (.ref x) nameV;simp only[checkBuiltinCall,hk,hsplit];refine AH ?_
 .unfold isInstance
  repeat (first|(with_reducible refine wpAny_loadPart_at hx ?_;rw[hc])|(with_reducible refine wpAny_isSubtype_exc hC ?_;rw[hcB])|wp_step)
  exact hq
theorem AFU{c:Str}{Q:Option Value->Shared->Prop}(z:Cg K c C)(KI:K.In s.heap)(p:Kv x C s.heap)(ec:GA K C)(h:Q (some (.ref C)) {s with toks:=s.toks+1}):wpAny (model prog w) A (getAttr? (.ref x) "__class__") Q E s:=by
 have T0:=p.ty (model prog w);have T1:=AFS (x:=x) (M:=model prog w) KI ec;have TG:=looks_findIn (M:=model prog w) KI ec.ga;have TH:=looks_findIn (M:=model prog w) KI ec.gh
 have key:∀{A:Around} {E:AKP} {R:Fin->Shared->Prop} {t:Nat} {tk:Tok},R (.done (.ret (.ref C))) {s with toks:=t}->wpAny (model prog w) A (Builtin.«object.__getattribute__» ⟨[.ref x,.str "__class__" tk],[]⟩) R E {s with toks:=t}:=λ{A E R t tk} hR=>by
  refine AH (AR (AH (AR (AH (T0.at (AH (T1.at ?_)))))));show wpAny _ _ (holding [.builtin "object.__class__"] (call (.builtin "getset_descriptor.__get__") [.builtin "object.__class__",.ref x,.ref C]) >>= ret) _ _ _;exact AH (Do (wpAny_call (AFT KI p ec (AR hR))))
 have f3:=PySem.F.excAttr_ValueError.ga.bind (.ref x);unfold getAttr? getAttrBy? getAttrBy;refine AH (wpAny_mkText (AH (wpAny_attempt (Do (AH (T0.at (AH (TG.at ?_))))))));show wpAny _ _ (getAttrByItsOwn _ _ _ _ _ _) _ _ _;unfold getAttrByItsOwn callGetattribute boundAndCalled;refine AH (TH.at (AH (wpAny_attempt (Do ?_))));show wpAny _ _ (bindSpecial (.builtin "BaseException.__getattribute__") (.ref x) >>= _) _ _ _;rw[f3];refine AH (AR (wpAny_call (codeAny_call_builtin PySem.F.excAttr_ValueError.ga.plain F.entry_bexc_ga (AFV z KI p (key ?_)))));exact handed_on rfl (AR h)
theorem WY{c:Str}(z:Cg K c C)(ec:GA K C):KitX K (.ref x) (.ref C) (Kv x C) where
 ty:=λM h _ p=>p.ty M
 it:=λM h KI _=>by
  obtain⟨bm,N,nm,qn,bs,hd,sn,sub,ab,col,dd,k0,k1,k2,k3,k5,mN,ho,_⟩:=Ix KI z;intro A' Q' E' s' k q;unfold isType loadHead;exact AH (wpAny_loadPart (k _ _ ho) (AR q))
 ne:=λh tp dd its n sl KI htp=>by
  obtain⟨bm,N,nm,qn,bs,hd,sn,sub,ab,col,dd,k0,k1,k2,k3,k5,mN,ho,_⟩:=Ix KI z;refine AJS.mpr λq=>?_;have e:C=tp:=Value.ref.inj (beq_iff_eq.mp q);subst e;rw[ho] at htp;have q2:=congrArg Obj.cls (Option.some.inj htp);simp[excClassObj] at q2
 ca:=λKI p k=>AFU z KI p ec k
end
def Xh(X:Cx)(ev:Value):Cx:={X with A:=X.A.mark (some ev),calm:=false}
theorem ADV{X:Cx}(ok:X.Ok)(ev:Value):(Xh X ev).Ok :=
 ⟨ok.mod,ok.kind,ok.glob,ok.blt,ok.above,ok.inj,ok.has,ok.cab,(λh=>by cases h),ok.frames,ok.stk,ok.exf,ok.bs,ok.bsz,ok.noex,ok.exfs,ok.funs,ok.frf⟩
section
variable {X:Cx}{pins:List (Addr×Obj)}{σ:L2.St}{H:Hp}{s:Shared}{ev:Value}
theorem Nk(I:AI X pins σ H s)(ev:Value):AI (Xh X ev) pins σ H s:=⟨ADV I.ok ev,I.os,I.bare,I.base,I.loc,I.cell,I.free,I.freeC,I.pin,I.hok,I.len⟩
theorem Nj(ok:X.Ok)(I:AI (Xh X ev) pins σ H s):AI X pins σ H s:=⟨ok,I.os,I.bare,I.base,I.loc,I.cell,I.free,I.freeC,I.pin,I.hok,I.len⟩
theorem Ur{D:JK}{f:Flow}{s':Shared}(ok:X.Ok)(h:SP (Xh X ev) pins D f s'):SP X pins D f s':=by
 cases f with
 |next=>obtain⟨σ',H',I,q⟩:=h;exact⟨σ',H',Nj ok I,q⟩
 |brk=>obtain⟨σ',H',I,q⟩:=h;exact⟨σ',H',Nj ok I,q⟩
 |cont=>obtain⟨σ',H',I,q⟩:=h;exact⟨σ',H',Nj ok I,q⟩
 |ret u=>obtain⟨v,σ',H',I,r,q⟩:=h;exact⟨v,σ',H',Nj ok I,r,q⟩
end
structure JD (K:AM) (c:Str) (C0:Addr):Prop where
 ex:∃C,Cg K c C/\AIy K C (.ref C0)=some true
theorem Vw{K:AM}{h:Heap}{C:Addr}{v:Value}(KI:K.In h)(m:AIy K C v=some true){nm qn:Str}{N:Addr}{bs bm:List Value}{hd:Bool}{sn:List Str}{sub:List Value}{ab:Bool}{col:Option Bool}{dd:Option Addr}{k0 k1 k2 k3 k5:Option Value}{nw:String}
  (hC:h.get? C=some (excClassObj nm qn C N bs bm hd sn sub ab col dd k0 k1 k2 k3 k5 nw)):(Value.ref C::bm).contains v=true:=by
 unfold AIy at m;obtain⟨cd,hcd,m⟩:=GI.mp m;unfold PySem.W.clsIn at hcd;split at hcd
 .rename_i ho;have e:=KI _ _ ho;rw[hC] at e;have e2:=congrArg Obj.data (Option.some.inj e);simp only[excClassObj] at e2;cases hcd
  injection e2 with e2
  subst e2;split at m
  .cases m
  .exact Option.some.inj m
 .cases hcd
def Mx(G:GL)(GX:HN)(a:AF)(subs:Str->Bool)(fh:SF):SF:=λρ L=>(a ρ L).bind λy=>match G y.1 y.2 with
 |some r=>some (.next ρ r.2)
 |none=>(GX y.1 y.2).bind λz=>if subs z.1=true then fh ρ z.2 else none
section
variable {X:Cx}{k:Nat}{x c0:Str}{C0:Addr}{G:GL}{GX:HN}{a:AF}{subs:Str->Bool}{fh:SF}{p pos pe pc ph pt:Pos}{e:Expr}{es:List Expr}{b0:Stmt}{body:List Stmt}
theorem ABN(F:JJ X.prog X.w X.K X.mg X.base k x G GX)(hr:Bq k X.A)(ha:Ed X.nox (e::es) a)(hC:Cg X.K c0 C0)(hsub:∀c,subs c=true->JD X.K c C0)
  (hs:∀ev,FM (Xh X ev).nox (b0::body) fh) (hstk:X.stack=X.env::X.outer) (hfr:X.env.frame=some X.env.locals)
  (hg:Gl X x:=by rfl) (hgc:Gl X c0:=by rfl) (hdb:(x == ("__debug__":Str))=false:=by decide) (hdc:(c0 == ("__debug__":Str))=false:=by decide)
  (he:Dx e=true:=by rfl) (hpl:es.all Dx=true:=by rfl) (hsw:swapsWith (.Call (.Name x p) (e::es) [] pos) none pe.line X.env=pure false:=by rfl) :
  Du X (.Try [.Expr (.Call (.Name x p) (e::es) [] pos) pe] [.ExceptHandler (some (.Name c0 pc)) none (b0::body) ph] [] [] pt) (Mx G GX a subs fh):=by
 intro pins s σ H D I h;obtain⟨O,ρ,L,out,r,e0,k0⟩:=h;unfold Mx at e0;obtain⟨y,e1,e0⟩:=GI.mp e0;obtain⟨fa,fd,ps,Fk,hm,hk,bi⟩:=F.ex;refine wpAny_Try_except (wpAny_execs_cons (wpAny_Expr_any ?_ I.quiet hsw));refine AKF (Hd I hg hm ?_ hdb)
 refine AJh (h₀:=X.base) I.ok.mod.kin hk (EM (ha pos pins s σ H (λvs H1=>∃O1,Ah H O H1 O1/\Am X.K H1 O1 y.2/\AV X.K H1 O1 vs y.1) (I.wish _) ⟨O,ρ,L,y.1,y.2,r,e1,λvs H1 O1 st rs is=>⟨O1,st,rs,is⟩⟩)
  (λus s1 q=>?_) λ_ _ z=>False.elim z) (Gq he) (Hv hpl)
 obtain⟨vs,H1,I1w,rv,O1,st1,rs1,is1⟩:=q;have I1:AI X pins σ H1 s1:=I1w.unwish;refine⟨I1.kIn,?_⟩;have hl:∀{Q E},JP X.K G GX vs H1 Q E->(us++[]).length=ps.length:=λh=>by rw[HS,<-rv.length];exact Fk.len _ _ _ _ h
 cases eG:G y.1 y.2 with
 |some z =>
  rw[eG] at e0;cases e0;have hsp:JP X.K G GX vs H1 (λv H'=>∃O',Ah H1 O1 H' O'/\Am X.K H' O' z.2) (λ_ _ _=>False):=.inl ⟨O1,y.2,y.1,z.1,z.2,rs1,is1,eG,λv H' O' st rs is=>⟨O',st,rs⟩⟩;refine wpAny_call (codeAny_mono (Fk.run X.A X.stack s1 H1 ⟨us,[]⟩ us vs _ _ hr I1.env0 (by have:=bi s1 us I1.kIn (hl hsp);rwa [HS] at this) rv hsp) λrr s' hq=>?_)
  cases rr with
  |error ev=>obtain⟨ea,cv,a0,H',B,_,_,_,_,_,_,_,z⟩:=hq;exact z.elim
  |ok fl =>
   cases fl with
   |ret u =>
    obtain⟨v,H',I',_,O',st,rs⟩:=I1.after hq;exact AKD (AKD ⟨σ,H',I',k0 σ H' O' (st1.trans st) ⟨rs,r.f.mono (st1.trans st)⟩⟩)
   |next=>exact False.elim hq
   |brk=>exact False.elim hq
   |cont=>exact False.elim hq
 |none =>
  rw[eG] at e0;obtain⟨z,eX,e0⟩:=GI.mp e0
  have hz:subs z.1=true:=by
   by_cases hz:subs z.1=true
   .exact hz
   .rw[if_neg hz] at e0;cases e0
  rw[if_pos hz] at e0;obtain⟨C,zC,hmro⟩:=(hsub _ hz).ex;have hsp:JP X.K G GX vs H1 (λ_ _=>False) (λcv _ H'=>cv=.ref C/\∃O',Ah H1 O1 H' O'/\Am X.K H' O' z.2):=.inr ⟨O1,y.2,y.1,z.1,z.2,C,rs1,is1,eX,zC.ns,λH' O' st rs=>⟨rfl,O',st,rs⟩⟩;refine wpAny_call (codeAny_mono (Fk.run X.A X.stack s1 H1 ⟨us,[]⟩ us vs _ _ hr I1.env0 (by have:=bi s1 us I1.kIn (hl hsp);rwa [HS] at this) rv hsp) λrr s' hq=>?_)
  cases rr with
  |ok fl =>
   cases fl with
   |ret u=>obtain⟨v,H',_,_,z⟩:=I1.after hq;exact z.elim
   |next=>exact False.elim hq
   |brk=>exact False.elim hq
   |cont=>exact False.elim hq
  |error ev =>
   obtain⟨ea,cv,a0,H',B,rfl,ho,hg',U,hok,fly,Cv,rfl,O',st2,rs2⟩:=hq;have fly0:Heap.FlyingW B (X.env::X.outer) ea (.ref C) a0 s'.heap:=by rw[<-hstk];exact fly
   refine wpAny_looks_onW (by rw[I1.ok.frames,hstk]) hfr fly0 λh1 held up1=>?_;refine wpAny_landsW held λh2 fly2 up2=>?_;have un2:=KC I1 U hok fly.1 Cv fly2.1 (up1.trans up2);have II:AI X pins σ H' {s' with heap:=h2}:=I1.call' ho un2.1 un2.2 hg' (λb z=>absurd z (by simp));have hm0:X.mg c0=some (.ref C0):=EC II.mod.kin II.mod.glob hC.ns;refine wpAny_handleBy_cons (codeAny_handlers_test ?_) (by intro q;cases q);refine Hd (Nk II (.ref ea)) hgc hm0 ?_ hdc;obtain⟨ob,hob,hcls⟩:=fly2.there;obtain⟨bm,N,nm,qn,bs,hd,sn,sub,ab,col,dd,k1,k2,k3,k4,k5,mN,hobj,_⟩:=Ix II.kIn zC;refine Xb (Ix II.kIn hC) hob hcls hobj (Vw II.kIn hmro hobj) ?_;show codeAny _ _ _ _ _;refine codeAny_handlers_suite (lands_againW fly2 λh3 fly3 up3=>?_);have un3:=KC I1 U hok fly.1 Cv fly3.1 ((up1.trans up2).trans up3);have III:AI X pins σ H' {s' with heap:=h3}:=I1.call' ho un3.1 un3.2 hg' (λb z=>absurd z (by simp));exact EM (hs (.ref ea) pins _ σ H' D ((Nk III _).wish _) ⟨O',ρ,z.2,out,⟨rs2,r.f.mono (st1.trans st2)⟩,e0,k0.mono (st1.trans st2)⟩) (λf s q=>Ur III.ok q.unwish) λ_ _ z=>False.elim z
end
section
variable {X:Cx}{pins:List (Addr×Obj)}{σ:L2.St}{H H1 H':Hp}{s s1:Shared}{h:Heap}
theorem Wz{M:Model}{A:Around}{E:AKP}{i:Nat}{x:Str}{pos:Pos}{Q:Unit->Shared->Prop}(I:AI X pins σ H s)(hN:X.N.Nodup)(hi:X.N[i]?=some x)(hk:X.env.scope.names.lookup x=some .local)
  (h:∀s',AI X pins (σ.set i none) H s'->Q () s'):wpAny M A (do bindName X.env x .none;unbindBehindTheSuite X.env x pos) Q E s:=by
 obtain⟨m,hn,hl⟩:=id I.loc;have hcls:(X.env.scope.kind == .class || (X.env.scope.kind == .module&&X.env.locals != X.env.globals))=false:=by rw[I.ok.kind];rfl
 have hiσ:i<σ.length:=by rw[I.len];exact(BQ.mp hi).1
 have cne:=I.cne;refine wpAny_nameGoes_keeps hk hn hcls λh' v hn' hs=>?_;obtain⟨oL,_,_,hoL,_⟩:=id hn;refine h _ ⟨I.ok,I.os,I.bare,⟨λb o e n hb hx=>?_,λb o e n hb hx=>?_,I.base.free,λb o e hx=>?_,I.base.tups,I.base.frzs,I.base.tbls⟩,⟨_,hn',λj y v' e1 e2 e3=>?_⟩,λy c e=>?_,I.free,I.freeC,λp hp=>?_,λb ob e=>?_,by simpa using I.len⟩
 .exact(hs.2 b (Bi (Cy (Heap.lt_size e) I.ok.above))).trans (I.base.keep b o e n hb hx)
 .obtain⟨sl,e1⟩:=I.base.slot b o e n hb hx;exact⟨sl,(hs.2 b (Bi (Cy (Heap.lt_size e) I.ok.above))).trans e1⟩
 .obtain⟨o',e1⟩:=I.base.there b o e hx;exact⟨o',(hs.2 b (Bi (Cy (Heap.lt_size e) I.ok.above))).trans e1⟩
 .by_cases hj:j=i
  .subst hj;rw[AIm hiσ] at e2;cases e2
  .rw[Dw (Ne.symm hj)] at e2;obtain⟨u',r',q⟩:=hl j y v' e1 e2 e3;refine⟨u',r',?_⟩;rcases q with⟨k,e⟩|⟨k,c,e,z⟩
   .refine .inl ⟨k,?_⟩;have:y≠x:=λe=>hj (RV hN e1 (e▸hi));simp[this,e]
   .exact .inr ⟨k,c,e,z.sameBut hs (cne y c e)⟩
 .obtain⟨w',z⟩:=I.cell y c e;exact⟨w',z.sameBut hs (cne y c e)⟩
 .obtain⟨e,n,ne,nf,d⟩:=I.pin p hp;exact⟨(hs.2 p.1 ne).trans e,n,ne,nf,d⟩
 .refine(I.hok b ob e).stay (λc w' hc q=>(hs.2 c ?_).trans q) (λ_ q=>q) λ_ _ q=>q;rintro rfl;have hfree:=I.free;rcases hc with rfl|hc
  .rw[hfree] at e;cases e
  .rw[hfree] at hc;cases hc
theorem AAT{B:Heap}{ea C:Addr}{a0:Value}(I1:AI X pins σ H1 s1)(U:Un (CD X.stack) [] H1 H' s1.heap h)(hok:CW X.prog X.w H' h)(fly:Heap.FlyingW B X.stack ea (.ref C) a0 h)(Cv:Jv B X.stack s1.heap H') :
  H' ea=none/\Un (CD X.stack) [] H1 (upd H' ea (.ext λh=>∃o,h.get? ea=some o/\o.cls=.ref C)) s1.heap h/\CW X.prog X.w (upd H' ea (.ext λh=>∃o,h.get? ea=some o/\o.cls=.ref C)) h:=by
 have f0:H' ea=none:=by
  cases z:H' ea with
  |none=>rfl
  |some u =>
   obtain⟨o,e⟩:=Cv.2 ea u z;have:=fly.2.1;rw[this] at e;cases e
 have fresh:s1.heap.get? ea=none:=by
  cases z:s1.heap.get? ea with
  |none=>rfl
  |some o =>
   by_cases hb:ea∈CD X.stack
   .obtain⟨_,o',ho',hd⟩:=I1.stack.mem hb;rw[z] at ho';cases ho';obtain⟨sl,e⟩:=U.slot ea o z (I1.stkFree ea hb) hb (by simp)
    obtain⟨oe,vs,e2,_,e3,_⟩:=fly.first
    rw[e] at e2;cases e2;exact absurd e3 (hd vs)
   .obtain⟨u,e⟩:=Cv.1 ea o z hb;have:=fly.2.1;rw[this] at e;cases e
 have ne:∀b o,s1.heap.get? b=some o->b≠ea:=λb o e z=>by subst z;rw[fresh] at e;cases e
 have neH:∀b u,H1 b=some u->b≠ea:=λb u e=>by
  obtain⟨o,q⟩:=Vo (I1.hok b u e);exact ne b o q
 refine⟨f0,⟨U.keep,U.slot,λb o q n hx=>?_,U.there,λb xs q=>?_,λb o u q=>?_,λb ps q=>?_⟩,λa o e=>?_⟩
 .rw[BM (ne b o q)];exact U.free b o q n hx
 .rw[BM (neH b _ q)];exact U.tups b xs q
 .rw[BM (neH b _ q)];exact U.frzs b o u q
 .rw[BM (neH b _ q)];exact U.tbls b ps q
 .by_cases z:a=ea
  .subst z;rw[CI] at e;cases e;obtain⟨o,e1,e2⟩:=fly.there;exact⟨⟨o,e1,e2⟩,⟨o,e1⟩,λh1 h2 z2_ k=>(by obtain⟨o,q,c⟩:=z2_;exact⟨o,k o q,c⟩)⟩
  .rw[BM z] at e;exact(hok a o e).stay (λ_ _ _ q=>q) (λb q=>by rw[BM (DJ q f0)];exact q) λb xs q=>by rw[BM (DJ q f0)];exact q
end
theorem Gf.unset{K:AM}{H:Hp}{O:List Addr}{σ:L2.St}{ρ:Fm}(h:Gf K H O σ ρ)(i:Nat):Gf K H O (σ.set i none) (ρ.set i none):=by
 refine⟨by simp[h.len],λj e q=>?_⟩
 by_cases z:j=i
 .subst z
  have hj:j<ρ.length:=by have:=(BQ.mp q).1;simpa using this
  rw[AIm hj] at q;cases q
 .rw[Dw (Ne.symm z)] at q;obtain⟨v',a,b⟩:=h.at' j e q;exact⟨v',by rw[Dw (Ne.symm z)];exact a,b⟩
def XA(i:Nat)(o:Fi):Option Fi:=match o with
 |.next ρ L=>some (.next (ρ.set i none) L)
 |.ret d L=>some (.ret d L)
 |_=>none
def My(G:GL)(GX:HN)(a:AF)(subs:Str->Bool)(i:Nat)(fh:SF):SF:=λρ L=>(a ρ L).bind λy=>match G y.1 y.2 with
 |some r=>some (.next ρ r.2)
 |none=>(GX y.1 y.2).bind λz=>if subs z.1=true then (fh (ρ.set i (some (.ref z.2.length))) (z.2++[.exn z.1])).bind (XA i) else none
section
variable {X:Cx}{k i:Nat}{x c0 n:Str}{C0:Addr}{G:GL}{GX:HN}{a:AF}{subs:Str->Bool}{fh:SF}{p pos pe pc ph pt:Pos}{e:Expr}{es:List Expr}{b0:Stmt}{body:List Stmt}
theorem ABM(F:JJ X.prog X.w X.K X.mg X.base k x G GX)(hr:Bq k X.A)(ha:Ed X.nox (e::es) a)(hC:Cg X.K c0 C0)(hsub:∀c,subs c=true->JD X.K c C0)(hN:X.N.Nodup)
  (hs:∀ev,FM (Xh X ev).nox (b0::body) fh) (hstk:X.stack=X.env::X.outer) (hfr:X.env.frame=some X.env.locals)
  (hi:X.N[i]?=some n:=by rfl) (hx:X.env.scope.names.lookup n=some .local:=by rfl)
  (hg:Gl X x:=by rfl) (hgc:Gl X c0:=by rfl) (hdb:(x == ("__debug__":Str))=false:=by decide) (hdc:(c0 == ("__debug__":Str))=false:=by decide)
  (he:Dx e=true:=by rfl) (hpl:es.all Dx=true:=by rfl) (hsw:swapsWith (.Call (.Name x p) (e::es) [] pos) none pe.line X.env=pure false:=by rfl) :
  Du X (.Try [.Expr (.Call (.Name x p) (e::es) [] pos) pe] [.ExceptHandler (some (.Name c0 pc)) (some n) (b0::body) ph] [] [] pt) (My G GX a subs i fh):=by
 intro pins s σ H D I h;obtain⟨O,ρ,L,out,r,e0,k0⟩:=h;unfold My at e0;obtain⟨y,e1,e0⟩:=GI.mp e0;obtain⟨fa,fd,ps,Fk,hm,hk,bi⟩:=F.ex;refine wpAny_Try_except (wpAny_execs_cons (wpAny_Expr_any ?_ I.quiet hsw));refine AKF (Hd I hg hm ?_ hdb)
 refine AJh (h₀:=X.base) I.ok.mod.kin hk (EM (ha pos pins s σ H (λvs H1=>∃O1,Ah H O H1 O1/\Am X.K H1 O1 y.2/\AV X.K H1 O1 vs y.1) (I.wish _) ⟨O,ρ,L,y.1,y.2,r,e1,λvs H1 O1 st rs is=>⟨O1,st,rs,is⟩⟩)
  (λus s1 q=>?_) λ_ _ z=>False.elim z) (Gq he) (Hv hpl)
 obtain⟨vs,H1,I1w,rv,O1,st1,rs1,is1⟩:=q;have I1:AI X pins σ H1 s1:=I1w.unwish;refine⟨I1.kIn,?_⟩;have hl:∀{Q E},JP X.K G GX vs H1 Q E->(us++[]).length=ps.length:=λh=>by rw[HS,<-rv.length];exact Fk.len _ _ _ _ h
 cases eG:G y.1 y.2 with
 |some z =>
  rw[eG] at e0;cases e0;have hsp:JP X.K G GX vs H1 (λv H'=>∃O',Ah H1 O1 H' O'/\Am X.K H' O' z.2) (λ_ _ _=>False):=.inl ⟨O1,y.2,y.1,z.1,z.2,rs1,is1,eG,λv H' O' st rs is=>⟨O',st,rs⟩⟩;refine wpAny_call (codeAny_mono (Fk.run X.A X.stack s1 H1 ⟨us,[]⟩ us vs _ _ hr I1.env0 (by have:=bi s1 us I1.kIn (hl hsp);rwa [HS] at this) rv hsp) λrr s' hq=>?_)
  cases rr with
  |error ev=>obtain⟨ea,cv,a0,H',B,_,_,_,_,_,_,_,z⟩:=hq;exact z.elim
  |ok fl =>
   cases fl with
   |ret u =>
    obtain⟨v,H',I',_,O',st,rs⟩:=I1.after hq;exact AKD (AKD ⟨σ,H',I',k0 σ H' O' (st1.trans st) ⟨rs,r.f.mono (st1.trans st)⟩⟩)
   |next=>exact False.elim hq
   |brk=>exact False.elim hq
   |cont=>exact False.elim hq
 |none =>
  rw[eG] at e0;obtain⟨z,eX,e0⟩:=GI.mp e0
  have hz:subs z.1=true:=by
   by_cases hz:subs z.1=true
   .exact hz
   .rw[if_neg hz] at e0;cases e0
  rw[if_pos hz] at e0;obtain⟨o1,e2,e3⟩:=GI.mp e0;obtain⟨C,zC,hmro⟩:=(hsub _ hz).ex;have hsp:JP X.K G GX vs H1 (λ_ _=>False) (λcv _ H'=>cv=.ref C/\∃O',Ah H1 O1 H' O'/\Am X.K H' O' z.2):=.inr ⟨O1,y.2,y.1,z.1,z.2,C,rs1,is1,eX,zC.ns,λH' O' st rs=>⟨rfl,O',st,rs⟩⟩;refine wpAny_call (codeAny_mono (Fk.run X.A X.stack s1 H1 ⟨us,[]⟩ us vs _ _ hr I1.env0 (by have:=bi s1 us I1.kIn (hl hsp);rwa [HS] at this) rv hsp) λrr s' hq=>?_)
  cases rr with
  |ok fl =>
   cases fl with
   |ret u=>obtain⟨v,H',_,_,z⟩:=I1.after hq;exact z.elim
   |next=>exact False.elim hq
   |brk=>exact False.elim hq
   |cont=>exact False.elim hq
  |error ev =>
   obtain⟨ea,cv,a0,H',B,rfl,ho,hg',U,hok,fly,Cv,rfl,O',st2,rs2⟩:=hq;have fly0:Heap.FlyingW B (X.env::X.outer) ea (.ref C) a0 s'.heap:=by rw[<-hstk];exact fly
   refine wpAny_looks_onW (by rw[I1.ok.frames,hstk]) hfr fly0 λh1 held up1=>?_;refine wpAny_landsW held λh2 fly2 up2=>?_;have un2:=KC I1 U hok fly.1 Cv fly2.1 (up1.trans up2);have II:AI X pins σ H' {s' with heap:=h2}:=I1.call' ho un2.1 un2.2 hg' (λb z=>absurd z (by simp));have hm0:X.mg c0=some (.ref C0):=EC II.mod.kin II.mod.glob hC.ns;refine wpAny_handleBy_cons (codeAny_handlers_test ?_) (by intro q;cases q);refine Hd (Nk II (.ref ea)) hgc hm0 ?_ hdc;obtain⟨ob,hob,hcls⟩:=fly2.there;obtain⟨bm,N,nm,qn,bs,hd,sn,sub,ab,col,dd,k1,k2,k3,k4,k5,mN,hobj,_⟩:=Ix II.kIn zC;refine Xb (Ix II.kIn hC) hob hcls hobj (Vw II.kIn hmro hobj) ?_;show codeAny _ _ _ _ _;refine codeAny_handlers_suite_as (lands_againW fly2 λh3 fly3 up3=>?_);have un3:=KC I1 U hok fly.1 Cv fly3.1 ((up1.trans up2).trans up3);obtain⟨f0,un4,hok4⟩:=AAT I1 un3.1 un3.2 (by rw[hstk];exact fly3) Cv;have III:AI X pins σ _ {s' with heap:=h3}:=I1.call' ho un4 hok4 hg' (λb z=>absurd z (by simp));have rs3:=rs2.new (o:=.exn z.1) f0 ⟨C,zC.ns,CI⟩;have st3:Ah H' O' (upd H' ea (.ext λh=>∃o,h.get? ea=some o/\o.cls=.ref C)) (O'++[ea]):=⟨.new f0,BB _ _⟩;have st4:=(st1.trans st2).trans st3;have is3:Is X.K (upd H' ea (.ext λh=>∃o,h.get? ea=some o/\o.cls=.ref C)) (O'++[ea]) (.ref ea) (.ref z.2.length):=.ref (by rw[<-rs2.len];simp);refine ND (v:=.ref ea) III hN hi (.inl hx) rfl (λs4 I4=>?_) (.inr hx);refine EM (hs (.ref ea) pins s4 _ _ {nx:=λσ' H'=>D.nx (σ'.set i none) H',rt:=D.rt} ((Nk I4 _).wish _) ⟨O'++[ea],_,_,o1,⟨rs3,(r.f.mono st4).set is3 i⟩,e2,?_⟩) (λf s5 q=>?_) λ_ _ z=>False.elim z
   .cases o1 with
    |next ρ' L' =>
     cases e3;exact λσ' H2 O2 st rr=>k0 _ H2 O2 (st4.trans st) ⟨rr.s,rr.f.unset i⟩
    |ret d L' =>
     cases e3;exact λv H2 O2 st rr is=>k0 v H2 O2 (st4.trans st) rr is
    |brk ρ' L'=>cases e3
    |cont ρ' L'=>cases e3
   .have q2:=Ur III.ok q.unwish
    cases f with
    |next =>
     obtain⟨σ',H2,I5,q3⟩:=q2;exact Wz I5 hN hi hx λs6 I6=>⟨_,H2,I6,q3⟩
    |ret u =>
     obtain⟨v,σ',H2,I5,rr,q3⟩:=q2;exact Wz I5 hN hi hx λs6 I6=>⟨v,_,H2,I6,rr,q3⟩
    |brk=>obtain⟨σ',H2,I5,q3⟩:=q2;exact False.elim q3
    |cont=>obtain⟨σ',H2,I5,q3⟩:=q2;exact False.elim q3
end
section
variable {X:Cx}{c:Str}{C:Addr}{pos:Pos}
theorem ACs(hm:EK X.K c C)(hg:Gl X c:=by rfl)(hdb:(c == ("__debug__":Str))=false:=by decide):PE X (.Name c pos) (tC (.ref C)) :=
 λpins s σ H Q I h=>Hd I hg (EC I.mod.kin I.mod.glob hm) ⟨.ref C,H,I,rfl,h⟩ hdb
def NB(vs:List V):TA:=λ_ H Q=>Q vs H
theorem ADB:PA X [] (NB []):=NU
theorem NV{ts:List Expr}{vs:List V}(hr:PA X ts (NB vs))(hm:EK X.K c C)(hg:Gl X c:=by rfl)(hdb:(c == ("__debug__":Str))=false:=by decide):PA X (.Name c pos::ts) (NB (.ref C::vs)) :=
 KR (ACs hm hg hdb) hr
end
def AFW(K:AM):List V->Hp->VK->Prop:=λvs H Q=>∃(ea C:Addr) (c:Str) (v:V) (b:Bool),vs=[.ref ea,v]/\H ea=some (.ext λh=>∃o,h.get? ea=some o/\o.cls=.ref C)/\Cg K c C/\GA K C /\
 ((∃n,v=.ty n/\AIz K (.ref C) (.type n)=some b)\/∃(tp:Addr) (Cs:List Addr),v=.ref tp/\H tp=some (.tup (Cs.map .ref))/\AJP K (.ref C) (Cs.map Value.ref)=some b)/\Q (.bl b) H
theorem UB:∀{Cs:List Addr} {us:List Value},Ae (Cs.map .ref) us->us=Cs.map Value.ref
 |[],_,r=>by cases r;rfl
 |a::l,us,r=>by
  cases r with
  |cons r1 r2 =>
   have e:_=Value.ref a:=r1;rw[e,UB r2];rfl
theorem Xv{X:Cx}:Cu X (.builtin "isinstance") (AFW X.K):=by
 intro pins s σ H xs us Q I r h;obtain⟨ea,C,c,v,b,rfl,hH,z,ec,hv,q⟩:=h;obtain⟨px,_,_⟩:=I.hok ea _ hH
 cases r with
 |cons r1 r2 =>
  cases r2 with
  |cons r2 r3 =>
   cases r3;have e1:_=Value.ref ea:=r1;subst e1;rcases hv with⟨n,rfl,hk⟩|⟨tp,Cs,rfl,hT,hk⟩
   .have e2:_=Value.type n:=r2;subst e2;exact GD (WY z ec) I.kIn px hk (by intro q;cases q) λtk=>⟨.bl b,H,I.tok tk,rfl,q⟩
   .have e2:_=Value.ref tp:=r2;subst e2;obtain⟨_,its,rv,o,ho,hc,nn,hd⟩:=I.hok tp _ hT;have ei:=UB rv;subst ei;obtain⟨oc,od,oo,os⟩:=o;dsimp only at hc hd;subst hc hd;exact PySem.W.kia_tup (WY z ec) I.kIn px ho hk (by intro q;cases q) λtk=>⟨.bl b,H,I.tok tk,rfl,q⟩
def Ja(i:Nat)(f:Str->Option Bool):EF:=λρ L=>match ρ[i]? with
 |some (some (.ref k))=>(match L[k]? with|some (.exn c)=>(f c).bind λb=>some (.bl b,L)|_=>none)
 |_=>none
theorem Wh{i:Nat}{f:Str->Option Bool}{ρ:Fm}{L L':AD}{d:D}(e:Ja i f ρ L=some (d,L')):∃k c b,ρ[i]?=some (some (.ref k))/\L[k]?=some (.exn c)/\f c=some b/\d=.bl b/\L'=L:=by
 unfold Ja at e;split at e
 .rename_i k hk;split at e
  .rename_i c hc;obtain⟨b,e1,e2⟩:=GI.mp e;cases e2;exact⟨k,c,b,hk,hc,e1,rfl,rfl⟩
  .cases e
 .cases e
theorem AGJ:bootBuiltins "ValueError"=some (.type "ValueError"):=by decide +kernel
section
variable {X:Cx}{i:Nat}{n:Str}{f:Str->Option Bool}{p p1 p2 pos:Pos}{ts:List Expr}{Cs:List Addr}
theorem AFf{cx:Nat}(hp:PA X ts (NB (Cs.map V.ref)))(hlen:Cs.length<=sizeLine)(hf:∀c b,f c=some b->∃C,Cg X.K c C/\GA X.K C/\AJP X.K (.ref C) (Cs.map Value.ref)=some b)(hm:X.mg "isinstance"=none)
  (hN:X.N[i]?=some n:=by rfl) (hv:JC X.env.scope n:=by first|exact Or.inl rfl|exact Or.inr (Or.inl rfl)) (hd:(n == ("__debug__":Str))=false:=by decide) (hcd:(n == ("__classdict__":Str))=false:=by decide) (hg:Gl X "isinstance":=by rfl) :
  AZ X (.Call (.Name "isinstance" p) [.Name n p1,.Tuple ts cx p2] [] pos) (Ja i f) :=
 PE.weaken (RP Xv hg hm HE (KR (RO hN hv hd hcd) (KR (Vb hp) NU))) λσ H Q z3_=>by
  obtain⟨O,ρ,L,d,L',r,e,k⟩:=z3_;obtain⟨k0,c,b,e1,e2,e3,rfl,rfl⟩:=Wh e;obtain⟨v,e4,e5⟩:=r.f.at' i _ e1
  cases e5 with
  |ref e6 =>
   rename_i a;obtain⟨C',hC',hH⟩:=r.s.ob k0 a _ e6 e2;obtain⟨C,z,ec,hk⟩:=hf c b e3
   have hCC:C'=C:=by have:=z.ns;unfold EK at hC';rw[hC'] at this;cases this;rfl
   subst hCC;refine⟨.ref a,e4,?_⟩;refine⟨by simpa using hlen,λq hq=>?_⟩;exact⟨a,C',c,.ref q,b,rfl,by rw[BM (DJ hH hq)];exact hH,z,ec,.inr ⟨q,Cs,rfl,CI,hk⟩,k _ _ O ⟨.new hq,As _⟩ (r.s.ext λb u e=>by rw[BM (DJ e hq)];exact e) (.bl b)⟩
theorem AFe(hf:∀c b,f c=some b->∃C,Cg X.K c C/\GA X.K C/\AIz X.K (.ref C) (.type "ValueError")=some b)(hm:X.mg "isinstance"=none)(hmV:X.mg "ValueError"=none)
  (hN:X.N[i]?=some n:=by rfl) (hv:JC X.env.scope n:=by first|exact Or.inl rfl|exact Or.inr (Or.inl rfl)) (hd:(n == ("__debug__":Str))=false:=by decide) (hcd:(n == ("__classdict__":Str))=false:=by decide) (hg:Gl X "isinstance":=by rfl) (hgV:Gl X "ValueError":=by rfl) :
  AZ X (.Call (.Name "isinstance" p) [.Name n p1,.Name "ValueError" p2] [] pos) (Ja i f) :=
 PE.weaken (RP Xv hg hm HE (KR (RO hN hv hd hcd) (KR (show PE X (.Name "ValueError" p2) (tC (.ty "ValueError")) from λpins s σ H Q I h=>Hy I hgV hmV AGJ ⟨.ty "ValueError",H,I,rfl,h⟩ (by decide) (by decide)) NU))) λσ H Q z3_=>by
  obtain⟨O,ρ,L,d,L',r,e,k⟩:=z3_;obtain⟨k0,c,b,e1,e2,e3,rfl,rfl⟩:=Wh e;obtain⟨v,e4,e5⟩:=r.f.at' i _ e1
  cases e5 with
  |ref e6 =>
   rename_i a;obtain⟨C',hC',hH⟩:=r.s.ob k0 a _ e6 e2;obtain⟨C,z,ec,hk⟩:=hf c b e3
   have hCC:C'=C:=by have:=z.ns;unfold EK at hC';rw[hC'] at this;cases this;rfl
   subst hCC;exact⟨.ref a,e4,a,C',c,.ty "ValueError",b,rfl,hH,z,ec,.inl ⟨"ValueError",rfl,hk⟩,k _ _ O (.refl _ _) r.s (.bl b)⟩
end
def only(c0:Str):Str->Bool:=λc=>c == c0
def JR(c0:Str)(b:Bool):Str->Option Bool:=λc=>if (c == c0)=true then some b else none
theorem Uc{K:AM}{c0:Str}{C0:Addr}(h:JD K c0 C0):∀c,only c0 c=true->JD K c C0:=λc e=>by
 unfold only at e;rw[eq_of_beq e];exact h
theorem AEk{K:AM}{c0:Str}{C:Addr}{vs:List Value}{b:Bool}(z:Cg K c0 C)(ec:GA K C)(k:AJP K (.ref C) vs=some b) :
  ∀c b',JR c0 b c=some b'->∃C,Cg K c C/\GA K C/\AJP K (.ref C) vs=some b':=λc b' e=>by
 unfold JR at e;split at e
 .rename_i h;cases e;rw[eq_of_beq h];exact⟨C,z,ec,k⟩
 .cases e
theorem AEl{K:AM}{c0:Str}{C:Addr}{v:Value}{b:Bool}(z:Cg K c0 C)(ec:GA K C)(k:AIz K (.ref C) v=some b) :
  ∀c b',JR c0 b c=some b'->∃C,Cg K c C/\GA K C/\AIz K (.ref C) v=some b':=λc b' e=>by
 unfold JR at e;split at e
 .rename_i h;cases e;rw[eq_of_beq h];exact⟨C,z,ec,k⟩
 .cases e
open Sem (wp) in
def Ct{prog:Program}{w:World}{κ:Type}[DecidableEq κ](knd:HeapKind prog w κ)(h:Heap)(d:Addr)(xs:List (κ×Addr×Value))(ep:Nat):Prop :=
 ∃o es,h.get? d=some o/\o.ExactDict/\o.data=.dict es ep/\es.toList=xs.map (entryOfKey knd)/\(∀x∈xs,knd.is h x.1 x.2.1)/\(xs.map (·.1)).Nodup
def Fa{κ:Type}[DecidableEq κ](xs:List (κ×Addr×Value))(k:κ)(ep:Nat):Nat:=if (atKey xs k).isSome=true then ep else ep+1
section
variable {prog:Program}{w:World}{κ:Type}[DecidableEq κ]{knd:HeapKind prog w κ}{A:Around}{E:AKP}{s:Shared}{d a:Addr}{k:κ}{xs:List (κ×Addr×Value)}{ep:Nat}
theorem Ct.of{h:Heap}(x:Ct knd h d xs ep):h.DictOfH knd d xs:=let ⟨o,es,h1,h2,h3,r⟩:=x;⟨o,es,ep,h1,h2,h3,r⟩
theorem AGU(hn:atKey xs k=none):k∉xs.map (·.1):=λhm=>by
 obtain⟨x,hx,rfl⟩:=BV.mp hm;have h0:(xs.find? λy=>decide (y.1=x.1))=none:=by simpa[atKey] using hn
 simpa using AJo.mp h0 x hx
theorem Ct.grown{h:Heap}(x:Ct knd h d xs ep)(hn:atKey xs k=none)(hk:knd.is h k a)(v:Value) :
  Ct knd (h.update d (Obj.mapDictKeys (·.push ⟨knd.hash k,.ref a,v⟩))) d (xs++[(k,a,v)]) (ep+1)/\Heap.SameBut d h (h.update d (Obj.mapDictKeys (·.push ⟨knd.hash k,.ref a,v⟩))):=by
 have sb:Heap.SameBut d h (h.update d (Obj.mapDictKeys (·.push ⟨knd.hash k,.ref a,v⟩))):=.update ..;obtain⟨o,es,g,ex,dat,el,all,nd⟩:=x;have stay:∀y∈xs++[(k,a,v)],knd.is h y.1 y.2.1:=λy hy=>(DE.mp hy).elim (all y) λz=>by rw[AIf.mp z];exact hk
 refine⟨⟨_,_,Heap.get?_update_self _ g (Obj.isFreed_of_dict (Obj.data_mapDictKeys dat _)),ex.mapDictKeys _,Obj.data_mapDictKeys dat _,by simp[el,entryOfKey],λy hy=>knd.keeps (stay y hy) g dat sb,?_⟩,sb⟩;rw[Eo];exact AI2.mpr ⟨nd,by simp,λy hy z hz e=>AGU hn (by rw[show z=k by simpa using hz] at e;rwa [<-e])⟩
theorem Ct.turned{h:Heap}(x:Ct knd h d xs ep){j:Nat}{q:Addr×Value}(hj:xs[j]?=some (k,q))(v:Value) :
  Ct knd (h.update d (Obj.mapDict (·.modify j λe=>{e with val:=v}))) d (xs.map (putAt k v)) ep/\Heap.SameBut d h (h.update d (Obj.mapDict (·.modify j λe=>{e with val:=v}))):=by
 have sb:Heap.SameBut d h (h.update d (Obj.mapDict (·.modify j λe=>{e with val:=v}))):=.update ..;obtain⟨o,es,g,ex,dat,el,all,nd⟩:=x
 have rows:(es.modify j λe=>{e with val:=v}).toList=(xs.map (putAt k v)).map (entryOfKey knd):=by rw[<-modify_map_putAt (entryOfKey knd) (λe:DictEntry=>{e with val:=v}) k v (λ_ _=>rfl) nd hj,<-el];simp
 refine⟨⟨_,_,Heap.get?_update_self _ g (Obj.isFreed_of_dict (Obj.data_mapDict dat _)),ex.mapDict _,Obj.data_mapDict dat _,rows,λy hy=>?_,by rw[keys_map_putAt];exact nd⟩,sb⟩;rw[BV] at hy;obtain⟨z,hz,rfl⟩:=hy;have e1:(putAt k v z).1=z.1/\(putAt k v z).2.1=z.2.1:=by unfold putAt;split <;> exact⟨rfl,rfl⟩
 rw[e1.1,e1.2];exact knd.keeps (all z hz) g dat sb
theorem Ct.find{G:Option Nat->Shared->Prop}(hu:knd.room A)(hk:knd.is s.heap k a)(x:Ct knd s.heap d xs ep)(no:atKey xs k=none->G none s)(yes:∀j q,xs[j]?=some (k,q)->atKey xs k=some q->G (some j) s) :
  wpAny (model prog w) A (dictFind d (.ref a) (knd.hash k)) G E s:=by
 obtain⟨o,es,g,ex,dat,el,all,nd⟩:=x;exact wpAny_dictFind_heap hu hk g dat el all nd (λf=>no (atKey_none_of_get f)) λj q hj=>yes j q hj (atKey_of_get nd hj)
theorem Ct.room(x:Ct knd s.heap d xs ep):∃o es,s.heap.get? d=some o/\o.data=.dict es ep/\es.size=xs.length:=by obtain⟨o,es,g,ex,dat,el,_⟩:=x;exact⟨o,es,g,dat,size_of_entries el⟩
theorem AFl{v:Value}{Q:Unit->Shared->Prop}(hu:knd.room A)(hk:knd.is s.heap k a)(x:Ct knd s.heap d xs ep)(hz:xs.length<=sizeLine)
  (q:∀h',Ct knd h' d (storedH xs k a v) (Fa xs k ep)->Heap.SameBut d s.heap h'->Q () {s with heap:=h',toks:=s.toks+knd.draws k}):wpAny (model prog w) A (dictSet d (.ref a) v) Q E s:=by
 obtain⟨o,es,g,dat,sz⟩:=x.room;unfold dictSet dictSetHashed
 (try with_reducible refine Do ?_)
 refine AH (knd.pyHash hu hk ?_)
 (try with_reducible refine Do ?_)
 refine AH (Ct.find (s:={s with toks:=s.toks+knd.draws k}) hu hk x (λn=>?_) λj p hj e=>?_)
 .obtain⟨y,sb⟩:=x.grown n hk v;have e1:Fa xs k ep=ep+1:=by simp[Fa,n]
  rw[e1,storedH_new n] at q;exact AH (AKA (wpAny_updateDictKeys (s:={s with toks:=s.toks+knd.draws k}) (hz:=by omega) g dat (q _ y sb)))
 .obtain⟨y,sb⟩:=x.turned hj v;have e1:Fa xs k ep=ep:=by simp[Fa,e]
  rw[e1,storedH_old e] at q;exact AH (AKA (AH (wpAny_updateDict (s:={s with toks:=s.toks+knd.draws k}) g dat (wpAny_point (q _ y sb)))))
theorem ABT{v:Value}{Q:Unit->Shared->Prop}(hu:knd.room A.in1)(hk:knd.is s.heap k a)(x:Ct knd s.heap d xs ep)(hz:xs.length<=sizeLine)
  (q:∀h',Ct knd h' d (storedH xs k a v) (Fa xs k ep)->Heap.SameBut d s.heap h'->Q () {s with heap:=h',toks:=s.toks+knd.draws k}):wpAny (model prog w) A (setItem (.ref d) (.ref a) v) Q E s:=by
 have ty:=x.of.typeIs
 have inner:∀{R:AKP} {F:AKP},(∀h',Ct knd h' d (storedH xs k a v) (Fa xs k ep)->Heap.SameBut d s.heap h'->R .none {s with heap:=h',toks:=s.toks+knd.draws k}) ->
   wpAny (model prog w) A.in1 (Builtin.«dict.__setitem__» ⟨[.ref d,.ref a,v],[]⟩) (λfi s2=>∃v,fi=PySem.Fin.done (Flow.ret v)/\R v s2) F s:=λ{R F} r=>by
  show wpAny _ _ (Builtin.Dict.notOrdered "__setitem__" ⟨[.ref d,.ref a,v],[]⟩ >>= λ_=>dictSet d (.ref a) v >>= _) _ F s;exact AH (AKJ ty (AH (AFl hu hk x hz λh' y sb=>AR ⟨.none,rfl,r h' y sb⟩)))
 unfold setItem
 (try with_reducible refine Do ?_)
 exact AH (wpAny_sequenceKey ty (by decide) (AH (AKG (name:=Str.ofString "__setitem__") ty slot_dict_setitem (Gh slot_dict_setitem ty entry_dict_setitem (inner λh' y sb=>AR (q h' y sb)) (args_dict_setitem _ _ _)))))
end
section
variable {X:Cx}{pins:List (Addr×Obj)}{σ:L2.St}{H:Hp}{s:Shared}{O:List Addr}{L:AD}
theorem key_leaf{k:Key}{v:V}{u:Value}(i:Is X.K H O v (keyD k))(r:Ab v u):Ee k u:=by
 cases k with
 |inl n=>cases i;obtain⟨t,rfl⟩:=r;exact AEZ _ _
 |inr x=>cases i;obtain⟨t,rfl⟩:=r;exact AEY _ _
theorem keys_leaf:∀{ks:List Key} {vs:List V} {us:List Value},AV X.K H O vs (ks.map keyD)->Ae vs us->Paired Ee ks us
 |[],_,_,i,r=>by cases i;cases r;exact .nil
 |k::ks,_,_,i,r=>by
  cases i with|cons i1 i2=>cases r with|cons r1 r2=>exact .cons (key_leaf i1 r1) (keys_leaf i2 r2)
theorem Rm(I:AI X pins σ H s):∀{ks:NK} {vs:List V} {us:List Value},AV X.K H O vs (ks.map JZ)->Ae vs us->Paired (HM s.heap) ks us
 |[],_,_,i,r=>by cases i;cases r;exact .nil
 |.inl k::ks,_,_,i,r=>by
  cases i with|cons i1 i2=>cases r with|cons r1 r2=>exact .cons (key_leaf i1 r1) (Rm I i2 r2)
 |.inr k::ks,v::_,_,i,r=>by
  cases i with|cons i1 i2=>cases r with|cons r1 r2 =>
   have i1':Is X.K H O v (.tup (k.map keyD)):=i1
   cases i1' with|tup h il =>
    obtain⟨its,rv,t,_⟩:=I.tuple h;exact .cons ⟨_,its,r1,t,keys_leaf il rv⟩ (Rm I i2 r2)
theorem KY(I:AI X pins σ H s){k:NK}{b:Addr}(i:Is X.K H O (.ref b) (EV k)):(Hz X.prog X.w).is s.heap k b:=by
 have i':Is X.K H O (.ref b) (.tup (k.map JZ)):=i
 cases i' with|tup h il =>
  obtain⟨its,rv,t,_⟩:=I.tuple h;exact⟨its,t,Rm I il rv⟩
end
def Lv:D->Option Key
 |.int i=>some (.inl i)
 |.str x=>some (.inr x)
 |_=>none
def Jl:List D->Option (List Key)
 |[]=>some []
 |d::r=>(Lv d).bind λk=>(Jl r).map (k::·)
def Kl:D->Option (Key ⊕ List Key)
 |.int i=>some (.inl (.inl i))
 |.str x=>some (.inl (.inr x))
 |.tup ds=>(Jl ds).map .inr
 |_=>none
def Gc:List D->Option NK
 |[]=>some []
 |d::r=>(Kl d).bind λk=>(Gc r).map (k::·)
def dNK:D->Option NK
 |.tup ds=>Gc ds
 |_=>none
theorem AFo{d:D}{k:Key}(e:Lv d=some k):d=keyD k:=by unfold Lv at e;split at e <;> cases e <;> rfl
theorem Xr:∀{ds:List D} {ks:List Key},Jl ds=some ks->ds=ks.map keyD
 |[],ks,e=>by cases e;rfl
 |d::r,ks,e=>by
  unfold Jl at e;obtain⟨k,e1,e2⟩:=GI.mp e;obtain⟨l,e3,rfl⟩:=AI5.mp e2;rw[AFo e1,Xr e3];rfl
theorem AFp{d:D}{k:Key ⊕ List Key}(e:Kl d=some k):d=JZ k:=by
 unfold Kl at e;split at e
 .cases e;rfl
 .cases e;rfl
 .obtain⟨l,e3,rfl⟩:=AI5.mp e;rw[Xr e3];rfl
 .cases e
theorem Xs:∀{ds:List D} {ks:NK},Gc ds=some ks->ds=ks.map JZ
 |[],ks,e=>by cases e;rfl
 |d::r,ks,e=>by
  unfold Gc at e;obtain⟨k,e1,e2⟩:=GI.mp e;obtain⟨l,e3,rfl⟩:=AI5.mp e2;rw[AFp e1,Xs e3];rfl
theorem OH{d:D}{k:NK}(e:dNK d=some k):d=EV k:=by
 unfold dNK at e;split at e
 .rw[Xs e];rfl
 .cases e
theorem LZ{K:AM}{H:Hp}{O:List Addr}{v:V}{d:D}{k:NK}(i:Is K H O v d)(e:dNK d=some k):∃b,v=.ref b/\Is K H O (.ref b) (EV k):=by rw[OH e] at i;have i':Is K H O v (.tup (k.map JZ)):=i;cases i' with|tup h il=>exact⟨_,rfl,.tup h il⟩
def CK(kvs:List (NK×D))(k:NK):Option D:=(kvs.find? λkv=>decide (kv.1=k)).map (·.2)
def Dq(kvs:List (NK×D))(k:NK)(d:D):List (NK×D) :=
 if (kvs.any λkv=>decide (kv.1=k))=true then kvs.map (λkv=>if kv.1=k then (kv.1,d) else kv) else kvs++[(k,d)]
section
variable {X:Cx}{pins:List (Addr×Obj)}{σ:L2.St}{H:Hp}{s:Shared}{O:List Addr}{L:AD}{a:Addr}
inductive DM (K:AM) (H:Hp) (O:List Addr):List (NK×D)->List (NK×Addr×V)->List (NK×Addr×Value)->Prop
 |nil:DM K H O [] [] []
 |cons {k:NK} {d:D} {b:Addr} {v:V} {u:Value} {kvs us xs}:Is K H O v d->Ab v u->DM K H O kvs us xs->DM K H O ((k,d)::kvs) ((k,b,v)::us) ((k,b,u)::xs)
theorem row3_of{K:AM}:∀{kvs:List (NK×D)} {us:List (NK×Addr×V)} {xs:List (NK×Addr×Value)},us.map (·.1)=kvs.map (·.1)->AV K H O (us.map (·.2.2)) (kvs.map (·.2)) ->
  Paired (λ(p:NK×Addr×V) (q:NK×Addr×Value)=>p.1=q.1/\p.2.1=q.2.1/\Ab p.2.2 q.2.2) us xs->DM K H O kvs us xs
 |[],[],_,_,_,r=>by cases r;exact .nil
 |(k,d)::kvs,(k',b,v)::us,_,e,i,r=>by
  simp only[Ap,List.cons.injEq] at e;obtain⟨e1,e2⟩:=e
  cases r with
  |@cons _ q _ qs r1 r2 =>
   obtain⟨q1,q2,q3⟩:=q;obtain⟨h1,h2,h3⟩:=r1;simp only at e1 h1 h2 h3;subst e1 h1 h2
   cases i with
   |cons i1 i2=>exact .cons i1 h3 (row3_of e2 i2 r2)
 |[],_::_,_,e,_,_=>by simp at e
 |_::_,[],_,e,_,_=>by simp at e
theorem DM.look{K:AM}{kvs:List (NK×D)}{us:List (NK×Addr×V)}{xs:List (NK×Addr×Value)}(r:DM K H O kvs us xs)(k:NK) :
  (CK kvs k=none/\atKey xs k=none)\/∃d b v u,CK kvs k=some d/\atKey xs k=some (b,u)/\Is K H O v d/\Ab v u/\(k,b,v)∈us:=by
 induction r with
 |nil=>exact .inl ⟨rfl,rfl⟩
 |@cons k' d b v u kvs us xs i rv t ih =>
  by_cases e:k'=k
  .subst e;exact .inr ⟨d,b,v,u,by simp[CK],by simp[atKey],i,rv,BN⟩
  .have e1:CK ((k',d)::kvs) k=CK kvs k:=by simp[CK,Fq,e]
   have e2:atKey ((k',b,u)::xs) k=atKey xs k:=by simp[atKey,Fq,e]
   rw[e1,e2];rcases ih with h|⟨d,b,v,u,h1,h2,h3,h4,h5⟩
   .exact .inl h
   .exact .inr ⟨d,b,v,u,h1,h2,h3,h4,BK _ h5⟩
theorem Ls(I:AI X pins σ H s){kvs:List (NK×D)}{ep:Nat}(h:HL X.K H O a (.dt kvs ep)):∃us xs,H a=some (.dN us ep)/\(a == sysModules)=false/\us.length<=sizeLine/\DM X.K H O kvs us xs/\(∀u∈us,Is X.K H O (.ref u.2.1) (EV u.1))/\Ct (Hz X.prog X.w) s.heap a xs ep:=by
 obtain⟨us,e,e1,il,ik⟩:=h;obtain⟨z,y,xs,r,o,es,h1,h2,h3,h4,h5⟩:=(show CP X.prog X.w H s.heap a (.dN us ep) from I.hok a _ e);refine⟨us,xs,e,y,z,row3_of e1 il r,ik,o,es,h1,h2,h3,h4,λx hx=>?_,h5⟩
 have all:∀{l:List (NK×Addr×V)} {m:List (NK×Addr×Value)},Paired (λ(p:NK×Addr×V) (q:NK×Addr×Value)=>p.1=q.1/\p.2.1=q.2.1/\Ab p.2.2 q.2.2) l m->(∀u∈l,Is X.K H O (.ref u.2.1) (EV u.1))->∀x∈m,(Hz X.prog X.w).is s.heap x.1 x.2.1:=by
  intro l m q
  induction q with
  |nil=>intro _ x hx;exact nomatch hx
  |@cons p q ps qs hq t ih =>
   intro hl x hx;rcases Ac.mp hx with e|hx
   .subst e;rw[<-hq.1,<-hq.2.1];exact KY I (hl p BN)
   .exact ih (λu hu=>hl u (BK _ hu)) x hx
 exact all r ik x hx
end
section
variable {X:Cx}
theorem AAW{prog:Program}{w:World}{A:Around}{E:AKP}{s:Shared}{value slice:Expr}{T id:String}{o i:Value}{Q:AKP}
  (hl:typeLookup (.type T) "__getitem__"=pure (some (.builtin id))) (hs:subscripted slice false o i=operate [o,i] (getItem o i)) (ty:s.TypeIs o T) (got:wpAny (model prog w) A (getItem o i) Q E s) :
  wpAny (model prog w) A (subscriptTail value slice o i) Q E s:=by
 have all:∀{k:Sem Value},k=(subscripted slice false o i >>= λr=>letTemporaryGo value o r >>= λ_=>pure r)->wpAny (model prog w) A k Q E s:=λ{k} ek=>by
  rw[ek,hs];exact AH (wpAny_operating (EM got (λr _ z=>AH (wpAny_letTemporaryGo (AR z))) λ_ _ z=>z))
 unfold subscriptTail;rw[getitemInPython_of_ne ty.not_modules];refine AH (AH (wpAny_specialOf ty hl ?_))
 first|exact AR (all rfl)|exact AH (AR (all rfl))|exact all rfl
def Gz:G2:=λx y L=>match x with
 |.ref i=>(match L[i]? with|some (.dt kvs _)=>(dNK y).bind λk=>(CK kvs k).map λd=>(d,L)|_=>none)
 |_=>none
theorem AFE{x y d:D}{L L':AD}(e:Gz x y L=some (d,L')):∃i kvs ep k,x=.ref i/\L[i]?=some (.dt kvs ep)/\dNK y=some k/\CK kvs k=some d/\L'=L:=by
 unfold Gz at e;split at e
 .rename_i i;split at e
  .rename_i kvs ep e1;obtain⟨k,e2,e3⟩:=GI.mp e;obtain⟨d',e4,e5⟩:=AI5.mp e3;cases e5;exact⟨i,kvs,ep,k,rfl,e1,e2,e4,rfl⟩
  .cases e
 .cases e
theorem KB(hu:X.A.units+64<cLine):OY X Gz:=by
 rintro value slice pins s σ H x y v u Q I rx ry ⟨O,L,dx,dy,d,L',rs,ix,iy,e,k⟩ hs;obtain⟨i,kvs,ep,k0,rfl,e1,e2,e3,rfl⟩:=AFE e
 cases ix with|ref hi =>
  obtain⟨us,xs,ha,hsm,hz,r3,hk,dd⟩:=Ls I (rs.ob i _ _ hi e1);obtain⟨b,rfl,ik⟩:=LZ iy e2;cases rx;cases ry;rcases r3.look k0 with⟨n,_⟩|⟨d',b',v',u',l,at_,iv,rv,_⟩
  .rw[e3] at n;cases n
  .rw[e3] at l;cases l;refine AAW PySem.F.slot_dict_getitem.lookup hs dd.of.typeIs (wpAny_getItem_heap (show X.A.in1.units+1<cLine from by show X.A.units+1+1<cLine;omega) (KY I ik) dd.of at_ ?_);exact⟨v',H,I.tok _,rv,k _ _ _ (.refl _ _) rs iv⟩
def Iu(neg:Bool):G2:=λx y L=>match y with
 |.ref i=>(match L[i]? with|some (.dt kvs _)=>(dNK x).map λk=>(.bl (neg != (CK kvs k).isSome),L)|_=>none)
 |_=>none
theorem XT{neg:Bool}{x y d:D}{L L':AD}(e:Iu neg x y L=some (d,L')):∃i kvs ep k,y=.ref i/\L[i]?=some (.dt kvs ep)/\dNK x=some k/\d=.bl (neg != (CK kvs k).isSome)/\L'=L:=by
 unfold Iu at e;split at e
 .rename_i i;split at e
  .rename_i kvs ep e1;obtain⟨k,e2,e3⟩:=AI5.mp e;cases e3;exact⟨i,kvs,ep,k,rfl,e1,e2,rfl,rfl⟩
  .cases e
 .cases e
theorem DM.some_eq{K:AM}{H:Hp}{O:List Addr}{kvs:List (NK×D)}{us:List (NK×Addr×V)}{xs:List (NK×Addr×Value)}(r:DM K H O kvs us xs)(k:NK):(atKey xs k).isSome=(CK kvs k).isSome:=by
 rcases r.look k with⟨a,b⟩|⟨d,b,v,u,h1,h2,_⟩
 .rw[a,b];rfl
 .rw[h1,h2];rfl
theorem ADa(hu:X.A.units+64<cLine):Cq X (compareOp .In) (Iu false):=by
 rintro pins s σ H x y v u Q I rx ry ⟨O,L,dx,dy,d,L',rs,ix,iy,e,k⟩;obtain⟨i,kvs,ep,k0,rfl,e1,e2,rfl,rfl⟩:=XT e
 cases iy with|ref hi =>
  obtain⟨us,xs,ha,hsm,hz,r3,hk,dd⟩:=Ls I (rs.ob i _ _ hi e1);obtain⟨b,rfl,ik⟩:=LZ ix e2;cases rx;cases ry;refine wpAny_in_heap (show X.A.in1.units+1<cLine from by show X.A.units+1+1<cLine;omega) (KY I ik) hsm dd.of ?_;rw[r3.some_eq];exact⟨.bl (CK kvs k0).isSome,H,I.tok _,rfl,k _ _ _ (.refl _ _) rs (by rw[Bool.false_bne];exact .bl _)⟩
theorem ADY(hu:X.A.units+64<cLine):Cq X (compareOp .NotIn) (Iu true):=by
 rintro pins s σ H x y v u Q I rx ry ⟨O,L,dx,dy,d,L',rs,ix,iy,e,k⟩;obtain⟨i,kvs,ep,k0,rfl,e1,e2,rfl,rfl⟩:=XT e
 cases iy with|ref hi =>
  obtain⟨us,xs,ha,hsm,hz,r3,hk,dd⟩:=Ls I (rs.ob i _ _ hi e1);obtain⟨b,rfl,ik⟩:=LZ ix e2;cases rx;cases ry;refine wpAny_notIn_heap (show X.A.in1.units+1<cLine from by show X.A.units+1+1<cLine;omega) (KY I ik) hsm dd.of ?_;rw[r3.some_eq];exact⟨.bl (!(CK kvs k0).isSome),H,I.tok _,rfl,k _ _ _ (.refl _ _) rs (by rw[Bool.true_bne];exact .bl _)⟩
end
def Jk:EF:=λ_ L=>some (.ref L.length,L++[.dt [] 0])
section
variable {X:Cx}{pos:Pos}
theorem AFk{P:Program}{w:World}{H:Hp}(h:Heap)(hb:sysModules<h.objs.size):CP P w H (h.push {cls:=.type "dict",data:=.dict #[]}) h.objs.size (.dN [] 0) :=
 ⟨FS _,beq_eq_false_iff_ne.mpr (Ne.symm (Bi hb)),[],.nil,_,#[],Heap.get?_push_size _ rfl,⟨rfl,rfl,rfl⟩,rfl,rfl,AIr⟩
theorem Lr:AZ X (.Dict [] [] pos) Jk:=λpins s σ H Q I z6_=>by
 obtain⟨O,ρ,L,d,L',r,e,k⟩:=z6_;cases e;have hp:=I.hok.fresh (Ai s.heap.objs.size);have st:Ah H O (upd H s.heap.objs.size (.dN [] 0)) (O++[s.heap.objs.size]):=⟨.new hp,BB _ _⟩
 exact wpAny_Dict_empty ⟨.ref s.heap.objs.size,_,I.laid (a:=s.heap.objs.size) (o:=.dN [] 0) (t':=s.toks) (λ_ _ q=>Heap.get?_push_of_some _ q) (Ai _) (AFk s.heap I.big),rfl,
  k _ _ _ st (r.s.new hp ⟨[],CI,rfl,.nil,λu hu=>(nomatch hu)⟩) (.ref (by rw[<-r.s.len];simp))⟩
end
def putU(us:List (NK×Addr×V))(k:NK)(b:Addr)(v:V):List (NK×Addr×V) :=
 if (us.any λu=>decide (u.1=k))=true then us.map (λu=>if u.1=k then (u.1,u.2.1,v) else u) else us++[(k,b,v)]
section
variable {K:AM}{H:Hp}{O:List Addr}
theorem DM.anyU{kvs:List (NK×D)}{us:List (NK×Addr×V)}{xs:List (NK×Addr×Value)}(r:DM K H O kvs us xs)(k:NK) :
  (us.any λu=>decide (u.1=k))=(atKey xs k).isSome/\(kvs.any λu=>decide (u.1=k))=(atKey xs k).isSome:=by
 induction r with
 |nil=>exact⟨rfl,rfl⟩
 |@cons k' d b v u kvs us xs i rv t ih =>
  by_cases e:k'=k
  .subst e;simp[atKey]
  .have e2:atKey ((k',b,u)::xs) k=atKey xs k:=by simp[atKey,Fq,e]
   rw[e2,AIq,AIq,ih.1,ih.2];simp[e]
theorem DM.repl{kvs:List (NK×D)}{us:List (NK×Addr×V)}{xs:List (NK×Addr×Value)}(r:DM K H O kvs us xs)(k:NK){d:D}{v:V}{u:Value}(i:Is K H O v d)(rv:Ab v u) :
  DM K H O (kvs.map λkv=>if kv.1=k then (kv.1,d) else kv) (us.map λq=>if q.1=k then (q.1,q.2.1,v) else q) (xs.map (putAt k u)):=by
 induction r with
 |nil=>exact .nil
 |@cons k' d' b v' u' kvs us xs i' rv' t ih =>
  rw[Ap,Ap,Ap];unfold putAt
  by_cases e:k'=k
  .rw[if_pos e,if_pos e,if_pos e];exact .cons i rv ih
  .rw[if_neg e,if_neg e,if_neg e];exact .cons i' rv' ih
theorem DM.snoc{kvs:List (NK×D)}{us:List (NK×Addr×V)}{xs:List (NK×Addr×Value)}(r:DM K H O kvs us xs){k:NK}{b:Addr}{d:D}{v:V}{u:Value}(i:Is K H O v d)(rv:Ab v u) :
  DM K H O (kvs++[(k,d)]) (us++[(k,b,v)]) (xs++[(k,b,u)]):=by
 induction r with
 |nil=>exact .cons i rv .nil
 |cons i' rv' t ih=>exact .cons i' rv' ih
theorem DM.put{kvs:List (NK×D)}{us:List (NK×Addr×V)}{xs:List (NK×Addr×Value)}(r:DM K H O kvs us xs)(k:NK){b:Addr}{d:D}{v:V}{u:Value}(i:Is K H O v d)(rv:Ab v u) :
  DM K H O (Dq kvs k d) (putU us k b v) (storedH xs k b u):=by
 obtain⟨e1,e2⟩:=r.anyU k;unfold Dq putU storedH;rw[e1,e2]
 by_cases q:(atKey xs k).isSome=true
 .rw[if_pos q,if_pos q,if_pos q];exact r.repl k i rv
 .rw[if_neg q,if_neg q,if_neg q];exact r.snoc i rv
theorem DM.parts{kvs:List (NK×D)}{us:List (NK×Addr×V)}{xs:List (NK×Addr×Value)}(r:DM K H O kvs us xs):us.map (·.1)=kvs.map (·.1)/\AV K H O (us.map (·.2.2)) (kvs.map (·.2)) /\
  Paired (λ(p:NK×Addr×V) (q:NK×Addr×Value)=>p.1=q.1/\p.2.1=q.2.1/\Ab p.2.2 q.2.2) us xs:=by
 induction r with
 |nil=>exact⟨rfl,.nil,.nil⟩
 |cons i rv t ih=>exact⟨by rw[Ap,Ap,ih.1],.cons i ih.2.1,.cons ⟨rfl,rfl,rv⟩ ih.2.2⟩
theorem DM.len{kvs:List (NK×D)}{us:List (NK×Addr×V)}{xs:List (NK×Addr×Value)}(r:DM K H O kvs us xs):us.length=kvs.length/\xs.length=kvs.length:=by
 induction r with
 |nil=>exact⟨rfl,rfl⟩
 |cons i rv t ih=>simp[ih.1,ih.2]
theorem AB3{kvs:List (NK×D)}{k:NK}{d:D}:(Dq kvs k d).length<=kvs.length+1:=by unfold Dq;split <;> simp
theorem AB1{us:List (NK×Addr×V)}{k:NK}{b:Addr}{v:V}{P:NK->Addr->Prop}(h:∀u∈us,P u.1 u.2.1)(hb:P k b):∀u∈putU us k b v,P u.1 u.2.1:=by
 intro u hu;unfold putU at hu;split at hu
 .rw[BV] at hu;obtain⟨q,hq,rfl⟩:=hu;split
  .exact h q hq
  .exact h q hq
 .rcases DE.mp hu with hu|hu
  .exact h u hu
  .rw[show u=(k,b,v) by simpa using hu];exact hb
end
def epN(kvs:List (NK×D))(k:NK)(ep:Nat):Nat:=if (kvs.any λkv=>decide (kv.1=k))=true then ep else ep+1
def Iv(o i v:D)(L:AD):Option AD:=match o with
 |.ref n=>(match L[n]? with|some (.dt kvs ep)=>if kvs.length<16777216 then (dNK i).map λk=>L.set n (.dt (Dq kvs k v) (epN kvs k ep)) else none|_=>none)
 |_=>none
theorem AFF{o i v:D}{L L':AD}(e:Iv o i v L=some L'):∃n kvs ep k,o=.ref n/\L[n]?=some (.dt kvs ep)/\kvs.length<16777216/\dNK i=some k/\L'=L.set n (.dt (Dq kvs k v) (epN kvs k ep)):=by
 unfold Iv at e;split at e
 .rename_i n;split at e
  .rename_i kvs ep e1;split at e
   .rename_i hz;obtain⟨k,e2,rfl⟩:=AI5.mp e;exact⟨n,kvs,ep,k,rfl,e1,hz,e2,rfl⟩
   .cases e
  .cases e
 .cases e
def ABr(K:AM):OS:=λo i v H Q=>∃O L x y d L',Am K H O L/\Is K H O o x/\Is K H O i y/\Is K H O v d/\Iv x y d L=some L'/\∀H',Ah H O H' O->Am K H' O L'->Q H'
section
variable {X:Cx}{o i e:Expr}{fo fi fv:EF}{pos:Pos}
theorem Xi{pins:List (Addr×Obj)}{σ:L2.St}{H:Hp}{s:Shared}{O:List Addr}{L:AD}{n ep:Nat}{a b:Addr}{kvs:List (NK×D)}{k:NK}{v:V}{u:Value}{d:D}{us:List (NK×Addr×V)}{xs:List (NK×Addr×Value)}{h':Heap}{t':Nat}
  (I:AI X pins σ H s) (rs:Am X.K H O L) (hn:O[n]?=some a) (hz:kvs.length<16777216) (ha:H a=some (.dN us ep)) (hsm:(a == sysModules)=false) (r3:DM X.K H O kvs us xs) (hk:∀u∈us,Is X.K H O (.ref u.2.1) (EV u.1))
  (ik:Is X.K H O (.ref b) (EV k)) (iv:Is X.K H O v d) (rv:Ab v u) (dd:Ct (Hz X.prog X.w) h' a (storedH xs k b u) (Fa xs k ep)) (hs:Heap.SameBut a s.heap h') :
  AI X pins σ (upd H a (.dN (putU us k b v) (epN kvs k ep))) {s with heap:=h',toks:=t'}/\Ah H O (upd H a (.dN (putU us k b v) (epN kvs k ep))) O/\Am X.K (upd H a (.dN (putU us k b v) (epN kvs k ep))) O (L.set n (.dt (Dq kvs k d) (epN kvs k ep))):=by
 have rp:=r3.put k (b:=b) iv rv;obtain⟨p1,p2,p3⟩:=rp.parts;have ee:Fa xs k ep=epN kvs k ep:=by unfold Fa epN;rw[(r3.anyU k).2]
 rw[ee] at dd
 have hl:(putU us k b v).length<=sizeLine:=by rw[rp.len.1,sizeLine_eq];have:=AB3 (kvs:=kvs) (k:=k) (d:=d);omega
 have st:Ah H O (upd H a (.dN (putU us k b v) (epN kvs k ep))) O:=⟨.write ha id,As _⟩;obtain⟨q,es,hq,h2,h3,h4,_,h5⟩:=dd;refine⟨AFn I (by rw[ha];exact True.intro) hs ⟨q,hq⟩ ⟨hl,hsm,_,p3,q,es,hq,h2,h3,h4,h5⟩,st,?_⟩;exact rs.write (o':=.dt (Dq kvs k d) (epN kvs k ep)) hn ⟨_,CI,p1,p2.mono st,λx hx=>(AB1 (P:=λk b=>Is X.K H O (.ref b) (EV k)) hk ik x hx).mono st⟩
theorem ABS(hu:X.A.units+64<cLine):Si X (ABr X.K):=by
 rintro pins s σ H o i v ov iv u Q I ro ri rv ⟨O,L,x,y,d,L',rs,io,ii,idv,e,k⟩;obtain⟨n,kvs,ep,k0,rfl,e1,hz,e2,rfl⟩:=AFF e
 cases io with|ref hn =>
  obtain⟨us,xs,ha,hsm,hz',r3,hk,dd⟩:=Ls I (rs.ob n _ _ hn e1);obtain⟨b,rfl,ik⟩:=LZ ii e2;cases ro;cases ri;refine ABT (show X.A.in1.units+1<cLine from by show X.A.units+1+1<cLine;omega) (KY I ik) dd (by rw[r3.len.2,sizeLine_eq];omega) λh' dd' hs=>?_;obtain⟨I',st,rs'⟩:=Xi (t':=s.toks+(Hz X.prog X.w).draws k0) I rs hn hz ha hsm r3 hk ik idv rv dd' hs;exact⟨_,I',k _ st rs'⟩
def Ji(fo fi fv:EF):SF:=λρ L=>(fv ρ L).bind λv=>(fo ρ v.2).bind λo=>(fi ρ o.2).bind λi=>(Iv o.1 i.1 v.1 i.2).bind λL'=>some (.next ρ L')
theorem Qv{p2:Pos}(hu:X.A.units+64<cLine)(ho:AZ X o fo)(hi:AZ X i fi)(he:AZ X e fv)(hs:swapsWithSole [.Subscript o i p2] e pos.line X.env=pure false:=by rfl)(hw:swappedStores [.Subscript o i p2] e X.env=pure none:=by rfl)
  (h1:(assignEach [.Subscript o i p2] X.env).map (·.2)=[assign (.Subscript o i p2) X.env]:=by rfl)
  (ha:∀v,assign (.Subscript o i p2) X.env v=(do
   let ov <-holding [v] (eval o X.env)
   let iv <-holding [v,ov] (eval i X.env)
   standAt p2
   holding [v,ov,iv] (setItem ov iv v)
   release [v,ov,iv] []):=by intro _;rfl):Du X (.Assign [.Subscript o i p2] e pos) (Ji fo fi fv) :=
 PS.weaken (RG he (Va ho hi (ABS hu) ha) hs hw h1) λD σ H z3_=>by
  obtain⟨O,ρ,L,out,r,ee,k⟩:=z3_;unfold Ji at ee
  cases e1:fv ρ L with
  |none=>rw[e1] at ee;cases ee
  |some p =>
   rw[e1] at ee;simp only[AS] at ee
   cases e2:fo ρ p.2 with
   |none=>rw[e2] at ee;cases ee
   |some q =>
    rw[e2] at ee;simp only[AS] at ee
    cases e3:fi ρ q.2 with
    |none=>rw[e3] at ee;cases ee
    |some w =>
     rw[e3] at ee;simp only[AS] at ee
     cases e4:Iv q.1 w.1 p.1 w.2 with
     |none=>rw[e4] at ee;cases ee
     |some L' =>
      rw[e4] at ee;cases ee;refine⟨O,ρ,L,p.1,p.2,r,e1,λv H1 O1 st1 rs1 is1=>⟨O1,ρ,p.2,q.1,q.2,r.to st1 rs1,e2,λov H2 O2 st2 rs2 is2=>⟨O2,ρ,q.2,w.1,w.2,r.to (st1.trans st2) rs2,e3,λiv H3 O3 st3 rs3 is3=>?_⟩⟩⟩;refine⟨O3,w.2,q.1,w.1,p.1,L',rs3,is2.mono st3,is3,(is1.mono st2).mono st3,e4,λH4 st4 rs4=>?_⟩;have stA:=((st1.trans st2).trans st3).trans st4;exact k _ _ _ stA ⟨rs4,r.f.mono stA⟩
end
open Sem (wp)
section
variable {prog:Program}{w:World}{κ:Type}[DecidableEq κ]{knd:HeapKind prog w κ}{A:Around}{E:AKP}{s:Shared}{d a:Addr}{k:κ}{xs:List (κ×Addr×Value)}{ep:Nat}
theorem Ct.entry{h:Heap}(x:Ct knd h d xs ep){j:Nat}{q:Addr×Value}(hj:xs[j]?=some (k,q)):∃o es,h.get? d=some o/\o.data=.dict es ep/\es[j]?=some (entryOfKey knd (k,q)):=by obtain⟨o,es,g,ex,dat,el,_⟩:=x;exact⟨o,es,g,dat,by rw[entry_at el,hj];rfl⟩
theorem ABU{dv:Value}{Q:AKP}(hu:knd.room A)(hk:knd.is s.heap k a)(x:Ct knd s.heap d xs ep)(hz:xs.length<=sizeLine)
  (there:∀p,atKey xs k=some p->Q p.2 {s with toks:=s.toks+knd.draws k})
  (new:atKey xs k=none->∀h',Ct knd h' d (storedH xs k a dv) (Fa xs k ep)->Heap.SameBut d s.heap h'->Q dv {s with heap:=h',toks:=s.toks+knd.draws k}) :
  wpAny (model prog w) A (dictSetDefault d (.ref a) dv) Q E s:=by
 obtain⟨o,es,g,dat,sz⟩:=x.room;unfold dictSetDefault
 (try with_reducible refine Do ?_)
 refine AH (knd.pyHash hu hk ?_);refine AH (Ct.find (s:={s with toks:=s.toks+knd.draws k}) hu hk x (λn=>?_) λj p hj e=>?_)
 .obtain⟨y,sb⟩:=x.grown n hk dv;have e1:Fa xs k ep=ep+1:=by simp[Fa,n]
  rw[e1,storedH_new n] at new;exact AH (AKA (AH (wpAny_updateDictKeys (s:={s with toks:=s.toks+knd.draws k}) (hz:=by omega) g dat (AR (new n _ y sb)))))
 .obtain⟨o',es',g',dat',ee⟩:=x.entry hj;refine AH (AKK (s:={s with toks:=s.toks+knd.draws k}) g' dat' ?_);rw[ee];exact AH (AKA (AR (there p e)))
theorem ADo(hd:(d == sysModules)=false)(dflt:Value) :
  MeetsIn prog w (Builtin.«dict.setdefault» ⟨[.ref d,.ref a,dflt],[]⟩) (λA R s=>knd.room A.in1/\∃k xs ep,knd.is s.heap k a/\Ct knd s.heap d xs ep/\xs.length<=sizeLine /\
   (∀p,atKey xs k=some p->R (.ok (.ret p.2)) {s with toks:=s.toks+knd.draws k}) /\
   (atKey xs k=none->∀h',Ct knd h' d (storedH xs k a dflt) (Fa xs k ep)->Heap.SameBut d s.heap h'->R (.ok (.ret dflt)) {s with heap:=h',toks:=s.toks+knd.draws k})) :=
 .of_wp λA R s z3_=>by
  obtain⟨hu,k,xs,ep,hkey,hm,hz,h1,h2⟩:=z3_;unfold Builtin.«dict.setdefault»;refine AH ?_;unfold Builtin.Dict.keyAndDefault;refine AH (AKJ hm.of.typeIs ?_);show wpAny _ _ (pure (d,Value.ref a,some dflt)) _ _ s;refine AR ?_
  show wpAny _ _ (if (d == sysModules)=true then _ else (dictSetDefault d (.ref a) dflt >>= _)) _ _ s
  rw[if_neg (by rw[hd];exact Cc)];exact AH (ABU hu hkey hm hz (λp hp=>AR ⟨p.2,rfl,h1 p hp⟩) λhn h' hm' hs'=>AR ⟨dflt,rfl,h2 hn h' hm' hs'⟩)
end
section
variable {X:Cx}
def IE:GM:=λx xs L=>match x,xs with
 |.ref i,[y,v]=>(match L[i]? with
  |some (.dt kvs ep)=>(dNK y).bind λk=>(match CK kvs k with|some d=>some (d,L)|none=>if kvs.length<16777216 then some (v,L.set i (.dt (Dq kvs k v) (epN kvs k ep))) else none)
  |_=>none)
 |_,_=>none
theorem Vz(hu:X.A.units+64<cLine):MtD X "dict.setdefault" IE:=λpins s σ H x xs v us Q I rx rv z12_=>by
 obtain⟨O,L,dx,dxs,d,L',rp,ix,ixs,e,k⟩:=z12_;unfold IE at e;split at e
 .rename_i i y dv;split at e
  .rename_i kvs ep e1;obtain⟨k0,e2,e3⟩:=GI.mp e
   cases ix with|ref hi =>
    cases ixs with|@cons v1 _ _ _ i1 i2=>cases i2 with|@cons v2 _ _ _ j1 j2 =>
     cases j2;obtain⟨us',ys,ha,hsm,hz,r3,hk,dd⟩:=Ls I (rp.ob i _ _ hi e1);obtain⟨b,rfl,ik⟩:=LZ i1 e2;cases rx
     cases rv with|@cons _ u1 _ _ ru1 rv2=>cases rv2 with|@cons _ u2 _ _ ru2 rv3 =>
      cases rv3;cases (show u1=Value.ref b from ru1);refine call_meetsIn AJ0 dd.of.typeIs PySem.F.entry_dict_setdefault (PySem.F.args_dict_setdefault_3 _ _ _) (ADo (knd:=Hz X.prog X.w) hsm u2) ⟨show X.A.in1.units+1<cLine from by show X.A.units+1+1<cLine;omega,k0,ys,ep,KY I ik,dd,by rw[r3.len.2,<-r3.len.1];exact hz,λp hp=>?_,λhn h' dd' hs=>?_⟩
      .rcases r3.look k0 with⟨n1,n2⟩|⟨d',b',v',u',l,at_,iv,rv',_⟩
       .rw[n2] at hp;cases hp
       .rw[at_] at hp;cases hp;rw[l] at e3;cases e3;exact⟨v',H,I.tok _,rv',k _ _ _ (.refl _ _) rp iv⟩
      .rcases r3.look k0 with⟨n1,n2⟩|⟨d',b',v',u',l,at_,iv,rv',_⟩
       .rw[n1] at e3;simp only at e3;split at e3
        .rename_i hz2;cases e3;obtain⟨I',st,rs'⟩:=Xi (t':=s.toks+(Hz X.prog X.w).draws k0) I rp hi hz2 ha hsm r3 hk ik j1 ru2 dd' hs;exact⟨v2,_,I',ru2,k _ _ _ st rs' (j1.mono st)⟩
        .cases e3
       .rw[at_] at hn;cases hn
  .cases e
 .cases e
def Je:GM:=λx xs L=>match x,xs with
 |.ref i,[.ref j]=>(match L[i]?,L[j]? with|some (.lst as),some (.lst bs)=>if as.length+bs.length<=16777216 then some (.non,L.set i (.lst (as++bs))) else none|_,_=>none)
 |_,_=>none
theorem Rb:MtD X "list.extend" Je:=Fj.weaken (show Fj X "list.extend" rExtend from ADl) λv vs H Q z4_=>by
 obtain⟨O,L,dx,dxs,d,L',rp,ix,ixs,e,k⟩:=z4_;unfold Je at e;split at e
 .rename_i i j;split at e
  .rename_i as bs e1 e2;split at e
   .rename_i hz;cases e
    cases ix with|@ref _ a hi =>
     cases ixs with|@cons v1 y1 _ _ i1 i2 =>
      cases i2
      cases i1 with|@ref _ b hj =>
       obtain⟨ws,hw,il⟩:=rp.ob _ _ _ hi e1;obtain⟨zs,hzs,il2⟩:=rp.ob _ _ _ hj e2;refine⟨_,_,ws,zs,rfl,rfl,hw,hzs,by rw[il.length,il2.length,sizeLine_eq];exact hz,?_⟩;have st:Ah H O (upd H a (.lst (ws++zs))) O:=⟨.write hw id,As _⟩;exact k _ _ _ st (rp.write (o':=.lst (as++bs)) hi ⟨_,CI,(il.mono st).append (il2.mono st)⟩) .non
   .cases e
  .cases e
 .cases e
end
def Ju(h:Heap)(d:Addr)(es:Array DictEntry)(ep:Nat):Prop:=∃o,h.get? d=some o/\o.data=.dict es ep
section
variable {prog:Program}{w:World}{A:Around}{E:AKP}{s:Shared}{t d v:Addr}{i ep:Nat}{es:Array DictEntry}{Q:Option Value->Shared->Prop}
theorem RX{α:Type}{h0:Heap}{E':AKP}(hh:A.handled=none)(k:Heap.ExtBut t h0 s.heap)(fin:∀h',Heap.ExtBut t h0 h'->∀e,(∃o,h'.get? e=some o/\o.cls=.type "StopIteration")->E' (.ref e) {s with heap:=h'}){R:α->Shared->Prop} :
  wpAny (model prog w) A (newExc (.type "StopIteration") [] >>= λx=>(raiseNew x:Sem α)) R E' s:=by
 refine AH ?_;simp only[newExc,newTuple];refine AH (AKH (AH (m:=firstArgMember _ _) (wpAny_of_eq (a:=Value.none) (by simp only[firstArgMember];rfl) (AKH ?_ (by size_fits)))) (by size_fits));simp only[raiseNew];refine AH (wpAny_handled ?_);rw[hh];exact AH (AR (wpAny_throw (fin _ ((k.push _).push _) _ ⟨_,Heap.get?_push_size _ rfl,rfl⟩)))
theorem Ni(hh:A.handled=none)(it:s.heap.IsKeyIter t d i es.size ep)(en:Ju s.heap d es ep)
  (more:∀e,es[i]?=some e->∀h',h'.IsKeyIter t d (i+1) es.size ep->Heap.SameBut t s.heap h'->Q (some e.key) {s with heap:=h'})
  (fin:es[i]?=none->∀h',Heap.ExtBut t s.heap h'->Q none {s with heap:=h'}):wpAny (model prog w) A (pyNext (.ref t)) Q E s:=by
 obtain⟨ot,gt,ct,dt⟩:=id it;obtain⟨od,gd,dd⟩:=en;have ty:=it.typeIs
 have inner:∀{F:AKP} {R:AKP},(∀e,es[i]?=some e->∀h',h'.IsKeyIter t d (i+1) es.size ep->Heap.SameBut t s.heap h'->R e.key {s with heap:=h'}) ->
   (es[i]?=none->∀h',Heap.ExtBut t s.heap h'->∀x,(∃o,h'.get? x=some o/\o.cls=.type "StopIteration")->F (.ref x) {s with heap:=h'}) ->
   wpAny (model prog w) A.in1 (Builtin.«dict_keyiterator.__next__» ⟨[.ref t],[]⟩) (λfi s2=>∃v,fi=PySem.Fin.done (Flow.ret v)/\R v s2) F s:=λ{F R} one none_=>by
  refine AH (AR (AH (AH (AH (AKL ty (AR (AH (wpAny_fieldsOf gt dt ?_))))))));rw[show Builtin.Dict_items.ownsTuple "dict_keyiterator"=false from by decide]
  show wpAny _ _ (if (Value.ref d == Value.none)=true then _ else _) _ _ s
  rw[if_neg (λz=>by cases (show(false:Bool)=true from z))];refine AH (AR (AH (AKK gd dd ?_)));rw[if_neg (by simp)];refine AH (AR (AH (wpAny_dictEpoch gd dd ?_)));rw[if_neg (by simp)];refine AR ?_;have i0:¬((i:Int)<0):=by omega
  simp only[i0,if_false,AIp]
  cases ee:es[i]? with
  |none =>
   refine AH (AH (AKL ty (AR ?_)));refine AH (m:=setField (.ref t) 0 .none) (wpAny_setField gt dt (by simp) ?_);exact RX (A:=A.in1) (t:=t) (h0:=s.heap) (s:={s with heap:=s.heap.update t (Obj.mapFields (·.setIfInBounds 0 .none))}) hh (Heap.SameBut.update ..).extBut λh' k x hx=>none_ ee h' k x hx
  |some e =>
   refine AH (AH (AKL ty (AR (AH (wpAny_isOneOf_keyiter ty ?_)))))
   have it':(s.heap.update t (Obj.mapFields (·.setIfInBounds 1 (rawInt ((i:Int)+1))))).IsKeyIter t d (i+1) es.size ep :=
    ⟨_,Heap.get?_update_self _ gt (Obj.isFreed_of_fields (Obj.data_mapFields dt _)),(Obj.cls_mapFields ..).trans ct,by rw[Obj.data_mapFields dt];simp[rawInt]⟩
   refine AH (m:=setField (.ref t) 1 (rawInt ((i:Int)+1))) (wpAny_setField gt dt (by simp) (AH (Do (AH (wpAny_isOneOf_keyiter it'.typeIs ?_)))));exact AR (AR ⟨_,rfl,one e ee _ it' (Heap.SameBut.update ..)⟩)
 unfold pyNext;refine AH (wpAny_attempt (AKG (name:=Str.ofString "__next__") ty F.slot_dict_keyiterator_next (Gh F.slot_dict_keyiterator_next ty F.entry_dict_keyiterator_next (inner (λe ee h' i' sb=>AR (more e ee h' i' sb)) λen h' k x hx=>?_) (F.args_dict_keyiterator_next_1 _))));obtain⟨o,g,c⟩:=hx;exact AH (wpAny_isInstance (T:="StopIteration") (b:=true) ⟨o,g,c⟩ isSubtype_stop (AR (fin en h' k)))
def Yi(h:Heap)(t d:Addr)(i n ep:Nat):Prop:=∃a b,IsItemIter h t d i n ep a b
def Yh(h:Heap)(t d:Addr)(i n ep:Nat)(T:Addr):Prop:=∃a b,IsItemIterOut h t d i n ep a b T
theorem Vd(hh:A.handled=none)(it:Yi s.heap t d i es.size ep)(en:Ju s.heap d es ep)
  (more:∀e,es[i]?=some e->∀h',Yh h' t d (i+1) es.size ep s.heap.objs.size->h'.get? s.heap.objs.size=some {cls:=.type "tuple",data:=.seq #[e.key,e.val]}->h'.objs.size=s.heap.objs.size+1->(∀b o,b≠t->s.heap.get? b=some o->h'.get? b=some o)->Q (some (.ref s.heap.objs.size)) {s with heap:=h'})
  (fin:es[i]?=none->∀h',Heap.ExtBut t s.heap h'->Q none {s with heap:=h'}):wpAny (model prog w) A (pyNext (.ref t)) Q E s:=by
 obtain⟨ka,va,gt⟩:=it;obtain⟨od,gd,dd⟩:=en;have ty:s.TypeIs (.ref t) "dict_itemiterator":=⟨_,gt,rfl⟩;have tl:t<s.heap.objs.size:=Heap.lt_size gt
 have inner:∀{F:AKP} {R:AKP},
   (∀e,es[i]?=some e->∀h',Yh h' t d (i+1) es.size ep s.heap.objs.size->h'.get? s.heap.objs.size=some {cls:=.type "tuple",data:=.seq #[e.key,e.val]}->h'.objs.size=s.heap.objs.size+1->(∀b o,b≠t->s.heap.get? b=some o->h'.get? b=some o)->R (.ref s.heap.objs.size) {s with heap:=h'}) ->
   (es[i]?=none->∀h',Heap.ExtBut t s.heap h'->∀x,(∃o,h'.get? x=some o/\o.cls=.type "StopIteration")->F (.ref x) {s with heap:=h'}) ->
   wpAny (model prog w) A.in1 (Builtin.«dict_itemiterator.__next__» ⟨[.ref t],[]⟩) (λfi s2=>∃v,fi=PySem.Fin.done (Flow.ret v)/\R v s2) F s:=λ{F R} one none_=>by
  refine AH (AR (AH (AH (AH (AKM ty (AR (AH (wpAny_fieldsOf gt rfl ?_))))))));rw[show Builtin.Dict_items.ownsTuple "dict_itemiterator"=true from by decide]
  show wpAny _ _ (if (Value.ref d == Value.none)=true then _ else _) _ _ s
  rw[if_neg (λz=>by cases (show(false:Bool)=true from z))];refine AH (AR (AH (AKK gd dd ?_)));rw[if_neg (by simp)];refine AH (AR (AH (wpAny_dictEpoch gd dd ?_)));rw[if_neg (by simp)];refine AR ?_;have i0:¬((i:Int)<0):=by omega
  simp only[i0,if_false,AIp]
  cases ee:es[i]? with
  |none =>
   refine AH (AH (AKM ty (AR ?_)));refine AH (m:=setField (.ref t) 2 .none) (wpAny_setField gt rfl (by simp) ?_);exact RX (A:=A.in1) (t:=t) (h0:=s.heap) (s:={s with heap:=s.heap.update t (Obj.mapFields (·.setIfInBounds 2 .none))}) hh (Heap.SameBut.update ..).extBut λh' k x hx=>none_ ee h' k x hx
  |some e =>
   refine AH (AH (AKM ty (AR (AH (wpAny_isOneOf_itemiter ty ?_)))));refine AH (m:=setField (.ref t) 3 (rawInt ((i:Int)+1))) (AKN gt (by simp) λh1 g1 b1=>?_)
   have g1':IsItemIter h1 t d (i+1) es.size ep ka va:=by show h1.get? t=_;rw[show((i+1:Nat):Int)=(i:Int)+1 by omega];exact g1
   have ty1:Shared.TypeIs {s with heap:=h1} (.ref t) "dict_itemiterator":=⟨_,g1',rfl⟩;refine AH (Do (AH (wpAny_isOneOf_itemiter ty1 (AH (wpAny_isOneOf_itemiter ty1 ?_)))));show wpAny _ _ (Builtin.Dict_items.pairFromOwner (.ref t) 6 e.key e.val) _ _ {s with heap:=h1};unfold Builtin.Dict_items.pairFromOwner;refine AH (wpAny_newTuple ?_)
   -- the tuple is laid
   have z1:h1.objs.size=s.heap.objs.size:=b1.1
   have lay:∀h2,h2=h1.push {cls:=.type "tuple",data:=.seq #[e.key,e.val]}->IsItemIter h2 t d (i+1) es.size ep ka va/\h2.get? s.heap.objs.size=some {cls:=.type "tuple",data:=.seq #[e.key,e.val]}/\h2.objs.size=s.heap.objs.size+1/\∀b o,b≠t->s.heap.get? b=some o->h2.get? b=some o:=λh2 e2=>by
    subst e2;exact⟨Heap.get?_push_of_some _ g1',by rw[<-z1];exact Heap.get?_push_size _ rfl,by rw[Heap.size_push,z1],λb o hb q=>Heap.get?_push_of_some _ (b1.extBut b o hb q)⟩
   show wpAny _ _ (Builtin.Dict_items.ownedTupleIsFree (.ref t) >>= _) _ _ {s with heap:=h1.push {cls:=.type "tuple",data:=.seq #[e.key,e.val]}};obtain⟨g2,u2,z2,k2⟩:=lay _ rfl;rw[z1];generalize h1.push {cls:=.type "tuple",data:=.seq #[e.key,e.val]}=h2 at g2 u2 z2 k2 ⊢;unfold Builtin.Dict_items.ownedTupleIsFree;refine AH (AH (FA (x:=.none) g2 rfl rfl (AR ?_)));rw[if_pos rfl];refine AH (FA (x:=ka) g2 rfl rfl (AH (FA (x:=va) g2 rfl rfl ?_)));refine AH (AKN g2 (by simp) λh3 g3 b3=>AH (AKN g3 (by simp) λh4 g4 b4=>AH (AKN g4 (by simp) λh5 g5 b5=>AH (AKN g5 (by simp) λh6 g6 b6=>?_))));have far:∀b o,b≠t->h2.get? b=some o->h6.get? b=some o:=λb o hb q=>b6.extBut b o hb (b5.extBut b o hb (b4.extBut b o hb (b3.extBut b o hb q)));have z6:h6.objs.size=h2.objs.size:=b6.1.trans (b5.1.trans (b4.1.trans b3.1));refine AH (wpAny_letGo (AR (AR ⟨_,rfl,one e ee h6 ⟨e.key,e.val,g6⟩ (far _ _ (Gi tl) u2) (z6.trans z2) λb o hb q=>far b o hb (k2 b o hb q)⟩)))
 unfold pyNext;refine AH (wpAny_attempt (AKG (name:=Str.ofString "__next__") ty F.slot_dict_itemiterator_next (Gh F.slot_dict_itemiterator_next ty F.entry_dict_itemiterator_next (inner (λe ee h' i' u z k=>AR (more e ee h' i' u z k)) λen h' k x hx=>?_) (F.args_dict_itemiterator_next_1 _))));obtain⟨o,g,c⟩:=hx;exact AH (wpAny_isInstance (T:="StopIteration") (b:=true) ⟨o,g,c⟩ isSubtype_stop (AR (fin en h' k)))
theorem Wa{R:AKP}(hd:(d == sysModules)=false)(ty:s.TypeIs (.ref d) "dict")(en:Ju s.heap d es ep)
  (k:R (.ref s.heap.objs.size) {s with heap:=s.heap.push {cls:=.type "dict_keyiterator",data:=.fields #[.ref d,.int 0 0,.int es.size 0,.int ep 0]}}):wpAny (model prog w) A (pyIter (.ref d)) R E s:=by
 obtain⟨od,gd,dd⟩:=en;refine wpAny_pyIter_slot ty F.slot_dict_iter (Gh F.slot_dict_iter ty F.entry_dict_iter ?_ (F.args_dict_iter_1 _));refine AH (AH (m:=Builtin.Dict.notOrdered "__iter__" ⟨[.ref d],[]⟩) (AKJ ty (AR ?_)));refine AH (m:=Builtin.Dict.showsAll d) ?_;unfold Builtin.Dict.showsAll;rw[hd,if_neg Cc];refine AR (AH (AKK gd dd (AH (wpAny_dictEpoch gd dd (AH (AKH (AR ⟨_,rfl,"dict_keyiterator",_,⟨_,Heap.get?_push_size _ rfl,rfl⟩,F.slot_dict_keyiterator_next.lookup,?_⟩)))))));exact k
theorem ADp(hd:(d == sysModules)=false):MeetsIn prog w (Builtin.«dict.items» ⟨[.ref d],[]⟩) (λ_ R s=>s.TypeIs (.ref d) "dict"/\R (.ok (.ret (.ref s.heap.objs.size))) {s with heap:=s.heap.push {cls:=.type "dict_items",data:=.fields #[.ref d]}}) :=
 .of_wp λA R s z3_=>by
  obtain⟨ty,k⟩:=z3_;refine AH (AH (m:=Builtin.Dict.notOrdered "items" ⟨[.ref d],[]⟩) (AKJ ty (AR ?_)));refine AH (m:=Builtin.Dict.showsAll d) ?_;unfold Builtin.Dict.showsAll;rw[hd,if_neg Cc];exact AR (AH (AKH (AR ⟨_,rfl,k⟩)))
theorem AC5{R:AKP}(hv:s.heap.IsItemsView v d)(en:Ju s.heap d es ep)
  (k:R (.ref s.heap.objs.size) {s with heap:=s.heap.push {cls:=.type "dict_itemiterator",data:=.fields #[.none,.bool false,.ref d,.int 0 0,.int es.size 0,.int ep 0,.none,.none]}}):wpAny (model prog w) A (pyIter (.ref v)) R E s:=by
 obtain⟨ov,gv,cv,dv⟩:=id hv;obtain⟨od,gd,dd⟩:=en;refine wpAny_pyIter_slot hv.typeIs F.slot_dict_items_iter (Gh F.slot_dict_items_iter hv.typeIs F.entry_dict_items_iter ?_ (F.args_dict_items_iter_1 _));refine AH (AR (AH (AH (FA (x:=.ref d) gv dv rfl (AR (AH (AH (AKK gd dd (AH (wpAny_dictEpoch gd dd ?_))))))))));show wpAny _ _ (newFields "dict_itemiterator" [.none,.bool false,.ref d,rawInt 0,rawInt es.size,rawInt ep,.none,.none]) _ _ s;refine AKH (AR ⟨_,rfl,"dict_itemiterator",_,⟨_,Heap.get?_push_size _ rfl,rfl⟩,F.slot_dict_itemiterator_next.lookup,?_⟩) (by rw[sizeOk,sizeLine_eq];show 8<=16777216+2;decide);exact k
end
section
variable {X:Cx}{pins:List (Addr×Obj)}{σ:L2.St}{H:Hp}{s:Shared}
theorem Paired.at{α β:Type}{R:α->β->Prop}:∀{l:List α} {m:List β} {j:Nat} {a:α},Paired R l m->l[j]?=some a->∃b,m[j]?=some b/\R a b
 |_,_,_,_,.nil,h=>by simp at h
 |_,_,0,_,.cons r _,h=>by simp at h;subst h;exact⟨_,rfl,r⟩
 |_,_,j+1,_,.cons _ t,h=>by
  obtain⟨b,e,q⟩:=Paired.at (j:=j) t (by simpa using h);exact⟨b,by simpa using e,q⟩
theorem Iy(I:AI X pins σ H s){a:Addr}{us:List (NK×Addr×V)}{ep:Nat}(h:H a=some (.dN us ep)) :
  (a == sysModules)=false/\(s.TypeIs (.ref a) "dict"/\∃o,s.heap.get? a=some o/\o.dict=none)/\∃es,Ju s.heap a es ep/\es.size=us.length/\∀(i:Nat) (u:NK×Addr×V),us[i]?=some u->∃e:DictEntry,es[i]?=some e/\e.key=.ref u.2.1/\Ab u.2.2 e.val:=by
 obtain⟨z,y,xs,r,o,es,g,ex,dat,el,nd⟩:=(show CP X.prog X.w H s.heap a (.dN us ep) from I.hok a _ h);have hl:xs.length=us.length:=(Paired.length r).symm;refine⟨y,⟨⟨o,g,ex.1⟩,o,g,ex.2.1⟩,es,⟨o,g,dat⟩,?_,λi u hu=>?_⟩
 .rw[<-AJe,el,Ao,hl]
 .obtain⟨q,hq,h1,h2,h3⟩:=Paired.at r hu;refine⟨entryOfKey (Hz X.prog X.w) q,?_,by show Value.ref q.2.1=_;rw[h2],h3⟩;rw[<-Array.getElem?_toList,el,BD,hq];rfl
end
def Itk(a:Addr)(n ep:Nat):It :=
 ⟨λi H=>∃us,H a=some (.dN us ep)/\us.length=n/\i<n,λi H v H'=>H'=H/\∀us,H a=some (.dN us ep)->∃u,us[i]?=some u/\v=.ref u.2.1,λi H=>∃us,H a=some (.dN us ep)/\us.length=n/\n<=i⟩
theorem AAO{P:Program}{w:World}{K:AM}{tg:Expr}(a it:Addr)(n ep:Nat):Hl P w K tg (Itk a n ep) [it] it (λi h=>h.IsKeyIter it a i n ep) where
 mem:=by simp
 obj:=λi h st b hb=>by
  obtain rfl:b=it:=by simpa using hb
  obtain⟨o,e,c,d⟩:=st;exact⟨o,e,λv z=>by rw[d] at z;cases z⟩
 keep:=λi h h' st k=>st.at λo e=>k it (by simp) o e
 item:=by
  rintro X hP hw hK hc i pins s σ H E I hf st ⟨us,ha,hl,hi⟩;subst hP hw hK;obtain⟨_,_,es,en,sz,at_⟩:=Iy I ha;obtain⟨f0,f1,f2,f3,f4,f5⟩:=hf it (by simp);have hz:es.size=n:=sz.trans hl;subst hz;obtain⟨u,hu⟩:∃u,us[i]?=some u:=⟨us[i]'(by omega),by simp[show i<us.length by omega]⟩;obtain⟨e,he,hk,_⟩:=at_ i u hu;refine Ni (I.ok.hd hc) st en (λe' he' h' st' sb=>?_) λhn=>by rw[he] at hn;cases hn
  rw[he] at he';cases he';have I1:AI X pins σ H {s with heap:=h'}:=I.turned (t':=s.toks) (λb o hb q=>(sb.2 b hb).trans q) f0 f1 f3 f4 f5;rw[hk];exact⟨_,rfl,letGo_keyiter (s':={s with heap:=h'}) st' ⟨.ref u.2.1,H,I1,rfl,⟨rfl,λus' h'=>by rw[ha] at h';cases h';exact⟨u,hu,rfl⟩⟩,st',λb hb=>(hf b hb).1⟩⟩
 done:=by rintro X hP hw hK hc i pins s σ H E I hf st ⟨us,ha,hl,hi⟩;subst hP hw hK;obtain⟨_,_,es,en,sz,at_⟩:=Iy I ha;obtain⟨f0,f1,f2,f3,f4,f5⟩:=hf it (by simp);have hz:es.size=n:=sz.trans hl;subst hz;refine Ni (I.ok.hd hc) st en (λe' he' h' st' sb=>?_) λ_ h' k=>⟨rfl,I.turned (t':=s.toks) (λb o hb q=>k b o hb q) f0 f1 f3 f4 f5⟩;rw[AJ1 hi] at he';cases he'
 self:=λ_ _ _ _ _ st h=>wpAny_pyIter_keyiter st h
theorem AFc:entryFor table "dict_itemiterator.__iter__"=some Builtin.«dict_keyiterator.__iter__»:=entryFor_alias (id':="dict_keyiterator.__iter__") (by kernel_rfl) rfl (by decide +kernel) (by kernel_rfl)
def Itp(a:Addr)(n ep:Nat):It :=
 ⟨λi H=>∃us,H a=some (.dN us ep)/\us.length=n/\i<n,λi H v H'=>∃T,H T=none/\v=.ref T/\∀us,H a=some (.dN us ep)->∃u,us[i]?=some u/\H'=upd H T (.tup [.ref u.2.1,u.2.2]),λi H=>∃us,H a=some (.dN us ep)/\us.length=n/\n<=i⟩
theorem AAM{P:Program}{w:World}{K:AM}{elts:List Expr}{x1:Nat}{tp:Pos}(a it:Addr)(n ep:Nat):Hl P w K (.Tuple elts x1 tp) (Itp a n ep) [it] it (λi h=>Yi h it a i n ep) where
 mem:=by simp
 obj:=λi h st b hb=>by
  obtain rfl:b=it:=by simpa using hb
  obtain⟨_,_,e⟩:=st;exact⟨_,e,λv z=>by cases z⟩
 keep:=λi h h' z3_ k=>by obtain⟨x,y,st⟩:=z3_;exact⟨x,y,k it (by simp) _ st⟩
 item:=by
  rintro X hP hw hK hc i pins s σ H E I hf st ⟨us,ha,hl,hi⟩;subst hP hw hK;obtain⟨_,_,es,en,sz,at_⟩:=Iy I ha;have hz:es.size=n:=sz.trans hl;subst hz;have til:it<s.heap.objs.size:=by obtain⟨_,_,e⟩:=st;exact Heap.lt_size e
  obtain⟨u,hu⟩:∃u,us[i]?=some u:=⟨us[i]'(by omega),by simp[show i<us.length by omega]⟩;obtain⟨e,he,hk,rv⟩:=at_ i u hu;refine Vd (I.ok.hd hc) st en (λe' he' h' st' ht hsz kk=>?_) λhn=>by rw[he] at hn;cases hn
  rw[he] at he';cases he';obtain⟨y1,y2,st'⟩:=st';refine⟨_,rfl,wpAny_letOwnedTupleGo_items st' λh2 st2 sb2=>?_⟩;have ht2:h2.get? s.heap.objs.size=some {cls:=.type "tuple",data:=.seq #[e.key,e.val]}:=(sb2.2 _ (Gi til)).trans ht
  have new:CP X.prog X.w (upd H s.heap.objs.size (.tup [.ref u.2.1,u.2.2])) h2 s.heap.objs.size (.tup [.ref u.2.1,u.2.2]) :=
   ⟨by rw[sizeLine_eq];show 2<=16777216;decide,[e.key,e.val],.cons hk (.cons rv .nil),⟨_,ht2,rfl,_,rfl⟩⟩
  have I1:=Mw (t':=s.toks) (h':=h2) I hf (λb o hb q=>by
   have hbi:b≠it:=λz=>hb (by simp[z])
   exact(sb2.2 b hbi).trans (kk b o hbi q)) (Ai _) (λz=>absurd (AIf.mp z) (Gi til)) (λb hb=>by
   obtain rfl:b=it:=by simpa using hb
   exact⟨_,st2⟩) new
  refine⟨.ref s.heap.objs.size,_,I1,rfl,⟨s.heap.objs.size,I.hok.fresh (Ai _),rfl,λus' h'=>by rw[ha] at h';cases h';exact⟨u,hu,rfl⟩⟩,⟨_,_,st2⟩,λb hb=>?_⟩;obtain rfl:b=it:=by simpa using hb
  rw[BM (Bi til)];exact(hf b (by simp)).1
 done:=by rintro X hP hw hK hc i pins s σ H E I hf st ⟨us,ha,hl,hi⟩;subst hP hw hK;obtain⟨_,_,es,en,sz,at_⟩:=Iy I ha;obtain⟨f0,f1,f2,f3,f4,f5⟩:=hf it (by simp);have hz:es.size=n:=sz.trans hl;subst hz;refine Vd (I.ok.hd hc) st en (λe' he' h' st' ht hsz kk=>?_) λ_ h' k=>⟨rfl,I.turned (t':=s.toks) (λb o hb q=>k b o hb q) f0 f1 f3 f4 f5⟩;rw[AJ1 hi] at he';cases he'
 self:=λA i s Q E ⟨x,y,st⟩ h=>by
  have ty:s.TypeIs (.ref it) "dict_itemiterator":=⟨_,st,rfl⟩;refine wpAny_pyIter_slot ty AJ8 (Gh AJ8 ty AFc ?_ (PySem.F.args_dict_itemiterator_iter_1 _));show wpAny _ _ (ret (.ref it)) _ _ s;exact AR ⟨_,rfl,"dict_itemiterator",_,ty,PySem.F.slot_dict_itemiterator_next.lookup,h⟩
def Ii(k:Nat)(kvs:List (NK×D))(ep:Nat)(L:AD):Bool:=match L[k]? with|some (.dt kvs' ep')=>decide (kvs'.map (·.1)=kvs.map (·.1))&&ep' == ep|_=>false
def GW(kvs:List (NK×D)):List D:=kvs.map λkv=>EV kv.1
def Gr(kvs:List (NK×D)):List D:=kvs.map λkv=>.tup [EV kv.1,kv.2]
def Ke(f:EF):IF:=λρ L=>(f ρ L).bind λx=>match x.1 with
 |.ref k=>(match x.2[k]? with|some (.dt kvs ep)=>some (⟨GW kvs,Ii k kvs ep⟩,x.2)|_=>none)
 |_=>none
def Kd(f:EF):IF:=λρ L=>(f ρ L).bind λx=>match x.1 with
 |.ref k=>(match x.2[k]? with|some (.dt kvs ep)=>some (⟨Gr kvs,λL'=>decide (L'[k]?=some (.dt kvs ep))⟩,x.2)|_=>none)
 |_=>none
section
variable {X:Cx}{tg l:Expr}{f:EF}
theorem ABZ{k:Nat}{kvs:List (NK×D)}{ep:Nat}{L:AD}(h:Ii k kvs ep L=true):∃kvs',L[k]?=some (.dt kvs' ep)/\kvs'.map (·.1)=kvs.map (·.1):=by
 unfold Ii at h;split at h
 .rename_i kvs' ep' e;rw[CA] at h;obtain rfl:ep'=ep:=beq_iff_eq.mp h.2;exact⟨kvs',e,of_decide_eq_true h.1⟩
 .cases h
theorem VY(hl:AZ X l f):Ey X tg l (Ke f):=by
 rintro pins s σ H R I ⟨O,ρ,L,J,L',r,e,k⟩;unfold Ke at e
 cases e1:f ρ L with
 |none=>rw[e1] at e;cases e
 |some p =>
  rw[e1] at e;obtain⟨d,L1⟩:=p;simp only[AS] at e;split at e
  .rename_i n;split at e
   .rename_i kvs ep e2;cases e;refine Ad (hl pins s σ H (λv H1=>∃a O1,v=.ref a/\Ah H O H1 O1/\Am X.K H1 O1 L'/\O1[n]?=some a) I ⟨O,ρ,L,_,_,r,e1,λv H1 O1 st rs is=>by cases is with|ref h=>exact⟨_,O1,rfl,st,rs,h⟩⟩) λv s1 z2_=>?_;obtain⟨x,H1,I1,r1,a,O1,ev,st,rs,hn⟩:=z2_;subst ev;cases r1;obtain⟨us,ha,ek,il,ik⟩:=rs.ob n _ _ hn e2;obtain⟨hsm,⟨ty,nd⟩,es,en,sz,_⟩:=Iy I1 ha;have hul:us.length=kvs.length:=by simpa using congrArg List.length ek
    refine Wa hsm ty en ?_;refine⟨s1.heap.objs.size,[s1.heap.objs.size],_,_,H1,rfl,I1.kept (t':=s1.toks) λb o q=>Heap.get?_push_of_some _ q,AAO a _ es.size ep,⟨_,Heap.get?_push_size _ rfl,rfl,rfl⟩,λb hb=>?_,k _ H1 O1 st rs λi H2 O2 L2 st2 rs2 ok=>?_⟩
    .obtain rfl:b=s1.heap.objs.size:=by simpa using hb
     exact I1.fpOk (Ai _) (I1.hok.fresh (Ai _))
    .obtain⟨kvs',e3,ekk⟩:=ABZ ok;obtain⟨us',ha',ek',il',ik'⟩:=rs2.ob n _ _ (Dr st2.2 hn) e3;have hl':us'.length=es.size:=by rw[sz,hul];simpa using congrArg List.length (ek'.trans ekk)
     refine⟨λd hd=>?_,λh=>⟨us',ha',hl',by rw[sz,hul];simpa[GW] using h⟩⟩
     have hi:i<kvs.length:=by
      rcases Nat.lt_or_ge i kvs.length with h|h
      .exact h
      .rw[show(GW kvs)[i]?=none from AIw (by simpa[GW] using h)] at hd;cases hd
     refine⟨⟨us',ha',hl',by rw[sz,hul];exact hi⟩,λx H' z2_=>?_⟩;obtain⟨eH,y⟩:=z2_;subst eH;obtain⟨u,hu,rfl⟩:=y us' ha';refine⟨.refl _ _,rs2,?_⟩;have hk:=ik' u (CY hu);have e5:(us'.map (·.1))[i]?=some u.1:=by rw[BD,hu];rfl
     rw[ek',ekk,BD] at e5;simp only[GW,BD] at hd
     cases e6:kvs[i]? with
     |none=>rw[e6] at e5;cases e5
     |some q =>
      rw[e6] at e5 hd;cases hd;show Is _ _ _ _ (EV q.1);rw[show q.1=u.1 from Option.some.inj e5];exact hk
   .cases e
  .cases e
theorem VW{elts:List Expr}{x1:Nat}{tp apos cpos:Pos}(hl:AZ X l f)(hbase:attributeBase l "items" X.env (eval l X.env)=eval l X.env:=by rfl)(hline:(apos.endLine == cpos.line)=true:=by rfl) :
  Ey X (.Tuple elts x1 tp) (.Call (.Attribute l "items" apos) [] [] cpos) (Kd f):=by
 rintro pins s σ H R I ⟨O,ρ,L,J,L',r,e,k⟩;unfold Kd at e
 cases e1:f ρ L with
 |none=>rw[e1] at e;cases e
 |some p =>
  rw[e1] at e;obtain⟨d,L1⟩:=p;simp only[AS] at e;split at e
  .rename_i n;split at e
   .rename_i kvs ep e2;cases e;refine wpAny_Call_method0_late hbase hline (Ad (hl pins s σ H (λv H1=>∃a O1,v=.ref a/\Ah H O H1 O1/\Am X.K H1 O1 L'/\O1[n]?=some a) I ⟨O,ρ,L,_,_,r,e1,λv H1 O1 st rs is=>by cases is with|ref h=>exact⟨_,O1,rfl,st,rs,h⟩⟩) λv s1 z2_=>?_);obtain⟨x,H1,I1,r1,a,O1,ev,st,rs,hn⟩:=z2_;subst ev;cases r1;obtain⟨us,ha,ek,il,ik⟩:=rs.ob n _ _ hn e2;obtain⟨hsm,⟨ty,nd⟩,es,en,sz,_⟩:=Iy I1 ha;have hul:us.length=kvs.length:=by simpa using congrArg List.length ek
    refine⟨"dict","dict.items",AJ2,PySem.F.slot_dict_items,PySem.F.type_dict_items,ty,λb q=>by cases q;exact nd,Calls.callWith_builtin rfl (PySem.evalArgs_none ?_)⟩;refine call_meetsIn PySem.F.slot_dict_items ty PySem.F.entry_dict_items (PySem.F.args_dict_items_1 _) (ADp hsm) ⟨ty,?_⟩;obtain⟨od,gd,dd⟩:=en;refine AC5 (d:=a) (es:=es) (ep:=ep) (s:={s1 with heap:=s1.heap.push {cls:=.type "dict_items",data:=.fields #[.ref a]}}) ⟨_,Heap.get?_push_size _ rfl,rfl,rfl⟩ ⟨od,Heap.get?_push_of_some _ gd,dd⟩ ?_;have I2:AI X pins σ H1 {s1 with heap:=s1.heap.push {cls:=.type "dict_items",data:=.fields #[.ref a]}}:=I1.kept (t':=s1.toks) λb o q=>Heap.get?_push_of_some _ q;refine⟨_,[_],_,_,H1,rfl,I2.kept (t':=s1.toks) λb o q=>Heap.get?_push_of_some _ q,AAM a _ es.size ep,⟨_,_,Heap.get?_push_size _ rfl⟩,λb hb=>?_,k _ H1 O1 st rs λi H2 O2 L2 st2 rs2 ok=>?_⟩
    .obtain rfl:=AIf.mp hb;exact I2.fpOk (Ai _) (I2.hok.fresh (Ai _))
    .have e3:L2[n]?=some (.dt kvs ep):=of_decide_eq_true ok;obtain⟨us',ha',ek',il',ik'⟩:=rs2.ob n _ _ (Dr st2.2 hn) e3;have hl':us'.length=es.size:=by rw[sz,hul];simpa using congrArg List.length ek'
     refine⟨λd hd=>?_,λh=>⟨us',ha',hl',by rw[sz,hul];simpa[Gr] using h⟩⟩
     have hi:i<kvs.length:=by
      rcases Nat.lt_or_ge i kvs.length with h|h
      .exact h
      .rw[show(Gr kvs)[i]?=none from AIw (by simpa[Gr] using h)] at hd;cases hd
     refine⟨⟨us',ha',hl',by rw[sz,hul];exact hi⟩,λx H' z2_=>?_⟩;obtain⟨T,hT,ex,y⟩:=z2_;obtain⟨u,hu,eH⟩:=y us' ha';subst ex eH;have st3:Ah H2 O2 (upd H2 T (.tup [.ref u.2.1,u.2.2])) O2:=⟨.new hT,As _⟩;refine⟨st3,rs2.ext λb q h=>by rw[BM (DJ h hT)];exact h,?_⟩;have hk:=ik' u (CY hu);have e5:(us'.map (·.1))[i]?=some u.1:=by rw[BD,hu];rfl
     rw[ek',BD] at e5;simp only[Gr,BD] at hd
     cases e6:kvs[i]? with
     |none=>rw[e6] at e5;cases e5
     |some q =>
      rw[e6] at e5 hd;cases hd;have e7:q.1=u.1:=Option.some.inj e5;obtain⟨v,hv,iv⟩:=il'.get (i:=i) (d:=q.2) (by rw[BD,e6];rfl);rw[BD,hu] at hv;cases hv;show Is _ _ _ _ (.tup [EV q.1,q.2]);rw[e7];exact .tup (Bp.of CI) (.cons (hk.mono st3) (.cons (iv.mono st3) .nil))
   .cases e
  .cases e
end
def ItE(K:AM)(a:Addr)(n:Nat):It :=
 ⟨λi H=>∃xs,BY K H a xs/\xs.length=n/\i<n,λi H v H'=>∃T,H T=none/\v=.ref T/\∀xs,BY K H a xs->∃x,xs[i]?=some x/\H'=upd H T (.tup [.int (i:Int),x]),λi H=>∃xs,BY K H a xs/\xs.length=n/\n<=i⟩
theorem AAP{P:Program}{w:World}{K:AM}{elts:List Expr}{x1:Nat}{tp:Pos}(a e it:Addr)(n:Nat)(hei:e≠it) :
  Hl P w K (.Tuple elts x1 tp) (ItE K a n) [e,it] e (λi h=>(∃old,IsEnum h e it (i:Int) old)/\h.IsListIter it a i/\i<=n) where
 mem:=by simp
 obj:=λi h st b hb=>by
  obtain⟨⟨old,he⟩,⟨o,e1,c,d⟩,_⟩:=st;rcases Ac.mp hb with rfl|hb
  .exact⟨_,he,λv z=>by cases z⟩
  .obtain rfl:=AIf.mp hb;exact⟨o,e1,λv z=>by rw[d] at z;cases z⟩
 keep:=λi h h' z3_ k=>by obtain⟨⟨old,he⟩,si,hi⟩:=z3_;exact⟨⟨old,k e (by simp) _ he⟩,si.at λo q=>k it (by simp) o q,hi⟩
 item:=by
  rintro X hP hw hK hc i pins s σ H E I hf st ⟨xs,hq,hl,hi⟩;subst hP hw hK;obtain⟨⟨old,he⟩,hs,_⟩:=st;obtain⟨its,rv,p,hz⟩:=I.list hq;have hlen:its.length=n:=by rw[<-rv.length];exact hl
  have hel:e<s.heap.objs.size:=Heap.lt_size he;have hil:it<s.heap.objs.size:=by obtain⟨o,e1,_⟩:=hs;exact Heap.lt_size e1
  obtain⟨x,hx⟩:∃x,xs[i]?=some x:=⟨xs[i]'(by omega),by simp[show i<xs.length by omega]⟩;obtain⟨u,hu,ru⟩:=rv.get hx
  have hae:a≠e:=λz=>by
   obtain⟨o,g,c,_⟩:=p.isList;rw[z] at g;have g':=he.symm.trans g;cases g';exact absurd (show Value.type "enumerate"=Value.type "list" from c) (by decide)
  have hai:a≠it:=λz=>by
   obtain⟨o,g,c,_⟩:=p.isList;obtain⟨o',g',c',_⟩:=hs;rw[z] at g;rw[g] at g';cases g';rw[c] at c';exact absurd c' (by decide)
  refine wpAny_pyNext_enum_itemD (Draws.list (show X.A.in1.handled=none from I.ok.hd hc) it a hai its.toArray) he ⟨hs,p.isList⟩ (by rw[By,hlen];exact hi) hei (by simp[hei,Ne.symm hae]) λv h' tk hv heo hs' ht _ kk=>⟨_,rfl,?_⟩
  obtain rfl:v=u:=by
   have:its[i]?=some v:=by simpa using hv
   rw[hu] at this;exact(Option.some.inj this).symm
  refine wpAny_letOwnedTupleGo_enum heo λh2 he2 sb2=>?_;have hs2:h2.IsListIter it a (i+1):=hs'.1.at λo q=>(sb2.2 it (Ne.symm hei)).trans q;have ht2:h2.get? s.heap.objs.size=some {cls:=.type "tuple",data:=.seq #[.int i tk,v]}:=(sb2.2 _ (Gi hel)).trans ht
  have new:CP X.prog X.w (upd H s.heap.objs.size (.tup [.int (i:Int),x])) h2 s.heap.objs.size (.tup [.int (i:Int),x]) :=
   ⟨by rw[sizeLine_eq];show 2<=16777216;decide,[.int i tk,v],.cons ⟨_,rfl⟩ (.cons ru .nil),⟨_,ht2,rfl,_,rfl⟩⟩
  have I1:=Mw (t':=tk+1) (h':=h2) I hf (λb o hb q=>by
    have hbe:b≠e:=λz=>hb (by simp[z]);have hbi:b≠it:=λz=>hb (by simp[z])
    exact(sb2.2 b hbe).trans (kk b o hbe hbi q)) (Ai _) (λz=>by
    rcases Ac.mp z with z|z
    .exact absurd z (Gi hel)
    .exact absurd (AIf.mp z) (Gi hil)) (λb hb=>by
    rcases Ac.mp hb with rfl|hb
    .exact⟨_,he2⟩
    .obtain rfl:=AIf.mp hb;obtain⟨o,e1,_⟩:=hs2
     exact⟨o,e1⟩) new
  refine⟨.ref s.heap.objs.size,_,I1,rfl,⟨s.heap.objs.size,I.hok.fresh (Ai _),rfl,λys hy=>by rw[I.list_inj hy hq];exact⟨x,hx,rfl⟩⟩,⟨⟨v,?_⟩,hs2,hi⟩,λb hb=>?_⟩
  .rw[show((i+1:Nat):Int)=(i:Int)+1 by omega];exact he2
  .rw[BM]
   .exact(hf b hb).1
   .rcases Ac.mp hb with z|z
    .rw[z];exact Bi hel
    .rw[AIf.mp z];exact Bi hil
 done:=by
  rintro X hP hw hK hc i pins s σ H E I hf st ⟨xs,hq,hl,hi⟩;subst hP hw hK;obtain⟨⟨old,he⟩,hs,hin⟩:=st;obtain⟨its,rv,p,hz⟩:=I.list hq;have hlen:its.length=n:=by rw[<-rv.length];exact hl
  obtain⟨f0,f1,f2,f3,f4,f5⟩:=hf it (by simp)
  have hai:a≠it:=λz=>by
   obtain⟨o,g,c,_⟩:=p.isList;obtain⟨o',g',c',_⟩:=hs;rw[z] at g;rw[g] at g';cases g';rw[c] at c';exact absurd c' (by decide)
  obtain rfl:i=its.toArray.size:=by rw[By,hlen];omega
  exact wpAny_pyNext_enum_endD (Draws.list (show X.A.in1.handled=none from I.ok.hd hc) it a hai its.toArray) he ⟨hs,p.isList⟩ λh' eb=>⟨rfl,I.turned (t':=s.toks) (λb o hb q=>eb b o hb q) f0 f1 f3 f4 f5⟩
 self:=λA i s Q E st h=>by
  obtain⟨⟨old,he⟩,_⟩:=st;exact wpAny_pyIter_enum he h
def Lc(f:AF):IF:=λρ L=>(f ρ L).bind λx=>match x.1 with
 |[.ref k]=>(match x.2[k]? with|some (.lst xs)=>some (⟨Fc xs,λL'=>decide (L'[k]?=some (.lst xs))⟩,x.2)|_=>none)
 |_=>none
theorem Xg(xs:List D)(i:Nat):(Fc xs)[i]?=(xs[i]?).map λd=>.tup [.int (i:Int),d]:=by unfold Fc;rw[BD,List.getElem?_zipIdx];cases xs[i]? <;> simp
section
variable {X:Cx}{elts:List Expr}{x1:Nat}{tp p pos:Pos}{a:Expr}{fa:AF}
theorem ACV(hm:X.mg "enumerate"=none)(ha:Ed X [a] fa)(hg:Gl X "enumerate":=by rfl)(hs:starEach [a] X.env=[(false,eval a X.env)]:=by rfl):Ey X (.Tuple elts x1 tp) (.Call (.Name "enumerate" p) [a] [] pos) (Lc fa):=by
 rintro pins s σ H R I ⟨O,ρ,L,J,L',r,e,k⟩;unfold Lc at e
 cases e1:fa ρ L with
 |none=>rw[e1] at e;cases e
 |some q =>
  rw[e1] at e;obtain⟨ds,L1⟩:=q;simp only[AS] at e;split at e
  .rename_i n;split at e
   .rename_i xs e2;cases e;refine Call_ (Hy I hg hm (u:=.type "enumerate") (by decide +kernel) (PyProof.Rows.callWith_type1 (Ad (ha pos pins s σ H (λvs H1=>∃a O1,vs=[.ref a]/\Ah H O H1 O1/\Am X.K H1 O1 L'/\O1[n]?=some a) I ⟨O,ρ,L,_,_,r,e1,λvs H1 O1 st rs is=>?_⟩) λus s1 ⟨vs,H1,I1,r1,b,O1,ev,st,rs,hn⟩=>?_) hs rfl))
    .cases is with
     |cons i1 i2=>cases i2;cases i1 with|ref h=>exact⟨_,O1,rfl,st,rs,h⟩
    .subst ev;obtain⟨u,rfl,ru⟩:=FB r1;cases ru;obtain⟨ws,hw,il⟩:=rs.ob n _ _ hn e2;obtain⟨its,rv,pl,hz⟩:=I1.list (BY.of hw);refine call_enumerate_list pl.isList λh' he hs' hz' kk=>?_;refine wpAny_pyIter_enum he ?_;have I2:AI X pins σ H1 {s1 with heap:=h'}:=I1.kept (t':=s1.toks) kk;refine⟨s1.heap.objs.size+1,[s1.heap.objs.size+1,s1.heap.objs.size],_,_,H1,rfl,I2,AAP b _ _ xs.length (Nat.succ_ne_self _),⟨⟨_,he⟩,hs',FS _⟩,λb hb=>?_,k _ H1 O1 st rs λi H2 O2 L2 st2 rs2 ok=>?_⟩
     .rcases Ac.mp hb with rfl|hb
      .exact I1.fpOk (AJC _) (I1.hok.fresh (AJC _))
      .obtain rfl:=AIf.mp hb;exact I1.fpOk (Ai _) (I1.hok.fresh (Ai _))
     .obtain⟨ws',hw',il'⟩:=rs2.ob n _ _ (Dr st2.2 hn) (of_decide_eq_true ok);refine⟨λd hd=>?_,λh=>⟨ws',BY.of hw',il'.length,by simpa[Fc] using h⟩⟩;simp only at hd;rw[Xg] at hd
      cases ec:xs[i]? with
      |none=>rw[ec] at hd;cases hd
      |some c =>
       rw[ec] at hd;cases hd;refine⟨⟨ws',BY.of hw',il'.length,(BQ.mp ec).1⟩,λx H' ⟨T,hT,ex,y⟩=>?_⟩;obtain⟨v,hv,eH⟩:=y ws' (BY.of hw');subst ex eH;obtain⟨v',hv',iv⟩:=il'.get ec;rw[hv] at hv';cases hv';have st3:Ah H2 O2 (upd H2 T (.tup [.int (i:Int),v])) O2:=⟨.new hT,As _⟩;exact⟨st3,rs2.ext λa u e=>by rw[BM (DJ e hT)];exact e,.tup (Bp.of CI) (.cons (.int _) (.cons (iv.mono st3) .nil))⟩
   .cases e
  .cases e
end
theorem UC:∀{vs:List V} {us:List Value},vs.length=us.length->(∀(i:Nat) (v:V),vs[i]?=some v->∃u,us[i]?=some u/\Ab v u)->Ae vs us
 |[],[],_,_=>.nil
 |[],_::_,h,_=>by simp at h
 |_::_,[],h,_=>by simp at h
 |v::vs,u::us,h,f=>by
  refine .cons ?_ (UC (by simpa using h) λi w hw=>by simpa using f (i+1) w (by simpa using hw));obtain⟨u',e,r⟩:=f 0 v rfl;cases e;exact r
section
variable {X:Cx}
theorem ADq{prog:Program}{w:World}{d:Addr}(hd:(d == sysModules)=false):MeetsIn prog w (Builtin.«dict.__len__» ⟨[.ref d],[]⟩) (λ_ R s=>∃es ep,Ju s.heap d es ep/\R (.ok (.ret (.int es.size s.toks))) {s with toks:=s.toks+1}) :=
 .of_wp λA R s z3_=>by
  obtain⟨es,ep,⟨o,g,dat⟩,k⟩:=z3_;refine AH (m:=dictSize d) (AH (AKK g dat (AR (AH (m:=Builtin.Dict.pendingCount d) (wpAny_pendingCount_other hd (wpAny_ret_mkInt ?_))))));exact k
def Li:GL:=λxs L=>match xs with
 |[.ref k]=>(match L[k]? with|some (.dt kvs _)=>some (.int (kvs.length:Int),L)|_=>none)
 |_=>none
theorem AF3:Fp X (.builtin "len") Li:=λpins s σ H vs us Q I rv z9_=>by
 obtain⟨O,L,xs,d,L',rs,is,e,k⟩:=z9_;unfold Li at e;split at e
 .rename_i n;split at e
  .rename_i kvs ep e1;cases e
   cases is with|cons i1 i2=>cases i2;cases i1 with|ref hn =>
    obtain⟨u,rfl,ru⟩:=FB rv;cases ru;obtain⟨ws,ha,ek,_,_⟩:=rs.ob n _ _ hn e1;obtain⟨hsm,⟨ty,_⟩,es,en,sz,_⟩:=Iy I ha;have hz:ws.length<=sizeLine:=(show CP X.prog X.w H s.heap _ (.dN ws ep) from I.hok _ _ ha).1;have hl:ws.length=kvs.length:=by simpa using congrArg List.length ek
    have es1:es.size=kvs.length:=sz.trans hl;rw[sizeLine_eq] at hz;refine Calls.call_function_entry kind_len plain_len entry_len (args_len1 _) ?_
    refine AH (m:=oneArg "len" _) (AR (AH (m:=callSpecial? (.ref _) (Str.ofString "__len__")) (AKG (name:=Str.ofString "__len__") ty PySem.F.slot_dict_len
     (call_meetsIn PySem.F.slot_dict_len ty PySem.F.entry_dict_len (PySem.F.args_dict_len_1 _) (ADq hsm) ⟨es,ep,en,?_⟩))))
    refine AH (Do (AR (AH (wpAny_letGo ?_))))
    show wpAny _ _ (if ((es.size:Nat):Int)<0 then _ else if ((es.size:Nat):Int) ≥ 2 ^ 63 then _ else _) _ _ _
    rw[if_neg (by omega),if_neg (by omega)];refine AH (wpAny_mkInt (AR ⟨_,rfl,?_⟩));exact⟨.int es.size,H,(I.tok _).tok _,⟨_,rfl⟩,by rw[es1];exact k _ _ _ (.refl _ _) rs (.int _)⟩
  .cases e
 .cases e
theorem AAA{prog:Program}{w:World}{A:Around}(hh:A.handled=none)(t d:Addr)(hne:d≠t)(es:Array DictEntry)(ep:Nat) :
  Walks prog w A t [t,d] [t] es.size (λi v=>∃e,es[i]?=some e/\v=e.key) (λi h=>h.IsKeyIter t d i es.size ep/\Ju h d es ep) where
 sub:=λb hb=>by simp at hb;simp[hb]
 frame:=λ_ _ _ z3_ k=>by obtain⟨a,o,g,dat⟩:=z3_;exact⟨a.at λo q=>k t (by simp) o q,o,k d (by simp) o g,dat⟩
 item:=λi s Q E hi ⟨a,o,g,dat⟩ k=>by
  refine Ni hh a ⟨o,g,dat⟩ (λe he h' a' sb=>?_) λhn=>by rw[Array.getElem?_eq_none_iff] at hn;omega
  exact k e.key h' s.toks ⟨e,he,rfl⟩ ⟨a',o,(sb.2 d hne).trans g,dat⟩ λb q hb e'=>(sb.2 b (by simpa using hb)).trans e'
 done:=λs Q E ⟨a,en⟩ k=>by
  refine Ni hh a en (λe he=>by rw[AJ1 (Ai _)] at he;cases he) λ_ h' x=>?_;exact k h' s.toks λb q hb e'=>x b q (by simpa using hb) e'
 self:=λ_ _ _ _ st h=>wpAny_pyIter_keyiter st.1 h
def AGu(h:Heap)(d:Addr)(es:Array DictEntry)(ep:Nat):Prop:=∃o,h.get? d=some o/\o.cls=.type "dict"/\o.data=.dict es ep
theorem AA6{prog:Program}{w:World}{d:Addr}{es:Array DictEntry}{ep:Nat}(hd:(d == sysModules)=false):PySem.W.KdlSrc prog w "dict" d d es.size (λi v=>∃e,es[i]?=some e/\v=e.key) (λh=>AGu h d es ep) where
 type:=λ_ z1_=>by obtain⟨o,g,c,_⟩:=z1_;exact⟨o,g,c⟩
 there:=λ_ z1_=>by obtain⟨o,g,_⟩:=z1_;exact⟨Heap.lt_size g,Heap.lt_size g⟩
 keep:=λ_ _ z2_ k=>by obtain⟨o,g,r⟩:=z2_;exact⟨o,k d (.inl rfl) o g,r⟩
 notList:=by decide
 notTuple:=by decide
 hint:=λ_ _ _ _ z4_ q=>by obtain⟨o,g,c,_⟩:=z4_;exact PySem.W.kdl_hint_dict ⟨o,g,c⟩ q
 iter:=λA s hh ⟨o,g,c,dat⟩=>⟨_,_,λE Q q=>Wa hd ⟨o,g,c⟩ ⟨o,g,dat⟩ q,AAA hh _ d (Bi (Heap.lt_size g)) es ep,⟨_,Heap.get?_push_size _ rfl,rfl,rfl⟩,o,Heap.get?_push_of_some _ g,dat⟩
def Lh:GL:=λxs L=>match xs with
 |[.ref k]=>(match L[k]? with|some (.dt kvs _)=>some (.ref L.length,L++[.lst (GW kvs)])|_=>none)
 |_=>none
theorem AF2(hc:X.calm=true):Fp X (.type "list") Lh:=λpins s σ H vs us Q I rv z9_=>by
 obtain⟨O,L,xs,d,L',rs,is,e,k⟩:=z9_;unfold Lh at e;split at e
 .rename_i n;split at e
  .rename_i kvs ep e1;cases e
   cases is with|cons i1 i2=>cases i2;cases i1 with|@ref _ a hn =>
    obtain⟨u,rfl,ru⟩:=FB rv;cases ru;obtain⟨ws,ha,ek,il,ik⟩:=rs.ob n _ _ hn e1;obtain⟨hsm,⟨⟨o,g,c⟩,_⟩,es,⟨o',g',dat⟩,sz,at_⟩:=Iy I ha;rw[g] at g';cases g';have hz:ws.length<=sizeLine:=(show CP X.prog X.w H s.heap _ (.dN ws ep) from I.hok _ _ ha).1;have hl:ws.length=kvs.length:=by simpa using congrArg List.length ek
    refine PySem.W.kdl_call (AA6 (ep:=ep) hsm) (I.ok.hd hc) ⟨o,g,c,dat⟩ (by rw[sz];exact hz) λh' tk acc c' kk hD hacc=>?_
    -- the list of the keys
    have hv:Ae (ws.map λw=>V.ref w.2.1) acc.toList:=by
     refine UC (by have h9:=hacc.1;rw[sz] at h9;simp[h9]) λi v hv=>?_;rw[BD] at hv
     cases ew:ws[i]? with
     |none=>rw[ew] at hv;cases hv
     |some q =>
      rw[ew] at hv;cases hv;obtain⟨en,h1,h2,_⟩:=at_ i q ew;have hi:i<acc.size:=by rw[hacc.1,sz];exact(BQ.mp ew).1
      obtain⟨en',h3,h4⟩:=hacc.2 i acc[i] (by simp[hi]);rw[h1] at h3;cases h3;exact⟨acc[i],by simp[hi],by rw[h4];exact h2⟩
    have hf:H s.heap.objs.size=none:=I.hok.fresh (Ai _)
    have I1:AI X pins σ (upd H s.heap.objs.size (.lst (ws.map λw=>V.ref w.2.1))) {s with heap:=h',toks:=tk} :=
     I.laid (t':=tk) kk (Ai _) ⟨by rw[Ao];exact hz,acc.toList,c',hv,by simpa using hD⟩
    have st:Ah H O (upd H s.heap.objs.size (.lst (ws.map λw=>V.ref w.2.1))) (O++[s.heap.objs.size]):=⟨.new hf,BB _ _⟩
    have ikk:AV X.K H O (ws.map λw=>V.ref w.2.1) (GW kvs):=by
     have go:∀{l:List (NK×Addr×V)} {m:List (NK×D)},l.map (·.1)=m.map (·.1)->(∀u∈l,Is X.K H O (.ref u.2.1) (EV u.1))->AV X.K H O (l.map λw=>V.ref w.2.1) (GW m):=by
      intro l
      induction l with
      |nil=>intro m em _;cases m with|nil=>exact .nil|cons=>simp at em
      |cons q l ih =>
       intro m em hm
       cases m with
       |nil=>simp at em
       |cons p m =>
        simp only[Ap,List.cons.injEq] at em;refine .cons ?_ (ih em.2 λu hu=>hm u (BK _ hu));show Is X.K H O (.ref q.2.1) (EV p.1);rw[<-em.1];exact hm q BN
     exact go ek ik
    exact⟨.ref s.heap.objs.size,_,I1,rfl,k _ _ _ st (rs.new hf ⟨_,CI,ikk.mono st⟩) (.ref (by rw[<-rs.len];simp))⟩
  .cases e
 .cases e
end
def EJ(b:Bool)(h:Heap)(l:Addr)(its:Array Value):Prop:=match b with|true=>h.IsTuple l its|false=>h.IsList l its
def DD(b:Bool)(h:Heap)(t l:Addr)(k:Nat):Prop:=match b with|true=>h.IsTupleIter t l k|false=>h.IsListIter t l k
section
variable {prog:Program}{w:World}{A:Around}{E:AKP}{s:Shared}{b:Bool}{h h':Heap}{t l:Addr}{k:Nat}{its:Array Value}
theorem EJ.ext(x:EJ b h l its)(e:∀o,h.get? l=some o->h'.get? l=some o):EJ b h' l its:=by
 cases b with
 |true=>obtain⟨o,g,r⟩:=x;exact⟨o,e o g,r⟩
 |false=>obtain⟨o,g,r⟩:=x;exact⟨o,e o g,r⟩
theorem DD.ext(x:DD b h t l k)(e:∀o,h.get? t=some o->h'.get? t=some o):DD b h' t l k:=by
 cases b with
 |true=>obtain⟨o,g,r⟩:=x;exact⟨o,e o g,r⟩
 |false=>obtain⟨o,g,r⟩:=x;exact⟨o,e o g,r⟩
theorem DD.obj(x:DD b h t l k):∃o,h.get? t=some o/\∀v,o.data≠.cell v:=by
 cases b with
 |true=>obtain⟨o,g,_,d⟩:=x;exact⟨o,g,λv z=>by rw[d] at z;cases z⟩
 |false=>obtain⟨o,g,_,d⟩:=x;exact⟨o,g,λv z=>by rw[d] at z;cases z⟩
theorem ABW{Q:AKP}(x:EJ b s.heap l its)(q:∀o,DD b (s.heap.push o) s.heap.objs.size l 0->Q (.ref s.heap.objs.size) {s with heap:=s.heap.push o}):wpAny (model prog w) A (pyIter (.ref l)) Q E s:=by
 cases b with
 |true=>exact wpAny_pyIter_tuple x (q _ ⟨_,Heap.get?_push_size _ rfl,rfl,rfl⟩)
 |false=>exact wpAny_pyIter_list x (q _ ⟨_,Heap.get?_push_size _ rfl,rfl,rfl⟩)
theorem tup_next{Q:AKP}(hh:A.handled=none)(i:s.heap.IsTupleIter t l k)(x:s.heap.IsTuple l its)(some_:∀v,its[k]?=some v->∀h',h'.IsTupleIter t l (k+1)->Heap.SameBut t s.heap h'->Q v {s with heap:=h'})
  (none_:its[k]?=none->∀h' e,Heap.ExtBut t s.heap h'->(∃o,h'.get? e=some o/\o.cls=.type "StopIteration")->E (.ref e) {s with heap:=h'}):wpAny (model prog w) A (Builtin.SmallTypes.nextOf (.ref t)) Q E s:=by
 obtain⟨ot,gt,ct,dt⟩:=id i;obtain⟨ol,gl,_,n,dl⟩:=x
 have inner:∀{R:AKP},(∀v,its[k]?=some v->∀h',h'.IsTupleIter t l (k+1)->Heap.SameBut t s.heap h'->R v {s with heap:=h'}) ->
   wpAny (model prog w) A.in1 (Builtin.«tuple_iterator.__next__» ⟨[.ref t],[]⟩) (λfi s2=>∃v,fi=PySem.Fin.done (Flow.ret v)/\R v s2) E s:=λ{R} one=>by
  refine AH (m:=field (.ref t) 0) (FA (x:=.ref l) gt dt rfl ?_)
  show wpAny _ _ (if (Value.ref l == Value.none)=true then _ else _) _ _ s
  rw[if_neg (λz=>by cases (show(false:Bool)=true from z))];refine AH (m:=field (.ref t) 1) (FA (x:=.int k 0) gt dt rfl (AH (m:=seqItems? (.ref l)) (AKB gl dl ?_)));simp only[AIp]
  cases ev:its[k]? with
  |none =>
   refine AH (AKA (AH (m:=setField (.ref t) 0 .none) (wpAny_setField gt dt (by simp) ?_)));exact RX (A:=A.in1) (t:=t) (h0:=s.heap) (s:={s with heap:=s.heap.update t (Obj.mapFields (·.setIfInBounds 0 .none))}) hh (Heap.SameBut.update ..).extBut λh' k x hx=>none_ ev h' x k hx
  |some v =>
   refine AH (wpAny_setField gt dt (by simp) (AR ⟨v,rfl,one v ev _ ?_ (Heap.SameBut.update ..)⟩));exact⟨_,Heap.get?_update_self _ gt (Obj.isFreed_of_fields (Obj.data_mapFields dt _)),(Obj.cls_mapFields ..).trans ct,by rw[Obj.data_mapFields dt];simp[rawInt]⟩
 unfold Builtin.SmallTypes.nextOf;exact AH (AKG (name:=Str.ofString "__next__") i.typeIs AJ9 (Gh AJ9 i.typeIs PySem.F.entry_tuple_iterator_next (inner λv hv h' i' sb=>AR (some_ v hv h' i' sb)) (PySem.F.args_tuple_iterator_next_1 _)))
theorem ABV{v:Value}{Q:AKP}(hh:A.handled=none)(i:DD b s.heap t l k)(x:EJ b s.heap l its)(hv:its[k]?=some v)(q:∀h',DD b h' t l (k+1)->Heap.SameBut t s.heap h'->Q v {s with heap:=h'}):wpAny (model prog w) A (Builtin.SmallTypes.nextOf (.ref t)) Q E s:=by
 cases b with
 |true=>exact tup_next hh i x (λv' e h' i' sb=>by rw[hv] at e;cases e;exact q h' i' sb) λe=>by rw[hv] at e;cases e
 |false=>exact wpAny_nextOf_list_item i x hv q
theorem ABY{Q:AKP}(hh:A.handled=none)(i:DD b s.heap t l k)(x:EJ b s.heap l its)(hv:its[k]?=none)(q:∀h' e,Heap.ExtBut t s.heap h'->(∃o,h'.get? e=some o/\o.cls=.type "StopIteration")->E (.ref e) {s with heap:=h'}):wpAny (model prog w) A (Builtin.SmallTypes.nextOf (.ref t)) Q E s:=by
 cases b with
 |true=>exact tup_next hh i x (λv' e=>by rw[hv] at e;cases e) λ_=>q
 |false=>exact wpAny_nextOf_list_end hh i x hv q
end
structure Src where
 b:Bool
 t:Addr
 l:Addr
abbrev Ec(h:Heap)(T:Addr)(vs:List Value):Prop:=h.get? T=some {cls:=.type "tuple",data:=.seq vs.toArray}
def LO:List Value->Nat->List Value->List Value
 |kept,_,[]=>kept
 |kept,j,v::vs=>LO (kept.set j v) (j+1) vs
theorem VL:∀(vs kept:List Value) (j:Nat),kept.length=j+vs.length->LO kept j vs=kept.take j++vs
 |[],kept,j,h=>by simp only[LO,HS];rw[AJO (by simpa using AJB h)]
 |v::vs,kept,j,h=>by
  simp only[EO] at h;rw[LO,VL vs _ _ (by rw[AJD];omega)];rw[List.take_succ,AIm (by omega),List.take_set_of_le (Ai _)];simp
section
variable {prog:Program}{w:World}{A:Around}{E:AKP}{s:Shared}{z TI TO:Addr}{k:Nat}
def AGt(M:Model)(A:Around)(E:AKP)(s:Shared)(z TI TO:Addr)(k:Nat){β:Type}(init:β)(f:Value×Nat->β->Sem (ForInStep β)):Prop :=
 ∀(r:Src) (j:Nat) (v:Value) (its:Array Value) (h1:Heap) (kept:List Value),DD r.b h1 r.t r.l k->EJ r.b h1 r.l its->its[k]?=some v->IsZip h1 z TI TO .ellipsis->Ec h1 TO kept->kept.length<=1000->r.t≠TO->r.t≠z ->
  ∀G:ForInStep β->Shared->Prop,(∀h2,DD r.b h2 r.t r.l (k+1)->Ec h2 TO (kept.set j v)->IsZip h2 z TI TO .ellipsis->h2.objs.size=h1.objs.size->(∀c o,c≠TO->c≠r.t->h1.get? c=some o->h2.get? c=some o)->G (.yield init) {s with heap:=h2}) ->
   wpAny M A (f (.ref r.t,j) init) G E {s with heap:=h1}
theorem AFi{M:Model}{β:Type}{init:β}{f:Value×Nat->β->Sem (ForInStep β)}(one:AGt M A E s z TI TO k init f)(tz:TO≠z):∀(rs:List Src) (vs:List Value) (j:Nat) (h1:Heap) (kept:List Value),
  Paired (λ(r:Src) v=>DD r.b h1 r.t r.l k/\∃its,EJ r.b h1 r.l its/\its[k]?=some v) rs vs->(rs.map (·.t)).Nodup->(∀r∈rs,r.t≠TO/\r.t≠z/\r.l≠TO/\∀q∈rs,r.l≠q.t)->IsZip h1 z TI TO .ellipsis->Ec h1 TO kept->kept.length<=1000 ->
  ∀G:β->Shared->Prop,(∀h2,(∀r∈rs,DD r.b h2 r.t r.l (k+1))->Ec h2 TO (LO kept j vs)->IsZip h2 z TI TO .ellipsis->h2.objs.size=h1.objs.size->(∀c o,c≠TO->c∉rs.map (·.t)->h1.get? c=some o->h2.get? c=some o)->G init {s with heap:=h2}) ->
   wpAny M A (forIn ((rs.map λr=>Value.ref r.t).zipIdx j) init f) G E {s with heap:=h1}:=by
 intro rs
 induction rs with
 |nil =>
  intro vs j h1 kept p _ _ hz ht _ G q;cases p;exact AR (q h1 (λ_ h=>nomatch h) ht hz rfl λc o _ _ e=>e)
 |cons r rs ih =>
  intro vs j h1 kept p nd ap hz ht hk G q
  cases p with
  |@cons _ v _ vs hr ps =>
  obtain⟨ir,its,xr,hv⟩:=hr;rw[Ap,List.zipIdx_cons,AJH];obtain⟨a1,a2,a3,a4⟩:=ap r BN;rw[Ap,AIk] at nd;refine AH (one r j v its h1 kept ir xr hv hz ht hk a1 a2 _ λh2 i2 t2 z2 s2 k2=>?_);have ne:∀r'∈rs,r'.t≠r.t:=λr' h' e=>nd.1 (by rw[<-e];exact Dp h')
  have ps2:Paired (λ(r:Src) v=>DD r.b h2 r.t r.l k/\∃its,EJ r.b h2 r.l its/\its[k]?=some v) rs vs:=by
   have go:∀{l:List Src} {m:List Value},(∀x∈l,x∈rs)->Paired (λ(r:Src) v=>DD r.b h1 r.t r.l k/\∃its,EJ r.b h1 r.l its/\its[k]?=some v) l m->Paired (λ(r:Src) v=>DD r.b h2 r.t r.l k/\∃its,EJ r.b h2 r.l its/\its[k]?=some v) l m:=by
    intro l m hl p
    induction p with
    |nil=>exact .nil
    |@cons x u l m hx _ ih =>
     obtain⟨i1,its1,x1,e1⟩:=hx;have hm:=hl x BN;obtain⟨c1,c2,c3,c4⟩:=ap x (BK _ hm);exact .cons ⟨i1.ext λo e=>k2 _ o c1 (ne x hm) e,its1,x1.ext λo e=>k2 _ o c3 (c4 r BN) e,e1⟩ (ih λy hy=>hl y (BK _ hy))
   exact go (λ_ h=>h) ps
  refine ih vs (j+1) h2 (kept.set j v) ps2 nd.2 (λr' h'=>?_) z2 t2 (by rw[AJD];exact hk) G λh3 i3 t3 z3 s3 k3=>?_
  .obtain⟨c1,c2,c3,c4⟩:=ap r' (BK _ h');exact⟨c1,c2,c3,λq' hq=>c4 q' (BK _ hq)⟩
  .refine q h3 (λr' h'=>?_) t3 z3 (s3.trans s2) λc o c1 c2 e=>?_
   .rcases Ac.mp h' with e|h'
    .subst e;exact i2.ext λo e=>k3 _ o a1 nd.1 e
    .exact i3 r' h'
   .simp only[Ap,Ac,not_or] at c2;exact k3 c o c1 c2.2 (k2 c o c1 c2.1 e)
theorem ZY{zs:List Src}{vs old:List Value}{R:AKP}(hh:A.handled=none)(hz:IsZip s.heap z TI TO .none)(hi:Ec s.heap TI (zs.map λr=>.ref r.t))(ht:Ec s.heap TO old)(ho:old.length=vs.length)(hk:old.length<=1000)(ne:zs≠[])
  (nd:(zs.map (·.t)).Nodup) (tz:TO≠z) (iz:TI≠z) (ap:∀r∈zs,r.t≠TO/\r.t≠z/\r.l≠TO/\r.l≠z/\∀q∈zs,r.l≠q.t) (each:Paired (λ(r:Src) v=>DD r.b s.heap r.t r.l k/\∃its,EJ r.b s.heap r.l its/\its[k]?=some v) zs vs)
  (q:∀h',IsZip h' z TI TO (rawInt s.heap.objs.size)->Ec h' TO vs->(∀r∈zs,DD r.b h' r.t r.l (k+1))->Ec h' s.heap.objs.size vs->(∀c o,c≠z->c≠TO->c∉zs.map (·.t)->s.heap.get? c=some o->h'.get? c=some o)->R (.ref s.heap.objs.size) {s with heap:=h'}) :
  wpAny (model prog w) A (Builtin.«zip.__next__» ⟨[.ref z],[]⟩) (λfi s2=>∃v,fi=PySem.Fin.done (Flow.ret v)/\R v s2) E s:=by
 refine AH (m:=field (.ref z) 2) (FA (x:=.bool false) hz rfl rfl (AH (m:=field (.ref z) 3) (FA (x:=.ref TI) hz rfl rfl (AH (AKB hi rfl ?_)))));have hem:(zs.map λr=>Value.ref r.t).toArray.isEmpty=false:=by cases zs with|nil=>exact absurd rfl ne|cons=>rfl
 simp only[hem,AJF,if_false];refine AH (m:=Builtin.SmallTypes.ownedTupleIsFree (.ref z)) (AH (FA (x:=.none) hz rfl rfl (AR ?_)));rw[if_pos rfl];refine AH (AKA (AH (FA (x:=.ref TO) hz rfl rfl (AH (AKN hz (by simp) λh1 z1 b1=>?_)))));have z1':IsZip h1 z TI TO .ellipsis:=z1;refine AH ?_;refine AFi (M:=model prog w) (E:=E) (A:=A) (s:=s) (TI:=TI) (k:=k) ?one tz zs vs 0 h1 old ?ps nd (λr hr=>?_) z1' (b1.extBut _ _ tz ht) hk _ λh2 i2 t2 z2 s2 k2=>?_
 case one =>
  intro r j v its h3 kept ir xr hv z3 t3 hl3 r1 r2 G g;refine AH (wpAny_onRaise (AH (m:=Builtin.SmallTypes.nextOf (.ref r.t)) (ABV (s:={s with heap:=h3}) hh ir xr hv λh4 i4 b4=>AR ?_)));have t4:Ec h4 TO kept:=b4.extBut _ _ (Ne.symm r1) t3;have z4:IsZip h4 z TI TO .ellipsis:=b4.extBut _ _ (Ne.symm r2) z3;refine AH (AKB t4 rfl (AH (wpAny_updateSeq t4 rfl (AH (wpAny_letGo (AR ?_))) (by rw[sizeLine_eq,By];omega) (by rw[sizeLine_eq,Array.size_setIfInBounds,By];omega))));have b5:Heap.SameBut TO h4 (h4.update TO (Obj.mapSeq (·.setIfInBounds j v))):=.update ..;refine g _ (i4.ext λo e=>b5.extBut _ _ r1 e) ?_ (b5.extBut _ _ (Ne.symm tz) z4) (b5.1.trans b4.1) λc o c1 c2 e=>b5.extBut _ _ c1 (b4.extBut _ _ c2 e);show Heap.get? _ TO=_;rw[Heap.get?_update_self _ t4 rfl];simp[Obj.mapSeq]
 case ps =>
  have go:∀{l:List Src} {m:List Value},(∀x∈l,x∈zs)->Paired (λ(r:Src) v=>DD r.b s.heap r.t r.l k/\∃its,EJ r.b s.heap r.l its/\its[k]?=some v) l m->Paired (λ(r:Src) v=>DD r.b h1 r.t r.l k/\∃its,EJ r.b h1 r.l its/\its[k]?=some v) l m:=by
   intro l m hl p
   induction p with
   |nil=>exact .nil
   |@cons x u l m hx _ ih =>
    obtain⟨i1,its1,x1,e1⟩:=hx;obtain⟨c1,c2,c3,c4,c5⟩:=ap x (hl x BN);exact .cons ⟨i1.ext λo e=>b1.extBut _ _ c2 e,its1,x1.ext λo e=>b1.extBut _ _ c4 e,e1⟩ (ih λy hy=>hl y (BK _ hy))
  exact go (λ_ h=>h) each
 .obtain⟨c1,c2,c3,c4,c5⟩:=ap r hr;exact⟨c1,c2,c3,c5⟩
 .rw[VL vs old 0 (by rw[ho];omega),List.take_zero,List.nil_append] at t2;refine AH (AKB t2 rfl (AH (wpAny_newTuple ?_)));have sz:h2.objs.size=s.heap.objs.size:=s2.trans b1.1;have hzl:z<h2.objs.size:=Heap.lt_size z2;refine AH (m:=Builtin.SmallTypes.ownedTupleHandOut (.ref z) (.ref h2.objs.size)) (AH (AKN (Heap.get?_push_of_some _ z2) (by simp) λh3 z3 b3=>AKN z3 (by simp) λh4 z4 b4=>?_));have far:∀c o,c≠z->h2.get? c=some o->h4.get? c=some o:=λc o hc e=>b4.extBut _ _ hc (b3.extBut _ _ hc (Heap.get?_push_of_some _ e));refine AR ⟨_,rfl,?_⟩;have z4':IsZip h4 z TI TO (rawInt h2.objs.size):=z4;have new4:Ec h4 h2.objs.size vs:=b4.extBut _ _ (Gi hzl) (b3.extBut _ _ (Gi hzl) (by show Heap.get? _ _=_;exact Heap.get?_push_size _ rfl));rw[sz] at z4' new4;rw[sz];exact q h4 z4' (far _ _ tz t2) (λr hr=>(i2 r hr).ext λo e=>far _ _ (ap r hr).2.1 e) new4 λc o c1 c2 c3 e=>far c o c1 (k2 c o c2 c3 (b1.extBut _ _ c1 e))
theorem ZX{zs:List Src}{r0:Src}{its:Array Value}{Q:PySem.Fin->Shared->Prop}(hh:A.handled=none)(hz:IsZip s.heap z TI TO .none)(hi:Ec s.heap TI ((r0::zs).map λr=>.ref r.t))(a1:r0.t≠z)(a2:r0.l≠z)
  (ir:DD r0.b s.heap r0.t r0.l k) (xr:EJ r0.b s.heap r0.l its) (hv:its[k]?=none)
  (q:∀h' e,(∀c o,c≠z->c≠r0.t->s.heap.get? c=some o->h'.get? c=some o)->(∃o,h'.get? e=some o/\o.cls=.type "StopIteration")->E (.ref e) {s with heap:=h'}) :
  wpAny (model prog w) A (Builtin.«zip.__next__» ⟨[.ref z],[]⟩) Q E s:=by
 refine AH (m:=field (.ref z) 2) (FA (x:=.bool false) hz rfl rfl (AH (m:=field (.ref z) 3) (FA (x:=.ref TI) hz rfl rfl (AH (AKB hi rfl ?_)))));have hem:((r0::zs).map λr=>Value.ref r.t).toArray.isEmpty=false:=rfl;simp only[hem,AJF,if_false];refine AH (m:=Builtin.SmallTypes.ownedTupleIsFree (.ref z)) (AH (FA (x:=.none) hz rfl rfl (AR ?_)));rw[if_pos rfl];refine AH (AKA (AH (FA (x:=.ref TO) hz rfl rfl (AH (AKN hz (by simp) λh1 z1 b1=>AH ?_)))));rw[Ap,List.zipIdx_cons,AJH];have z1':IsZip h1 z TI TO .ellipsis:=z1;refine AH (AH (wpAny_onRaise (AH (m:=Builtin.SmallTypes.nextOf (.ref r0.t)) (ABY (s:={s with heap:=h1}) hh (ir.ext λo e=>b1.extBut _ _ a1 e) (xr.ext λo e=>b1.extBut _ _ a2 e) hv λh2 e k2 z3_=>?_))));obtain⟨oe,ge,ce⟩:=z3_;have z2:IsZip h2 z TI TO .ellipsis:=k2 _ _ (Ne.symm a1) z1';have ez:e≠z:=λx=>by subst x;rw[z2] at ge;cases ge;exact absurd (show Value.type "zip"=Value.type "StopIteration" from ce) (by decide)
 exact AKN z2 (by simp) λh3 _ b3=>q h3 e (λc o c1 c2 x=>b3.extBut _ _ c1 (k2 _ _ c2 (b1.extBut _ _ c1 x))) ⟨oe,b3.extBut _ _ ez ge,ce⟩
end
def CJ:Nat->List (Bool×Addr)->List Src
 |_,[]=>[]
 |n,p::r=>⟨p.1,n,p.2⟩::CJ (n+1) r
theorem NE:∀(ls:List (Bool×Addr)) (n:Nat),(CJ n ls).length=ls.length
 |[],_=>rfl
 |_::r,n=>by simp[CJ,NE r]
theorem NF:∀(ls:List (Bool×Addr)) (n:Nat),(CJ n ls).map (λr=>(r.b,r.l))=ls
 |[],_=>rfl
 |_::r,n=>by simp[CJ,NF r]
theorem LI:∀(ls:List (Bool×Addr)) (n:Nat) (r:Src),r∈CJ n ls->n<=r.t/\r.t<n+ls.length
 |[],_,_,h=>nomatch h
 |p::q,n,r,h=>by
  rcases Ac.mp h with e|h
  .subst e;simp
  .obtain⟨a,b⟩:=LI q (n+1) r h;exact⟨Nat.le_of_succ_le a,Nat.lt_of_lt_of_eq b (by rw[EO,AJA,Nat.add_comm 1])⟩
theorem Up:∀(ls:List (Bool×Addr)) (n:Nat),((CJ n ls).map (·.t)).Nodup
 |[],_=>AIr
 |p::q,n=>by
  rw[CJ,Ap,AIk];refine⟨λh=>?_,Up q (n+1)⟩;obtain⟨r,hr,e⟩:=BV.mp h;have:=(LI q (n+1) r hr).1;rw[show r.t=n from e] at this;exact Nat.not_succ_le_self n this
section
variable {prog:Program}{w:World}{A:Around}{E:AKP}{s:Shared}
theorem We:∀(ls:List (Bool×Addr)) (acc:Array Value) (s:Shared),(∀p∈ls,∃its,EJ p.1 s.heap p.2 its)->∀G:Array Value->Shared->Prop,
  (∀h',(∀r∈CJ s.heap.objs.size ls,DD r.b h' r.t r.l 0)->h'.objs.size=s.heap.objs.size+ls.length->(∀c o,s.heap.get? c=some o->h'.get? c=some o)->G (acc++((CJ s.heap.objs.size ls).map λr=>Value.ref r.t).toArray) {s with heap:=h'}) ->
  wpAny (model prog w) A (forIn (ls.map λp=>Value.ref p.2) acc λx its=>do let __do_lift <-holding its.toList (pyIter x);pure (ForInStep.yield (its.push __do_lift))) G E s
 |[],acc,s,_,G,q=>AR (by simpa[CJ] using q s.heap (λ_ h=>nomatch h) rfl λ_ _ e=>e)
 |p::ls,acc,s,hs,G,q=>by
  obtain⟨its,x⟩:=hs p BN;rw[Ap,AJH];refine AH (AH (Do (ABW x λo i=>AR ?_)));refine We ls (acc.push (.ref s.heap.objs.size)) {s with heap:=s.heap.push o} (λp' hp=>?_) G λh' e z k=>?_
  .obtain⟨its',x'⟩:=hs p' (BK _ hp);exact⟨its',x'.ext λo' e=>Heap.get?_push_of_some _ e⟩
  .have sz:(s.heap.push o).objs.size=s.heap.objs.size+1:=Heap.size_push ..;have e1:CJ s.heap.objs.size (p::ls)=⟨p.1,s.heap.objs.size,p.2⟩::CJ (s.heap.push o).objs.size ls:=by rw[sz];rfl
   have:=q h' (λr hr=>by
    rw[e1] at hr;rcases Ac.mp hr with er|hr
    .subst er;exact i.ext λo' e'=>k _ o' e'
    .exact e r hr) (by rw[z,EO];show(s.heap.push o).objs.size+_=_;rw[sz];omega) λc o' e'=>k c o' (Heap.get?_push_of_some _ e')
   rw[e1] at this;simpa using this
theorem ZZ(xs:List Value):Builtin.SmallTypes.newClass "zip" ⟨.type "zip"::xs,[]⟩=pure (.type "zip",xs):=by unfold Builtin.SmallTypes.newClass;simp only[sub_zip];rfl
theorem ADn(ls:List (Bool×Addr))(hn:ls.length<=1000):MeetsIn prog w (Builtin.«zip.__new__» ⟨.type "zip"::ls.map (λp=>.ref p.2),[]⟩) (λ_ R s=>(∀p∈ls,∃its,EJ p.1 s.heap p.2 its) /\
  ∀h',(∀r∈CJ s.heap.objs.size ls,DD r.b h' r.t r.l 0)->Ec h' (s.heap.objs.size+ls.length) ((CJ s.heap.objs.size ls).map λr=>.ref r.t)->Ec h' (s.heap.objs.size+ls.length+1) ((CJ s.heap.objs.size ls).map λ_=>.none) ->
   IsZip h' (s.heap.objs.size+ls.length+2) (s.heap.objs.size+ls.length) (s.heap.objs.size+ls.length+1) .none->(∀c o,s.heap.get? c=some o->h'.get? c=some o)->R (.ok (.ret (.ref (s.heap.objs.size+ls.length+2)))) {s with heap:=h'}) :=
 .of_wp λA R s z3_=>by
  obtain⟨hs,q⟩:=z3_;unfold Builtin.«zip.__new__»;rw[ZZ];refine AH (AR ?_);refine AH (m:=Builtin.SmallTypes.iterAll (ls.map λp=>.ref p.2)) ?_;unfold Builtin.SmallTypes.iterAll;refine AH (We ls #[] s hs _ λh1 e1 z1 k1=>AR ?_);have e0:((#[]:Array Value)++((CJ s.heap.objs.size ls).map λr=>Value.ref r.t).toArray).toList=(CJ s.heap.objs.size ls).map λr=>Value.ref r.t:=by simp
  rw[e0];have len:(CJ s.heap.objs.size ls).length<=1000:=by rw[NE];exact hn
  have z2:∀o,(h1.push o).objs.size=s.heap.objs.size+ls.length+1:=λo=>by rw[Heap.size_push,z1]
  have z3:∀o o',((h1.push o).push o').objs.size=s.heap.objs.size+ls.length+2:=λo o'=>by rw[Heap.size_push,z2]
  refine AH (wpAny_newTuple (s:={s with heap:=h1}) ?_ (by rw[Ao,sizeLine_eq];omega));refine AH (wpAny_newTuple ?_ (by rw[Ao,Ao,sizeLine_eq];omega));refine AH ?_;show wpAny _ _ (newObj (.type "zip") (.fields #[.none,.bool false,.bool false,.ref _,.ref _])) _ _ _;refine AKH (AR ⟨_,rfl,?_⟩) (by show 5<=sizeLine+2;rw[sizeLine_eq];decide);show R (.ok (.ret (.ref ((h1.push _).push _).objs.size))) _;rw[z3];refine q _ (λr hr=>(e1 r hr).ext λo e=>Heap.get?_push_of_some _ (Heap.get?_push_of_some _ (Heap.get?_push_of_some _ e))) ?_ ?_ ?_ λc o e=>Heap.get?_push_of_some _ (Heap.get?_push_of_some _ (Heap.get?_push_of_some _ (k1 c o e)))
  .show Heap.get? _ _=_;rw[<-z1];exact Heap.get?_push_of_some _ (Heap.get?_push_of_some _ (Heap.get?_push_size _ rfl))
  .show Heap.get? _ _=_;rw[<-z2 {cls:=.type "tuple",data:=.seq ((CJ s.heap.objs.size ls).map λr=>Value.ref r.t).toArray}];refine Heap.get?_push_of_some _ ?_;rw[show((CJ s.heap.objs.size ls).map λ_=>Value.none)=((CJ s.heap.objs.size ls).map λr=>Value.ref r.t).map (λ_=>Value.none) by rw[DF];rfl];exact Heap.get?_push_size _ rfl
  .rw[<-z3 {cls:=.type "tuple",data:=.seq ((CJ s.heap.objs.size ls).map λr=>Value.ref r.t).toArray} {cls:=.type "tuple",data:=.seq (((CJ s.heap.objs.size ls).map λr=>Value.ref r.t).map (λ_=>Value.none)).toArray}];have:=Heap.get?_push_size ((h1.push {cls:=.type "tuple",data:=.seq ((CJ s.heap.objs.size ls).map λr=>Value.ref r.t).toArray}).push {cls:=.type "tuple",data:=.seq (((CJ s.heap.objs.size ls).map λr=>Value.ref r.t).map (λ_=>Value.none)).toArray}) (o:={cls:=.type "zip",data:=.fields #[.none,.bool false,.bool false,.ref h1.objs.size,.ref (h1.push {cls:=.type "tuple",data:=.seq ((CJ s.heap.objs.size ls).map λr=>Value.ref r.t).toArray}).objs.size]}) rfl;refine Eq.trans this ?_;rw[z2,z1]
end
def Fh(K:AM)(b:Bool)(H:Hp)(a:Addr)(xs:List V):Prop:=match b with|true=>Bp K H a xs|false=>BY K H a xs
section
variable {X:Cx}{pins:List (Addr×Obj)}{σ:L2.St}{H:Hp}{s:Shared}
theorem Fh.at(I:AI X pins σ H s){b:Bool}{a:Addr}{xs:List V}(h:Fh X.K b H a xs):∃its:List Value,Ae xs its/\EJ b s.heap a its.toArray:=by
 cases b with
 |true=>obtain⟨its,rv,p,_⟩:=I.tuple h;exact⟨its,rv,p⟩
 |false=>obtain⟨its,rv,p,_⟩:=I.list h;exact⟨its,rv,p.isList⟩
theorem Fh.inj(I:AI X pins σ H s){b:Bool}{a:Addr}{xs ys:List V}(h:Fh X.K b H a xs)(h':Fh X.K b H a ys):xs=ys:=by
 cases b with
 |true=>exact I.tuple_inj h h'
 |false=>exact I.list_inj h h'
end
theorem AAI{X:Cx}{pins:List (Addr×Obj)}{σ:L2.St}{H:Hp}{s:Shared}{h':Heap}{t':Nat}{fp:List Addr}(I:AI X pins σ H s)(hf:∀b∈fp,HP X pins H b)(k:∀b o,b∉fp->s.heap.get? b=some o->h'.get? b=some o):AI X pins σ H {s with heap:=h',toks:=t'}:=by
 have nit:∀b u,H b=some u->b∉fp:=λb u e z=>by rw[(hf b z).1] at e;cases e
 refine I.step (g':=s.gens) (d':=s.drawn) (ch:=fp) (λb hb=>⟨(hf b hb).2.2.2.1,(hf b hb).2.1,(hf b hb).2.2.2.2.1,(hf b hb).2.2.2.2.2⟩) (λb o _ _ hc e _=>k b o hc e) (λb o _ _ hc e _=>⟨o.slots,k b o hc e⟩)
  (λb o _ e n=>n) (λb o hc e=>⟨o,k b o hc e⟩) (λb xs e=>e) (λb o u e=>e)
  (λb ps e=>⟨#[],by rw[e];simp⟩) (λm hm=>?_) (λb u e=>?_) I.bare
 .obtain⟨o,es,ep,ho,r⟩:=hm;exact⟨o,es,ep,k _ o (λz=>(hf _ z).2.1 rfl) ho,r⟩
 .refine(I.hok b u e).stay (λc v hc q=>k c v ?_ q) (λc q=>q) λc xs q=>q;rcases hc with z|z
  .rw[z];exact nit b u e
  .exact nit c _ z
def Itz(K:AM)(zs:List Src)(n:Nat):It :=
 ⟨λi H=>(∀r∈zs,∃xs,Fh K r.b H r.l xs/\xs.length=n)/\i<n,
  λi H v H'=>∃T vs,H T=none/\v=.ref T/\H'=upd H T (.tup vs)/\Paired (λ(r:Src) x=>∀xs,Fh K r.b H r.l xs->xs[i]?=some x) zs vs,
  λi H=>(∀r∈zs,∃xs,Fh K r.b H r.l xs/\xs.length=n)/\n<=i⟩
structure Yf (z TI TO:Addr) (zs:List Src):Prop where
 ne:zs≠[]
 few:zs.length<=1000
 nd:(zs.map (·.t)).Nodup
 tz:TO≠z
 iz:TI≠z
 it:TI≠TO
 ts:∀r∈zs,r.t≠z/\r.t≠TI/\r.t≠TO
 ls:∀r∈zs,r.l≠z/\r.l≠TI/\r.l≠TO/\∀q∈zs,r.l≠q.t
theorem AAJ{P:Program}{w:World}{K:AM}{elts:List Expr}{x1:Nat}{tp:Pos}{z TI TO:Addr}{zs:List Src}(n:Nat)(ap:Yf z TI TO zs) :
  Hl P w K (.Tuple elts x1 tp) (Itz K zs n) (z::TI::TO::zs.map (·.t)) z (λi h=>IsZip h z TI TO .none/\Ec h TI (zs.map λr=>.ref r.t)/\(∃old,Ec h TO old/\old.length=zs.length)/\(∀r∈zs,DD r.b h r.t r.l i)/\i<=n) where
 mem:=by simp
 obj:=λi h ⟨hz,hi,⟨old,ho,_⟩,hs,_⟩ b hb=>by
  rcases Ac.mp hb with rfl|hb
  .exact⟨_,hz,λv q=>by cases q⟩
  .rcases Ac.mp hb with rfl|hb
   .exact⟨_,hi,λv q=>by cases q⟩
   .rcases Ac.mp hb with rfl|hb
    .exact⟨_,ho,λv q=>by cases q⟩
    .obtain⟨r,hr,rfl⟩:=BV.mp hb;exact(hs r hr).obj
 keep:=λi h h' z3_ k=>by obtain⟨hz,hi,⟨old,ho,hl⟩,hs,hn⟩:=z3_;exact⟨k z (by simp) _ hz,k TI (by simp) _ hi,⟨old,k TO (by simp) _ ho,hl⟩,λr hr=>(hs r hr).ext λo e=>k r.t (by simp only[Ac];exact .inr (.inr (.inr (Dp hr)))) o e,hn⟩
 item:=by
  rintro X hP hw hK hc i pins s σ H E I hf ⟨hz,hi,⟨old,ho,hl⟩,hs,_⟩ ⟨hq,hlt⟩;subst hP hw hK
  -- the values
  have vals:∀l:List Src,(∀r∈l,r∈zs)->∃us vs,Paired (λ(r:Src) v=>DD r.b s.heap r.t r.l i/\∃its,EJ r.b s.heap r.l its/\its[i]?=some v) l us/\Ae vs us/\Paired (λ(r:Src) x=>∀xs,Fh X.K r.b H r.l xs->xs[i]?=some x) l vs:=by
   intro l
   induction l with
   |nil=>intro _;exact⟨[],[],.nil,.nil,.nil⟩
   |cons r l ih =>
    intro hl;obtain⟨us,vs,p1,p2,p3⟩:=ih λq hq=>hl q (BK _ hq);obtain⟨xs,sv,hn⟩:=hq r (hl r BN);obtain⟨its,rv,so⟩:=sv.at I;obtain⟨x,hx⟩:∃x,xs[i]?=some x:=⟨xs[i]'(by omega),by simp[show i<xs.length by omega]⟩;obtain⟨u,hu,ru⟩:=rv.get hx;exact⟨u::us,x::vs,.cons ⟨hs r (hl r BN),its.toArray,so,by simpa using hu⟩ p1,.cons ru p2,.cons (λys hy=>by rw[hy.inj I sv];exact hx) p3⟩
  obtain⟨us,vs,p1,p2,p3⟩:=vals zs λ_ h=>h;have lu:us.length=zs.length:=(Paired.length p1).symm;have lv:vs.length=zs.length:=(Paired.length p3).symm;have zl:z<s.heap.objs.size:=Heap.lt_size hz;have ty:s.TypeIs (.ref z) "zip":=⟨_,hz,rfl⟩
  have hb:∀b,b∈z::TI::TO::zs.map (·.t)->b<s.heap.objs.size:=λb hb=>by
   rcases Ac.mp hb with rfl|hb
   .exact zl
   .rcases Ac.mp hb with rfl|hb
    .exact Heap.lt_size hi
    .rcases Ac.mp hb with rfl|hb
     .exact Heap.lt_size ho
     .obtain⟨r,hr,rfl⟩:=BV.mp hb;obtain⟨o,e,_⟩:=(hs r hr).obj;exact Heap.lt_size e
  unfold pyNext
  refine AH (wpAny_attempt (AKG (name:=Str.ofString "__next__") ty AJp (Gh AJp ty PySem.F.entry_zip_next (ZY (A:=X.A.in1) (R:=_) (show X.A.in1.handled=none from I.ok.hd hc) hz hi ho (by rw[hl,lu]) (by rw[hl];exact ap.few) ap.ne ap.nd ap.tz ap.iz
   (λr hr=>⟨(ap.ts r hr).2.2,(ap.ts r hr).1,(ap.ls r hr).2.2.1,(ap.ls r hr).1,(ap.ls r hr).2.2.2⟩) p1 λh1 z1 t1 i1 u1 k1=>?_) (PySem.F.args_zip_next_1 _))))
  refine AR ⟨_,rfl,wpAny_letOwnedTupleGo_zip z1 λh2 z2 b2=>?_⟩;have nz:s.heap.objs.size≠z:=Gi zl;have ht2:Ec h2 s.heap.objs.size us:=b2.extBut _ _ nz u1
  have new:CP X.prog X.w (upd H s.heap.objs.size (.tup vs)) h2 s.heap.objs.size (.tup vs) :=
   ⟨by rw[lv,sizeLine_eq];exact Ch ap.few (by decide),us,p2,⟨_,ht2,rfl,_,rfl⟩⟩
  have tn2:IsZip h2 z TI TO .none/\Ec h2 TI (zs.map λr=>.ref r.t)/\(∃old,Ec h2 TO old/\old.length=zs.length)/\(∀r∈zs,DD r.b h2 r.t r.l (i+1))/\i+1<=n:=by refine⟨z2,b2.extBut _ _ ap.iz (k1 _ _ ap.iz ap.it (λhm=>?_) hi),⟨us,b2.extBut _ _ ap.tz t1,lu⟩,λr hr=>(i1 r hr).ext λo e=>b2.extBut _ _ (ap.ts r hr).1 e,hlt⟩;obtain⟨r,hr,e⟩:=BV.mp hm;exact(ap.ts r hr).2.1 e
  have I1:=Mw (t':=s.toks) (h':=h2) I hf (λb o hb q=>by
    simp only[Ac,not_or] at hb
    exact b2.extBut _ _ hb.1 (k1 b o hb.1 hb.2.2.1 hb.2.2.2 q)) (Ai _) (λq=>absurd (hb _ q) (HR _)) (λb hb=>by
    rcases Ac.mp hb with rfl|hb
    .exact⟨_,tn2.1⟩
    .rcases Ac.mp hb with rfl|hb
     .exact⟨_,tn2.2.1⟩
     .rcases Ac.mp hb with rfl|hb
      .obtain⟨old,q,_⟩:=tn2.2.2.1;exact⟨_,q⟩
      .obtain⟨r,hr,rfl⟩:=BV.mp hb;obtain⟨o,e,_⟩:=(tn2.2.2.2.1 r hr).obj
       exact⟨o,e⟩) new
  exact⟨.ref s.heap.objs.size,_,I1,rfl,⟨s.heap.objs.size,vs,I.hok.fresh (Ai _),rfl,rfl,p3⟩,tn2,λb h'=>by rw[BM (Bi (hb b h'))];exact(hf b h').1⟩
 done:=by
  rintro X hP hw hK hc i pins s σ H E I hf ⟨hz,hi,⟨old,ho,hl⟩,hs,_⟩ ⟨hq,hlt⟩;subst hP hw hK;have ty:s.TypeIs (.ref z) "zip":=⟨_,hz,rfl⟩
  cases zs with
  |nil=>exact absurd rfl ap.ne
  |cons r0 zs =>
   obtain⟨xs,sv,hn⟩:=hq r0 BN;obtain⟨its,rv,so⟩:=sv.at I;have m1:r0.t∈z::TI::TO::(r0::zs).map (·.t):=by simp
   unfold pyNext
   refine AH (wpAny_attempt (AKG (name:=Str.ofString "__next__") ty AJp (Gh AJp ty PySem.F.entry_zip_next (ZX (A:=X.A.in1) (show X.A.in1.handled=none from I.ok.hd hc) hz hi (ap.ts r0 BN).1 (ap.ls r0 BN).1 (hs r0 BN) so
    (by rw[List.getElem?_toArray,AJ3,<-rv.length];omega) λh' e k ⟨o,g,c⟩=>?_) (PySem.F.args_zip_next_1 _))))
   refine AH (wpAny_isInstance (T:="StopIteration") (b:=true) ⟨o,g,c⟩ isSubtype_stop (AR ⟨rfl,?_⟩))
   have I1:=AAI (t':=s.toks) (h':=h') (fp:=[z,r0.t]) I (λb hb=>hf b (by
    rcases Ac.mp hb with rfl|hb
    .simp
    .rw[AIf.mp hb];exact m1)) λb o hb q=>k b o (λe=>hb (by simp[e])) (λe=>hb (by simp[e])) q
   exact I1
 self:=λA i s Q E z5_ h=>by obtain⟨hz,_⟩:=z5_;exact wpAny_pyIter_zip hz h
def seqs:List D->AD->Option (List (List D))
 |[],_=>some []
 |d::r,L=>(DH d L).bind λys=>(seqs r L).map (ys::·)
def Fs(n:Nat)(yss:List (List D)):List D:=(List.range n).map λi=>.tup (yss.map λys=>ys[i]?.getD .non)
def Jb(n:Nat)(fa:AF):IF:=λρ L=>(fa ρ L).bind λx=>match seqs x.1 x.2 with
 |some (ys::yss)=>if (yss.all λzs=>zs.length == ys.length)=true/\yss.length<100/\yss.length+1=n then some (⟨Fs ys.length (ys::yss),λL'=>decide (seqs x.1 L'=some (ys::yss))⟩,x.2) else none
 |_=>none
def kindD:D->Bool
 |.tup _=>true
 |_=>false
theorem VA{K:AM}{H:Hp}{O:List Addr}{L:AD}{v:V}{d:D}{xs:List D}(rs:Am K H O L)(h:Is K H O v d)(e:DH d L=some xs):∃a vs,v=.ref a/\Fh K (kindD d) H a vs/\AV K H O vs xs:=by
 cases h with
 |tup hq il=>cases e;exact⟨_,_,rfl,hq,il⟩
 |fz hq il=>cases e;exact⟨_,_,rfl,hq.sql,il⟩
 |ref hk =>
  simp only[DH] at e;split at e
  .rename_i ys e2;cases e;obtain⟨vs,hv,iv⟩:=rs.ob _ _ _ hk e2;exact⟨_,vs,rfl,BY.of hv,iv⟩
  .cases e
 |_=>cases e
inductive Fg (K:AM) (H:Hp) (O:List Addr):List D->List (List D)->List (Bool×Addr)->Prop
 |nil:Fg K H O [] [] []
 |cons {d:D} {ys:List D} {a:Addr} {vs:List V} {ds yss ls}:Is K H O (.ref a) d->Fh K (kindD d) H a vs->AV K H O vs ys->Fg K H O ds yss ls->Fg K H O (d::ds) (ys::yss) ((kindD d,a)::ls)
theorem Uo{K:AM}{H:Hp}{O:List Addr}{L:AD}(rs:Am K H O L):∀{ds:List D} {yss:List (List D)} {vs:List V},AV K H O vs ds->seqs ds L=some yss->∃ls,Fg K H O ds yss ls/\vs=ls.map λp=>.ref p.2
 |[],_,_,.nil,e=>by cases e;exact⟨[],.nil,rfl⟩
 |d::ds,_,_,.cons i r,e=>by
  unfold seqs at e;obtain⟨ys,e1,e2⟩:=GI.mp e;obtain⟨yss,e3,rfl⟩:=AI5.mp e2;obtain⟨ls,h1,rfl⟩:=Uo rs r e3;obtain⟨a,vs,rfl,h2,h3⟩:=VA rs i e1;exact⟨(kindD d,a)::ls,.cons i h2 h3 h1,rfl⟩
theorem Fg.again{K:AM}{H H':Hp}{O O':List Addr}{L':AD}(st:Ah H O H' O')(rs:Am K H' O' L'){ds:List D}{yss yss':List (List D)}{ls:List (Bool×Addr)}(h:Fg K H O ds yss ls)(e:seqs ds L'=some yss'):Fg K H' O' ds yss' ls:=by
 induction h generalizing yss' with
 |nil=>cases e;exact .nil
 |@cons d ys a vs ds yss ls i _ _ _ ih =>
  unfold seqs at e;obtain⟨zs,e1,e2⟩:=GI.mp e;obtain⟨zss,e3,rfl⟩:=AI5.mp e2;obtain⟨a',vs',ea,h2,h3⟩:=VA rs (i.mono st) e1;cases ea;exact .cons (i.mono st) h2 h3 (ih e3)
theorem Fg.len{K:AM}{H:Hp}{O:List Addr}{ds:List D}{yss:List (List D)}{ls:List (Bool×Addr)}(h:Fg K H O ds yss ls):ls.length=yss.length/\ds.length=yss.length:=by
 induction h with
 |nil=>exact⟨rfl,rfl⟩
 |cons _ _ _ _ ih=>simp[ih.1,ih.2]
theorem Fg.seq{K:AM}{H:Hp}{O:List Addr}{ds:List D}{yss:List (List D)}{ls:List (Bool×Addr)}(h:Fg K H O ds yss ls):∀p∈ls,∃vs ys,ys∈yss/\Fh K p.1 H p.2 vs/\AV K H O vs ys:=by
 induction h with
 |nil=>intro p hp;cases hp
 |@cons d ys a vs ds yss ls i s1 s2 _ ih =>
  intro p hp;rcases Ac.mp hp with e|hp
  .subst e;exact⟨vs,ys,BN,s1,s2⟩
  .obtain⟨vs',ys',h1,h2⟩:=ih p hp;exact⟨vs',ys',BK _ h1,h2⟩
theorem Fg.tup{K:AM}{H:Hp}{O:List Addr}{ds:List D}{yss:List (List D)}{ls:List (Bool×Addr)}(h:Fg K H O ds yss ls){i n:Nat}(hn:∀ys∈yss,ys.length=n)(hi:i<n):∀{zs:List Src} {vs:List V},zs.map (λr=>(r.b,r.l))=ls ->
  Paired (λ(r:Src) x=>∀xs,Fh K r.b H r.l xs->xs[i]?=some x) zs vs->AV K H O vs (yss.map λys=>ys[i]?.getD .non):=by
 induction h with
 |nil=>intro zs vs e p;cases zs with|nil=>cases p;exact .nil|cons=>simp at e
 |@cons d ys a us ds yss ls _ s1 s2 _ ih =>
  intro zs vs e p
  cases zs with
  |nil=>simp at e
  |cons r zs =>
   simp only[Ap,List.cons.injEq,Prod.mk.injEq] at e;obtain⟨⟨eb,el⟩,e2⟩:=e
   cases p with
   |@cons _ x _ vs hx p2 =>
    have hy:ys.length=n:=hn ys BN;have hx':=hx us (by rw[eb,el];exact s1);obtain⟨v,hv,iv⟩:=s2.get (i:=i) (d:=ys[i]'(by omega)) (by simp[show i<ys.length by omega]);rw[hx'] at hv;cases hv;rw[Ap,show ys[i]?.getD .non=ys[i]'(by omega) by simp[show i<ys.length by omega]];exact .cons iv (ih (λzs hz=>hn zs (BK _ hz)) e2 p2)
theorem Za(n:Nat)(yss:List (List D))(i:Nat):(Fs n yss)[i]?=if i<n then some (.tup (yss.map λys=>ys[i]?.getD .non)) else none:=by
 unfold Fs;rw[BD]
 by_cases h:i<n
 .rw[if_pos h,AJE h];rfl
 .rw[if_neg h,AIw (by simpa using h)];rfl
structure Sd (n:Nat):Prop where
 ty:∀us:List Value,us.length=n->checkTypeCall "zip" ⟨us,[]⟩=pure ()
 new:∀us:List Value,us.length=n->checkBuiltinCall "zip.__new__" ⟨.type "zip"::us,[]⟩=pure ()
 init:∀(o:Value) (us:List Value),us.length=n->argsOk "object.__init__" ⟨o::us,[]⟩
theorem Tg:Sd 2:=⟨λus h=>by obtain⟨a,b,rfl⟩:=JV h;exact PySem.F.typeCall_zip_2 a b,λus h=>by obtain⟨a,b,rfl⟩:=JV h;exact PySem.F.newCall_zip_2 a b,λo us h=>by obtain⟨a,b,rfl⟩:=JV h;exact PySem.F.args_object_init_3 o a b⟩
theorem Zc:Sd 3:=⟨λus h=>by obtain⟨a,b,c,rfl⟩:=Im h;kernel_rfl,λus h=>by obtain⟨a,b,c,rfl⟩:=Im h;kernel_rfl,λo us h=>by
 obtain⟨a,b,c,rfl⟩:=Im h;unfold argsOk;rw[PySem.signature?_of (id:="object.__init__") (n:=['_','_','t','i','n','i','_','_']) (o:=['t','c','e','j','b','o']) (by kernel_rfl) PySem.F.owner_object]
 kernel_rfl⟩
section
variable {X:Cx}{elts:List Expr}{x1:Nat}{tp p pos:Pos}{e:Expr}{es:List Expr}{fa:AF}
theorem RN{n:Nat}(zn:Sd n)(hm:X.mg "zip"=none)(ha:Ed X (e::es) fa)(hg:Gl X "zip":=by rfl)(hs:Dx e=true:=by rfl)(hplain:es.all Dx=true:=by rfl):Ey X (.Tuple elts x1 tp) (.Call (.Name "zip" p) (e::es) [] pos) (Jb n fa):=by
 rintro pins s σ H R I ⟨O,ρ,L,J,L',r,ee,k⟩;unfold Jb at ee
 cases e1:fa ρ L with
 |none=>rw[e1] at ee;cases ee
 |some q =>
  rw[e1] at ee;obtain⟨ds,L1⟩:=q;simp only[AS] at ee;split at ee
  .rename_i ys yss e2;split at ee
   .rename_i hall;simp only[Option.some.injEq,Prod.mk.injEq] at ee;obtain⟨hJ,hL⟩:=ee;subst hL;refine Call_ (Hy I hg hm (u:=.type "zip") (by decide +kernel) (PyProof.Rows.callWith_type1 (Ad (ha pos pins s σ H (λvs H1=>∃O1 ls,Ah H O H1 O1/\Am X.K H1 O1 L1/\Fg X.K H1 O1 ds (ys::yss) ls/\vs=ls.map λp=>.ref p.2) I ⟨O,ρ,L,_,_,r,e1,λvs H1 O1 st rs is=>?_⟩) λus s1 ⟨vs,H1,I1,r1,O1,ls,st,rs,sr,ev⟩=>?_) (Gq hs) (Hv hplain)))
    .obtain⟨ls,h1,h2⟩:=Uo rs is e2;exact⟨O1,ls,st,rs,h1,h2⟩
    .obtain⟨hall,hfew,hn⟩:=hall
     have eu:us=ls.map λp=>Value.ref p.2:=by
      subst ev
      have go:∀{ls:List (Bool×Addr)} {us:List Value},Ae (ls.map λp=>V.ref p.2) us->us=ls.map λp=>Value.ref p.2:=by
       intro ls
       induction ls with
       |nil=>intro us h;cases h;rfl
       |cons p ls ih=>intro us h;cases h with|cons h1 h2=>cases h1;rw[ih h2];rfl
      exact go r1
     have ll:ls.length=n:=by rw[sr.len.1,EO];exact hn
     have ul:us.length=n:=by rw[eu,Ao,ll]
     have lenY:∀zs∈ys::yss,zs.length=ys.length:=λzs hz=>by
      rcases Ac.mp hz with e|hz
      .rw[e]
      .exact beq_iff_eq.mp (De.mp hall zs hz)
     subst eu;refine callType_newIn PySem.F.called_zip (by decide) (zn.ty _ ul) (zn.new _ ul) (λo=>zn.init o _ ul) PySem.F.entry_zip_new (ADn ls (by omega)) ⟨λp hp=>?_,λh' si ti to iz kk=>?_⟩
     .obtain⟨vs',ys',_,sv,_⟩:=sr.seq p hp;obtain⟨its,_,so⟩:=sv.at I1;exact⟨_,so⟩
     .refine⟨⟨_,iz,rfl⟩,wpAny_pyIter_zip iz ?_⟩;have I2:AI X pins σ H1 {s1 with heap:=h'}:=I1.kept (t':=s1.toks) kk
      have lt:∀p∈ls,p.2<s1.heap.objs.size:=λp hp=>by
       obtain⟨vs',ys',_,sv,_⟩:=sr.seq p hp;obtain⟨its,_,so⟩:=sv.at I1
       have:∃o,s1.heap.get? p.2=some o:=by
        revert so
        cases p.1 with
        |true=>rintro⟨o,g,_⟩;exact⟨o,g⟩
        |false=>rintro⟨o,g,_⟩;exact⟨o,g⟩
       obtain⟨o,g⟩:=this;exact Heap.lt_size g
      have lr:∀r∈CJ s1.heap.objs.size ls,r.l<s1.heap.objs.size:=λr hr=>by
       have:(r.b,r.l)∈ls:=by rw[<-NF ls s1.heap.objs.size];exact Dp (f:=λr:Src=>(r.b,r.l)) hr
       exact lt _ this
      have ap:Yf (s1.heap.objs.size+ls.length+2) (s1.heap.objs.size+ls.length) (s1.heap.objs.size+ls.length+1) (CJ s1.heap.objs.size ls):=by
       refine⟨λh=>?_,by rw[NE];omega,Up _ _,by simp,by simp,by simp,λr hr=>?_,λr hr=>?_⟩
       .have:=congrArg List.length h;rw[NE,sr.len.1] at this;simp at this
       .have h1:=(LI _ _ r hr).2;exact⟨Bi (Cy h1 (AI6 _ 2)),Bi h1,Bi (Cy h1 (AI6 _ 1))⟩
       .have h1:=lr r hr;refine⟨Bi (Cy h1 (by rw[AJA];exact AI6 _ _)),Bi (Cy h1 (AI6 _ _)),Bi (Cy h1 (by rw[AJA];exact AI6 _ _)),λq hq=>Bi (Cy h1 (LI _ _ q hq).1)⟩
      have big:∀b∈(s1.heap.objs.size+ls.length+2)::(s1.heap.objs.size+ls.length)::(s1.heap.objs.size+ls.length+1)::(CJ s1.heap.objs.size ls).map (·.t),s1.heap.objs.size<=b:=λb hb=>by
       rcases Ac.mp hb with rfl|hb
       .rw[AJA];exact AI6 _ _
       .rcases Ac.mp hb with rfl|hb
        .exact AI6 _ _
        .rcases Ac.mp hb with rfl|hb
         .rw[AJA];exact AI6 _ _
         .obtain⟨r,hr,rfl⟩:=BV.mp hb;exact(LI _ _ r hr).1
      refine⟨_,_,_,_,H1,rfl,I2,AAJ ys.length ap,⟨iz,ti,⟨_,to,by rw[Ao]⟩,si,FS _⟩,λb hb=>I1.fpOk (big b hb) (I1.hok.fresh (big b hb)),k _ H1 O1 st rs λi H2 O2 L2 st2 rs2 ok=>?_⟩;rw[<-hJ] at ok ⊢;have sr2:=sr.again st2 rs2 (of_decide_eq_true ok)
      have all2:∀r∈CJ s1.heap.objs.size ls,∃xs,Fh X.K r.b H2 r.l xs/\xs.length=ys.length:=λr hr=>by
       have hm:(r.b,r.l)∈ls:=by rw[<-NF ls s1.heap.objs.size];exact Dp (f:=λr:Src=>(r.b,r.l)) hr
       obtain⟨vs',ys',hy,sv,il⟩:=sr2.seq _ hm;exact⟨vs',sv,by rw[il.length];exact lenY ys' hy⟩
      refine⟨λd hd=>?_,λh=>⟨all2,by simpa[Fs] using h⟩⟩;simp only at hd;rw[Za] at hd;split at hd
      .rename_i hi;cases hd;refine⟨⟨all2,hi⟩,λx H' z2_=>?_⟩;obtain⟨T,vs',hT,ex,eH,p3⟩:=z2_;subst ex eH;have st3:Ah H2 O2 (upd H2 T (.tup vs')) O2:=⟨.new hT,As _⟩;exact⟨st3,rs2.ext λb u q=>by rw[BM (DJ q hT)];exact q,.tup (Bp.of CI) ((sr2.tup lenY hi (NF _ _) p3).mono st3)⟩
      .cases hd
   .cases ee
  .cases ee
end
section
variable {X:Cx}
def Nw:GM:=λx xs L=>match x,xs with
 |.str a,[.str b]=>some (.bl (Txt.startswith a b),L)
 |_,_=>none
theorem ADr:MtD X "str.startswith" Nw:=λpins s σ H x xs v us Q I rx rv z12_=>by
 obtain⟨O,L,dx,dxs,d,L',rp,ix,ixs,e,k⟩:=z12_;unfold Nw at e;split at e
 .rename_i a b;cases e;cases ix
  cases ixs with|cons i1 i2 =>
   cases i2;cases i1;obtain⟨t,rfl⟩:=(show ∃t,v=Value.str a t from rx);obtain⟨u,rfl,ry⟩:=FB rv;obtain⟨t',rfl⟩:=(show ∃t',u=Value.str b t' from ry);exact SC.startswith ⟨.bl (Txt.startswith a b),H,I,rfl,k _ _ _ (.refl _ _) rp (.bl _)⟩
 .cases e
theorem AGF:bootBuiltins "sorted"=some (.builtin "sorted"):=PyProof.Rows.boot_sorted
end
open PySem.W (KasT kas_sort kas_ask kas_rev kas_asc kas_desc kas_tail3 kas_descPart kas_count kas_place kas_bin)
def kEval{α:Type}(c:Nat->Nat->Bool):KasT α->α
 |.ret a=>a
 |.ask i j k=>kEval c (k (c i j))
def Cr{α:Type}(n:Nat)(R:α->Prop):KasT α->Prop
 |.ret a=>R a
 |.ask i j k=>i<n/\j<n/\∀b,Cr n R (k b)
theorem Cr.eval{α:Type}{n:Nat}{R:α->Prop}(c:Nat->Nat->Bool):∀{t:KasT α},Cr n R t->R (kEval c t)
 |.ret _,h=>h
 |.ask i j k,h=>Cr.eval c (t:=k (c i j)) (h.2.2 (c i j))
theorem Cr.bind{α β:Type}{n:Nat}{R:α->Prop}{S:β->Prop}{f:α->KasT β}:∀{t:KasT α},Cr n R t->(∀a,R a->Cr n S (f a))->Cr n S (t.bind f)
 |.ret a,h,g=>g a h
 |.ask i j k,h,g=>⟨h.1,h.2.1,λb=>Cr.bind (t:=k b) (h.2.2 b) g⟩
theorem Cr.wp{α:Type}{n:Nat}{R:α->Prop}{cmp:Nat->Nat->(Bool->Shared->Prop)->Shared->Prop}{c:Nat->Nat->Bool}{Q:α->Shared->Prop}{s:Shared}
  (hc:∀i j C,i<n->j<n->C (c i j) s->cmp i j C s):∀{t:KasT α},Cr n R t->Q (kEval c t) s->t.kasWp cmp Q s
 |.ret _,_,q=>q
 |.ask i j k,h,q=>hc i j _ h.1 h.2.1 (Cr.wp hc (t:=k (c i j)) (h.2.2 (c i j)) q)
def Pm(n:Nat)(p:Array Nat):Prop:=p.toList.Perm (List.range n)
section
variable {n:Nat}{p:Array Nat}
theorem Pm.lt(h:Pm n p)(h0:0<n)(k:Nat):p.getD k 0<n:=by
 by_cases hk:k<p.size
 .have e:p.getD k 0=p[k]:=by simp[Array.getD,hk]
  rw[e];exact Dd.mp (h.mem_iff.mp (by simp))
 .simp[Array.getD,hk];exact h0
theorem Pm.rev(h:Pm n p)(i j:Nat):Pm n (kas_rev p i j):=(Array.perm_iff_toList_perm.mp (mirror_perm p i j ((j-i) / 2))).trans h
theorem Pm.bub(h:Pm n p)(i j:Nat):Pm n (bubble p i j):=(Array.perm_iff_toList_perm.mp (bubble_perm p i j)).trans h
theorem SU(h:Pm n p)(h0:0<n):∀f m,Cr n (λ_=>True) (kas_asc p f m)
 |0,_=>trivial
 |f+1,m=>⟨h.lt h0 _,h.lt h0 _,λb=>by
  cases b
  .exact SU h h0 f (m+1)
  .trivial⟩
theorem OG(h0:0<n):∀f (p:Array Nat) m q,Pm n p->Cr n (λr=>Pm n r.1) (kas_desc f p m q)
 |0,_,_,_,h=>h
 |f+1,p,m,q,h=>⟨h.lt h0 _,h.lt h0 _,λb=>by
  cases b
  .refine⟨h.lt h0 _,h.lt h0 _,λd=>?_⟩;cases d
   .exact OG h0 f p (m+1) (q+1) h
   .exact h
  .show Cr n _ (if q>0 then _ else _)
   by_cases hq:q>0
   .rw[if_pos hq];exact OG h0 f _ (m+1) 0 (h.rev _ _)
   .rw[if_neg hq];exact OG h0 f p (m+1) 0 h⟩
theorem UP(h:Pm n p)(h0:0<n)(a b:Nat):Cr n (λr=>Pm n r.2) (kas_tail3 a b p) :=
 Cr.bind (SU (h.rev 0 a) h0 _ _) λ_ _=>h.rev 0 a
theorem Vc(h:Pm n p)(h0:0<n)(a b:Nat):Cr n (λr=>Pm n r.2) (kas_descPart a b p) :=
 Cr.bind (OG h0 _ p _ _ h) λr hr=>by
  by_cases hq:r.2.2>0
  .rw[if_pos hq];exact UP (hr.rev _ _) h0 _ _
  .rw[if_neg hq];exact UP hr h0 _ _
theorem AFu(h:Pm n p)(h0:0<n)(b:Nat):Cr n (λr=>Pm n r.2) (kas_count b p) :=
 Cr.bind (SU h h0 _ _) λr _=>by
  by_cases hq:(r == b)=true
  .rw[if_pos hq];exact h
  .rw[if_neg hq]
   by_cases h1:r>1
   .rw[if_pos h1];refine⟨h.lt h0 _,h.lt h0 _,λc=>?_⟩;cases c
    .exact Vc (h.rev _ _) h0 _ _
    .exact h
   .rw[if_neg h1];exact Vc h h0 _ _
theorem RK(h:Pm n p)(h0:0<n)(k:Nat):∀f l r,Cr n (λ_=>True) (kas_place p k f l r)
 |0,_,_=>trivial
 |f+1,l,r=>by
  unfold kas_place
  by_cases hq:l ≥ r
  .rw[if_pos hq];trivial
  .rw[if_neg hq];refine⟨h.lt h0 _,h.lt h0 _,λc=>?_⟩;cases c
   .exact RK h h0 k f _ _
   .exact RK h h0 k f _ _
theorem YO(h0:0<n):∀f (p:Array Nat) k,Pm n p->Cr n (Pm n) (kas_bin f p k)
 |0,_,_,h=>h
 |f+1,p,k,h=>Cr.bind (RK h h0 k _ _ _) λl _=>YO h0 f _ (k+1) (h.bub _ _)
theorem Ut(h0:0<n):Cr n (Pm n) (kas_sort n) :=
 Cr.bind (AFu (p:=(List.range n).toArray) (List.Perm.refl _) h0 n) λr hr=>by
  by_cases hq:r.1<n
  .rw[if_pos hq];exact YO h0 _ _ _ hr
  .rw[if_neg hq];exact hr
end
def NC(a b:Str):Bool:=decide (a.cps.toList<b.cps.toList)
def ltP:D->D->Bool
 |.tup [.str a,.str b],.tup [.str c,.str d]=>if a=c then (if b=d then false else NC b d) else NC a c
 |_,_=>false
def isPr:D->Bool
 |.tup [.str _,.str _]=>true
 |_=>false
def DI(ds:List D):List Nat:=if ds.length<2 then List.range ds.length else (kEval (λi j=>ltP (ds.getD i .non) (ds.getD j .non)) (kas_sort ds.length)).toList
def sortP(ds:List D):List D:=(DI ds).map λi=>ds.getD i .non
theorem LQ(ds:List D):(DI ds).Perm (List.range ds.length):=by
 unfold DI
 by_cases h:ds.length<2
 .rw[if_pos h]
 .rw[if_neg h];exact(Ut (n:=ds.length) (by omega)).eval _
theorem VF{α:Type}(x:α)(xs:List α):((List.range xs.length).map λi=>xs.getD i x)=xs:=by
 apply AJT;intro i;rw[BD]
 by_cases h:i<xs.length
 .simp[h]
 .simp[h]
def Le:GL:=λxs L=>match xs with
 |[.ref k]=>(match L[k]? with|some (.lst ds)=>if (ds.all isPr&&decide (ds.length<64))=true then some (.ref L.length,L++[.lst (sortP ds)]) else none|_=>none)
 |_=>none
def HI(h:Heap)(v:Value)(d:D):Prop:=∃(x:Addr) (a b:Str) (t u:Tok),v=.ref x/\IsTup h x #[.str a t,.str b u]/\d=.tup [.str a,.str b]
section
variable {prog:Program}{w:World}{A:Around}{E:AKP}{s:Shared}
theorem ACM{v v':Value}{d d':D}{Q:Bool->Shared->Prop}(h1:HI s.heap v d)(h2:HI s.heap v' d')(q:Q (ltP d d') s):wpAny (model prog w) A (keyLt' (tuples' true) v v') Q E s:=by
 obtain⟨x,a,b,t,u,rfl,⟨o,e,_,n,k⟩,rfl⟩:=h1;obtain⟨y,c,d,t',u',rfl,⟨o',e',_,n',k'⟩,rfl⟩:=h2;refine PySem.W.kat_lt e k e' k' ?_;show PySem.W.KatLex prog w A true _ Q [(Value.str a t,Value.str c t'),(Value.str b u,Value.str d u')] 0 s
 have q':Q (if a=c then (if b=d then false else NC b d) else NC a c) s:=q
 refine PySem.W.kat_cons (wpAny_eqBool_str ?_)
 by_cases hac:a=c
 .rw[decide_eq_true hac];rw[if_pos hac] at q';refine PySem.W.kat_yes (PySem.W.kat_cons (wpAny_eqBool_str ?_))
  by_cases hbd:b=d
  .rw[decide_eq_true hbd];rw[if_pos hbd] at q';exact PySem.W.kat_yes (PySem.W.kat_nil q')
  .rw[decide_eq_false hbd];rw[if_neg hbd] at q';exact PySem.W.kat_no (PySem.W.kat_one _ _ (lt_str q'))
 .rw[decide_eq_false hac];rw[if_neg hac] at q';exact PySem.W.kat_no (oneLt_str q')
theorem VQ{h:Heap}:∀{vs:List Value} {ds:List D},Paired (HI h) vs ds->∃fs,PySem.W.KatTups h vs fs/\fs.length=vs.length/\∀f∈fs,∃a t,f=Value.str a t
 |_,_,.nil=>⟨[],trivial,rfl,λ_ z=>nomatch z⟩
 |_,_,.cons r t=>by
  obtain⟨x,a,b,tk,u,rfl,⟨o,e,c,n,k⟩,rfl⟩:=r;obtain⟨fs,h1,h2,h3⟩:=VQ t;refine⟨Value.str a tk::fs,PySem.W.KatTups.cons e c k rfl h1,by simp[h2],λf hf=>?_⟩;rcases Ac.mp hf with rfl|hf
  .exact⟨_,_,rfl⟩
  .exact h3 f hf
theorem ACN{vs:List Value}{ds:List D}{Q:SortKind->Shared->Prop}(r:Paired (HI s.heap) vs ds)(h0:0<vs.length)(q:Q (tuples' true) s):wpAny (model prog w) A (keyKind' vs.toArray) Q E s:=by obtain⟨fs,h1,h2,h3⟩:=VQ r;refine PySem.W.kat_kind (T:=Value.type "str") h1 (by omega) (λv hv=>?_) rfl q;obtain⟨a,t,rfl⟩:=h3 v hv;exact .now
theorem RT{α β:Type}{R:α->β->Prop}{xs:List α}{ys:List β}(r:Paired R xs ys)(a:α)(b:β):∀i,i<xs.length->R (xs.getD i a) (ys.getD i b):=by
 induction r with
 |nil=>intro i h;cases h
 |cons h t ih =>
  intro i hi
  cases i with
  |zero=>exact h
  |succ i=>exact ih i (by simpa using hi)
theorem RR{α β:Type}{R:α->β->Prop}{xs:List α}{ys:List β}(r:Paired R xs ys)(a:α)(b:β):∀{p:List Nat},(∀i∈p,i<xs.length)->Paired R (p.map λi=>xs.getD i a) (p.map λi=>ys.getD i b)
 |[],_=>.nil
 |i::p,h=>.cons (RT r a b i (h i BN)) (RR r a b λj hj=>h j (BK _ hj))
theorem AA9{a:Addr}{vs:List Value}{ds:List D}{n:Nat}{P:PySem.Fin->Shared->Prop}(ho:s.heap.get? a=some (seqObj "list" vs.toArray n))(r:Paired (HI s.heap) vs ds)(h64:vs.length<64)
  (h:P (.done (.ret .none)) {s with heap:=sortedHeap s.heap a vs ((DI ds).map λi=>vs.getD i Value.none).toArray}):wpAny (model prog w) A (Builtin.«list.sort» ⟨[.ref a],[]⟩) P E s:=by
 have ha:=Heap.lt_size ho;have hlen:vs.length=ds.length:=Paired.length r;obtain⟨e1,ho1⟩:∃e1,(s.heap.update a (Obj.mapSeq λ_=>#[])).get? a=some (seqObj "list" #[] e1):=⟨_,get?_update_seq ho λ_=>#[]⟩;generalize hH:((s.heap.update a (Obj.mapSeq λ_=>#[])).push (seqObj "tuple" vs.toArray 0)).push (seqObj "list" #[] 0)=H3
 have kept:∀b o,b≠a->s.heap.get? b=some o->H3.get? b=some o:=λb o hb e=>by
  have hlt:=Heap.lt_size e;rw[<-hH,Heap.get?_push_ne _ _ _ (by rw[size_push',Heap.size_update];exact Bi (Nat.lt_succ_of_lt hlt)),Heap.get?_push_ne _ _ _ (by rw[Heap.size_update];exact Bi hlt),Heap.get?_update_ne _ _ _ _ hb];exact e
 have at3:H3.get? a=some (seqObj "list" #[] e1):=by rw[<-hH,Heap.get?_push_ne _ _ _ (by rw[size_push',Heap.size_update];exact Bi (Nat.lt_succ_of_lt ha)),Heap.get?_push_ne _ _ _ (by rw[Heap.size_update];exact Bi ha)];exact ho1
 have stays:∀{v d},HI s.heap v d->HI H3 v d:=λ{v d} ⟨x,p,q,t,u,e0,⟨o,e,c,r⟩,z⟩=>⟨x,p,q,t,u,e0,⟨o,kept x o (λhx=>by rw[hx,ho] at e;cases e;have c2:Value.type "list"=Value.type "tuple":=c;exact absurd c2 (by decide)) e,c,r⟩,z⟩
 have r3:Paired (HI H3) vs ds:=by
  clear h ho hlen h64 hH kept at3 ha ho1
  induction r with
  |nil=>exact .nil
  |cons q t ih=>exact .cons (stays q) ih
 have hout:H3.update a (Obj.mapSeq λ_=>((DI ds).map λi=>vs.getD i Value.none).toArray)=sortedHeap s.heap a vs ((DI ds).map λi=>vs.getD i Value.none).toArray:=by rw[<-hH];rfl
 have hol:(DI ds).length=vs.length:=by rw[(LQ ds).length_eq,AJq,hlen]
 rw[list_sort_plain];refine AH (listItems_at ho rfl (AH (listUpdate_at ho rfl ?_ (by rw[By,sizeLine_eq];omega) (FS _))));refine AH (seqEpoch_at ho1 rfl (AH (wpAny_newTuple ?_ (by show vs.length<=_;rw[sizeLine_eq];omega))));refine AH (wpAny_newList (Do ?_) (FS _))
 have hgo:∀(st:SortSt),(arrOf st).map (·.2)=((DI ds).map λi=>vs.getD i Value.none).toArray->failedOf st=none->wpAny (model prog w) A (do
   let touched:=(<-seqEpoch a) != e1
   Builtin.List.listUpdate (.ref a) λ_=>(arrOf st).map (·.2)
   if let some e:=failedOf st then rule "list.sort.comparison-raised";throw e
   if touched then rule "list.sort.modified";raiseError "ValueError" "list modified during sort"
   ret .none) P E {s with heap:=H3}:=λst hst hf=>by
  rw[hst,hf];refine AH (seqEpoch_at at3 rfl (AH (listUpdate_at at3 rfl ?_ (FS _) (by rw[By,Ao,hol,sizeLine_eq];omega))));simp only[bne_self_eq_false,AJF,if_false];rw[hout];exact AR h
 show wpAny (model prog w) A _ P E {s with heap:=((s.heap.update a (Obj.mapSeq λ_=>#[])).push (seqObj "tuple" vs.toArray 0)).push (seqObj "list" #[] 0)};rw[hH]
 by_cases h2:vs.length<2
 .have h2':vs.toArray.size<2:=by simpa using h2
  dsimp only;rw[if_pos h2',if_pos h2'];refine AH (AR ?_);rw[StateT.run_pure];refine AH (AR ?_);refine hgo _ ?_ rfl;have e0:DI ds=List.range vs.length:=by unfold DI;rw[if_pos (by omega),hlen]
  rw[e0,VF];apply Array.toList_inj.mp;show((vs.toArray.zip vs.toArray).map (·.2)).toList=vs;rw[Array.toList_map,Array.toList_zip];exact List.map_snd_zip (Ai _)
 .have h2':¬vs.toArray.size<2:=by simpa using h2
  dsimp only;rw[if_neg h2',if_neg h2'];refine AH (ACN (s:={s with heap:=H3}) r3 (by omega) ?_);have e0:DI ds=(kEval (λi j=>ltP (ds.getD i .non) (ds.getD j .non)) (kas_sort vs.length)).toList:=by unfold DI;rw[if_neg (by omega),hlen]
  refine AH (EM (PySem.W.kat_run (ks:=vs) (vs:=vs) (κ:=tuples' true) (s:={s with heap:=H3}) (E:=E) (Q:=λst' s'=>s'={s with heap:=H3}/\(arrOf st').map (·.2)=((DI ds).map λi=>vs.getD i Value.none).toArray/\failedOf st'=none)
   (G:=λp s'=>s'={s with heap:=H3}/\p=kEval (λi j=>ltP (ds.getD i .non) (ds.getD j .non)) (kas_sort vs.length)) rfl (by omega) h64 (λp st' s' _ a2 a3 a4=>⟨a4.1,?_,a3⟩) ?_) ?_ λ_ _ z=>z)
  .rw[PySem.W.kat_snds rfl a2,e0,a4.2]
  .refine Cr.wp (c:=λi j=>ltP (ds.getD i .non) (ds.getD j .non)) (n:=vs.length) (R:=Pm vs.length) (λi j C hi hj hC=>?_) (Ut (by omega)) ⟨rfl,rfl⟩;exact ACM (s:={s with heap:=H3}) (RT r3 Value.none D.non i hi) (RT r3 Value.none D.non j hj) hC
  .rintro⟨⟨⟩,st'⟩ s' ⟨rfl,a2,a3⟩;exact hgo st' a2 a3
theorem AA8{l:Addr}{vs:List Value}{ds:List D}{Q:AKP}(hl:s.heap.IsList l vs.toArray)(r:Paired (HI s.heap) vs ds)(h64:vs.length<64)
  (h:Q (.ref (s.heap.objs.size+1)) {s with heap:=sortedAll s.heap vs ((DI ds).map λi=>vs.getD i Value.none).toArray}):wpAny (model prog w) A (call (.builtin "sorted") [.ref l]) Q E s:=by
 have hsz:((s.heap.push (seqObj "list" #[] 0)).update s.heap.objs.size (Obj.mapSeq (·++vs.toArray))).objs.size=s.heap.objs.size+1:=by rw[Heap.size_update];exact size_push' _ _
 generalize hH:((s.heap.push (seqObj "list" #[] 0)).update s.heap.objs.size (Obj.mapSeq (·++vs.toArray))).push (seqObj "list" vs.toArray 0)=H2;have at2:H2.get? (s.heap.objs.size+1)=some (seqObj "list" vs.toArray 0):=by rw[<-hH,<-hsz];exact Heap.get?_push_size _ rfl
 have kept:∀b o,s.heap.get? b=some o->H2.get? b=some o:=λb o e=>by
  have hlt:=Heap.lt_size e;rw[<-hH,Heap.get?_push_ne _ _ _ (by rw[hsz];exact Bi (Nat.lt_succ_of_lt hlt)),Heap.get?_update_ne _ _ _ _ (Bi hlt),Heap.get?_push_ne _ _ _ (Bi hlt)];exact e
 have r2:Paired (HI H2) vs ds:=by
  clear h hl h64 hH at2 hsz
  induction r with
  |nil=>exact .nil
  |cons q t ih =>
   obtain⟨x,p,q,tk,u,e0,⟨o,e,c⟩,z⟩:=q;exact .cons ⟨x,p,q,tk,u,e0,⟨o,kept _ _ e,c⟩,z⟩ ih
 refine Calls.call_function_entry kind_sorted plain_sorted entry_sorted (args_sorted1 _) ?_;unfold Builtin.«sorted»;refine AH (m:=checkCount "sorted" 1 1 _) (AR (AH (collect_list hl ?_ (by rw[sizeLine_eq];omega))));refine AH (wpAny_newList ?_ (by rw[sizeLine_eq];omega));show wpAny _ _ _ _ _ {s with heap:=((s.heap.push (seqObj "list" #[] 0)).update s.heap.objs.size (Obj.mapSeq (·++vs.toArray))).push (seqObj "list" vs.toArray 0)};rw[hsz,hH];refine AH (Do (Gh slot_list_sort ⟨_,at2,rfl⟩ entry_list_sort (AA9 (s:={s with heap:=H2}) at2 r2 h64 ⟨_,rfl,AR ⟨_,rfl,?_⟩⟩) (args_list_sort _)));have e3:sortedHeap H2 (s.heap.objs.size+1) vs ((DI ds).map λi=>vs.getD i Value.none).toArray=sortedAll s.heap vs ((DI ds).map λi=>vs.getD i Value.none).toArray:=by rw[<-hH];rfl
 show Q _ {s with heap:=sortedHeap H2 (s.heap.objs.size+1) vs _};rw[e3];exact h
end
section
variable {X:Cx}
theorem Rn{K:AM}{H:Hp}{O:List Addr}:∀{ws:List V} {ds:List D},AV K H O ws ds->Paired (Is K H O) ws ds
 |_,_,.nil=>.nil
 |_,_,.cons h t=>.cons h (Rn t)
theorem AEi{K:AM}{H:Hp}{O:List Addr}{ws:List V}{ds:List D}(h:Paired (Is K H O) ws ds):AV K H O ws ds:=by
 induction h with
 |nil=>exact .nil
 |cons q _ ih=>exact .cons q ih
theorem VR{pins}{s:Shared}{σ}{H:Hp}{O:List Addr}(I:AI X pins σ H s):∀{ws:List V} {ds:List D} {vs:List Value},AV X.K H O ws ds->Ae ws vs->ds.all isPr=true->Paired (HI s.heap) vs ds
 |_,_,_,.nil,.nil,_=>.nil
 |_,_,_,.cons h t,.cons r q,e=>by
  rw[AI1,CA] at e;refine .cons ?_ (VR I t q e.2);have e1:=e.1;unfold isPr at e1;split at e1
  .rename_i a b
   cases h with|tup hs hl =>
    cases r
    cases hl with|cons h1 hl=>cases hl with|cons h2 hl =>
     cases hl;cases h1;cases h2;obtain⟨its,rv,p,_⟩:=I.tuple hs
     cases rv with|cons r1 rv=>cases rv with|cons r2 rv =>
      cases rv;obtain⟨t1,rfl⟩:=(show ∃t,_=Value.str a t from r1);obtain⟨t2,rfl⟩:=(show ∃t,_=Value.str b t from r2);exact⟨_,a,b,t1,t2,rfl,p,rfl⟩
  .cases e1
theorem AF1:Fp X (.builtin "sorted") Le:=λpins s σ H vs us Q I rv z9_=>by
 obtain⟨O,L,xs,d,L',rs,is,e,k⟩:=z9_;unfold Le at e;split at e
 .rename_i n;split at e
  .rename_i ds e1;split at e
   .rename_i hall;rw[CA] at hall;have hlt:=of_decide_eq_true hall.2;cases e
    cases is with|cons i1 i2=>cases i2;cases i1 with|@ref _ a hn =>
     obtain⟨u,rfl,ru⟩:=FB rv;cases ru;obtain⟨ws,hw,il⟩:=rs.ob n _ _ hn e1;obtain⟨its,rvv,p,_⟩:=I.list (BY.of hw);have hl1:ws.length=its.length:=rvv.length;have hl2:ws.length=ds.length:=Paired.length (Rn il);refine AA8 p.isList (VR I il rvv hall.1) (by omega) ?_;have hin:∀i∈DI ds,i<ws.length:=λi hi=>by rw[hl2];exact Dd.mp ((LQ ds).mem_iff.mp hi)
     have hol:(DI ds).length=ds.length:=by rw[(LQ ds).length_eq,AJq]
     obtain⟨c,hc⟩:=sortedAll_at s.heap its ((DI ds).map λi=>its.getD i Value.none).toArray;have hf:H (s.heap.objs.size+1)=none:=I.hok.fresh (AJC _);have st:Ah H O (upd H (s.heap.objs.size+1) (.lst ((DI ds).map λi=>ws.getD i V.non))) (O++[s.heap.objs.size+1]):=⟨.new hf,BB _ _⟩;have hil:AV X.K H O ((DI ds).map λi=>ws.getD i V.non) (sortP ds):=AEi (RR (Rn il) V.non D.non hin)
     exact⟨.ref (s.heap.objs.size+1),upd H (s.heap.objs.size+1) (.lst ((DI ds).map λi=>ws.getD i V.non)),I.laid (o:=.lst ((DI ds).map λi=>ws.getD i V.non)) (t':=s.toks) (λb o q=>sortedAll_old q) (AJC _) ⟨by rw[Ao,hol,sizeLine_eq];omega,(DI ds).map λi=>its.getD i Value.none,c,RR rvv V.non Value.none hin,hc⟩,rfl,
      k _ _ _ st (rs.new hf ⟨_,CI,hil.mono st⟩) (.ref (by rw[<-rs.len];simp))⟩
   .cases e
  .cases e
 .cases e
end
section
variable {X:Cx}
theorem vv{i:Nat}{x:Str}{pos:Pos}(hN:X.N[i]?=some x:=by rfl)(hv:JC X.env.scope x:=by first|exact Or.inl rfl|exact Or.inr (Or.inl rfl)|exact Or.inr (Or.inr rfl))(hd:(x == ("__debug__":Str))=false:=by decide)(hcd:(x == ("__classdict__":Str))=false:=by decide):AZ X (.Name x pos) (AA i):=HA (pv i hN hv hd hcd)
theorem BI{a b:Expr}{fa fb:EF}{pos:Pos}(ha:AZ X a fa)(hb:AZ X b fb)(hs:Sh b:=by intro _ _;rfl):AZ X (.Subscript a b pos) (AG Ak fa fb):=Fe Ia ha hb hs
end
def Bh(K:AM)(x:Str)(f:Addr):Prop:=Bw K mainGlobals x=some (some (.ref f))
def Bc(K:AM)(x qual:Str)(st:Stmt)(f:Addr):Prop:=∃fd,Ho K x qual st f fd
theorem AFL{K:AM}{x qual:Str}{st:Stmt}{f:Addr}{oc:Value}{od an:Option Addr}{osl:Array (Option Value)}{kV doc pm cdv ct:Value}(l:K.lookup f=some ⟨oc,od,.func (AIo x qual (Jj st) (Ff st) (Aa st) .none kV doc pm an cdv ct),osl⟩)(c:AJk K cdv qual=true)(k:GH K (.ref f)=true):Bc K x qual st f:=⟨_,AFH l c k⟩
def Be(P:Program)(w:World)(K:AM)(mg:AKO)(base:Heap)(k:Nat)(N:List Str)(qual:Str)(st:Stmt)(B:SF):Prop :=
 ∀(cdv:Value) (f:Addr) (A:Around) (outer:List Env) (s:Shared) (H:Hp) (E:XK),Bq k (A.deeper (envOfC qual (Aa st) s.heap.objs.size f cdv))->FM (Dt CX0 P w K mg base N qual (Aa st) f cdv A outer s H E).nox (Ff st) B
def BiQ(x qual:Str)(st:Stmt)(ps:List Str):Prop:=∀(kV doc pm:Value) (an:Option Addr) (cdv ct:Value) (us:List Value),us.length=ps.length->bindArgs (AIo x qual (Jj st) (Ff st) (Aa st) .none kV doc pm an cdv ct) ⟨us,[]⟩=pure (ps.zip us)
theorem AFM{P:Program}{w:World}{K:AM}{mg:AKO}{base h:Heap}(X:K.In h)(Gn:h.Ns mainGlobals mg){x qual:Str}{st:Stmt}{f:Addr}{N ps:List Str}{k:Nat}{B:SF}(G:GL)(e:G=Ax B N ps.length)
  (a:Bw K mainGlobals x=some (some (.ref f))) (q:Bc K x qual st f) (S:BP N ps (Aa st)) (d:Be P w K mg base k N qual st B) (b:BiQ x qual st ps):BA P w K mg base (k+1) x G:=by
 obtain⟨fd,F⟩:=q;subst e;exact OA F S (λcdv A outer s H E hr=>d cdv f A outer s H E hr) (F.binds b) (EC X Gn a) F.kp
theorem BA.mn{P:Program}{w:World}{K:AM}{mg:AKO}{base:Heap}{j k:Nat}{x:Str}{G:GL}(F:BA P w K mg base j x G)(h:j<=k:=by decide):BA P w K mg base k x G:=F.mono h
theorem Fz.mn{P:Program}{w:World}{K:AM}{mg:AKO}{base:Heap}{j k:Nat}{x:Str}{G:GL}(F:Fz P w K mg base j x G)(h:j<=k:=by decide):Fz P w K mg base k x G:=F.mono h
def W2{α:Type}(o:Option (α×AD))(Q:α->AD->Prop):Prop:=∃a L,o=some (a,L)/\Q a L
def W1{α:Type}(o:Option α)(Q:α->Prop):Prop:=∃a,o=some a/\Q a
def WI(o:Option (MH×AD))(Q:List D->(AD->Bool)->AD->Prop):Prop:=∃a k L,o=some (⟨a,k⟩,L)/\Q a k L
structure Sq where
 nx:Fm->AD->Prop
 rt:AKQ
 bk:Fm->AD->Prop
 ct:Fm->AD->Prop
def Sq.of(E:Sq):Fi->Prop
 |.next ρ L=>E.nx ρ L
 |.ret d L=>E.rt d L
 |.brk ρ L=>E.bk ρ L
 |.cont ρ L=>E.ct ρ L
def WS(o:Option Fi)(nx:Fm->AD->Prop)(rt:AKQ)(bk ct:Fm->AD->Prop):Prop:=∃x,o=some x/\Sq.of ⟨nx,rt,bk,ct⟩ x
def Br(b:Bool)(p q:Prop):Prop:=if b=true then p else q
def MJ(d:D)(Q:Bool->Prop):Prop:=∃b,d=.bl b/\Q b
def Sm(d:D)(Q:Int->Prop):Prop:=∃b,d=.int b/\Q b
def Sl(n:Nat)(p:Prop):Prop:=n<=16777216/\p
def OQ(T:String)(x:D)(L:AD)(p:Prop):Prop:=KH T x L=true/\p
section
variable {α β:Type}{ρ:Fm}{L:AD}{p q:Prop}{b:Bool}{c:Prop}
theorem AIV(h:p):Br true p q:=h
theorem AIa(h:q):Br false p q:=h
theorem AIW(h:Br b q p):Br (!b) p q:=by cases b <;> exact h
theorem Bm[Decidable c](h1:c->p)(h2:¬c->q):Br (decide c) p q:=by
 by_cases h:c
 .rw[decide_eq_true h];exact h1 h
 .rw[decide_eq_false h];exact h2 h
theorem AIb[Decidable c](h:c)(h1:p):Br (decide c) p q:=Bm (λ_=>h1) (λn=>absurd h n)
theorem AIc[Decidable c](h:¬c)(h1:q):Br (decide c) p q:=Bm (λn=>absurd n h) (λ_=>h1)
theorem SR(e:b=true)(h:p):Br b p q:=by rw[e];exact h
theorem Lz(e:b=false)(h:q):Br b p q:=by rw[e];exact h
theorem Hj(h1:b=true->p)(h2:b=false->q):Br b p q:=by
 cases b
 .exact h2 rfl
 .exact h1 rfl
theorem AHr{Q:Bool->Prop}(h:Q b):MJ (.bl b) Q:=⟨_,rfl,h⟩
theorem AHq{i:Int}{Q:Int->Prop}(h:Q i):Sm (.int i) Q:=⟨_,rfl,h⟩
theorem AHh{z:Str}(h:p):OQ "str" (.str z) L p:=⟨rfl,h⟩
theorem UG{k:Nat}{xs:List D}(e:L[k]?=some (.lst xs))(h:p):OQ "list" (.ref k) L p:=⟨by simp[KH,e],h⟩
theorem W2.mono{o:Option (α×AD)}{Q Q':α->AD->Prop}(h:W2 o Q)(i:∀a L,Q a L->Q' a L):W2 o Q':=let ⟨a,L,e,q⟩:=h;⟨a,L,e,i a L q⟩
theorem W2.mk{o:Option (α×AD)}{Q:α->AD->Prop}{a:α}(e:o=some (a,L))(h:Q a L):W2 o Q:=⟨a,L,e,h⟩
theorem W2.get{o:Option (α×AD)}{a:α}(h:W2 o λa' L'=>a'=a/\L'=L):o=some (a,L):=by obtain⟨a',L',e,rfl,rfl⟩:=h;exact e
theorem W1.mk{o:Option α}{Q:α->Prop}{a:α}(e:o=some a)(h:Q a):W1 o Q:=⟨a,e,h⟩
theorem WS.mono{o:Option Fi}{nx nx':Fm->AD->Prop}{rt rt':AKQ}{bk bk' ct ct':Fm->AD->Prop}(h:WS o nx rt bk ct)(i1:∀a L,nx a L->nx' a L)(i2:∀a L,rt a L->rt' a L)(i3:∀a L,bk a L->bk' a L)(i4:∀a L,ct a L->ct' a L):WS o nx' rt' bk' ct':=by
 obtain⟨x,e,h⟩:=h;refine⟨x,e,?_⟩;cases x
 .exact i1 _ _ h
 .exact i2 _ _ h
 .exact i3 _ _ h
 .exact i4 _ _ h
section
variable {Q:AKQ}{QT:Bool->AD->Prop}{QA:List D->AD->Prop}{QO:Option Int->AD->Prop}{f g h:EF}{t u:TF}{a:AF}
theorem Qn{d:D}(h:Q d L):W2 (AE d ρ L) Q:=⟨d,L,rfl,h⟩
theorem UA{i:Nat}{d:D}(e:ρ[i]?=some (some d))(h:Q d L):W2 (AA i ρ L) Q:=⟨d,L,by unfold AA;rw[e],h⟩
theorem Qo{o:G2}(h:W2 (f ρ L) λx L1=>W2 (g ρ L1) λy L2=>W2 (o x y L2) Q):W2 (AG o f g ρ L) Q:=by obtain⟨x,L1,e1,y,L2,e2,z,L3,e3,q⟩:=h;exact⟨z,L3,by unfold AG;rw[e1,AS,e2,AS];exact e3,q⟩
theorem AHM{o:G1}(h:W2 (f ρ L) λx L1=>W2 (o x L1) Q):W2 (BU o f ρ L) Q:=by obtain⟨x,L1,e1,z,L3,e3,q⟩:=h;exact⟨z,L3,by unfold BU;rw[e1,AS];exact e3,q⟩
theorem AHb(h:W2 (f ρ L) λd L1=>MJ d λb=>QT b L1):W2 (AW f ρ L) QT:=by obtain⟨x,L1,e1,b,rfl,q⟩:=h;exact⟨b,L1,by unfold AW;rw[e1];rfl,q⟩
theorem AHS(h:W2 (t ρ L) λb L1=>QT (!b) L1):W2 (Ds t ρ L) QT:=by obtain⟨x,L1,e1,q⟩:=h;exact⟨_,L1,by unfold Ds;rw[e1];rfl,q⟩
theorem AHe(h:W2 (t ρ L) λb L1=>Br b (W2 (u ρ L1) QT) (QT false L1)):W2 (Jr t u ρ L) QT:=by
 obtain⟨x,L1,e1,q⟩:=h;cases x
 .exact⟨false,L1,by unfold Jr;rw[e1];rfl,q⟩
 .obtain⟨y,L2,e2,q⟩:=q;exact⟨y,L2,by unfold Jr;rw[e1];exact e2,q⟩
theorem AHR(h:W2 (t ρ L) λb L1=>Br b (QT true L1) (W2 (u ρ L1) QT)):W2 (Di t u ρ L) QT:=by
 obtain⟨x,L1,e1,q⟩:=h;cases x
 .obtain⟨y,L2,e2,q⟩:=q;exact⟨y,L2,by unfold Di;rw[e1];exact e2,q⟩
 .exact⟨true,L1,by unfold Di;rw[e1];rfl,q⟩
theorem AHO(h:QT true L):W2 (EE ρ L) QT:=⟨_,_,rfl,h⟩
theorem AHd(h:W2 (f ρ L) λd L1=>MJ d λb=>Br b (W2 (g ρ L1) Q) (Q (.bl false) L1)):W2 (IS f g ρ L) Q:=by
 obtain⟨x,L1,e1,b,rfl,q⟩:=h;cases b
 .exact⟨_,L1,by unfold IS;rw[e1];rfl,q⟩
 .obtain⟨y,L2,e2,q⟩:=q;exact⟨y,L2,by unfold IS;rw[e1];exact e2,q⟩
theorem AHQ(h:W2 (f ρ L) λd L1=>MJ d λb=>Br b (Q (.bl true) L1) (W2 (g ρ L1) Q)):W2 (KS f g ρ L) Q:=by
 obtain⟨x,L1,e1,b,rfl,q⟩:=h;cases b
 .obtain⟨y,L2,e2,q⟩:=q;exact⟨y,L2,by unfold KS;rw[e1];exact e2,q⟩
 .exact⟨_,L1,by unfold KS;rw[e1];rfl,q⟩
theorem AHW(h:W2 (t ρ L) λb L1=>Br b (W2 (f ρ L1) Q) (W2 (g ρ L1) Q)):W2 (IA t f g ρ L) Q:=by
 obtain⟨x,L1,e1,q⟩:=h;cases x
 .obtain⟨y,L2,e2,q⟩:=q;exact⟨y,L2,by unfold IA;rw[e1];exact e2,q⟩
 .obtain⟨y,L2,e2,q⟩:=q;exact⟨y,L2,by unfold IA;rw[e1];exact e2,q⟩
theorem AAC(h:QA [] L):W2 (AJ ρ L) QA:=⟨_,_,rfl,h⟩
theorem AHX(h:W2 (f ρ L) λd L1=>W2 (a ρ L1) λds L2=>QA (d::ds) L2):W2 (AB f a ρ L) QA:=by obtain⟨x,L1,e1,y,L2,e2,q⟩:=h;exact⟨_,L2,by unfold AB;rw[e1,AS,e2];rfl,q⟩
theorem AHN(h:W2 (a ρ L) λds L1=>Sl ds.length (Q (.tup ds) L1)):W2 (DN a ρ L) Q:=by obtain⟨x,L1,e1,hz,q⟩:=h;exact⟨_,L1,by unfold DN;rw[e1,AS];simp only;rw[if_pos hz],q⟩
theorem AAD(h:W2 (a ρ L) λds L1=>Sl ds.length (Q (.ref L1.length) (L1++[.lst ds]))):W2 (Bt a ρ L) Q:=by obtain⟨x,L1,e1,hz,q⟩:=h;exact⟨_,_,by unfold Bt;rw[e1,AS];simp only;rw[if_pos hz],q⟩
theorem AHa{o:GL}(h:W2 (a ρ L) λds L1=>W2 (o ds L1) Q):W2 (AT o a ρ L) Q:=by obtain⟨x,L1,e1,y,L2,e2,q⟩:=h;exact⟨_,L2,by unfold AT;rw[e1,AS];exact e2,q⟩
theorem AHU{T:String}{o:GM}(h:W2 (f ρ L) λx L1=>OQ T x L1 (W2 (a ρ L1) λys L2=>W2 (o x ys L2) Q)):W2 (CZ T o f a ρ L) Q:=by obtain⟨x,L1,e1,ty,y,L2,e2,z,L3,e3,q⟩:=h;exact⟨_,L3,by unfold CZ;rw[e1,AS];simp only;rw[if_pos ty,e2,AS];exact e3,q⟩
theorem AHT(h:QO none L):W2 (GV ρ L) QO:=⟨_,_,rfl,h⟩
theorem AHc(h:W2 (f ρ L) λd L1=>Sm d λi=>QO (some i) L1):W2 (Dl f ρ L) QO:=by obtain⟨x,L1,e1,b,rfl,q⟩:=h;exact⟨_,L1,by unfold Dl;rw[e1];rfl,q⟩
theorem AHP{fl fh:OF}(h:W2 (f ρ L) λx L1=>W2 (fl ρ L1) λlo L2=>W2 (fh ρ L2) λhi L3=>W2 (Kf x lo hi L3) Q):W2 (ES f fl fh ρ L) Q:=by obtain⟨x,L1,e1,y,L2,e2,z,L3,e3,v,L4,e4,q⟩:=h;exact⟨_,L4,by unfold ES;rw[e1,AS,e2,AS,e3,AS];exact e4,q⟩
theorem AHY{fi:IF}{n:Nat}{idx:List Nat}{gf:GF}{c:TF}{elt:EF}(h:WI (fi ρ L) λitems ok L1=>W1 (Db ok gf c elt L1.length items (IJ n idx ρ) (L1++[.lst []])) λL2=>Q (.ref L1.length) L2):W2 (Dc fi n idx gf c elt ρ L) Q:=by obtain⟨x,k,L1,e1,L2,e2,q⟩:=h;exact⟨_,_,by unfold Dc;rw[e1,AS];simp only;rw[e2];rfl,q⟩
end
section
variable {Q:List D->(AD->Bool)->AD->Prop}{f:EF}{a:AF}
theorem AHI(h:W2 (f ρ L) λd L1=>WI ((Ka d L1).bind λJ=>some (J,L1)) Q):WI (CB f ρ L) Q:=by obtain⟨x,L1,e1,y,k,L2,e2,q⟩:=h;exact⟨y,k,L2,by unfold CB;rw[e1,AS];exact e2,q⟩
theorem AHA{xs:List D}(h:Q xs (λ_=>true) L):WI ((Ka (.tup xs) L).bind λJ=>some (J,L)) Q:=⟨_,_,_,rfl,h⟩
theorem AHD{k:Nat}{xs:List D}(e:L[k]?=some (.lst xs))(h:Q xs (λL'=>decide (L'[k]?=some (.lst xs))) L):WI ((Ka (.ref k) L).bind λJ=>some (J,L)) Q:=⟨_,_,_,by simp only[Ka,e];rfl,h⟩
theorem AHC(h:W2 (a ρ L) λds L1=>∃j:Int,ds=[.int j]/\(j<=4611686018427387903/\-4611686018427387904<=j)/\Q (FC 0 j.toNat) (λ_=>true) L1):WI (Hf a ρ L) Q:=by obtain⟨x,L1,e1,j,rfl,hj,q⟩:=h;exact⟨_,_,L1,by unfold Hf;rw[e1,AS];simp only;rw[if_pos hj],q⟩
theorem AHB(h:W2 (a ρ L) λds L1=>∃i j:Int,ds=[.int i,.int j]/\((i<=4611686018427387903/\-4611686018427387904<=i)/\(j<=4611686018427387903/\-4611686018427387904<=j))/\Q (FC i (j-i).toNat) (λ_=>true) L1):WI (Lb a ρ L) Q:=by obtain⟨x,L1,e1,i,j,rfl,hj,q⟩:=h;exact⟨_,_,L1,by unfold Lb;rw[e1,AS];simp only;rw[if_pos hj],q⟩
theorem AHH(h:W2 (a ρ L) λds L1=>∃y:Str,ds=[.str y]/\Q (Fc (sgs y)) (λ_=>true) L1):WI (Ld a ρ L) Q:=by obtain⟨x,L1,e1,y,rfl,q⟩:=h;exact⟨_,_,L1,by unfold Ld;rw[e1,AS],q⟩
end
theorem WS.inx{o:Option Fi}{nx:Fm->AD->Prop}{rt:AKQ}{bk ct:Fm->AD->Prop}{ρ':Fm}{L':AD}(e:o=some (.next ρ' L'))(q:nx ρ' L'):WS o nx rt bk ct:=⟨_,e,q⟩
theorem WS.irt{o:Option Fi}{nx:Fm->AD->Prop}{rt:AKQ}{bk ct:Fm->AD->Prop}{d:D}{L':AD}(e:o=some (.ret d L'))(q:rt d L'):WS o nx rt bk ct:=⟨_,e,q⟩
theorem WS.ibk{o:Option Fi}{nx:Fm->AD->Prop}{rt:AKQ}{bk ct:Fm->AD->Prop}{ρ':Fm}{L':AD}(e:o=some (.brk ρ' L'))(q:bk ρ' L'):WS o nx rt bk ct:=⟨_,e,q⟩
theorem WS.ict{o:Option Fi}{nx:Fm->AD->Prop}{rt:AKQ}{bk ct:Fm->AD->Prop}{ρ':Fm}{L':AD}(e:o=some (.cont ρ' L'))(q:ct ρ' L'):WS o nx rt bk ct:=⟨_,e,q⟩
section
variable {nx:Fm->AD->Prop}{rt:AKQ}{bk ct:Fm->AD->Prop}{f g:SF}{t:TF}{e:EF}
theorem AG0(h:nx ρ L):WS (Az ρ L) nx rt bk ct:=⟨_,rfl,h⟩
theorem AG5(h:bk ρ L):WS (SQ ρ L) nx rt bk ct:=⟨_,rfl,h⟩
theorem LD(h:WS (f ρ L) (λρ' L'=>WS (g ρ' L') nx rt bk ct) rt bk ct):WS (AN f g ρ L) nx rt bk ct:=by
 obtain⟨x,e1,q⟩:=h
 cases x with
 |next ρ' L'=>obtain⟨y,e2,q⟩:=q;exact⟨y,by unfold AN;rw[e1];exact e2,q⟩
 |ret d L'=>exact WS.irt (by unfold AN;rw[e1];rfl) q
 |brk d L'=>exact WS.ibk (by unfold AN;rw[e1];rfl) q
 |cont d L'=>exact WS.ict (by unfold AN;rw[e1];rfl) q
theorem Ms{i:Nat}(h:W2 (e ρ L) λd L'=>nx (ρ.set i (some d)) L'):WS (AY i e ρ L) nx rt bk ct:=by obtain⟨x,L1,e1,q⟩:=h;exact WS.inx (by unfold AY;rw[e1];rfl) q
theorem AGx(h:W2 (e ρ L) rt):WS (Ag e ρ L) nx rt bk ct:=by obtain⟨x,L1,e1,q⟩:=h;exact WS.irt (by unfold Ag;rw[e1];rfl) q
theorem AG3(h:W2 (e ρ L) λ_ L'=>nx ρ L'):WS (EZ e ρ L) nx rt bk ct:=by obtain⟨x,L1,e1,q⟩:=h;exact WS.inx (by unfold EZ;rw[e1];rfl) q
theorem AG1(h:W2 (t ρ L) λb L'=>Br b (WS (f ρ L') nx rt bk ct) (WS (g ρ L') nx rt bk ct)):WS (An t f g ρ L) nx rt bk ct:=by
 obtain⟨x,L1,e1,q⟩:=h;cases x
 .obtain⟨y,e2,q⟩:=q;exact⟨y,by unfold An;rw[e1];exact e2,q⟩
 .obtain⟨y,e2,q⟩:=q;exact⟨y,by unfold An;rw[e1];exact e2,q⟩
theorem AG2{fi:IF}{gf:GF}{body:SF}(h:WI (fi ρ L) λitems ok L1=>WS (Dy ok gf body items ρ L1) nx rt bk ct):WS (CG fi gf body ρ L) nx rt bk ct:=by obtain⟨x,k,L1,e1,y,e2,q⟩:=h;exact⟨y,by unfold CG;rw[e1,AS];exact e2,q⟩
theorem Qk{ok:AD->Bool}{gf:GF}{body:SF}(hk:ok L=true)(h:nx ρ L):WS (Dy ok gf body [] ρ L) nx rt bk ct:=WS.inx (by unfold Dy;rw[if_pos hk]) h
theorem Gm{ok:AD->Bool}{gf:GF}{body:SF}{x:D}{xs:List D}(hk:ok L=true)(h:W1 (gf x ρ) λρ1=>WS (body ρ1 L) (λρ2 L2=>WS (Dy ok gf body xs ρ2 L2) nx rt bk ct) rt nx (λρ2 L2=>WS (Dy ok gf body xs ρ2 L2) nx rt bk ct)):WS (Dy ok gf body (x::xs) ρ L) nx rt bk ct:=by
 obtain⟨ρ1,e1,y,e2,q⟩:=h
 cases y with
 |next ρ2 L2=>obtain⟨z,e3,q⟩:=q;exact⟨z,by unfold Dy;rw[if_pos hk,e1,AS,e2];exact e3,q⟩
 |cont ρ2 L2=>obtain⟨z,e3,q⟩:=q;exact⟨z,by unfold Dy;rw[if_pos hk,e1,AS,e2];exact e3,q⟩
 |ret d L2=>exact WS.irt (by unfold Dy;rw[if_pos hk,e1,AS,e2];rfl) q
 |brk ρ2 L2=>exact WS.inx (by unfold Dy;rw[if_pos hk,e1,AS,e2];rfl) q
theorem DU{ok:AD->Bool}{gf:GF}{body:SF}(I:Nat->Fm->AD->Prop):∀(items:List D) (j:Nat) (ρ:Fm) (L:AD),I j ρ L ->
  (∀i x ρ L,items[i]?=some x->I (j+i) ρ L->ok L=true/\W1 (gf x ρ) λρ1=>WS (body ρ1 L) (I (j+i+1)) rt nx (I (j+i+1))) ->
  (∀ρ L,I (j+items.length) ρ L->ok L=true/\nx ρ L)->WS (Dy ok gf body items ρ L) nx rt bk ct
 |[],j,ρ,L,h0,_,fin=>Qk (fin ρ L h0).1 (fin ρ L h0).2
 |x::xs,j,ρ,L,h0,st,fin=>by
  obtain⟨hk,hw⟩:=st 0 x ρ L rfl h0
  have go:∀ρ2 L2,I (j+1) ρ2 L2->WS (Dy ok gf body xs ρ2 L2) nx rt bk ct:=λρ2 L2 h2=>DU I xs (j+1) ρ2 L2 h2
   (λi y ρ L e h=>by
    have e':j+(i+1)=j+1+i:=by omega
    have:=st (i+1) y ρ L (by simpa using e) (by rw[e'];exact h);rw[e'] at this
    exact this)
   (λρ L h=>fin ρ L (by have e':j+(x::xs).length=j+1+xs.length:=by simp;omega
                        rw[e'];exact h))
  refine Gm hk ?_;obtain⟨ρ1,e1,hb⟩:=hw;exact⟨ρ1,e1,hb.mono go (λ_ _ h=>h) (λ_ _ h=>h) go⟩
end
section
variable {Q:Fm->Prop}{gf:GF}{gs:FO}
theorem Zv{i:Nat}{d:D}(h:Q (ρ.set i (some d))):W1 (Av i d ρ) Q:=⟨_,rfl,h⟩
theorem AHJ{n:Nat}{ds:List D}(e:ds.length=n)(h:W1 (gs ds ρ) Q):W1 (Fu n gs (.tup ds) ρ) Q:=by obtain⟨ρ',e1,q⟩:=h;exact⟨ρ',by unfold Fu;simp only;rw[if_pos e];exact e1,q⟩
theorem AHK(h:Q ρ):W1 (FY [] ρ) Q:=⟨_,rfl,h⟩
theorem AHL{d:D}{ds:List D}(h:W1 (gf d ρ) λρ'=>W1 (gs ds ρ') Q):W1 (CM gf gs (d::ds) ρ) Q:=by obtain⟨ρ1,e1,ρ2,e2,q⟩:=h;exact⟨ρ2,by unfold CM;simp only;rw[e1];exact e2,q⟩
end
theorem Zw{ok:AD->Bool}{g:GF}{c:TF}{elt:EF}{k:Nat}{Q:AD->Prop}(hk:ok L=true)(h:Q L):W1 (Db ok g c elt k [] ρ L) Q:=⟨_,by unfold Db;rw[if_pos hk],h⟩
theorem Zy{ok:AD->Bool}{g:GF}{c:TF}{elt:EF}{k:Nat}{x:D}{xs:List D}{Q:AD->Prop}(hk:ok L=true)
  (h:W1 (g x ρ) λρ1=>W2 (c ρ1 L) λb L1=>Br b (W2 (elt ρ1 L1) λd L2=>∃ys,L2[k]?=some (.lst ys)/\ys.length<16777216/\W1 (Db ok g c elt k xs ρ1 (L2.set k (.lst (ys++[d])))) Q) (W1 (Db ok g c elt k xs ρ1 L1) Q)) :
  W1 (Db ok g c elt k (x::xs) ρ L) Q:=by
 obtain⟨ρ1,e1,b,L1,e2,q⟩:=h;cases b
 .obtain⟨z,e3,q⟩:=q;exact⟨z,by unfold Db;rw[if_pos hk,e1,AS,e2,AS];exact e3,q⟩
 .obtain⟨d,L2,e3,ys,e4,hz,z,e5,q⟩:=q;refine⟨z,?_,q⟩;unfold Db;rw[if_pos hk,e1,AS,e2,AS];simp only[if_true];rw[e3,AS];simp only;rw[e4];simp only;rw[if_pos hz];exact e5
theorem Hr{ok:AD->Bool}{g:GF}{c:TF}{elt:EF}{k:Nat}{Q:AD->Prop}(I:Nat->Fm->AD->Prop):∀(items:List D) (j:Nat) (ρ:Fm) (L:AD),I j ρ L ->
  (∀i x ρ L,items[i]?=some x->I (j+i) ρ L->ok L=true/\W1 (g x ρ) λρ1=>W2 (c ρ1 L) λb L1=>Br b (W2 (elt ρ1 L1) λd L2=>∃ys,L2[k]?=some (.lst ys)/\ys.length<16777216/\I (j+i+1) ρ1 (L2.set k (.lst (ys++[d])))) (I (j+i+1) ρ1 L1)) ->
  (∀ρ L,I (j+items.length) ρ L->ok L=true/\Q L)->W1 (Db ok g c elt k items ρ L) Q
 |[],j,ρ,L,h0,_,fin=>Zw (fin ρ L h0).1 (fin ρ L h0).2
 |x::xs,j,ρ,L,h0,st,fin=>by
  obtain⟨hk,ρ1,e1,b,L1,e2,q⟩:=st 0 x ρ L rfl h0
  have go:∀ρ2 L2,I (j+1) ρ2 L2->W1 (Db ok g c elt k xs ρ2 L2) Q:=λρ2 L2 h2=>Hr I xs (j+1) ρ2 L2 h2
   (λi y ρ L e h=>by
    have e':j+(i+1)=j+1+i:=by omega
    have:=st (i+1) y ρ L (by simpa using e) (by rw[e'];exact h);rw[e'] at this
    exact this)
   (λρ L h=>fin ρ L (by have e':j+(x::xs).length=j+1+xs.length:=by simp;omega
                        rw[e'];exact h))
  refine Zy hk ⟨ρ1,e1,b,L1,e2,?_⟩;cases b
  .exact go _ _ q
  .obtain⟨d,L2,e3,ys,e4,hz,q⟩:=q;exact⟨d,L2,e3,ys,e4,hz,go _ _ q⟩
theorem Mu{g:GF}{c:TF}{elt:EF}{L0:AD}{Q:AD->Prop}(P:Fm->Prop)(f:D->Option D)(items:List D)(ρ:Fm)
  (hp:P ρ) (hz:items.length<=16777216)
  (h:∀x∈items,∀ρ,P ρ->W1 (g x ρ) λρ1=>P ρ1/\∀acc,W2 (c ρ1 (L0++[.lst acc])) λb L1=>L1=L0++[.lst acc]/\Br b (W2 (elt ρ1 (L0++[.lst acc])) λd L2=>L2=L0++[.lst acc]/\f x=some d) (f x=none))
  (q:Q (L0++[.lst (items.filterMap f)])):W1 (Db (λ_=>true) g c elt L0.length items ρ (L0++[.lst []])) Q:=by
 refine Hr (I:=λj ρ L=>P ρ/\L=L0++[.lst ((items.take j).filterMap f)]) items 0 ρ _ ⟨hp,by simp⟩ ?_ ?_
 .rintro i x ρ L e ⟨hp,rfl⟩;refine⟨rfl,?_⟩;have hi:i<items.length:=(BQ.mp e).1;have hx:x∈items:=CY e;obtain⟨ρ1,e1,hp1,h2⟩:=h x hx ρ hp;obtain⟨b,L1,e2,rfl,q⟩:=h2 ((items.take (0+i)).filterMap f);refine⟨ρ1,e1,b,_,e2,?_⟩
  have ht:items.take (0+i+1)=items.take (0+i)++[x]:=by rw[Ca,AI7,e];rfl
  cases b
  .have q':f x=none:=q;refine⟨hp1,?_⟩;rw[ht,List.filterMap_append];simp[q']
  .obtain⟨d,L2,e3,rfl,q⟩:=q;refine⟨d,_,e3,(items.take (0+i)).filterMap f,by simp,?_,hp1,?_⟩
   .refine Nat.lt_of_le_of_lt (List.length_filterMap_le _ _) ?_;simp;omega
   .rw[ht,List.filterMap_append];simp[q]
 .rintro ρ L ⟨_,rfl⟩;exact⟨rfl,by simpa using q⟩
section
variable {Q:AKQ}{B:SF}{N:List Str}{n:Nat}{xs:List D}
theorem Ci(hn:xs.length=n)(h:WS (B (DP N xs) L) (λ_ L2=>L <+: L2/\Q .non L) (λd L2=>d.noRef=true/\L <+: L2/\Q d L) (λ_ _=>False) (λ_ _=>False)):W2 (Ax B N n xs L) Q:=by
 obtain⟨x,e,q⟩:=h;have tk:∀L2:AD,L <+: L2->L2.take L.length=L:=λL2 hp=>by obtain⟨M,rfl⟩:=hp;simp
 cases x with
 |next ρ L2=>exact⟨_,_,by unfold Ax;rw[if_pos hn,e];simp only;rw[if_pos (tk _ q.1)],q.2⟩
 |ret d L2=>exact⟨_,_,by unfold Ax;rw[if_pos hn,e];simp only;rw[if_pos ⟨q.1,tk _ q.2.1⟩],q.2.2⟩
 |brk ρ L2=>exact q.elim
 |cont ρ L2=>exact q.elim
theorem Go(hn:xs.length=n)(h:WS (B (DP N xs) L) (λ_ _=>False) (λd L2=>d.noRef=false/\Q d L2) (λ_ _=>False) (λ_ _=>False)):W2 (Ax B N n xs L) Q:=by
 obtain⟨x,e,q⟩:=h
 cases x with
 |next ρ L2=>exact q.elim
 |ret d L2=>exact⟨_,_,by unfold Ax;rw[if_pos hn,e];simp only;rw[if_neg (λh=>by rw[q.1] at h;cases h.1)],q.2⟩
 |brk ρ L2=>exact q.elim
 |cont ρ L2=>exact q.elim
end
section
variable {Q:AKQ}{i j:Int}{x y:Str}
theorem AE9(h:Q (.int (i+j)) L):W2 (CC (.int i) (.int j) L) Q:=⟨_,_,rfl,h⟩
theorem Nu(hz:x.length+y.length<=16777216)(h:Q (.str (x++y)) L):W2 (CC (.str x) (.str y) L) Q:=⟨_,_,by unfold CC;simp only;rw[if_pos hz],h⟩
theorem XN{a b:Nat}{xs ys:List D}(e1:L[a]?=some (.lst xs))(e2:L[b]?=some (.lst ys))(hz:xs.length+ys.length<=16777216)(h:Q (.ref L.length) (L++[.lst (xs++ys)])):W2 (CC (.ref a) (.ref b) L) Q:=⟨_,_,by unfold CC;simp only;rw[e1,e2];simp only;rw[if_pos hz],h⟩
theorem AHv(h:Q (.int (i-j)) L):W2 (Gx (.int i) (.int j) L) Q:=⟨_,_,rfl,h⟩
theorem Gw(hc:cMul i j=true)(h:Q (.int (i*j)) L):W2 (Eu (.int i) (.int j) L) Q:=⟨_,_,by unfold Eu;simp only;rw[if_pos hc],h⟩
theorem AE4(hc:KU x j=true)(h:Q (.str (Txt.mul x j)) L):W2 (Eu (.str x) (.int j) L) Q:=⟨_,_,by unfold Eu;simp only;rw[if_pos hc],h⟩
theorem AE7(hc:Ly i j=true)(h:Q (.int (i / j)) L):W2 (CV (.int i) (.int j) L) Q:=⟨_,_,by unfold CV gI;simp only;rw[if_pos hc],h⟩
theorem XG(hc:OI i j=true)(h:Q (.int (i % j)) L):W2 (Bl (.int i) (.int j) L) Q:=⟨_,_,by unfold Bl gI;simp only;rw[if_pos hc],h⟩
theorem XF(hc:SN i j=true)(h:Q (.int (i ^ j.toNat)) L):W2 (IH (.int i) (.int j) L) Q:=⟨_,_,by unfold IH gI;simp only;rw[if_pos hc],h⟩
theorem AH2(h:Q (.int (-i)) L):W2 (Hg (.int i) L) Q:=⟨_,_,rfl,h⟩
theorem AH6(h:Q (.bl (decide (i<j))) L):W2 (gLt (.int i) (.int j) L) Q:=⟨_,_,rfl,h⟩
theorem AID(h:Q (.bl (decide (i<=j))) L):W2 (Nx (.int i) (.int j) L) Q:=⟨_,_,rfl,h⟩
theorem AIL(h:Q (.bl (decide (j<i))) L):W2 (Ga (.int i) (.int j) L) Q:=⟨_,_,rfl,h⟩
theorem AIM(h:Q (.bl (decide (j<=i))) L):W2 (Nz (.int i) (.int j) L) Q:=⟨_,_,rfl,h⟩
theorem Lu{p q:Prop}[Decidable p][Decidable q](h:p↔q):decide p=decide q:=by
 by_cases a:p
 .rw[decide_eq_true a,decide_eq_true (h.mp a)]
 .rw[decide_eq_false a,decide_eq_false (λb=>a (h.mpr b))]
theorem SA{a b:D}(hs:GQ a b=true)(h:Q (.bl (decide (a=b))) L):W2 (Bx a b L) Q:=⟨_,_,by unfold Bx;rw[if_pos hs],h⟩
theorem XO{a b:D}(hs:GQ a b=true)(h:Q (.bl (!decide (a=b))) L):W2 (Gy a b L) Q:=⟨_,_,by unfold Gy;rw[if_pos hs],h⟩
theorem AIQ(h:Q (.bl (decide (i=j))) L):W2 (Bx (.int i) (.int j) L) Q:=SA rfl (by rw[Lu (show D.int i=D.int j↔i=j by simp)];exact h)
theorem AIO(h:Q (.bl (decide (x=y))) L):W2 (Bx (.str x) (.str y) L) Q:=SA rfl (by rw[Lu (show D.str x=D.str y↔x=y by simp)];exact h)
theorem AH4(h:Q (.bl (!decide (i=j))) L):W2 (Gy (.int i) (.int j) L) Q:=XO rfl (by rw[Lu (show D.int i=D.int j↔i=j by simp)];exact h)
theorem AH3(h:Q (.bl (!decide (x=y))) L):W2 (Gy (.str x) (.str y) L) Q:=XO rfl (by rw[Lu (show D.str x=D.str y↔x=y by simp)];exact h)
theorem AIP(h:Q (.bl false) L):W2 (Bx .non (.str y) L) Q:=SA rfl (by rw[decide_eq_false (by intro z;cases z)];exact h)
theorem AIG{a:D}(h:Q (.bl (Iq a)) L):W2 (Lk a .non L) Q:=⟨_,_,rfl,h⟩
theorem AIF{a:D}(h:Q (.bl (!Iq a)) L):W2 (Kh a .non L) Q:=⟨_,_,rfl,h⟩
theorem AIK(h:Q (.bl (He x y)) L):W2 (Da false (.str x) (.str y) L) Q:=⟨_,_,rfl,h⟩
theorem Ny{neg:Bool}{d e:D}{ys:List D}(h0:∀i j,d=.str i->e=.str j->False)(e1:DH e L=some ys)(hf:(BR d&&ys.all BR)=true)(h:Q (.bl (if neg then !Dz d ys else Dz d ys)) L):W2 (Da neg d e L) Q:=by
 refine⟨_,_,?_,h⟩;unfold Da;split
 .exact(h0 _ _ rfl rfl).elim
 .rw[e1];simp only;rw[if_pos hf]
theorem XJ{d:D}{ys:List D}(hf:(BR d&&ys.all BR)=true)(h:Q (.bl (Dz d ys)) L):W2 (Da false d (.tup ys) L) Q:=Ny (λ_ _ _ z=>by cases z) rfl hf h
theorem Rw{d:D}{ys:List D}(hf:(BR d&&ys.all BR)=true)(h:Q (.bl (!Dz d ys)) L):W2 (Da true d (.tup ys) L) Q:=Ny (λ_ _ _ z=>by cases z) rfl hf h
theorem AE6{d:D}{k:Nat}{ys:List D}(e:L[k]?=some (.lst ys))(hf:(BR d&&ys.all BR)=true)(h:Q (.bl (Dz d ys)) L):W2 (Da false d (.ref k) L) Q:=Ny (λ_ _ _ z=>by cases z) (by simp[DH,e]) hf h
theorem Nt{d:D}{k:Nat}{ys:List D}(e:L[k]?=some (.lst ys))(hf:(BR d&&ys.all BR)=true)(h:Q (.bl (!Dz d ys)) L):W2 (Da true d (.ref k) L) Q:=Ny (λ_ _ _ z=>by cases z) (by simp[DH,e]) hf h
theorem Rx{c:Nat}(e:atI x.cps.toList i=some c)(h:Q (.str ⟨#[c]⟩) L):W2 (Ak (.str x) (.int i) L) Q:=⟨_,_,by unfold Ak;simp only;rw[e],h⟩
theorem AIE{xs:List D}{d:D}(e:atI xs i=some d)(h:Q d L):W2 (Ak (.tup xs) (.int i) L) Q:=⟨_,_,by unfold Ak;simp only[DH];rw[e],h⟩
theorem XH{xs:List D}{d:D}(e:atI xs i=some d)(h:Q d L):W2 (Ak (.fz xs) (.int i) L) Q:=⟨_,_,by unfold Ak;simp only[DH];rw[e],h⟩
theorem EY{k:Nat}{xs:List D}{d:D}(e1:L[k]?=some (.lst xs))(e:atI xs i=some d)(h:Q d L):W2 (Ak (.ref k) (.int i) L) Q:=⟨_,_,by unfold Ak;simp only[DH,e1];rw[e],h⟩
theorem AHx{lo hi:Option Int}(h:Q (.str (Txt.slice x lo hi)) L):W2 (Kf (.str x) lo hi L) Q:=⟨_,_,rfl,h⟩
theorem AHy{lo hi:Option Int}{k:Nat}{xs:List D}(e:L[k]?=some (.lst xs))(h:Q (.ref L.length) (L++[.lst (cutD xs lo hi)])):W2 (Kf (.ref k) lo hi L) Q:=⟨_,_,by unfold Kf;simp only[e],h⟩
theorem AH9(h:Q (.int (x.length:Int)) L):W2 (CF [.str x] L) Q:=⟨_,_,rfl,h⟩
theorem AH8{xs:List D}(h:Q (.int (xs.length:Int)) L):W2 (CF [.tup xs] L) Q:=⟨_,_,rfl,h⟩
theorem AIB{xs:List D}(h:Q (.int (xs.length:Int)) L):W2 (CF [.fz xs] L) Q:=⟨_,_,rfl,h⟩
theorem AIA{k:Nat}{xs:List D}(e:L[k]?=some (.lst xs))(h:Q (.int (xs.length:Int)) L):W2 (CF [.ref k] L) Q:=⟨_,_,by simp only[CF,DH,e],h⟩
theorem AIR(h:Q (.int (if i<0 then -i else i)) L):W2 (Lo [.int i] L) Q:=⟨_,_,rfl,h⟩
theorem AH5(h:Q (.int (if j<i then j else i)) L):W2 (Lg [.int i,.int j] L) Q:=⟨_,_,rfl,h⟩
theorem AIH{b:Bool}(h:Q (.int (if b then 1 else 0)) L):W2 (Ll [.bl b] L) Q:=⟨_,_,rfl,h⟩
theorem AHu{k:Nat}{xs:List D}(e:L[k]?=some (.lst xs))(h:Q (.tup xs) L):W2 (GZ [.ref k] L) Q:=⟨_,_,by simp only[GZ,DH,e],h⟩
theorem XI{d:D}{t T:String}{b:Bool}(hT:["int","str","bool","list","tuple","dict"].contains T=true)(e:KG d L=some t)(eb:Kc t T=b)(h:Q (.bl b) L):W2 (FF [d,.ty T] L) Q:=⟨_,_,by simp only[FF];rw[if_pos hT,e,<-eb];rfl,h⟩
theorem AE8{k:Nat}{ds:List D}{bs:List Bool}(e:L[k]?=some (.lst ds))(e2:blsD ds=some bs)(h:Q (.bl (bs.all id)) L):W2 (Ln [.ref k] L) Q:=⟨_,_,by simp only[Ln,e,e2],h⟩
theorem AE5{k:Nat}{ds:List D}{ys:List Str}(e:L[k]?=some (.lst ds))(e2:CS ds=some ys)(hz:(ys.map (·.length)).sum+ys.length*x.length<=16777216)(h:Q (.str (Txt.join x ys)) L):W2 (Lj (.str x) [.ref k] L) Q:=⟨_,_,by simp only[Lj,DH,e,e2];rw[if_pos hz],h⟩
theorem ID{k:Nat}{ds:List D}{d:D}(e:L[k]?=some (.lst ds))(hz:ds.length<16777216)(h:Q .non (L.set k (.lst (ds++[d])))):W2 (Fv (.ref k) [d] L) Q:=⟨_,_,by simp only[Fv,e];rw[if_pos hz],h⟩
theorem AHz{f:Str->Bool}(h:Q (.bl (f x)) L):W2 (IG f (.str x) [] L) Q:=⟨_,_,rfl,h⟩
theorem Nr{f:Str->Str}(hz:(f x).length<=16777216)(h:Q (.str (f x)) L):W2 (gS0s f (.str x) [] L) Q:=⟨_,_,by simp only[gS0s];rw[if_pos hz],h⟩
end
end
theorem AEO{n:Nat}{p:Prop}(h:Nat.ble n 16777216=true)(hp:p):Sl n p:=⟨Nat.le_of_ble_eq_true h,hp⟩
theorem Aq{α:Type}{L:List α}{a:α}:(L++[a])[L.length]?=some a:=by simp
theorem Al{α:Type}{L M:List α}{k:Nat}{a:α}(h:L[k]?=some a):(L++M)[k]?=some a:=by rw[FT (BQ.mp h).1];exact h
theorem DZ{α:Type}{L:List α}{k:Nat}{a b:α}(h:L[k]?=some b):(L.set k a)[k]?=some a:=by rw[AIm (BQ.mp h).1]
theorem Jc{α:Type}{L:List α}{k j:Nat}{a b:α}(n:j≠k)(h:L[k]?=some b):(L.set j a)[k]?=some b:=by rw[Dw n];exact h
theorem NO{α:Type}{L L2:List α}{k:Nat}{a:α}(h:L <+: L2)(hk:L.length<=k):L <+: L2.set k a:=by obtain⟨M,rfl⟩:=h;rw[List.set_append,if_neg (by omega)];exact BB _ _
section
variable {Q:AKQ}{L:AD}
theorem AH1(h:Q (.int 10000000000000000000000000000000000000000) L):W2 (IH (.int 10) (.int 40) L) Q:=XF (by decide) (by have e:(10:Int) ^ (40:Int).toNat=10000000000000000000000000000000000000000:=(by decide);(rw[e];exact h))
theorem AH0(h:Q (.int 1000000) L):W2 (IH (.int 10) (.int 6) L) Q:=XF (by decide) (by have e:(10:Int) ^ (6:Int).toNat=1000000:=(by decide);(rw[e];exact h))
end
section
variable {p q:Prop}
theorem AIY(h:p):Br (Iq .non) p q:=h
theorem AIZ{i:Int}(h:q):Br (Iq (.int i)) p q:=h
theorem AIX{i:Nat}(h:q):Br (Iq (.ref i)) p q:=h
end
theorem AII{Q:AKQ}{L:AD}{d:D}{t T:String}(hT:["int","str","bool","list","tuple","dict"].contains T=true)(e:KG d L=some t)(eb:Kc t T=true)(h:Q (.bl true) L):W2 (FF [d,.ty T] L) Q:=XI hT e eb h
theorem AIJ{Q:AKQ}{L:AD}{d:D}{t T:String}(hT:["int","str","bool","list","tuple","dict"].contains T=true)(e:KG d L=some t)(eb:Kc t T=false)(h:Q (.bl false) L):W2 (FF [d,.ty T] L) Q:=XI hT e eb h
theorem AAB{Q:AKQ}{B:SF}{N:List Str}{n:Nat}{xs:List D}{L:AD}(hn:xs.length=n)(h:WS (B (DP N xs) L) (λ_ _=>False) (λd L2=>L <+: L2/\(d.noRef=true->Q d L)/\(d.noRef=false->Q d L2)) (λ_ _=>False) (λ_ _=>False)):W2 (Ax B N n xs L) Q:=by
 obtain⟨x,e,q⟩:=h;have tk:∀L2:AD,L <+: L2->L2.take L.length=L:=λL2 hp=>by obtain⟨M,rfl⟩:=hp;simp
 cases x with
 |next ρ L2=>exact q.elim
 |ret d L2 =>
  cases hd:d.noRef with
  |true=>exact⟨_,_,by unfold Ax;rw[if_pos hn,e];simp only;rw[if_pos ⟨hd,tk _ q.1⟩],q.2.1 hd⟩
  |false=>exact⟨_,_,by unfold Ax;rw[if_pos hn,e];simp only;rw[if_neg (λh=>by rw[hd] at h;cases h.1)],q.2.2 hd⟩
 |brk ρ L2=>exact q.elim
 |cont ρ L2=>exact q.elim
theorem AHn{j0:Int}{Q:Int->Prop}(hb:j0<=4611686018427387903/\-4611686018427387904<=j0)(h:Q j0):∃j:Int,[D.int j0]=[.int j]/\(j<=4611686018427387903/\-4611686018427387904<=j)/\Q j:=⟨j0,rfl,hb,h⟩
theorem AHm{i0 j0:Int}{Q:Int->Int->Prop}(hb:(i0<=4611686018427387903/\-4611686018427387904<=i0)/\(j0<=4611686018427387903/\-4611686018427387904<=j0))(h:Q i0 j0) :
  ∃i j:Int,[D.int i0,.int j0]=[.int i,.int j]/\((i<=4611686018427387903/\-4611686018427387904<=i)/\(j<=4611686018427387903/\-4611686018427387904<=j))/\Q i j:=⟨i0,j0,rfl,hb,h⟩
theorem AIS{y0:Str}{Q:Str->Prop}(h:Q y0):∃y:Str,[D.str y0]=[.str y]/\Q y:=⟨y0,rfl,h⟩
def sg(y:Str)(i:Nat):Str:=⟨#[y.cps.getD i 0]⟩
theorem AFa(y:Str):Fc (sgs y)=(List.range y.cps.size).map λ(i:Nat)=>D.tup [.int (i:Int),.str (sg y i)]:=by
 apply AJT;intro i;rw[Xf,BD]
 by_cases h:i<y.cps.size
 .rw[AJE h];simp[sg,h,Array.getD]
 .have h1:y.cps[i]?=none:=by simp;omega
  have h2:(List.range y.cps.size)[i]?=none:=by simp;omega
  rw[h1,h2];rfl
theorem Lq{α β:Type}{f g:α->Option β}:∀{l:List α},(∀x∈l,f x=g x)->l.filterMap f=l.filterMap g
 |[],_=>rfl
 |x::xs,h=>by
  have ih:=Lq λy hy=>h y (BK x hy);rw[AJI,AJI,h x BN,ih]
theorem YT{α β:Type}(f:α->β)(xs:List α)(i:Int):atI (xs.map f) i=(atI xs i).map f:=by
 unfold atI;rw[Ao]
 cases ixN xs.length i with
 |none=>rfl
 |some j=>simp
theorem YR{α:Type}{xs:List α}{i:Int}(h:-(xs.length:Int)<=i/\i<xs.length):∃v,atI xs i=some v:=by
 unfold atI ixN
 by_cases h0:0<=i
 .rw[if_pos h0,if_pos h.2];have:i.toNat<xs.length:=by omega
  exact⟨xs[i.toNat],by simp[this]⟩
 .rw[if_neg h0,if_pos h.1];have:(i+xs.length).toNat<xs.length:=by omega
  exact⟨xs[(i+xs.length).toNat],by simp[this]⟩
theorem YS{α:Type}{xs:List α}{i:Int}{v:α}(h:atI xs i=some v):v∈xs:=by obtain⟨j,_,hj,_⟩:=OL h;exact CY hj
theorem OK{α:Type}{xs:List α}{n:Int}(c:Int)(h0:0<n)(h:n<=xs.length):∃v∈xs,atI xs (c % n)=some v:=by have h1:=AIg c (b:=n) (by omega);have h2:=AIh c h0;obtain⟨v,hv⟩:=YR (xs:=xs) (i:=c % n) ⟨by omega,by omega⟩;exact⟨v,YS hv,hv⟩
theorem ABl(n:Nat):FC 0 n=(List.range n).map λ(i:Nat)=>D.int (i:Int):=by simp[FC]
theorem ABm{lo:Int}{n:Nat}{d:D}(h:d∈FC lo n):∃i:Nat,i<n/\d=.int (lo+(i:Int)):=by unfold FC at h;rw[BV] at h;obtain⟨i,hi,rfl⟩:=h;exact⟨i,Dd.mp hi,rfl⟩
theorem NM{lo:Int}{n i:Nat}{d:D}(h:(FC lo n)[i]?=some d):i<n/\d=.int (lo+(i:Int)):=by
 rw[VC] at h;split at h
 .rename_i hi;cases h;exact⟨hi,rfl⟩
 .cases h
open Builtin.Int in
theorem Vu{a b:Int}{m n:Nat}(ha:intBits a<=m)(hb:intBits b<=n)(h:m+n<=134217728):cMul a b=true:=decide_eq_true (PySem.IntMulOk.of_le ha hb h)
theorem AGK{a:Int}{n:Nat}(h:a.natAbs<2 ^ n):Builtin.Int.intBits a<=n:=PySem.intBits_le_iff.mpr h
theorem Na{a b:Int}(h:-18446744073709551616<a/\a<18446744073709551616):cMul a b=true:=decide_eq_true (.of_left (intBits_le_64 (by omega) (by omega)))
theorem Ra{a b:Int}(h:-18446744073709551616<b/\b<18446744073709551616):cMul a b=true:=decide_eq_true (.of_right (intBits_le_64 (by omega) (by omega)))
theorem YU{ns:List Int}{k:Int}(h0:0<=k)(h1:k<ns.length):∃z∈ns,atI (ns.map D.int) k=some (.int z):=by
 have hk:k.toNat<ns.length:=by omega
 refine⟨ns[k.toNat],List.getElem_mem _,?_⟩;have e:((k.toNat:Nat):Int)=k:=by omega
 have q:=FL (xs:=ns.map D.int) (j:=k.toNat) (v:=.int ns[k.toNat]) (by simp[hk]);rw[e] at q;exact q
def Lx:List Nat:=[97,98,99,100,101,102,103,104,105,106,107,108,109,110,111,112,113,114,115,116,117,118,119,120,121,122,65,66,67,68,69,70,71,72,73,74,75,76,77,78,79,80,81,82,83,84,85,86,87,88,89,90,48,49,50,51,52,53,54,55,56,57,32,45,46,44,47]
def SZ:Str:="abcdefghijklmnopqrstuvwxyzABCDEFGHIJKLMNOPQRSTUVWXYZ0123456789 -.,/"
def BJ(y:Str):Prop:=∀c∈y.cps.toList,c∈Lx
noncomputable instance (y:Str):Decidable (BJ y):=by unfold BJ;infer_instance
theorem BJ.at{y:Str}(h:BJ y){i:Nat}(hi:i<y.cps.size):y.cps.getD i 0∈Lx:=by
 have:y.cps.getD i 0=y.cps[i]:=by simp[Array.getD,hi]
 rw[this];exact h _ (by simp)
theorem BJ.one{c:Nat}(h:c∈Lx):BJ ⟨#[c]⟩:=λz hz=>by
 have:z=c:=by simpa using hz
 rw[this];exact h
theorem SY(x y:Str):(x++y).cps.toList=x.cps.toList++y.cps.toList:=by show(x.cps++y.cps).toList=_;simp
theorem AGZ(x y:Str):(x++y).cps.size=x.cps.size+y.cps.size:=by show(x.cps++y.cps).size=_;simp
theorem OO(x y:Str):(x++y).length=x.length+y.length:=AGZ x y
theorem BJ.app{x y:Str}(hx:BJ x)(hy:BJ y):BJ (x++y):=λc hc=>by
 rw[SY,DE] at hc;rcases hc with h|h
 .exact hx c h
 .exact hy c h
theorem ABD{x:Str}{l u:Option Int}{c:Nat}(h:c∈(Txt.slice x l u).cps.toList):c∈x.cps.toList:=by
 unfold Txt.slice at h;split at h
 .exact h
 .simp only[AJU] at h;obtain⟨j,_,hj⟩:=h;have:=AJz.mp hj;obtain⟨h1,rfl⟩:=this;simp
theorem BJ.slice{x:Str}(h:BJ x)(l u:Option Int):BJ (Txt.slice x l u):=λc hc=>h c (ABD hc)
theorem BJ.join:∀{ys:List Str},(∀y∈ys,BJ y)->BJ (Txt.join "" ys):=λ{ys} h=>by
 show BJ (Builtin.Str.glued "" ys);rw[StrLaws.glued_eq_join]
 induction ys with
 |nil=>exact(by decide)
 |cons x r ih =>
  cases r with
  |nil=>exact h x BN
  |cons y r =>
   show BJ (x++("":Str)++Str.join "" (y::r));exact((h x BN).app (by decide)).app (ih λz hz=>h z (BK _ hz))
theorem Vx{c:Nat}:∀(l:List (Array Nat)) (a:Array Nat),c∈(l.foldl (·++·) a).toList->c∈a.toList\/∃b∈l,c∈b.toList
 |[],a,h=>.inl h
 |b::r,a,h=>by
  rw[AJM] at h;rcases Vx r _ h with h|⟨b',h1,h2⟩
  .rw[Array.toList_append,DE] at h;rcases h with h|h
   .exact .inl h
   .exact .inr ⟨b,BN,h⟩
  .exact .inr ⟨b',BK _ h1,h2⟩
theorem ADj{x:Str}{n:Int}{c:Nat}(h:c∈(Txt.mul x n).cps.toList):c∈x.cps.toList:=by
 unfold Txt.mul at h;split at h
 .simp[Str.empty] at h
 .split at h
  .exact h
  .rcases Vx _ _ h with h|⟨b,h1,h2⟩
   .simp at h
   .rw[List.eq_of_mem_replicate h1] at h2;exact h2
theorem BJ.mul{x:Str}(h:BJ x)(n:Int):BJ (Txt.mul x n):=λc hc=>h c (ADj hc)
theorem Ue:∀{ds:List D},(∀d∈ds,∃s:Str,d=.str s)->∃ys,CS ds=some ys/\ds=ys.map D.str
 |[],_=>⟨[],rfl,rfl⟩
 |d::ds,h=>by
  obtain⟨s,rfl⟩:=h d BN;obtain⟨ys,e,e2⟩:=Ue λz hz=>h z (BK _ hz);exact⟨s::ys,by simp[CS,e],by simp[<-e2]⟩
theorem AA1{ys:List Str}{n:Nat}(h:∀y∈ys,y.length<=n):(ys.map (·.length)).sum<=ys.length*n:=by
 induction ys with
 |nil=>simp
 |cons y r ih =>
  have h1:=h y BN;have h2:=ih λz hz=>h z (BK _ hz);simp only[Ap,GJ,EO,AIs];omega
section
variable {Q:AKQ}{L:AD}
def Dn(k:Nat)(L L':AD):Prop:=L.length<=L'.length/\∀j,j≠k->j<L.length->L'[j]?=L[j]?
theorem Dn.refl(k:Nat)(L:AD):Dn k L L:=⟨Ai _,λ_ _ _=>rfl⟩
theorem Dn.trans{k:Nat}{L L1 L2:AD}(a:Dn k L L1)(b:Dn k L1 L2):Dn k L L2:=⟨Ch a.1 b.1,λj h1 h2=>by rw[b.2 j h1 (by have:=a.1;omega),a.2 j h1 h2]⟩
theorem Dn.app(k:Nat)(L M:AD):Dn k L (L++M):=⟨by simp,λj _ h=>by rw[FT h]⟩
theorem Dn.set(k:Nat)(L:AD)(o:Ob):Dn k L (L.set k o):=⟨by simp,λj h _=>by rw[Dw (Ne.symm h)]⟩
theorem Dn.get{k j:Nat}{L L':AD}{o:Ob}(h:Dn k L L')(n:j≠k)(e:L[j]?=some o):L'[j]?=some o:=by rw[h.2 j n (BQ.mp e).1];exact e
theorem Ql{nx:Fm->AD->Prop}{rt:AKQ}{bk ct:Fm->AD->Prop}{ok:AD->Bool}{gf:GF}{body:SF}(P:Fm->Prop)(k m B:Nat)(f:D->List D){items:List D}{ρ:Fm}{acc:List D}
  (hk:L[k]?=some (.lst acc)) (hp:P ρ) (hm:∀x∈items,(f x).length<=m) (hB:acc.length+items.length*m<=B)
  (turn:∀x∈items,∀ρ L' acc',P ρ->Dn k L L'->L'[k]?=some (.lst acc')->acc'.length<=B->ok L'=true/\W1 (gf x ρ) λρ1=>WS (body ρ1 L') (λρ2 L2=>P ρ2/\Dn k L' L2/\L2[k]?=some (.lst (acc'++f x))) rt (λ_ _=>False) (λρ2 L2=>P ρ2/\Dn k L' L2/\L2[k]?=some (.lst (acc'++f x))))
  (fin:∀ρ L',P ρ->Dn k L L'->L'[k]?=some (.lst (acc++items.flatMap f))->ok L'=true/\nx ρ L'):WS (Dy ok gf body items ρ L) nx rt bk ct:=by
 refine DU (λj ρ L'=>P ρ/\Dn k L L'/\L'[k]?=some (.lst (acc++(items.take j).flatMap f))) items 0 ρ L ⟨hp,.refl k L,by simpa using hk⟩ ?_ ?_
 .rintro i x ρ L' hx ⟨hp,hkp,hl⟩;have hi:i<items.length:=(BQ.mp hx).1;have hxm:=CY hx;have ht:items.take (0+i+1)=items.take (0+i)++[x]:=by rw[Ca,AI7,hx];rfl
  have hlen:(acc++(items.take (0+i)).flatMap f).length<=B:=by
   have h1:∀(l:List D),(∀x∈l,(f x).length<=m)->(l.flatMap f).length<=l.length*m:=λl=>by
    induction l with
    |nil=>intro _;simp
    |cons y r ih =>
     intro h;have:=ih λz hz=>h z (BK _ hz);have:=h y BN;simp only[AI8,Cz,EO,AIs];omega
   have h2:=h1 (items.take (0+i)) λx hx=>hm x (AJZ hx);have h3:(items.take (0+i)).length*m<=items.length*m:=AI3 _ (by simp;omega);rw[Cz];omega
  obtain⟨h1,ρ1,e1,h2⟩:=turn x hxm ρ L' _ hp hkp hl hlen;refine⟨h1,ρ1,e1,?_⟩;have go:∀ρ2 L2,(P ρ2/\Dn k L' L2/\L2[k]?=some (.lst ((acc++(items.take (0+i)).flatMap f)++f x)))->P ρ2/\Dn k L L2/\L2[k]?=some (.lst (acc++(items.take (0+i+1)).flatMap f)):=λρ2 L2 z2_=>by obtain⟨a,b,c⟩:=z2_;exact⟨a,hkp.trans b,by rw[c,ht];simp⟩
  exact h2.mono go (λ_ _ h=>h) (λ_ _ h=>h.elim) go
 .rintro ρ L' ⟨hp,hkp,hl⟩;exact fin ρ L' hp hkp (by simpa using hl)
end
section
variable {ρ:Fm}{L:AD}{Q:AKQ}{nx:Fm->AD->Prop}{rt:AKQ}{bk ct:Fm->AD->Prop}
def Se(d:D)(L:AD)(n:Nat)(gs:FO)(ρ:Fm)(P:Fm->Prop):Prop:=∃ds,DH d L=some ds/\ds.length=n/\W1 (gs ds ρ) P
theorem AG8{e:EF}{n:Nat}{gs:FO}(h:W2 (e ρ L) λd L'=>Se d L' n gs ρ λρ'=>nx ρ' L'):WS (Jp e n gs ρ L) nx rt bk ct:=by obtain⟨d,L1,e1,ds,e2,e3,ρ',e4,q⟩:=h;exact WS.inx (by unfold Jp;rw[e1,AS];simp only;rw[e2,AS,if_pos e3,e4];rfl) q
theorem AHf{ds:List D}{n:Nat}{gs:FO}{P:Fm->Prop}(e:ds.length=n)(h:W1 (gs ds ρ) P):Se (.tup ds) L n gs ρ P:=⟨ds,rfl,e,h⟩
theorem AHg{k:Nat}{ds:List D}{n:Nat}{gs:FO}{P:Fm->Prop}(e1:L[k]?=some (.lst ds))(e:ds.length=n)(h:W1 (gs ds ρ) P):Se (.ref k) L n gs ρ P:=⟨ds,by simp[DH,e1],e,h⟩
theorem CQ{f g:SF}(P:Fm->AD->Prop)(h1:WS (f ρ L) P rt bk ct)(h2:∀ρ' L',P ρ' L'->WS (g ρ' L') nx rt bk ct):WS (AN f g ρ L) nx rt bk ct:=LD (h1.mono h2 (λ_ _ h=>h) (λ_ _ h=>h) (λ_ _ h=>h))
theorem AGz{fo fi fv:EF}(h:W2 (fv ρ L) λv L1=>W2 (fo ρ L1) λo L2=>W2 (fi ρ L2) λi L3=>W1 (Kg o i v L3) λL4=>nx ρ L4):WS (Ck fo fi fv ρ L) nx rt bk ct:=by obtain⟨v,L1,e1,o,L2,e2,i,L3,e3,L4,e4,q⟩:=h;exact WS.inx (by unfold Ck;rw[e1,AS,e2,AS,e3,AS,e4];rfl) q
theorem XE{k n:Nat}{j:Int}{v:D}{xs:List D}{P:AD->Prop}(e:L[k]?=some (.lst xs))(hn:ixN xs.length j=some n)(h:P (L.set k (.lst (xs.set n v)))):W1 (Kg (.ref k) (.int j) v L) P:=⟨_,by simp only[Kg,e,hn],h⟩
theorem AHZ{g g':G2}{fa fb fc:EF}(h:W2 (fa ρ L) λx L1=>W2 (fb ρ L1) λy L2=>W2 (g x y L2) λz L3=>MJ z λb=>Br b (W2 (fc ρ L3) λw L4=>W2 (g' y w L4) Q) (Q (.bl false) L3)):W2 (Jm g g' fa fb fc ρ L) Q:=by
 obtain⟨x,L1,e1,y,L2,e2,z,L3,e3,b,rfl,q⟩:=h
 cases b with
 |false=>exact⟨_,_,by unfold Jm;rw[e1,AS,e2,AS,e3];rfl,q⟩
 |true =>
  obtain⟨w,L4,e4,d,L5,e5,q⟩:=q;exact⟨_,_,by unfold Jm;rw[e1,AS,e2,AS,e3,AS];simp only;rw[e4];exact e5,q⟩
end
section
variable {Q:AKQ}{ρ:Fm}{L:AD}{nx:Fm->AD->Prop}{rt:AKQ}{bk ct:Fm->AD->Prop}{fo fv fe:EF}{af:AF}{cs:List Str}{f c m:Str}
theorem AIN{k:Nat}{fs:List (Str×D)}{d:D}(e:L[k]?=some (.ins c fs))(hc:cs.contains c=true)(hl:fs.lookup f=some d)(h:Q d L):W2 (Bn cs f (.ref k) L) Q :=
 ⟨d,L,by simp only[Bn,e];rw[if_pos (by simpa using hc),hl];rfl,h⟩
theorem AGy(h:W2 (fv ρ L) λv L1=>W2 (fo ρ L1) λx L2=>W1 (LN cs f x v L2) λL3=>nx ρ L3):WS (GS cs f fo fv ρ L) nx rt bk ct:=by obtain⟨v,L1,e1,x,L2,e2,L3,e3,q⟩:=h;exact WS.inx (by unfold GS;rw[e1];simp only[AS];rw[e2];simp only[AS];rw[e3];rfl) q
theorem XD{k:Nat}{fs:List (Str×D)}{v:D}{P:AD->Prop}(e:L[k]?=some (.ins c fs))(hc:cs.contains c=true)(hl:Nat.blt fs.length 1000=true)(h:P (L.set k (.ins c (Er f v fs)))):W1 (LN cs f (.ref k) v L) P:=by
 have h1:fs.length<=999:=by simpa[Nat.blt] using hl
 exact⟨_,by simp only[LN,e];rw[if_pos ⟨by simpa using hc,by omega⟩],h⟩
theorem AHV{G:GL}(h:W2 (af ρ L) λys L1=>W2 (G (.ref L1.length::ys) (L1++[.ins c []])) λz L2=>z=.non/\Q (.ref L1.length) L2):W2 (Hw c G af ρ L) Q:=by obtain⟨ys,L1,e1,z,L2,e2,rfl,q⟩:=h;exact⟨_,L2,by unfold Hw;rw[e1];simp only[AS];rw[e2];rfl,q⟩
def Yt(cs:List Str)(f:Str)(g:Int->Int->Int)(fv:EF)(ρ:Fm)(nx:Fm->AD->Prop)(x:D)(L:AD):Prop:=∃k c fs i,x=.ref k/\L[k]?=some (.ins c fs)/\c∈cs/\fs.lookup f=some (.int i) /\
 W2 (fv ρ L) λy L2=>∃j fs',y=.int j/\L2[k]?=some (.ins c fs')/\fs'.length<1000/\nx ρ (L2.set k (.ins c (Er f (.int (g i j)) fs')))
theorem AG6{g:Int->Int->Int}(h:W2 (fo ρ L) λx L1=>Yt cs f g fv ρ nx x L1):WS (MB cs f g fo fv ρ L) nx rt bk ct:=by obtain⟨x,L1,e1,k,c,fs,i,rfl,e2,hc,e3,y,L2,e4,j,fs',rfl,e5,hl,q⟩:=h;exact WS.inx (by unfold MB;rw[e1];simp only[AS];rw[e2];simp only;rw[if_pos hc,e3];simp only;rw[e4];simp only[AS];rw[e5];dsimp only;rw[if_pos ⟨rfl,hl⟩]) q
theorem AG7{i:Nat}{g:Int->Int->Int}{a:Int}(e:ρ[i]?=some (some (.int a)))(h:W2 (fe ρ L) λy L1=>Sm y λb=>nx (ρ.set i (some (.int (g a b)))) L1):WS (Jo i g fe ρ L) nx rt bk ct:=by obtain⟨y,L1,e1,b,rfl,q⟩:=h;exact WS.inx (by unfold Jo;rw[e];simp only;rw[e1];rfl) q
theorem Qj{t:TF}{b:SF}(I:Nat->Fm->AD->Prop)(st:∀n ρ L,I n ρ L->W2 (t ρ L) λx L1=>Br x (WS (b ρ L1) (λρ2 L2=>∃m,m<n/\I m ρ2 L2) rt nx (λρ2 L2=>∃m,m<n/\I m ρ2 L2)) (nx ρ L1)) :
  ∀(N n:Nat) (ρ:Fm) (L:AD),n<N->I n ρ L->WS (GN t b N ρ L) nx rt bk ct
 |0,n,ρ,L,h,_=>absurd h (Nat.not_lt_zero _)
 |N+1,n,ρ,L,h,hI=>by
  obtain⟨x,L1,e1,hb⟩:=st n ρ L hI
  cases x with
  |false=>exact WS.inx (by unfold GN;rw[e1];rfl) hb
  |true =>
   obtain⟨out,e2,q⟩:=(show WS (b ρ L1) _ _ _ _ from hb)
   cases out with
   |next ρ2 L2 =>
    obtain⟨m,hm,hI2⟩:=(show ∃m,m<n/\I m ρ2 L2 from q);obtain⟨o,e3,q3⟩:=Qj I st N m ρ2 L2 (by omega) hI2;exact⟨o,by unfold GN;rw[e1];simp only[AS,if_true];rw[e2];exact e3,q3⟩
   |cont ρ2 L2 =>
    obtain⟨m,hm,hI2⟩:=(show ∃m,m<n/\I m ρ2 L2 from q);obtain⟨o,e3,q3⟩:=Qj I st N m ρ2 L2 (by omega) hI2;exact⟨o,by unfold GN;rw[e1];simp only[AS,if_true];rw[e2];exact e3,q3⟩
   |brk ρ2 L2=>exact WS.inx (by unfold GN;rw[e1];simp only[AS,if_true];rw[e2];rfl) q
   |ret d L2=>exact WS.irt (by unfold GN;rw[e1];simp only[AS,if_true];rw[e2];rfl) q
theorem Zs{t:TF}{b:SF}(I:Nat->Fm->AD->Prop){n:Nat}(hn:n<1000000)(h0:I n ρ L)
  (st:∀n ρ L,I n ρ L->W2 (t ρ L) λx L1=>Br x (WS (b ρ L1) (λρ2 L2=>∃m,m<n/\I m ρ2 L2) rt nx (λρ2 L2=>∃m,m<n/\I m ρ2 L2)) (nx ρ L1)):WS (Qm t b ρ L) nx rt bk ct:=Qj I st 1000000 n ρ L hn h0
theorem AE0{k:Nat}{ds:List D}{ns:List Int}(e:L[k]?=some (.lst ds))(e2:FE ds=some ns)(h:Q (.int ns.sum) L):W2 (Nv [.ref k] L) Q:=⟨_,_,by unfold Nv;rw[AEB e];simp only[AS];rw[e2];rfl,h⟩
theorem LF{B:SF}{N:List Str}{n:Nat}{xs:List D}(hn:xs.length=n)(h:WS (B (DP N xs) L) (λ_ L2=>(L <+: L2->Q .non L)/\Q .non L2) (λd L2=>(L <+: L2->d.noRef=true->Q d L)/\Q d L2) (λ_ _=>False) (λ_ _=>False)):W2 (Ax B N n xs L) Q:=by
 obtain⟨o,e,q⟩:=h
 cases o with
 |next ρ L2 =>
  by_cases c:L2.take L.length=L
  .exact⟨_,_,by unfold Ax;rw[if_pos hn,e];simp only;rw[if_pos c],q.1 (NP c)⟩
  .exact⟨_,_,by unfold Ax;rw[if_pos hn,e];simp only;rw[if_neg c],q.2⟩
 |ret d L2 =>
  by_cases c:d.noRef=true/\L2.take L.length=L
  .exact⟨_,_,by unfold Ax;rw[if_pos hn,e];simp only;rw[if_pos c],q.1 (NP c.2) c.1⟩
  .exact⟨_,_,by unfold Ax;rw[if_pos hn,e];simp only;rw[if_neg c],q.2⟩
 |brk _ _=>exact q.elim
 |cont _ _=>exact q.elim
end
section
variable {Q:AKQ}{QI:List D->(AD->Bool)->AD->Prop}{ρ:Fm}{L:AD}{nx:Fm->AD->Prop}{rt:AKQ}{bk ct:Fm->AD->Prop}{fo fi fv f:EF}{a:AF}{k ep:Nat}{kvs:List (NK×D)}{kk:NK}{y d:D}
theorem AAE(h:Q (.ref L.length) (L++[.dt [] 0])):W2 (Jk ρ L) Q:=⟨_,_,rfl,h⟩
theorem AHi(e:L[k]?=some (.dt kvs ep)){p:Prop}(h:p):OQ "dict" (.ref k) L p:=⟨by simp[KH,e],h⟩
theorem Jd(e:L[k]?=some (.dt kvs ep))(ek:dNK y=some kk)(el:CK kvs kk=some d)(h:Q d L):W2 (Gz (.ref k) y L) Q:=⟨d,L,by simp only[Gz,e,ek,AS,el,AJY],h⟩
theorem XM{neg:Bool}(e:L[k]?=some (.dt kvs ep))(ek:dNK y=some kk)(h:Q (.bl (neg != (CK kvs kk).isSome)) L):W2 (Iu neg y (.ref k) L) Q:=⟨_,L,by simp only[Iu,e,ek,AJY],h⟩
theorem AIC(e:L[k]?=some (.dt kvs ep))(h:Q (.int (kvs.length:Int)) L):W2 (Li [.ref k] L) Q:=⟨_,L,by simp only[Li,e],h⟩
theorem AH7(e:L[k]?=some (.dt kvs ep))(h:Q (.ref L.length) (L++[.lst (GW kvs)])):W2 (Lh [.ref k] L) Q:=⟨_,_,by simp only[Lh,e],h⟩
theorem AE2{v:D}(e:L[k]?=some (.dt kvs ep))(ek:dNK y=some kk)(el:CK kvs kk=some d)(h:Q d L):W2 (IE (.ref k) [y,v] L) Q:=⟨_,L,by simp only[IE,e,ek,AS,el],h⟩
theorem AE3{v:D}(e:L[k]?=some (.dt kvs ep))(ek:dNK y=some kk)(el:CK kvs kk=none)(hz:kvs.length<16777216)(h:Q v (L.set k (.dt (Dq kvs kk v) (epN kvs kk ep)))):W2 (IE (.ref k) [y,v] L) Q:=⟨_,_,by simp only[IE,e,ek,AS,el];rw[if_pos hz],h⟩
theorem Ry{i j:Nat}{as bs:List D}(e1:L[i]?=some (.lst as))(e2:L[j]?=some (.lst bs))(hz:as.length+bs.length<=16777216)(h:Q .non (L.set i (.lst (as++bs)))):W2 (Je (.ref i) [.ref j] L) Q:=⟨_,_,by simp only[Je,e1,e2];rw[if_pos hz],h⟩
theorem AG4(h:W2 (fv ρ L) λv L1=>W2 (fo ρ L1) λo L2=>W2 (fi ρ L2) λi L3=>W1 (Iv o i v L3) λL4=>nx ρ L4):WS (Ji fo fi fv ρ L) nx rt bk ct:=by obtain⟨v,L1,e1,o,L2,e2,i,L3,e3,L4,e4,q⟩:=h;exact WS.inx (by unfold Ji;rw[e1,AS,e2,AS,e3,AS,e4];rfl) q
theorem Rz{v:D}{P:AD->Prop}(e:L[k]?=some (.dt kvs ep))(hz:kvs.length<16777216)(ek:dNK y=some kk)(h:P (L.set k (.dt (Dq kvs kk v) (epN kvs kk ep)))):W1 (Iv (.ref k) y v L) P:=⟨_,by simp only[Iv,e];rw[if_pos hz,ek];rfl,h⟩
def Sr(d:D)(L:AD)(P:Nat->List (NK×D)->Nat->Prop):Prop:=∃k kvs ep,d=.ref k/\L[k]?=some (.dt kvs ep)/\P k kvs ep
theorem AIT{P:Nat->List (NK×D)->Nat->Prop}(e:L[k]?=some (.dt kvs ep))(h:P k kvs ep):Sr (.ref k) L P:=⟨k,kvs,ep,rfl,e,h⟩
theorem AHF(h:W2 (f ρ L) λd L1=>Sr d L1 λk kvs ep=>QI (GW kvs) (Ii k kvs ep) L1):WI (Ke f ρ L) QI:=by obtain⟨d,L1,e1,k,kvs,ep,rfl,e2,q⟩:=h;exact⟨_,_,L1,by unfold Ke;rw[e1,AS];simp only[e2],q⟩
theorem AHE(h:W2 (f ρ L) λd L1=>Sr d L1 λk kvs ep=>QI (Gr kvs) (λL'=>decide (L'[k]?=some (.dt kvs ep))) L1):WI (Kd f ρ L) QI:=by obtain⟨d,L1,e1,k,kvs,ep,rfl,e2,q⟩:=h;exact⟨_,_,L1,by unfold Kd;rw[e1,AS];simp only[e2],q⟩
def Ym(ds:List D)(L:AD)(P:Nat->List D->Prop):Prop:=∃k xs,ds=[.ref k]/\L[k]?=some (.lst xs)/\P k xs
theorem AHp{P:Nat->List D->Prop}{xs:List D}(e:L[k]?=some (.lst xs))(h:P k xs):Ym [.ref k] L P:=⟨k,xs,rfl,e,h⟩
theorem AHG(h:W2 (a ρ L) λds L1=>Ym ds L1 λk xs=>QI (Fc xs) (λL'=>decide (L'[k]?=some (.lst xs))) L1):WI (Lc a ρ L) QI:=by obtain⟨ds,L1,e1,k,xs,rfl,e2,q⟩:=h;exact⟨_,_,L1,by unfold Lc;rw[e1,AS];simp only[e2],q⟩
def AGl(n:Nat)(ds:List D)(L:AD)(P:List D->List (List D)->Prop):Prop:=∃ys yss,seqs ds L=some (ys::yss)/\((yss.all λzs=>zs.length == ys.length)=true/\yss.length<100/\yss.length+1=n)/\P ys yss
theorem AG9{n:Nat}(h:W2 (a ρ L) λds L1=>AGl n ds L1 λys yss=>QI (Fs ys.length (ys::yss)) (λL'=>decide (seqs ds L'=some (ys::yss))) L1):WI (Jb n a ρ L) QI:=by obtain⟨ds,L1,e1,ys,yss,e2,hc,q⟩:=h;exact⟨_,_,L1,by unfold Jb;rw[e1,AS];simp only[e2];rw[if_pos hc],q⟩
theorem AHw{x z:Str}(h:Q (.bl (Txt.startswith x z)) L):W2 (Nw (.str x) [.str z] L) Q:=⟨_,_,rfl,h⟩
theorem AGR{cs:List Str}{c fl:Str}{g:Int->Int->Int}{fs:List (Str×D)}{i:Int}(e:L[k]?=some (.ins c fs))(hc:c∈cs)(hl:fs.lookup fl=some (.int i))
  (h:W2 (fv ρ L) λy L2=>∃j fs',y=.int j/\L2[k]?=some (.ins c fs')/\fs'.length<1000/\nx ρ (L2.set k (.ins c (Er fl (.int (g i j)) fs')))):Yt cs fl g fv ρ nx (.ref k) L:=⟨k,c,fs,i,rfl,e,hc,hl,h⟩
end
end L3
set_option maxHeartbeats 8000000
namespace L3
open PySem PySem.Spec PyProof.Rows L2
def Mn:D:=D.tup [D.str "small",D.str "great",D.str "figure",D.str "mark",D.str "any"]
def Ml:D:=D.tup [D.tup [D.str "small",D.str "abcdefghijklmnopqrstuvwxyz"],D.tup [D.str "great",D.str "ABCDEFGHIJKLMNOPQRSTUVWXYZ"],D.tup [D.str "figure",D.str "0123456789"],D.tup [D.str "mark",D.str " -.,/"]]
def Mi:D:=D.tup [D.int (1),D.int (2),D.int (-1),D.int (-2)]
def Mf:D:=D.tup [D.str "ahead",D.str "behind"]
def Md:D:=D.tup [D.str "copy",D.str "raise",D.str "sink"]
def Mb:D:=D.tup [D.int (1),D.int (2),D.int (3)]
def MZ:D:=D.int (0)
def Ky:D:=D.int (1)
def Ov:List Str:=["_law_cell_here","_law_most","_law_signs","_law_some","_law_size","_law_text_here","_law_k"]
def Os:SF :=
 (AN (AY 2 (AE (.str "abcdefghijklmnopqrstuvwxyzABCDEFGHIJKLMNOPQRSTUVWXYZ0123456789 -.,/")))
 (AN (AY 3 (AG Ak (Bt (AB (AE (.str "abAB12 -")) (AB (AE (.str "aB 1")) (AB (AE (.str "aab")) (AB (AA 2) AJ))))) (AG Bl (AG CV (AA 0) (AE (.int 32))) (AE (.int 4)))))
 (AN (AY 4 (AG Bl (AA 0) (AG CC (AA 1) (AE (.int 1)))))
 (AN (AY 0 (AG CV (AA 0) (AE (.int 128))))
 (AN (AY 5 (AE (.str "")))
 (AN (CG (Hf (AB (AA 4) AJ)) (Av 6) (AN (AY 5 (AG CC (AA 5) (AG Ak (AA 3) (AG Bl (AA 0) (AT CF (AB (AA 3) AJ))))))
 (AY 0 (AG CV (AA 0) (AT CF (AB (AA 3) AJ))))))
 (Ag (AA 5))))))))
def zm:GL:=Ax (Os) Ov 2
def Oo:List Str:=["_law_cell_here","_law_words_here","_law_number","_law_part","_law_k","_law_word"]
def Oi(zm:GL):SF :=
 (AN (AY 1 (Bt AJ))
 (AN (AY 2 (AG Bl (AA 0) (AE (.int 5))))
 (AN (An (AW (AG Bx (AG Bl (AG CV (AA 0) (AE (.int 5))) (AE (.int 4))) (AE (.int 1)))) (AY 2 (AG CC (AE (.int 5)) (AG Bl (AA 0) (AE (.int 2))))) Az)
 (AN (AY 3 (AG CV (AA 0) (AE (.int 20))))
 (AN (CG (Hf (AB (AA 2) AJ)) (Av 4) (AN (AY 5 (AT zm (AB (AA 3) (AB (AG Ak (Bt (AB (AE (.int 2)) (AB (AE (.int 3)) (AB (AE (.int 3)) (AB (AE (.int 8)) AJ))))) (AG Bl (AG CV (AA 3) (AE (.int 7))) (AE (.int 4)))) AJ))))
 (AN (An (AW (AG Ga (AA 2) (AE (.int 4)))) (AY 5 (ES (AA 5) GV (Dl (AE (.int 2))))) Az)
 (AN (An (AW (AG Bx (AA 5) (AE (.str "")))) (AY 5 (AE (.str "-"))) Az)
 (AN (An (AW (AG (Da true) (AA 5) (AA 1))) (EZ (CZ "list" Fv (AA 1) (AB (AA 5) AJ))) Az)
 (AY 3 (AG CV (AA 3) (AG IH (AE (.int 10)) (AE (.int 6))))))))))
 (Ag (AA 1)))))))
def zh1:GL:=Ax (Oi zm) Oo 1
def Qi:List Str:=["_law_cell_here","_law_kind_here"]
def Qd:SF :=
 (AN (AY 1 (AG Ak (Bt (AB (AE (.str "small")) (AB (AE (.str "great")) (AB (AE (.str "figure")) (AB (AE (.str "mark")) (AB (AE (.str "any")) AJ)))))) (AG Bl (AA 0) (AE (.int 5)))))
 (Ag (DN (AB (AA 1) (AB (AG Ak (Bt (AB (AE (.int 1)) (AB (AE (.int 2)) (AB (BU Hg (AE (.int 1))) (AB (BU Hg (AE (.int 2))) AJ))))) (AG Bl (AG CV (AA 0) (AE (.int 5))) (AE (.int 4)))) (AB (AG Ak (Bt (AB (AE (.str "ahead")) (AB (AE (.str "behind")) AJ))) (AG Bl (AG CV (AA 0) (AE (.int 20))) (AE (.int 2)))) AJ))))))
def zc1:GL:=Ax (Qd) Qi 1
def Qa:List Str:=["_law_cell_here","_law_words_here","_law_deed"]
def Tr(zc1:GL):SF :=
 (AN (An (Jr (AW (AG Bx (AG Bl (AA 0) (AE (.int 7))) (AE (.int 0)))) (AW (AG Ga (AT CF (AB (AA 1) AJ)) (AE (.int 0))))) (Ag (DN (AB (AE (.str "word")) (AB (AG Ak (AA 1) (AG Bl (AG CV (AA 0) (AE (.int 7))) (AT CF (AB (AA 1) AJ)))) AJ)))) Az)
 (AN (AY 2 (AG Ak (Bt (AB (AE (.str "copy")) (AB (AE (.str "raise")) (AB (AE (.str "sink")) (AB (AE (.str "copy")) AJ))))) (AG Bl (AG CV (AA 0) (AE (.int 7))) (AE (.int 4)))))
 (Ag (DN (AB (AA 2) (AB (AT zc1 (AB (AG CV (AA 0) (AE (.int 28))) AJ)) (AB (AT zc1 (AB (AG CV (AA 0) (AE (.int 1120))) AJ)) AJ)))))))
def zi1:GL:=Ax (Tr zc1) Qa 2
def QX:List Str:=["_law_sign"]
def QS:SF :=
 (AN (An (AW (CZ "str" (IG Txt.islower) (AA 0) AJ)) (Ag (AE (.str "small"))) Az)
 (AN (An (AW (CZ "str" (IG Txt.isupper) (AA 0) AJ)) (Ag (AE (.str "great"))) Az)
 (AN (An (AW (CZ "str" (IG Txt.isdigit) (AA 0) AJ)) (Ag (AE (.str "figure"))) Az)
 (Ag (AE (.str "mark"))))))
def zj1:GL:=Ax (QS) QX 1
def MX:List Str:=["_law_place_here","_law_text_here","_law_kind_here","_law_nth","_law_edge","_law_found"]
def QN(zj1:GL):SF :=
 (AN (Jp (AA 0) 3 (CM (Av 2) (CM (Av 3) (CM (Av 4) FY))))
 (AN (AY 5 (Dc (Hf (AB (AT CF (AB (AA 1) AJ)) AJ)) 1 [2,1] (Av 0) (Di (AW (AG Bx (AA 1) (AE (.str "any")))) (AW (AG Bx (AT zj1 (AB (AG Ak (AA 2) (AA 0)) AJ)) (AA 1)))) (AA 0)))
 (AN (An (AW (AG gLt (AT CF (AB (AA 5) AJ)) (AT Lo (AB (AA 3) AJ)))) (Ag (AE .non)) Az)
 (AN (An (AW (AG Ga (AA 3) (AE (.int 0)))) (Ag (AG CC (AG Ak (AA 5) (AG Gx (AA 3) (AE (.int 1)))) (AT Ll (AB (AG Bx (AA 4) (AE (.str "behind"))) AJ)))) Az)
 (Ag (AG CC (AG Ak (AA 5) (AA 3)) (AT Ll (AB (AG Bx (AA 4) (AE (.str "behind"))) AJ))))))))
def zu:GL:=Ax (QN zj1) MX 2
def QK:List Str:=["_law_piece_here","_law_text_here","_law_start","_law_end"]
def MW(zu:GL):SF :=
 (AN (An (AW (AG Bx (AG Ak (AA 0) (AE (.int 0))) (AE (.str "word")))) (Ag (AG Ak (AA 0) (AE (.int 1)))) Az)
 (AN (AY 2 (AT zu (AB (AG Ak (AA 0) (AE (.int 1))) (AB (AA 1) AJ))))
 (AN (AY 3 (AT zu (AB (AG Ak (AA 0) (AE (.int 2))) (AB (AA 1) AJ))))
 (AN (An (Di (AW (AG Lk (AA 2) (AE .non))) (Di (AW (AG Lk (AA 3) (AE .non))) (AW (AG Nz (AA 2) (AA 3))))) (Ag (AE .non)) Az)
 (AN (An (AW (AG Bx (AG Ak (AA 0) (AE (.int 0))) (AE (.str "raise")))) (Ag (CZ "str" (gS0s Txt.upper) (ES (AA 1) (Dl (AA 2)) (Dl (AA 3))) AJ)) Az)
 (AN (An (AW (AG Bx (AG Ak (AA 0) (AE (.int 0))) (AE (.str "sink")))) (Ag (CZ "str" (gS0s Txt.lower) (ES (AA 1) (Dl (AA 2)) (Dl (AA 3))) AJ)) Az)
 (Ag (ES (AA 1) (Dl (AA 2)) (Dl (AA 3))))))))))
def zg:GL:=Ax (MW zu) QK 2
def MV:List Str:=["_law_cell_here","_law_words_here","_law_texts","_law_piece_here","_law_whole","_law_some"]
def QG(zi1:GL)(zg:GL):SF :=
 (AN (AY 3 (AT zi1 (AB (AA 0) (AB (AA 1) AJ))))
 (AN (An (AW (AG Bx (AG Ak (AA 3) (AE (.int 0))) (AE (.str "word")))) (Ag (AA 3)) Az)
 (AN (AY 4 (DN (AB (AG Ak (AA 3) (AE (.int 0))) (AB (DN (AB (AE (.str "any")) (AB (AE (.int 1)) (AB (AE (.str "ahead")) AJ)))) (AB (DN (AB (AE (.str "any")) (AB (BU Hg (AE (.int 1))) (AB (AE (.str "behind")) AJ)))) AJ)))))
 (AN (CG (CB (Bt (AB (AA 3) (AB (DN (AB (AG Ak (AA 3) (AE (.int 0))) (AB (AG Ak (AA 3) (AE (.int 2))) (AB (AG Ak (AA 3) (AE (.int 1))) AJ)))) (AB (AA 4) AJ))))) (Av 5) (An (AW (AG (Da true) (AE .non) (Dc (CB (AA 2)) 1 [5] (Av 0) EE (AT zg (AB (AA 1) (AB (AA 0) AJ)))))) (Ag (AA 5)) Az))
 (AN (An (AW (AG Bx (AT CF (AB (AA 1) AJ)) (AE (.int 0)))) (Ag (AE .non)) Az)
 (Ag (DN (AB (AE (.str "word")) (AB (AG Ak (AA 1) (AG Bl (AG CV (AA 0) (AE (.int 28))) (AT CF (AB (AA 1) AJ)))) AJ)))))))))
def zk1:GL:=Ax (QG zi1 zg) MV 3
def QD:List Str:=["_law_cell_here","_law_words_here","_law_texts","_law_row_here","_law_part","_law_k","_law_piece_here"]
def Pw(zk1:GL):SF :=
 (AN (AY 3 (Bt AJ))
 (AN (AY 4 (AG CV (AA 0) (AE (.int 3))))
 (AN (CG (Hf (AB (AG CC (AE (.int 1)) (AG Bl (AA 0) (AE (.int 3)))) AJ)) (Av 5) (AN (AY 6 (AT zk1 (AB (AA 4) (AB (AA 1) (AB (AA 2) AJ)))))
 (AN (An (AW (AG Kh (AA 6) (AE .non))) (EZ (CZ "list" Fv (AA 3) (AB (AA 6) AJ))) Az)
 (AY 4 (AG CV (AA 4) (AE (.int 1000003)))))))
 (Ag (AT GZ (AB (AA 3) AJ))))))
def zl1:GL:=Ax (Pw zk1) QD 3
def Ps:List Str:=["_law_script","_law_k","_law_number"]
def Po:SF :=
 (AN (An (AW (AG gLt (AA 1) (AT CF (AB (AA 0) AJ)))) (Ag (AG Bl (AG Eu (AG CC (AG Ak (AA 0) (AA 1)) (AE (.int 7919))) (AE (.int 2718281828459045235360287471352662497757))) (AG IH (AE (.int 10)) (AE (.int 40))))) Az)
 (AN (AY 2 (AG CC (AG Eu (AG Eu (AA 1) (AA 1)) (AE (.int 7919))) (AE (.int 5))))
 (AN (An (AW (AG Ga (AT CF (AB (AA 0) AJ)) (AE (.int 0)))) (AY 2 (AG CC (AA 2) (AG Eu (AG Bl (AG Ak (AA 0) (AG Bl (AG Eu (AA 1) (AE (.int 7))) (AT CF (AB (AA 0) AJ)))) (AG IH (AE (.int 10)) (AE (.int 40)))) (AE (.int 48271))))) Az)
 (Ag (AG Bl (AG Eu (AG Bl (AG Eu (AA 2) (AA 2)) (AE (.int 2147483629))) (AE (.int 2718281828459045235360287471352662497757))) (AG IH (AE (.int 10)) (AE (.int 40))))))))
def za:GL:=Ax (Po) Ps 2
def MT:List Str:=["_law_row_here","_law_text_here","_law_found"]
def Pj(zg:GL):SF :=
 (AN (AY 2 (Dc (CB (AA 0)) 1 [1] (Av 0) EE (AT zg (AB (AA 0) (AB (AA 1) AJ)))))
 (AN (An (AW (AG (Da false) (AE .non) (AA 2))) (Ag (AE .non)) Az)
 (Ag (CZ "str" Lj (AE (.str "")) (AB (AA 2) AJ)))))
def zo:GL:=Ax (Pj zg) MT 2
def MR:List Str:=["_law_row_here","_law_texts","_law_cell_here","_law_examples","_law_at","_law_text_here","_law_answer","_law_other"]
def Pf(zo:GL):SF :=
 (AN (AY 3 (Dc (CB (AA 1)) 1 [0] (Av 0) EE (DN (AB (AA 0) (AB (AT zo (AB (AA 1) (AB (AA 0) AJ))) AJ)))))
 (AN (An (Jr (AW (AG Bx (AG Bl (AA 2) (AE (.int 4))) (AE (.int 1)))) (AW (AG Ga (AT CF (AB (AA 3) AJ)) (AE (.int 0))))) (AN (AY 4 (AG Bl (AG CV (AA 2) (AE (.int 4))) (AT CF (AB (AA 3) AJ))))
 (AN (Jp (AG Ak (AA 3) (AA 4)) 2 (CM (Av 5) (CM (Av 6) FY)))
 (AN (AY 7 (AG Ak (Bt (AB (ES (AG CC (AA 6) (AE (.str "a"))) GV (Dl (AE (.int 72)))) (AB (ES (AA 6) GV (Dl (BU Hg (AE (.int 1))))) (AB (AG CC (ES (AA 6) (Dl (AE (.int 1))) GV) (ES (AA 6) GV (Dl (AE (.int 1))))) (AB (AE (.str "")) AJ))))) (AG Bl (AG CV (AA 2) (AE (.int 16))) (AE (.int 4)))))
 (AY 3 (AG CC (AG CC (ES (AA 3) GV (Dl (AA 4))) (Bt (AB (DN (AB (AA 5) (AB (AA 7) AJ))) AJ))) (ES (AA 3) (Dl (AG CC (AA 4) (AE (.int 1)))) GV)))))) Az)
 (Ag (AA 3))))
def zm1:GL:=Ax (Pf zo) MR 3
def Kx:List Str:=["_law_script","_law_start","_law_most","_law_cell_here","_law_number","_law_rows","_law_some","_law_k","_law_at","_law_sign","_law_texts","_law_text_here"]
def Pc(zm:GL)(za:GL):SF :=
 (AN (AY 3 (AT za (AB (AA 0) (AB (AA 1) AJ))))
 (AN (AY 4 (AG CC (AE (.int 1)) (AG Bl (AA 3) (AE (.int 3)))))
 (AN (An (AW (AG Bx (AG Bl (AG CV (AA 3) (AE (.int 24))) (AE (.int 4))) (AE (.int 1)))) (AN (AY 4 (AG CC (AE (.int 4)) (AG Bl (AA 3) (AE (.int 3)))))
 (AY 2 (AT Lg (AB (AA 2) (AB (AE (.int 6)) AJ))))) Az)
 (AN (AY 5 (Dc (Hf (AB (AA 4) AJ)) 1 [] (Av 0) EE (AE (.str ""))))
 (AN (AY 6 (AG Ak (Bt (AB (AE (.str "aB1 -")) (AB (AE (.str "aab")) (AB (AE (.str "abAB12 -")) (AB (AE (.str "abcXYZ019 -.,/")) AJ))))) (AG Bl (AG CV (AA 3) (AE (.int 6))) (AE (.int 4)))))
 (AN (An (AW (AG Bx (AG Bl (AG CV (AA 3) (AE (.int 3))) (AE (.int 2))) (AE (.int 0)))) (AY 5 (Dc (Hf (AB (AA 4) AJ)) 1 [2,0,1] (Av 0) EE (AT zm (AB (AT za (AB (AA 2) (AB (AG CC (AG CC (AA 3) (AE (.int 1))) (AA 0)) AJ))) (AB (AA 1) AJ))))) (CG (Lb (AB (AG CC (AA 1) (AE (.int 1))) (AB (AT Lg (AB (AT CF (AB (AA 0) AJ)) (AB (AG CC (AG CC (AA 1) (AE (.int 1))) (AG Eu (AA 2) (AA 4))) AJ))) AJ))) (Av 7) (AN (AY 8 (AG Bl (AA 7) (AA 4)))
 (AN (AY 9 (AG Ak (AA 6) (AG Bl (AT za (AB (AA 0) (AB (AA 7) AJ))) (AT CF (AB (AA 6) AJ)))))
 (Ck (AA 5) (AA 8) (AG CC (AG Ak (AA 5) (AA 8)) (AA 9)))))))
 (AN (An (AW (AG Bx (AG Bl (AG CV (AA 3) (AE (.int 96))) (AE (.int 8))) (AE (.int 3)))) (Ck (AA 5) (AE (.int 0)) (ES (AG Eu (ES (AA 6) GV (Dl (AG CC (AE (.int 1)) (AG Bl (AG CV (AA 3) (AE (.int 768))) (AE (.int 2)))))) (AE (.int 24))) GV (Dl (AE (.int 24))))) Az)
 (AN (AY 10 (Bt AJ))
 (AN (CG (CB (AA 5)) (Av 11) (An (AW (AG (Da true) (AA 11) (AA 10))) (EZ (CZ "list" Fv (AA 10) (AB (AA 11) AJ))) Az))
 (Ag (AA 10)))))))))))
def zn1:GL:=Ax (Pc zm za) Kx 3
def MQ:List Str:=["_law_script","_law_words_here","_law_texts","_law_row_here"]
def Pa(zh1:GL)(zl1:GL)(za:GL)(zm1:GL)(zn1:GL):SF :=
 (AN (AY 1 (AT zh1 (AB (AT za (AB (AA 0) (AB (AE (.int 0)) AJ))) AJ)))
 (AN (AY 2 (Dc (CB (AT zn1 (AB (AA 0) (AB (AE (.int 4)) (AB (AE (.int 10)) AJ))))) 1 [1] (Av 0) (Di (AW (AG Gy (AA 0) (AE (.str "")))) (AW (AG Ga (AT CF (AB (AA 1) AJ)) (AE (.int 0))))) (AA 0)))
 (AN (AY 3 (AT zl1 (AB (AT za (AB (AA 0) (AB (AE (.int 1)) AJ))) (AB (AA 1) (AB (AA 2) AJ)))))
 (Ag (Bt (AB (AA 1) (AB (AA 3) (AB (AT zm1 (AB (AA 3) (AB (AA 2) (AB (AT za (AB (AA 0) (AB (AE (.int 2)) AJ))) AJ)))) AJ))))))))
def zo1:GL:=Ax (Pa zh1 zl1 za zm1 zn1) MQ 1
def PV:List Str:=["groups","members","answers","pieces","number","piece"]
def PR:SF :=
 (AN (AY 1 Jk)
 (AN (CG (Kd (AA 0)) (Fu 2 (CM (Av 2) (CM (Av 3) FY))) (CG (Lc (AB (AA 3) AJ)) (Fu 2 (CM (Av 4) (CM (Av 5) FY))) (Ji (AA 1) (AA 5) (DN (AB (AA 2) (AB (AA 4) AJ))))))
 (Ag (AA 1))))
def zd1:GL:=Ax (PR) PV 1
def PM:List Str:=["self","ways"]
def PJ:SF :=
 (AN (GS ["Node"] "ways" (AA 0) (AA 1))
 (GS ["Node"] "arms" (AA 0) Jk))
def zi:GL:=Ax (PJ) PM 2
def PC:List Str:=["self","words","groups"]
def Oy(zd1:GL)(zi:GL):SF :=
 (AN (GS ["Table"] "words" (AA 0) (AA 1))
 (AN (GS ["Table"] "groups" (AA 0) (AA 2))
 (AN (GS ["Table"] "members" (AA 0) (AT zd1 (AB (AA 2) AJ)))
 (AN (GS ["Table"] "nodes" (AA 0) (Bt (AB (Hw "Node" zi (AB (AE (.int 1)) AJ)) (AB (Hw "Node" zi (AB (AE (.int 0)) AJ)) AJ))))
 (AN (GS ["Table"] "node_numbers" (AA 0) Jk)
 (GS ["Table"] "roots" (AA 0) (Bt AJ)))))))
def zp1:GL:=Ax (Oy zd1 zi) PC 3
def Ou:List Str:=["places","kind","nth","edge"]
def Oq:SF :=
 (AN (AY 0 (Bt AJ))
 (AN (CG (CB (AE Mn)) (Av 1) (CG (CB (AE Mi)) (Av 2) (CG (CB (AE Mf)) (Av 3) (EZ (CZ "list" Fv (AA 0) (AB (DN (AB (AA 1) (AB (AA 2) (AB (AA 3) AJ)))) AJ))))))
 (Ag (AA 0))))
def zq1:GL:=Ax (Oq) Ou 0
def On:List Str:=["sign","kind","signs"]
def Oh:SF :=
 (AN (CG (CB (AE Ml)) (Fu 2 (CM (Av 1) (CM (Av 2) FY))) (An (AW (AG (Da false) (AA 0) (AA 2))) (Ag (AA 1)) Az))
 (Ag (AE .non)))
def zr1:GL:=Ax (Oh) On 1
def Qh:List Str:=["kind","sign"]
def Qc(zr1:GL):SF :=
 (Ag (KS (AG Bx (AA 0) (AE (.str "any"))) (AG Bx (AT zr1 (AB (AA 1) AJ)) (AA 0))))
def zs1:GL:=Ax (Qc zr1) Qh 2
def MP:List Str:=["place","text","kind","nth","numbers","number"]
def QZ(zs1:GL):SF :=
 (AN (AY 2 (AG Ak (AA 0) (AE (.int 0))))
 (AN (AY 3 (AG Ak (AA 0) (AE (.int 1))))
 (AN (AY 4 (Dc (Ld (AB (AA 1) AJ)) 2 [2] (Fu 2 (CM (Av 0) (CM (Av 1) FY))) (AW (AT zs1 (AB (AA 2) (AB (AA 1) AJ)))) (AA 0)))
 (AN (An (AW (AG gLt (AT CF (AB (AA 4) AJ)) (AT Lo (AB (AA 3) AJ)))) (Ag (AE .non)) Az)
 (AN (AY 5 (IA (AW (AG Ga (AA 3) (AE (.int 0)))) (AG Ak (AA 4) (AG Gx (AA 3) (AE (.int 1)))) (AG Ak (AA 4) (AA 3))))
 (Ag (IA (AW (AG Bx (AG Ak (AA 0) (AE (.int 2))) (AE (.str "ahead")))) (AA 5) (AG CC (AA 5) (AE (.int 1))))))))))
def zz:GL:=Ax (QZ zs1) MP 2
def MO:List Str:=["texts","places","place","spots"]
def QW(zq1:GL)(zz:GL):SF :=
 (AN (AY 1 Jk)
 (AN (CG (CB (AT zq1 AJ)) (Av 2) (AN (AY 3 (AT GZ (AB (Dc (CB (AA 0)) 1 [2] (Av 0) EE (AT zz (AB (AA 1) (AB (AA 0) AJ)))) AJ)))
 (An (AW (AG (Da true) (AE .non) (AA 3))) (EZ (CZ "list" Fv (CZ "dict" IE (AA 1) (AB (AA 3) (AB (Bt AJ) AJ))) (AB (AA 2) AJ))) Az)))
 (Ag (AA 1))))
def zt1:GL:=Ax (QW zq1 zz) MO 1
def MN:List Str:=["answers","wanted"]
def QR:SF :=
 (Ag (AT Ln (AB (Dc (Jb 2 (AB (AA 0) (AB (AA 1) AJ))) 2 [] (Fu 2 (CM (Av 0) (CM (Av 1) FY))) EE (AG (Da false) (AA 0) (AA 1))) AJ)))
def zu1:GL:=Ax (QR) MN 2
def QM:List Str:=["groups","wanted","answers","pieces"]
def QJ(zu1:GL):SF :=
 (An (AW (AT zu1 (AB (AA 2) (AB (AA 1) AJ)))) (EZ (CZ "list" Je (CZ "dict" IE (AA 0) (AB (AA 2) (AB (Bt AJ) AJ))) (AB (AA 3) AJ))) Az)
def ze1:GL:=Ax (QJ zu1) QM 4
def QF:List Str:=["texts","starts","ends","signs","text","start","end"]
def QC:SF :=
 (AN (AY 3 (Bt AJ))
 (AN (CG (Jb 3 (AB (AA 0) (AB (AA 1) (AB (AA 2) AJ)))) (Fu 3 (CM (Av 4) (CM (Av 5) (CM (Av 6) FY)))) (AN (An (AW (AG Nz (AA 5) (AA 6))) (Ag (AE .non)) Az)
 (EZ (CZ "list" Fv (AA 3) (AB (ES (AA 4) (Dl (AA 5)) (Dl (AA 6))) AJ)))))
 (Ag (AA 3))))
def zv1:GL:=Ax (QC) QF 3
def MM:List Str:=["deed","starts","ends","pieces","start"]
def Pv:SF :=
 (AN (AY 3 (Bt AJ))
 (AN (CG (CB (AA 1)) (Av 4) (EZ (CZ "list" Je (AA 3) (AB (Dc (CB (AA 2)) 1 [0,4] (Av 0) EE (DN (AB (AA 1) (AB (AA 2) (AB (AA 0) AJ))))) AJ))))
 (Ag (AA 3))))
def zw1:GL:=Ax (Pv) MM 3
def Pr:List Str:=["deed","signs"]
def Pn:SF :=
 (AN (An (AW (AG Bx (AA 0) (AE (.str "copy")))) (Ag (AA 1)) Az)
 (Ag (IA (AW (AG Bx (AA 0) (AE (.str "raise")))) (CZ "str" (gS0s Txt.upper) (AA 1) AJ) (CZ "str" (gS0s Txt.lower) (AA 1) AJ))))
def zx1:GL:=Ax (Pn) Pr 2
def Kw:List Str:=["words","texts","wanted","groups","word","places","starts","ends","signs","deed","answers"]
def Ph(zt1:GL)(ze1:GL)(zv1:GL)(zw1:GL)(zx1:GL):SF :=
 (AN (AY 3 Jk)
 (AN (CG (CB (AA 0)) (Av 4) (EZ (AT ze1 (AB (AA 3) (AB (AA 2) (AB (AT GZ (AB (Dc (CB (AA 1)) 1 [4] (Av 0) EE (AA 1)) AJ)) (AB (Bt (AB (DN (AB (AE (.str "word")) (AB (AA 4) AJ))) AJ)) AJ)))))))
 (AN (AY 5 (AT zt1 (AB (AA 1) AJ)))
 (AN (CG (Ke (AA 5)) (Av 6) (CG (Ke (AA 5)) (Av 7) (AN (AY 8 (AT zv1 (AB (AA 1) (AB (AA 6) (AB (AA 7) AJ)))))
 (An (AW (AG Kh (AA 8) (AE .non))) (CG (CB (AE Md)) (Av 9) (AN (AY 10 (AT GZ (AB (Dc (CB (AA 8)) 1 [9] (Av 0) EE (AT zx1 (AB (AA 1) (AB (AA 0) AJ)))) AJ)))
 (EZ (AT ze1 (AB (AA 3) (AB (AA 2) (AB (AA 10) (AB (AT zw1 (AB (AA 9) (AB (AG Gz (AA 5) (AA 6)) (AB (AG Gz (AA 5) (AA 7)) AJ)))) AJ)))))))) Az))))
 (Ag (AA 3))))))
def zy1:GL:=Ax (Ph zt1 ze1 zv1 zw1 zx1) Kw 3
def Pe:List Str:=["table","length","rest"]
def Pb:SF :=
 (AN (An (AW (AG Bx (AA 1) (AE (.int 1)))) (Ag (IA (AW (AG (Iu false) (AA 2) (BU (Bn ["Table"] "groups") (AA 0)))) (Bt (AB (AA 2) AJ)) (Bt AJ))) Az)
 (Ag (AT Lh (AB (BU (Bn ["Table"] "groups") (AA 0)) AJ))))
def zz1:GL:=Ax (Pb) Pe 3
def PZ:List Str:=["rest","answers","parts","part","answer"]
def PU:SF :=
 (AN (AY 2 (Bt AJ))
 (AN (CG (Jb 2 (AB (AA 0) (AB (AA 1) AJ))) (Fu 2 (CM (Av 3) (CM (Av 4) FY))) (AN (An (Ds (AW (CZ "str" Nw (AA 3) (AB (AA 4) AJ)))) (Ag (AE .non)) Az)
 (EZ (CZ "list" Fv (AA 2) (AB (ES (AA 3) (Dl (AT CF (AB (AA 4) AJ))) GV) AJ)))))
 (Ag (AT GZ (AB (AA 2) AJ)))))
def za2:GL:=Ax (PU) PZ 2
def PQ:List Str:=["table","length","rest","node","answers","behind","number"]
def PL(zi:GL)(zz1:GL)(za2:GL)(zq:GL):SF :=
 (AN (AY 3 (Hw "Node" zi (AB (AE (.int 0)) AJ)))
 (AN (CG (CB (AT zz1 (AB (AA 0) (AB (AA 1) (AB (AA 2) AJ))))) (Av 4) (AN (AY 5 (AT za2 (AB (AA 2) (AB (AA 4) AJ))))
 (An (AW (AG Kh (AA 5) (AE .non))) (AN (AY 6 (AT zq (AB (AA 0) (AB (AG Gx (AA 1) (AE (.int 1))) (AB (AA 5) AJ)))))
 (An (AW (AG Gy (AA 6) (AE Ky))) (AN (Ji (BU (Bn ["Node"] "arms") (AA 3)) (AA 4) (DN (AB (BU (Bn ["Node"] "ways") (AA 3)) (AB (AA 6) AJ))))
 (MB ["Node"] "ways" (λi j=>i+j) (AA 3) (AG Eu (AT CF (AB (AG Gz (BU (Bn ["Table"] "groups") (AA 0)) (AA 4)) AJ)) (BU (Bn ["Node"] "ways") (AG Ak (BU (Bn ["Table"] "nodes") (AA 0)) (AA 6)))))) Az)) Az)))
 (AN (An (AW (AG Bx (BU (Bn ["Node"] "ways") (AA 3)) (AE (.int 0)))) (Ag (AE Ky)) Az)
 (AN (EZ (CZ "list" Fv (BU (Bn ["Table"] "nodes") (AA 0)) (AB (AA 3) AJ)))
 (Ag (AG Gx (AT CF (AB (BU (Bn ["Table"] "nodes") (AA 0)) AJ)) (AE (.int 1))))))))
def ML(zq:GL):GL:=Ax (PL zi zz1 za2 zq) PQ 3
def PH:List Str:=["table","length","rest","key"]
def MK(zz3:GL):SF :=
 (AN (An (AW (AG Bx (AA 1) (AE (.int 0)))) (Ag (AE MZ)) Az)
 (AN (AY 3 (DN (AB (AA 1) (AB (AA 2) AJ))))
 (AN (An (AW (AG (Iu true) (AA 3) (BU (Bn ["Table"] "node_numbers") (AA 0)))) (Ji (BU (Bn ["Table"] "node_numbers") (AA 0)) (AA 3) (AT zz3 (AB (AA 0) (AB (AA 1) (AB (AA 2) AJ))))) Az)
 (Ag (AG Gz (BU (Bn ["Table"] "node_numbers") (AA 0)) (AA 3))))))
def IZ:Nat->GL
 |0=>λ_ _=>none
 |n+1=>Ax (MK (ML (IZ n))) PH 3
def zq:GL:=IZ 5
def KA:List Str:=["words","examples","ordered","texts","wanted","table"]
def PB(zp1:GL)(zy1:GL)(zq:GL):SF :=
 (AN (AY 2 (AT Le (AB (AA 1) AJ)))
 (AN (AY 3 (Dc (CB (AA 2)) 1 [] (Av 0) EE (AG Ak (AA 0) (AE (.int 0)))))
 (AN (AY 4 (AT GZ (AB (Dc (CB (AA 2)) 1 [] (Av 0) EE (AG Ak (AA 0) (AE (.int 1)))) AJ)))
 (AN (AY 5 (Hw "Table" zp1 (AB (AT GZ (AB (AA 0) AJ)) (AB (AT zy1 (AB (AA 0) (AB (AA 3) (AB (AA 4) AJ)))) AJ))))
 (AN (EZ (CZ "list" Je (BU (Bn ["Table"] "roots") (AA 5)) (AB (Dc (CB (AE Mb)) 1 [5,4] (Av 0) EE (AT zq (AB (AA 1) (AB (AA 0) (AB (AA 2) AJ))))) AJ)))
 (Ag (AA 5)))))))
def zb2:GL:=Ax (PB zp1 zy1 zq) KA 2
def Mr:List Str:=["table"]
def Ox:SF :=
 (Ag (AT Nv (AB (Dc (CB (BU (Bn ["Table"] "roots") (AA 0))) 1 [0] (Av 0) EE (BU (Bn ["Node"] "ways") (AG Ak (BU (Bn ["Table"] "nodes") (AA 1)) (AA 0)))) AJ)))
def zf1:GL:=Ax (Ox) Mr 1
def Ot:List Str:=["node","number","found","answers","arm"]
def Op:SF :=
 (AN (AY 2 (AE .non))
 (AN (CG (Kd (BU (Bn ["Node"] "arms") (AA 0))) (Fu 2 (CM (Av 3) (CM (Av 4) FY))) (AN (An (AW (AG Ga (AG Ak (AA 4) (AE (.int 0))) (AA 1))) SQ Az)
 (AY 2 (AA 3))))
 (Ag (AA 2))))
def zc2:GL:=Ax (Op) Ot 2
def Om:List Str:=["table","root","number","pieces","node","answers","arm","behind","within"]
def Og(zc2:GL):SF :=
 (AN (AY 3 (Bt AJ))
 (AN (AY 4 (AG Ak (BU (Bn ["Table"] "nodes") (AA 0)) (AA 1)))
 (AN (Qm (AW (AG Ga (AT Li (AB (BU (Bn ["Node"] "arms") (AA 4)) AJ)) (AE (.int 0)))) (AN (AY 5 (AT zc2 (AB (AA 4) (AB (AA 2) AJ))))
 (AN (AY 6 (AG Gz (BU (Bn ["Node"] "arms") (AA 4)) (AA 5)))
 (AN (AY 7 (AG Ak (BU (Bn ["Table"] "nodes") (AA 0)) (AG Ak (AA 6) (AE (.int 1)))))
 (AN (AY 8 (AG Gx (AA 2) (AG Ak (AA 6) (AE (.int 0)))))
 (AN (EZ (CZ "list" Fv (AA 3) (AB (AG Ak (AG Gz (BU (Bn ["Table"] "groups") (AA 0)) (AA 5)) (AG CV (AA 8) (BU (Bn ["Node"] "ways") (AA 7)))) AJ)))
 (AN (AY 2 (AG Bl (AA 8) (BU (Bn ["Node"] "ways") (AA 7))))
 (AY 4 (AA 7)))))))))
 (Ag (AT GZ (AB (AA 3) AJ))))))
def zh:GL:=Ax (Og zc2) Om 3
def zw:List Str:=["table","number","root","ways"]
def LC(zh:GL):SF :=
 (AN (An (AW (AG gLt (AA 1) (AE (.int 0)))) JU Az)
 (AN (CG (CB (BU (Bn ["Table"] "roots") (AA 0))) (Av 2) (AN (AY 3 (BU (Bn ["Node"] "ways") (AG Ak (BU (Bn ["Table"] "nodes") (AA 0)) (AA 2))))
 (AN (An (AW (AG gLt (AA 1) (AA 3))) (Ag (AT zh (AB (AA 0) (AB (AA 2) (AB (AA 1) AJ))))) Az)
 (Jo 1 (λi j=>i-j) (AA 3)))))
 JU))
def zf:GL:=Ax (LC zh) zw 2
def Qg(zh:GL):SX :=
 (KL (An (AW (AG gLt (AA 1) (AE (.int 0)))) JU Az) (La (AW (AG gLt (AA 1) (AE (.int 0)))) (LL "NoNumber") LU)
 (KL (CG (CB (BU (Bn ["Table"] "roots") (AA 0))) (Av 2) (AN (AY 3 (BU (Bn ["Node"] "ways") (AG Ak (BU (Bn ["Table"] "nodes") (AA 0)) (AA 2))))
 (AN (An (AW (AG gLt (AA 1) (AA 3))) (Ag (AT zh (AB (AA 0) (AB (AA 2) (AB (AA 1) AJ))))) Az)
 (Jo 1 (λi j=>i-j) (AA 3))))) LU
 (LL "NoNumber")))
def za1:HN:=KN (Qg zh) zw 2
def LB:List Str:=["_law_table","_law_number","_law_caught","_law_kinds","error"]
def Mq(zf:GL)(za1:HN):SF :=
 (AN (AY 2 (AE (.bl false)))
 (AN (AY 3 (AE .non))
 (AN (Mx zf za1 (AB (AA 0) (AB (AA 1) AJ)) (only "NoNumber") (AY 2 (AE (.bl true))))
 (AN (My zf za1 (AB (AA 0) (AB (AA 1) AJ)) (only "NoNumber") 4 (AY 3 (Bt (AB (Ja 4 (JR "NoNumber" true)) (AB (Ja 4 (JR "NoNumber" false)) AJ)))))
 (Ag (IS (AA 2) (AG Lm (AA 3) (Bt (AB (AE (.bl true)) (AB (AE (.bl false)) AJ))))))))))
def zx:GL:=Ax (Mq zf za1) LB 2
def Qb:List Str:=["_law_thing"]
def QY:SF :=
 (AN (An (Di (Ds (AW (AT FF (AB (AA 0) (AB (AE (.ty "tuple")) AJ))))) (AW (AG Gy (AT CF (AB (AA 0) AJ)) (AE (.int 3))))) (Ag (AE (.bl false))) Az)
 (AN (An (Di (Ds (AW (AT FF (AB (AG Ak (AA 0) (AE (.int 1))) (AB (AE (.ty "int")) AJ))))) (Di (AW (AT FF (AB (AG Ak (AA 0) (AE (.int 1))) (AB (AE (.ty "bool")) AJ)))) (AW (AG (Da true) (AG Ak (AA 0) (AE (.int 1))) (DN (AB (AE (.int 1)) (AB (AE (.int 2)) (AB (BU Hg (AE (.int 1))) (AB (BU Hg (AE (.int 2))) AJ))))))))) (Ag (AE (.bl false))) Az)
 (AN (An (Di (Ds (AW (AT FF (AB (AG Ak (AA 0) (AE (.int 0))) (AB (AE (.ty "str")) AJ))))) (Ds (AW (AT FF (AB (AG Ak (AA 0) (AE (.int 2))) (AB (AE (.ty "str")) AJ)))))) (Ag (AE (.bl false))) Az)
 (Ag (IS (AG (Da false) (AG Ak (AA 0) (AE (.int 0))) (DN (AB (AE (.str "small")) (AB (AE (.str "great")) (AB (AE (.str "figure")) (AB (AE (.str "mark")) (AB (AE (.str "any")) AJ))))))) (AG (Da false) (AG Ak (AA 0) (AE (.int 2))) (DN (AB (AE (.str "ahead")) (AB (AE (.str "behind")) AJ)))))))))
def zg1:GL:=Ax (QY) Qb 1
def QV:List Str:=["_law_thing","_law_words_here","_law_piece_here"]
def QQ(zg1:GL):SF :=
 (AN (An (Di (Ds (AW (AT FF (AB (AA 0) (AB (AE (.ty "tuple")) AJ))))) (Ds (AW (Jm Nx Nx (AE (.int 1)) (AT CF (AB (AA 0) AJ)) (AE (.int 3)))))) (Ag (AE (.bl false))) Az)
 (AN (CG (CB (AA 0)) (Av 2) (AN (An (Di (Ds (AW (AT FF (AB (AA 2) (AB (AE (.ty "tuple")) AJ))))) (Di (AW (AG gLt (AT CF (AB (AA 2) AJ)) (AE (.int 2)))) (Ds (AW (AT FF (AB (AG Ak (AA 2) (AE (.int 0))) (AB (AE (.ty "str")) AJ))))))) (Ag (AE (.bl false))) Az)
 (An (AW (AG Bx (AG Ak (AA 2) (AE (.int 0))) (AE (.str "word")))) (An (Di (AW (AG Gy (AT CF (AB (AA 2) AJ)) (AE (.int 2)))) (Di (Ds (AW (AT FF (AB (AG Ak (AA 2) (AE (.int 1))) (AB (AE (.ty "str")) AJ))))) (AW (AG (Da true) (AG Ak (AA 2) (AE (.int 1))) (AA 1))))) (Ag (AE (.bl false))) Az) (An (Di (AW (AG Gy (AT CF (AB (AA 2) AJ)) (AE (.int 3)))) (AW (AG (Da true) (AG Ak (AA 2) (AE (.int 0))) (DN (AB (AE (.str "copy")) (AB (AE (.str "raise")) (AB (AE (.str "sink")) AJ))))))) (Ag (AE (.bl false))) (An (Di (Ds (AW (AT zg1 (AB (AG Ak (AA 2) (AE (.int 1))) AJ)))) (Ds (AW (AT zg1 (AB (AG Ak (AA 2) (AE (.int 2))) AJ))))) (Ag (AE (.bl false))) Az)))))
 (Ag (AE (.bl true)))))
def zd2:GL:=Ax (QQ zg1) QV 2
def QL:List Str:=["_law_row_here","_law_words_here","_law_examples","_law_text_here","_law_answer"]
def QH(zo:GL)(zd2:GL):SF :=
 (AN (An (Ds (AW (AT zd2 (AB (AA 0) (AB (AA 1) AJ))))) (Ag (AE (.bl false))) Az)
 (AN (CG (CB (AA 2)) (Fu 2 (CM (Av 3) (CM (Av 4) FY))) (An (AW (AG Lf (AT zo (AB (AA 0) (AB (AA 3) AJ))) (AA 4))) (Ag (AE (.bl false))) Az))
 (Ag (AE (.bl true)))))
def ze2:GL:=Ax (QH zo zd2) QL 3
def QE:List Str:=["_law_script","_law_words_here","_law_row_here","_law_examples","_law_table","_law_size","_law_far","_law_number"]
def QB(za:GL)(zo1:GL)(zb2:GL)(zf1:GL)(zf:GL)(zx:GL)(ze2:GL):SF :=
 (AN (Jp (AT zo1 (AB (AA 0) AJ)) 3 (CM (Av 1) (CM (Av 2) (CM (Av 3) FY))))
 (AN (An (AW (AG Bx (AG Bl (AT za (AB (AA 0) (AB (AE (.int 3)) AJ))) (AE (.int 5))) (AE (.int 1)))) (AY 3 (Bt AJ)) Az)
 (AN (AY 4 (AT zb2 (AB (AA 1) (AB (AA 3) AJ))))
 (AN (AY 5 (AT zf1 (AB (AA 4) AJ)))
 (AN (AY 6 (AG Ak (Bt (AB (AE (.int 0)) (AB (AG Bl (AG CV (AT za (AB (AA 0) (AB (AE (.int 3)) AJ))) (AE (.int 5))) (AE (.int 9))) (AB (AG CV (AT za (AB (AA 0) (AB (AE (.int 3)) AJ))) (AE (.int 5))) AJ)))) (AG Bl (AG CV (AT za (AB (AA 0) (AB (AE (.int 3)) AJ))) (AE (.int 5))) (AE (.int 3)))))
 (AN (An (Di (Ds (AW (AT zx (AB (AA 4) (AB (AG CC (AA 5) (AA 6)) AJ))))) (Di (Ds (AW (AT zx (AB (AA 4) (AB (AG Gx (BU Hg (AE (.int 1))) (AA 6)) AJ))))) (Ds (AW (AT zx (AB (AA 4) (AB (AA 5) AJ))))))) (Ag (AE (.bl false))) Az)
 (AN (An (AW (AG Ga (AA 5) (AE (.int 0)))) (CG (CB (Bt (AB (AE (.int 0)) (AB (AG Gx (AA 5) (AE (.int 1))) AJ)))) (Av 7) (An (Ds (AW (AT ze2 (AB (AT zf (AB (AA 4) (AB (AA 7) AJ))) (AB (AA 1) (AB (AA 3) AJ)))))) (Ag (AE (.bl false))) Az)) Az)
 (Ag (IS (AG Bx (AT zf1 (AB (AA 4) AJ)) (AA 5)) (AT zx (AB (AA 4) (AB (AG CC (AA 5) (AA 6)) AJ))))))))))))
def Jz:GL:=Ax (QB za zo1 zb2 zf1 zf zx ze2) QE 1
end L3
set_option maxHeartbeats 4000000
local macro_rules | `(tactic| wtm_at "z_lk") => `(tactic| first | (with_reducible assumption) | (with_reducible exact L3.Aq) | ((with_reducible refine L3.Al ?_); wtm_at "z_lk") | ((with_reducible refine L3.DZ ?_); wtm_at "z_lk") | fail)
local macro_rules | `(tactic| wtm_at "z_pf") => `(tactic| first | exact As _ | assumption | ((with_reducible refine List.IsPrefix.trans ?_ (BB _ _)); wtm_at "z_pf") | ((with_reducible refine L3.NO ?_ ?_); (focus wtm_at "z_pf"); (focus (first | exact Ai _ | simp))) | fail)
local macro_rules | `(tactic| wtm_at "z_1") => do let k1 := Lean.mkIdent `k1; let k2 := Lean.mkIdent `k2; let k3 := Lean.mkIdent `k3; let f := fun (t : Lean.TSyntax `tactic) (s : String) (ks : Array Lean.Ident) (xs : List (Lean.TSyntax `tactic)) => (do let ks ← ks.mapM fun k => `(?$k:ident); let y ← (s.splitOn " ").foldr (fun n t => do let t ← t; `(tactic| first | refine' $(Lean.mkCIdent (.str `L3 n)) $ks* ?_ | $t:tactic)) `(tactic| fail); let y ← `(tactic| with_reducible $y:tactic); let y ← xs.foldlM (fun y x => `(tactic| ($y:tactic; $x:tactic))) y; `(tactic| first | $y:tactic | $t:tactic) : Lean.MacroM (Lean.TSyntax `tactic)); let x0 := fun (k : Lean.Ident) => `(tactic| (case $k:ident => first | rfl | assumption | decide | omega | (simp only [EO, List.length_nil]; omega))); let x1 := fun (k : Lean.Ident) => `(tactic| (case $k:ident => first | decide | omega)); let x2 := fun (k : Lean.Ident) => `(tactic| (case $k:ident => wtm_at "z_lk")); let x3 := fun (k : Lean.Ident) => `(tactic| (case $k:ident => with_unfolding_all rfl)); let x4 := fun (k : Lean.Ident) => `(tactic| (case $k:ident => (first | with_unfolding_all rfl | (refine L3.ty_of_lst (xs := ?y1) ?y2; (case y2 => wtm_at "z_lk")) | (refine L3.ty_of_dk (xs := ?y1) ?y2; (case y2 => wtm_at "z_lk"))))); let x5 := fun (k : Lean.Ident) => `(tactic| (case $k:ident => first | rfl | (unfold L3.Ly; rw [CA]; constructor <;> refine decide_eq_true ?_ <;> omega))); let x6 := fun (k : Lean.Ident) => `(tactic| (case $k:ident => first | rfl | (unfold L3.OI; refine decide_eq_true ?_; omega))); let t ← `(tactic| fail); let t ← f t "AIc" #[k1] [(← x0 k1)]; let t ← f t "AIb" #[k1] [(← x0 k1)]; let t ← f t "AHn AHm" #[k1] [(← x1 k1)]; let t ← f t "" #[k1, k2, k3] [(← x2 k1), (← x2 k2), (← x3 k3)]; let t ← f t "XM" #[k1, k2] [(← x2 k1), (← x3 k2)]; let t ← f t "AIT AHi AIC AH7" #[k1] [(← x2 k1)]; let t ← f t "AIN XD" #[k1, k2, k3] [(← x2 k1), (← x3 k2), (← x3 k3)]; let t ← f t "AHg" #[k1, k2] [(← x2 k1), (← x3 k2)]; let t ← f t "AIJ" #[k1, k2, k3] [(← x3 k1), (← x4 k2), (← x3 k3)]; let t ← f t "AII" #[k1, k2, k3] [(← x3 k1), (← x4 k2), (← x3 k3)]; let t ← f t "AIA UG AHD AHu AHy AHp" #[k1] [(← x2 k1)]; let t ← f t "AE7" #[k1] [(← x5 k1)]; let t ← f t "XG" #[k1] [(← x6 k1)]; let t ← f t "UA AHJ AEO AIE Rx AHf AG7" #[k1] [(← x3 k1)]; let t ← f t "LD Ms AG1 AGx AG0 AG3 AG2 AG5 Qn Qo AHa AHX AAC AHb AHS AHe AHR AHO AHN AAD AHU AHW AHd AHQ AHP AHT AHc AHM AHY AHI AHA AHC AHB AHH AIS AIV AIa AIW AIY AIZ AIX AHr AHq AHh Zv AHK AHL AE9 AHv AH2 AH6 AID AIL AIM AIQ AIO AH4 AH3 AIP AIG AIF AIK AHx AH9 AH8 AIB AIR AH5 AIH AHz AH1 AH0 AGz AG8 AHZ AGy AHV AG6 AAE AG4 AHF AHE AHG AG9 AHw" #[] []; return t
local macro_rules | `(tactic| rfl') => `(tactic| wtm_at "z")
local macro_rules | `(tactic| wtm_at "z") => `(tactic| repeat' (wtm_at "z_1"))
namespace L3
open PySem PySem.Spec PyProof.Rows L2
def OW(n:Int):Prop:=n=1\/n=2\/n=-1\/n=-2
def FN(d:D):Prop:=∃(kind:Str) (nth:Int) (edge:Str),d=.tup [.str kind,.int nth,.str edge]/\OW nth/\(edge = "ahead"\/edge = "behind")/\kind∈([("small":Str),"great","figure","mark","any"]:List Str)
theorem Hi{Q:AKQ}{L:AD}{ns:List Int}(hb:∀z∈ns,Builtin.Int.intBits z<=1048576)(hn:ns.length<=63){k:Int}(h0:0<=k)(h1:k<1000)(q:∀v:Int,0<=v->v<10000000000000000000000000000000000000000->Q (.int v) L):W2 (za [.fz (ns.map .int),.int k] L) Q:=by
 have hC:Builtin.Int.intBits 2718281828459045235360287471352662497757<=132:=by decide
 have hlen:((ns.map D.int).length:Int)=ns.length:=by simp
 unfold za;refine Ci rfl ?_;unfold Po;have fin:∀x:Int,0<=x % 10000000000000000000000000000000000000000/\x % 10000000000000000000000000000000000000000<10000000000000000000000000000000000000000:=λx=>⟨AIg _ (by decide),AIh _ (by decide)⟩;rfl';refine Bm (λhk=>?_) (λhk=>?_)
 .obtain⟨z,hz,ez⟩:=YU h0 (hlen▸hk);rfl';refine XH ez ?_;rfl';refine Gw (Vu (m:=1048577) (PySem.intBits_add_le (m:=1048576) (n:=13) (hb z hz) (by decide)) hC (by decide)) ?_;rfl';exact⟨rfl,As _,q _ (fin _).1 (fin _).2⟩
 .rfl'
  have hkk:0<=k*k/\k*k<=1000000:=by have a1:k*k<=1000*1000:=Int.mul_le_mul (by omega) (by omega) h0 (by omega);exact⟨Int.mul_nonneg h0 h0,by omega⟩
  refine Gw (Na (by omega)) ?_;rfl';refine Gw (Ra (by omega)) ?_;rfl'
  have rest:∀v:Int,0<=v->v<100000000000000000000000000000000000000000000000->cMul v v=true/\∀x:Int,cMul (x % 2147483629) 2718281828459045235360287471352662497757=true:=λv a b=>by
   have hv:Builtin.Int.intBits v<=160:=AGK (by
    have:(v.natAbs:Int)<((2 ^ 160:Nat):Int):=by
     have e:((2 ^ 160:Nat):Int)=1461501637330902918203684832716283019655932542976:=by decide
     rw[e];omega
    exact Int.ofNat_lt.mp this)
   refine⟨Vu hv hv (by decide),λx=>Na ?_⟩;have:=AIg x (b:=2147483629) (by decide);have:=AIh x (b:=2147483629) (by decide);omega
  refine Bm (λhl=>?_) (λhl=>?_)
  .have hpos:0<(ns.length:Int):=by omega
   rfl';refine Gw (Ra (by omega)) ?_;rfl';obtain⟨z,hz,ez⟩:=YU (ns:=ns) (k:=k*7 % ((ns.map D.int).length:Int)) (AIg _ (by omega)) (by have:=AIh (k*7) (b:=((ns.map D.int).length:Int)) (by omega);omega);refine XH ez ?_;rfl';refine Gw (Ra (by omega)) ?_;have hr:=fin z;rfl';obtain⟨f1,f2⟩:=rest (k*k*7919+5+z % 10000000000000000000000000000000000000000*48271) (by omega) (by omega);refine Gw f1 ?_;rfl';refine Gw (f2 _) ?_;rfl';exact⟨rfl,As _,q _ (fin _).1 (fin _).2⟩
  .rfl';obtain⟨f1,f2⟩:=rest (k*k*7919+5) (by omega) (by omega);refine Gw f1 ?_;rfl';refine Gw (f2 _) ?_;rfl';exact⟨rfl,As _,q _ (fin _).1 (fin _).2⟩
theorem Gu{L:AD}{Q:AKQ}{k:Nat}{xs:List D}{n:Int}(c:Int)(e:L[k]?=some (.lst xs))(h0:0<n)(h:n<=xs.length)(q:∀d∈xs,Q d L):W2 (Ak (.ref k) (.int (c % n)) L) Q:=by obtain⟨d,hd,e2⟩:=OK (xs:=xs) c h0 h;exact EY e e2 (q d hd)
theorem WH{Q:AKQ}{L:AD}(c:Int)(q:∀p,FN p->Q p L):W2 (zc1 [.int c] L) Q:=by
 unfold zc1;refine Ci rfl ?_;unfold Qd;rfl';refine Gu c Aq (by decide) (by decide) λd hd=>?_;rfl';refine Gu (c / 5) Aq (by decide) (by decide) λd2 hd2=>?_;rfl';refine Gu (c / 20) Aq (by decide) (by decide) λd3 hd3=>?_;rfl';simp only[Ac,EN,or_false] at hd hd2 hd3
 have hk:∃kind:Str,d=.str kind/\kind∈([("small":Str),"great","figure","mark","any"]:List Str):=by
  rcases hd with rfl|rfl|rfl|rfl|rfl
  .exact⟨_,rfl,by decide⟩
  .exact⟨_,rfl,by decide⟩
  .exact⟨_,rfl,by decide⟩
  .exact⟨_,rfl,by decide⟩
  .exact⟨_,rfl,by decide⟩
 have hn:∃n:Int,d2=.int n/\OW n:=by
  rcases hd2 with rfl|rfl|rfl|rfl
  .exact⟨_,rfl,.inl rfl⟩
  .exact⟨_,rfl,.inr (.inl rfl)⟩
  .exact⟨_,rfl,.inr (.inr (.inl rfl))⟩
  .exact⟨_,rfl,.inr (.inr (.inr rfl))⟩
 have he:∃e:Str,d3=.str e/\(e = "ahead"\/e = "behind"):=by
  rcases hd3 with rfl|rfl
  .exact⟨_,rfl,.inl rfl⟩
  .exact⟨_,rfl,.inr rfl⟩
 obtain⟨kind,rfl,hk⟩:=hk;obtain⟨n,rfl,hn⟩:=hn;obtain⟨e,rfl,he⟩:=he;exact⟨rfl,by wtm_at "z_pf",q _ ⟨kind,n,e,rfl,hn,he,hk⟩⟩
theorem WD{Q:AKQ}{L:AD}(c most:Int)(h0:0<=most)(h1:most<=100)(q:∀t:Str,BJ t->(t.length:Int)<=most->Q (.str t) L):W2 (zm [.int c,.int most] L) Q:=by
 unfold zm;refine Ci rfl ?_;unfold Os;have hS:("abcdefghijklmnopqrstuvwxyzABCDEFGHIJKLMNOPQRSTUVWXYZ0123456789 -.,/":Str)=SZ:=rfl;rw[hS];have hz1:0<=c % (most+1):=AIg _ (by omega);have hz2:c % (most+1)<most+1:=AIh _ (by omega);rfl';refine Gu _ Aq (by decide) (by decide) λd hd=>?_
 have hd':∃m:Str,d=.str m/\BJ m/\0<m.length/\m.length<=67:=by simp only[Ac,EN,or_false] at hd;rcases hd with rfl|rfl|rfl|rfl <;> exact⟨_,rfl,by decide +kernel,by decide +kernel,by decide +kernel⟩
 obtain⟨m,rfl,hm1,hm2,hm3⟩:=hd';rfl';generalize hL:L++[Ob.lst [D.str "abAB12 -",D.str "aB 1",D.str "aab",D.str SZ]]=L1;have hpre:L <+: L1:=by rw[<-hL];exact BB _ _
 refine DU (λj ρ L'=>L'=L1/\∃(c':Int) (t:Str) (a:Option D),ρ=[some (.int c'),some (.int most),some (.str SZ),some (.str m),some (.int (c % (most+1))),some (.str t),a]/\BJ t/\t.length<=j) _ 0 _ _ ⟨rfl,_,_,_,rfl,by decide,by decide⟩ ?_ ?_
 .rintro i x ρ L' hx ⟨rfl,c',t,a,rfl,ht1,ht2⟩;obtain⟨hi,rfl⟩:=NM hx;refine⟨rfl,?_⟩;rfl';obtain⟨k,hk1,hk2⟩:=OK (xs:=m.cps.toList) (n:=(m.length:Int)) c' (by omega) (by simp[Str.length]);refine Rx hk2 ?_;have hone:(⟨#[k]⟩:Str).length=1:=rfl;refine Nu (by rw[hone];omega) ?_;rfl';refine⟨rfl,_,_,_,rfl,ht1.app (.one (hm1 _ hk1)),?_⟩;rw[OO,hone];omega
 .rintro ρ L' ⟨rfl,c',t,a,rfl,ht1,ht2⟩;refine⟨rfl,?_⟩;rfl';rw[Ht] at ht2;exact⟨rfl,hpre,q t ht1 (by omega)⟩
def HG(ws:List Str):Prop:=ws.Nodup/\(∀w∈ws,BJ w/\0<w.length/\w.length<=8)/\ws.length<=6
theorem Nm(w:Str):∀ws:List Str,Dz (.str w) (ws.map D.str)=decide (w∈ws)
 |[]=>by simp[Dz]
 |x::xs=>by
  have ih:=Nm w xs;unfold Dz at ih ⊢;rw[Ap,AIq,ih]
  have e:Kj (.str x) (.str w)=decide (w=x):=by
   show(x == w)=decide (w=x)
   by_cases h:w=x
   .subst h;simp
   .have:¬x=w:=λz=>h z.symm;simp[h,this]
  rw[e]
  by_cases h:w=x <;> simp[h]
theorem SG(ws:List Str):(ws.map D.str).all BR=true:=by rw[List.all_map,De];exact λ_ _=>rfl
theorem Uj{t:Str}(h:t≠""):0<t.length:=by
 rcases Nat.eq_zero_or_pos t.length with h0|h0
 .exfalso;apply h;obtain⟨a⟩:=t;have:a=#[]:=Array.eq_empty_of_size_eq_zero h0;subst this;rfl
 .exact h0
theorem Wb{L L':AD}{o:Ob}(h:Dn L.length (L++[o]) L'):L <+: L':=by rw[List.prefix_iff_getElem?];intro j hj;rw[h.2 j (by omega) (by simp;omega),FT hj];simp[hj]
theorem AD1{Q:AKQ}{L:AD}(c:Int)(q:∀ws L',HG ws->L <+: L'->L'[L.length]?=some (.lst (ws.map D.str))->Q (.ref L.length) L'):W2 (zh1 [.int c] L) Q:=by
 unfold zh1;refine Go rfl ?_;unfold Oi;have m5:=AIg c (b:=5) (by decide);have m5':=AIh c (b:=5) (by decide);have m2:=AIg c (b:=2) (by decide);have m2':=AIh c (b:=2) (by decide);refine LD (Ms (AAD (AAC (AEO rfl ?_))));refine LD (Ms (Qo (UA rfl (Qn (XG rfl ?_)))));refine CQ (λρ L'=>L'=L++[.lst []]/\∃n:Int,0<=n/\n<=6/\ρ=[some (.int c),some (.ref L.length),some (.int n),none,none,none]) ?_ ?_
 .rfl';refine Bm (λh=>?_) (λh=>?_)
  .rfl';exact⟨rfl,_,by omega,by omega,rfl⟩
  .rfl';exact⟨rfl,_,m5,by omega,rfl⟩
 rintro ρ L' ⟨rfl,n,hn0,hn6,rfl⟩;rfl';refine DU (λj ρ L'=>∃(ws:List Str) (p:Int) (a b:Option D),ρ=[some (.int c),some (.ref L.length),some (.int n),some (.int p),a,b]/\Dn L.length (L++[.lst []]) L'/\L'[L.length]?=some (.lst (ws.map D.str))/\ws.Nodup/\(∀w∈ws,BJ w/\0<w.length/\w.length<=8)/\ws.length<=j) _ 0 _ _ ⟨[],_,none,none,rfl,.refl _ _,Aq,AIr,λ_ h=>(nomatch h),Ai _⟩ ?_ ?_
 .rintro i x ρ L' hx ⟨ws,p,a,b,rfl,hkp,hg,hnd,hw,hl⟩;obtain⟨hi,rfl⟩:=NM hx;refine⟨rfl,Zv ?_⟩;refine CQ (λρ L2=>Dn L.length (L++[.lst []]) L2/\L2[L.length]?=some (.lst (ws.map D.str))/\∃t:Str,BJ t/\t.length<=8/\ρ=[some (.int c),some (.ref L.length),some (.int n),some (.int p),some (.int (0+(i:Int))),some (.str t)]) ?_ ?_
  .rfl';refine Gu _ Aq (by decide) (by decide) λd hd=>?_
   have hd':∃m:Int,d=.int m/\0<=m/\m<=8:=by simp only[Ac,EN,or_false] at hd;rcases hd with rfl|rfl|rfl|rfl <;> exact⟨_,rfl,by decide,by decide⟩
   obtain⟨m,rfl,hm0,hm8⟩:=hd';rfl';refine WD _ _ hm0 (by omega) λt ht1 ht2=>?_;exact⟨hkp.trans (.app _ _ _),Al hg,t,ht1,by omega,rfl⟩
  rintro ρ L2 ⟨hkp2,hg2,t,ht1,ht2,rfl⟩;refine CQ (λρ L3=>L3=L2/\∃t:Str,BJ t/\t.length<=8/\ρ=[some (.int c),some (.ref L.length),some (.int n),some (.int p),some (.int (0+(i:Int))),some (.str t)]) ?_ ?_
  .rfl';refine Bm (λh=>?_) (λh=>?_)
   .rfl';exact⟨rfl,_,ht1.slice _ _,Ch (Txt.slice_le _ _ _) ht2,rfl⟩
   .rfl';exact⟨rfl,t,ht1,ht2,rfl⟩
  clear ht1 ht2 t;rintro ρ L3 ⟨rfl,t,ht1,ht2,rfl⟩;refine CQ (λρ L4=>L4=L3/\∃t:Str,BJ t/\t.length<=8/\0<t.length/\ρ=[some (.int c),some (.ref L.length),some (.int n),some (.int p),some (.int (0+(i:Int))),some (.str t)]) ?_ ?_
  .rfl';refine Bm (λh=>?_) (λh=>?_)
   .rfl';exact⟨rfl,"-",by decide +kernel,by decide,by decide,rfl⟩
   .rfl';exact⟨rfl,t,ht1,ht2,Uj h,rfl⟩
  clear ht1 ht2 t;rintro ρ L4 ⟨rfl,w,hw1,hw2,hw3,rfl⟩;rfl';refine Nt hg2 (by rw[SG];rfl) ?_;rw[Nm];rfl';refine Bm (λhm=>?_) (λhm=>?_)
  .rfl';exact⟨ws,_,_,_,rfl,hkp2,hg2,hnd,hw,by omega⟩
  .rfl';refine ID hg2 (by simp;omega) ?_;rfl';refine⟨ws++[w],_,_,_,rfl,hkp2.trans (.set _ _ _),?_,?_,λy hy=>?_,by simp;omega⟩
   .rw[DZ hg2];simp
   .rw[AI2];refine⟨hnd,by simp,λa ha b hb=>?_⟩;have:b=w:=by simpa using hb
    rw[this];rintro rfl;exact hm ha
   .rcases DE.mp hy with h|h
    .exact hw y h
    .have:y=w:=by simpa using h
     rw[this];exact⟨hw1,hw3,hw2⟩
 .rintro ρ L' ⟨ws,p,a,b,rfl,hkp,hg,hnd,hw,hl⟩;refine⟨rfl,?_⟩;rw[Ht] at hl;rfl';refine⟨rfl,q ws L' ⟨hnd,hw,by omega⟩ (Wb hkp) hg⟩
def Ip(s:Str):D:=if He s "abcdefghijklmnopqrstuvwxyz"=true then .str "small" else if He s "ABCDEFGHIJKLMNOPQRSTUVWXYZ"=true then .str "great" else if He s "0123456789"=true then .str "figure" else if He s " -.,/"=true then .str "mark" else .non
theorem AES{Q:AKQ}{L:AD}(s:Str)(h:Q (Ip s) L):W2 (zr1 [.str s] L) Q:=by
 unfold zr1;refine Ci rfl ?_;unfold Ip at h;simp only[Oh,Ml];rfl';refine Gm rfl ?_;rfl';refine Hj (λh1=>?_) (λh1=>?_)
 .rw[if_pos h1] at h;rfl';exact⟨rfl,As _,h⟩
 rw[if_neg (by simp[h1])] at h;rfl';refine Gm rfl ?_;rfl';refine Hj (λh1=>?_) (λh1=>?_)
 .rw[if_pos h1] at h;rfl';exact⟨rfl,As _,h⟩
 rw[if_neg (by simp[h1])] at h;rfl';refine Gm rfl ?_;rfl';refine Hj (λh1=>?_) (λh1=>?_)
 .rw[if_pos h1] at h;rfl';exact⟨rfl,As _,h⟩
 rw[if_neg (by simp[h1])] at h;rfl';refine Gm rfl ?_;rfl';refine Hj (λh1=>?_) (λh1=>?_)
 .rw[if_pos h1] at h;rfl';exact⟨rfl,As _,h⟩
 rw[if_neg (by simp[h1])] at h;rfl';refine Qk rfl ?_;rfl';exact⟨rfl,As _,h⟩
def Ft(kind s:Str):Bool:=decide (kind = "any") || decide (Ip s=.str kind)
theorem AET(s:Str):Ip s=.non\/∃k,Ip s=.str k:=by
 unfold Ip
 repeat' split
 all_goals first|exact .inl rfl|exact .inr ⟨_,rfl⟩
theorem AEj{Q:AKQ}{L:AD}(kind s:Str)(h:Q (.bl (Ft kind s)) L):W2 (zs1 [.str kind,.str s] L) Q:=by
 unfold zs1;refine Ci rfl ?_;unfold Qc;rfl';refine Bm (λh1=>?_) (λh1=>?_)
 .have e:Ft kind s=true:=by simp[Ft,h1]
  rw[e] at h;exact⟨rfl,As _,h⟩
 .rfl';refine AES _ ?_;have e:Ft kind s=decide (Ip s=.str kind):=by simp[Ft,h1]
  rw[e] at h;rcases AET s with e|⟨k,e⟩
  .rw[e] at h ⊢;rfl';rw[decide_eq_false (by intro z;cases z)] at h;exact⟨rfl,As _,h⟩
  .rw[e] at h ⊢;rfl';rw[Lu (show D.str k=D.str kind↔k=kind by simp)] at h;exact⟨rfl,As _,h⟩
def nums(p:Nat->Bool)(n:Nat):List Int:=(List.range n).filterMap λ(i:Nat)=>if p i=true then some (i:Int) else none
theorem ADd{p q:Nat->Bool}{n:Nat}(h:∀i,i<n->p i=q i):nums p n=nums q n:=by unfold nums;apply Lq;intro i hi;rw[h i (Dd.mp hi)]
theorem ADc{p:Nat->Bool}{n:Nat}{z:Int}(h:z∈nums p n):0<=z/\z<n:=by
 unfold nums at h;rw[AJU] at h;obtain⟨i,hi,h⟩:=h;have:=Dd.mp hi;split at h
 .cases h;omega
 .cases h
def HW(ns:List Int)(nth:Int)(b:Bool):Option D:=if (ns.length:Int)<(if nth<0 then -nth else nth) then some .non else (atI ns (if nth>0 then nth-1 else nth)).map λi=>.int (if b then i+1 else i)
theorem Uq{Q:AKQ}{L:AD}{kind edge y:Str}{nth:Int}{d:D}(hy:y.length<=1000)(e:HW (nums (λi=>Ft kind (sg y i)) y.cps.size) nth (!decide (edge = "ahead"))=some d)(h:Q d L):W2 (zz [.tup [.str kind,.int nth,.str edge],.str y] L) Q:=by
 unfold zz;refine Ci rfl ?_;unfold QZ;rfl';have hy':y.cps.size<=1000:=hy;rw[AFa]
 refine Mu (λρ=>∃a b,ρ=[a,b,some (.str kind)]) (λx=>match x with|.tup [.int i,.str s]=>if Ft kind s=true then some (.int i) else none|_=>none) _ _ ⟨none,none,rfl⟩ (by simp;omega) ?_ ?_
 .rintro x hx ρ ⟨a,b,rfl⟩;rw[BV] at hx;obtain⟨i,_,rfl⟩:=hx;rfl';refine⟨⟨_,_,rfl⟩,λacc=>?_⟩;rfl';refine AEj _ _ ?_;rfl';refine⟨rfl,Hj (λh=>?_) (λh=>?_)⟩
  .rfl';exact⟨rfl,if_pos h⟩
  .exact if_neg (by rw[h];exact Cc)
 have ef:AJQ (λx=>match x with|D.tup [.int i,.str s]=>if Ft kind s=true then some (D.int i) else none|_=>none) ((List.range y.cps.size).map λ(i:Nat)=>D.tup [.int (i:Int),.str (sg y i)])=(nums (λi=>Ft kind (sg y i)) y.cps.size).map D.int:=by rw[List.filterMap_map];unfold nums;rw[List.map_filterMap];apply Lq;intro i _;simp only[Function.comp];split <;> simp
 rw[ef];generalize nums (λi=>Ft kind (sg y i)) y.cps.size=ns at e ⊢;have hl:((ns.map D.int).length:Int)=ns.length:=by simp
 unfold HW at e;rfl';rw[hl];refine Bm (λhlt=>?_) (λhlt=>?_)
 .rw[if_pos hlt] at e;cases e;rfl';exact⟨rfl,BB _ _,h⟩
 .rw[if_neg hlt] at e;rfl'
  cases q:atI ns (if nth>0 then nth-1 else nth) with
  |none=>rw[q] at e;cases e
  |some i =>
   rw[q] at e;cases e
   have q2:atI (ns.map D.int) (if nth>0 then nth-1 else nth)=some (.int i):=by rw[YT,q];rfl
   refine Bm (λhp=>?_) (λhp=>?_)
   .rw[if_pos hp] at q2;rfl';refine EY Aq q2 ?_;rfl';refine Bm (λhe=>?_) (λhe=>?_)
    .rfl';rw[decide_eq_true he] at h;exact⟨rfl,BB _ _,h⟩
    .rfl';rw[decide_eq_false he] at h;exact⟨rfl,BB _ _,h⟩
   .rw[if_neg hp] at q2;rfl';refine EY Aq q2 ?_;rfl';refine Bm (λhe=>?_) (λhe=>?_)
    .rfl';rw[decide_eq_true he] at h;exact⟨rfl,BB _ _,h⟩
    .rfl';rw[decide_eq_false he] at h;exact⟨rfl,BB _ _,h⟩
def Nh(s:Str):Str:=if Txt.islower s=true then "small" else if Txt.isupper s=true then "great" else if Txt.isdigit s=true then "figure" else "mark"
theorem AD6{Q:AKQ}{L:AD}(s:Str)(h:Q (.str (Nh s)) L):W2 (zj1 [.str s] L) Q:=by
 unfold zj1;refine Ci rfl ?_;unfold QS;unfold Nh at h;rfl';refine Hj (λh1=>?_) (λh1=>?_)
 .rw[if_pos h1] at h;rfl';exact⟨rfl,As _,h⟩
 rw[if_neg (by simp[h1])] at h;rfl';refine Hj (λh1=>?_) (λh1=>?_)
 .rw[if_pos h1] at h;rfl';exact⟨rfl,As _,h⟩
 rw[if_neg (by simp[h1])] at h;rfl';refine Hj (λh1=>?_) (λh1=>?_)
 .rw[if_pos h1] at h;rfl';exact⟨rfl,As _,h⟩
 rw[if_neg (by simp[h1])] at h;rfl';exact⟨rfl,As _,h⟩
theorem AER:∀c∈Lx,Ip ⟨#[c]⟩=.str (Nh ⟨#[c]⟩):=by decide +kernel
def EW(kind s:Str):Bool:=decide (kind = "any") || decide (Nh s=kind)
theorem Vq{y:Str}(h:BJ y)(kind:Str):nums (λi=>Ft kind (sg y i)) y.cps.size=nums (λi=>EW kind (sg y i)) y.cps.size:=by apply ADd;intro i hi;unfold Ft EW sg;rw[AER _ (h.at hi)];simp
theorem ABK{y:Str}{i:Nat}(hi:i<y.cps.size):atI y.cps.toList (i:Int)=some (y.cps.getD i 0):=by apply FL;simp[hi,Array.getD]
theorem WE{Q:AKQ}{L:AD}{kind edge y:Str}{nth:Int}{d:D}(hy:y.length<=1000)(e:HW (nums (λi=>EW kind (sg y i)) y.cps.size) nth (decide (edge = "behind"))=some d)(h:Q d L):W2 (zu [.tup [.str kind,.int nth,.str edge],.str y] L) Q:=by
 unfold zu;refine Ci rfl ?_;unfold QN;have hy':y.cps.size<=1000:=hy;have hyl:(y.length:Int)=(y.cps.size:Int):=rfl;rfl';rw[hyl,AIp,ABl]
 refine Mu (λρ=>∃a,ρ=[a,some (.str kind),some (.str y)]) (λx=>match x with|.int i=>if EW kind (sg y i.toNat)=true then some (.int i) else none|_=>none) _ _ ⟨none,rfl⟩ (by simp;omega) ?_ ?_
 .rintro x hx ρ ⟨a,rfl⟩;rw[BV] at hx;obtain⟨i,hi,rfl⟩:=hx;have hi':=Dd.mp hi;have hat:atI y.cps.toList (i:Int)=some (y.cps.getD i 0):=ABK hi';rfl';refine⟨⟨_,rfl⟩,λacc=>?_⟩;rfl';refine Bm (λh1=>?_) (λh1=>?_)
  .rfl';refine⟨rfl,?_⟩;rfl';exact⟨rfl,if_pos (by rw[AIp];simp[EW,h1])⟩
  .rfl';refine Rx hat ?_;rfl';refine AD6 _ ?_;rfl';refine⟨rfl,Bm (λh2=>?_) (λh2=>?_)⟩
   .rfl';exact⟨rfl,if_pos (by rw[AIp];unfold EW sg;rw[decide_eq_true h2];simp)⟩
   .exact if_neg (by rw[AIp];unfold EW sg;rw[decide_eq_false h2,decide_eq_false h1];simp)
 have ef:AJQ (λx=>match x with|D.int i=>if EW kind (sg y i.toNat)=true then some (D.int i) else none|_=>none) ((List.range y.cps.size).map λ(i:Nat)=>D.int (i:Int))=(nums (λi=>EW kind (sg y i)) y.cps.size).map D.int:=by rw[List.filterMap_map];unfold nums;rw[List.map_filterMap];apply Lq;intro i _;simp only[Function.comp,AIp];split <;> simp
 rw[ef];generalize nums (λi=>EW kind (sg y i)) y.cps.size=ns at e ⊢;have hl:((ns.map D.int).length:Int)=ns.length:=by simp
 unfold HW at e;rfl';rw[hl];refine Bm (λhlt=>?_) (λhlt=>?_)
 .rw[if_pos hlt] at e;cases e;rfl';exact⟨rfl,BB _ _,h⟩
 .rw[if_neg hlt] at e;rfl'
  cases q:atI ns (if nth>0 then nth-1 else nth) with
  |none=>rw[q] at e;cases e
  |some i =>
   rw[q] at e;cases e
   have q2:atI (ns.map D.int) (if nth>0 then nth-1 else nth)=some (.int i):=by rw[YT,q];rfl
   have fin:(D.int (i+if decide (edge = "behind")=true then 1 else 0))=.int (if decide (edge = "behind")=true then i+1 else i):=by split <;> simp
   refine Bm (λhp=>?_) (λhp=>?_)
   .rw[if_pos hp] at q2;rfl';refine EY Aq q2 ?_;rfl';rw[fin];exact⟨rfl,BB _ _,h⟩
   .rw[if_neg hp] at q2;rfl';refine EY Aq q2 ?_;rfl';rw[fin];exact⟨rfl,BB _ _,h⟩
theorem NG(p:Nat->Bool)(m:Nat){n:Int}(hn:OW n)(b:Bool):∃d,HW (nums p m) n b=some d/\(d=.non\/∃i:Int,d=.int i/\0<=i/\i<=m):=by
 unfold HW
 by_cases hlt:((nums p m).length:Int)<(if n<0 then -n else n)
 .rw[if_pos hlt];exact⟨_,rfl,.inl rfl⟩
 .rw[if_neg hlt]
  obtain⟨v,hv⟩:∃v,atI (nums p m) (if n>0 then n-1 else n)=some v:=YR (by
   rcases hn with rfl|rfl|rfl|rfl <;> simp at hlt ⊢ <;> omega)
  rw[hv];have:=ADc (YS hv);refine⟨_,rfl,.inr ⟨_,rfl,?_⟩⟩;cases b <;> simp <;> omega
theorem AHj{y:Str}{p:D}(hy:y.length<=1000)(hs:BJ y)(hp:FN p):∃d,(d=.non\/∃i:Int,d=.int i/\0<=i/\i<=y.cps.size)/\(∀{Q:AKQ} {L:AD},Q d L->W2 (zz [p,.str y] L) Q)/\(∀{Q:AKQ} {L:AD},Q d L->W2 (zu [p,.str y] L) Q):=by
 obtain⟨kind,nth,edge,rfl,hn,he,_⟩:=hp;obtain⟨d,h1,h2⟩:=NG (λi=>Ft kind (sg y i)) y.cps.size hn (!decide (edge = "ahead"));refine⟨d,h2,λ{Q L} h=>Uq hy h1 h,λ{Q L} h=>WE hy ?_ h⟩;rw[<-Vq hs];have e:(decide (edge = "behind"))=!decide (edge = "ahead"):=by rcases he with rfl|rfl <;> decide
 rw[e];exact h1
def MI(s:Str):Prop:=s = "copy"\/s = "raise"\/s = "sink"
def Hn(d:D):Prop:=(∃w:Str,d=.tup [.str "word",.str w]/\BJ w/\w.length<=8/\0<w.length)\/(∃(deed:Str) (p q:D),d=.tup [.str deed,p,q]/\MI deed/\FN p/\FN q)
theorem FN.noRef{p:D}(h:FN p):p.noRef=true:=by obtain⟨_,_,_,rfl,_⟩:=h;rfl
theorem Hn.noRef{p:D}(h:Hn p):p.noRef=true:=by
 rcases h with⟨w,rfl,_⟩|⟨deed,p,q,rfl,_,hp,hq⟩
 .rfl
 .simp[D.noRef,D.noRefL,hp.noRef,hq.noRef]
theorem AFx:∀c∈Lx,c<128:=by decide
theorem BJ.ascii{x:Str}(h:BJ x):∀c∈x.cps.toList,c<128:=λc hc=>AFx c (h c hc)
theorem Qr{x:Str}(h:BJ x):(Txt.upper x).length=x.length:=by rw[upper_ascii h.ascii];show(x.cps.map _).size=x.cps.size;simp
theorem Rf{x:Str}(h:BJ x):(Txt.lower x).length=x.length:=by rw[lower_ascii h.ascii];show(x.cps.map _).size=x.cps.size;simp
theorem Uf:∀{xs:List D} {ys:List Str},CS xs=some ys->ys.length=xs.length
 |[],ys,h=>by cases h;rfl
 |x::xs,ys,h=>by
  cases x with
  |str s =>
   simp only[CS] at h
   cases e:CS xs with
   |none=>rw[e] at h;cases h
   |some a=>rw[e] at h;cases h;simp[Uf e]
  |_=>simp[CS] at h
theorem Uh:∀{xs:List D} {ys:List Str} {P:Str->Prop},CS xs=some ys->(∀s,D.str s∈xs->P s)->∀y∈ys,P y
 |[],ys,P,h,_=>by cases h;exact λ_ hy=>(nomatch hy)
 |x::xs,ys,P,h,hP=>by
  cases x with
  |str s =>
   simp only[CS] at h
   cases e:CS xs with
   |none=>rw[e] at h;cases h
   |some a =>
    rw[e] at h;cases h;intro y hy;rcases Ac.mp hy with rfl|hy
    .exact hP y BN
    .exact Uh e (λs hs=>hP s (BK _ hs)) y hy
  |_=>simp[CS] at h
theorem Rq:∀{xs:List D},(∀d∈xs,d=.non\/∃t,d=.str t)->Dz .non xs=(CS xs).isNone
 |[],_=>rfl
 |x::xs,h=>by
  have ih:=Rq λd hd=>h d (BK _ hd);rcases h x BN with rfl|⟨t,rfl⟩
  .rfl
  .have:Dz .non (.str t::xs)=Dz .non xs:=rfl;rw[this,ih];simp only[CS];cases CS xs <;> rfl
def ER(p:D)(y:Str):D:=match p with
 |.tup [.str kind,.int nth,.str edge]=>(HW (nums (λi=>EW kind (sg y i)) y.cps.size) nth (decide (edge = "behind"))).getD .non
 |_=>.non
theorem LJ{kind edge y:Str}{nth:Int}:ER (.tup [.str kind,.int nth,.str edge]) y=(HW (nums (λi=>EW kind (sg y i)) y.cps.size) nth (decide (edge = "behind"))).getD .non:=rfl
theorem LK{p:D}(hp:FN p)(y:Str):ER p y=.non\/∃i:Int,ER p y=.int i/\0<=i/\i<=y.length:=by obtain⟨kind,nth,edge,rfl,hn,he,_⟩:=hp;obtain⟨d,h1,h2⟩:=NG (λi=>EW kind (sg y i)) y.cps.size hn (decide (edge = "behind"));simp only[LJ,h1,Option.getD_some];exact h2
theorem WF{Q:AKQ}{L:AD}{p:D}{y:Str}(hy:y.length<=1000)(hp:FN p)(h:Q (ER p y) L):W2 (zu [p,.str y] L) Q:=by obtain⟨kind,nth,edge,rfl,hn,he,_⟩:=hp;obtain⟨d,h1,h2⟩:=NG (λi=>EW kind (sg y i)) y.cps.size hn (decide (edge = "behind"));simp only[LJ,h1,Option.getD_some] at h;exact WE hy h1 h
def FJ(deed:Str)(t:Str):Str:=if deed = "raise" then Txt.upper t else if deed = "sink" then Txt.lower t else t
def DQ(y:Str)(pc:D):D:=match pc with
 |.tup [_,q]=>(match q with|.str w=>.str w|_=>.non)
 |.tup [a,p,q]=>(match a with|.str deed=>(match ER p y,ER q y with|.int i,.int j=>if j<=i then .non else .str (FJ deed (Txt.slice y (some i) (some j)))|_,_=>.non)|_=>.non)
 |_=>.non
theorem NS{y deed:Str}{p q:D}:DQ y (.tup [.str deed,p,q])=(match ER p y,ER q y with|.int i,.int j=>if j<=i then .non else .str (FJ deed (Txt.slice y (some i) (some j)))|_,_=>.non):=rfl
theorem AFm{deed t:Str}(h:BJ t):(FJ deed t).length=t.length:=by
 unfold FJ;split
 .exact Qr h
 .split
  .exact Rf h
  .rfl
theorem NT{y:Str}{pc:D}(hy:y.length<=1000)(hs:BJ y)(hp:Hn pc):DQ y pc=.non\/∃t:Str,DQ y pc=.str t/\t.length<=1000:=by
 rcases hp with⟨w,rfl,h1,h2,_⟩|⟨deed,p,q,rfl,hd,hp,hq⟩
 .exact .inr ⟨w,rfl,by omega⟩
 .obtain⟨k,n,e,rfl,_⟩:=id hq;rw[NS];rcases LK hp y with e1|⟨i,e1,_⟩
  .rw[e1];exact .inl rfl
  .rcases LK hq y with e2|⟨j,e2,_⟩
   .rw[e1,e2];exact .inl rfl
   .rw[e1,e2];simp only;split
    .exact .inl rfl
    .exact .inr ⟨_,rfl,by rw[AFm (hs.slice _ _)];exact Ch (Txt.slice_le _ _ _) hy⟩
theorem WJ{Q:AKQ}{L:AD}{y:Str}{pc:D}(hy:y.length<=1000)(hs:BJ y)(hp:Hn pc)(h:Q (DQ y pc) L):W2 (zg [pc,.str y] L) Q:=by
 rcases hp with⟨w,rfl,h1,h2,_⟩|⟨deed,p,q,rfl,hd,hp,hq⟩
 .unfold zg;refine Ci rfl ?_;unfold MW;rfl';exact⟨rfl,As _,h⟩
 .have hnw:deed≠"word":=by rcases hd with rfl|rfl|rfl <;> decide
  obtain⟨k,n,e,rfl,_⟩:=id hq;rw[NS] at h;unfold zg;refine Ci rfl ?_;unfold MW;rfl';refine WF hy hp ?_;rfl';refine WF hy hq ?_;rcases LK hp y with e1|⟨i,e1,hi⟩
  .rw[e1] at h ⊢;rfl';exact⟨rfl,As _,h⟩
  rcases LK hq y with e2|⟨j,e2,hj⟩
  .rw[e1,e2] at h ⊢;rfl';exact⟨rfl,As _,h⟩
  rw[e1,e2] at h ⊢;simp only at h
  by_cases hij:j<=i
  .rw[if_pos hij] at h;rfl';exact⟨rfl,As _,h⟩
  rw[if_neg hij] at h;have hts:=hs.slice (some i) (some j);have htl:(Txt.slice y (some i) (some j)).length<=1000:=Ch (Txt.slice_le _ _ _) hy;unfold FJ at h;rfl';refine Bm (λh1=>?_) (λh1=>?_)
  .rw[if_pos h1] at h;rfl';refine Nr (by rw[Qr hts];omega) ?_;exact⟨rfl,As _,h⟩
  rw[if_neg h1] at h;rfl';refine Bm (λh2=>?_) (λh2=>?_)
  .rw[if_pos h2] at h;rfl';refine Nr (by rw[Rf hts];omega) ?_;exact⟨rfl,As _,h⟩
  .rw[if_neg h2] at h;rfl';exact⟨rfl,As _,h⟩
def GR(y:Str)(ps:List D):D:=match CS (ps.map (DQ y)) with|some ys=>.str (Txt.join "" ys)|none=>.non
theorem ABh{y:Str}{ps:List D}:GR y ps=.non\/∃t,GR y ps=.str t:=by
 unfold GR;split
 .exact .inr ⟨_,rfl⟩
 .exact .inl rfl
theorem UZ{y:Str}{ps:List D}{ys:List Str}(hy:y.length<=1000)(hs:BJ y)(hp:∀p∈ps,Hn p)(e:CS (ps.map (DQ y))=some ys):(ys.map (·.length)).sum<=ps.length*1000:=by
 have hl:=Uf e;rw[Ao] at hl;rw[<-hl];refine AA1 λz hz=>Uh (P:=λz=>z.length<=1000) e (λs hs'=>?_) z hz;rw[BV] at hs';obtain⟨p,hp',e⟩:=hs';rcases NT hy hs (hp p hp') with h|⟨t,h,ht⟩
 .rw[h] at e;cases e
 .rw[h] at e;cases e;exact ht
theorem WG{Q:AKQ}{L:AD}{y:Str}{ps:List D}(hy:y.length<=1000)(hs:BJ y)(hp:∀p∈ps,Hn p)(hl:ps.length<=1000)(h:Q (GR y ps) L):W2 (zo [.tup ps,.str y] L) Q:=by
 unfold zo;refine Ci rfl ?_;unfold Pj;rfl';refine Mu (λρ=>∃a,ρ=[a,some (.str y)]) (λx=>some (DQ y x)) _ _ ⟨none,rfl⟩ (by omega) ?_ ?_
 .rintro x hx ρ ⟨a,rfl⟩;rfl';refine⟨⟨_,rfl⟩,λacc=>?_⟩;rfl';refine⟨rfl,?_⟩;rfl';refine WJ hy hs (hp x hx) ?_;exact⟨rfl,rfl⟩
 have ef:AJQ (λx=>some (DQ y x)) ps=ps.map (DQ y):=by rw[<-List.filterMap_eq_map];rfl
 rw[ef]
 have hk:∀d∈ps.map (DQ y),d=.non\/∃t,d=.str t:=λd hd=>by
  rw[BV] at hd;obtain⟨p,hp',rfl⟩:=hd;rcases NT hy hs (hp p hp') with e|⟨t,e,_⟩
  .exact .inl e
  .exact .inr ⟨t,e⟩
 have hfl:(BR .non&&(ps.map (DQ y)).all BR)=true:=by rw[CA,De];refine⟨rfl,λd hd=>?_⟩;rcases hk d hd with rfl|⟨t,rfl⟩ <;> rfl
 rfl';refine AE6 Aq hfl ?_;rw[Rq hk];unfold GR at h
 cases e:CS (ps.map (DQ y)) with
 |none =>
  rw[e] at h;rfl';refine SR rfl ?_;rfl';exact⟨rfl,BB _ _,h⟩
 |some ys =>
  rw[e] at h;rfl';refine Lz rfl ?_;rfl';have hsum:=UZ hy hs hp e;have e0:(Str.ofString "").length=0:=rfl;refine AE5 Aq e (by rw[e0];omega) ?_;exact⟨rfl,BB _ _,h⟩
def HJ(ws:List Str)(d:D):Prop:=(∃w∈ws,d=.tup [.str "word",.str w])\/(∃(deed:Str) (p q:D),d=.tup [.str deed,p,q]/\MI deed/\FN p/\FN q)
theorem HJ.piece{ws:List Str}{d:D}(hw:HG ws)(h:HJ ws d):Hn d:=by
 rcases h with⟨w,hm,rfl⟩|h
 .exact .inl ⟨w,rfl,(hw.2.1 w hm).1,(hw.2.1 w hm).2.2,(hw.2.1 w hm).2.1⟩
 .exact .inr h
theorem AD4{Q:AKQ}{L:AD}{k:Nat}{ws:List Str}(c:Int)(hk:L[k]?=some (.lst (ws.map D.str)))(hw:HG ws)(q:∀p,HJ ws p->Q p L):W2 (zi1 [.int c,.ref k] L) Q:=by
 unfold zi1;refine Ci rfl ?_;refine CQ (λρ L'=>L'=L/\ρ=[some (.int c),some (.ref k),none]) ?_ ?_
 .rfl';refine Bm (λh7=>?_) (λh7=>?_)
  .rfl';refine Bm (λhl=>?_) (λhl=>?_)
   .rfl';refine Gu _ hk (by omega) (Int.le_refl _) λd hd=>?_;rw[BV] at hd;obtain⟨w,hm,rfl⟩:=hd;rfl';exact⟨rfl,As _,q _ (.inl ⟨w,hm,rfl⟩)⟩
   .rfl';exact⟨rfl,rfl⟩
  .rfl';exact⟨rfl,rfl⟩
 rintro ρ L' ⟨rfl,rfl⟩;rfl';refine Gu _ Aq (by decide) (by decide) λd hd=>?_
 have hd':∃m:Str,d=.str m/\MI m:=by
  simp only[Ac,EN,or_false] at hd;rcases hd with rfl|rfl|rfl|rfl
  .exact⟨_,rfl,.inl rfl⟩
  .exact⟨_,rfl,.inr (.inl rfl)⟩
  .exact⟨_,rfl,.inr (.inr rfl)⟩
  .exact⟨_,rfl,.inl rfl⟩
 obtain⟨m,rfl,hm⟩:=hd';rfl';refine WH _ λp1 hp1=>?_;rfl';refine WH _ λp2 hp2=>?_;rfl';have hP:HJ ws (.tup [.str m,p1,p2]):=.inr ⟨m,p1,p2,rfl,hm,hp1,hp2⟩;exact⟨(hP.piece hw).noRef,by wtm_at "z_pf",q _ hP⟩
def IU(ts:List Str):Prop:=∀y∈ts,BJ y/\y.length<=100
def JL(ts:List Str)(d:D):Prop:=∀y∈ts,∃t,DQ y d=.str t
def Ib(deed:Str):D:=.tup [.str deed,.tup [.str "any",.int 1,.str "ahead"],.tup [.str "any",.int (-1),.str "behind"]]
theorem AGb:FN (.tup [.str "any",.int 1,.str "ahead"]):=⟨"any",1,"ahead",rfl,.inl rfl,.inl rfl,by decide⟩
theorem AGa:FN (.tup [.str "any",.int (-1),.str "behind"]):=⟨"any",-1,"behind",rfl,.inr (.inr (.inl rfl)),.inr rfl,by decide⟩
theorem Vp(y:Str):nums (λi=>EW "any" (sg y i)) y.cps.size=(List.range y.cps.size).map λ(i:Nat)=>(i:Int):=by
 unfold nums;rw[<-List.filterMap_eq_map];apply Lq;intro i _;have:EW "any" (sg y i)=true:=by simp[EW]
 simp only[this,if_true];rfl
theorem Zu{deed y:Str}(hd:MI deed)(hy:y≠""):∃t,DQ y (Ib deed)=.str t:=by
 have hpos:0<y.cps.size:=Uj hy
 have e1:ER (.tup [.str "any",.int 1,.str "ahead"]) y=.int 0:=by
  simp only[LJ,Vp];unfold HW;rw[if_neg (by simp;omega)]
  have:atI ((List.range y.cps.size).map λ(i:Nat)=>(i:Int)) (if (1:Int)>0 then 1-1 else 1)=some 0:=by have:=FL (xs:=(List.range y.cps.size).map λ(i:Nat)=>(i:Int)) (j:=0) (v:=0) (by simp[AJE,hpos]);simpa using this
  rw[this];have:decide (("ahead":Str) = "behind")=false:=by decide
  simp[this]
 have e2:ER (.tup [.str "any",.int (-1),.str "behind"]) y=.int (y.cps.size:Int):=by
  simp only[LJ,Vp];unfold HW;rw[if_neg (by simp;omega)]
  have:atI ((List.range y.cps.size).map λ(i:Nat)=>(i:Int)) (if (-1:Int)>0 then -1-1 else -1)=some ((y.cps.size:Int)-1):=by
   have hs:y.cps.size=(y.cps.size-1)+1:=by omega
   rw[hs,AJr,Eo];have:=AGV ((List.range (y.cps.size-1)).map λ(i:Nat)=>(i:Int)) (((y.cps.size-1:Nat):Int));simp only[Ap,AJK];rw[if_neg (by decide),this]
   congr 1
   omega
  rw[this];have:decide (("behind":Str) = "behind")=true:=by decide
  simp
 unfold Ib;simp only[NS,e1,e2];exact⟨_,by rw[if_neg (by omega)]⟩
theorem YZ{ts:List Str}{d:D}(ht:IU ts)(hp:Hn d):(CS (ts.map λy=>DQ y d)).isNone=false↔JL ts d:=by
 induction ts with
 |nil=>simp[CS,JL]
 |cons y r ih =>
  have ih:=ih λz hz=>ht z (BK _ hz);have hy:=ht y BN;rw[Ap];rcases NT (by omega) hy.1 hp with e|⟨t,e,_⟩
  .rw[e];simp only[CS,Option.isNone_none,Bool.true_eq_false,false_iff];intro h;obtain⟨t,h⟩:=h y BN;rw[e] at h;cases h
  .rw[e];simp only[CS,Option.isNone_map,ih];constructor
   .intro h z hz;rcases Ac.mp hz with rfl|hz
    .exact⟨t,e⟩
    .exact h z hz
   .exact λh z hz=>h z (BK _ hz)
theorem AD8{Q:AKQ}{L:AD}{k t:Nat}{ws ts:List Str}(c:Int)(hk:L[k]?=some (.lst (ws.map D.str)))(htx:L[t]?=some (.lst (ts.map D.str)))(hw:HG ws)(ht:IU ts)(hl:ts.length<=1000)
  (hne:ws≠[]\/∀y∈ts,y≠"") (q:∀p,HJ ws p->JL ts p->Q p L):W2 (zk1 [.int c,.ref k,.ref t] L) Q:=by
 unfold zk1;refine Ci rfl ?_;unfold QG;have wordAns:∀w:Str,JL ts (.tup [.str "word",.str w]):=λw y _=>⟨w,rfl⟩;rfl';refine AD4 _ hk hw λp hp=>?_;rcases hp with⟨w,hm,rfl⟩|⟨deed,p1,p2,rfl,hd,hp1,hp2⟩
 .rfl';exact⟨rfl,As _,q _ (.inl ⟨w,hm,rfl⟩) (wordAns w)⟩
 have hnw:deed≠"word":=by rcases hd with rfl|rfl|rfl <;> decide
 rfl';have hW:(D.tup [D.str deed,D.tup [D.str "any",D.int 1,D.str "ahead"],D.tup [D.str "any",D.int (-1),D.str "behind"]])=Ib deed:=rfl
 have hin:∀x∈[D.tup [.str deed,p1,p2],.tup [.str deed,p2,p1],Ib deed],HJ ws x:=λx hx=>by
  simp only[Ac,EN,or_false] at hx;rcases hx with rfl|rfl|rfl
  .exact .inr ⟨deed,p1,p2,rfl,hd,hp1,hp2⟩
  .exact .inr ⟨deed,p2,p1,rfl,hd,hp2,hp1⟩
  .exact .inr ⟨deed,_,_,rfl,hd,AGb,AGa⟩
 rw[hW];generalize hxs:[D.tup [.str deed,p1,p2],.tup [.str deed,p2,p1],Ib deed]=xs at hin ⊢;have hlast:xs[2]?=some (Ib deed):=by rw[<-hxs];rfl
 have hlen:xs.length=3:=by rw[<-hxs];rfl
 refine DU (λj ρ L'=>L++[Ob.lst xs] <+: L'/\(3<=j->∃y∈ts,y = "")/\∃a:Option D,ρ=[some (.int c),some (.ref k),some (.ref t),some (.tup [.str deed,p1,p2]),some (Ib deed),a]) _ 0 _ _ ⟨As _,λh=>by omega,none,rfl⟩ ?_ ?_
 .rintro i x ρ L' hx ⟨hpre,_,a,rfl⟩;have hxp:=hin x (CY hx);have hxi:=hxp.piece hw;have htx':=Dr hpre (Al (M:=[Ob.lst xs]) htx);refine⟨decide_eq_true (Dr hpre Aq),?_⟩;rfl';have hfin:∀p:Prop,p->p:=λ_ h=>h
  have comp:W1 (Db (λL''=>decide (L''[t]?=some (Ob.lst (ts.map D.str)))) (Av 0) EE (AT zg (AB (AA 1) (AB (AA 0) AJ))) L'.length (ts.map D.str) [none,some x] (L'++[Ob.lst []])) (λL2=>L2=L'++[Ob.lst (ts.map λy=>DQ y x)]):=by
   refine Hr (I:=λj ρ L2=>(∃a,ρ=[a,some x])/\L2=L'++[Ob.lst ((ts.take j).map λy=>DQ y x)]) _ 0 _ _ ⟨⟨none,rfl⟩,rfl⟩ ?_ ?_
   .rintro i2 z ρ L2 hz ⟨⟨a,rfl⟩,rfl⟩;rw[BD] at hz
    cases hy:ts[i2]? with
    |none=>rw[hy] at hz;cases hz
    |some y =>
     rw[hy] at hz;cases hz;have hyt:=ht y (CY hy);have hi2:i2<ts.length:=(BQ.mp hy).1;have htk:ts.take (0+i2+1)=ts.take (0+i2)++[y]:=by rw[Ca,AI7,hy];rfl
     refine⟨decide_eq_true (Al htx'),?_⟩;rfl';refine WJ (by omega) hyt.1 hxi ?_;refine⟨_,Aq,by simp;omega,⟨_,rfl⟩,?_⟩;rw[htk];simp
   .rintro ρ L2 ⟨_,rfl⟩;refine⟨decide_eq_true (Al htx'),?_⟩;simp
  obtain⟨L2,ec,rfl⟩:=comp;refine⟨_,ec,?_⟩
  have hk2:∀d∈ts.map (λy=>DQ y x),d=.non\/∃t,d=.str t:=λd hd=>by
   rw[BV] at hd;obtain⟨y,hy,rfl⟩:=hd;rcases NT (by have:=ht y hy;omega) (ht y hy).1 hxi with e|⟨t,e,_⟩
   .exact .inl e
   .exact .inr ⟨t,e⟩
  have hfl:(BR .non&&(ts.map (λy=>DQ y x)).all BR)=true:=by rw[CA,De];refine⟨rfl,λd hd=>?_⟩;rcases hk2 d hd with rfl|⟨t,rfl⟩ <;> rfl
  refine Nt Aq hfl ?_;rw[Rq hk2];rfl';refine Hj (λh=>?_) (λh=>?_)
  .rfl';refine⟨hpre.trans (BB _ _),λh3=>?_,_,rfl⟩;have:i=2:=by have:=(BQ.mp hx).1;omega
   subst this;rw[hlast] at hx;cases hx;refine Classical.byContradiction λhno=>?_;have:JL ts (Ib deed):=λy hy=>Zu hd λe=>hno ⟨y,hy,e⟩;rw[(YZ ht hxi).mpr this] at h;cases h
  .rfl';exact⟨hxi.noRef,(BB _ _).trans (hpre.trans (BB _ _)),q _ hxp ((YZ ht hxi).mp h)⟩
 .rintro ρ L' ⟨hpre,h3,a,rfl⟩;have hk':=Dr hpre (Al (M:=[Ob.lst xs]) hk);refine⟨decide_eq_true (Dr hpre Aq),?_⟩
  have hwne:ws≠[]:=by
   rcases hne with h|h
   .exact h
   .obtain⟨y,hy,e⟩:=h3 (by omega);exact absurd e (h y hy)
  have hwl:0<ws.length:=List.length_pos_iff.mpr hwne;have hwl':(((ws.map D.str).length:Nat):Int)=ws.length:=by simp
  rfl';refine Gu _ hk' (by omega) (Int.le_refl _) λd hd=>?_;rw[BV] at hd;obtain⟨w,hm,rfl⟩:=hd;rfl';exact⟨rfl,(BB _ _).trans hpre,q _ (.inl ⟨w,hm,rfl⟩) (wordAns w)⟩
def Sg(ws ts:List Str)(ps:List D):Prop:=(∀p∈ps,HJ ws p)/\(∀p∈ps,JL ts p)/\0<ps.length/\ps.length<=3
theorem RY:∀{ps:List D},(∀p∈ps,p.noRef=true)->D.noRefL ps=true
 |[],_=>rfl
 |p::ps,h=>by rw[D.noRefL,h p BN,RY λq hq=>h q (BK _ hq)];rfl
theorem AD3{Q:AKQ}{L:AD}{k t:Nat}{ws ts:List Str}(c:Int)(hk:L[k]?=some (.lst (ws.map D.str)))(htx:L[t]?=some (.lst (ts.map D.str)))(hw:HG ws)(ht:IU ts)(hl:ts.length<=1000)
  (hne:ws≠[]\/∀y∈ts,y≠"") (q:∀ps,Sg ws ts ps->Q (.tup ps) L):W2 (zl1 [.int c,.ref k,.ref t] L) Q:=by
 unfold zl1;refine Ci rfl ?_;unfold Pw;have hm:=AIg c (b:=3) (by decide);have hm':=AIh c (b:=3) (by decide);have hkl:k<L.length:=(BQ.mp hk).1;have htl:t<L.length:=(BQ.mp htx).1;rfl';refine DU (λj ρ L'=>∃(ps:List D) (p:Int) (a b:Option D),ρ=[some (.int c),some (.ref k),some (.ref t),some (.ref L.length),some (.int p),a,b]/\L'=L++[Ob.lst ps]/\(∀p∈ps,HJ ws p)/\(∀p∈ps,JL ts p)/\ps.length=j) _ 0 _ _ ⟨[],_,none,none,rfl,rfl,λ_ h=>(nomatch h),λ_ h=>(nomatch h),rfl⟩ ?_ ?_
 .rintro i x ρ L' hx ⟨ps,p,a,b,rfl,rfl,h1,h2,h3⟩;obtain⟨hi,rfl⟩:=NM hx;refine⟨rfl,?_⟩;rfl';refine AD8 _ (Al hk) (Al htx) hw ht hl hne λd hd1 hd2=>?_
  have hnn:Iq d=false:=by rcases hd1 with⟨w,_,rfl⟩|⟨_,_,_,rfl,_⟩ <;> rfl
  rfl';refine Lz hnn ?_;rfl';refine ID Aq (by omega) ?_;rfl';refine⟨ps++[d],_,_,_,rfl,by simp,λr hr=>?_,λr hr=>?_,by simp;omega⟩
  .rcases DE.mp hr with h|h
   .exact h1 r h
   .have:r=d:=by simpa using h
    rw[this];exact hd1
  .rcases DE.mp hr with h|h
   .exact h2 r h
   .have:r=d:=by simpa using h
    rw[this];exact hd2
 .rintro ρ L' ⟨ps,p,a,b,rfl,rfl,h1,h2,h3⟩;refine⟨rfl,?_⟩;rw[Ht] at h3;rfl';have hR:Sg ws ts ps:=⟨h1,h2,by omega,by omega⟩;refine⟨?_,BB _ _,q ps hR⟩;rw[D.noRef];exact RY λp hp=>((h1 p hp).piece hw).noRef
theorem ABC(x:Str)(n:Int)(h:0<=n):((Txt.slice x none (some n)).length:Int)<=n:=by
 have hs:∀k:Nat,(Builtin.Str.strSliceIndices none (some (k:Int)) 1 x.length).length<=k:=λk=>by
  unfold Builtin.Str.strSliceIndices sliceRange;simp only[show(1:Int)>0 by decide,if_true,Ao,AJq]
  split <;> (try split) <;> (try simp only[Int.ediv_one]) <;> omega
 have hn:((n.toNat:Nat):Int)=n:=by omega
 rw[<-hn];have:=hs n.toNat;unfold Txt.slice;split
 .rename_i h;simp only[CA,beq_iff_eq] at h;omega
 .show(((AJQ _ (Builtin.Str.strSliceIndices none (some (n.toNat:Int)) 1 x.length)).toArray.size:Nat):Int)<=_;rw[By];have:=List.length_filterMap_le (λx_1=>x.cps[x_1]?) (Builtin.Str.strSliceIndices none (some (n.toNat:Int)) 1 x.length);omega
theorem Zx{g:GF}{elt:EF}{L0:AD}{Q:AD->Prop}(P:Fm->Prop)(E:D->Prop){items:List D}{ρ:Fm}(hp:P ρ)(hz:items.length<=16777216)
  (h:∀x∈items,∀ρ,P ρ->W1 (g x ρ) λρ1=>P ρ1/\∀acc,W2 (elt ρ1 (L0++[.lst acc])) λd L2=>L2=L0++[.lst acc]/\E d)
  (q:∀ds:List D,ds.length=items.length->(∀d∈ds,E d)->Q (L0++[.lst ds])):W1 (Db (λ_=>true) g EE elt L0.length items ρ (L0++[.lst []])) Q:=by
 refine Hr (I:=λj ρ L=>P ρ/\∃ds:List D,ds.length=j/\(∀d∈ds,E d)/\L=L0++[.lst ds]) items 0 ρ _ ⟨hp,[],rfl,λd hd=>(nomatch hd),rfl⟩ ?_ ?_
 .rintro i x ρ L e ⟨hp,ds,hl,hE,rfl⟩;refine⟨rfl,?_⟩;have hi:i<items.length:=(BQ.mp e).1;obtain⟨ρ1,e1,hp1,h2⟩:=h x (CY e) ρ hp;obtain⟨d,L2,e3,rfl,q⟩:=h2 ds;refine⟨ρ1,e1,true,_,rfl,d,_,e3,ds,by simp,by omega,hp1,ds++[d],by simp;omega,λz hz=>?_,by simp⟩;rcases DE.mp hz with h|h
  .exact hE z h
  .have:z=d:=by simpa using h
   rw[this];exact q
 .rintro ρ L ⟨_,ds,hl,hE,rfl⟩;exact⟨rfl,q ds (by omega) hE⟩
theorem AD2{Q:AKQ}{L:AD}{ns:List Int}(hb:∀z∈ns,Builtin.Int.intBits z<=1048576)(hn:ns.length<=63)(st most:Int)(h0:0<=st)(h1:st<=20)(h2:0<=most)(h3:most<=24)
  (q:∀ts L',ts.Nodup->IU ts->0<ts.length->ts.length<=6->∀k,L <+: L'->L'[k]?=some (.lst (ts.map D.str))->Q (.ref k) L'):W2 (zn1 [.fz (ns.map .int),.int st,.int most] L) Q:=by
 unfold zn1;refine Go rfl ?_;unfold Pc;have hlen:((ns.map D.int).length:Int)=ns.length:=by simp
 refine CQ (λρ L'=>L'=L/\∃c:Int,0<=c/\ρ=[some (.fz (ns.map .int)),some (.int st),some (.int most),some (.int c),none,none,none,none,none,none,none,none]) ?_ ?_
 .rfl';exact Hi hb hn h0 (by omega) λc hc1 hc2=>⟨rfl,c,hc1,rfl⟩
 rintro ρ L' ⟨rfl,c,hc1,rfl⟩;have c3:=AIg c (b:=3) (by decide);have c3':=AIh c (b:=3) (by decide);refine LD (Ms (Qo (Qn (Qo (UA rfl (Qn (XG rfl (AE9 ?_))))))));refine CQ (λρ L2=>L2=L'/\∃m n:Int,0<=m/\m<=24/\1<=n/\n<=6/\ρ=[some (.fz (ns.map .int)),some (.int st),some (.int m),some (.int c),some (.int n),none,none,none,none,none,none,none]) ?_ ?_
 .rfl';refine Bm (λh=>?_) (λh=>?_)
  .rfl';exact⟨rfl,_,_,by split <;> omega,by split <;> omega,by omega,by omega,rfl⟩
  .rfl';exact⟨rfl,_,_,h2,h3,by omega,by omega,rfl⟩
 rintro ρ L' ⟨rfl,m,n,hm0,hm1,hn1,hn6,rfl⟩;refine CQ (λρ L1=>L1=L'++[Ob.lst (AIl n.toNat (D.str ""))]/\ρ=[some (.fz (ns.map .int)),some (.int st),some (.int m),some (.int c),some (.int n),some (.ref L'.length),none,none,none,none,none,none]) ?_ ?_
 .rfl';refine Mu (λρ=>∃a,ρ=[a]) (λ_=>some (D.str "")) _ _ ⟨none,rfl⟩ (by rw[Ht];omega) ?_ ?_
  .rintro x hx ρ ⟨a,rfl⟩;rfl';refine⟨⟨_,rfl⟩,λacc=>?_⟩;rfl';refine⟨rfl,?_⟩;rfl';exact⟨rfl,rfl⟩
  .have e:AJQ (λ_=>some (D.str "")) (FC 0 n.toNat)=AIl n.toNat (D.str ""):=by
    have:∀l:List D,AJQ (λ_=>some (D.str "")) l=AIl l.length (D.str ""):=λl=>by
     induction l with
     |nil=>rfl
     |cons x r ih=>rw[AJI,ih];rfl
    rw[this,Ht]
   rw[e];exact⟨rfl,rfl⟩
 rintro ρ L1 ⟨rfl,rfl⟩;refine CQ (λρ L1=>L' <+: L1/\∃(sm:Str) (rows:List Str),BJ sm/\0<sm.length/\sm.length<=20/\L1[L'.length]?=some (.lst (rows.map D.str))/\rows.length=n.toNat/\(∀y∈rows,y = "")/\ρ=[some (.fz (ns.map .int)),some (.int st),some (.int m),some (.int c),some (.int n),some (.ref L'.length),some (.str sm),none,none,none,none,none]) ?_ ?_
 .rfl';refine Gu _ Aq (by decide) (by decide) λd hd=>?_
  have hd':∃s:Str,d=.str s/\BJ s/\0<s.length/\s.length<=20:=by simp only[Ac,EN,or_false] at hd;rcases hd with rfl|rfl|rfl|rfl <;> exact⟨_,rfl,by decide +kernel,by decide +kernel,by decide +kernel⟩
  obtain⟨sm,rfl,e1,e2,e3⟩:=hd';refine⟨by wtm_at "z_pf",sm,AIl n.toNat "",e1,e2,e3,?_,by simp,λy hy=>List.eq_of_mem_replicate hy,rfl⟩;rw[List.map_replicate];exact Al Aq
 rintro ρ L1 ⟨hpre,sm,rows,hs1,hs2,hs3,hg,hrl,hre,rfl⟩
 -- the rows,filled
 refine CQ (λρ L2=>L' <+: L2/\∃(r:Nat) (rows:List Str) (a b e:Option D),L2[r]?=some (.lst (rows.map D.str))/\rows.length=n.toNat/\IU rows/\L'.length<=r/\ρ=[some (.fz (ns.map .int)),some (.int st),some (.int m),some (.int c),some (.int n),some (.ref r),some (.str sm),a,b,e,none,none]) ?_ ?_
 .rfl';refine Bm (λh=>?_) (λh=>?_)
  .rfl';refine Zx (λρ=>∃a,ρ=[a,some (.int m),some (.fz (ns.map .int)),some (.int st)]) (λd=>∃s:Str,d=.str s/\BJ s/\s.length<=100) ⟨none,rfl⟩ (by rw[Ht];omega) ?_ ?_
   .rintro x hx ρ ⟨a,rfl⟩;obtain⟨i,hi,rfl⟩:=ABm hx;rfl';refine⟨⟨_,rfl⟩,λacc=>?_⟩;rfl';refine Hi hb hn (by omega) (by omega) λv hv1 hv2=>?_;rfl';refine WD _ _ hm0 (by omega) λt ht1 ht2=>?_;exact⟨rfl,t,rfl,ht1,by omega⟩
   .intro ds hd hE;rw[Ht] at hd;obtain⟨ys,_,e3⟩:=Ue λd hd=>let ⟨s,a,_⟩:=hE d hd;⟨s,a⟩;refine⟨hpre.trans (BB _ _),L1.length,ys,none,none,none,by rw[<-e3];exact Aq,by rw[<-hd,e3];simp,λy hy=>?_,hpre.length_le,rfl⟩;obtain⟨s,a,b,c⟩:=hE (.str y) (by rw[e3];exact Dp hy);cases a;exact⟨b,c⟩
  .rfl';refine Gw (Na (by omega)) ?_;have hmn:0<=m*n/\m*n<=24*6:=⟨Int.mul_nonneg hm0 (by omega),Int.mul_le_mul hm1 hn6 (by omega) (by omega)⟩;rfl'
   generalize hN:((if st+1+m*n<((List.map D.int ns).length:Int) then st+1+m*n else ((List.map D.int ns).length:Int))-(st+1)).toNat=Bu
   have hcnt:Bu<=63:=by rw[<-hN];split <;> omega
   clear hN hmn;refine DU (λj ρ L2=>L' <+: L2/\∃(rows:List Str) (a b e:Option D),L2[L'.length]?=some (.lst (rows.map D.str))/\rows.length=n.toNat/\(∀y∈rows,BJ y/\y.length<=j)/\ρ=[some (.fz (ns.map .int)),some (.int st),some (.int m),some (.int c),some (.int n),some (.ref L'.length),some (.str sm),a,b,e,none,none]) _ 0 _ _ ⟨hpre,rows,none,none,none,hg,hrl,λy hy=>by rw[hre y hy];exact⟨by decide,by decide⟩,rfl⟩ ?_ ?_
   .rintro i x ρ L2 hx ⟨hpre2,rows,a,b,e,hg2,hrl2,hr2,rfl⟩;obtain⟨hi,rfl⟩:=NM hx;refine⟨rfl,?_⟩;rfl';refine Hi hb hn (by omega) (by omega) λv hv1 hv2=>?_;rfl';obtain⟨sg0,hk1,hk2⟩:=OK (xs:=sm.cps.toList) (n:=(sm.length:Int)) v (by omega) (by simp[Str.length]);refine Rx hk2 ?_;rfl';obtain⟨d,hd,ed⟩:=OK (xs:=rows.map D.str) (n:=n) (st+1+(i:Int)) (by omega) (by simp;omega);rw[BV] at hd;obtain⟨y,hy,rfl⟩:=hd;refine EY hg2 ed ?_;rfl';have hone:(⟨#[sg0]⟩:Str).length=1:=rfl;have hy2:=hr2 y hy;refine Nu (by rw[hone];omega) ?_;rfl';have a0:=AIg (st+1+(i:Int)) (b:=n) (by omega);have a1:=AIh (st+1+(i:Int)) (b:=n) (by omega)
    have hix:ixN (rows.map D.str).length ((st+1+(i:Int)) % n)=some ((st+1+(i:Int)) % n).toNat:=by unfold ixN;rw[if_pos a0,if_pos (by simp;omega)]
    refine XE hg2 hix ?_;refine⟨NO hpre2 (Ai _),rows.set ((st+1+(i:Int)) % n).toNat (y++⟨#[sg0]⟩),_,_,_,?_,by simp[hrl2],λz hz=>?_,rfl⟩
    .rw[DZ hg2,List.map_set]
    .rcases List.mem_or_eq_of_mem_set hz with h|h
     .have:=hr2 z h;exact⟨this.1,by omega⟩
     .rw[h];exact⟨hy2.1.app (.one (hs1 _ hk1)),by rw[OO,hone];omega⟩
   .rintro ρ L2 ⟨hpre2,rows,a,b,e,hg2,hrl2,hr2,rfl⟩;rw[Ht] at hr2;refine⟨rfl,hpre2,_,rows,_,_,_,hg2,hrl2,λy hy=>?_,Ai _,rfl⟩;have:=hr2 y hy;exact⟨this.1,by omega⟩
 clear hg hrl hre hpre rows;rintro ρ L2 ⟨hpre,r,rows,a,b,e,hg,hrl,hr,hrL,rfl⟩;refine CQ (λρ L3=>L' <+: L3/\∃(rows:List Str),L3[r]?=some (.lst (rows.map D.str))/\rows.length=n.toNat/\IU rows/\ρ=[some (.fz (ns.map .int)),some (.int st),some (.int m),some (.int c),some (.int n),some (.ref r),some (.str sm),a,b,e,none,none]) ?_ ?_
 .rfl';refine Bm (λh=>?_) (λh=>?_)
  .rfl';have hsl:=Txt.slice_le sm none (some (1+c / 768 % 2));refine AE4 ?_ ?_
   .unfold KU;simp only[CA,decide_eq_true_eq];have e24:(24:Int).toNat=24:=rfl;rw[e24];refine⟨⟨by decide,by decide⟩,?_⟩;omega
   rfl'
   have hix:ixN (rows.map D.str).length 0=some 0:=by unfold ixN;rw[if_pos (by decide),if_pos (by simp;omega)];rfl
   refine XE hg hix ?_;refine⟨NO hpre hrL,rows.set 0 (Txt.slice (Txt.mul (Txt.slice sm none (some (1+c / 768 % 2))) 24) none (some 24)),?_,by simp[hrl],λz hz=>?_,rfl⟩
   .rw[DZ hg,List.map_set]
   .rcases List.mem_or_eq_of_mem_set hz with h|h
    .exact hr z h
    .rw[h];refine⟨((hs1.slice _ _).mul _).slice _ _,?_⟩;have:=ABC (Txt.mul (Txt.slice sm none (some (1+c / 768 % 2))) 24) 24 (by decide);omega
  .rfl';exact⟨hpre,rows,hg,hrl,hr,rfl⟩
 clear hg hrl hr hpre rows;rintro ρ L3 ⟨hpre,rows,hg,hrl,hr,rfl⟩;rfl';have hrlt:r<L3.length:=(BQ.mp hg).1;refine DU (λj ρ L4=>∃(ts:List Str) (z:Option D),L4=L3++[Ob.lst (ts.map D.str)]/\ts.Nodup/\IU ts/\ts.length<=j/\(0<j->0<ts.length)/\ρ=[some (.fz (ns.map .int)),some (.int st),some (.int m),some (.int c),some (.int n),some (.ref r),some (.str sm),a,b,e,some (.ref L3.length),z]) _ 0 _ _ ⟨[],none,rfl,AIr,λ_ h=>(nomatch h),Ai _,λh=>absurd h (by decide),rfl⟩ ?_ ?_
 .rintro i x ρ L4 hx ⟨ts,z,rfl,hnd,hts,hl,hp,rfl⟩;rw[BD] at hx
  cases hy:rows[i]? with
  |none=>rw[hy] at hx;cases hx
  |some y =>
   rw[hy] at hx;cases hx;have hyr:=hr y (CY hy);have hil:=(BQ.mp hy).1;refine⟨decide_eq_true (Al hg),?_⟩;rfl';refine Nt Aq (by rw[SG];rfl) ?_;rw[Nm];rfl';refine Bm (λhm=>?_) (λhm=>?_)
   .rfl';exact⟨ts,_,rfl,hnd,hts,by omega,λ_=>List.length_pos_of_mem hm,rfl⟩
   .rfl';refine ID Aq (by simp;omega) ?_;refine⟨ts++[y],_,by simp,?_,λw hw=>?_,by simp;omega,λ_=>by simp,rfl⟩
    .rw[AI2];refine⟨hnd,by simp,λa ha b hb=>?_⟩;have:b=y:=by simpa using hb
     rw[this];rintro rfl;exact hm ha
    .rcases DE.mp hw with h|h
     .exact hts w h
     .have:w=y:=by simpa using h
      rw[this];exact hyr
 .rintro ρ L4 ⟨ts,z,rfl,hnd,hts,hl,hp,rfl⟩;refine⟨decide_eq_true (Al hg),?_⟩;rw[Ao,hrl] at hl hp;rfl';exact⟨rfl,q ts _ hnd hts (hp (by omega)) (by omega) _ (hpre.trans (BB _ _)) Aq⟩
theorem WK{Q:AKQ}{L:AD}{p:D}(hp:FN p)(h:Q (.bl true) L):W2 (zg1 [p] L) Q:=by
 obtain⟨kind,nth,edge,rfl,hn,he,hk⟩:=hp;unfold zg1;refine Ci rfl ?_;unfold QY;rfl';refine Rw rfl ?_;have e1:Dz (.int nth) [.int 1,.int 2,.int (-1),.int (-2)]=true:=by rcases hn with rfl|rfl|rfl|rfl <;> decide +kernel
 rw[e1];rfl';refine XJ rfl ?_
 have e2:Dz (.str kind) [.str "small",.str "great",.str "figure",.str "mark",.str "any"]=true:=by simp only[Ac,EN,or_false] at hk;rcases hk with rfl|rfl|rfl|rfl|rfl <;> decide +kernel
 rw[e2];rfl';refine XJ rfl ?_;have e3:Dz (.str edge) [.str "ahead",.str "behind"]=true:=by rcases he with rfl|rfl <;> decide +kernel
 rw[e3];exact⟨rfl,As _,h⟩
def OV(ws:List Str)(ps:List D):Prop:=(∀p∈ps,HJ ws p)/\0<ps.length/\ps.length<=3
theorem AD7{Q:AKQ}{L:AD}{ws:List Str}{ps:List D}{k:Nat}(hk:L[k]?=some (.lst (ws.map D.str)))(hr:OV ws ps)(h:Q (.bl true) L):W2 (zd2 [.tup ps,.ref k] L) Q:=by
 unfold zd2;refine Ci rfl ?_;unfold QQ;have hl1:(1:Int)<=(ps.length:Int):=by have:=hr.2.1;omega
 have hl3:(ps.length:Int)<=3:=by have:=hr.2.2;omega
 rfl';refine DU (λj ρ L'=>L'=L/\∃a,ρ=[some (.tup ps),some (.ref k),a]) _ 0 _ _ ⟨rfl,none,rfl⟩ ?_ ?_
 .rintro i x ρ L' hx ⟨rfl,a,rfl⟩;refine⟨rfl,?_⟩;rcases hr.1 x (CY hx) with⟨w,hm,rfl⟩|⟨deed,p,q,rfl,hd,hp,hq⟩
  .rfl';refine Nt hk (by rw[SG];rfl) ?_;rw[Nm,decide_eq_true hm];rfl';exact⟨rfl,_,rfl⟩
  .have hnw:deed≠"word":=by rcases hd with rfl|rfl|rfl <;> decide
   rfl';refine Rw rfl ?_;have e1:Dz (.str deed) [.str "copy",.str "raise",.str "sink"]=true:=by rcases hd with rfl|rfl|rfl <;> decide +kernel
   rw[e1];rfl';refine WK hp ?_;rfl';refine WK hq ?_;rfl';exact⟨rfl,_,rfl⟩
 .rintro ρ L' ⟨rfl,a,rfl⟩;refine⟨rfl,?_⟩;rfl';exact⟨rfl,As _,h⟩
abbrev FQ:=List (Str×Str)
def Bo(e:Str×Str):D:=.tup [.str e.1,.str e.2]
def IY(exs:FQ):Prop:=∀e∈exs,BJ e.1/\e.1.length<=100/\e.2.length<=10000
def Jf(ps:List D)(exs:FQ):Bool:=exs.all λe=>decide (GR e.1 ps=.str e.2)
theorem AFC{Q:AKQ}{L:AD}{a b:D}(hs:GQ a b=true)(h:Q (.bl (!decide (a=b))) L):W2 (Lf a b L) Q:=⟨_,_,by unfold Lf;rw[if_pos hs],h⟩
theorem AD9{Q:AKQ}{L:AD}{ws:List Str}{ps:List D}{exs:FQ}{k e:Nat}(hk:L[k]?=some (.lst (ws.map D.str)))(he:L[e]?=some (.lst (exs.map Bo)))(hw:HG ws)(hr:OV ws ps)(hx:IY exs)(h:Q (.bl (Jf ps exs)) L):W2 (ze2 [.tup ps,.ref k,.ref e] L) Q:=by
 unfold ze2;refine Ci rfl ?_;unfold QH;rfl';refine AD7 hk hr ?_;rfl';refine DU (λj ρ L'=>L'=L/\Jf ps (exs.take j)=true/\∃a b,ρ=[some (.tup ps),some (.ref k),some (.ref e),a,b]) _ 0 _ _ ⟨rfl,rfl,none,none,rfl⟩ ?_ ?_
 .rintro i x ρ L' hxi ⟨rfl,hf,a,b,rfl⟩;rw[BD] at hxi
  cases hy:exs[i]? with
  |none=>rw[hy] at hxi;cases hxi
  |some ex =>
   rw[hy] at hxi;cases hxi;have hxo:=hx ex (CY hy);have htk:exs.take (0+i+1)=exs.take (0+i)++[ex]:=by rw[Ca,AI7,hy];rfl
   refine⟨decide_eq_true he,?_⟩;unfold Bo;rfl';refine WG (by omega) hxo.1 (λp hp=>(hr.1 p hp).piece hw) (by have:=hr.2.2;omega) ?_;rfl';refine AFC ?_ ?_
   .rcases ABh (y:=ex.1) (ps:=ps) with e|⟨t,e⟩ <;> rw[e] <;> rfl
   rfl';refine Bm (λhd=>?_) (λhd=>?_)
   .rfl';refine⟨rfl,?_,_,_,rfl⟩;rw[htk];unfold Jf at hf ⊢;rw[List.all_append,hf];simp[hd]
   .rfl';refine⟨rfl,As _,?_⟩
    have:Jf ps exs=false:=by unfold Jf;rw[List.all_eq_false];exact⟨ex,CY hy,by simp[hd]⟩
    rw[this] at h;exact h
 .rintro ρ L' ⟨rfl,hf,a,b,rfl⟩;refine⟨decide_eq_true he,?_⟩;rw[Ca,Ao,Gj] at hf;rfl';rw[hf] at h;exact⟨rfl,As _,h⟩
theorem Ui:∀{xs:List D},(∀x∈xs,∃t,x=D.str t)->∃ys,CS xs=some ys
 |[],_=>⟨[],rfl⟩
 |x::xs,h=>by
  obtain⟨t,rfl⟩:=h x BN;obtain⟨ys,e⟩:=Ui λz hz=>h z (BK _ hz);exact⟨t::ys,by simp[CS,e]⟩
theorem ABg{y:Str}{ps:List D}(hy:y.length<=1000)(hs:BJ y)(hp:∀p∈ps,Hn p)(ha:∀p∈ps,∃t,DQ y p=.str t)(hl:ps.length<=3):∃a:Str,GR y ps=.str a/\a.length<=3000:=by
 obtain⟨ys,e⟩:=Ui (xs:=ps.map (DQ y)) λx hx=>by
  rw[BV] at hx;obtain⟨p,hp',rfl⟩:=hx;exact ha p hp'
 have hsum:=UZ hy hs hp e;refine⟨Txt.join "" ys,by unfold GR;rw[e],?_⟩;have:=join_len "" ys;have e0:(Str.ofString "").length=0:=rfl;rw[e0] at this;have:ps.length*1000<=3*1000:=AI3 _ hl;omega
def Jq(ps:List D)(y:Str):Str:=match GR y ps with|.str a=>a|_=>""
theorem AFq(xs:List D)(k:Nat):cutD xs none (some (k:Int))=xs.take k:=by
 unfold cutD;have e:HT.sIx xs.length 0 none=0:=rfl;rw[e,AJL,Nat.sub_zero,HT.AHl]
 by_cases h:k<=xs.length
 .rw[Nat.min_eq_left h]
 .rw[Nat.min_eq_right (by omega),Gj,AJO (by omega)]
theorem AFs(xs:List D)(k:Nat):cutD xs (some (k:Int)) none=xs.drop k:=by
 unfold cutD;have e:HT.sIx xs.length xs.length none=xs.length:=rfl;rw[e,HT.AHl]
 by_cases h:k<=xs.length
 .rw[Nat.min_eq_left h,AJO (by simp)]
 .rw[Nat.min_eq_right (by omega),AJl,List.drop_of_length_le (by omega)];simp
theorem AEA{Q:AKQ}{L:AD}{ts:List Str}{ps:List D}{t:Nat}(c:Int)(htx:L[t]?=some (.lst (ts.map D.str)))(ht:IU ts)(hl:ts.length<=1000)(hp:∀p∈ps,Hn p)(ha:∀p∈ps,JL ts p)(hpl:ps.length<=3)
  (q:∀exs:FQ,exs.map Prod.fst=ts->IY exs->∀k L',L <+: L'->L'[k]?=some (.lst (exs.map Bo))->Q (.ref k) L'):W2 (zm1 [.tup ps,.ref t,.int c] L) Q:=by
 have hans:∀y∈ts,GR y ps=.str (Jq ps y)/\(Jq ps y).length<=3000:=λy hy=>by
  obtain⟨a,e,hl⟩:=ABg (by have:=ht y hy;omega) (ht y hy).1 hp (λp hp=>ha p hp y hy) hpl;have:Jq ps y=a:=by unfold Jq;rw[e]
  rw[this];exact⟨e,hl⟩
 unfold zm1;refine Go rfl ?_;unfold Pf;refine CQ (λρ L'=>L'=L++[Ob.lst ((ts.map λy=>(y,Jq ps y)).map Bo)]/\ρ=[some (.tup ps),some (.ref t),some (.int c),some (.ref L.length),none,none,none,none]) ?_ ?_
 .rfl';refine Hr (I:=λj ρ L2=>(∃a,ρ=[a,some (.tup ps)])/\L2=L++[Ob.lst (((ts.take j).map λy=>(y,Jq ps y)).map Bo)]) _ 0 _ _ ⟨⟨none,rfl⟩,rfl⟩ ?_ ?_
  .rintro i2 z ρ L2 hz ⟨⟨a,rfl⟩,rfl⟩;rw[BD] at hz
   cases hy:ts[i2]? with
   |none=>rw[hy] at hz;cases hz
   |some y =>
    rw[hy] at hz;cases hz;have hym:=CY hy;have hyt:=ht y hym;have hi2:i2<ts.length:=(BQ.mp hy).1;have htk:ts.take (0+i2+1)=ts.take (0+i2)++[y]:=by rw[Ca,AI7,hy];rfl
    refine⟨decide_eq_true (Al htx),?_⟩;rfl';refine WG (by omega) hyt.1 hp (by omega) ?_;rfl';refine⟨_,Aq,by simp;omega,⟨_,rfl⟩,?_⟩;rw[htk,(hans y hym).1];simp[Bo]
  .rintro ρ L2 ⟨_,rfl⟩;refine⟨decide_eq_true (Al htx),?_⟩;rw[Ca,Ao,Gj];exact⟨rfl,rfl⟩
 rintro ρ L' ⟨rfl,rfl⟩;generalize hxs:(ts.map λy=>(y,Jq ps y))=exs;have hfst:exs.map Prod.fst=ts:=by rw[<-hxs,DF];exact List.map_id ts
 have hok:∀e∈exs,BJ e.1/\e.1.length<=100/\e.2.length<=3000:=λe he=>by
  rw[<-hxs,BV] at he;obtain⟨y,hy,rfl⟩:=he;exact⟨(ht y hy).1,(ht y hy).2,(hans y hy).2⟩
 have hok':IY exs:=λe he=>⟨(hok e he).1,(hok e he).2.1,by have:=(hok e he).2.2;omega⟩;have hxl:exs.length<=1000:=by rw[<-hxs];simpa using hl
 refine CQ (λρ L2=>∃(k:Nat) (exs:FQ) (a b e f:Option D),L <+: L2/\L2[k]?=some (.lst (exs.map Bo))/\exs.map Prod.fst=ts/\IY exs/\ρ=[some (.tup ps),some (.ref t),some (.int c),some (.ref k),a,b,e,f]) ?_ ?_
 .have done:∀{p:Prop},p->p:=λh=>h;have keepIt:∃(k:Nat) (exs':FQ) (a b e f:Option D),L <+: (L++[Ob.lst (exs.map Bo)])/\(L++[Ob.lst (exs.map Bo)])[k]?=some (.lst (exs'.map Bo))/\exs'.map Prod.fst=ts/\IY exs'/\[some (D.tup ps),some (.ref t),some (.int c),some (.ref L.length),none,none,none,none]=[some (.tup ps),some (.ref t),some (.int c),some (.ref k),a,b,e,f]:=⟨L.length,exs,none,none,none,none,BB _ _,Aq,hfst,hok',rfl⟩;rfl';refine Bm (λh1=>?_) (λh1=>?_)
  .rfl';refine Bm (λh2=>?_) (λh2=>?_)
   .have h2':0<exs.length:=by simpa using h2
    have hml:(((exs.map Bo).length:Nat):Int)=exs.length:=by simp
    rfl';have a0:=AIg (c / 4) (b:=((exs.map Bo).length:Int)) (by omega);have a1:=AIh (c / 4) (b:=((exs.map Bo).length:Int)) (by omega);generalize hat:(c / 4 % ((exs.map Bo).length:Int))=at0 at a0 a1 ⊢;obtain⟨n,rfl⟩:∃n:Nat,at0=(n:Int):=⟨at0.toNat,by omega⟩;have hlt:n<exs.length:=by omega
    obtain⟨ex,hex0⟩:∃ex,exs[n]?=some ex:=⟨exs[n],by simp[hlt]⟩
    have hsplit:exs=exs.take n++ex::exs.drop (n+1):=by obtain⟨h1,h2⟩:=BQ.mp hex0;rw[<-h2,List.getElem_cons_drop,AJn]
    have ex0:atI (exs.map Bo) (n:Int)=some (Bo ex):=FL (by rw[BD,hex0];rfl);have hex:=hok ex (CY hex0);refine EY Aq ex0 ?_;rw[show Bo ex=D.tup [.str ex.1,.str ex.2] from rfl];rfl';have ha1:(Str.ofString "a").length=1:=by decide
    have s1:=Txt.slice_le (ex.2++"a") none (some 72);have s2:=Txt.slice_le ex.2 none (some (-1));have s3:=Txt.slice_le ex.2 (some 1) none;have s4:=Txt.slice_le ex.2 none (some 1);rw[OO,ha1] at s1;refine Nu (by rw[ha1];omega) ?_;rfl';refine Nu (by omega) ?_;rfl';refine Gu _ Aq (by decide) (by simp) λd hd=>?_
    have hd':∃o:Str,d=.str o/\o.length<=10000:=by
     simp only[Ac,EN,or_false] at hd;rcases hd with rfl|rfl|rfl|rfl
     .exact⟨_,rfl,by omega⟩
     .exact⟨_,rfl,by omega⟩
     .exact⟨_,rfl,by rw[OO];omega⟩
     .exact⟨_,rfl,by decide⟩
    obtain⟨o,rfl,ho⟩:=hd';rfl';rw[AFq];refine XN (by wtm_at "z_lk") Aq (by simp;omega) ?_;rfl';have en1:((n:Int)+1)=((n+1:Nat):Int):=by omega
    rw[en1,AFs];refine XN (by wtm_at "z_lk") Aq (by simp;omega) ?_;refine⟨_,exs.take n++(ex.1,o)::exs.drop (n+1),_,_,_,_,by wtm_at "z_pf",?_,?_,λe he=>?_,rfl⟩
    .rw[Aq];simp[Bo,List.map_take,List.map_drop]
    .rw[<-hfst]
     conv=>rhs;rw[hsplit]
     simp
    .rcases DE.mp he with h|h
     .exact hok' e (AJZ h)
     .rcases Ac.mp h with rfl|h
      .exact⟨hex.1,hex.2.1,ho⟩
      .exact hok' e (List.mem_of_mem_drop h)
   .rfl';exact keepIt
  .rfl';exact keepIt
 .rintro ρ L2 ⟨k,exs,a,b,e,f,hpre,hg,h1,h2,rfl⟩;rfl';exact⟨rfl,q exs h1 h2 k L2 hpre hg⟩
theorem AD5{Q:AKQ}{L:AD}{ns:List Int}(hb:∀z∈ns,Builtin.Int.intBits z<=1048576)(hn:ns.length<=63)
  (q:∀(ws:List Str) (ps:List D) (exs:FQ) L' kw ke kk,HG ws->OV ws ps->IY exs->(exs.map Prod.fst).Nodup->exs.length<=6->L <+: L'->L'[kw]?=some (.lst (ws.map D.str))->L'[ke]?=some (.lst (exs.map Bo))->L'[kk]?=some (.lst [.ref kw,.tup ps,.ref ke])->Q (.ref kk) L') :
  W2 (zo1 [.fz (ns.map .int)] L) Q:=by
 unfold zo1;refine Go rfl ?_;unfold Pa;refine CQ (λρ L'=>∃ws,HG ws/\L <+: L'/\L'[L.length]?=some (.lst (ws.map D.str))/\ρ=[some (.fz (ns.map .int)),some (.ref L.length),none,none]) ?_ ?_
 .rfl';refine Hi hb hn (by decide) (by decide) λc hc1 hc2=>?_;rfl';exact AD1 _ λws L' h1 h2 h3=>⟨ws,h1,h2,h3,rfl⟩
 rintro ρ L1 ⟨ws,hws,hpre1,hkw,rfl⟩;have hwl:(((ws.map D.str).length:Nat):Int)=ws.length:=by simp
 refine CQ (λρ L'=>∃(ts:List Str) (kt:Nat),IU ts/\ts.Nodup/\ts.length<=6/\(ws≠[]\/∀y∈ts,y≠"")/\L1 <+: L'/\L'[kt]?=some (.lst (ts.map D.str))/\ρ=[some (.fz (ns.map .int)),some (.ref L.length),some (.ref kt),none]) ?_ ?_
 .rfl';refine AD2 hb hn 4 10 (by decide) (by decide) (by decide) (by decide) λts L2 hnd hts hl0 hl6 k hpre hg=>?_;have hkw2:=Dr hpre hkw;rfl';refine Hr (I:=λj ρ L3=>(∃a,ρ=[a,some (.ref L.length)])/\L3=L2++[Ob.lst (((ts.take j).filter λ(y:Str)=>decide (y≠("":Str)) || decide (ws≠[])).map D.str)]) _ 0 _ _ ⟨⟨none,rfl⟩,rfl⟩ ?_ ?_
  .rintro i2 z ρ L3 hz ⟨⟨a,rfl⟩,rfl⟩;rw[BD] at hz
   cases hy:ts[i2]? with
   |none=>rw[hy] at hz;cases hz
   |some y =>
    rw[hy] at hz;cases hz;have hi2:i2<ts.length:=(BQ.mp hy).1;have htk:ts.take (0+i2+1)=ts.take (0+i2)++[y]:=by rw[Ca,AI7,hy];rfl
    refine⟨decide_eq_true (Al hg),?_⟩;have hfl:((ts.take (0+i2)).filter λ(y:Str)=>decide (y≠("":Str)) || decide (ws≠[])).length<16777216:=Nat.lt_of_le_of_lt (List.length_filter_le _ _) (by simp;omega);rfl';refine Bm (λh1=>?_) (λh1=>?_)
    .rfl';refine Bm (λh2=>?_) (λh2=>?_)
     .rfl';refine⟨_,Aq,by simpa using hfl,⟨_,rfl⟩,?_⟩;have hw':ws≠[]:=by rintro rfl;simp at h2
      rw[htk,List.filter_append];simp[hw']
     .rfl';refine⟨⟨_,rfl⟩,?_⟩
      have hw':ws=[]:=by
       rcases ws with _|⟨x,r⟩
       .rfl
       .exfalso;apply h2;simp
      rw[htk,List.filter_append];simp[hw',h1]
    .rfl';refine⟨_,Aq,by simpa using hfl,⟨_,rfl⟩,?_⟩;rw[htk,List.filter_append];simp[h1]
  .rintro ρ L3 ⟨_,rfl⟩;refine⟨decide_eq_true (Al hg),?_⟩;rw[Ca,Ao,Gj];refine⟨ts.filter λ(y:Str)=>decide (y≠("":Str)) || decide (ws≠[]),L2.length,λy hy=>hts y (AJd.mp hy).1,hnd.filter _,Ch (List.length_filter_le _ _) hl6,?_,hpre.trans (BB _ _),Aq,rfl⟩
   by_cases hw:ws=[]
   .refine .inr λy hy=>?_;have:=(AJd.mp hy).2;simpa[hw] using this
   .exact .inl hw
 rintro ρ L2 ⟨ts,kt,hts,hnd,hl6,hne,hpre2,hkt,rfl⟩;have hkw2:=Dr hpre2 hkw;refine CQ (λρ L'=>L'=L2/\∃ps,Sg ws ts ps/\ρ=[some (.fz (ns.map .int)),some (.ref L.length),some (.ref kt),some (.tup ps)]) ?_ ?_
 .rfl';refine Hi hb hn (by decide) (by decide) λc hc1 hc2=>?_;rfl';exact AD3 _ hkw2 hkt hws hts (by omega) hne λps hps=>⟨rfl,ps,hps,rfl⟩
 rintro ρ L3 ⟨rfl,ps,hps,rfl⟩;rfl';refine Hi hb hn (by decide) (by decide) λc hc1 hc2=>?_;rfl';refine AEA _ hkt hts (by omega) (λp hp=>(hps.1 p hp).piece hws) hps.2.1 hps.2.2.2 λexs he1 he2 ke L4 hpre4 hke=>?_;rfl';refine⟨rfl,q ws ps exs _ L.length ke _ hws ⟨hps.1,hps.2.2⟩ he2 (by rw[he1];exact hnd) ?_ ((hpre1.trans hpre2).trans (hpre4.trans (BB _ _))) (Al (Dr hpre4 hkw2)) (Al hke) Aq⟩;have:=congrArg List.length he1;simp at this;omega
def WZ:List D:=[.str "small",.str "great",.str "figure",.str "mark",.str "any"]
def SK:List D:=[.str "ahead",.str "behind"]
def p1(k:D):List D:=[D.int 1,.int 2,.int (-1),.int (-2)].flatMap λn=>SK.flatMap λe=>[D.tup [k,n,e]]
def EG:List D:=WZ.flatMap p1
theorem RJ:∀p∈EG,FN p:=by
 intro p hp;simp only[EG,p1,WZ,SK,AJG,Ac,EN,or_false] at hp;obtain⟨k,hk,n,hn,e,he,rfl⟩:=hp
 have h1:∃s:Str,k=.str s/\s∈([("small":Str),"great","figure","mark","any"]:List Str):=by rcases hk with rfl|rfl|rfl|rfl|rfl <;> exact⟨_,rfl,by decide +kernel⟩
 have h2:∃i:Int,n=.int i/\OW i:=by
  rcases hn with rfl|rfl|rfl|rfl
  .exact⟨_,rfl,.inl rfl⟩
  .exact⟨_,rfl,.inr (.inl rfl)⟩
  .exact⟨_,rfl,.inr (.inr (.inl rfl))⟩
  .exact⟨_,rfl,.inr (.inr (.inr rfl))⟩
 have h3:∃s:Str,e=.str s/\(s = "ahead"\/s = "behind"):=by
  clear hk hn h1 h2;rcases he with rfl|rfl
  .exact⟨_,rfl,.inl rfl⟩
  .exact⟨_,rfl,.inr rfl⟩
 obtain⟨s,rfl,hs⟩:=h1;obtain⟨i,rfl,hi⟩:=h2;obtain⟨e,rfl,he'⟩:=h3;exact⟨s,i,e,rfl,hi,he',hs⟩
theorem RI:EG.length=40:=by decide +kernel
theorem AGd{Q:AKQ}{L:AD}(h:∀L',L'[L.length]?=some (.lst EG)->L <+: L'->Q (.ref L.length) L'):W2 (zq1 [] L) Q:=by
 unfold zq1;refine Go rfl ?_;simp only[Oq,Mn,Mi,Mf];rfl';refine Ql (λρ=>∃a b c,ρ=[some (.ref L.length),a,b,c]) L.length 8 40 p1 Aq ⟨none,none,none,rfl⟩ (λx _=>Ai _) (by decide) ?_ ?_
 .rintro x hx ρ L1 acc1 ⟨a,b,c,rfl⟩ hkp hl hB;refine⟨rfl,?_⟩;rfl';refine Ql (λρ=>∃b c,ρ=[some (.ref L.length),some x,b,c]) L.length 2 48 (λn=>SK.flatMap λe=>[D.tup [x,n,e]]) hl ⟨_,_,rfl⟩ (λx _=>Ai _) (by show acc1.length+8<=48;omega) ?_ ?_
  .rintro n hn ρ L2 acc2 ⟨b,c,rfl⟩ hkp2 hl2 hB2;refine⟨rfl,?_⟩;rfl';refine Ql (λρ=>∃c,ρ=[some (.ref L.length),some x,some n,c]) L.length 1 50 (λe=>[D.tup [x,n,e]]) hl2 ⟨_,rfl⟩ (λx _=>Ai _) (by show acc2.length+2<=50;omega) ?_ ?_
   .rintro e he ρ L3 acc3 ⟨c,rfl⟩ hkp3 hl3 hB3;refine⟨rfl,?_⟩;rfl';refine ID hl3 (by omega) ?_;exact⟨⟨_,rfl⟩,.set _ _ _,DZ hl3⟩
   .rintro ρ L3 ⟨c,rfl⟩ hkp3 hl3;exact⟨rfl,⟨_,_,rfl⟩,hkp3,hl3⟩
  .rintro ρ L2 ⟨b,c,rfl⟩ hkp2 hl2;exact⟨rfl,⟨_,_,_,rfl⟩,hkp2,hl2⟩
 .rintro ρ L1 ⟨a,b,c,rfl⟩ hkp hl;refine⟨rfl,?_⟩;rfl';exact⟨rfl,h _ hl (Wb hkp)⟩
def Aw(S:List Nat)(L L':AD):Prop:=L.length<=L'.length/\∀j,j<L.length->j∉S->L'[j]?=L[j]?
theorem Aw.refl(S:List Nat)(L:AD):Aw S L L:=⟨Ai _,λ_ _ _=>rfl⟩
theorem Aw.trans{S:List Nat}{L L1 L2:AD}(a:Aw S L L1)(b:Aw S L1 L2):Aw S L L2:=⟨Ch a.1 b.1,λj h1 h2=>by rw[b.2 j (Cy h1 a.1) h2,a.2 j h1 h2]⟩
theorem Aw.app(S:List Nat)(L M:AD):Aw S L (L++M):=⟨by simp,λj h _=>by rw[FT h]⟩
theorem Aw.set{S:List Nat}{L L1:AD}{k:Nat}{o:Ob}(h:Aw S L L1)(hk:k∈S\/L.length<=k):Aw S L (L1.set k o):=⟨by rw[AJD];exact h.1,λj h1 h2=>by
 rw[Dw (λe=>by subst e;rcases hk with z|z;exact h2 z;omega),h.2 j h1 h2]⟩
theorem Aw.step{S S':List Nat}{L L1 L2:AD}(a:Aw S L L1)(b:Aw S' L1 L2)(i:∀j∈S',j∈S\/L.length<=j):Aw S L L2:=⟨Ch a.1 b.1,λj h1 h2=>by
 rw[b.2 j (Cy h1 a.1) (λz=>by rcases i j z with q|q;exact h2 q;omega),a.2 j h1 h2]⟩
theorem Aw.get{S:List Nat}{L L':AD}{j:Nat}{o:Ob}(h:Aw S L L')(n:j∉S)(e:L[j]?=some o):L'[j]?=some o:=by rw[h.2 j (BQ.mp e).1 n];exact e
theorem Aw.pre{L L':AD}(h:Aw [] L L'):L <+: L':=by rw[List.prefix_iff_getElem?];intro j hj;rw[h.2 j hj (by simp)];simp[hj]
theorem Aw.of_pre{S:List Nat}{L L':AD}(h:L <+: L'):Aw S L L':=by obtain⟨M,rfl⟩:=h;exact .app _ _ _
theorem Aw.mono{S S':List Nat}{L L':AD}(h:Aw S L L')(i:∀j∈S,j∈S'\/L.length<=j):Aw S' L L':=⟨h.1,λj h1 h2=>h.2 j h1 λz=>by rcases i j z with q|q;exact h2 q;omega⟩
theorem Dh{L L':AD}{j:Nat}{o:Ob}(h:L <+: L')(e:L[j]?=some o):L'[j]?=some o:=by obtain⟨M,rfl⟩:=h;exact Al e
theorem Nq{L:AD}{j k:Nat}{a o o':Ob}(hj:L[j]?=some o)(hk:L[k]?=some o')(ne:o≠o'):(L.set j a)[k]?=some o':=by rw[Dw (λe=>by subst e;rw[hj] at hk;exact ne (Option.some.inj hk))];exact hk
theorem DY{L:AD}{j:Nat}{o:Ob}(h:L[j]?=some o):j<L.length:=(BQ.mp h).1
theorem JN{ok:AD->Bool}{g:GF}{elt:EF}{L0:AD}{Q:AD->Prop}(P:Fm->Prop)(f:D->D){items:List D}{ρ:Fm}(hok:∀acc,ok (L0++[.lst acc])=true)(hp:P ρ)(hz:items.length<=16777216)
  (h:∀x∈items,∀ρ,P ρ->W1 (g x ρ) λρ1=>P ρ1/\∀acc,W2 (elt ρ1 (L0++[.lst acc])) λd L2=>L2=L0++[.lst acc]/\d=f x)
  (q:Q (L0++[.lst (items.map f)])):W1 (Db ok g EE elt L0.length items ρ (L0++[.lst []])) Q:=by
 refine Hr (I:=λj ρ L=>P ρ/\L=L0++[.lst ((items.take j).map f)]) items 0 ρ _ ⟨hp,by simp⟩ ?_ ?_
 .rintro i x ρ L e ⟨hp,rfl⟩;refine⟨hok _,?_⟩;have hi:i<items.length:=(BQ.mp e).1;obtain⟨ρ1,e1,hp1,h2⟩:=h x (CY e) ρ hp;obtain⟨d,L2,e3,rfl,rfl⟩:=h2 ((items.take (0+i)).map f);refine⟨ρ1,e1,true,_,rfl,f x,_,e3,(items.take (0+i)).map f,by simp,by simp;omega,hp1,?_⟩;have ht:items.take (0+i+1)=items.take (0+i)++[x]:=by rw[Ca,AI7,e];rfl
  rw[ht,Eo];simp
 .rintro ρ L ⟨_,rfl⟩;exact⟨hok _,by simpa using q⟩
theorem Ic{α:Type}{xs:List α}{i:Nat}{x:α}(h:xs[i]?=some x):xs.take (0+i+1)=xs.take (0+i)++[x]:=by rw[Ca,AI7,h];rfl
def Gd(d:Str)(xs ys:List D):List D:=xs.flatMap λx=>ys.map λy=>.tup [.str d,x,y]
theorem Jn(d:Str)(xs ys:List D):(Gd d xs ys).length=xs.length*ys.length:=by
 unfold Gd
 induction xs with
 |nil=>simp
 |cons x xs ih=>rw[AI8,Cz,ih,Ao,EO,AIs];omega
theorem AGL{Q:AKQ}{L:AD}{d:Str}{a b:Nat}{xs ys:List D}(ha:L[a]?=some (.lst xs))(hb:L[b]?=some (.lst ys))(hz:xs.length*ys.length<=10000000)(hy:ys.length<=1000000)
  (h:∀L2,L <+: L2->L2[L.length]?=some (.lst (Gd d xs ys))->Q (.ref L.length) L2):W2 (zw1 [.str d,.ref a,.ref b] L) Q:=by
 unfold zw1;refine Go rfl ?_;unfold Pv;have hal:=DY ha;have hbl:=DY hb;rfl';refine DU (λj ρ L'=>L <+: L'/\L'[L.length]?=some (.lst (Gd d (xs.take j) ys))/\∃e,ρ=[some (.str d),some (.ref a),some (.ref b),some (.ref L.length),e]) _ 0 _ _ ⟨BB _ _,Aq,none,rfl⟩ ?_ ?_
 .rintro i x ρ L' hx ⟨hp,hl,e,rfl⟩;refine⟨decide_eq_true (Dh hp ha),?_⟩;have hb':=Dh hp hb;have hi:i<xs.length:=(BQ.mp hx).1;rfl';refine JN (λρ=>∃e,ρ=[e,some (.str d),some x]) (λy=>.tup [.str d,x,y]) (λacc=>decide_eq_true (Al hb')) ⟨_,rfl⟩ (by omega) ?_ ?_
  .rintro y hy ρ ⟨e,rfl⟩;rfl';refine⟨⟨_,rfl⟩,λacc=>?_⟩;rfl';exact⟨rfl,rfl⟩
  .rfl';have hll:=DY hl;refine Ry (Al hl) Aq ?_ ?_
   .rw[Jn,Ao,AIe];have h1:min (0+i) xs.length*ys.length<=xs.length*ys.length:=AI9 (Nat.min_le_right _ _) (Ai _);omega
   .rfl';refine⟨NO (hp.trans (BB _ _)) (Ai _),?_,_,rfl⟩;rw[DZ (Al hl),Ic hx];unfold Gd;rw[AJa];simp
 .rintro ρ L' ⟨hp,hl,e,rfl⟩;refine⟨decide_eq_true (Dh hp ha),?_⟩;rfl';refine⟨rfl,h _ hp ?_⟩;simpa using hl
def Mt(w:Str):D:=.tup [.str "word",.str w]
def FH:List Str:=["copy","raise","sink"]
theorem RE{kvs:List (NK×D)}{k:NK}{d:D}{ep:Nat}(h:k∉kvs.map (·.1)):Dq kvs k d=kvs++[(k,d)]/\epN kvs k ep=ep+1:=by
 have:(kvs.any λkv=>decide (kv.1=k))=false:=by rw[AJS];intro ha;obtain⟨x,hx,e⟩:=List.any_eq_true.mp ha;exact h (by rw[<-of_decide_eq_true e];exact Dp hx)
 unfold Dq epN;rw[this];exact⟨rfl,rfl⟩
theorem AEE{kvs:List (NK×D)}{k:NK}(h:k∉kvs.map (·.1)):CK kvs k=none:=by
 unfold CK;rw[AJo.mpr]
 .rfl
 .intro x hx hd;exact h (by rw[<-of_decide_eq_true hd];exact Dp hx)
theorem AEG{kvs:List (NK×D)}{i:Nat}{k:NK}{d:D}(nd:(kvs.map (·.1)).Nodup)(h:kvs[i]?=some (k,d)):CK kvs k=some d:=by
 induction kvs generalizing i with
 |nil=>simp at h
 |cons x xs ih =>
  rw[Ap,AIk] at nd;unfold CK
  cases i with
  |zero =>
   simp at h;subst h;simp
  |succ i =>
   have h':xs[i]?=some (k,d):=by simpa using h
   have hne:x.1≠k:=λe=>nd.1 (by rw[e];exact Dp (f:=λz:NK×D=>z.1) (CY h'));rw[Fq,decide_eq_false hne];exact ih nd.2 h'
def Em(L:AD)(r:Nat)(w:Int)(a:Nat)(kvs:List (NK×D))(ep:Nat):Prop:=L[r]?=some (.ins "Node" [("ways",.int w),("arms",.ref a)])/\L[a]?=some (.dt kvs ep)
theorem RW{Q:AKQ}{L:AD}{k:Nat}{w:Int}(hk:L[k]?=some (.ins "Node" []))(h:∀L2,Em L2 k w L.length [] 0->L2.length=L.length+1->Aw [k] L L2->Q .non L2):W2 (zi [.ref k,.int w] L) Q:=by
 unfold zi;refine LF rfl ?_;unfold PJ;have hkl:=DY hk;rfl';have e1:(L.set k (.ins "Node" (Er "ways" (.int w) [])))[k]?=some (.ins "Node" [("ways",.int w)]):=DZ hk;refine XD (Al e1) rfl rfl ?_;rfl'
 have e2:(((L.set k (.ins "Node" (Er "ways" (.int w) [])))++[Ob.dt [] 0]).set k (.ins "Node" (Er "arms" (.ref (L.set k (.ins "Node" (Er "ways" (.int w) []))).length) [("ways",.int w)])))[k]?=some (.ins "Node" [("ways",.int w),("arms",.ref L.length)]):=by rw[DZ (Al e1),AJD];rfl
 refine⟨λhp=>?_,h _ ⟨e2,?_⟩ (by simp) ?_⟩
 .have:=Dh hp hk;rw[e2] at this;cases this
 .rw[Dw (by omega)];have:=Aq (L:=L.set k (.ins "Node" (Er "ways" (.int w) []))) (a:=Ob.dt [] 0)
  rwa [AJD] at this
 .exact((((Aw.refl _ _).set (.inl (by simp))).trans (.app _ _ _)).set (.inl (by simp)))
def NA(W:D)(g m nd nn rt:Nat):List (Str×D):=[("words",W),("groups",.ref g),("members",.ref m),("nodes",.ref nd),("node_numbers",.ref nn),("roots",.ref rt)]
def BL(d:D):NK:=(dNK d).getD []
theorem LY{d:D}(h:(dNK d).isSome=true):dNK d=some (BL d):=by
 unfold BL
 cases e:dNK d with
 |none=>rw[e] at h;cases h
 |some k=>rfl
theorem NZ{α β:Type}{f:α->β}:∀{l:List α},(l.map f).Nodup->∀{a b},a∈l->b∈l->f a=f b->a=b
 |[],_,_,_,h,_,_=>nomatch h
 |x::l,h,a,b,ha,hb,e=>by
  rw[Ap,AIk] at h;rcases Ac.mp ha with ha'|ha'
  .rcases Ac.mp hb with hb'|hb'
   .rw[ha',hb']
   .exact absurd (by rw[<-ha',e];exact Dp hb') h.1
  .rcases Ac.mp hb with hb'|hb'
   .exact absurd (by rw[<-hb',<-e];exact Dp ha') h.1
   .exact NZ h.2 ha' hb' e
structure KD {κ:Type} (kd:κ->D):Prop where
 key:∀a,dNK (kd a)=some (BL (kd a))
 inj:∀a b,kd a=kd b->a=b
theorem KD.kf{κ:Type}{kd:κ->D}(K:KD kd){a b:κ}(h:BL (kd a)=BL (kd b)):a=b :=
 K.inj a b ((OH (K.key a)).trans (by rw[h];exact(OH (K.key b)).symm))
theorem KD.nk{κ:Type}{kd:κ->D}(K:KD kd)(a:κ):EV (BL (kd a))=kd a:=(OH (K.key a)).symm
def Au(xs:List Str):D:=.tup (xs.map D.str)
def Eh(xs:List Int):D:=.tup (xs.map D.int)
theorem Re{α β:Type}{f:α->β}(hf:∀a b,f a=f b->a=b):∀{xs ys:List α},xs.map f=ys.map f->xs=ys
 |[],[],_=>rfl
 |[],_::_,h=>by cases h
 |_::_,[],h=>by cases h
 |x::xs,y::ys,h=>by
  rw[Ap,Ap] at h;have h1:=List.cons.inj h;rw[hf _ _ h1.1,Re hf h1.2]
theorem Et:KD Au:=⟨λa=>LY (by
  unfold Au;show(Gc (a.map D.str)).isSome=true
  induction a with
  |nil=>rfl
  |cons x a ih =>
   rw[Ap];show((Kl (.str x)).bind λk=>(Gc (a.map D.str)).map (k::·)).isSome=true
   cases e:Gc (a.map D.str) with
   |none=>rw[e] at ih;cases ih
   |some y=>rfl),λa b h=>Re (λ_ _ e=>D.str.inj e) (D.tup.inj h)⟩
theorem JY:KD Eh:=⟨λa=>LY (by
  unfold Eh;show(Gc (a.map D.int)).isSome=true
  induction a with
  |nil=>rfl
  |cons x a ih =>
   rw[Ap];show((Kl (.int x)).bind λk=>(Gc (a.map D.int)).map (k::·)).isSome=true
   cases e:Gc (a.map D.int) with
   |none=>rw[e] at ih;cases ih
   |some y=>rfl),λa b h=>Re (λ_ _ e=>D.int.inj e) (D.tup.inj h)⟩
def Cf{κ:Type}[DecidableEq κ](c:List (κ×List D))(k:κ)(ds:List D):List (κ×List D):=if k∈c.map (·.1) then c.map (λe=>if e.1=k then (e.1,e.2++ds) else e) else c++[(k,ds)]
def FX{κ:Type}[DecidableEq κ](c:List (κ×List D))(k:κ):Option (List D):=(c.find? λe=>decide (e.1=k)).map (·.2)
def cont{κ:Type}(es:List (κ×Nat×List D)):List (κ×List D):=es.map λe=>(e.1,e.2.2)
def Bb{κ:Type}(es:List (κ×Nat×List D)):List Nat:=es.map (·.2.1)
def Cd{κ:Type}(kd:κ->D)(es:List (κ×Nat×List D)):List (NK×D):=es.map λe=>(BL (kd e.1),D.ref e.2.1)
structure DL {κ:Type} (kd:κ->D) (L:AD) (g:Nat) (es:List (κ×Nat×List D)):Prop where
 at_:∃ep,L[g]?=some (.dt (Cd kd es) ep)
 it:∀e∈es,L[e.2.1]?=some (.lst e.2.2)
 nd:(Bb es).Nodup
 kn:(es.map (·.1)).Nodup
section
variable {κ:Type}[DecidableEq κ]{kd:κ->D}{L L':AD}{g:Nat}{es:List (κ×Nat×List D)}
theorem Lw(es:List (κ×Nat×List D)):(cont es).map (·.1)=es.map (·.1):=by unfold cont;rw[DF];rfl
theorem HF{e:κ×Nat×List D}(h:e∈es):e.2.1∈Bb es:=Dp h
theorem DL.same(h:DL kd L g es)(hg:L'[g]?=L[g]?)(ha:∀q∈Bb es,L'[q]?=L[q]?):DL kd L' g es :=
 ⟨let ⟨ep,e⟩:=h.at_;⟨ep,hg.trans e⟩,λe he=>(ha _ (HF he)).trans (h.it e he),h.nd,h.kn⟩
theorem DL.lt(h:DL kd L g es){q:Nat}(hq:q∈Bb es):q<L.length:=by obtain⟨e,he,rfl⟩:=BV.mp hq;exact DY (h.it e he)
theorem DL.glt(h:DL kd L g es):g<L.length:=by obtain⟨ep,e⟩:=h.at_;exact DY e
theorem DL.keep{S:List Nat}(h:DL kd L g es)(k:Aw S L L')(hg:g∉S)(ha:∀q∈Bb es,q∉S):DL kd L' g es:=h.same (k.2 g h.glt hg) λq hq=>k.2 q (h.lt hq) (ha q hq)
theorem DL.pre(h:DL kd L g es)(p:L <+: L'):DL kd L' g es:=h.keep (S:=[]) (.of_pre p) (by simp) (by simp)
theorem VD(K:KD kd):∀{es es':List (κ×Nat×List D)},Cd kd es=Cd kd es'->(∀e∈es,L[e.2.1]?=some (.lst e.2.2))->(∀e∈es',L[e.2.1]?=some (.lst e.2.2))->es=es'
 |[],[],_,_,_=>rfl
 |[],_::_,h,_,_=>by cases h
 |_::_,[],h,_,_=>by cases h
 |(k,q,ds)::es,(k',q',ds')::es',h,h1,h2=>by
  unfold Cd at h;rw[Ap,Ap] at h;have h0:=List.cons.inj h;have hk:=K.kf (congrArg Prod.fst h0.1);have hq:q=q':=by have:=congrArg Prod.snd h0.1;exact D.ref.inj this
  have a1:=h1 _ BN;have a2:=h2 _ BN;subst hk hq;rw[a1] at a2;have hd:ds=ds':=Ob.lst.inj (Option.some.inj a2);subst hd;rw[VD K h0.2 (λe he=>h1 e (BK _ he)) λe he=>h2 e (BK _ he)]
theorem DL.uniq(K:KD kd){es':List (κ×Nat×List D)}(h:DL kd L g es)(h':DL kd L g es'):es=es':=by obtain⟨ep,e⟩:=h.at_;obtain⟨ep',e'⟩:=h'.at_;rw[e] at e';exact VD K (Ob.dt.inj (Option.some.inj e')).1 h.it h'.it
theorem IK{β:Type}{es:List (κ×β)}{k:κ}(h:k∈es.map (·.1)):∃e,es.find? (λe=>decide (e.1=k))=some e/\e∈es/\e.1=k:=by
 cases hf:es.find? (λe=>decide (e.1=k)) with
 |none =>
  obtain⟨e,he,rfl⟩:=BV.mp h;have:=AJo.mp hf e he;simp at this
 |some e=>exact⟨e,rfl,AJ4 hf,by have:=List.find?_some hf;simpa using this⟩
theorem AFR{β:Type}{es:List (κ×β)}{k:κ}(h:k∉es.map (·.1)):es.find? (λe=>decide (e.1=k))=none:=by rw[AJo];intro e he hd;exact h (by rw[<-of_decide_eq_true hd];exact Dp he)
theorem Nd(K:KD kd)(es:List (κ×Nat×List D))(k:κ):CK (Cd kd es) (BL (kd k))=(es.find? λe=>decide (e.1=k)).map λe=>D.ref e.2.1:=by
 unfold CK Cd
 induction es with
 |nil=>rfl
 |cons e es ih =>
  rw[Ap,Fq,Fq]
  by_cases h:e.1=k
  .subst h;simp
  .rw[decide_eq_false h,decide_eq_false (λz=>h (K.kf z))];exact ih
theorem AFv(es:List (κ×Nat×List D))(k:κ):(cont es).find? (λe=>decide (e.1=k))=(es.find? λe=>decide (e.1=k)).map λe=>(e.1,e.2.2):=by unfold cont;rw[List.find?_map];rfl
theorem DL.get(K:KD kd)(h:DL kd L g es){k:κ}{ds:List D}(e:FX (cont es) k=some ds):∃q,CK (Cd kd es) (BL (kd k))=some (.ref q)/\L[q]?=some (.lst ds):=by
 unfold FX at e;rw[AFv] at e;rw[Nd K]
 cases hf:es.find? (λe=>decide (e.1=k)) with
 |none=>rw[hf] at e;cases e
 |some x =>
  rw[hf] at e;have e2:x.2.2=ds:=Option.some.inj e;exact⟨x.2.1,rfl,by rw[<-e2];exact h.it x (AJ4 hf)⟩
theorem AEF(K:KD kd)(es:List (κ×Nat×List D))(k:κ):(CK (Cd kd es) (BL (kd k))).isSome=decide (k∈(cont es).map (·.1)):=by
 rw[Nd K,Lw]
 by_cases h:k∈es.map (·.1)
 .obtain⟨e,he,_⟩:=IK h;rw[he,decide_eq_true h];rfl
 .rw[AFR h,decide_eq_false h];rfl
theorem Yc(c:List (κ×List D)){k:κ}(h:k∈c.map (·.1)):Cf c k []=c:=by
 unfold Cf;rw[if_pos h]
 conv=>rhs;rw[<-List.map_id c]
 apply AIi;intro e _
 by_cases z:e.1=k
 .rw[if_pos z];simp
 .rw[if_neg z];rfl
theorem Yd(c:List (κ×List D))(k:κ)(ds:List D):Cf (Cf c k []) k ds=Cf c k ds:=by
 by_cases h:k∈c.map (·.1)
 .rw[Yc c h]
 .have e1:Cf c k []=c++[(k,[])]:=by unfold Cf;rw[if_neg h]
  have e2:Cf c k ds=c++[(k,ds)]:=by unfold Cf;rw[if_neg h]
  rw[e1,e2];unfold Cf;rw[if_pos (by simp),Eo]
  congr 1
  .conv=>rhs;rw[<-List.map_id c]
   apply AIi;intro e he;rw[if_neg (λz=>h (by rw[<-z];exact Dp he))];rfl
  .simp
theorem Sc(c:List (κ×List D))(k:κ)(ds:List D):(Cf c k ds).map (·.1)=if k∈c.map (·.1) then c.map (·.1) else c.map (·.1)++[k]:=by
 unfold Cf
 by_cases h:k∈c.map (·.1)
 .rw[if_pos h,if_pos h,DF];apply AIi;intro e _
  show(if e.1=k then (e.1,e.2++ds) else e).1=e.1
  split <;> rfl
 .rw[if_neg h,if_neg h,Eo];rfl
theorem Sb{c:List (κ×List D)}{k:κ}{ds:List D}(h:(c.map (·.1)).Nodup):((Cf c k ds).map (·.1)).Nodup:=by
 rw[Sc]
 by_cases z:k∈c.map (·.1)
 .rw[if_pos z];exact h
 .rw[if_neg z,AI2]
  exact⟨h,by simp,λa ha b hb e=>z (by have:b=k:=by simpa using hb
                                      rw[<-this,<-e];exact ha)⟩
theorem Js{c:List (κ×List D)}{k k':κ}{ds ps:List D}(h:(k',ps)∈Cf c k ds):(k',ps)∈c\/k'=k/\((ps=ds)\/∃qs,(k,qs)∈c/\ps=qs++ds):=by
 unfold Cf at h
 by_cases z:k∈c.map (·.1)
 .rw[if_pos z] at h;obtain⟨e,he,h⟩:=BV.mp h
  by_cases y:e.1=k
  .rw[if_pos y] at h;have h1:=congrArg Prod.fst h;have h2:=congrArg Prod.snd h;simp only at h1 h2;refine .inr ⟨by rw[<-h1,y],.inr ⟨e.2,?_,h2.symm⟩⟩;rw[<-y];exact he
  .rw[if_neg y] at h;rw[<-h];exact .inl he
 .rw[if_neg z] at h;rcases DE.mp h with h|h
  .exact .inl h
  .have h':(k',ps)=(k,ds):=by simpa using h
   cases h';exact .inr ⟨rfl,.inl rfl⟩
def EL(c:List (κ×List D))(n b:Nat):Prop:=c.length<=n/\∀e∈c,e.2.length<=b
theorem EL.add{c:List (κ×List D)}{n b m:Nat}{k:κ}{ds:List D}(h:EL c n b)(hd:ds.length<=m):EL (Cf c k ds) (n+1) (b+m):=by
 refine⟨?_,λ⟨k',ps⟩ he=>?_⟩
 .have:=congrArg List.length (Sc c k ds);rw[Ao] at this;rw[this];have h1:=h.1;split
  .rw[Ao];omega
  .rw[Cz,Ao];simp;omega
 .rcases Js he with h'|⟨_,h'|⟨qs,h',h2⟩⟩
  .have:=h.2 _ h';simp only at this ⊢;omega
  .simp only;rw[h'];omega
  .have:=h.2 _ h';simp only at this ⊢;rw[h2,Cz];omega
theorem EL.mono{c:List (κ×List D)}{n b n' b':Nat}(h:EL c n b)(h1:n<=n')(h2:b<=b'):EL c n' b':=⟨Ch h.1 h1,λe he=>Ch (h.2 e he) h2⟩
theorem Km(es:List (κ×Nat×List D)):(cont es).length=es.length:=by unfold cont;rw[Ao]
theorem Xm{Q:AKQ}(K:KD kd){k:κ}{q:Nat}(h:DL kd L g es)(hz:es.length<16777216)(hq:L[q]?=some (.lst []))(hqn:q∉Bb es)
  (p:∀L2 q2 es2 old,DL kd L2 g es2->(k,q2,old)∈es2->cont es2=Cf (cont es) k []->(∀x∈Bb es2,x∈Bb es\/x=q)->Aw [g] L L2->L2.length=L.length->Q (.ref q2) L2):W2 (IE (.ref g) [kd k,.ref q] L) Q:=by
 obtain⟨ep,ha⟩:=h.at_
 by_cases hk:k∈es.map (·.1)
 .obtain⟨e,hf,he,hek⟩:=IK hk;refine AE2 ha (K.key _) (d:=.ref e.2.1) (by rw[Nd K,hf];rfl) ?_;refine p L e.2.1 es e.2.2 h (by rw[<-hek];exact he) ?_ (λx hx=>.inl hx) (.refl _ _) rfl;rw[Yc _ (by rw[Lw];exact hk)]
 .have hnk:BL (kd k)∉(Cd kd es).map (·.1):=λz=>by
   unfold Cd at z;rw[DF] at z;obtain⟨e,he,h2⟩:=BV.mp z;exact hk (by rw[<-K.kf h2];exact Dp he)
  refine AE3 ha (K.key _) (AEE hnk) (by unfold Cd;rw[Ao];exact hz) ?_;have hput:=λd ep=>RE (d:=d) (ep:=ep) hnk;rw[(hput _ 0).1,(hput .non _).2];have hgq:g≠q:=λz=>by rw[z,hq] at ha;cases ha
  have er:Cd kd es++[(BL (kd k),D.ref q)]=Cd kd (es++[(k,q,[])]):=by unfold Cd;rw[Eo];rfl
  rw[er];refine p _ q (es++[(k,q,[])]) [] ⟨⟨_,DZ ha⟩,λe he=>?_,?_,?_⟩ (by simp) ?_ (λx hx=>?_) ((Aw.refl _ _).set (.inl (by simp))) (by simp)
  .rcases DE.mp he with he|he
   .exact Nq ha (h.it e he) (by simp)
   .have:e=(k,q,[]):=by simpa using he
    subst this;exact Jc hgq hq
  .unfold Bb;rw[Eo,AI2]
   exact⟨h.nd,by simp,λa ha b hb z=>hqn (by have:b=q:=by simpa using hb
                                            rw[<-this,<-z];exact ha)⟩
  .rw[Eo,AI2]
   exact⟨h.kn,by simp,λa ha b hb z=>hk (by have:b=k:=by simpa using hb
                                           rw[<-this,<-z];exact ha)⟩
  .unfold Cf;rw[Lw,if_neg hk];unfold cont;rw[Eo];rfl
  .unfold Bb at hx;rw[Eo] at hx;rcases DE.mp hx with hx|hx
   .exact .inl hx
   .exact .inr (by simpa using hx)
theorem DL.grow{k:κ}{q:Nat}{old ds:List D}(h:DL kd L g es)(hm:(k,q,old)∈es):∃es2,DL kd (L.set q (.lst (old++ds))) g es2/\cont es2=Cf (cont es) k ds/\Bb es2=Bb es:=by
 obtain⟨ep,ha⟩:=h.at_;have hgq:q≠g:=λz=>by have:=h.it _ hm;simp only at this;rw[z,ha] at this;cases this
 have hraw:Cd kd (es.map λe=>if e.1=k then (e.1,e.2.1,e.2.2++ds) else e)=Cd kd es:=by
  unfold Cd;rw[DF];apply AIi;intro e _
  show(BL (kd (if e.1=k then (e.1,e.2.1,e.2.2++ds) else e).1),D.ref (if e.1=k then (e.1,e.2.1,e.2.2++ds) else e).2.1)=_
  split <;> rfl
 have hadr:Bb (es.map λe=>if e.1=k then (e.1,e.2.1,e.2.2++ds) else e)=Bb es:=by
  unfold Bb;rw[DF];apply AIi;intro e _
  show(if e.1=k then (e.1,e.2.1,e.2.2++ds) else e).2.1=_
  split <;> rfl
 refine⟨es.map λe=>if e.1=k then (e.1,e.2.1,e.2.2++ds) else e,⟨⟨ep,by rw[hraw];exact Jc hgq ha⟩,λe he=>?_,by rw[hadr];exact h.nd,?_⟩,?_,hadr⟩
 .obtain⟨e0,he0,rfl⟩:=BV.mp he
  by_cases z:e0.1=k
  .rw[if_pos z];have:e0=(k,q,old):=NZ (f:=λe=>e.1) h.kn he0 hm z;subst this;exact DZ (h.it _ hm)
  .rw[if_neg z];refine Jc (λy=>z ?_) (h.it e0 he0);have:(k,q,old)=e0:=NZ (l:=es) (f:=λe:κ×Nat×List D=>e.2.1) (show(es.map λe=>e.2.1).Nodup from h.nd) hm he0 y;rw[<-this]
 .rw[DF]
  have:((λe:κ×Nat×List D=>e.1)∘λe=>if e.1=k then (e.1,e.2.1,e.2.2++ds) else e)=λe=>e.1:=by
   funext e
   show(if e.1=k then (e.1,e.2.1,e.2.2++ds) else e).1=e.1
   split <;> rfl
  rw[this];exact h.kn
 .unfold Cf;rw[if_pos (by rw[Lw];exact Dp (f:=λe:κ×Nat×List D=>e.1) hm)];unfold cont;rw[DF,DF];apply AIi;intro e _
  show((if e.1=k then (e.1,e.2.1,e.2.2++ds) else e).1,(if e.1=k then (e.1,e.2.1,e.2.2++ds) else e).2.2)=if e.1=k then (e.1,e.2.2++ds) else (e.1,e.2.2)
  split <;> rfl
end
theorem LW{α β:Type}(f:α->β)(xs:List α)(i:Nat)(a:α)(b:β)(h:i<xs.length):(xs.map f)[i]?.getD b=f (xs.getD i a):=by simp[h]
theorem Px{xs ys:List Str}{i:Nat}{x:D}(hl:ys.length=xs.length)(h:(Fs (xs.map D.str).length [xs.map D.str,ys.map D.str])[i]?=some x):i<xs.length/\x=.tup [.str (xs.getD i ""),.str (ys.getD i "")]:=by
 unfold Fs at h;rw[BD,Ao] at h
 by_cases hi:i<xs.length
 .rw[AJE hi] at h;refine⟨hi,?_⟩;have h':=Option.some.inj h;rw[<-h'];simp only[Ap,AJK];rw[LW D.str xs i "" .non hi,LW D.str ys i "" .non (by omega)]
 .rw[AIw (by simp;omega)] at h;cases h
theorem Mg(n:Nat)(yss:List (List D)):(Fs n yss).length=n:=by unfold Fs;simp
def Rr(as w:List Str):Bool:=(List.range as.length).all λi=>He (as.getD i "") (w.getD i "")
theorem Zt{Q:AKQ}{L:AD}{as w:List Str}(hl:w.length=as.length)(hz:as.length<=1000)(h:Q (.bl (Rr as w)) L):W2 (zu1 [Au as,Au w] L) Q:=by
 unfold zu1;refine Ci rfl ?_;unfold QR Au;rfl';refine⟨as.map D.str,[w.map D.str],rfl,⟨by simp[hl],by simp,rfl⟩,?_⟩
 refine JN (λρ=>∃e1 e2,ρ=[e1,e2]) (λx=>match x with|.tup [.str a,.str b]=>.bl (He a b)|_=>.non) (λacc=>decide_eq_true rfl) ⟨none,none,rfl⟩ (by rw[Mg,Ao];omega) ?_ ?_
 .rintro x hx ρ ⟨e1,e2,rfl⟩;obtain⟨i,hi,hx⟩:=AJX hx;obtain⟨hi2,rfl⟩:=Px hl (x:=x) (i:=i) (by rw[List.getElem?_eq_getElem hi,hx]);rfl';refine⟨⟨_,_,rfl⟩,λacc=>?_⟩;rfl';exact⟨rfl,rfl⟩
 .rfl'
  have e0:(Fs (as.map D.str).length [as.map D.str,w.map D.str]).map (λx=>match x with|.tup [.str a,.str b]=>D.bl (He a b)|_=>.non)=((List.range as.length).map λi=>He (as.getD i "") (w.getD i "")).map D.bl:=by
   apply AJT;intro i;rw[BD,BD,BD]
   cases hx:(Fs (as.map D.str).length [as.map D.str,w.map D.str])[i]? with
   |none =>
    have:as.length<=i:=by have:=AJ3.mp hx;rw[Mg,Ao] at this;exact this
    rw[AIw (by simp;exact this)];rfl
   |some x =>
    obtain⟨hi2,rfl⟩:=Px hl hx;rw[AJE hi2];rfl
  rw[e0]
  have e2:∀l:List Bool,blsD (l.map D.bl)=some l:=λl=>by
   induction l with
   |nil=>rfl
   |cons x l ih=>rw[Ap];simp[blsD,ih]
  refine AE8 Aq (e2 _) ?_;refine⟨rfl,BB _ _,?_⟩;rw[List.all_map];exact h
def CU(w:List Str)(c:List (List Str×List D))(a:List Str×List D):List (List Str×List D):=if Rr a.1 w=true then Cf c a.1 a.2 else c
theorem Ye{Q:AKQ}{L:AD}{g p:Nat}{es:List (List Str×Nat×List D)}{as w:List Str}{ds:List D}(hg:DL Au L g es)(hp:L[p]?=some (.lst ds))(hpn:p∉Bb es)(hl:w.length=as.length)(hn:as.length<=1000)
  (hz:es.length<16777216) (hb:∀e∈cont es,e.2.length+ds.length<=16777216) (hd:ds.length<=16777216)
  (h:∀L2 es2,DL Au L2 g es2->cont es2=CU w (cont es) (as,ds)->(∀x∈Bb es2,x∈Bb es\/L.length<=x)->Aw (g::Bb es) L L2->Q .non L2):W2 (ze1 [.ref g,Au w,Au as,.ref p] L) Q:=by
 unfold ze1;refine LF rfl ?_;unfold QJ;obtain⟨ep0,hg0⟩:=hg.at_;rfl';refine Zt hl hn ?_
 by_cases hw:Rr as w=true
 .rw[hw];rfl';refine Xm (q:=L.length) Et (hg.pre (BB _ _)) hz Aq (λz=>HR _ (hg.lt z)) λL2 q2 es2 old h2 hm hc ha hk hlen=>?_;have hpl:=DY hp
  have hp2:L2[p]?=some (.lst ds):=hk.get (λz=>by
   have:p=g:=by simpa using z
   obtain⟨ep,e⟩:=hg.at_
   rw[<-this,hp] at e;cases e) (Al hp)
  refine UG (h2.it _ hm) ?_;rfl';refine Ry (h2.it _ hm) hp2 ?_ ?_
  .have:(as,old)∈cont es2:=Dp (f:=λe:List Str×Nat×List D=>(e.1,e.2.2)) hm;rw[hc] at this;rcases Js this with h'|⟨_,h'|⟨qs,h',h3⟩⟩
   .exact hb _ h'
   .rw[h'];simpa using hd
   .rw[h3];simpa using hb _ h'
  .rfl';obtain⟨es3,h3,hc3,ha3⟩:=h2.grow (ds:=ds) hm
   have hcc:cont es3=CU w (cont es) (as,ds):=by rw[hc3,hc,Yd];unfold CU;rw[if_pos hw]
   refine⟨λhpre=>?_,h _ es3 h3 hcc (λx hx=>?_) ?_⟩
   .have e:=DL.uniq Et (hg.pre hpre) h3;refine h L es hg ?_ (λx hx=>.inl hx) (.refl _ _);rw[<-hcc,<-e]
   .rw[ha3] at hx;rcases ha x hx with z|z
    .exact .inl z
    .exact .inr (AJB z.symm)
   .have k1:Aw (g::Bb es) L L2:=(Aw.app _ _ _).step hk λj hj=>.inl (by simp at hj;simp[hj]);refine k1.set ?_;rcases ha q2 (HF hm) with z|z
    .exact .inl (BK _ z)
    .exact .inr (AJB z.symm)
 .rw[Bool.not_eq_true] at hw;rw[hw];rfl';have hcc:cont es=CU w (cont es) (as,ds):=by unfold CU;rw[if_neg (by simp[hw])]
  exact⟨λ_=>h L es hg hcc (λx hx=>.inl hx) (.refl _ _),h L es hg hcc (λx hx=>.inl hx) (.refl _ _)⟩
theorem AA7{Q:AKQ}{L:AD}{p:D}{y:Str}(hy:y.length<=1000)(hs:BJ y)(hp:FN p)(h:Q (ER p y) L):W2 (zz [p,.str y] L) Q:=by
 obtain⟨kind,nth,edge,rfl,hn,he,_⟩:=hp;obtain⟨d,h1,h2⟩:=NG (λi=>EW kind (sg y i)) y.cps.size hn (decide (edge = "behind"));simp only[LJ,h1,Option.getD_some] at h;refine Uq hy ?_ h;rw[Vq hs];have e:(!decide (edge = "ahead"))=decide (edge = "behind"):=by rcases he with rfl|rfl <;> decide
 rw[e];exact h1
def OR(ts:List Str):Prop:=(∀y∈ts,BJ y/\y.length<=100)/\ts.length<=100
def HV(ts:List Str)(p:D):Option (List Int):=FE (ts.map λy=>ER p y)
theorem Nl:∀{xs:List D} {ys:List Int},FE xs=some ys->xs=ys.map D.int
 |[],ys,h=>by cases h;rfl
 |x::xs,ys,h=>by
  cases x with
  |int s =>
   simp only[FE] at h
   cases e:FE xs with
   |none=>rw[e] at h;cases h
   |some a=>rw[e] at h;cases h;simp[<-Nl e]
  |_=>simp[FE] at h
theorem Wo:∀{xs:List D},(∀d∈xs,d=.non\/∃t,d=.int t)->Dz .non xs=(FE xs).isNone
 |[],_=>rfl
 |x::xs,h=>by
  have ih:=Wo λd hd=>h d (BK _ hd);rcases h x BN with rfl|⟨t,rfl⟩
  .rfl
  .have:Dz .non (.int t::xs)=Dz .non xs:=rfl;rw[this,ih];simp only[FE];cases FE xs <;> rfl
def DV(ts:List Str)(c:List (List Int×List D))(p:D):List (List Int×List D):=match HV ts p with|some ks=>Cf c ks [p]|none=>c
def Cm(ts:List Str):List (List Int×List D):=EG.foldl (DV ts) []
theorem RM{ts:List Str}:∀(ps:List D) {c:List (List Int×List D)} {n b:Nat},EL c n b->EL (ps.foldl (DV ts) c) (n+ps.length) (b+ps.length)
 |[],c,n,b,h=>h
 |p::ps,c,n,b,h=>by
  have h1:EL (DV ts c p) (n+1) (b+1):=by
   unfold DV;split
   .exact h.add (by simp)
   .exact h.mono (by omega) (by omega)
  exact(RM ps h1).mono (by simp;omega) (by simp;omega)
theorem MA{κ:Type}[DecidableEq κ]:EL ([]:List (κ×List D)) 0 0:=⟨Ai _,(λ_ h=>(nomatch h))⟩
theorem SD{α β:Type}{f:β->α->β}{xs:List α}{i:Nat}{x:α}{b:β}(h:xs[i]?=some x):(xs.take (0+i+1)).foldl f b=f ((xs.take (0+i)).foldl f b) x:=by rw[Ic h,List.foldl_append];rfl
theorem AGD{Q:AKQ}{L:AD}{tx:Nat}{ts:List Str}(ht:L[tx]?=some (.lst (ts.map D.str)))(ok:OR ts)
  (h:∀L2 es,L <+: L2->DL Eh L2 L.length es->cont es=Cm ts->(∀x∈Bb es,L.length<x)->Q (.ref L.length) L2):W2 (zt1 [.ref tx] L) Q:=by
 unfold zt1;refine Go rfl ?_;unfold QW;rfl';refine AGd λL1 h1 hp1=>?_;rfl';have hlen1:=DY h1;have ed1:L1[L.length]?=some (.dt [] 0):=Dh hp1 Aq;have e0:(L++[Ob.dt [] 0]).length=L.length+1:=by simp
 have htl:=DY ht
 refine DU (λj ρ L'=>Aw [L.length] L1 L'/\(∃e1 e2,ρ=[some (.ref tx),some (.ref L.length),e1,e2])/\∃es,DL Eh L' L.length es/\cont es=(EG.take j).foldl (DV ts) []/\∀x∈Bb es,L1.length<=x) _ 0 _ _
  ⟨.refl _ _,⟨none,none,rfl⟩,[],⟨⟨0,ed1⟩,(λ_ h=>(nomatch h)),AIr,AIr⟩,rfl,(λ_ h=>(nomatch h))⟩ ?_ ?_
 .rintro i x ρ L' hx ⟨hk,⟨e1,e2,rfl⟩,es,hd,hc,ha⟩;refine⟨decide_eq_true (hk.get (by simp) h1),?_⟩;have ht1:L'[tx]?=some (.lst (ts.map D.str)):=hk.get (by simp;omega) (Dh hp1 (Al ht));have hpl:=RJ x (CY hx);have hi:i<40:=by have:=(BQ.mp hx).1;rw[RI] at this;exact this
  have hb:EL (cont es) 40 40:=by
   rw[hc];have:=RM (ts:=ts) (EG.take (0+i)) MA;have hl:(EG.take (0+i)).length<=40:=by rw[AIe,RI];omega
   exact this.mono (by omega) (by omega)
  rfl'
  refine JN (λρ=>∃e,ρ=[e,some x]) (λy=>match y with|.str s=>ER x s|_=>.non) (λacc=>decide_eq_true (Al ht1)) ⟨_,rfl⟩ (by rw[Ao];have:=ok.2;omega) ?_ ?_
  .rintro y hy ρ ⟨e,rfl⟩;obtain⟨s,hs,rfl⟩:=BV.mp hy;rfl';refine⟨⟨_,rfl⟩,λacc=>?_⟩;rfl';refine AA7 (by have:=(ok.1 s hs).2;omega) (ok.1 s hs).1 hpl ?_;exact⟨rfl,rfl⟩
  .have em:(ts.map D.str).map (λy=>match y with|.str s=>ER x s|_=>.non)=ts.map λy=>ER x y:=by rw[DF];rfl
   rw[em]
   have hk2:∀d∈ts.map (λy=>ER x y),d=.non\/∃t,d=.int t:=λd hd=>by
    obtain⟨y,_,rfl⟩:=BV.mp hd;rcases LK hpl y with e|⟨t,e,_⟩
    .exact .inl e
    .exact .inr ⟨t,e⟩
   rfl'
   refine Rw (by
    rw[CA,De];refine⟨rfl,λd hd=>?_⟩
    rcases hk2 d hd with rfl|⟨t,rfl⟩ <;> rfl) ?_
   rw[Wo hk2];have hf:=SD (f:=DV ts) (b:=[]) hx
   cases e3:FE (ts.map λy=>ER x y) with
   |none =>
    have e4:DV ts ((EG.take (0+i)).foldl (DV ts) []) x=(EG.take (0+i)).foldl (DV ts) []:=by unfold DV HV;rw[e3]
    rw[show(none:Option (List Int)).isNone=true from rfl];rfl';exact⟨hk.trans (.app _ _ _),⟨_,_,rfl⟩,es,hd.pre (BB _ _),by rw[hf,e4];exact hc,ha⟩
   |some ks =>
    have e4:DV ts ((EG.take (0+i)).foldl (DV ts) []) x=Cf ((EG.take (0+i)).foldl (DV ts) []) ks [x]:=by unfold DV HV;rw[e3]
    rw[show(some ks).isNone=false from rfl,Nl e3];obtain⟨epd,hd0⟩:=hd.at_;rfl';have hkl:=hk.1;refine Xm (k:=ks) (q:=(L'++[Ob.lst (ks.map D.int)]).length) JY ((hd.pre (BB _ [Ob.lst (ks.map D.int)])).pre (BB _ _)) (by have:=hb.1;rw[Km] at this;omega) Aq (λz=>by have:=hd.lt z;simp at this;omega) λL2 q2 es2 old h2 hm hcc haa hkk hlen=>?_;refine UG (h2.it _ hm) ?_;rfl';refine ID (h2.it _ hm) ?_ ?_
    .have:(ks,old)∈cont es2:=Dp (f:=λe:List Int×Nat×List D=>(e.1,e.2.2)) hm;rw[hcc] at this;have h9:old.length<=40+0:=(hb.add (m:=0) (ds:=[]) (k:=ks) (Ai _)).2 _ this;show old.length<16777216;omega
    .rfl';obtain⟨es3,h3,hc3,ha3⟩:=h2.grow (ds:=[x]) hm;have kk:Aw [L.length] L1 L2:=((hk.trans (.app _ _ _)).trans (.app _ _ _)).trans hkk
     have hq2:L1.length<=q2:=by
      rcases haa q2 (HF hm) with z|z
      .exact ha q2 z
      .rw[z];simp;omega
     refine⟨kk.set (.inr hq2),⟨_,_,rfl⟩,es3,h3,?_,λy hy=>?_⟩
     .rw[hc3,hcc,Yd,hf,e4,hc]
     .rw[ha3] at hy;rcases haa y hy with z|z
      .exact ha y z
      .rw[z];simp;omega
 .rintro ρ L' ⟨hk,⟨e1,e2,rfl⟩,es,hd,hc,ha⟩;refine⟨decide_eq_true (hk.get (by simp) h1),?_⟩;rfl';refine⟨rfl,h _ es ?_ hd ?_ λx hx=>?_⟩
  .have:Aw [L.length] (L++[Ob.dt [] 0]) L':=(Aw.of_pre hp1).trans hk;exact Aw.pre (((Aw.app _ _ _).trans this).mono λj hj=>.inr (by simp at hj;omega))
  .rw[hc,Ca,Gj];rfl
  .have:=ha x hx;omega
def Fx(ts:List Str)(ss ee:List Int):Bool:=(List.range ts.length).all λi=>decide (ss.getD i 0<ee.getD i 0)
def FK(ts:List Str)(ss ee:List Int)(n:Nat):List Str:=(List.range n).map λi=>Txt.slice (ts.getD i "") (some (ss.getD i 0)) (some (ee.getD i 0))
theorem Zb{ts:List Str}{ss ee:List Int}{i:Nat}{x:D}(h1:ss.length=ts.length)(h2:ee.length=ts.length)(h:(Fs (ts.map D.str).length [ts.map D.str,ss.map D.int,ee.map D.int])[i]?=some x):i<ts.length/\x=.tup [.str (ts.getD i ""),.int (ss.getD i 0),.int (ee.getD i 0)]:=by
 unfold Fs at h;rw[BD,Ao] at h
 by_cases hi:i<ts.length
 .rw[AJE hi] at h;refine⟨hi,?_⟩;have h':=Option.some.inj h;rw[<-h'];simp only[Ap,AJK];rw[LW D.str ts i "" .non hi,LW D.int ss i 0 .non (by omega),LW D.int ee i 0 .non (by omega)]
 .rw[AIw (by simp;omega)] at h;cases h
theorem AA3{Q:AKQ}{L:AD}{tx:Nat}{ts:List Str}{ss ee:List Int}(ht:L[tx]?=some (.lst (ts.map D.str)))(hz:ts.length<=1000)(h1:ss.length=ts.length)(h2:ee.length=ts.length)
  (hn:Fx ts ss ee=false->Q .non L) (hy:Fx ts ss ee=true->Q (.ref L.length) (L++[.lst ((FK ts ss ee ts.length).map D.str)])):W2 (zv1 [.ref tx,Eh ss,Eh ee] L) Q:=by
 unfold zv1;refine AAB rfl ?_;unfold QC Eh;rfl';have e0:∀M:AD,M[tx]?=some (.lst (ts.map D.str))->seqs [.ref tx,.tup (ss.map D.int),.tup (ee.map D.int)] M=some [ts.map D.str,ss.map D.int,ee.map D.int]:=λM hM=>by simp[seqs,DH,hM]
 refine⟨ts.map D.str,[ss.map D.int,ee.map D.int],e0 _ (Al ht),⟨by simp[h1,h2],by simp,rfl⟩,?_⟩;refine DU (λj ρ L'=>L'=L++[.lst ((FK ts ss ee j).map D.str)]/\(∀i,i<j->i<ts.length->ss.getD i 0<ee.getD i 0)/\∃e1 e2 e3,ρ=[some (.ref tx),some (.tup (ss.map D.int)),some (.tup (ee.map D.int)),some (.ref L.length),e1,e2,e3]) _ 0 _ _ ⟨rfl,λi hi=>(by omega),none,none,none,rfl⟩ ?_ ?_
 .rintro i x ρ L' hx ⟨rfl,hlt,e1,e2,e3,rfl⟩;refine⟨decide_eq_true (e0 _ (Al ht)),?_⟩;obtain⟨hi,rfl⟩:=Zb h1 h2 hx;rfl';refine Bm (λhge=>?_) (λhge=>?_)
  .rfl';refine⟨BB _ _,λ_=>hn ?_,λz=>by cases z⟩;rw[AJS];intro hall;unfold Fx at hall;have:=De.mp hall i (Dd.mpr hi);have:=of_decide_eq_true this;omega
  .rfl';refine ID Aq (by unfold FK;simp;omega) ?_;rfl';refine⟨?_,λk hk hkt=>?_,_,_,_,rfl⟩
   .have:FK ts ss ee (0+i+1)=FK ts ss ee (0+i)++[Txt.slice (ts.getD i "") (some (ss.getD i 0)) (some (ee.getD i 0))]:=by
     unfold FK;rw[AJr,Eo,Ca];rfl
    rw[this,Eo];simp
   .by_cases z:k=i
    .subst z;omega
    .exact hlt k (by omega) hkt
 .rintro ρ L' ⟨rfl,hlt,e1,e2,e3,rfl⟩;refine⟨decide_eq_true (e0 _ (Al ht)),?_⟩;rw[Mg,Ao,Ca] at *;rfl';refine⟨BB _ _,(λz=>by cases z),λ_=>hy ?_⟩;unfold Fx;rw[De];exact λi hi=>decide_eq_true (hlt i (Dd.mp hi) (Dd.mp hi))
theorem AFj{Q:AKQ}{L:AD}{d y:Str}(hd:d∈FH)(hs:BJ y)(hl:y.length<=1000)(h:Q (.str (FJ d y)) L):W2 (zx1 [.str d,.str y] L) Q:=by
 unfold zx1;refine Ci rfl ?_;unfold Pn;unfold FJ at h;simp only[FH,Ac,EN,or_false] at hd;rcases hd with rfl|rfl|rfl
 .rw[if_neg (by decide),if_neg (by decide)] at h;rfl';exact⟨rfl,As _,h⟩
 .rw[if_pos rfl] at h;rfl';refine Nr (by rw[Qr hs];omega) ?_;exact⟨rfl,As _,h⟩
 .rw[if_neg (by decide),if_pos rfl] at h;rfl';refine Nr (by rw[Rf hs];omega) ?_;exact⟨rfl,As _,h⟩
def Dm(ws ts:List Str):List (List Str×List D):=ws.map λw=>(ts.map (λ_=>w),[Mt w])
def Hh(ts:List Str)(s e:List Int×List D)(d:Str):List Str×List D:=((FK ts s.1 e.1 ts.length).map (FJ d),Gd d s.2 e.2)
def DW(ts:List Str)(s e:List Int×List D):List (List Str×List D):=if Fx ts s.1 e.1=true then FH.map (Hh ts s e) else []
def Hk(ts:List Str)(P:List (List Int×List D)):List (List Str×List D):=P.flatMap λs=>P.flatMap λe=>DW ts s e
def Dj(ws ts w:List Str):List (List Str×List D):=(Dm ws ts++Hk ts (Cm ts)).foldl (CU w) []
theorem No{w:List Str}:∀(A:List (List Str×List D)) {c:List (List Str×List D)} {n b:Nat},EL c n b->(∀a∈A,a.2.length<=1600)->EL (A.foldl (CU w) c) (n+A.length) (b+1600*A.length)
 |[],c,n,b,h,_=>h
 |a::A,c,n,b,h,hA=>by
  have h1:EL (CU w c a) (n+1) (b+1600):=by
   unfold CU;split
   .exact h.add (hA a BN)
   .exact h.mono (by omega) (by omega)
  exact(No A h1 λx hx=>hA x (BK _ hx)).mono (by simp;omega) (by simp;omega)
theorem NR(ts:List Str):EL (Cm ts) 40 40:=by have:=RM (ts:=ts) EG MA;rw[RI] at this;exact this.mono (by omega) (by omega)
theorem VV{ts:List Str}:∀(ps:List D) {c:List (List Int×List D)},(∀e∈c,e.1.length=ts.length)->∀e∈ps.foldl (DV ts) c,e.1.length=ts.length
 |[],c,h=>h
 |p::ps,c,h=>by
  refine VV ps ?_;unfold DV
  cases e3:HV ts p with
  |none=>exact h
  |some ks =>
   rintro⟨k,qs⟩ he;rcases Js he with h'|⟨rfl,_⟩
   .exact h _ h'
   .have:=congrArg List.length (Nl e3);simpa using this.symm
theorem NQ{ts:List Str}{e:List Int×List D}(h:e∈Cm ts):e.1.length=ts.length:=VV EG (by simp) e h
theorem Vf{ts:List Str}(s e:List Int×List D):(DW ts s e).length<=3:=by
 unfold DW;split
 .simp[FH]
 .simp
theorem OB{α β:Type}{f:α->List β}{m:Nat}:∀(l:List α),(∀x∈l,(f x).length<=m)->(l.flatMap f).length<=l.length*m
 |[],_=>by simp
 |x::l,h=>by
  rw[AI8,Cz,EO,AIs];have h1:=h x BN;have h2:=OB l λy hy=>h y (BK _ hy);omega
theorem Ve{ts:List Str}{P:List (List Int×List D)}(hP:EL P 40 40){s e:List Int×List D}(hs:s∈P)(he:e∈P):∀a∈DW ts s e,a.2.length<=1600:=by
 intro a ha;unfold DW at ha;split at ha
 .obtain⟨d,_,rfl⟩:=BV.mp ha;show(Gd d s.2 e.2).length<=1600;rw[Jn];exact AI9 (hP.2 s hs) (hP.2 e he)
 .cases ha
theorem Rj{κ:Type}{kd:κ->D}(K:KD kd)(es:List (κ×Nat×List D)):GW (Cd kd es)=es.map λe=>kd e.1:=by unfold GW Cd;rw[DF];apply AIi;intro e _;exact K.nk e.1
theorem DL.look_mem{κ:Type}[DecidableEq κ]{kd:κ->D}(K:KD kd){L:AD}{g:Nat}{es:List (κ×Nat×List D)}(h:DL kd L g es){e:κ×Nat×List D}(he:e∈es):CK (Cd kd es) (BL (kd e.1))=some (.ref e.2.1):=by rw[Nd K];obtain⟨e',hf,he',hk⟩:=IK (Dp (f:=λe:κ×Nat×List D=>e.1) he);rw[hf];have:e'=e:=NZ (f:=λe=>e.1) h.kn he' he hk;rw[this];rfl
theorem AFr{ts:List Str}(ok:OR ts)(ss ee:List Int){n:Nat}{y:Str}(h:y∈FK ts ss ee n):BJ y/\y.length<=100:=by
 unfold FK at h;obtain⟨i,_,rfl⟩:=BV.mp h
 by_cases hi:i<ts.length
 .have hm:ts.getD i ""∈ts:=by simp[hi]
  exact⟨(ok.1 _ hm).1.slice _ _,Ch (Txt.slice_le _ _ _) (ok.1 _ hm).2⟩
 .have e:ts.getD i "" = "":=by simp[Nat.le_of_not_lt hi]
  rw[e];have h0:BJ "":=λc hc=>by cases hc
  exact⟨h0.slice _ _,Ch (Txt.slice_le _ _ _) (by decide)⟩
theorem Xu(ts:List Str)(ss ee:List Int)(n:Nat):(FK ts ss ee n).length=n:=by unfold FK;simp
theorem AEy{Q:AKQ}{L:AD}{w tx:Nat}{ws ts wd:List Str}(hw:L[w]?=some (.lst (ws.map D.str)))(hl:ws.length<=6)(ht:L[tx]?=some (.lst (ts.map D.str)))(ok:OR ts)(hwd:wd.length=ts.length)
  (h:∀L2 es,L <+: L2->DL Au L2 L.length es->cont es=Dj ws ts wd->(∀x∈Bb es,L.length<x)->Q (.ref L.length) L2):W2 (zy1 [.ref w,.ref tx,Au wd] L) Q:=by
 unfold zy1;refine Go rfl ?_;unfold Ph;simp only[Md];have hwl:=DY hw;have htl:=DY ht;have htn:=ok.2;refine LD (Ms (AAE ?_));generalize hL1:L++[Ob.dt [] 0]=L1;have hL1l:L1.length=L.length+1:=by rw[<-hL1];simp
 have hg1:L1[L.length]?=some (.dt [] 0):=by rw[<-hL1];exact Aq
 have hw1:L1[w]?=some (.lst (ws.map D.str)):=by rw[<-hL1];exact Al hw
 have ht1:L1[tx]?=some (.lst (ts.map D.str)):=by rw[<-hL1];exact Al ht
 have hAw:∀a∈Dm ws ts,a.2.length<=1600:=λa ha=>by
  obtain⟨x,_,rfl⟩:=BV.mp ha;simp
 have hAl:(Dm ws ts).length<=6:=by unfold Dm;rw[Ao];exact hl
 refine CQ (λρ L'=>∃es,DL Au L' L.length es/\cont es=(Dm ws ts).foldl (CU wd) []/\(∀x∈Bb es,L1.length<=x)/\Aw [L.length] L1 L'/\∃e,ρ=[some (.ref w),some (.ref tx),some (Au wd),some (.ref L.length),e,none,none,none,none,none,none]) ?_ ?_
 .rfl'
  refine DU (λj ρ L'=>∃es,DL Au L' L.length es/\cont es=((Dm ws ts).take j).foldl (CU wd) []/\(∀x∈Bb es,L1.length<=x)/\Aw [L.length] L1 L'/\∃e,ρ=[some (.ref w),some (.ref tx),some (Au wd),some (.ref L.length),e,none,none,none,none,none,none]) _ 0 _ _
   ⟨[],⟨⟨0,hg1⟩,(λ_ h=>(nomatch h)),AIr,AIr⟩,rfl,(λ_ h=>(nomatch h)),.refl _ _,none,rfl⟩ ?_ ?_
  .rintro i x ρ L' hx ⟨es,hd,hc,ha,hk,e,rfl⟩;refine⟨decide_eq_true (hk.get (by simp;omega) hw1),?_⟩;have ht':L'[tx]?=some (.lst (ts.map D.str)):=hk.get (by simp;omega) ht1;rw[BD] at hx
   cases hxw:ws[i]? with
   |none=>rw[hxw] at hx;cases hx
   |some wd1 =>
    rw[hxw] at hx;cases hx
    have hb:EL (cont es) 6 9600:=by
     rw[hc];have:=No (w:=wd) ((Dm ws ts).take (0+i)) MA λa ha=>hAw a (AJZ ha);have hl:((Dm ws ts).take (0+i)).length<=6:=by rw[AIe];omega
     exact this.mono (by omega) (by omega)
    rfl';refine JN (λρ=>∃e,ρ=[e,some (.str wd1)]) (λ_=>.str wd1) (λacc=>decide_eq_true (Al ht')) ⟨_,rfl⟩ (by rw[Ao];omega) ?_ ?_
    .rintro y hy ρ ⟨e,rfl⟩;rfl';refine⟨⟨_,rfl⟩,λacc=>?_⟩;rfl';exact⟨rfl,rfl⟩
    .have em:(ts.map D.str).map (λ_=>D.str wd1)=(ts.map λ_=>wd1).map D.str:=by rw[DF,DF];rfl
     rw[em];rfl';have hkl:=hk.1;refine Ye (as:=ts.map λ_=>wd1) (w:=wd) (ds:=[.tup [.str "word",.str wd1]]) ((hd.pre (BB _ _)).pre (BB _ _)) Aq (λz=>by have:=hd.lt z;simp at this;omega) (by simp[hwd]) (by simp;omega) (by have:=hb.1;rw[Km] at this;omega) (λe he=>by have:=hb.2 e he;simp;omega) (by simp) λL2 es2 h2 hc2 ha2 hk2=>?_;rfl';refine⟨es2,h2,?_,λy hy=>?_,?_,_,rfl⟩
     .have hxa:(Dm ws ts)[i]?=some (ts.map (λ_=>wd1),[Mt wd1]):=by unfold Dm;rw[BD,hxw];rfl
      rw[SD hxa,<-hc];exact hc2
     .rcases ha2 y hy with z|z
      .exact ha y z
      .simp at z;omega
     .exact((hk.trans (.app _ _ _)).trans (.app _ _ _)).step hk2 (λj hj=>by
       rcases Ac.mp hj with e1|e1
       .exact .inl (by simp[e1])
       .exact .inr (ha j e1))
  .rintro ρ L' ⟨es,hd,hc,ha,hk,e,rfl⟩;refine⟨decide_eq_true (hk.get (by simp;omega) hw1),?_⟩;refine⟨es,hd,?_,ha,hk,_,rfl⟩;rw[hc,Ao,Ca];have:(Dm ws ts).length=ws.length:=by unfold Dm;simp
   rw[<-this,Gj]
 rintro ρ L2 ⟨es1,hd1,hc1,ha1,hk1,e,rfl⟩;have ht2:L2[tx]?=some (.lst (ts.map D.str)):=hk1.get (by simp;omega) ht1;have hk1l:=hk1.1;rfl';refine AGD ht2 ok λL3 esP hp3 hdP hcP haP=>?_;have hL3:L2.length<L3.length:=hdP.glt;have hd3:=hd1.pre hp3;have ht3:L3[tx]?=some (.lst (ts.map D.str)):=Dh hp3 ht2;obtain⟨epP,hP0⟩:=hdP.at_;have hPb:EL (cont esP) 40 40:=by rw[hcP];exact NR ts
 have hPl:(cont esP).length<=40:=hPb.1
 have free:∀j,j≠L.length->(j<L1.length\/L2.length<=j)->j∉L.length::Bb es1:=λj h1 h2 hj=>by
  rcases Ac.mp hj with e1|e1
  .exact h1 e1
  .have:=hd1.lt e1;have:=ha1 j e1;omega
 rfl';rw[Rj JY]
 refine DU (λi ρ L'=>∃es,DL Au L' L.length es/\cont es=(Dm ws ts++((cont esP).take i).flatMap λs=>(cont esP).flatMap λe=>DW ts s e).foldl (CU wd) []/\(∀x∈Bb es,x∈Bb es1\/L3.length<=x)/\Aw (L.length::Bb es1) L3 L' /\
   ∃e1 e2 e3 e4 e5,ρ=[some (.ref w),some (.ref tx),some (Au wd),some (.ref L.length),e,some (.ref L2.length),e1,e2,e3,e4,e5]) _ 0 _ _ ⟨es1,hd3,by simpa using hc1,λx hx=>.inl hx,.refl _ _,none,none,none,none,none,rfl⟩ ?_ ?_
 .rintro i x ρ L' hx ⟨es,hd,hc,ha,hk,e1,e2,e3,e4,e5,rfl⟩;have hP':L'[L2.length]?=some (.dt (Cd Eh esP) epP):=hk.get (free _ (by omega) (by omega)) hP0;refine⟨by simp[Ii,hP'],?_⟩;rw[BD] at hx
  cases hse:esP[i]? with
  |none=>rw[hse] at hx;cases hx
  |some se =>
  rw[hse] at hx;cases hx;have hsm:=CY hse;have hsc:(cont esP)[i]?=some (se.1,se.2.2):=by unfold cont;rw[BD,hse];rfl
  have hscm:=CY hsc;rfl';rw[Rj JY];generalize hA1:(Dm ws ts++((cont esP).take (0+i)).flatMap λs=>(cont esP).flatMap λe=>DW ts s e)=A1 at hc
  have hA1s:∀a∈A1,a.2.length<=1600:=λa ha=>by
   rw[<-hA1] at ha;rcases DE.mp ha with ha|ha
   .exact hAw a ha
   .obtain⟨s,hs,ha⟩:=AJG.mp ha;obtain⟨e,he,ha⟩:=AJG.mp ha;exact Ve hPb (AJZ hs) he a ha
  have hA1l:A1.length<=6+4800:=by
   rw[<-hA1,Cz]
   have h1:=OB (m:=120) ((cont esP).take (0+i)) (f:=λs=>(cont esP).flatMap λe=>DW ts s e) λs _=>by
    have:=OB (m:=3) (cont esP) (f:=λe=>DW ts s e) λe _=>Vf s e;omega
   have h2:((cont esP).take (0+i)).length<=40:=by rw[AIe];omega
   have h3:=AI3 120 h2;omega
  refine DU (λj ρ L'=>∃es,DL Au L' L.length es/\cont es=(A1++((cont esP).take j).flatMap λe=>DW ts (se.1,se.2.2) e).foldl (CU wd) []/\(∀x∈Bb es,x∈Bb es1\/L3.length<=x)/\Aw (L.length::Bb es1) L3 L' /\
   ∃e2 e3 e4 e5,ρ=[some (.ref w),some (.ref tx),some (Au wd),some (.ref L.length),e,some (.ref L2.length),some (Eh se.1),e2,e3,e4,e5]) _ 0 _ _ ⟨es,hd,by simpa using hc,ha,hk,_,_,_,_,rfl⟩ ?_ ?_
  .clear hP' hk ha hc hd es;rintro j x ρ L' hx ⟨es,hd,hc,ha,hk,e2,e3,e4,e5,rfl⟩;have hP':L'[L2.length]?=some (.dt (Cd Eh esP) epP):=hk.get (free _ (by omega) (by omega)) hP0;have ht':L'[tx]?=some (.lst (ts.map D.str)):=hk.get (free _ (by omega) (by omega)) ht3;refine⟨by simp[Ii,hP'],?_⟩;rw[BD] at hx
   cases hee:esP[j]? with
   |none=>rw[hee] at hx;cases hx
   |some ee =>
   rw[hee] at hx;cases hx;have hem:=CY hee;have hec:(cont esP)[j]?=some (ee.1,ee.2.2):=by unfold cont;rw[BD,hee];rfl
   have hecm:=CY hec;have hkl:=hk.1
   have htake:((cont esP).take (0+j+1)).flatMap (λe=>DW ts (se.1,se.2.2) e)=((cont esP).take (0+j)).flatMap (λe=>DW ts (se.1,se.2.2) e)++DW ts (se.1,se.2.2) (ee.1,ee.2.2):=by rw[Ic hec,AJa];simp
   generalize hA2:(A1++((cont esP).take (0+j)).flatMap λe=>DW ts (se.1,se.2.2) e)=A2 at hc
   have hA2s:∀a∈A2,a.2.length<=1600:=λa ha=>by
    rw[<-hA2] at ha;rcases DE.mp ha with ha|ha
    .exact hA1s a ha
    .obtain⟨e,he,ha⟩:=AJG.mp ha;exact Ve hPb hscm (AJZ he) a ha
   have hA2l:A2.length<=6+4800+120:=by
    rw[<-hA2,Cz];have h1:=OB (m:=3) ((cont esP).take (0+j)) (f:=λe=>DW ts (se.1,se.2.2) e) λe _=>Vf _ e;have h2:((cont esP).take (0+j)).length<=40:=by rw[AIe];omega
    omega
   rw[show A1++((cont esP).take (0+j+1)).flatMap (λe=>DW ts (se.1,se.2.2) e)=A2++DW ts (se.1,se.2.2) (ee.1,ee.2.2) by rw[htake,<-hA2,AJb]];rfl';refine AA3 ht' (by omega) (NQ (e:=(se.1,se.2.2)) (by rw[<-hcP];exact hscm)) (NQ (e:=(ee.1,ee.2.2)) (by rw[<-hcP];exact hecm)) (λhno=>?_) (λhyes=>?_)
   .rfl';refine⟨es,hd,?_,ha,hk,_,_,_,_,rfl⟩;rw[hc];unfold DW;rw[if_neg (by rw[hno];simp),HS]
   .rfl';have hpa:DW ts (se.1,se.2.2) (ee.1,ee.2.2)=FH.map (Hh ts (se.1,se.2.2) (ee.1,ee.2.2)):=by unfold DW;rw[if_pos hyes]
    rw[hpa];generalize hcut:FK ts se.1 ee.1 ts.length=sgs;have hcl:sgs.length=ts.length:=by rw[<-hcut,Xu]
    generalize hL4:L'++[Ob.lst (sgs.map D.str)]=L4;have hp4:L' <+: L4:=by rw[<-hL4];exact BB _ _
    have hL4l:L4.length=L'.length+1:=by rw[<-hL4];simp
    have hs4:L4[L'.length]?=some (.lst (sgs.map D.str)):=by rw[<-hL4];exact Aq
    have hd4:=hd.pre hp4;have hP4:=Dh hp4 hP';have hxs:L4[se.2.1]?=some (.lst se.2.2):=Dh hp4 (hk.get (free _ (by have:=haP _ (HF hsm);omega) (by have:=haP _ (HF hsm);omega)) (hdP.it se hsm));have hys:L4[ee.2.1]?=some (.lst ee.2.2):=Dh hp4 (hk.get (free _ (by have:=haP _ (HF hem);omega) (by have:=haP _ (HF hem);omega)) (hdP.it ee hem))
    have outP:∀q,L2.length<=q->q<L3.length->q∉L.length::Bb es:=λq h1 h2 hj=>by
     rcases Ac.mp hj with z|z
     .omega
     .rcases ha q z with y|y
      .have:=hd1.lt y;omega
      .omega
    have outS:L'.length∉L.length::Bb es:=λhj=>by
     rcases Ac.mp hj with z|z
     .omega
     .have:=hd.lt z;omega
    have hsl:=hdP.lt (HF hsm);have hel:=hdP.lt (HF hem);have hsl2:=haP _ (HF hsm);have hel2:=haP _ (HF hem)
    refine DU (λk ρ L'=>∃es',DL Au L' L.length es'/\cont es'=(A2++(FH.take k).map (Hh ts (se.1,se.2.2) (ee.1,ee.2.2))).foldl (CU wd) []/\(∀x∈Bb es',x∈Bb es\/L4.length<=x)/\Aw (L.length::Bb es) L4 L' /\
     ∃e4 e5,ρ=[some (.ref w),some (.ref tx),some (Au wd),some (.ref L.length),e,some (.ref L2.length),some (Eh se.1),some (Eh ee.1),some (.ref (L4.length-1)),e4,e5]) _ 0 _ _ ⟨es,hd4,by simpa using hc,λx hx=>.inl hx,.refl _ _,_,_,by rw[hL4l];rfl⟩ ?_ ?_
    .rintro k x ρ L5 hx ⟨es5,hd5,hc5,ha5,hk5,e4,e5,rfl⟩
     have hds:∃d,FH[k]?=some d/\x=.str d:=by
      have:(FH.map D.str)[k]?=some x:=hx;rw[BD] at this
      cases hd:FH[k]? with
      |none=>rw[hd] at this;cases this
      |some d=>rw[hd] at this;exact⟨d,rfl,(Option.some.inj this).symm⟩
     obtain⟨d,hdk,rfl⟩:=hds;have hdm:=CY hdk;refine⟨rfl,?_⟩;have el4:L4.length-1=L'.length:=by omega
     rw[el4];have hs5:L5[L'.length]?=some (.lst (sgs.map D.str)):=hk5.get outS hs4;have hP5:L5[L2.length]?=some (.dt (Cd Eh esP) epP):=hk5.get (outP _ (by omega) (by omega)) hP4;have hxs5:L5[se.2.1]?=some (.lst se.2.2):=hk5.get (outP _ (by omega) hsl) hxs;have hys5:L5[ee.2.1]?=some (.lst ee.2.2):=hk5.get (outP _ (by omega) hel) hys;have hk5l:=hk5.1
     have hb5:EL (cont es5) 10000 12000000:=by
      rw[hc5]
      have h3:((FH.take (0+k)).map (Hh ts (se.1,se.2.2) (ee.1,ee.2.2))).length<=3:=by rw[Ao,AIe];have:FH.length=3:=rfl;omega
      have:=No (w:=wd) (A2++(FH.take (0+k)).map (Hh ts (se.1,se.2.2) (ee.1,ee.2.2))) MA λa ha=>by
       rcases DE.mp ha with ha|ha
       .exact hA2s a ha
       .obtain⟨d',_,rfl⟩:=BV.mp ha;show(Gd d' se.2.2 ee.2.2).length<=1600;rw[Jn];exact AI9 (hPb.2 _ hscm) (hPb.2 _ hecm)
      rw[Cz] at this;exact this.mono (by omega) (by omega)
     have hbw:(Gd d se.2.2 ee.2.2).length<=1600:=by rw[Jn];exact AI9 (hPb.2 _ hscm) (hPb.2 _ hecm)
     rfl'
     refine JN (λρ=>∃e,ρ=[e,some (.str d)]) (λy=>match y with|.str s=>.str (FJ d s)|_=>.non) (λacc=>decide_eq_true (Al hs5)) ⟨_,rfl⟩ (by rw[Ao,hcl];omega) ?_ ?_
     .rintro y hy ρ ⟨e,rfl⟩;obtain⟨s,hs,rfl⟩:=BV.mp hy;rw[<-hcut] at hs;have hso:=AFr ok _ _ hs;rfl';refine⟨⟨_,rfl⟩,λacc=>?_⟩;rfl';refine AFj hdm hso.1 (by omega) ?_;exact⟨rfl,rfl⟩
     .have em:(sgs.map D.str).map (λy=>match y with|.str s=>D.str (FJ d s)|_=>.non)=(sgs.map (FJ d)).map D.str:=by rw[DF,DF];rfl
      rw[em];rfl';refine Jd (kk:=BL (Eh se.1)) (Al hP5) (JY.key _) (hdP.look_mem JY hsm) ?_;rfl';refine Jd (kk:=BL (Eh ee.1)) (Al hP5) (JY.key _) (hdP.look_mem JY hem) ?_;rfl';refine AGL (Al hxs5) (Al hys5) (by have:=hbw;rw[Jn] at this;omega) (by have:=hPb.2 _ hecm;simp only at this;omega) λL6 hp6 hl6=>?_;have hp56:L5 <+: L6:=(BB _ _).trans hp6;have hp6l:=hp6.length_le;simp only[Cz,EO,List.length_nil] at hp6l;rfl';refine Ye (as:=sgs.map (FJ d)) (w:=wd) (hd5.pre hp56) hl6 (λz=>by have:=hd5.lt z;simp at this;omega) (by simp[hwd,hcl]) (by simp[hcl];omega) (by have:=hb5.1;rw[Km] at this;omega) (λe he=>by have:=hb5.2 e he;omega) (by omega) λL7 es7 h7 hc7 ha7 hk7=>?_;rfl';refine⟨es7,h7,?_,λy hy=>?_,?_,_,_,rfl⟩
      .rw[Ic hdk,Eo,<-AJb,List.foldl_append,<-hc5,hc7];show _=CU wd (cont es5) (Hh ts (se.1,se.2.2) (ee.1,ee.2.2) d);unfold Hh;rw[hcut]
      .rcases ha7 y hy with z|z
       .exact ha5 y z
       .exact .inr (by omega)
      .refine(hk5.trans (.of_pre hp56)).step hk7 λj hj=>?_;rcases Ac.mp hj with z|z
       .exact .inl (by simp[z])
       .rcases ha5 j z with y|y
        .exact .inl (BK _ y)
        .exact .inr y
    .rintro ρ L5 ⟨es5,hd5,hc5,ha5,hk5,e4,e5,rfl⟩;refine⟨rfl,?_⟩;refine⟨es5,hd5,?_,λy hy=>?_,?_,_,_,_,_,rfl⟩
     .rw[hc5]
      congr 2
     .rcases ha5 y hy with z|z
      .exact ha y z
      .exact .inr (by omega)
     .refine(hk.trans (.of_pre hp4)).step hk5 λj hj=>?_;rcases Ac.mp hj with z|z
      .exact .inl (by simp[z])
      .rcases ha j z with y|y
       .exact .inl (BK _ y)
       .exact .inr y
  .rintro ρ L' ⟨es,hd,hc,ha,hk,e2,e3,e4,e5,rfl⟩;have hP':L'[L2.length]?=some (.dt (Cd Eh esP) epP):=hk.get (free _ (by omega) (by omega)) hP0;refine⟨by simp[Ii,hP'],es,hd,?_,ha,hk,_,_,_,_,_,rfl⟩;rw[hc,Ao,Ca];have:esP.length=(cont esP).length:=(Km esP).symm;rw[this,Gj,Ic hsc,AJa,<-hA1,AJb];simp
 .rintro ρ L' ⟨es,hd,hc,ha,hk,e1,e2,e3,e4,e5,rfl⟩;have hP':L'[L2.length]?=some (.dt (Cd Eh esP) epP):=hk.get (free _ (by omega) (by omega)) hP0;refine⟨by simp[Ii,hP'],?_⟩;rfl';refine⟨rfl,h L' es ?_ hd ?_ λx hx=>?_⟩
  .have k1:Aw [L.length] L L':=by
    have a1:Aw [L.length] L L1:=by rw[<-hL1];exact .app _ _ _
    have a2:=(a1.trans hk1).trans (Aw.of_pre hp3);refine a2.step hk λj hj=>?_;rcases Ac.mp hj with e8|e8
    .exact .inl (by simp[e8])
    .exact .inr (by have:=ha1 j e8;omega)
   exact(k1.mono λj hj=>.inr (by simp at hj;omega)).pre
  .rw[hc,Ao,Ca];have:esP.length=(cont esP).length:=(Km esP).symm;rw[this,Gj,hcP];rfl
  .rcases ha x hx with z|z
   .have:=ha1 x z;omega
   .omega
def Fb(a:List Str)(ps:List D):List (NK×D):=ps.zipIdx.map λq=>(BL q.1,D.tup [Au a,.int (q.2:Int)])
theorem AFZ{a:List Str}{ps:List D}{i:Nat}{x:D}(h:ps[i]?=some x):Fb a (ps.take (0+i+1))=Fb a (ps.take (0+i))++[(BL x,.tup [Au a,.int (i:Int)])]:=by have hi:i<ps.length:=(BQ.mp h).1;rw[Ic h];unfold Fb;rw[List.zipIdx_append,Eo];simp[Nat.min_eq_left (Nat.le_of_lt hi)]
def Ek(G:List (List Str×List D)):List (NK×D):=G.flatMap λe=>Fb e.1 e.2
def GU(xs:List (NK×D)):List (NK×D):=xs.foldl (λm x=>Dq m x.1 x.2) []
theorem AB2(m:List (NK×D))(k:NK)(d:D):(Dq m k d).length<=m.length+1:=by
 unfold Dq;split
 .rw[Ao];omega
 .simp
theorem AB6(xs:List (NK×D)):(GU xs).length<=xs.length:=by
 have:∀(xs:List (NK×D)) (m:List (NK×D)),(xs.foldl (λm x=>Dq m x.1 x.2) m).length<=m.length+xs.length:=by
  intro xs
  induction xs with
  |nil=>intro m;simp
  |cons x xs ih =>
   intro m;rw[AJM,EO];have h1:=ih (Dq m x.1 x.2);have h2:=AB2 m x.1 x.2;omega
 have h:=this xs [];simpa[GU] using h
def Ep{κ:Type}(c:List (κ×List D)):Nat:=(c.map λe=>e.2.length).sum
theorem AFP(G:List (List Str×List D)):(Ek G).length=Ep G:=by
 unfold Ek Ep
 induction G with
 |nil=>rfl
 |cons e G ih =>
  rw[AI8,Cz,ih,Ap,GJ];unfold Fb;simp
theorem AAU{κ:Type}[DecidableEq κ]{c:List (κ×List D)}{k:κ}{ds:List D}(nd:(c.map (·.1)).Nodup):Ep (Cf c k ds)=Ep c+ds.length:=by
 by_cases h:k∈c.map (·.1)
 .have e:Cf c k ds=c.map (λe=>if e.1=k then (e.1,e.2++ds) else e):=by unfold Cf;rw[if_pos h]
  rw[e];clear e
  induction c with
  |nil=>cases h
  |cons x c ih =>
   rw[Ap,AIk] at nd;rw[Ap];unfold Ep;rw[Ap,GJ,Ap,GJ]
   by_cases hx:x.1=k
   .rw[if_pos hx]
    have e2:c.map (λe=>if e.1=k then (e.1,e.2++ds) else e)=c:=by
     conv=>rhs;rw[<-List.map_id c]
     apply AIi;intro e he;rw[if_neg (λz=>nd.1 (by rw[hx,<-z];exact Dp he))];rfl
    rw[e2];simp only[Cz];omega
   .rw[if_neg hx]
    have h':k∈c.map (·.1):=by
     rw[Ap] at h;rcases Ac.mp h with z|z
     .exact absurd z.symm hx
     .exact z
    have:=ih nd.2 h';unfold Ep at this;omega
 .have e:Cf c k ds=c++[(k,ds)]:=by unfold Cf;rw[if_neg h]
  rw[e];unfold Ep;simp
theorem Ws{w:List Str}:∀(A:List (List Str×List D)) {c:List (List Str×List D)},(c.map (·.1)).Nodup->((A.foldl (CU w) c).map (·.1)).Nodup
 |[],_,h=>h
 |a::A,c,h=>Ws A (by unfold CU;split;exact Sb h;exact h)
theorem Wq{w:List Str}{m:Nat}:∀(A:List (List Str×List D)) {c:List (List Str×List D)},(c.map (·.1)).Nodup->(∀a∈A,a.2.length<=m)->Ep (A.foldl (CU w) c)<=Ep c+A.length*m
 |[],c,_,_=>by simp
 |a::A,c,h,hA=>by
  have h1:Ep (CU w c a)<=Ep c+m:=by
   unfold CU;split
   .rw[AAU h];have:=hA a BN;omega
   .omega
  have h2:=Wq (w:=w) A (c:=CU w c a) (by unfold CU;split;exact Sb h;exact h) λx hx=>hA x (BK _ hx);rw[AJM,EO,AIs];omega
theorem AC4{κ:Type}{kd:κ->D}(K:KD kd)(es:List (κ×Nat×List D)):Gr (Cd kd es)=es.map λe=>.tup [kd e.1,.ref e.2.1]:=by unfold Gr Cd;rw[DF];apply AIi;intro e _;show D.tup [EV (BL (kd e.1)),.ref e.2.1]=_;rw[K.nk e.1]
theorem AFO{G:List (List Str×List D)}{i:Nat}{e:List Str×List D}(h:G[i]?=some e):Ek (G.take (0+i+1))=Ek (G.take (0+i))++Fb e.1 e.2:=by unfold Ek;rw[Ic h,AJa];simp
theorem AFN(G:List (List Str×List D))(i:Nat):(Ek (G.take i)).length<=Ep G:=by
 rw[<-AFP G]
 conv=>rhs;rw[<-AJn i G]
 unfold Ek;rw[AJa,Cz];omega
theorem ADm{Q:AKQ}{L:AD}{g:Nat}{es:List (List Str×Nat×List D)}(hg:DL Au L g es)(hk:∀e∈cont es,∀p∈e.2,dNK p=some (BL p))(hz:Ep (cont es)<=8000000)(hb:∀e∈cont es,e.2.length<=8000000)
  (h:∀ep,Q (.ref L.length) (L++[.dt (GU (Ek (cont es))) ep])):W2 (zd1 [.ref g] L) Q:=by
 unfold zd1;refine Go rfl ?_;unfold PR;obtain⟨ep0,hg0⟩:=hg.at_;rfl';rw[AC4 Et];refine DU (λj ρ L'=>(∃ep,L'=L++[.dt (GU (Ek ((cont es).take j))) ep])/\∃e1 e2 e3 e4,ρ=[some (.ref g),some (.ref L.length),e1,e2,e3,e4]) _ 0 _ _ ⟨⟨0,rfl⟩,none,none,none,none,rfl⟩ ?_ ?_
 .rintro i x ρ L' hx ⟨⟨ep,rfl⟩,e1,e2,e3,e4,rfl⟩;refine⟨decide_eq_true (Al hg0),?_⟩;rw[BD] at hx
  cases hse:es[i]? with
  |none=>rw[hse] at hx;cases hx
  |some e =>
  rw[hse] at hx;cases hx;have hem:=CY hse;have hq:=hg.it e hem;have hec:(cont es)[i]?=some (e.1,e.2.2):=by unfold cont;rw[BD,hse];rfl
  have hecm:=CY hec;rfl';refine DU (λj ρ L'=>(∃ep,L'=L++[.dt (GU (Ek ((cont es).take (0+i))++Fb e.1 (e.2.2.take j))) ep])/\∃e3 e4,ρ=[some (.ref g),some (.ref L.length),some (Au e.1),some (.ref e.2.1),e3,e4]) _ 0 _ _ ⟨⟨ep,by simp[Fb]⟩,_,_,rfl⟩ ?_ ?_
  .rintro j x ρ L' hx ⟨⟨ep,rfl⟩,e3,e4,rfl⟩;refine⟨decide_eq_true (Al hq),?_⟩;rw[Xg] at hx
   cases hp:e.2.2[j]? with
   |none=>rw[hp] at hx;cases hx
   |some p =>
    rw[hp] at hx;cases hx;rfl';refine Rz (kk:=BL p) Aq ?_ (hk _ hecm p (CY hp)) ?_
    .have h1:=AB6 (Ek ((cont es).take (0+i))++Fb e.1 (e.2.2.take (0+j)));have h2:=AFN (cont es) (0+i)
     have h3:(Fb e.1 (e.2.2.take (0+j))).length<=8000000:=by unfold Fb;rw[Ao,List.length_zipIdx,AIe];have:=hb _ hecm;simp only at this;omega
     rw[Cz] at h1;omega
    .have e5:GU (Ek ((cont es).take (0+i))++Fb e.1 (e.2.2.take (0+j+1)))=Dq (GU (Ek ((cont es).take (0+i))++Fb e.1 (e.2.2.take (0+j)))) (BL p) (.tup [Au e.1,.int (j:Int)]):=by
      rw[AFZ hp,<-AJb];unfold GU;rw[List.foldl_append];rfl
     rfl';rw[e5];refine⟨⟨epN (GU (Ek ((cont es).take (0+i))++Fb e.1 (e.2.2.take (0+j)))) (BL p) ep,?_⟩,_,_,rfl⟩;simp
  .rintro ρ L' ⟨⟨ep,rfl⟩,e3,e4,rfl⟩;refine⟨decide_eq_true (Al hq),⟨ep,?_⟩,_,_,_,_,rfl⟩;have e6:(Fc e.2.2).length=e.2.2.length:=by simp[Fc]
   rw[e6,Ca e.2.2.length,Gj,AFO hec]
 .rintro ρ L' ⟨⟨ep,rfl⟩,e1,e2,e3,e4,rfl⟩;refine⟨decide_eq_true (Al hg0),?_⟩;rfl';refine⟨rfl,?_⟩;rw[Ao,Ca];have:es.length=(cont es).length:=(Km es).symm;rw[this,Gj];exact h ep
theorem AAX{Q:AKQ}{L:AD}{k g:Nat}{W:D}{M:List (NK×D)}(hk:L[k]?=some (.ins "Table" []))(hgl:g<L.length)(hm:∀(L':AD) (Q':AKQ),Aw [k] L L'->L'.length=L.length->(∀ep,Q' (.ref L'.length) (L'++[.dt M ep]))->W2 (zd1 [.ref g] L') Q')
  (h:∀L2,L2.length=L.length+8->Aw [k] L L2->L2[k]?=some (.ins "Table" (NA W g L.length (L.length+5) (L.length+6) (L.length+7)))->(∃ep,L2[L.length]?=some (.dt M ep)) ->
   L2[L.length+5]?=some (.lst [.ref (L.length+1),.ref (L.length+3)])->Em L2 (L.length+1) 1 (L.length+2) [] 0->Em L2 (L.length+3) 0 (L.length+4) [] 0->L2[L.length+6]?=some (.dt [] 0)->L2[L.length+7]?=some (.lst [])->Q .non L2) :
  W2 (zp1 [.ref k,W,.ref g] L) Q:=by
 unfold zp1;refine LF rfl ?_;unfold Oy;have hkl:=DY hk;refine CQ (λρ L'=>ρ=[some (.ref k),some W,some (.ref g)]/\L'.length=L.length/\Aw [k] L L'/\L'[k]?=some (.ins "Table" [("words",W)])) ?_ ?_
 .rfl';exact⟨rfl,by simp,(Aw.refl _ _).set (.inl (by simp)),DZ hk⟩
 rintro ρ L1 ⟨rfl,l1,k1,t1⟩;refine CQ (λρ L'=>ρ=[some (.ref k),some W,some (.ref g)]/\L'.length=L.length/\Aw [k] L L'/\L'[k]?=some (.ins "Table" [("words",W),("groups",.ref g)])) ?_ ?_
 .rfl';exact⟨rfl,by simp[l1],k1.set (.inl (by simp)),DZ t1⟩
 rintro ρ L2 ⟨rfl,l2,k2,t2⟩;refine CQ (λρ L'=>ρ=[some (.ref k),some W,some (.ref g)]/\L'.length=L.length+1/\Aw [k] L L'/\L'[k]?=some (.ins "Table" [("words",W),("groups",.ref g),("members",.ref L.length)])/\(∃ep,L'[L.length]?=some (.dt M ep))) ?_ ?_
 .rfl';refine hm _ _ k2 l2 λep=>?_;rfl';refine⟨rfl,by simp[l2],(k2.trans (.app _ _ _)).set (.inl (by simp)),?_,?_⟩
  .rw[DZ (Al t2),l2];rfl
  .exact⟨ep,by rw[<-l2,Dw (by omega)];exact Aq⟩
 rintro ρ L3 ⟨rfl,l3,k3,t3,ep,m3⟩;have stayK:∀{L4 L5:AD} {j:Nat} {o:Ob},Aw [j] L4 L5->L4.length<=j->∀i,i<L4.length->L4[i]?=some o->L5[i]?=some o:=λ{L4 L5 j o} hk hj i hi e=>hk.get (by simp;omega) e
 refine CQ (λρ L'=>ρ=[some (.ref k),some W,some (.ref g)]/\L'.length=L.length+6/\Aw [k] L L'/\L'[k]?=some (.ins "Table" [("words",W),("groups",.ref g),("members",.ref L.length),("nodes",.ref (L.length+5))])/\(∃ep,L'[L.length]?=some (.dt M ep)) /\
  L'[L.length+5]?=some (.lst [.ref (L.length+1),.ref (L.length+3)])/\Em L' (L.length+1) 1 (L.length+2) [] 0/\Em L' (L.length+3) 0 (L.length+4) [] 0) ?_ ?_
 .rfl';refine RW Aq λL4 n4 l4 k4=>?_;have l4':L4.length=L.length+3:=by rw[l4];simp;omega
  have p4:∀i o,i<L3.length->L3[i]?=some o->L4[i]?=some o:=λi o hi e=>k4.get (by simp;omega) (Al e);refine⟨rfl,?_⟩;rfl';refine RW Aq λL5 n5 l5 k5=>?_;have l5':L5.length=L.length+5:=by rw[l5];simp;omega
  have p5:∀i o,i<L4.length->L4[i]?=some o->L5[i]?=some o:=λi o hi e=>k5.get (by simp;omega) (Al e);refine⟨rfl,?_⟩;have t5:=p5 _ _ (by omega) (p4 _ _ (by omega) t3);have m5:=p5 _ _ (by omega) (p4 _ _ (by omega) m3);have a5:=p5 _ _ (by omega) n4.1;have b5:=p5 _ _ (by simp at *;omega) n4.2;rfl';have e1:L3.length=L.length+1:=l3;have e2:(L3++[Ob.ins "Node" []]).length=L.length+2:=by simp[l3]
  have e3:L4.length=L.length+3:=l4';have e4:(L4++[Ob.ins "Node" []]).length=L.length+4:=by simp[l4']
  rw[e1] at n4 a5;rw[e2] at n4 b5 a5;rw[e3,e4] at n5;have far:∀(i:Nat) (o o':Ob) (M:AD),i≠k->L5[i]?=some o->((L5++M).set k o')[i]?=some o:=λi o o' M hi e=>by rw[Dw (Ne.symm hi)];exact Al e
  refine⟨rfl,by simp[l5'],?_,?_,⟨ep,far _ _ _ _ (by omega) m5⟩,?_,⟨far _ _ _ _ (by omega) a5,far _ _ _ _ (by omega) b5⟩,⟨far _ _ _ _ (by omega) n5.1,far _ _ _ _ (by omega) n5.2⟩⟩
  .have q1:Aw [k] L L4:=(k3.trans (.app _ _ _)).step k4 λj hj=>.inr (by simp at hj;omega);have q2:Aw [k] L L5:=(q1.trans (.app _ _ _)).step k5 λj hj=>.inr (by simp at hj;omega);exact(q2.trans (.app _ _ _)).set (.inl (by simp))
  .rw[DZ (Al t5),l5'];rfl
  .rw[Dw (by omega),<-l5',e1,e3];exact Aq
 rintro ρ L4 ⟨rfl,l4,k4,t4,⟨ep,m4⟩,n4,a4,b4⟩;rfl';have far:∀(i:Nat) (o o':Ob) (N M:AD),i≠k->N[i]?=some o->((N++M).set k o')[i]?=some o:=λi o o' N M hi e=>by rw[Dw (Ne.symm hi)];exact Al e
 have f2:∀(i:Nat) (o o' o'':Ob) (M M':AD),i≠k->L4[i]?=some o->((((L4++M).set k o')++M').set k o'')[i]?=some o:=λi o o' o'' M M' hi e=>far i o o'' _ _ hi (far i o o' _ _ hi e)
 have t5:((L4++[Ob.dt [] 0]).set k (.ins "Table" (Er "node_numbers" (.ref L4.length) [("words",W),("groups",.ref g),("members",.ref L.length),("nodes",.ref (L.length+5))])))[k]?=some (.ins "Table" [("words",W),("groups",.ref g),("members",.ref L.length),("nodes",.ref (L.length+5)),("node_numbers",.ref (L.length+6))]):=by rw[DZ (Al t4),l4];rfl
 refine XD (Al t5) rfl rfl ?_;rfl';refine⟨λhp=>?_,h _ (by simp[l4]) ?_ ?_ ⟨ep,f2 _ _ _ _ _ _ (by omega) m4⟩ (f2 _ _ _ _ _ _ (by omega) n4) ⟨f2 _ _ _ _ _ _ (by omega) a4.1,f2 _ _ _ _ _ _ (by omega) a4.2⟩ ⟨f2 _ _ _ _ _ _ (by omega) b4.1,f2 _ _ _ _ _ _ (by omega) b4.2⟩ (far _ _ _ _ _ (by omega) ?_) ?_⟩
 .have:=Dh hp hk;rw[DZ (Al t5)] at this;cases this
 .exact(((k4.trans (.app _ _ _)).set (.inl (by simp))).trans (.app _ _ _)).set (.inl (by simp))
 .rw[DZ (Al t5),AJD,Cz,l4];rfl
 .rw[Dw (by omega),<-l4];exact Aq
 .rw[Dw (by omega)];have e6:((L4++[Ob.dt [] 0]).set k (.ins "Table" (Er "node_numbers" (.ref L4.length) [("words",W),("groups",.ref g),("members",.ref L.length),("nodes",.ref (L.length+5))]))).length=L.length+7:=by simp[l4]
  rw[<-e6];exact Aq
abbrev BO:=List (List Str×List D)
def DO(G:BO)(a:List Str):Nat:=((FX G a).getD []).length
def RH(rest a:List Str):Bool:=(List.range rest.length).all λi=>Txt.startswith (rest.getD i "") (a.getD i "")
def IQ(rest a:List Str)(n:Nat):List Str:=(List.range n).map λi=>Txt.slice (rest.getD i "") (some ((a.getD i "").length:Int)) none
def EI(rest a:List Str):Option (List Str):=if RH rest a=true then some (IQ rest a rest.length) else none
theorem YQ{rest a b:List Str}(h:EI rest a=some b):b.length=rest.length:=by
 unfold EI at h;split at h
 .cases h;unfold IQ;simp
 .cases h
theorem Ud(xs:List Str):(Au xs).noRef=true:=by
 unfold Au;show D.noRefL (xs.map D.str)=true
 induction xs with
 |nil=>rfl
 |cons x xs ih=>rw[Ap,D.noRefL,ih];rfl
theorem AGM{Q:AKQ}{L:AD}{rest a:List Str}(hl:a.length=rest.length)(hz:rest.length<=1000)(hn:EI rest a=none->Q .non L)(hy:∀b,EI rest a=some b->Q (Au b) L):W2 (za2 [Au rest,Au a] L) Q:=by
 unfold za2;refine Ci rfl ?_;unfold PU;have et:∀xs:List Str,Au xs=.tup (xs.map D.str):=λ_=>rfl;rw[et rest,et a];rfl';refine⟨rest.map D.str,[a.map D.str],rfl,⟨by simp[hl],by simp,rfl⟩,?_⟩;refine DU (λj ρ L'=>L'=L++[.lst ((IQ rest a j).map D.str)]/\(∀i,i<j->i<rest.length->Txt.startswith (rest.getD i "") (a.getD i "")=true)/\∃e1 e2,ρ=[some (.tup (rest.map D.str)),some (.tup (a.map D.str)),some (.ref L.length),e1,e2]) _ 0 _ _ ⟨rfl,λi hi=>(by omega),none,none,rfl⟩ ?_ ?_
 .rintro i x ρ L' hx ⟨rfl,hlt,e1,e2,rfl⟩;refine⟨decide_eq_true rfl,?_⟩;obtain⟨hi,rfl⟩:=Px hl hx;rfl';refine Hj (λhs=>?_) (λhs=>?_)
  .rfl';refine ID Aq (by unfold IQ;simp;omega) ?_;rfl';refine⟨?_,λk hk hkt=>?_,_,_,rfl⟩
   .have:IQ rest a (0+i+1)=IQ rest a (0+i)++[Txt.slice (rest.getD i "") (some ((a.getD i "").length:Int)) none]:=by
     unfold IQ;rw[AJr,Eo,Ca];rfl
    rw[this,Eo];simp
   .by_cases z:k=i
    .subst z;exact hs
    .exact hlt k (by omega) hkt
  .rfl';refine⟨rfl,BB _ _,hn ?_⟩;unfold EI;rw[if_neg];intro hall;unfold RH at hall;have:=De.mp hall i (Dd.mpr hi);rw[hs] at this;cases this
 .rintro ρ L' ⟨rfl,hlt,e1,e2,rfl⟩;refine⟨decide_eq_true rfl,?_⟩;rw[Mg,Ao,Ca] at *;rfl';refine⟨Ud _,BB _ _,hy _ ?_⟩;unfold EI;rw[if_pos];unfold RH;rw[De];exact λi hi=>hlt i (Dd.mp hi) (Dd.mp hi)
def Bd(G:BO)(l:Nat)(rest:List Str):List (List Str):=if l=1 then (if rest∈G.map (·.1) then [rest] else []) else G.map (·.1)
def AX(G:BO):Nat->List Str->Nat
 |0,_=>1
 |l+1,rest=>((Bd G (l+1) rest).map λa=>match EI rest a with|some b=>DO G a*AX G l b|none=>0).sum
def EB(G:BO)(l:Nat)(rest:List Str)(st:List (List Str×Nat×List Str)×Nat)(a:List Str):List (List Str×Nat×List Str)×Nat:=match EI rest a with
 |none=>st
 |some b=>if AX G l b=0 then st else (st.1++[(a,st.2,b)],st.2+DO G a*AX G l b)
def DR(G:BO)(l:Nat)(rest:List Str)(xs:List (List Str)):List (List Str×Nat×List Str)×Nat:=xs.foldl (EB G l rest) ([],0)
def Fw(G:BO)(l:Nat)(rest:List Str):List (List Str×Nat×List Str):=(DR G l rest (Bd G (l+1) rest)).1
theorem YW{G:BO}{l:Nat}{rest:List Str}:∀(xs:List (List Str)) (st:List (List Str×Nat×List Str)×Nat),(xs.foldl (EB G l rest) st).2=st.2+(xs.map λa=>match EI rest a with|some b=>DO G a*AX G l b|none=>0).sum
 |[],st=>by simp
 |x::xs,st=>by
  rw[AJM,YW xs,Ap,GJ];unfold EB
  cases e:EI rest x with
  |none=>simp
  |some b =>
   simp only
   by_cases z:AX G l b=0
   .rw[if_pos z,z];simp
   .rw[if_neg z];simp only;omega
theorem YV(G:BO)(l:Nat)(rest:List Str):(DR G l rest (Bd G (l+1) rest)).2=AX G (l+1) rest:=by unfold DR;rw[YW];simp[AX]
theorem YX{G:BO}{l:Nat}{rest:List Str}:∀(xs:List (List Str)) (st:List (List Str×Nat×List Str)×Nat),∃ys,ys.Sublist xs/\((xs.foldl (EB G l rest) st).1).map (·.1)=st.1.map (·.1)++ys
 |[],st=>⟨[],List.Sublist.refl _,by simp⟩
 |x::xs,st=>by
  rw[AJM]
  have key:(EB G l rest st x).1.map (·.1)=st.1.map (·.1)\/(EB G l rest st x).1.map (·.1)=st.1.map (·.1)++[x]:=by
   unfold EB
   cases e:EI rest x with
   |none=>exact .inl rfl
   |some b =>
    simp only
    by_cases z:AX G l b=0
    .rw[if_pos z];exact .inl rfl
    .rw[if_neg z];exact .inr (by simp)
  obtain⟨ys,h1,h2⟩:=YX xs (EB G l rest st x);rcases key with k|k
  .exact⟨ys,h1.cons x,by rw[h2,k]⟩
  .exact⟨x::ys,h1.cons₂ x,by rw[h2,k];simp⟩
theorem SW(G:BO)(l:Nat)(rest:List Str)(xs:List (List Str)):((DR G l rest xs).1.map (·.1)).Sublist xs:=by obtain⟨ys,h1,h2⟩:=YX (G:=G) (l:=l) (rest:=rest) xs ([],0);unfold DR;rw[h2];simpa using h1
theorem UN{G:BO}(h:(G.map (·.1)).Nodup)(l:Nat)(rest:List Str):(Bd G l rest).Nodup:=by
 unfold Bd;split
 .split
  .simp
  .exact .nil
 .exact h
theorem KJ{G:BO}{l:Nat}{rest a:List Str}(h:a∈Bd G l rest):a∈G.map (·.1):=by
 unfold Bd at h;split at h
 .split at h
  .have:a=rest:=by simpa using h
   subst this;assumption
  .cases h
 .exact h
theorem UO{G:BO}{l:Nat}{rest:List Str}:(Bd G l rest).length<=G.length:=by
 unfold Bd;split
 .split
  .rename_i h
   cases G with
   |nil=>cases h
   |cons=>simp
  .simp
 .simp
def Es(G:BO)(sp:List (Nat×List Str))(k:Nat):Nat->List Str->Prop
 |0,_=>k=0
 |l+1,rest=>(AX G (l+1) rest=0/\k=1)\/(AX G (l+1) rest≠0/\∃j,k=j+2/\sp[j]?=some (l,rest))
theorem Es.mono{G:BO}{sp sp':List (Nat×List Str)}{k l:Nat}{rest:List Str}(h:Es G sp k l rest)(p:sp <+: sp'):Es G sp' k l rest:=by
 cases l with
 |zero=>exact h
 |succ l =>
  rcases h with h|⟨h1,j,h2,h3⟩
  .exact .inl h
  .exact .inr ⟨h1,j,h2,Dr p h3⟩
theorem Es.one{G:BO}{sp:List (Nat×List Str)}{k l:Nat}{rest:List Str}(h:Es G sp k l rest):k=1↔AX G l rest=0:=by
 cases l with
 |zero =>
  have:k=0:=h;subst this;simp[AX]
 |succ l =>
  rcases h with⟨h1,h2⟩|⟨h1,j,h2,h3⟩
  .simp[h1,h2]
  .constructor
   .intro z;omega
   .intro z;exact absurd z h1
def GC(G:BO)(sp:List (Nat×List Str))(l:Nat)(x:List Str×Nat×List Str)(y:NK×D):Prop:=∃num:Nat,y=(BL (Au x.1),.tup [.int (x.2.1:Int),.int (num:Int)])/\Es G sp num l x.2.2
theorem RS{α β:Type}{R S:α->β->Prop}{xs:List α}{ys:List β}(h:Paired R xs ys)(i:∀a b,R a b->S a b):Paired S xs ys:=by
 induction h with
 |nil=>exact .nil
 |cons r _ ih=>exact .cons (i _ _ r) ih
theorem AC7{α β:Type}{R:α->β->Prop}{xs:List α}{ys:List β}{x:α}{y:β}(h:Paired R xs ys)(r:R x y):Paired R (xs++[x]) (ys++[y]):=by
 induction h with
 |nil=>exact .cons r .nil
 |cons q _ ih=>exact .cons q ih
theorem GC.mono{G:BO}{sp sp':List (Nat×List Str)}{l:Nat}{x:List Str×Nat×List Str}{y:NK×D}(p:sp <+: sp')(h:GC G sp l x y):GC G sp' l x y:=let ⟨n,e,k⟩:=h;⟨n,e,k.mono p⟩
theorem OM{G:BO}{sp:List (Nat×List Str)}{l:Nat}{xs:List (List Str×Nat×List Str)}{ys:List (NK×D)}(h:Paired (GC G sp l) xs ys):ys.map (·.1)=xs.map λx=>BL (Au x.1):=by
 induction h with
 |nil=>rfl
 |cons r _ ih=>obtain⟨n,rfl,_⟩:=r;rw[Ap,Ap,ih]
def EX(k:Nat×List Str):D:=.tup [.int (k.1:Int),Au k.2]
theorem JX:KD EX:=⟨λa=>LY (by
  have h:(Jl (a.2.map D.str)).isSome=true:=by
   induction a.2 with
   |nil=>rfl
   |cons x a ih =>
    rw[Ap]
    cases e:Jl (a.map D.str) with
    |none=>rw[e] at ih;cases ih
    |some y=>simp[Jl,Lv,e]
  obtain⟨y,hy⟩:=AJi.mp h;show(Gc [.int (a.1:Int),.tup (a.2.map D.str)]).isSome=true
  simp[Gc,Kl,Lv,hy]),λa b h=>by
  have h1:=D.tup.inj h;have h2:=List.cons.inj h1;have h3:=List.cons.inj h2.2;have e1:a.1=b.1:=by have:=D.int.inj h2.1;omega
  have e2:=Et.inj _ _ h3.1
  exact Prod.ext e1 e2⟩
def ET(mk:List ((Nat×List Str)×Nat)):List (NK×D):=mk.map λe=>(BL (EX e.1),D.int (e.2:Int))
theorem WM(mk:List ((Nat×List Str)×Nat))(k:Nat×List Str):CK (ET mk) (BL (EX k))=(mk.find? λe=>decide (e.1=k)).map λe=>D.int (e.2:Int):=by
 unfold CK ET
 induction mk with
 |nil=>rfl
 |cons e es ih =>
  rw[Ap,Fq,Fq]
  by_cases h:e.1=k
  .subst h;simp
  .rw[decide_eq_false h,decide_eq_false (λz=>h (JX.kf z))];exact ih
def Ks(G:BO)(sp:List (Nat×List Str))(L:AD)(r a:Nat):Nat->Prop
 |0=>∃ep,Em L r 1 a [] ep
 |1=>∃ep,Em L r 0 a [] ep
 |i+2=>∃l rest kvs ep,sp[i]?=some (l,rest)/\Em L r (AX G (l+1) rest:Int) a kvs ep/\Paired (GC G sp l) (Fw G l rest) kvs
theorem Ks.mono{G:BO}{sp sp':List (Nat×List Str)}{L L':AD}{r a i:Nat}(h:Ks G sp L r a i)(p:sp <+: sp')(h1:L'[r]?=L[r]?)(h2:L'[a]?=L[a]?):Ks G sp' L' r a i:=by
 match i,h with
 |0,⟨ep,n⟩=>exact⟨ep,h1.trans n.1,h2.trans n.2⟩
 |1,⟨ep,n⟩=>exact⟨ep,h1.trans n.1,h2.trans n.2⟩
 |i+2,⟨l,rest,kvs,ep,e,n,k⟩=>exact⟨l,rest,kvs,ep,Dr p e,⟨h1.trans n.1,h2.trans n.2⟩,RS k λ_ _=>GC.mono p⟩
theorem Ks.node{G:BO}{sp:List (Nat×List Str)}{L:AD}{r a i:Nat}(h:Ks G sp L r a i):∃w kvs ep,Em L r w a kvs ep:=by
 match i,h with
 |0,⟨ep,n⟩=>exact⟨_,_,ep,n⟩
 |1,⟨ep,n⟩=>exact⟨_,_,ep,n⟩
 |i+2,⟨l,rest,kvs,ep,e,n,k⟩=>exact⟨_,_,ep,n⟩
structure Bv (G:BO) (X:List Nat) (L:AD) (t g m nd nn rt:Nat) (W:D) (es:List (List Str×Nat×List D)) (sp:List (Nat×List Str)) (rs:List (Nat×Nat)) (mk:List ((Nat×List Str)×Nat)):Prop where
 t_:L[t]?=some (.ins "Table" (NA W g m nd nn rt))
 g_:DL Au L g es
 gc:cont es=G
 nd_:L[nd]?=some (.lst (rs.map λp=>D.ref p.1))
 nn_:∃ep,L[nn]?=some (.dt (ET mk) ep)
 mk_:∀e∈mk,Es G sp e.2 e.1.1 e.1.2
 len:rs.length=sp.length+2
 nod:∀i r a,rs[i]?=some (r,a)->Ks G sp L r a i
 ndg:nd∉Bb es
 nng:nn≠g
 nnr:∀p∈rs,nn≠p.2
 out:∀x∈X,x≠t/\x≠g/\x∉Bb es/\x≠nd/\x≠nn/\∀p∈rs,x≠p.1/\x≠p.2
section
variable {G:BO}{X:List Nat}{L L':AD}{t g m nd nn rt:Nat}{W:D}{es:List (List Str×Nat×List D)}{sp:List (Nat×List Str)}{rs:List (Nat×Nat)}{mk:List ((Nat×List Str)×Nat)}
theorem Bv.same(T:Bv G X L t g m nd nn rt W es sp rs mk)(h:∀j,(j=t\/j=g\/j∈Bb es\/j=nd\/j=nn\/∃p∈rs,j=p.1\/j=p.2)->L'[j]?=L[j]?):Bv G X L' t g m nd nn rt W es sp rs mk :=
 ⟨(h t (.inl rfl)).trans T.t_,T.g_.same (h g (.inr (.inl rfl))) λq hq=>h q (.inr (.inr (.inl hq))),T.gc,(h nd (.inr (.inr (.inr (.inl rfl))))).trans T.nd_,let ⟨ep,e⟩:=T.nn_;⟨ep,(h nn (.inr (.inr (.inr (.inr (.inl rfl)))))).trans e⟩,T.mk_,T.len,
   λi r a e=>(T.nod i r a e).mono (As _) (h r (.inr (.inr (.inr (.inr (.inr ⟨_,CY e,.inl rfl⟩)))))) (h a (.inr (.inr (.inr (.inr (.inr ⟨_,CY e,.inr rfl⟩)))))),T.ndg,T.nng,T.nnr,T.out⟩
theorem Bv.lt(T:Bv G X L t g m nd nn rt W es sp rs mk){j:Nat}(h:j=t\/j=g\/j∈Bb es\/j=nd\/j=nn\/∃p∈rs,j=p.1\/j=p.2):j<L.length:=by
 rcases h with rfl|rfl|h|rfl|rfl|⟨p,hp,h⟩
 .exact DY T.t_
 .exact T.g_.glt
 .exact T.g_.lt h
 .exact DY T.nd_
 .obtain⟨ep,e⟩:=T.nn_;exact DY e
 .obtain⟨i,hi⟩:=AJ5 hp;obtain⟨w,kvs,ep,n⟩:=(T.nod i p.1 p.2 hi).node;rcases h with rfl|rfl
  .exact DY n.1
  .exact DY n.2
theorem Bv.pre(T:Bv G X L t g m nd nn rt W es sp rs mk)(p:L <+: L'):Bv G X L' t g m nd nn rt W es sp rs mk:=T.same λj hj=>by
 have:=T.lt hj;obtain⟨M,rfl⟩:=p;rw[FT this]
theorem Bv.setX(T:Bv G X L t g m nd nn rt W es sp rs mk){x:Nat}(hx:x∈X)(o:Ob):Bv G X (L.set x o) t g m nd nn rt W es sp rs mk:=T.same λj hj=>by
 have hne:x≠j:=λz=>by
  obtain⟨h1,h2,h3,h4,h5,h6⟩:=T.out x hx;rcases hj with rfl|rfl|h|rfl|rfl|⟨p,hp,h⟩
  .exact h1 z
  .exact h2 z
  .exact h3 (z▸h)
  .exact h4 z
  .exact h5 z
  .rcases h with rfl|rfl
   .exact(h6 p hp).1 z
   .exact(h6 p hp).2 z
 rw[Dw hne]
theorem Bv.more(T:Bv G X L t g m nd nn rt W es sp rs mk){Y:List Nat}(h:∀y∈Y,y∈X\/L.length<=y):Bv G Y L t g m nd nn rt W es sp rs mk :=
 ⟨T.t_,T.g_,T.gc,T.nd_,T.nn_,T.mk_,T.len,T.nod,T.ndg,T.nng,T.nnr,λy hy=>by
  rcases h y hy with z|z
  .exact T.out y z
  .have lt:∀j,(j=t\/j=g\/j∈Bb es\/j=nd\/j=nn\/∃p∈rs,j=p.1\/j=p.2)->y≠j:=λj hj e=>by have:=T.lt hj;omega
   exact⟨lt _ (.inl rfl),lt _ (.inr (.inl rfl)),λhm=>lt y (.inr (.inr (.inl hm))) rfl,lt _ (.inr (.inr (.inr (.inl rfl)))),lt _ (.inr (.inr (.inr (.inr (.inl rfl))))),λp hp=>⟨lt _ (.inr (.inr (.inr (.inr (.inr ⟨p,hp,.inl rfl⟩))))),lt _ (.inr (.inr (.inr (.inr (.inr ⟨p,hp,.inr rfl⟩)))))⟩⟩⟩
theorem Bv.node(T:Bv G X L t g m nd nn rt W es sp rs mk){k l:Nat}{rest:List Str}(h:Es G sp k l rest)(h1:k≠1):∃r a kvs ep,rs[k]?=some (r,a)/\Em L r (AX G l rest:Int) a kvs ep/\(l=0->kvs=[])/\∀l',l=l'+1->Paired (GC G sp l') (Fw G l' rest) kvs:=by
 cases l with
 |zero =>
  have hk:k=0:=h;subst hk;have hlt:0<rs.length:=by rw[T.len];omega
  obtain⟨ep,n⟩:=T.nod 0 rs[0].1 rs[0].2 (by simp[hlt]);exact⟨_,_,[],ep,by simp[hlt],n,λ_=>rfl,λl' e=>by omega⟩
 |succ l =>
  rcases h with⟨_,h2⟩|⟨h2,j,rfl,h3⟩
  .exact absurd h2 h1
  .have hj:j<sp.length:=(BQ.mp h3).1;have hlt:j+2<rs.length:=by rw[T.len];omega
   obtain⟨l',rest',kvs,ep,e,n,k⟩:=T.nod (j+2) rs[j+2].1 rs[j+2].2 (by simp[hlt]);rw[h3] at e;cases e;exact⟨_,_,kvs,ep,by simp[hlt],n,λz=>by omega,λl' e=>by cases e;exact k⟩
theorem XC{k:List Str}(h:k∈G.map (·.1)):∃ds,FX G k=some ds/\DO G k=ds.length:=by
 obtain⟨e,hf,_⟩:=IK h;have:FX G k=some e.2:=by unfold FX;rw[hf];rfl
 exact⟨e.2,this,by unfold DO;rw[this];rfl⟩
end
def Bu(g:Nat):Nat->Nat
 |0=>0
 |l+1=>1+g*Bu g l
section
variable {G:BO}{X:List Nat}{L:AD}{t g m nd nn rt:Nat}{W:D}{es:List (List Str×Nat×List D)}{sp:List (Nat×List Str)}{rs:List (Nat×Nat)}{mk:List ((Nat×List Str)×Nat)}{Q:AKQ}
theorem AAS(T:Bv G X L t g m nd nn rt W es sp rs mk)(l:Nat)(rest:List Str)(h:Q (.ref L.length) (L++[.lst ((Bd G l rest).map Au)])):W2 (zz1 [.ref t,.int (l:Int),Au rest] L) Q:=by
 unfold zz1;refine Go rfl ?_;unfold Pb;have ht:=T.t_;obtain⟨ep,hg⟩:=T.g_.at_;unfold Bd at h;rfl';refine Bm (λh0=>?_) (λh0=>?_)
 .rw[if_pos (by omega)] at h;rfl';refine XM hg (Et.key rest) ?_;have e1:(CK (Cd Au es) (BL (Au rest))).isSome=decide (rest∈G.map (·.1)):=by rw[AEF Et,T.gc];exact decide_eq_decide.mpr Iff.rfl
  rw[e1]
  by_cases hm:rest∈G.map (·.1)
  .rw[if_pos hm] at h;rw[decide_eq_true hm];rfl';refine SR rfl ?_;rfl';exact⟨rfl,h⟩
  .rw[if_neg hm] at h;rw[decide_eq_false hm];rfl';refine Lz rfl ?_;rfl';exact⟨rfl,h⟩
 .rw[if_neg (by omega)] at h;rfl';rw[Rj Et];refine⟨rfl,?_⟩;have e2:es.map (λe=>Au e.1)=(G.map (·.1)).map Au:=by rw[<-T.gc,Lw,DF];rfl
  rw[e2];exact h
end
def Sk(G:BO)(n l:Nat)(f:Nat):Prop:=∀{X:List Nat} {L:AD} {t g m nd nn rt:Nat} {W:D} {es:List (List Str×Nat×List D)} {sp:List (Nat×List Str)} {rs:List (Nat×Nat)} {mk:List ((Nat×List Str)×Nat)} {Q:AKQ} {rest:List Str},
 Bv G X L t g m nd nn rt W es sp rs mk->(∀x∈X,x<L.length)->rest.length=n->mk.length+Bu G.length l<=16000000->rs.length+Bu G.length l<=16000000 ->
 (∀L2 sp' rs' mk' k,Bv G X L2 t g m nd nn rt W es sp' rs' mk'->sp <+: sp'->mk'.length<=mk.length+Bu G.length l->rs'.length<=rs.length+Bu G.length l->Es G sp' k l rest->Aw [nd,nn] L L2->Q (.int (k:Int)) L2) ->
 W2 (IZ f [.ref t,.int (l:Int),Au rest] L) Q
theorem Us{G:BO}{X X':List Nat}{L L2:AD}{t g m nd nn rt:Nat}{W:D}{es:List (List Str×Nat×List D)}{sp sp':List (Nat×List Str)}{rs rs':List (Nat×Nat)}{mk mk':List ((Nat×List Str)×Nat)}(T:Bv G X L t g m nd nn rt W es sp rs mk)(T':Bv G X' L2 t g m nd nn rt W es sp' rs' mk')(p:sp <+: sp')(hp:L <+: L2):sp'=sp:=by have h1:=Dh hp T.nd_;rw[T'.nd_] at h1;have h2:=congrArg List.length (Ob.lst.inj (Option.some.inj h1));rw[Ao,Ao,T.len,T'.len] at h2;exact(p.eq_of_length (by omega)).symm
theorem ADg{G:BO}{n l f:Nat}(ih:Sk G n l f)(hG:(G.map (·.1)).Nodup)(hGn:∀a∈G.map (·.1),a.length=n)(hn:n<=1000)(hGl:G.length<=16000000)(hGs:∀a∈G.map (·.1),DO G a<=16777216)
  {X:List Nat} {L:AD} {t g m nd nn rt:Nat} {W:D} {es:List (List Str×Nat×List D)} {sp:List (Nat×List Str)} {rs:List (Nat×Nat)} {mk:List ((Nat×List Str)×Nat)} {Q:AKQ} {rest:List Str}
  (T:Bv G X L t g m nd nn rt W es sp rs mk) (hX:∀x∈X,x<L.length) (hr:rest.length=n) (hz:mk.length+Bu G.length (l+1)<=16000000) (hrs:rs.length+Bu G.length (l+1)<=16000000)
  (h:∀L2 sp' rs' mk' k,Bv G X L2 t g m nd nn rt W es sp' rs' mk'->sp <+: sp'->mk'.length<=mk.length+G.length*Bu G.length l->rs'.length<=rs.length+Bu G.length (l+1)->Es G sp' k (l+1) rest->Aw [nd,nn] L L2->Q (.int (k:Int)) L2) :
  W2 (ML (IZ f) [.ref t,.int ((l+1:Nat):Int),Au rest] L) Q:=by
 unfold ML;refine LF rfl ?_;unfold PL;simp only[Ky];refine CQ (λρ L1=>Em L1 L.length 0 (L.length+1) [] 0/\L1.length=L.length+2/\L <+: L1/\ρ=[some (.ref t),some (.int ((l+1:Nat):Int)),some (Au rest),some (.ref L.length),none,none,none]) ?_ ?_
 .rfl';refine RW Aq λL1 n1 l1 k1=>⟨rfl,?_⟩;have e1:(L++[Ob.ins "Node" []]).length=L.length+1:=by simp
  rw[e1] at n1 l1;have p1:L <+: L1:=(((Aw.app [L.length] L [Ob.ins "Node" []]).trans k1).mono λj hj=>.inr (by simp at hj;omega)).pre;rfl';exact⟨n1,by omega,p1,rfl⟩
 rintro ρ L1 ⟨n1,l1,p1,rfl⟩;have T1:=T.pre p1;have htl:=UO (G:=G) (l:=l+1) (rest:=rest)
 have hfree:∀x,L.length<=x->x∉[nd,nn]:=λx hx hm=>by
  have h1:=DY T.nd_;obtain⟨ep,h2⟩:=T.nn_;have h2:=DY h2;simp only[Ac,EN,or_false] at hm;omega
 refine CQ (λρ L'=>∃sp' rs' mk' kvs ep,Bv G (L.length::(L.length+1)::(L.length+2)::X) L' t g m nd nn rt W es sp' rs' mk'/\sp <+: sp'/\mk'.length<=mk.length+G.length*Bu G.length l/\rs'.length<=rs.length+G.length*Bu G.length l /\
  Em L' L.length (AX G (l+1) rest:Int) (L.length+1) kvs ep/\Paired (GC G sp' l) (Fw G l rest) kvs/\Aw [nd,nn] L L'/\∃e4 e5 e6,ρ=[some (.ref t),some (.int ((l+1:Nat):Int)),some (Au rest),some (.ref L.length),e4,e5,e6]) ?_ ?_
 .have ht1:=T1.t_;rfl';refine AAS T1 (l+1) rest ?_;rfl';generalize hL2:L1++[Ob.lst ((Bd G (l+1) rest).map Au)]=L2;have p2:L1 <+: L2:=by rw[<-hL2];exact BB _ _
  have l2:L2.length=L.length+3:=by rw[<-hL2];simp[l1]
  have a2:L2[L1.length]?=some (.lst ((Bd G (l+1) rest).map Au)):=by rw[<-hL2];exact Aq
  have n2:Em L2 L.length 0 (L.length+1) [] 0:=⟨Dh p2 n1.1,Dh p2 n1.2⟩
  have T2:Bv G (L.length::(L.length+1)::(L.length+2)::X) L2 t g m nd nn rt W es sp rs mk:=by
   refine(T.more λy hy=>?_).pre (p1.trans p2);simp only[Ac] at hy;rcases hy with rfl|rfl|rfl|hy
   .exact .inr (by omega)
   .exact .inr (by omega)
   .exact .inr (by omega)
   .exact .inl hy
  rw[l1] at a2 ⊢
  refine DU (λj ρ L'=>∃sp' rs' mk' kvs ep,Bv G (L.length::(L.length+1)::(L.length+2)::X) L' t g m nd nn rt W es sp' rs' mk'/\sp <+: sp'/\mk'.length<=mk.length+j*Bu G.length l/\rs'.length<=rs.length+j*Bu G.length l /\
   Em L' L.length ((DR G l rest ((Bd G (l+1) rest).take j)).2:Int) (L.length+1) kvs ep/\Paired (GC G sp' l) (DR G l rest ((Bd G (l+1) rest).take j)).1 kvs/\L'[L.length+2]?=some (.lst ((Bd G (l+1) rest).map Au))/\Aw [nd,nn] L L' /\
   ∃e4 e5 e6,ρ=[some (.ref t),some (.int ((l+1:Nat):Int)),some (Au rest),some (.ref L.length),e4,e5,e6]) _ 0 _ _ ⟨sp,rs,mk,[],0,T2,As _,by omega,by omega,n2,.nil,a2,.of_pre (p1.trans p2),none,none,none,rfl⟩ ?_ ?_
  .rintro i x ρ L' hx ⟨sp',rs',mk',kvs,ep,T',psp,hmk,hrs',nA,pA,hL',hk,e4,e5,e6,rfl⟩;refine⟨decide_eq_true hL',?_⟩;rw[BD] at hx
   cases hse:(Bd G (l+1) rest)[i]? with
   |none=>rw[hse] at hx;cases hx
   |some a =>
   rw[hse] at hx;cases hx;have hi:i<(Bd G (l+1) rest).length:=(BQ.mp hse).1;have haG:=KJ (CY hse)
   have hst:DR G l rest ((Bd G (l+1) rest).take (0+i+1))=EB G l rest (DR G l rest ((Bd G (l+1) rest).take (0+i))) a:=by unfold DR;rw[SD hse]
   have hmul:(i+1)*Bu G.length l<=G.length*Bu G.length l:=AI3 _ (by omega);have hcn:Bu G.length (l+1)=1+G.length*Bu G.length l:=rfl;rw[AIs,Nat.one_mul] at hmul;have hstep:(0+i+1)*Bu G.length l=(0+i)*Bu G.length l+Bu G.length l:=by rw[AIs (0+i) 1,Nat.one_mul]
   have hzi:(0+i)*Bu G.length l=i*Bu G.length l:=by rw[Ca]
   have hmk2:mk'.length+Bu G.length l<=16000000:=by omega
   have hrs2:rs'.length+Bu G.length l<=16000000:=by omega
   rfl';refine AGM (by rw[hGn a haG,hr]) (by omega) (λhb=>?_) (λb hb=>?_)
   .have e7:EB G l rest (DR G l rest ((Bd G (l+1) rest).take (0+i))) a=DR G l rest ((Bd G (l+1) rest).take (0+i)):=by unfold EB;rw[hb]
    rw[hst,e7];rfl';exact⟨sp',rs',mk',kvs,ep,T',psp,by omega,by omega,nA,pA,hL',hk,_,_,_,rfl⟩
   .rfl';refine Lz rfl ?_;have ec:((l+1:Nat):Int)-1=(l:Int):=by omega
    rfl';rw[ec];refine ih T' (λy hy=>?_) (by rw[YQ hb,hr]) hmk2 hrs2 λL3 sp3 rs3 mk3 k3 T3 psp3 hmk3' hrs3 nk3 hk3=>?_
    .have hkl:=hk.1;have hl2:=DY hL';simp only[Ac] at hy;rcases hy with rfl|rfl|rfl|hy
     .omega
     .omega
     .omega
     .have:=hX y hy;omega
    have nA3:Em L3 L.length ((DR G l rest ((Bd G (l+1) rest).take (0+i))).2:Int) (L.length+1) kvs ep:=⟨hk3.get (hfree _ (Ai _)) nA.1,hk3.get (hfree _ (by omega)) nA.2⟩;have hL3:L3[L.length+2]?=some (.lst ((Bd G (l+1) rest).map Au)):=hk3.get (hfree _ (by omega)) hL';have pA3:Paired (GC G sp3 l) (DR G l rest ((Bd G (l+1) rest).take (0+i))).1 kvs:=RS pA λ_ _=>GC.mono psp3;have hone:=nk3.one;rfl';refine Bm (λhne=>?_) (λhne=>?_)
    .have hk1:k3=1:=by omega
     have hw0:=hone.mp hk1;have e7:EB G l rest (DR G l rest ((Bd G (l+1) rest).take (0+i))) a=DR G l rest ((Bd G (l+1) rest).take (0+i)):=by unfold EB;rw[hb];simp only;rw[if_pos hw0]
     rw[hst,e7];rfl';exact⟨sp3,rs3,mk3,kvs,ep,T3,psp.trans psp3,by omega,by omega,nA3,pA3,hL3,hk.trans hk3,_,_,_,rfl⟩
    .have hk1:k3≠1:=by omega
     have hw0:AX G l b≠0:=λz=>hk1 (hone.mpr z)
     have e7:EB G l rest (DR G l rest ((Bd G (l+1) rest).take (0+i))) a=((DR G l rest ((Bd G (l+1) rest).take (0+i))).1++[(a,(DR G l rest ((Bd G (l+1) rest).take (0+i))).2,b)],(DR G l rest ((Bd G (l+1) rest).take (0+i))).2+DO G a*AX G l b):=by unfold EB;rw[hb];simp only;rw[if_neg hw0]
     rw[hst,e7]
     have hknew:BL (Au a)∉kvs.map (·.1):=by rw[OM pA3];intro hm;obtain⟨y,hy,hy2⟩:=BV.mp hm;have hya:=Et.kf hy2;have hsub:=(SW G l rest ((Bd G (l+1) rest).take (0+i))).subset (Dp (f:=λx:List Str×Nat×List Str=>x.1) hy);have hnd:((Bd G (l+1) rest).take (0+i+1)).Nodup:=List.Sublist.nodup (List.take_sublist _ _) (UN hG _ _);rw[Ic hse,AI2] at hnd;exact hnd.2.2 _ hsub a (by simp) hya
     have hkvl:kvs.length<=i:=by have h1:=congrArg List.length (OM pA3);rw[Ao,Ao] at h1;have h2:=(SW G l rest ((Bd G (l+1) rest).take (0+i))).length_le;rw[Ao,AIe] at h2;omega
     generalize hwz:(DR G l rest ((Bd G (l+1) rest).take (0+i))).2=wz at *;generalize haz:(DR G l rest ((Bd G (l+1) rest).take (0+i))).1=az at *;have n3a:=nA3.1;rfl';refine Rz (kk:=BL (Au a)) nA3.2 (by omega) (Et.key a) ?_;have hput:=λd ep=>RE (d:=d) (ep:=ep) hknew;rw[(hput _ 0).1,(hput .non _).2];generalize hL4:L3.set (L.length+1) (.dt (kvs++[(BL (Au a),.tup [.int (wz:Int),.int (k3:Int)])]) (ep+1))=L4;have T4:Bv G (L.length::(L.length+1)::(L.length+2)::X) L4 t g m nd nn rt W es sp3 rs3 mk3:=by rw[<-hL4];exact T3.setX (by simp) _
     have nA4:Em L4 L.length (wz:Int) (L.length+1) (kvs++[(BL (Au a),.tup [.int (wz:Int),.int (k3:Int)])]) (ep+1):=by rw[<-hL4];exact⟨Jc (by omega) nA3.1,DZ nA3.2⟩
     have hL4':L4[L.length+2]?=some (.lst ((Bd G (l+1) rest).map Au)):=by rw[<-hL4];exact Jc (by omega) hL3
     have hk4:Aw [nd,nn] L L4:=by rw[<-hL4];exact(hk.trans hk3).set (.inr (by omega))
     have ht4:=T4.t_;obtain⟨epg,hg4⟩:=T4.g_.at_;have hnd4:=T4.nd_;obtain⟨ds,hds,hsz⟩:=XC haG;obtain⟨q,hq1,hq2⟩:=T4.g_.get Et (k:=a) (ds:=ds) (by rw[T4.gc];exact hds);obtain⟨r0,a0,kv0,ep0,hr0,m0,_⟩:=T4.node nk3 hk1;have n4a:=nA4.1;have m0a:=m0.1;rfl';refine AGR nA4.1 (by simp) rfl ?_;rfl';refine Jd (kk:=BL (Au a)) hg4 (Et.key a) hq1 ?_;rfl';refine EY (d:=.ref r0) hnd4 (FL (by rw[BD,hr0];rfl)) ?_;rfl';refine Gw (Na (by have:=hGs a haG;rw[hsz] at this;omega)) ?_;refine⟨_,_,rfl,n4a,by show 2<1000;decide,?_⟩;refine⟨sp3,rs3,mk3,_,ep+1,T4.setX (by simp) _,psp.trans psp3,by omega,by omega,⟨?_,Jc (by omega) nA4.2⟩,AC7 pA3 ⟨k3,rfl,nk3⟩,Jc (by omega) hL4',hk4.set (.inr (Ai _)),_,_,_,rfl⟩;rw[DZ n4a,hsz];push_cast;rfl
  .rintro ρ L' ⟨sp',rs',mk',kvs,ep,T',psp,hmk,hrs',nA,pA,hL',hk,e4,e5,e6,rfl⟩;rw[Ao,Ca] at hmk hrs';have hmx:=AI3 (Bu G.length l) htl;refine⟨decide_eq_true hL',sp',rs',mk',kvs,ep,T',psp,by omega,by omega,?_,?_,hk,_,_,_,rfl⟩
   .rw[Ao,Ca,Gj,YV] at nA;exact nA
   .rw[Ao,Ca,Gj] at pA;exact pA
 rintro ρ L3 ⟨sp',rs',mk',kvs,ep,T',psp,hmk,hrs',nA,pA,hk,e4,e5,e6,rfl⟩;have TX:Bv G X L3 t g m nd nn rt W es sp' rs' mk':=T'.more λy hy=>.inl (by simp[hy]);have n3a:=nA.1;have ht3:=TX.t_;have hnd3:=TX.nd_;rfl';refine Bm (λhw0=>?_) (λhw0=>?_)
 .have hw:AX G (l+1) rest=0:=by omega
  rfl';have hcn:Bu G.length (l+1)=1+G.length*Bu G.length l:=rfl;refine⟨λhp _=>?_,h L3 sp' rs' mk' 1 TX psp hmk (by omega) (.inl ⟨hw,rfl⟩) hk⟩;exact h L sp rs mk 1 T (As _) (by omega) (by omega) (.inl ⟨hw,rfl⟩) (.refl _ _)
 .have hw:AX G (l+1) rest≠0:=by omega
  have hmx:=hz;have hcn:Bu G.length (l+1)=1+G.length*Bu G.length l:=rfl;rfl';refine ID hnd3 (by rw[Ao];omega) ?_;have hnd5:(L3.set nd (.lst (rs'.map (λp=>D.ref p.1)++[.ref L.length])))[nd]?=some (.lst (rs'.map (λp=>D.ref p.1)++[.ref L.length])):=DZ hnd3;have ht5:(L3.set nd (.lst (rs'.map (λp=>D.ref p.1)++[.ref L.length])))[t]?=some (.ins "Table" (NA W g m nd nn rt)):=Nq hnd3 ht3 (by simp);rfl';have el:(((rs'.map (λp=>D.ref p.1)++[D.ref L.length]).length:Nat):Int)-1=((sp'.length+2:Nat):Int):=by rw[Cz,Ao,T'.len];simp
  rw[el];have hndn:nd≠L.length/\nd≠L.length+1:=by have:=DY T.nd_;omega
  have pq:sp' <+: sp'++[(l,rest)]:=BB _ _
  have T5:Bv G X (L3.set nd (.lst (rs'.map (λp=>D.ref p.1)++[.ref L.length]))) t g m nd nn rt W es (sp'++[(l,rest)]) (rs'++[(L.length,L.length+1)]) mk':=by
   have stay:∀j,j≠nd->(L3.set nd (.lst (rs'.map (λp=>D.ref p.1)++[.ref L.length])))[j]?=L3[j]?:=λj hj=>Dw (Ne.symm hj);obtain⟨epg,hg0⟩:=TX.g_.at_;obtain⟨epn,hnn0⟩:=TX.nn_;have ne1:g≠nd:=λz=>by rw[z,hnd3] at hg0;cases hg0
   have ne2:nn≠nd:=λz=>by rw[z,hnd3] at hnn0;cases hnn0
   refine⟨ht5,TX.g_.same (stay g ne1) λq hq=>stay q λz=>TX.ndg (z▸hq),TX.gc,by rw[hnd5];simp,⟨epn,(stay nn ne2).trans hnn0⟩,λe he=>(TX.mk_ e he).mono pq,by rw[Cz,Cz,TX.len];simp,λi r a hi=>?_,TX.ndg,TX.nng,λp hp=>?_,λx hx=>?_⟩
   .by_cases hlt:i<rs'.length
    .rw[FT hlt] at hi;have hN:=TX.nod i r a hi;obtain⟨w0,kv0,ep0,m0⟩:=hN.node;refine hN.mono pq (stay r λz=>?_) (stay a λz=>?_)
     .have:=m0.1;rw[z,hnd3] at this;cases this
     .have:=m0.2;rw[z,hnd3] at this;cases this
    .have hi':i=sp'.length+2:=by
      have:=(BQ.mp hi).1;rw[Cz,TX.len] at this;rw[TX.len] at hlt;simp at this;omega
     subst hi';rw[AI0 (by rw[TX.len];exact Ai _),TX.len,Nat.sub_self] at hi;cases hi;exact⟨l,rest,kvs,ep,by simp,⟨(stay _ (Ne.symm hndn.1)).trans nA.1,(stay _ (Ne.symm hndn.2)).trans nA.2⟩,RS pA λ_ _=>GC.mono pq⟩
   .rcases DE.mp hp with hp|hp
    .exact TX.nnr p hp
    .have:p=(L.length,L.length+1):=by simpa using hp
     subst this;obtain⟨ep0,h0⟩:=T.nn_;have:=DY h0;show nn≠L.length+1;omega
   .obtain⟨h1,h2,h3,h4,h5,h6⟩:=TX.out x hx;refine⟨h1,h2,h3,h4,h5,λp hp=>?_⟩;rcases DE.mp hp with hp|hp
    .exact h6 p hp
    .have:p=(L.length,L.length+1):=by simpa using hp
     subst this;have:=hX x hx;exact⟨by show x≠L.length;omega,by show x≠L.length+1;omega⟩
  refine⟨λhp _=>?_,h _ (sp'++[(l,rest)]) (rs'++[(L.length,L.length+1)]) mk' (sp'.length+2) T5 (psp.trans pq) hmk (by simp;omega) (.inr ⟨hw,sp'.length,rfl,by simp⟩) (hk.set (.inl (by simp)))⟩;have hbad:=Us T T5 (psp.trans pq) hp;have:=congrArg List.length hbad;have hl:=psp.length_le;rw[Cz] at this;simp at this;omega
def Ej(mk:List ((Nat×List Str)×Nat))(k:Nat×List Str)(v:Nat):List ((Nat×List Str)×Nat):=if k∈mk.map (·.1) then mk.map (λe=>if e.1=k then (e.1,v) else e) else mk++[(k,v)]
theorem AB5(mk:List ((Nat×List Str)×Nat))(k:Nat×List Str)(v:Nat):(Ej mk k v).length<=mk.length+1:=by
 unfold Ej;split
 .rw[Ao];omega
 .simp
theorem AB4{mk:List ((Nat×List Str)×Nat)}{k:Nat×List Str}{v:Nat}{e:(Nat×List Str)×Nat}(h:e∈Ej mk k v):e∈mk\/e=(k,v):=by
 unfold Ej at h;split at h
 .obtain⟨x,hx,rfl⟩:=BV.mp h
  by_cases z:x.1=k
  .rw[if_pos z];exact .inr (by rw[z])
  .rw[if_neg z];exact .inl hx
 .rcases DE.mp h with h|h
  .exact .inl h
  .exact .inr (by simpa using h)
theorem ABn(mk:List ((Nat×List Str)×Nat))(k:Nat×List Str)(v:Nat):ET (Ej mk k v)=Dq (ET mk) (BL (EX k)) (.int (v:Int)):=by
 by_cases h:k∈mk.map (·.1)
 .have h2:((ET mk).any λkv=>decide (kv.1=BL (EX k)))=true:=by
   obtain⟨e,he,rfl⟩:=BV.mp h;rw[List.any_eq_true];exact⟨(BL (EX e.1),.int (e.2:Int)),Dp (f:=λe:(Nat×List Str)×Nat=>(BL (EX e.1),D.int (e.2:Int))) he,by simp⟩
  unfold Dq;rw[if_pos h2];unfold Ej;rw[if_pos h];unfold ET;rw[DF,DF];apply AIi;intro e _
  show(BL (EX (if e.1=k then (e.1,v) else e).1),D.int ((if e.1=k then (e.1,v) else e).2:Int))=if BL (EX e.1)=BL (EX k) then (BL (EX e.1),D.int (v:Int)) else (BL (EX e.1),D.int (e.2:Int))
  by_cases z:e.1=k
  .rw[if_pos z,if_pos (by rw[z])]
  .rw[if_neg z,if_neg (λy=>z (JX.kf y))]
 .have hn:BL (EX k)∉(ET mk).map (·.1):=λhm=>by
   unfold ET at hm;rw[DF] at hm;obtain⟨e,he,h2⟩:=BV.mp hm;exact h (by rw[<-JX.kf h2];exact Dp he)
  rw[(RE (ep:=0) hn).1];unfold Ej;rw[if_neg h];unfold ET;rw[Eo];rfl
theorem AED(mk:List ((Nat×List Str)×Nat))(k:Nat×List Str)(v:Nat):CK (ET (Ej mk k v)) (BL (EX k))=some (.int (v:Int)):=by
 rw[WM]
 have hin:k∈(Ej mk k v).map (·.1):=by
  unfold Ej
  by_cases h:k∈mk.map (·.1)
  .rw[if_pos h,DF];obtain⟨e,he,hek⟩:=BV.mp h;refine BV.mpr ⟨e,he,?_⟩
   show(if e.1=k then (e.1,v) else e).1=k
   rw[if_pos hek];exact hek
  .rw[if_neg h];simp
 obtain⟨e,hf,he,hk⟩:=IK hin;rw[hf];unfold Ej at he
 by_cases h:k∈mk.map (·.1)
 .rw[if_pos h] at he;obtain⟨x,_,rfl⟩:=BV.mp he
  by_cases z:x.1=k
  .rw[if_pos z];rfl
  .rw[if_neg z] at hk;exact absurd hk z
 .rw[if_neg h] at he;rcases DE.mp he with he|he
  .exact absurd (by rw[<-hk];exact Dp he) h
  .have:e=(k,v):=by simpa using he
   rw[this];rfl
theorem Vr{G:BO}{n:Nat}(hG:(G.map (·.1)).Nodup)(hGn:∀a∈G.map (·.1),a.length=n)(hn:n<=1000)(hGl:G.length<=16000000)(hGs:∀a∈G.map (·.1),DO G a<=16777216):∀(l f:Nat),l<f->Sk G n l f
 |0,0,hf=>absurd hf (by omega)
 |0,f+1,hf=>by
  intro T hX hr hz hrs h;rename_i X L t g m nd nn rt W es sp rs mk Q rest;unfold IZ;refine Ci rfl ?_;unfold MK;simp only[MZ];rfl';exact⟨rfl,As _,h L sp rs mk 0 T (As _) (by omega) (by omega) rfl (.refl _ _)⟩
 |l+1,0,hf=>absurd hf (by omega)
 |l+1,f+1,hf=>by
  intro T hX hr hz hrs h;rename_i X L t g m nd nn rt W es sp rs mk Q rest;have ih:Sk G n l f:=Vr hG hGn hn hGl hGs l f (by omega);unfold IZ;refine LF rfl ?_;unfold MK;have ht:=T.t_;obtain⟨epn,hnn⟩:=T.nn_;have hcn:Bu G.length (l+1)=1+G.length*Bu G.length l:=rfl;rfl';refine XM hnn (JX.key (l+1,rest)) ?_;have hlk:=WM mk (l+1,rest)
  cases hf:mk.find? (λe=>decide (e.1=(l+1,rest))) with
  |some e =>
   rw[hf] at hlk;have hem:=AJ4 hf;have hek:e.1=(l+1,rest):=by have:=List.find?_some hf;simpa using this
   have hnum:=T.mk_ e hem;rw[hek] at hnum;rw[hlk];rfl';refine Lz rfl ?_;rfl';refine Jd (kk:=BL (EX (l+1,rest))) hnn (JX.key (l+1,rest)) hlk ?_;refine⟨λ_ _=>h L sp rs mk e.2 T (As _) (by omega) (by omega) hnum (.refl _ _),h L sp rs mk e.2 T (As _) (by omega) (by omega) hnum (.refl _ _)⟩
  |none =>
   rw[hf] at hlk;rw[hlk];rfl';refine SR rfl ?_;rfl';refine ADg ih hG hGn hn hGl hGs T hX hr hz hrs λL2 sp2 rs2 mk2 k2 T2 psp2 hmk2 hrs2 nk2 hk2=>?_;have ht2:=T2.t_;obtain⟨ep2,hnn2⟩:=T2.nn_;rfl';refine Rz (kk:=BL (EX (l+1,rest))) hnn2 (by unfold ET;rw[Ao];omega) (JX.key (l+1,rest)) ?_;have hput:=ABn mk2 (l+1,rest) k2;rw[<-hput];have hlk3:=AED mk2 (l+1,rest) k2;have ne1:nn≠nd:=λz=>by have:=T2.nd_;rw[<-z,hnn2] at this;cases this
   generalize hep:epN (ET mk2) (BL (EX (l+1,rest))) ep2=ep3;have hnn3:(L2.set nn (.dt (ET (Ej mk2 (l+1,rest) k2)) ep3))[nn]?=some (.dt (ET (Ej mk2 (l+1,rest) k2)) ep3):=DZ hnn2;have stay:∀j,j≠nn->(L2.set nn (.dt (ET (Ej mk2 (l+1,rest) k2)) ep3))[j]?=L2[j]?:=λj hj=>Dw (Ne.symm hj);have ht3:(L2.set nn (.dt (ET (Ej mk2 (l+1,rest) k2)) ep3))[t]?=some (.ins "Table" (NA W g m nd nn rt)):=Nq hnn2 ht2 (by simp)
   have T3:Bv G X (L2.set nn (.dt (ET (Ej mk2 (l+1,rest) k2)) ep3)) t g m nd nn rt W es sp2 rs2 (Ej mk2 (l+1,rest) k2):=by
    refine⟨ht3,T2.g_.same (stay g (Ne.symm T2.nng)) λq hq=>stay q λz=>?_,T2.gc,(stay nd (Ne.symm ne1)).trans T2.nd_,⟨ep3,hnn3⟩,λe he=>?_,T2.len,λi r a hi=>?_,T2.ndg,T2.nng,T2.nnr,T2.out⟩
    .obtain⟨e,he,rfl⟩:=BV.mp hq;have:=T2.g_.it e he;rw[z,hnn2] at this;cases this
    .rcases AB4 he with h'|rfl
     .exact T2.mk_ e h'
     .exact nk2
    .have hN:=T2.nod i r a hi;obtain⟨w0,kv0,ep0,m0⟩:=hN.node;refine hN.mono (As _) (stay r λz=>?_) (stay a λz=>?_)
     .have:=m0.1;rw[z,hnn2] at this;cases this
     .exact T2.nnr _ (CY hi) z.symm
   have hml:=AB5 mk2 (l+1,rest) k2;rfl';refine Jd (kk:=BL (EX (l+1,rest))) hnn3 (JX.key (l+1,rest)) hlk3 ?_;refine⟨λhp _=>?_,h _ sp2 rs2 _ k2 T3 psp2 (by omega) (by omega) nk2 (hk2.set (.inl (by simp)))⟩;have hsp:=Us T T3 psp2 hp;rw[hsp] at nk2;exact h L sp rs mk k2 T (As _) (by omega) (by omega) nk2 (.refl _ _)
theorem Wt{w:List Str}:∀(A:List (List Str×List D)) {c:List (List Str×List D)} {a:List Str} {ps:List D},(a,ps)∈A.foldl (CU w) c->∀p∈ps,(∃qs,(a,qs)∈c/\p∈qs)\/∃x∈A,x.1=a/\p∈x.2
 |[],c,a,ps,h,p,hp=>.inl ⟨ps,h,hp⟩
 |x::A,c,a,ps,h,p,hp=>by
  rcases Wt A (c:=CU w c x) h p hp with⟨qs,h1,h2⟩|⟨y,hy,h1,h2⟩
  .unfold CU at h1;split at h1
   .rcases Js h1 with h'|⟨h3,h'|⟨zs,h',h4⟩⟩
    .exact .inl ⟨qs,h',h2⟩
    .exact .inr ⟨x,BN,h3.symm,by rw[<-h'];exact h2⟩
    .rw[h4] at h2;rcases DE.mp h2 with h2|h2
     .exact .inl ⟨zs,by rw[h3];exact h',h2⟩
     .exact .inr ⟨x,BN,h3.symm,h2⟩
   .exact .inl ⟨qs,h1,h2⟩
  .exact .inr ⟨y,BK _ hy,h1,h2⟩
theorem VU{ts:List Str}:∀(A:List D) {c:List (List Int×List D)} {a:List Int} {ps:List D},(a,ps)∈A.foldl (DV ts) c->∀p∈ps,(∃qs,(a,qs)∈c/\p∈qs)\/(p∈A/\HV ts p=some a)
 |[],c,a,ps,h,p,hp=>.inl ⟨ps,h,hp⟩
 |x::A,c,a,ps,h,p,hp=>by
  rcases VU A (c:=DV ts c x) h p hp with⟨qs,h1,h2⟩|⟨h1,h2⟩
  .unfold DV at h1
   cases e:HV ts x with
   |none=>rw[e] at h1;exact .inl ⟨qs,h1,h2⟩
   |some ks =>
    rw[e] at h1
    have hx:∀p,p∈[x]->(p∈x::A/\HV ts p=some ks):=λp hp=>by
     have:p=x:=by simpa using hp
     subst this;exact⟨BN,e⟩
    rcases Js h1 with h'|⟨h3,h'|⟨zs,h',h4⟩⟩
    .exact .inl ⟨qs,h',h2⟩
    .rw[h'] at h2;rw[h3];exact .inr (hx p h2)
    .rw[h4] at h2;rcases DE.mp h2 with h2|h2
     .exact .inl ⟨zs,by rw[h3];exact h',h2⟩
     .rw[h3];exact .inr (hx p h2)
  .exact .inr ⟨BK _ h1,h2⟩
theorem VT{ts:List Str}{ks:List Int}{ps:List D}(h:(ks,ps)∈Cm ts){p:D}(hp:p∈ps):p∈EG/\HV ts p=some ks:=by
 rcases VU EG h p hp with⟨_,h1,_⟩|h1
 .cases h1
 .exact h1
theorem Wu{w:List Str}:∀(A:List (List Str×List D)) {c:List (List Str×List D)} {a:List Str},a∈(A.foldl (CU w) c).map (·.1)->a∈c.map (·.1)\/∃x∈A,x.1=a
 |[],c,a,h=>.inl h
 |x::A,c,a,h=>by
  rcases Wu A (c:=CU w c x) h with h1|⟨y,hy,h1⟩
  .unfold CU at h1;split at h1
   .rw[Sc] at h1;split at h1
    .exact .inl h1
    .rcases DE.mp h1 with h1|h1
     .exact .inl h1
     .have h5:a=x.1:=by simpa using h1
      exact .inr ⟨x,BN,h5.symm⟩
   .exact .inl h1
  .exact .inr ⟨y,BK _ hy,h1⟩
theorem OP{ws ts:List Str}{x:List Str×List D}(h:x∈Dm ws ts++Hk ts (Cm ts)):(∃w∈ws,x=(ts.map (λ_=>w),[Mt w]))\/∃s∈Cm ts,∃e∈Cm ts,∃d∈FH,Fx ts s.1 e.1=true/\x=Hh ts s e d:=by
 rcases DE.mp h with h|h
 .obtain⟨w,hw,rfl⟩:=BV.mp h;exact .inl ⟨w,hw,rfl⟩
 .obtain⟨s,hs,h⟩:=AJG.mp h;obtain⟨e,he,h⟩:=AJG.mp h;unfold DW at h;split at h
  .obtain⟨d,hd,rfl⟩:=BV.mp h;exact .inr ⟨s,hs,e,he,d,hd,by assumption,rfl⟩
  .cases h
theorem Wy{ws ts w:List Str}{a:List Str}(h:a∈(Dj ws ts w).map (·.1)):a.length=ts.length:=by
 rcases Wu _ h with h|⟨x,hx,rfl⟩
 .cases h
 .rcases OP hx with⟨w,_,rfl⟩|⟨s,_,e,_,d,_,_,rfl⟩
  .simp
  .unfold Hh;simp[Xu]
theorem Wx(ws ts w:List Str):((Dj ws ts w).map (·.1)).Nodup:=Ws _ .nil
def OU(ws ts:List Str)(a:List Str)(p:D):Prop:=HJ ws p/\dNK p=some (BL p)/\∀i,i<ts.length->DQ (ts.getD i "") p=.str (a.getD i "")
theorem Wm{ts:List Str}{p:D}{ks:List Int}(h:HV ts p=some ks){i:Nat}(hi:i<ts.length):ER p (ts.getD i "")=.int (ks.getD i 0):=by
 have e:=Nl h;have hl:ks.length=ts.length:=by have:=congrArg List.length e;simpa using this.symm
 have h1:=congrArg (λl=>l[i]?) e;simp only[BD] at h1;have e1:ts[i]?=some (ts.getD i ""):=by simp[hi]
 have e2:ks[i]?=some (ks.getD i 0):=by simp[hl,hi]
 rw[e1,e2] at h1;exact Option.some.inj h1
theorem Wv{ws ts w:List Str}{a:List Str}{ps:List D}(h:(a,ps)∈Dj ws ts w){p:D}(hp:p∈ps):OU ws ts a p:=by
 rcases Wt _ h p hp with⟨_,h1,_⟩|⟨x,hx,rfl,h2⟩
 .cases h1
 .rcases OP hx with⟨w,hw,rfl⟩|⟨s,hs,e,he,d,hd,hlt,rfl⟩
  .have:p=Mt w:=by simpa using h2
   subst this;refine⟨.inl ⟨w,hw,rfl⟩,LY rfl,λi hi=>?_⟩;have:(ts.map λ_=>w).getD i ""=w:=by simp[hi]
   rw[this];rfl
  .unfold Hh Gd at h2;simp only[AJG,BV] at h2;obtain⟨x,hx,y,hy,rfl⟩:=h2;obtain⟨hx1,hx2⟩:=VT (ks:=s.1) (ps:=s.2) hs hx;obtain⟨hy1,hy2⟩:=VT (ks:=e.1) (ps:=e.2) he hy;have px:=RJ x hx1;have py:=RJ y hy1
   have hdd:MI d:=by simp only[FH,Ac,EN,or_false] at hd;exact hd
   refine⟨.inr ⟨d,x,y,rfl,hdd,px,py⟩,?_,λi hi=>?_⟩
   .obtain⟨k,n,e,rfl,_⟩:=px;obtain⟨k',n',e',rfl,_⟩:=py;exact LY rfl
   .have i1:=Wm hx2 hi;have i2:=Wm hy2 hi;have hl:=of_decide_eq_true (De.mp hlt i (Dd.mpr hi))
    have ec:((FK ts s.1 e.1 ts.length).map (FJ d)).getD i ""=FJ d (Txt.slice (ts.getD i "") (some (s.1.getD i 0)) (some (e.1.getD i 0))):=by unfold FK;simp[hi]
    show DQ (ts.getD i "") (.tup [.str d,x,y])=.str (((FK ts s.1 e.1 ts.length).map (FJ d)).getD i "");rw[ec];obtain⟨k',n',e',rfl,_⟩:=py;rw[NS];rw[i1,i2];simp only;rw[if_neg (by omega)]
theorem Xx{α:Type}{p q:α->Bool}(h:∀x,p x=true->q x=false):∀l:List α,l.countP p+l.countP q<=l.length
 |[]=>by simp
 |x::l=>by
  have ih:=Xx h l;rw[AJR,AJR,EO]
  cases hp:p x with
  |false=>cases hq:q x <;> simp <;> omega
  |true=>rw[h x hp];simp;omega
def Gs{α:Type}(r:α->α->Bool)(l m:List α):Nat:=(l.map λx=>m.countP (r x)).sum
theorem ADA{α:Type}(r:α->α->Bool)(x:α)(l m:List α):Gs r l (x::m)=Gs r l m+l.countP (λy=>r y x):=by
 unfold Gs
 induction l with
 |nil=>rfl
 |cons y l ih =>
  rw[Ap,Ap,GJ,GJ,ih,AJR,AJR];omega
theorem Vg{α:Type}{r:α->α->Bool}(h:∀x y,r x y=true->r y x=false):∀l:List α,2*Gs r l l<=l.length*l.length
 |[]=>by simp[Gs]
 |x::l=>by
  have ih:=Vg h l
  have hx:r x x=false:=by
   cases e:r x x with
   |false=>rfl
   |true=>rw[h x x e] at e;cases e
  have e1:Gs r (x::l) (x::l)=(x::l).countP (r x)+Gs r l (x::l):=by unfold Gs;rw[Ap,GJ]
  rw[e1,ADA,AJR,hx];have h2:=Xx (p:=r x) (q:=λy=>r y x) (λy hy=>h x y hy) l;simp only[AJF,if_false,EO]
  have e3:(l.length+1)*(l.length+1)=l.length*l.length+2*l.length+1:=by rw[AIs,Nat.mul_add];omega
  omega
theorem XX{α β:Type}(f:α->List β)(n:α->Nat)(h:∀x,(f x).length=n x):∀l:List α,(l.flatMap f).length=(l.map n).sum
 |[]=>rfl
 |x::l=>by rw[AI8,Cz,h,XX f n h l,Ap,GJ]
theorem Vh(ts:List Str)(s:List Int×List D):∀P:List (List Int×List D),(P.flatMap λe=>DW ts s e).length=3*P.countP λe=>Fx ts s.1 e.1
 |[]=>rfl
 |e::P=>by
  rw[AI8,Cz,Vh ts s P,AJR];unfold DW
  by_cases h:Fx ts s.1 e.1=true
  .rw[if_pos h,if_pos h];simp[FH];omega
  .rw[if_neg h,if_neg h];simp
theorem Ua{α:Type}(f:α->Nat):∀l:List α,(l.map λx=>3*f x).sum=3*(l.map f).sum
 |[]=>rfl
 |x::l=>by rw[Ap,GJ,Ua f l,Ap,GJ];omega
theorem AGj(ts:List Str):(Hk ts (Cm ts)).length<=2400:=by
 have hb:=NR ts
 have e1:(Hk ts (Cm ts)).length=3*Gs (λs e=>Fx ts s.1 e.1) (Cm ts) (Cm ts):=by unfold Hk;rw[XX _ (λs=>3*(Cm ts).countP λe=>Fx ts s.1 e.1) (λs=>Vh ts s _),Ua];rfl
 rw[e1]
 cases ts with
 |nil =>
  have hlen:(Cm []).length<=1:=by
   have hnd:((Cm []).map (·.1)).Nodup:=by
    have:∀(A:List D) (c:List (List Int×List D)),(c.map (·.1)).Nodup->((A.foldl (DV []) c).map (·.1)).Nodup:=by
     intro A
     induction A with
     |nil=>intro c h;exact h
     |cons x A ih =>
      intro c h;refine ih _ ?_;unfold DV;split
      .exact Sb h
      .exact h
    exact this EG [] .nil
   match h:Cm [] with
   |[]=>simp
   |[_]=>simp
   |a::b::r =>
    rw[h] at hnd;have h1:a.1=[]:=AJN.mp (NQ (ts:=[]) (by rw[h];simp));have h2:b.1=[]:=AJN.mp (NQ (ts:=[]) (by rw[h];simp));rw[Ap,Ap,AIk] at hnd;exact absurd (by rw[h1,h2];simp) hnd.1
  have h2:Gs (λs e:List Int×List D=>Fx [] s.1 e.1) (Cm []) (Cm [])<=1:=by
   unfold Gs
   match h:Cm [] with
   |[]=>simp
   |[a] =>
    simp only[Ap,AJK,GJ,List.sum_nil];have:=List.countP_le_length (p:=λe:List Int×List D=>Fx [] a.1 e.1) (l:=[a]);simp at this ⊢;omega
   |a::b::r=>rw[h] at hlen;simp at hlen
  omega
 |cons t ts =>
  have h:=Vg (r:=λs e:List Int×List D=>Fx (t::ts) s.1 e.1) (λs e hse=>by
   rw[AJS];intro hes;have h1:=of_decide_eq_true (De.mp hse 0 (Dd.mpr (by simp)));have h2:=of_decide_eq_true (De.mp hes 0 (Dd.mpr (by simp)))
   omega) (Cm (t::ts))
  have h3:(Cm (t::ts)).length*(Cm (t::ts)).length<=40*40:=AI9 hb.1 hb.1;omega
theorem Yb{ws ts:List Str}{x:List Str×List D}(h:x∈Dm ws ts++Hk ts (Cm ts)):x.2.length<=1600:=by
 rcases OP h with⟨w,_,rfl⟩|⟨s,hs,e,he,d,_,_,rfl⟩
 .simp
 .show(Gd d s.2 e.2).length<=1600;rw[Jn];exact AI9 ((NR ts).2 s hs) ((NR ts).2 e he)
theorem Rv{ws:List Str}(hw:ws.length<=6)(ts w:List Str):(Dj ws ts w).length<=2406/\Ep (Dj ws ts w)<=4000000/\∀e∈Dj ws ts w,e.2.length<=4000000:=by
 have hl:(Dm ws ts++Hk ts (Cm ts)).length<=2406:=by
  rw[Cz];have:=AGj ts;have:(Dm ws ts).length=ws.length:=by unfold Dm;simp
  omega
 have h1:=No (w:=w) (Dm ws ts++Hk ts (Cm ts)) MA λa ha=>Yb ha;have h2:=Wq (w:=w) (m:=1600) (Dm ws ts++Hk ts (Cm ts)) (c:=[]) .nil λa ha=>Yb ha;have h3:=AI3 1600 hl;have e0:Ep ([]:List (List Str×List D))=0:=rfl;refine⟨?_,?_,λe he=>?_⟩
 .have:=h1.1;unfold Dj;omega
 .unfold Dj;omega
 .have:=h1.2 e he;omega
theorem UX{ws:List Str}(hw:ws.length<=6)(ts w:List Str){a:List Str}(h:a∈(Dj ws ts w).map (·.1)):DO (Dj ws ts w) a<=4000000:=by
 obtain⟨e,hf,he,_⟩:=IK h;have:DO (Dj ws ts w) a=e.2.length:=by unfold DO FX;rw[hf];rfl
 rw[this];exact(Rv hw ts w).2.2 e he
def CT(exs:FQ):FQ:=(DI (exs.map Bo)).map λi=>exs.getD i ("","")
theorem ABA(exs:FQ):sortP (exs.map Bo)=(CT exs).map Bo:=by unfold sortP CT;rw[DF];apply AIi;intro i hi;have hi2:=Dd.mp ((LQ (exs.map Bo)).mem_iff.mp hi);rw[Ao] at hi2;show(exs.map Bo).getD i D.non=Bo (exs.getD i ("",""));simp[hi2]
theorem Qu(exs:FQ):(CT exs).Perm exs:=by have h:=(LQ (exs.map Bo)).map λi=>exs.getD i (("",""):Str×Str);rw[Ao,VF] at h;exact h
theorem AGc(exs:FQ):(exs.map Bo).all isPr=true:=by rw[De];intro d hd;obtain⟨e,_,rfl⟩:=BV.mp hd;rfl
theorem AE1{Q:AKQ}{L:AD}{k:Nat}{exs:FQ}(e:L[k]?=some (.lst (exs.map Bo)))(hz:exs.length<64)(h:Q (.ref L.length) (L++[.lst ((CT exs).map Bo)])):W2 (Le [.ref k] L) Q:=by refine⟨_,_,?_,h⟩;unfold Le;simp only[e];rw[if_pos (by rw[AGc,Ao];simp[hz]),ABA]
def cs(g:Nat):Nat->Nat
 |0=>0
 |j+1=>cs g j+Bu g (j+1)
def IV(L:AD)(t:Nat)(ws:List Str)(G:BO)(wd:List Str):Prop:=∃g m nd nn rt es sp rs mk,∃ks:List Nat,Bv G [] L t g m nd nn rt (Au ws) es sp rs mk/\(∃ep,L[m]?=some (.dt (GU (Ek G)) ep))/\L[rt]?=some (.lst (ks.map λ(k:Nat)=>D.int (k:Int)))/\ks.length=3/\∀i k,ks[i]?=some k->Es G sp k (i+1) wd
theorem IV.pre{L L':AD}{t:Nat}{ws:List Str}{G:BO}{wd:List Str}(T:IV L t ws G wd)(p:L <+: L'):IV L' t ws G wd:=by obtain⟨g,m,nd,nn,rt,es,sp,rs,mk,ks,T,⟨ep,hm⟩,hr,hk,hn⟩:=T;exact⟨g,m,nd,nn,rt,es,sp,rs,mk,ks,T.pre p,⟨ep,Dh p hm⟩,Dh p hr,hk,hn⟩
theorem AAY{Q:AKQ}{L:AD}{w ex:Nat}{ws:List Str}{exs:FQ}(hw:L[w]?=some (.lst (ws.map D.str)))(hl:ws.length<=6)(he:L[ex]?=some (.lst (exs.map Bo)))(hx:IY exs)(hxl:exs.length<60)
  (h:∀L2 t,L <+: L2->IV L2 t ws (Dj ws ((CT exs).map (·.1)) ((CT exs).map (·.2))) ((CT exs).map (·.2))->Q (.ref t) L2):W2 (zb2 [.ref w,.ref ex] L) Q:=by
 unfold zb2;refine Go rfl ?_;unfold PB;simp only[Mb];have hsl:(CT exs).length=exs.length:=(Qu exs).length_eq;generalize hts:(CT exs).map (·.1)=ts at h;generalize hwd:(CT exs).map (·.2)=wd at h;have htl:ts.length=exs.length:=by rw[<-hts,Ao,hsl]
 have hwl:wd.length=ts.length:=by rw[<-hts,<-hwd,Ao,Ao]
 have ok:OR ts:=⟨λy hy=>by
  rw[<-hts] at hy;obtain⟨e,he,rfl⟩:=BV.mp hy;have:=hx e ((Qu exs).mem_iff.mp he)
  exact⟨this.1,this.2.1⟩,by omega⟩
 generalize hS:CT exs=S at hts hwd hsl;rfl';refine AE1 he (by omega) ?_;rw[hS];rfl'
 refine JN (λρ=>∃e,ρ=[e]) (λx=>match x with|.tup [.str a,.str b]=>.str a|_=>.non) (λacc=>decide_eq_true (Al Aq)) ⟨_,rfl⟩ (by rw[Ao];omega) ?_ ?_
 .rintro x hx ρ ⟨e,rfl⟩;obtain⟨y,_,rfl⟩:=BV.mp hx;unfold Bo;rfl';refine⟨⟨_,rfl⟩,λacc=>?_⟩;rfl';exact⟨rfl,rfl⟩
 have em1:(S.map Bo).map (λx=>match x with|.tup [.str a,.str b]=>D.str a|_=>.non)=ts.map D.str:=by rw[<-hts,DF,DF];rfl
 rw[em1];rfl'
 refine JN (λρ=>∃e,ρ=[e]) (λx=>match x with|.tup [.str a,.str b]=>.str b|_=>.non) (λacc=>decide_eq_true (Al (Al Aq))) ⟨_,rfl⟩ (by rw[Ao];omega) ?_ ?_
 .rintro x hx ρ ⟨e,rfl⟩;obtain⟨y,_,rfl⟩:=BV.mp hx;unfold Bo;rfl';refine⟨⟨_,rfl⟩,λacc=>?_⟩;rfl';exact⟨rfl,rfl⟩
 have em2:(S.map Bo).map (λx=>match x with|.tup [.str a,.str b]=>D.str b|_=>.non)=wd.map D.str:=by rw[<-hwd,DF,DF];rfl
 rw[em2];rfl';refine AEy (Al (Al (Al hw))) hl (Al Aq) ok hwl λL1 es p1 g1 c1 a1=>?_;generalize hGg:Dj ws ts wd=G at c1 h;have hGb:G.length<=2406/\Ep G<=4000000/\∀e∈G,e.2.length<=4000000:=by rw[<-hGg];exact Rv hl ts wd
 have hGnd:(G.map (·.1)).Nodup:=by rw[<-hGg];exact Wx ws ts wd
 have hGn:∀a∈G.map (·.1),a.length=ts.length:=λa ha=>by rw[<-hGg] at ha;exact Wy ha
 have hGs:∀a∈G.map (·.1),DO G a<=16777216:=λa ha=>by
  rw[<-hGg] at ha ⊢;have:=UX hl ts wd ha;omega
 have hGp:∀e∈G,∀p∈e.2,dNK p=some (BL p):=λe he p hp=>by
  rw[<-hGg] at he;exact(Wv (a:=e.1) (ps:=e.2) he hp).2.1
 generalize hG:(L++[Ob.lst (S.map Bo)]++[Ob.lst (ts.map D.str)]++[Ob.lst (wd.map D.str)]).length=g at g1 a1 ⊢;have hG':g=L.length+3:=by rw[<-hG];simp
 have p1':L <+: L1:=((BB _ _).trans ((BB _ _).trans (BB _ _))).trans p1;have hl1:=p1'.length_le;have gl:=g1.glt;rfl';have g1':DL Au (L1++[Ob.ins "Table" []]) g es:=g1.pre (BB _ _);refine AAX (M:=GU (Ek G)) Aq g1'.glt (λL' Q' kL lL q=>?_) λL2 l2 k2 t2 m2 n2 a2 b2 nn2 rt2=>⟨rfl,?_⟩
 .have hLn:L1.length∉g::Bb es:=λhm=>by
   rcases Ac.mp hm with z|z
   .omega
   .have:=g1.lt z;omega
  have gL:DL Au L' g es:=g1'.keep kL (by simp;omega) λq hq z=>by
   have z':q=L1.length:=by simpa using z
   exact hLn (BK _ (by rw[<-z'];exact hq))
  refine ADm gL (by rw[c1];exact hGp) (by rw[c1];omega) (by rw[c1];exact λe he=>by have:=hGb.2.2 e he;omega) λep=>?_;rw[c1];exact q ep
 have e1:(L1++[Ob.ins "Table" []]).length=L1.length+1:=by simp
 rw[e1] at t2 m2 n2 a2 b2 nn2 rt2 l2;generalize hN:L1.length=N at *;have adl:∀q∈Bb es,q<N:=λq hq=>by rw[<-hN];exact g1.lt hq
 have g2:DL Au L2 g es:=g1'.keep k2 (by simp;omega) λq hq z=>by
  have:q=N:=by simpa using z
  have:=adl q hq;omega
 have T2:Bv G [N+1+7,L2.length] L2 N g (N+1) (N+1+5) (N+1+6) (N+1+7) (Au ws) es [] [(N+1+1,N+1+2),(N+1+3,N+1+4)] []:=by
  refine⟨t2,g2,c1,n2,⟨0,nn2⟩,(λ_ hm=>(nomatch hm)),rfl,λi r a hr=>?_,λhm=>?_,by omega,λp hp=>?_,λx hx=>?_⟩
  .match i,hr with
   |0,hr=>cases hr;exact⟨_,a2⟩
   |1,hr=>cases hr;exact⟨_,b2⟩
   |i+2,hr=>simp at hr
  .have:=adl _ hm;omega
  .simp only[Ac,EN,or_false] at hp;rcases hp with rfl|rfl
   .show N+1+6≠N+1+2;omega
   .show N+1+6≠N+1+4;omega
  .have hx2:x=N+1+7\/x=N+1+8:=by
    simp only[Ac,EN,or_false] at hx;rcases hx with rfl|rfl
    .exact .inl rfl
    .exact .inr (by omega)
   refine⟨by omega,by omega,λhm=>by have:=adl _ hm;omega,by omega,by omega,λp hp=>?_⟩;simp only[Ac,EN,or_false] at hp;rcases hp with rfl|rfl
   .exact⟨by show x≠N+1+1;omega,by show x≠N+1+2;omega⟩
   .exact⟨by show x≠N+1+3;omega,by show x≠N+1+4;omega⟩
 have p2:L <+: L2:=by have:Aw [N] L1 L2:=(Aw.app _ _ _).trans k2;exact p1'.trans (this.mono λj hj=>.inr (by simp at hj;omega)).pre
 have ht2:=T2.t_;rfl';generalize hM:L2.length=M at *
 have hcs:∀j,j<=3->cs G.length j<=6000000:=λj hj=>by
  have hg:=hGb.1
  have e3:cs G.length 3=3+2*G.length+G.length*G.length:=by simp only[cs,Bu];simp only[Nat.mul_zero,Nat.add_zero,Nat.mul_one,Nat.mul_add];omega
  have h4:G.length*G.length<=2406*2406:=AI9 hg hg
  have:cs G.length j<=cs G.length 3:=by
   match j,hj with
   |0,_=>exact FS _
   |1,_=>simp only[cs];omega
   |2,_=>simp only[cs];omega
   |3,_=>exact Ai _
  omega
 refine Hr (I:=λj ρ L'=>(∃e,ρ=[e,some (.ref N),some (Au wd)])/\∃sp rs mk,∃ks:List Nat,Bv G [N+1+7,M] L' N g (N+1) (N+1+5) (N+1+6) (N+1+7) (Au ws) es sp rs mk/\mk.length<=cs G.length j/\rs.length<=2+cs G.length j/\ks.length=j/\(∀i k,ks[i]?=some k->Es G sp k (i+1) wd) /\
  Aw [N+1+5,N+1+6] L2 L'/\L'[M]?=some (.lst (ks.map λ(k:Nat)=>D.int (k:Int)))) _ 0 _ _ ⟨⟨_,rfl⟩,[],_,[],[],T2.pre (BB _ _),Ai _,Ai _,rfl,λi k hk=>by simp at hk,.app _ _ _,by rw[<-hM];exact Aq⟩ ?_ ?_
 .rintro i x ρ L' hx ⟨⟨e,rfl⟩,sp,rs,mk,ks,T,hmk,hrs,hks,hkn,k',hM'⟩;refine⟨rfl,?_⟩
  have hi:i<3/\x=.int ((i+1:Nat):Int):=by
   match i,hx with
   |0,hx=>cases hx;exact⟨by decide,rfl⟩
   |1,hx=>cases hx;exact⟨by decide,rfl⟩
   |2,hx=>cases hx;exact⟨by decide,rfl⟩
   |i+3,hx=>simp at hx
  obtain⟨hi,rfl⟩:=hi;have hc:=hcs (0+i+1) (by omega);have hce:cs G.length (0+i+1)=cs G.length (0+i)+Bu G.length (i+1):=by rw[Ca];rfl
  rfl';refine Vr hGnd hGn (by omega) (by omega) hGs (i+1) 5 (by omega) T (λy hy=>?_) hwl (by omega) (by omega) λL3 sp3 rs3 mk3 k3 T3 psp3 hmk3 hrs3 nk3 hk3=>?_
  .have hM2:=DY hM';simp only[Ac,EN,or_false] at hy;rcases hy with rfl|rfl <;> omega
  have hM3:L3[M]?=some (.lst (ks.map λ(k:Nat)=>D.int (k:Int))):=hk3.get (by simp;omega) hM';refine⟨_,hM3,by rw[Ao,hks];omega,⟨_,rfl⟩,sp3,rs3,mk3,ks++[k3],T3.setX (by simp) _,by omega,by omega,by simp[hks],λj k hj=>?_,(k'.trans hk3).set (.inr (by omega)),?_⟩
  .by_cases hlt:j<ks.length
   .rw[FT hlt] at hj;exact(hkn j k hj).mono psp3
   .have hj':j=ks.length:=by
     have:=(BQ.mp hj).1;simp at this;omega
    subst hj';rw[AI0 (Ai _),Nat.sub_self] at hj;cases hj;rw[hks,Ca];exact nk3
  .rw[DZ hM3];simp
 .rintro ρ L' ⟨⟨e,rfl⟩,sp,rs,mk,ks,T,hmk,hrs,hks,hkn,k',hM'⟩;refine⟨rfl,?_⟩;have hks3:ks.length=3:=hks;have rt':L'[N+1+7]?=some (.lst []):=k'.get (by simp) rt2;obtain⟨epm,m2⟩:=m2;have m':L'[N+1]?=some (.dt (GU (Ek G)) epm):=k'.get (by simp) m2;have htk:=T.t_;rfl';refine Ry rt' hM' (by simp[hks3]) ?_;rfl';refine⟨rfl,h _ N ?_ ⟨g,N+1,N+1+5,N+1+6,N+1+7,es,sp,rs,mk,ks,(T.setX (by simp) _).more (λ_ hy=>(nomatch hy)),⟨epm,Nq rt' m' (by simp)⟩,?_,hks3,hkn⟩⟩
  .exact(((Aw.of_pre p2).step k' λj hj=>.inr (by simp at hj;omega)).set (.inr (by omega))).pre
  .rw[DZ rt'];simp
abbrev En:=List Str×Nat×List Str
def FZ(z:Nat):Option En->List En->Option En
 |o,[]=>o
 |o,x::r=>if z<x.2.1 then o else FZ z (some x) r
def DA(G:BO):Nat->List Str->Nat->List D
 |0,_,_=>[]
 |l+1,rest,z=>match FZ z none (Fw G l rest) with
  |none=>[]
  |some x=>(((FX G x.1).getD [])[(z-x.2.1) / AX G l x.2.2]?.getD .non)::DA G l x.2.2 ((z-x.2.1) % AX G l x.2.2)
def JM(G:BO)(l:Nat)(x:En):Nat:=DO G x.1*AX G l x.2.2
def Iz(G:BO)(l:Nat):Nat->List En->Nat->Prop
 |s,[],e=>s=e
 |s,x::r,e=>x.2.1=s/\0<JM G l x/\Iz G l (s+JM G l x) r e
theorem YB{G:BO}{l:Nat}{x:En}:∀{r:List En} {s e:Nat},Iz G l s r e->x.2.1=e->0<JM G l x->Iz G l s (r++[x]) (e+JM G l x)
 |[],s,e,h,h1,h2=>⟨h1.trans (Eq.symm h),h2,by show _=_;rw[show s=e from h]⟩
 |y::r,s,e,h,h1,h2=>⟨h.1,h.2.1,YB h.2.2 h1 h2⟩
theorem AGX{G:BO}{l:Nat}{rest:List Str}(hp:∀a∈G.map (·.1),0<DO G a):Iz G l 0 (Fw G l rest) (AX G (l+1) rest):=by
 rw[<-YV];unfold Fw DR
 have:∀(xs:List (List Str)) (st:List En×Nat),(∀a∈xs,a∈G.map (·.1))->Iz G l 0 st.1 st.2->Iz G l 0 (xs.foldl (EB G l rest) st).1 (xs.foldl (EB G l rest) st).2:=by
  intro xs
  induction xs with
  |nil=>intro st _ h;exact h
  |cons x xs ih =>
   intro st hm h;refine ih _ (λa ha=>hm a (BK _ ha)) ?_;unfold EB
   cases e:EI rest x with
   |none=>exact h
   |some b =>
    simp only
    by_cases z:AX G l b=0
    .rw[if_pos z];exact h
    .rw[if_neg z];exact YB h rfl (Nat.mul_pos (hp x (hm x BN)) (Nat.pos_of_ne_zero z))
 exact this _ ([],0) (λa ha=>KJ ha) rfl
theorem AFQ{G:BO}{l z:Nat}{x:En}:∀{r:List En} {s e:Nat},Iz G l s r e->z<s->FZ z (some x) r=some x
 |[],s,e,_,_=>rfl
 |y::r,s,e,h,hz=>by
  unfold FZ;rw[if_pos (by rw[h.1];exact hz)]
theorem Xa{G:BO}{l z:Nat}:∀{r:List En} {s e:Nat} {o:Option En},Iz G l s r e->s<=z->z<e->∃x∈r,FZ z o r=some x/\x.2.1<=z/\z<x.2.1+JM G l x
 |[],s,e,o,h,h1,h2=>by have:s=e:=h;omega
 |y::r,s,e,o,h,h1,h2=>by
  unfold FZ;rw[if_neg (by rw[h.1];omega)]
  by_cases hz:z<s+JM G l y
  .exact⟨y,BN,AFQ h.2.2 hz,by rw[h.1];exact h1,by rw[h.1];exact hz⟩
  .obtain⟨x,hx,h3⟩:=Xa (o:=some y) h.2.2 (by omega) h2;exact⟨x,BK _ hx,h3⟩
theorem Kn{G:BO}{l:Nat}{rest:List Str}{x:En}(h:x∈Fw G l rest):x.1∈Bd G (l+1) rest/\EI rest x.1=some x.2.2/\AX G l x.2.2≠0:=by
 unfold Fw DR at h
 have:∀(xs:List (List Str)) (st:List En×Nat),x∈(xs.foldl (EB G l rest) st).1->x∈st.1\/(x.1∈xs/\EI rest x.1=some x.2.2/\AX G l x.2.2≠0):=by
  intro xs
  induction xs with
  |nil=>intro st h;exact .inl h
  |cons y xs ih =>
   intro st h;rcases ih _ h with h1|⟨h1,h2⟩
   .unfold EB at h1
    cases e:EI rest y with
    |none=>rw[e] at h1;exact .inl h1
    |some b =>
     rw[e] at h1;simp only at h1
     by_cases z:AX G l b=0
     .rw[if_pos z] at h1;exact .inl h1
     .rw[if_neg z] at h1;rcases DE.mp h1 with h1|h1
      .exact .inl h1
      .have h1':x=(y,st.2,b):=by simpa using h1
       subst h1';exact .inr ⟨BN,e,z⟩
   .exact .inr ⟨BK _ h1,h2⟩
 rcases this _ _ h with h1|h1
 .cases h1
 .exact h1
theorem Ub{α:Type}{f:α->Nat}{m:Nat}:∀(l:List α),(∀x∈l,f x<=m)->(l.map f).sum<=l.length*m
 |[],_=>by simp
 |x::l,h=>by
  rw[Ap,GJ,EO,AIs];have h1:=h x BN;have h2:=Ub l λy hy=>h y (BK _ hy);omega
structure IX (ws ts:List Str) (G:BO):Prop where
 nd:(G.map (·.1)).Nodup
 ln:G.length<=2406
 sz:∀a∈G.map (·.1),DO G a<=4000000
 pos:∀a∈G.map (·.1),0<DO G a
 snd:∀e∈G,∀p∈e.2,OU ws ts e.1 p
 len:∀a∈G.map (·.1),a.length=ts.length
theorem RL{ts:List Str}:∀(A:List D) {c:List (List Int×List D)},(∀e∈c,e.2≠[])->∀e∈A.foldl (DV ts) c,e.2≠[]
 |[],c,h=>h
 |x::A,c,h=>by
  refine RL A ?_;unfold DV
  cases e:HV ts x with
  |none=>exact h
  |some ks =>
   rintro⟨k,qs⟩ he;rcases Js he with h'|⟨_,h'|⟨zs,h',h4⟩⟩
   .exact h _ h'
   .simp only;rw[h'];simp
   .simp only;rw[h4];simp
theorem Wr{w:List Str}:∀(A:List (List Str×List D)) {c:List (List Str×List D)},(∀a∈A,a.2≠[])->(∀e∈c,e.2≠[])->∀e∈A.foldl (CU w) c,e.2≠[]
 |[],c,_,h=>h
 |x::A,c,hA,h=>by
  refine Wr A (λa ha=>hA a (BK _ ha)) ?_;unfold CU;split
  .rintro⟨k,qs⟩ he;have hx:=hA x BN;rcases Js he with h'|⟨_,h'|⟨zs,h',h4⟩⟩
   .exact h _ h'
   .simp only;rw[h'];exact hx
   .simp only;rw[h4];simp[hx]
  .exact h
theorem Ww{ws:List Str}(hw:ws.length<=6)(ts w:List Str):IX ws ts (Dj ws ts w):=by
 refine⟨Wx ws ts w,(Rv hw ts w).1,λa ha=>UX hw ts w ha,λa ha=>?_,λe he p hp=>Wv (a:=e.1) (ps:=e.2) he hp,λa ha=>Wy ha⟩;obtain⟨e,hf,he,_⟩:=IK ha;have:DO (Dj ws ts w) a=e.2.length:=by unfold DO FX;rw[hf];rfl
 rw[this];refine List.length_pos_iff.mpr (Wr (w:=w) (Dm ws ts++Hk ts (Cm ts)) (c:=[]) (λx hx=>?_) (by simp) e he);rcases OP hx with⟨w,_,rfl⟩|⟨s,hs,e,he,d,_,_,rfl⟩
 .simp
 .have h1:=RL (ts:=ts) EG (c:=[]) (by simp) s hs;have h2:=RL (ts:=ts) EG (c:=[]) (by simp) e he;intro z;have z':(Gd d s.2 e.2).length=0:=congrArg List.length z;rw[Jn] at z';rcases Nat.mul_eq_zero.mp z' with q|q
  .exact h1 (AJN.mp q)
  .exact h2 (AJN.mp q)
theorem Tz{ws ts:List Str}{G:BO}(K:IX ws ts G):∀(l:Nat) (rest:List Str),AX G l rest<=10000000000 ^ l
 |0,_=>by simp[AX]
 |l+1,rest=>by
  have h:=Ub (m:=4000000*10000000000 ^ l) (f:=λa=>match EI rest a with|some b=>DO G a*AX G l b|none=>0) (Bd G (l+1) rest) λa ha=>by
   cases e:EI rest a with
   |none=>exact FS _
   |some b=>exact AI9 (K.sz a (KJ ha)) (Tz K l b)
  have h2:(Bd G (l+1) rest).length<=2406:=Ch UO K.ln;have h3:=AI3 (4000000*10000000000 ^ l) h2;rw[Nat.pow_succ]
  show((Bd G (l+1) rest).map λa=>match EI rest a with|some b=>DO G a*AX G l b|none=>0).sum<=_
  generalize 10000000000 ^ l=B at *;omega
theorem Zz{ws ts:List Str}{G:BO}(K:IX ws ts G){l:Nat}(hl:l<=3)(rest:List Str):AX G l rest<=1000000000000000000000000000000:=by refine Ch (Tz K l rest) (Ch (Nat.pow_le_pow_right (by decide) hl) (by decide))
theorem Qz{G:BO}(hp:∀a∈G.map (·.1),0<DO G a){l z:Nat}{rest:List Str}(hz:z<AX G (l+1) rest):∃x∈Fw G l rest,FZ z none (Fw G l rest)=some x/\x.2.1<=z/\(z-x.2.1) / AX G l x.2.2<DO G x.1/\(z-x.2.1) % AX G l x.2.2<AX G l x.2.2:=by obtain⟨x,hx,h1,h2,h3⟩:=Xa (o:=none) (AGX (l:=l) (rest:=rest) hp) (FS z) hz;have hw:=(Kn hx).2.2;refine⟨x,hx,h1,h2,Nat.div_lt_of_lt_mul ?_,Nat.mod_lt _ (Nat.pos_of_ne_zero hw)⟩;unfold JM at h3;rw[Nat.mul_comm];omega
theorem NL{ws ts:List Str}{G:BO}(K:IX ws ts G):∀{l z:Nat} {rest:List Str},z<AX G l rest->(DA G l rest z).length=l/\∀p∈DA G l rest z,HJ ws p
 |0,z,rest,_=>⟨rfl,(λ_ h=>(nomatch h))⟩
 |l+1,z,rest,hz=>by
  obtain⟨x,hx,h1,h2,h3,h4⟩:=Qz K.pos hz;have ih:=NL K h4;unfold DA;rw[h1];refine⟨by simp[ih.1],λp hp=>?_⟩;rcases Ac.mp hp with hp|hp
  .obtain⟨e,hf,he,hek⟩:=IK (KJ (Kn hx).1);have hg:FX G x.1=some e.2:=by unfold FX;rw[hf];rfl
   have hlt:(z-x.2.1) / AX G l x.2.2<e.2.length:=by unfold DO at h3;rw[hg] at h3;exact h3
   rw[hg] at hp;have:p∈e.2:=by rw[hp];simp[hlt]
   exact(K.snd e he p this).1
  .exact ih.2 p hp
theorem AA2{a b:Str}(h:a.cps.toList=b.cps.toList):a=b:=by obtain⟨x⟩:=a;obtain⟨y⟩:=b;have:x=y:=Array.toList_inj.mp h;rw[this]
theorem ABB{a:Str}{n:Nat}(h:n<=a.length):(Txt.slice a (some (n:Int)) none).cps.toList=a.cps.toList.drop n:=by
 have e0:Builtin.Str.strSliceIndices (some (n:Int)) none 1 a.length=Builtin.Str.strSliceIndices (some (n:Int)) (some (a.length:Int)) 1 a.length:=by
  unfold Builtin.Str.strSliceIndices;simp only[show((1:Int)>0)=True from by simp,if_true];rw[if_neg (by omega)]
  congr 1
  omega
 have e1:=StrLaws.sliced_plain a h (Ai _);have hl:(a.cps.toList.drop n).take (a.length-n)=a.cps.toList.drop n:=AJO (by rw[List.length_drop];exact Ai _);rw[hl,<-e0] at e1;unfold Txt.slice;split
 .rename_i hc;rw[CA] at hc;have h2:=eq_of_beq hc.2;rw[e0,StrLaws.strSliceIndices_plain h (Ai _),Ao,AJq] at h2
  by_cases hz:a.length=0
  .have:a.cps.toList=[]:=AJN.mp hz;rw[this];simp
  .have:n=0:=by omega
   rw[this];rfl
 .exact e1
theorem AA4{a b:Str}(h:Txt.startswith a b=true):a.cps.toList=b.cps.toList++(Txt.slice a (some (b.length:Int)) none).cps.toList:=by
 unfold Txt.startswith at h;rw[CA] at h;have h1:b.length<=a.length:=by have:=of_decide_eq_true h.1;omega
 have h2:=h.2;rw[StrLaws.subAt_eq] at h2;have h3:=eq_of_beq h2;rw[AJL] at h3;rw[ABB h1]
 conv=>lhs;rw[<-AJn b.length a.cps.toList]
 rw[h3]
theorem AEa:∀(ys:List Str),(Txt.join "" ys).cps.toList=ys.flatMap λy=>y.cps.toList:=by
 intro ys;rw[show Txt.join "" ys=Str.join "" ys from StrLaws.glued_eq_join "" ys]
 induction ys with
 |nil=>rfl
 |cons y ys ih =>
  cases ys with
  |nil=>simp[Str.join]
  |cons z ys =>
   have e:Str.join "" (y::z::ys)=y++""++Str.join "" (z::ys):=rfl;rw[e,SY,SY,ih,AI8];have:(Str.ofString "").cps.toList=[]:=rfl;simp[this]
theorem ABe{ws ts:List Str}{G:BO}(K:IX ws ts G):∀{l z:Nat} {rest:List Str},z<AX G (l+1) rest->rest.length=ts.length->∃as:List (List Str),as.length=l+1/\(∀(j:Nat) (p:D),(DA G (l+1) rest z)[j]?=some p->∃a:List Str,as[j]?=some a/\OU ws ts a p)/\∀i,i<ts.length->(as.flatMap λa=>(a.getD i "").cps.toList)=(rest.getD i "").cps.toList:=by
 have one:∀{l z:Nat} {rest:List Str},z<AX G (l+1) rest->∃x∈Fw G l rest,FZ z none (Fw G l rest)=some x/\(z-x.2.1) % AX G l x.2.2<AX G l x.2.2/\∃p,DA G (l+1) rest z=p::DA G l x.2.2 ((z-x.2.1) % AX G l x.2.2)/\OU ws ts x.1 p:=by
  intro l z rest hz;obtain⟨x,hx,h1,h2,h3,h4⟩:=Qz K.pos hz;obtain⟨e,hf,he,hek⟩:=IK (KJ (Kn hx).1);have hg:FX G x.1=some e.2:=by unfold FX;rw[hf];rfl
  have hlt:(z-x.2.1) / AX G l x.2.2<e.2.length:=by unfold DO at h3;rw[hg] at h3;exact h3
  have hr:DA G (l+1) rest z=(((FX G x.1).getD [])[(z-x.2.1) / AX G l x.2.2]?.getD .non)::DA G l x.2.2 ((z-x.2.1) % AX G l x.2.2):=by
   conv=>lhs;unfold DA
   rw[h1]
  refine⟨x,hx,h1,h4,_,hr,?_⟩;rw[hg];have hm:(((some e.2).getD [])[(z-x.2.1) / AX G l x.2.2]?).getD .non∈e.2:=by simp[hlt]
  have:=K.snd e he _ hm;rw[hek] at this;exact this
 intro l
 induction l with
 |zero =>
  intro z rest hz hr;obtain⟨x,hx,h1,h4,p,hp,hs⟩:=one hz;have hm:=Kn hx
  have hxr:x.1=rest:=by
   have:=hm.1;unfold Bd at this;rw[if_pos rfl] at this;split at this
   .simpa using this
   .cases this
  refine⟨[x.1],rfl,λj q hq=>?_,λi hi=>?_⟩
  .rw[hp] at hq
   cases j with
   |zero =>
    have e:p=q:=by simpa using hq
    exact⟨x.1,rfl,e▸hs⟩
   |succ j=>simp[DA] at hq
  .rw[hxr];simp
 |succ l ih =>
  intro z rest hz hr;obtain⟨x,hx,h1,h4,p,hp,hs⟩:=one hz;have hm:=Kn hx;have hbl:=YQ hm.2.1;obtain⟨as,ha1,ha2,ha3⟩:=ih h4 (hbl.trans hr);refine⟨x.1::as,by simp[ha1],λj q hq=>?_,λi hi=>?_⟩
  .rw[hp] at hq
   cases j with
   |zero =>
    have e:p=q:=by simpa using hq
    exact⟨x.1,rfl,e▸hs⟩
   |succ j =>
    obtain⟨a,h5,h6⟩:=ha2 j q (by simpa using hq);exact⟨a,by simpa using h5,h6⟩
  .rw[AI8,ha3 i hi];have hb:=hm.2.1;unfold EI at hb;split at hb
   .rename_i hall;have hs:=De.mp hall i (Dd.mpr (by omega));have hb':=Option.some.inj hb;rw[<-hb']
    have e5:(IQ rest x.1 rest.length).getD i ""=Txt.slice (rest.getD i "") (some ((x.1.getD i "").length:Int)) none:=by unfold IQ;simp[show i<rest.length by omega]
    rw[e5];exact(AA4 hs).symm
   .cases hb
theorem ABf{ws ts wd:List Str}{G:BO}(K:IX ws ts G){l z:Nat}(hz:z<AX G (l+1) wd)(hw:wd.length=ts.length){i:Nat}(hi:i<ts.length):GR (ts.getD i "") (DA G (l+1) wd z)=.str (wd.getD i ""):=by
 obtain⟨as,ha1,ha2,ha3⟩:=ABe K hz hw;have hlen:=(NL K hz).1
 have e1:(DA G (l+1) wd z).map (DQ (ts.getD i ""))=(as.map λa=>a.getD i "").map D.str:=by
  apply AJT;intro j;rw[BD,BD,BD]
  cases hp:(DA G (l+1) wd z)[j]? with
  |none =>
   have:as[j]?=none:=by rw[AJ3] at hp ⊢;omega
   rw[this];rfl
  |some p =>
   obtain⟨a,h1,h2⟩:=ha2 j p hp;rw[h1];simp only[AJY];rw[h2.2.2 i hi]
 have e2:∀ys:List Str,CS (ys.map D.str)=some ys:=λys=>by
  induction ys with
  |nil=>rfl
  |cons y ys ih=>rw[Ap];simp only[CS,ih];rfl
 unfold GR;rw[e1,e2];simp only
 congr 1
 apply AA2;rw[AEa,<-ha3 i hi,List.flatMap_map]
section
variable {G:BO}{X:List Nat}{L:AD}{t g m nd nn rt:Nat}{W:D}{es:List (List Str×Nat×List D)}{sp:List (Nat×List Str)}{rs:List (Nat×Nat)}{mk:List ((Nat×List Str)×Nat)}{Q:AKQ}
theorem Bv.ways(T:Bv G X L t g m nd nn rt W es sp rs mk){k l:Nat}{rest:List Str}(h:Es G sp k (l+1) rest):∃r a,rs[k]?=some (r,a)/\L[r]?=some (.ins "Node" [("ways",.int (AX G (l+1) rest:Int)),("arms",.ref a)]):=by
 by_cases h1:k=1
 .subst h1;have hw:=h.one.mp rfl;have hlt:1<rs.length:=by rw[T.len];omega
  obtain⟨ep,n⟩:=T.nod 1 rs[1].1 rs[1].2 (by simp[hlt]);exact⟨rs[1].1,rs[1].2,by simp[hlt],by rw[hw];exact n.1⟩
 .obtain⟨r,a,kvs,ep,e,n,_⟩:=T.node h h1;exact⟨r,a,e,n.1⟩
theorem AC9{α β:Type}{R:α->β->Prop}{xs:List α}{ys:List β}(h:Paired R xs ys):∀{i:Nat} {y:β},ys[i]?=some y->∃x,xs[i]?=some x/\R x y:=by
 induction h with
 |nil=>intro i y e;simp at e
 |cons r _ ih =>
  intro i y e
  cases i with
  |zero=>simp at e;subst e;exact⟨_,rfl,r⟩
  |succ i=>obtain⟨x,h1,h2⟩:=ih (i:=i) (y:=y) (by simpa using e);exact⟨x,by simpa using h1,h2⟩
theorem AC8{α β:Type}{R:α->β->Prop}{xs:List α}{ys:List β}(h:Paired R xs ys):∀{i:Nat} {x:α},xs[i]?=some x->∃y,ys[i]?=some y/\R x y:=by
 induction h with
 |nil=>intro i y e;simp at e
 |cons r _ ih =>
  intro i y e
  cases i with
  |zero=>simp at e;subst e;exact⟨_,rfl,r⟩
  |succ i=>obtain⟨x,h1,h2⟩:=ih (i:=i) (x:=y) (by simpa using e);exact⟨x,by simpa using h1,h2⟩
def ON:Option En->D
 |none=>.non
 |some x=>Au x.1
theorem YY(o:Option En):(ON o).noRef=true:=by
 cases o with
 |none=>rfl
 |some x=>exact Ud _
theorem AGY{r a ep l z:Nat}{w:Int}{kvs:List (NK×D)}{arms:List En}(hn:Em L r w a kvs ep)(pA:Paired (GC G sp l) arms kvs)(h:Q (ON (FZ z none arms)) L):W2 (zc2 [.ref r,.int (z:Int)] L) Q:=by
 unfold zc2;refine Ci rfl ?_;unfold Op;have n1:=hn.1;have n2:=hn.2;rfl';refine DU (λj ρ L'=>L'=L/\∃o e3 e4,FZ z o (arms.drop j)=FZ z none arms/\ρ=[some (.ref r),some (.int (z:Int)),some (ON o),e3,e4]) _ 0 _ _ ⟨rfl,none,none,none,by rw[AJL],rfl⟩ ?_ ?_
 .rintro i x ρ L' hx ⟨rfl,o,e3,e4,ho,rfl⟩;refine⟨decide_eq_true n2,?_⟩;unfold Gr at hx;rw[BD] at hx
  cases hkv:kvs[i]? with
  |none=>rw[hkv] at hx;cases hx
  |some kv =>
  rw[hkv] at hx;cases hx;obtain⟨y,hy,num,rfl,_⟩:=AC9 pA hkv;dsimp only;rw[Et.nk]
  have hdr:arms.drop (0+i)=y::arms.drop (0+i+1):=by rw[Ca];exact(List.getElem_cons_drop (h:=(BQ.mp hy).1)).symm.trans (by rw[(BQ.mp hy).2])
  have hstep:FZ z o (y::arms.drop (0+i+1))=if z<y.2.1 then o else FZ z (some y) (arms.drop (0+i+1)):=rfl
  rw[hdr,hstep] at ho;rfl';refine Bm (λhgt=>?_) (λhgt=>?_)
  .rw[if_pos (by omega)] at ho;rfl';rw[ho];exact⟨YY _,As _,h⟩
  .rw[if_neg (by omega)] at ho;rfl';exact⟨rfl,some y,_,_,ho,rfl⟩
 .rintro ρ L' ⟨rfl,o,e3,e4,ho,rfl⟩;refine⟨decide_eq_true n2,?_⟩
  have hl:kvs.length=arms.length:=by have:=congrArg List.length (OM pA);rw[Ao,Ao] at this;exact this
  have e5:(Gr kvs).length=arms.length:=by unfold Gr;rw[Ao,hl]
  rw[e5,Ca,AJl] at ho;have ho':o=FZ z none arms:=ho;rfl';rw[ho'];exact⟨YY _,As _,h⟩
theorem RA{ws ts:List Str}(K:IX ws ts G)(T:Bv G X L t g m nd nn rt W es sp rs mk){k l z:Nat}{rest:List Str}(hk:Es G sp k l rest)(hl3:l<=3)(hz:z<AX G l rest)(hrow:(D.tup (DA G l rest z)).noRef=true)(h:Q (.tup (DA G l rest z)) L):W2 (zh [.ref t,.int (k:Int),.int (z:Int)] L) Q:=by
 unfold zh;refine Ci rfl ?_;unfold Og;have ht:=T.t_;have hnd:=T.nd_;obtain⟨epg,hg⟩:=T.g_.at_
 have notone:∀{k' l' z':Nat} {rest':List Str},Es G sp k' l' rest'->z'<AX G l' rest'->k'≠1:=λh1 h2 e=>by
  have:=h1.one.mp e;omega
 rfl';obtain⟨r1,a1,kv1,ep1,hr1,n1,_,_⟩:=T.node hk (notone hk hz);refine EY (d:=.ref r1) (Al hnd) (FL (by rw[BD,hr1];rfl)) ?_;rfl';refine Zs (λj ρ L'=>j<=3/\∃(acc:List D) (z' k' r:Nat) (rest':List Str) (a':Nat) (e1 e2 e3 e4:Option D),L'=L++[.lst acc]/\Es G sp k' j rest'/\rs[k']?=some (r,a')/\z'<AX G j rest'/\acc++DA G j rest' z'=DA G l rest z/\acc.length+j<=3/\ρ=[some (.ref t),some (.int (k:Int)),some (.int (z':Int)),some (.ref L.length),some (.ref r),e1,e2,e3,e4]) (n:=l) (by omega) ⟨hl3,[],z,k,r1,rest,a1,none,none,none,none,rfl,hk,hr1,hz,rfl,by simpa using hl3,rfl⟩ ?_;rintro j ρ L' ⟨hj3,acc,z',k',r,rest',a',e1,e2,e3,e4,rfl,hnk,hrk,hzk,hacc,hal,rfl⟩;obtain⟨r',a'',kvs,ep',hr',n',hn0,hnS⟩:=T.node hnk (notone hnk hzk);rw[hrk] at hr';cases hr';have n'a:(L++[Ob.lst acc])[r]?=_:=Al n'.1;have n'b:(L++[Ob.lst acc])[a']?=_:=Al n'.2;have ht':(L++[Ob.lst acc])[t]?=_:=Al ht
 cases j with
 |zero =>
  rw[hn0 rfl] at n'b;have n'c:(L++[Ob.lst acc])[a']?=some (.dt [] ep'):=n'b;rfl';have ea:acc=DA G l rest z:=by simpa[DA] using hacc
  rw[ea];exact⟨hrow,BB _ _,h⟩
 |succ j =>
  have pA:=hnS j rfl;obtain⟨x,hx,hf,hle,hdv,hmd⟩:=Qz K.pos hzk;have hxm:=Kn hx;obtain⟨i,hi⟩:=AJ5 hx;obtain⟨y,hy,num,rfl,hnum⟩:=AC8 pA hi;have hlen:0<kvs.length:=by have:=(BQ.mp hy).1;omega
  have hknd:(kvs.map (·.1)).Nodup:=by rw[OM pA];have h1:((Fw G j rest').map (·.1)).Nodup:=List.Sublist.nodup (SW G j rest' (Bd G (j+1) rest')) (UN K.nd _ _);unfold List.Nodup at h1 ⊢;rw[List.pairwise_map] at h1 ⊢;exact h1.imp λhne e=>hne (Et.kf e)
  have hlk:=AEG hknd hy;rfl';refine AGY (z:=z') ⟨n'a,n'b⟩ pA ?_;rw[hf];show WS _ _ _ _ _;have eD:ON (some x)=Au x.1:=rfl;rw[eD];rfl';refine Jd (kk:=BL (Au x.1)) n'b (Et.key _) hlk ?_;rfl';obtain⟨r2,a2,kv2,ep2,hr2,n2,_,_⟩:=T.node hnum (notone hnum hmd);have n2a:(L++[Ob.lst acc])[r2]?=_:=Al n2.1;refine EY (d:=.ref r2) (Al hnd) (FL (by rw[BD,hr2];rfl)) ?_;rfl';obtain⟨ds,hds,hsz⟩:=XC (KJ hxm.1);obtain⟨q,hq1,hq2⟩:=T.g_.get Et (k:=x.1) (ds:=ds) (by rw[T.gc];exact hds);refine Jd (kk:=BL (Au x.1)) (Al hg) (Et.key _) hq1 ?_;rfl';have hwb:=Zz K (l:=j) (by omega) x.2.2;have hwp:0<AX G j x.2.2:=Nat.pos_of_ne_zero hxm.2.2;generalize hN:AX G j x.2.2=N at *;refine AE7 (by unfold Ly;rw[CA];exact⟨decide_eq_true (by omega),decide_eq_true (by omega)⟩) ?_;have es0:(z':Int)-(x.2.1:Int)=((z'-x.2.1:Nat):Int):=by omega
  have e0:((z'-x.2.1:Nat):Int) / (N:Int)=(((z'-x.2.1) / N:Nat):Int):=by push_cast;rfl
  have e1':((z'-x.2.1:Nat):Int) % (N:Int)=(((z'-x.2.1) % N:Nat):Int):=by push_cast;rfl
  rw[es0,e0];rw[hsz] at hdv;refine EY (d:=ds[(z'-x.2.1) / N]?.getD .non) (Al hq2) (FL (by simp[hdv])) ?_;rfl';refine ID Aq (by omega) ?_;have es1:(L++[Ob.lst acc]).set L.length (.lst (acc++[ds[(z'-x.2.1) / N]?.getD .non]))=L++[Ob.lst (acc++[ds[(z'-x.2.1) / N]?.getD .non])]:=by simp
  rw[es1];have n3a:(L++[Ob.lst (acc++[ds[(z'-x.2.1) / N]?.getD .non])])[r2]?=some (.ins "Node" [("ways",.int (N:Int)),("arms",.ref a2)]):=Al n2.1;rfl';rw[e1'];refine⟨j,by omega,by omega,acc++[ds[(z'-x.2.1) / N]?.getD .non],(z'-x.2.1) % N,num,r2,x.2.2,a2,_,_,_,_,rfl,hnum,hr2,by rw[hN];exact hmd,?_,by simp;omega,rfl⟩;rw[<-hacc,AJb]
  congr 1
  conv=>rhs;unfold DA
  rw[hf];simp only;rw[hds,hN];rfl
end
def DX(G:BO)(wd:List Str):Nat:=AX G 1 wd+AX G 2 wd+AX G 3 wd
def KP(G:BO)(wd:List Str)(z:Nat):List D:=if z<AX G 1 wd then DA G 1 wd z else if z-AX G 1 wd<AX G 2 wd then DA G 2 wd (z-AX G 1 wd) else DA G 3 wd (z-AX G 1 wd-AX G 2 wd)
section
variable {L:AD}{t:Nat}{ws ts wd:List Str}{G:BO}{Q:AKQ}
theorem WC(T:IV L t ws G wd)(h:Q (.int (DX G wd:Int)) L):W2 (zf1 [.ref t] L) Q:=by
 obtain⟨g,m,nd,nn,rt,es,sp,rs,mk,ks,T,hm,hr,hk3,hkn⟩:=T;unfold zf1;refine Ci rfl ?_;unfold Ox;have ht:=T.t_;rfl';refine Hr (I:=λj ρ L'=>(∃e,ρ=[e,some (.ref t)])/\L'=L++[.lst ((List.range j).map λi=>D.int (AX G (i+1) wd:Int))]) _ 0 _ _ ⟨⟨_,rfl⟩,rfl⟩ ?_ ?_
 .rintro i x ρ L' hx ⟨⟨e,rfl⟩,rfl⟩;refine⟨decide_eq_true (Al hr),?_⟩;rw[BD] at hx
  cases hse:ks[i]? with
  |none=>rw[hse] at hx;cases hx
  |some k =>
  rw[hse] at hx;cases hx;have hi:i<3:=by rw[<-hk3];exact(BQ.mp hse).1
  obtain⟨r,a,h1,h2⟩:=T.ways (hkn i k hse);have ht':(L++[Ob.lst ((List.range (0+i)).map λi=>D.int (AX G (i+1) wd:Int))])[t]?=_:=Al ht;have h2':(L++[Ob.lst ((List.range (0+i)).map λi=>D.int (AX G (i+1) wd:Int))])[r]?=_:=Al h2;rfl';refine EY (d:=.ref r) (Al T.nd_) (FL (by rw[BD,h1];rfl)) ?_;rfl';refine⟨_,Aq,by simp;omega,⟨_,rfl⟩,?_⟩;rw[AJr,Eo,Ca];simp
 .rintro ρ L' ⟨⟨e,rfl⟩,rfl⟩;refine⟨decide_eq_true (Al hr),?_⟩;have e3:(0+(ks.map λ(k:Nat)=>D.int (k:Int)).length)=3:=by rw[Ao,hk3]
  rw[e3];have e4:((List.range 3).map λi=>D.int (AX G (i+1) wd:Int))=[.int (AX G 1 wd:Int),.int (AX G 2 wd:Int),.int (AX G 3 wd:Int)]:=rfl;rw[e4];rfl';refine AE0 Aq rfl ?_;refine⟨rfl,BB _ _,?_⟩
  have e5:([(AX G 1 wd:Int),(AX G 2 wd:Int),(AX G 3 wd:Int)]:List Int).sum=(DX G wd:Int):=by unfold DX;simp only[GJ,List.sum_nil];omega
  rw[e5];exact h
theorem KO(K:IX ws ts G)(hw:HG ws){l z:Nat}{rest:List Str}(hz:z<AX G l rest):(D.tup (DA G l rest z)).noRef=true:=RY λp hp=>(((NL K hz).2 p hp).piece hw).noRef
theorem ABk(K:IX ws ts G)(hw:HG ws)(T:IV L t ws G wd){z:Nat}(hz:z<DX G wd)(h:Q (.tup (KP G wd z)) L):W2 (zf [.ref t,.int (z:Int)] L) Q:=by
 obtain⟨g,m,nd,nn,rt,es,sp,rs,mk,ks,T,hm,hr,hk3,hkn⟩:=T
 match ks,hk3 with
 |[k1,k2,k3],_ =>
 have hr':L[rt]?=some (.lst [.int (k1:Int),.int (k2:Int),.int (k3:Int)]):=hr;have n1:=hkn 0 k1 rfl;have n2:=hkn 1 k2 rfl;have n3:=hkn 2 k3 rfl;obtain⟨r1,a1,hr1,w1'⟩:=T.ways n1;have w1:L[r1]?=some (.ins "Node" [("ways",.int (AX G 1 wd:Int)),("arms",.ref a1)]):=w1';obtain⟨r2,a2,hr2,w2'⟩:=T.ways n2;have w2:L[r2]?=some (.ins "Node" [("ways",.int (AX G 2 wd:Int)),("arms",.ref a2)]):=w2';obtain⟨r3,a3,hr3,w3'⟩:=T.ways n3;have w3:L[r3]?=some (.ins "Node" [("ways",.int (AX G 3 wd:Int)),("arms",.ref a3)]):=w3';unfold zf;refine Ci rfl ?_;unfold LC;have ht:=T.t_;have hnd:=T.nd_;unfold DX at hz;unfold KP at h;rfl';refine Gm (decide_eq_true hr') ?_;rfl';refine EY (d:=.ref r1) hnd (FL (by rw[BD,hr1];rfl)) ?_;rfl';refine Bm (λh1=>?_) (λh1=>?_)
 .have h1':z<AX G 1 wd:=by omega
  rw[if_pos h1'] at h;rfl';refine RA K T n1 (by decide) h1' (KO K hw h1') ?_;exact⟨KO K hw h1',As _,h⟩
 .have h1':¬z<AX G 1 wd:=by omega
  rw[if_neg h1'] at h;have e1:(z:Int)-(AX G 1 wd:Int)=((z-AX G 1 wd:Nat):Int):=by omega
  rfl';refine Gm (decide_eq_true hr') ?_;rfl';refine EY (d:=.ref r2) hnd (FL (by rw[BD,hr2];rfl)) ?_;rfl';rw[e1];refine Bm (λh2=>?_) (λh2=>?_)
  .have h2':z-AX G 1 wd<AX G 2 wd:=by omega
   rw[if_pos h2'] at h;rfl';refine RA K T n2 (by decide) h2' (KO K hw h2') ?_;exact⟨KO K hw h2',As _,h⟩
  .have h2':¬z-AX G 1 wd<AX G 2 wd:=by omega
   have h3':z-AX G 1 wd-AX G 2 wd<AX G 3 wd:=by omega
   rw[if_neg h2'] at h;have e2:((z-AX G 1 wd:Nat):Int)-(AX G 2 wd:Int)=((z-AX G 1 wd-AX G 2 wd:Nat):Int):=by omega
   rfl';refine Gm (decide_eq_true hr') ?_;rfl';refine EY (d:=.ref r3) hnd (FL (by rw[BD,hr3];rfl)) ?_;rfl';rw[e2];refine RA K T n3 (by decide) h3' (KO K hw h3') ?_;exact⟨KO K hw h3',As _,h⟩
theorem ABj(T:IV L t ws G wd){z:Int}(hz:z<0\/(DX G wd:Int)<=z):zf [.ref t,.int z] L=none/\za1 [.ref t,.int z] L=some (("NoNumber":Str),L):=by
 obtain⟨g,m,nd,nn,rt,es,sp,rs,mk,ks,T,hm,hr,hk3,hkn⟩:=T
 match ks,hk3 with
 |[k1,k2,k3],_ =>
 have hr':L[rt]?=some (.lst [.int (k1:Int),.int (k2:Int),.int (k3:Int)]):=hr;obtain⟨r1,a1,hr1,w1'⟩:=T.ways (hkn 0 k1 rfl);have w1:L[r1]?=some (.ins "Node" [("ways",.int (AX G 1 wd:Int)),("arms",.ref a1)]):=w1';obtain⟨r2,a2,hr2,w2'⟩:=T.ways (hkn 1 k2 rfl);have w2:L[r2]?=some (.ins "Node" [("ways",.int (AX G 2 wd:Int)),("arms",.ref a2)]):=w2';obtain⟨r3,a3,hr3,w3'⟩:=T.ways (hkn 2 k3 rfl);have w3:L[r3]?=some (.ins "Node" [("ways",.int (AX G 3 wd:Int)),("arms",.ref a3)]):=w3';have ht:=T.t_;have hnd:=T.nd_;unfold DX at hz;unfold zf za1 LC Qg
 by_cases h0:z<0
 .have e0:AW (AG gLt (AA 1) (AE (.int 0))) (DP zw [.ref t,.int z]) L=some (true,L):=by
   have:W2 (AW (AG gLt (AA 1) (AE (.int 0))) (DP zw [.ref t,.int z]) L) λb L'=>b=true/\L'=L:=by rfl';exact⟨by rw[decide_eq_true h0],rfl⟩
   obtain⟨b,L',e,rfl,rfl⟩:=this;exact e
  generalize AW (AG gLt (AA 1) (AE (.int 0)))=F at e0;constructor
  .simp[Ax,AN,An,e0,JU]
  .simp[KN,KL,La,e0,LL]
 .have e0:AW (AG gLt (AA 1) (AE (.int 0))) (DP zw [.ref t,.int z]) L=some (false,L):=by
   have:W2 (AW (AG gLt (AA 1) (AE (.int 0))) (DP zw [.ref t,.int z]) L) λb L'=>b=false/\L'=L:=by rfl';exact⟨by rw[decide_eq_false h0],rfl⟩
   obtain⟨b,L',e,rfl,rfl⟩:=this;exact e
  generalize hF:CG (CB (BU (Bn ["Table"] "roots") (AA 0))) (Av 2) (AN (AY 3 (BU (Bn ["Node"] "ways") (AG Ak (BU (Bn ["Table"] "nodes") (AA 0)) (AA 2)))) (AN (An (AW (AG gLt (AA 1) (AA 3))) (Ag (AT zh (AB (AA 0) (AB (AA 2) (AB (AA 1) AJ))))) Az) (Jo 1 (λi j=>i-j) (AA 3))))=Fo
  have e1:∃ρ,Fo (DP zw [.ref t,.int z]) L=some (.next ρ L):=by
   have:WS (Fo (DP zw [.ref t,.int z]) L) (λ_ L'=>L'=L) (λ_ _=>False) (λ_ _=>False) (λ_ _=>False):=by rw[<-hF];rfl';refine Gm (decide_eq_true hr') ?_;rfl';refine EY (d:=.ref r1) hnd (FL (by rw[BD,hr1];rfl)) ?_;rfl';refine Gm (decide_eq_true hr') ?_;rfl';refine EY (d:=.ref r2) hnd (FL (by rw[BD,hr2];rfl)) ?_;rfl';refine Gm (decide_eq_true hr') ?_;rfl';refine EY (d:=.ref r3) hnd (FL (by rw[BD,hr3];rfl)) ?_;rfl';refine Qk (decide_eq_true hr') ?_;rfl
   obtain⟨o,e,q⟩:=this
   cases o with
   |next ρ L'=>exact⟨ρ,by rw[e];exact congrArg (λx=>some (Fi.next ρ x)) q⟩
   |ret d L'=>exact q.elim
   |brk ρ L'=>exact q.elim
   |cont ρ L'=>exact q.elim
  obtain⟨ρ,e1⟩:=e1;generalize AW (AG gLt (AA 1) (AE (.int 0)))=F at e0;constructor
  .simp[Ax,AN,An,e0,Az,e1,JU]
  .simp[KN,KL,La,An,e0,Az,LU,e1,LL]
theorem NN(T:IV L t ws G wd){z:Int}(hz:z<0\/(DX G wd:Int)<=z)(h:Q (.bl true) L):W2 (zx [.ref t,.int z] L) Q:=by
 obtain⟨e1,e2⟩:=ABj T hz;unfold zx;refine Ci rfl ?_
 have eq:Lm (.ref (L.length+1)) (.ref (L.length+2)) (L++[.exn "NoNumber",.lst [.bl true,.bl false],.lst [.bl true,.bl false]])=some (.bl true,L++[.exn "NoNumber",.lst [.bl true,.bl false],.lst [.bl true,.bl false]]):=by
  generalize hM:L++[Ob.exn "NoNumber",.lst [.bl true,.bl false],.lst [.bl true,.bl false]]=M;have s1:DG (.ref (L.length+1)) M=some (false,[.bl true,.bl false]):=by simp[DG,<-hM]
  have s2:DG (.ref (L.length+2)) M=some (false,[.bl true,.bl false]):=by simp[DG,<-hM]
  have e3:Dk 30 M (.ref (L.length+1)) (.ref (L.length+2))=some true:=by rw[SH,s1,s2];rfl
  unfold Lm;rw[if_neg (by simp[GQ,BR]),if_pos (by simp[Ih,s1,s2]),e3];rfl
 have:Mq zf za1 (DP LB [.ref t,.int z]) L=some (.ret (.bl true) (L++[.exn "NoNumber",.lst [.bl true,.bl false],.lst [.bl true,.bl false]])):=by simp[Mq,LB,DP,AN,AY,AE,Mx,My,AB,AJ,AA,e1,e2,only,XA,An,AW,Ja,JR,Ag,Az,IS,Bt,AG,eq]
 exact WS.irt this ⟨rfl,BB _ _,h⟩
end
theorem ABi{ws:List Str}{exs:FQ}(hl:ws.length<=6){z:Nat}(hz:z<DX (Dj ws ((CT exs).map (·.1)) ((CT exs).map (·.2))) ((CT exs).map (·.2))) :
  OV ws (KP (Dj ws ((CT exs).map (·.1)) ((CT exs).map (·.2))) ((CT exs).map (·.2)) z)/\Jf (KP (Dj ws ((CT exs).map (·.1)) ((CT exs).map (·.2))) ((CT exs).map (·.2)) z) exs=true:=by
 generalize hts:(CT exs).map (·.1)=ts at *;generalize hwd:(CT exs).map (·.2)=wd at *;have K:=Ww hl ts wd;generalize Dj ws ts wd=G at *;have hlen:wd.length=ts.length:=by rw[<-hts,<-hwd,Ao,Ao]
 have go:∃l z',l<3/\z'<AX G (l+1) wd/\KP G wd z=DA G (l+1) wd z':=by
  unfold DX at hz;unfold KP
  by_cases h1:z<AX G 1 wd
  .rw[if_pos h1];exact⟨0,z,by decide,h1,rfl⟩
  .rw[if_neg h1]
   by_cases h2:z-AX G 1 wd<AX G 2 wd
   .rw[if_pos h2];exact⟨1,_,by decide,h2,rfl⟩
   .rw[if_neg h2];exact⟨2,z-AX G 1 wd-AX G 2 wd,by decide,by show _<AX G 3 wd;omega,rfl⟩
 obtain⟨l,z',hl3,hz',e⟩:=go;rw[e];have hm:=NL K hz';refine⟨⟨hm.2,by rw[hm.1];omega,by rw[hm.1];omega⟩,?_⟩;unfold Jf;rw[De];intro x hx;obtain⟨i,hi⟩:=AJ5 ((Qu exs).mem_iff.mpr hx);have hi1:i<(CT exs).length:=(BQ.mp hi).1;have e1:ts.getD i ""=x.1:=by rw[<-hts];simp[hi]
 have e2:wd.getD i ""=x.2:=by rw[<-hwd];simp[hi]
 have:=ABf K hz' hlen (i:=i) (by rw[<-hts,Ao];exact hi1);rw[e1,e2] at this;exact decide_eq_true this
theorem AEP(ns:List Int)(hn:ns.length<=63)(hb:∀z∈ns,Builtin.Int.intBits z<=1048576):W2 (Jz [.fz (ns.map .int)] []) λd _=>d=.bl true:=by
 unfold Jz;refine Ci rfl ?_;unfold QB;refine CQ (λρ L'=>∃ws exs ps kw ke,HG ws/\IY exs/\exs.length<=6/\L'[kw]?=some (.lst (ws.map D.str))/\L'[ke]?=some (.lst (exs.map Bo))/\ρ=[some (.fz (ns.map .int)),some (.ref kw),some (.tup ps),some (.ref ke),none,none,none,none]) ?_ ?_
 .rfl';refine AD5 hb hn λws ps exs L' kw ke kk h1 h2 h3 h4 h5 h6 h7 h8 h9=>?_;rfl';exact⟨ws,exs,ps,kw,ke,h1,h3,h5,h7,h8,rfl⟩
 rintro ρ L1 ⟨ws,exs0,ps,kw,ke0,hw,hx0,hxl0,hkw1,hke0,rfl⟩;refine CQ (λρ L'=>∃exs ke,IY exs/\exs.length<=6/\L'[kw]?=some (.lst (ws.map D.str))/\L'[ke]?=some (.lst (exs.map Bo))/\ρ=[some (.fz (ns.map .int)),some (.ref kw),some (.tup ps),some (.ref ke),none,none,none,none]) ?_ ?_
 .rfl';refine Hi hb hn (by decide) (by decide) λc _ _=>?_;rfl';refine Bm (λh=>?_) (λh=>?_)
  .rfl';exact⟨[],_,(λ_ h=>(nomatch h)),by simp,Al hkw1,Aq,rfl⟩
  .rfl';exact⟨exs0,ke0,hx0,hxl0,hkw1,hke0,rfl⟩
 rintro ρ L2 ⟨exs,ke,hx,hxl,hkw2,hke2,rfl⟩;have hfit:=λ{z:Nat} hz=>ABi (ws:=ws) (exs:=exs) hw.2.2 (z:=z) hz;have K:=Ww hw.2.2 ((CT exs).map (·.1)) ((CT exs).map (·.2));refine CQ (λρ L'=>∃t,L2 <+: L'/\IV L' t ws (Dj ws ((CT exs).map (·.1)) ((CT exs).map (·.2))) ((CT exs).map (·.2))/\ρ=[some (.fz (ns.map .int)),some (.ref kw),some (.tup ps),some (.ref ke),some (.ref t),none,none,none]) ?_ ?_
 .rfl';refine AAY hkw2 hw.2.2 hke2 hx (by omega) λL3 t hp T=>?_;exact⟨t,hp,T,rfl⟩
 generalize (CT exs).map (·.1)=ts at *;generalize (CT exs).map (·.2)=wd at *;generalize Dj ws ts wd=G at *;rintro ρ L3 ⟨t,hp3,T3,rfl⟩;have hkw3:=Dh hp3 hkw2;have hke3:=Dh hp3 hke2;refine CQ (λρ L'=>L'=L3/\ρ=[some (.fz (ns.map .int)),some (.ref kw),some (.tup ps),some (.ref ke),some (.ref t),some (.int (DX G wd:Int)),none,none]) ?_ ?_
 .rfl';refine WC T3 ?_;exact⟨rfl,rfl⟩
 rintro ρ L4 ⟨rfl,rfl⟩;refine CQ (λρ L'=>L4 <+: L'/\∃far:Int,0<=far/\ρ=[some (.fz (ns.map .int)),some (.ref kw),some (.tup ps),some (.ref ke),some (.ref t),some (.int (DX G wd:Int)),some (.int far),none]) ?_ ?_
 .rfl';refine Hi hb hn (by decide) (by decide) λc1 h1 _=>?_;rfl';refine Hi hb hn (by decide) (by decide) λc2 h2 _=>?_;rfl';refine Hi hb hn (by decide) (by decide) λc3 h3 _=>?_;rfl';refine Gu _ Aq (by decide) (show(3:Int)<=((3:Nat):Int) from by decide) λd hd=>?_;refine⟨BB _ _,?_⟩;simp only[Ac,EN,or_false] at hd;rcases hd with rfl|rfl|rfl
  .exact⟨0,by decide,rfl⟩
  .exact⟨_,by omega,rfl⟩
  .exact⟨_,by omega,rfl⟩
 rintro ρ L5 ⟨hp5,far,hfar,rfl⟩;have T5:=T3.pre hp5;have hkw5:=Dh hp5 hkw3;have hke5:=Dh hp5 hke3;refine CQ (λρ L'=>L'=L5/\ρ=[some (.fz (ns.map .int)),some (.ref kw),some (.tup ps),some (.ref ke),some (.ref t),some (.int (DX G wd:Int)),some (.int far),none]) ?_ ?_
 .rfl';refine NN T5 (.inr (by omega)) ?_;rfl';refine NN T5 (.inl (by omega)) ?_;rfl';refine NN T5 (.inr (by omega)) ?_;rfl';exact⟨rfl,rfl⟩
 rintro ρ L6 ⟨rfl,rfl⟩;refine CQ (λρ L'=>L6 <+: L'/\∃e,ρ=[some (.fz (ns.map .int)),some (.ref kw),some (.tup ps),some (.ref ke),some (.ref t),some (.int (DX G wd:Int)),some (.int far),e]) ?_ ?_
 .rfl';refine Bm (λhpos=>?_) (λhpos=>?_)
  .rfl';have hit:(L6++[Ob.lst [D.int 0,.int ((DX G wd:Int)-1)]])[L6.length]?=some (.lst [D.int 0,.int ((DX G wd:Int)-1)]):=Aq;have T7:=T5.pre (BB L6 [Ob.lst [D.int 0,.int ((DX G wd:Int)-1)]]);have hkw7:=Dh (BB L6 [Ob.lst [D.int 0,.int ((DX G wd:Int)-1)]]) hkw5;have hke7:=Dh (BB L6 [Ob.lst [D.int 0,.int ((DX G wd:Int)-1)]]) hke5;generalize hL7:L6++[Ob.lst [D.int 0,.int ((DX G wd:Int)-1)]]=L7 at *;refine DU (λj ρ L'=>L'=L7/\∃e,ρ=[some (.fz (ns.map .int)),some (.ref kw),some (.tup ps),some (.ref ke),some (.ref t),some (.int (DX G wd:Int)),some (.int far),e]) _ 0 _ _ ⟨rfl,_,rfl⟩ ?_ ?_
   .rintro i x ρ L' hx' ⟨rfl,e,rfl⟩;refine⟨decide_eq_true hit,?_⟩
    obtain⟨z,rfl,hz⟩:∃z:Nat,x=.int (z:Int)/\z<DX G wd:=by
     have hx':=CY hx';simp only[Ac,EN,or_false] at hx';rcases hx' with rfl|rfl
     .exact⟨0,rfl,by omega⟩
     .exact⟨DX G wd-1,by congr 1;omega,by omega⟩
    rfl';refine ABk K hw T7 hz ?_;rfl';refine AD9 hkw7 hke7 hw (hfit hz).1 hx ?_;rw[(hfit hz).2];rfl';exact⟨rfl,_,rfl⟩
   .rintro ρ L' ⟨rfl,e,rfl⟩;refine⟨decide_eq_true hit,?_⟩;rw[<-hL7];exact⟨BB _ _,_,rfl⟩
  .rfl';exact⟨As _,_,rfl⟩
 rintro ρ L8 ⟨hp8,e,rfl⟩;have T8:=T5.pre hp8;rfl';refine WC T8 ?_;rfl';refine NN T8 (.inr (by omega)) ?_;exact⟨rfl,List.nil_prefix,rfl⟩
theorem law_true(ns:List Int)(hn:ns.length<=63)(hb:∀z∈ns,Builtin.Int.intBits z<=1048576):∃L',Jz [.fz (ns.map .int)] []=some (.bl true,L'):=by obtain⟨d,L',e,rfl⟩:=AEP ns hn hb;exact⟨L',e⟩
end L3
set_option maxHeartbeats 8000000
namespace L3
open PySem PySem.Spec PyProof.Rows L2
local macro_rules | `(tactic| wtm_at "sc") => `(tactic| exact ⟨rfl, rfl, rfl, by decide +kernel, rfl, by decide +kernel, by decide +kernel⟩)
local macro_rules | `(tactic| wtm_at "b0") => `(tactic| (intro _ _ _ _ _ _ us hl; obtain e := L3.AEN hl; subst e; rfl))
local macro_rules | `(tactic| wtm_at "b1") => `(tactic| (intro _ _ _ _ _ _ us hl; obtain ⟨_, e⟩ := L3.WR hl; subst e; rfl))
local macro_rules | `(tactic| wtm_at "b2") => `(tactic| (intro _ _ _ _ _ _ us hl; obtain ⟨_, _, e⟩ := L3.JV hl; subst e; rfl))
local macro_rules | `(tactic| wtm_at "b3") => `(tactic| (intro _ _ _ _ _ _ us hl; obtain ⟨_, _, _, e⟩ := L3.Im hl; subst e; rfl))
local macro_rules | `(tactic| wtm_at "b4") => `(tactic| (intro _ _ _ _ _ _ us hl; obtain ⟨_, _, _, _, e⟩ := L3.AEM hl; subst e; rfl))
abbrev pW:=PySem.Challenge.pw_byexample_k33_no_number
seal AZ Ex JF Ed Du FM JH Kq Ey Kp ME Cq Fp OY MtD
def BZ:List Str:=["ValueError","abs","all","bool","enumerate","int","isinstance","len","list","min","range","sorted","str","sum","tuple","zip"]
abbrev Pu:Stmt:=Bg pW 45
theorem Tp:BP Ov ["_law_cell_here","_law_most"] (Aa Pu):=by wtm_at "sc"
section
variable {P:Program}{w:World}{K:AM}{mg:AKO}{base:Heap}{k:Nat}
theorem ZS(hb:BW mg BZ):Be P w K mg base k Ov "_law_text" Pu (Os):=by intro cdv f A outer s H E hr;have nd:=Tp.nd;exact(AO (Af nd BE) (AO (Af nd (BI (CN (AC BE (AC BE (AC BE (AC vv AK))))) (AU Bs (AU Cn vv AL) AL))) (AO (Af nd (AU Bs vv (AU DB vv AL))) (AO (Af nd (AU Cn vv AL)) (AO (Af nd BE) (AO (Cj PassesOwn.never rfl (KQ (hb.get "range") (AC vv AK)) (BC nd) (AO (Af nd (AU DB vv (BI vv (AU Bs vv (Bf DK (hb.get "len") DC (AC vv AK)))))) (AQ (Af nd (AU Cn vv (Bf DK (hb.get "len") DC (AC vv AK))))))) (AQ (Aj vv))))))))
abbrev Pq:Stmt:=Bg pW 46
theorem Tn:BP Oo ["_law_cell_here"] (Aa Pq):=by wtm_at "sc"
theorem ZQ(hb:BW mg BZ){zm:GL}(zp2:BA P w K mg base k "_law_text" zm):Be P w K mg base k Oo "_law_words" Pq (Oi zm):=by intro cdv f A outer s H E hr;have nd:=Tn.nd;exact(AO (Af nd (CN AK)) (AO (Af nd (AU Bs vv AL)) (AO (BG (Ay Co (AU Bs (AU Cn vv AL) AL) AL rfl) (AQ (Af nd (AU DB AL (AU Bs vv AL)))) BH) (AO (Af nd (AU Cn vv AL)) (AO (Cj PassesOwn.never rfl (KQ (hb.get "range") (AC vv AK)) (BC nd) (AO (Af nd (BF zp2 hr (AC vv (AC (BI (CN (AC AL (AC AL (AC AL (AC AL AK))))) (AU Bs (AU Cn vv AL) AL)) AK)))) (AO (BG (Ay Hc vv AL rfl) (AQ (Af nd (Fd vv HY (EU AL)))) BH) (AO (BG (Ay Co vv BE rfl) (AQ (Af nd BE)) BH) (AO (BG (Ay JT vv vv rfl) (AQ (FV (Ew HQ AIt AIu Hx vv (AC vv AK)))) BH) (AQ (Af nd (AU Cn vv (AU NY AL AL))))))))) (AQ (Aj vv)))))))
abbrev Pl:Stmt:=Bg pW 47
theorem Tk:BP Qi ["_law_cell_here"] (Aa Pl):=by wtm_at "sc"
theorem ZO(hb:BW mg BZ):Be P w K mg base k Qi "_law_place" Pl (Qd):=by intro cdv f A outer s H E hr;have nd:=Tk.nd;exact(AO (Af nd (BI (CN (AC BE (AC BE (AC BE (AC BE (AC BE AK)))))) (AU Bs vv AL))) (AQ (Aj (EA (AC vv (AC (BI (CN (AC AL (AC AL (AC (Jg AL) (AC (Jg AL) AK))))) (AU Bs (AU Cn vv AL) AL)) (AC (BI (CN (AC BE (AC BE AK))) (AU Bs (AU Cn vv AL) AL)) AK)))))))
abbrev Pg:Stmt:=Bg pW 48
theorem Ti:BP Qa ["_law_cell_here","_law_words_here"] (Aa Pg):=by wtm_at "sc"
theorem ZM(hb:BW mg BZ){zc1:GL}(zc4:BA P w K mg base k "_law_place" zc1):Be P w K mg base k Qa "_law_piece" Pg (Tr zc1):=by intro cdv f A outer s H E hr;have nd:=Ti.nd;exact(AO (BG (FU (Tx (Ay Co (AU Bs vv AL) AL rfl) (Tw (Ay Hc (Bf DK (hb.get "len") DC (AC vv AK)) AL rfl)))) (AQ (Aj (EA (AC BE (AC (BI vv (AU Bs (AU Cn vv AL) (Bf DK (hb.get "len") DC (AC vv AK)))) AK))))) BH) (AO (Af nd (BI (CN (AC BE (AC BE (AC BE (AC BE AK))))) (AU Bs (AU Cn vv AL) AL))) (AQ (Aj (EA (AC vv (AC (BF zc4 hr (AC (AU Cn vv AL) AK)) (AC (BF zc4 hr (AC (AU Cn vv AL) AK)) AK))))))))
abbrev Pd:Stmt:=Bg pW 49
theorem Tf:BP QX ["_law_sign"] (Aa Pd):=by wtm_at "sc"
theorem ZK(hb:BW mg BZ):Be P w K mg base k QX "_law_kind" Pd (QS):=by intro cdv f A outer s H E hr;have nd:=Tf.nd;exact(AO (BG (Dg (Jh AIv PySem.F.slot_str_islower PySem.F.type_str_islower ADu vv)) (AQ (Aj BE)) BH) (AO (BG (Dg (Jh AIv PySem.F.slot_str_isupper PySem.F.type_str_isupper ADt vv)) (AQ (Aj BE)) BH) (AO (BG (Dg (Jh AIv PySem.F.slot_str_isdigit PySem.F.type_str_isdigit ADv vv)) (AQ (Aj BE)) BH) (AQ (Aj BE)))))
abbrev Mp:Stmt:=Bg pW 50
theorem Td:BP MX ["_law_place_here","_law_text_here"] (Aa Mp):=by wtm_at "sc"
theorem ZI(hb:BW mg BZ){zj1:GL}(zo7:BA P w K mg base k "_law_kind" zj1):Be P w K mg base k MX "_law_spot" Mp (QN zj1):=by intro cdv f A outer s H E hr;have nd:=Td.nd;exact(AO (Qw rfl vv (Cp (BC nd) (Cp (BC nd) (Cp (BC nd) GY)))) (AO (Ie nd rfl (KQ (hb.get "range") (AC (Bf DK (hb.get "len") DC (AC vv AK)) AK)) (El (N:=MX) (N':=["_law_k","_law_kind_here","_law_text_here"]) (n:=1) (idx:=[2,1]) (fnames:=(Aa Mp).names) rfl (λ_=>rfl) rfl (by decide +kernel)) (λ_ _ _ _ _ _=>⟨(BC (i:=0) (show(["_law_k","_law_kind_here","_law_text_here"]:List Str).Nodup by decide +kernel)),(RD (FU (Eg (Ay Co vv BE rfl) (GO (Ay Co (BF zo7 hr (AC (BI vv vv) AK)) vv rfl))))),vv⟩)) (AO (BG (Ay Ik (Bf DK (hb.get "len") DC (AC vv AK)) (Bf YF (hb.get "abs") YH (AC vv AK)) rfl) (AQ (Aj Ea)) BH) (AO (BG (Ay Hc vv AL rfl) (AQ (Aj (AU DB (BI vv (AU JS vv AL)) (HB YE (hb.get "int") SO (AC (IP Co vv BE rfl) AK))))) BH) (AQ (Aj (AU DB (BI vv vv) (HB YE (hb.get "int") SO (AC (IP Co vv BE rfl) AK)))))))))
abbrev PY:Stmt:=Bg pW 51
theorem Tb:BP QK ["_law_piece_here","_law_text_here"] (Aa PY):=by wtm_at "sc"
theorem ZG(hb:BW mg BZ){zu:GL}(ze4:BA P w K mg base k "_law_spot" zu):Be P w K mg base k QK "_law_piece_answer" PY (MW zu):=by intro cdv f A outer s H E hr;have nd:=Tb.nd;exact(AO (BG (Ay Co (BI vv AL) BE rfl) (AQ (Aj (BI vv AL))) BH) (AO (Af nd (BF ze4 hr (AC (BI vv AL) (AC vv AK)))) (AO (Af nd (BF ze4 hr (AC (BI vv AL) (AC vv AK)))) (AO (BG (FU (Eg (Ay Vm vv Ea rfl) (Eg (Ay Vm vv Ea rfl) (GO (Ay Vn vv vv rfl))))) (AQ (Aj Ea)) BH) (AO (BG (Ay Co (BI vv AL) BE rfl) (AQ (Aj (Jh AIv PySem.F.slot_str_upper PySem.F.type_str_upper Vy (Fd vv (EU vv) (EU vv))))) BH) (AO (BG (Ay Co (BI vv AL) BE rfl) (AQ (Aj (Jh AIv PySem.F.slot_str_lower PySem.F.type_str_lower WB (Fd vv (EU vv) (EU vv))))) BH) (AQ (Aj (Fd vv (EU vv) (EU vv))))))))))
abbrev Mo:Stmt:=Bg pW 53
theorem TZ:BP MV ["_law_cell_here","_law_words_here","_law_texts"] (Aa Mo):=by wtm_at "sc"
theorem ZF(hb:BW mg BZ){zi1:GL}(zq7:BA P w K mg base k "_law_piece" zi1){zg:GL}(zq2:BA P w K mg base k "_law_piece_answer" zg):Be P w K mg base k MV "_law_fitting" Mo (QG zi1 zg):=by intro cdv f A outer s H E hr;have nd:=TZ.nd;exact(AO (Af nd (BF zq7 hr (AC vv (AC vv AK)))) (AO (BG (Ay Co (BI vv AL) BE rfl) (AQ (Aj vv)) BH) (AO (Af nd (EA (AC (BI vv AL) (AC (EA (AC BE (AC AL (AC BE AK)))) (AC (EA (AC BE (AC (Jg AL) (AC BE AK)))) AK))))) (AO (Cj PassesOwn.never rfl (Ce (CN (AC vv (AC (EA (AC (BI vv AL) (AC (BI vv AL) (AC (BI vv AL) AK)))) (AC vv AK))))) (BC nd) (AQ (BG (Ay JT Ea (IN rfl (Ce vv) (El (N:=MV) (N':=["_law_text_here","_law_some"]) (n:=1) (idx:=[5]) (fnames:=(Aa Mo).names) rfl (λ_=>rfl) rfl (by decide +kernel)) (λ_ _ _ _ _ _=>⟨(BC (i:=0) (show(["_law_text_here","_law_some"]:List Str).Nodup by decide +kernel)),FW,(BF zq2 hr (AC vv (AC vv AK)))⟩)) rfl) (AQ (Aj vv)) BH))) (AO (BG (Ay Co (Bf DK (hb.get "len") DC (AC vv AK)) AL rfl) (AQ (Aj Ea)) BH) (AQ (Aj (EA (AC BE (AC (BI vv (AU Bs (AU Cn vv AL) (Bf DK (hb.get "len") DC (AC vv AK)))) AK))))))))))
abbrev PP:Stmt:=Bg pW 54
theorem TW:BP QD ["_law_cell_here","_law_words_here","_law_texts"] (Aa PP):=by wtm_at "sc"
theorem ZD(hb:BW mg BZ){zk1:GL}(zs7:BA P w K mg base k "_law_fitting" zk1):Be P w K mg base k QD "_law_row" PP (Pw zk1):=by intro cdv f A outer s H E hr;have nd:=TW.nd;exact(AO (Af nd (CN AK)) (AO (Af nd (AU Cn vv AL)) (AO (Cj PassesOwn.never rfl (KQ (hb.get "range") (AC (AU DB AL (AU Bs vv AL)) AK)) (BC nd) (AO (Af nd (BF zs7 hr (AC vv (AC vv (AC vv AK))))) (AO (BG (Ay RU vv Ea rfl) (AQ (FV (Ew HQ AIt AIu Hx vv (AC vv AK)))) BH) (AQ (Af nd (AU Cn vv AL)))))) (AQ (Aj (HB JA (hb.get "tuple") HD (AC vv AK)))))))
abbrev PF:Stmt:=Bg pW 44
theorem TU:BP Ps ["_law_script","_law_k"] (Aa PF):=by wtm_at "sc"
theorem ZB(hb:BW mg BZ):Be P w K mg base k Ps "_law_cell" PF (Po):=by intro cdv f A outer s H E hr;have nd:=TU.nd;exact(AO (BG (Ay Ik vv (Bf DK (hb.get "len") DC (AC vv AK)) rfl) (AQ (Aj (AU Bs (AU HZ (AU DB (BI vv vv) AL) AL) (AU NY AL AL)))) BH) (AO (Af nd (AU DB (AU HZ (AU HZ vv vv) AL) AL)) (AO (BG (Ay Hc (Bf DK (hb.get "len") DC (AC vv AK)) AL rfl) (AQ (Af nd (AU DB vv (AU HZ (AU Bs (BI vv (AU Bs (AU HZ vv AL) (Bf DK (hb.get "len") DC (AC vv AK)))) (AU NY AL AL)) AL)))) BH) (AQ (Aj (AU Bs (AU HZ (AU Bs (AU HZ vv vv) AL) AL) (AU NY AL AL)))))))
abbrev Mm:Stmt:=Bg pW 52
theorem TQ:BP MT ["_law_row_here","_law_text_here"] (Aa Mm):=by wtm_at "sc"
theorem Yz(hb:BW mg BZ){zg:GL}(zq2:BA P w K mg base k "_law_piece_answer" zg):Be P w K mg base k MT "_law_row_answer" Mm (Pj zg):=by intro cdv f A outer s H E hr;have nd:=TQ.nd;exact(AO (Ie nd rfl (Ce vv) (El (N:=MT) (N':=["_law_piece_here","_law_text_here"]) (n:=1) (idx:=[1]) (fnames:=(Aa Mm).names) rfl (λ_=>rfl) rfl (by decide +kernel)) (λ_ _ _ _ _ _=>⟨(BC (i:=0) (show(["_law_piece_here","_law_text_here"]:List Str).Nodup by decide +kernel)),FW,(BF zq2 hr (AC vv (AC vv AK)))⟩)) (AO (BG (Ay LS Ea vv rfl) (AQ (Aj Ea)) BH) (AQ (Aj (Ew AIv PySem.F.slot_str_join PySem.F.type_str_join ADs BE (AC vv AK))))))
abbrev Mj:Stmt:=Bg pW 56
theorem TM:BP MR ["_law_row_here","_law_texts","_law_cell_here"] (Aa Mj):=by wtm_at "sc"
theorem Yx(hb:BW mg BZ){zo:GL}(zr2:BA P w K mg base k "_law_row_answer" zo):Be P w K mg base k MR "_law_row_examples" Mj (Pf zo):=by intro cdv f A outer s H E hr;have nd:=TM.nd;exact(AO (Ie nd rfl (Ce vv) (El (N:=MR) (N':=["_law_text_here","_law_row_here"]) (n:=1) (idx:=[0]) (fnames:=(Aa Mj).names) rfl (λ_=>rfl) rfl (by decide +kernel)) (λ_ _ _ _ _ _=>⟨(BC (i:=0) (show(["_law_text_here","_law_row_here"]:List Str).Nodup by decide +kernel)),FW,(EA (AC vv (AC (BF zr2 hr (AC vv (AC vv AK))) AK)))⟩)) (AO (BG (FU (Tx (Ay Co (AU Bs vv AL) AL rfl) (Tw (Ay Hc (Bf DK (hb.get "len") DC (AC vv AK)) AL rfl)))) (AO (Af nd (AU Bs (AU Cn vv AL) (Bf DK (hb.get "len") DC (AC vv AK)))) (AO (Qw rfl (BI vv vv) (Cp (BC nd) (Cp (BC nd) GY))) (AO (Af nd (BI (CN (AC (Fd (AU DB vv BE) HY (EU AL)) (AC (Fd vv HY (EU (Jg AL))) (AC (AU DB (Fd vv (EU AL) HY) (Fd vv HY (EU AL))) (AC BE AK))))) (AU Bs (AU Cn vv AL) AL))) (AQ (Af nd (AU DB (AU DB (Fd vv HY (EU vv)) (CN (AC (EA (AC vv (AC vv AK))) AK))) (Fd vv (EU (AU DB vv AL)) HY))))))) BH) (AQ (Aj vv))))
abbrev LA:Stmt:=Bg pW 55
theorem TK:BP Kx ["_law_script","_law_start","_law_most"] (Aa LA):=by wtm_at "sc"
theorem Yv(hb:BW mg BZ){zm:GL}(zp2:BA P w K mg base k "_law_text" zm){za:GL}(zj:BA P w K mg base k "_law_cell" za):Be P w K mg base k Kx "_law_drawn_texts" LA (Pc zm za):=by intro cdv f A outer s H E hr;have nd:=TK.nd;exact(AO (Af nd (BF zj hr (AC vv (AC vv AK)))) (AO (Af nd (AU DB AL (AU Bs vv AL))) (AO (BG (Ay Co (AU Bs (AU Cn vv AL) AL) AL rfl) (AO (Af nd (AU DB AL (AU Bs vv AL))) (AQ (Af nd (Bf (YD rfl) (hb.get "min") YG (AC vv (AC AL AK)))))) BH) (AO (Ie nd rfl (KQ (hb.get "range") (AC vv AK)) (El (N:=Kx) (N':=["_law_k"]) (n:=1) (idx:=[]) (fnames:=(Aa LA).names) rfl (λ_=>rfl) rfl (by decide +kernel)) (λ_ _ _ _ _ _=>⟨(BC (i:=0) (show(["_law_k"]:List Str).Nodup by decide +kernel)),FW,BE⟩)) (AO (Af nd (BI (CN (AC BE (AC BE (AC BE (AC BE AK))))) (AU Bs (AU Cn vv AL) AL))) (AO (BG (Ay Co (AU Bs (AU Cn vv AL) AL) AL rfl) (AQ (Ie nd rfl (KQ (hb.get "range") (AC vv AK)) (El (N:=Kx) (N':=["_law_k","_law_most","_law_script","_law_start"]) (n:=1) (idx:=[2,0,1]) (fnames:=(Aa LA).names) rfl (λ_=>rfl) rfl (by decide +kernel)) (λ_ _ _ _ _ _=>⟨(BC (i:=0) (show(["_law_k","_law_most","_law_script","_law_start"]:List Str).Nodup by decide +kernel)),FW,(BF zp2 hr (AC (BF zj hr (AC vv (AC (AU DB (AU DB vv AL) vv) AK))) (AC vv AK)))⟩))) (AQ (Cj PassesOwn.never rfl (ACT (hb.get "range") (AC (AU DB vv AL) (AC (Bf (YD rfl) (hb.get "min") YG (AC (Bf DK (hb.get "len") DC (AC vv AK)) (AC (AU DB (AU DB vv AL) (AU HZ vv vv)) AK))) AK))) (BC nd) (AO (Af nd (AU Bs vv vv)) (AO (Af nd (BI vv (AU Bs (BF zj hr (AC vv (AC vv AK))) (Bf DK (hb.get "len") DC (AC vv AK))))) (AQ (Uw vv vv (AU DB (BI vv vv) vv)))))))) (AO (BG (Ay Co (AU Bs (AU Cn vv AL) AL) AL rfl) (AQ (Uw vv AL (Fd (AU HZ (Fd vv HY (EU (AU DB AL (AU Bs (AU Cn vv AL) AL)))) AL) HY (EU AL)))) BH) (AO (Af nd (CN AK)) (AO (Cj PassesOwn.never rfl (Ce vv) (BC nd) (AQ (BG (Ay JT vv vv rfl) (AQ (FV (Ew HQ AIt AIu Hx vv (AC vv AK)))) BH))) (AQ (Aj vv)))))))))))
abbrev Mh:Stmt:=Bg pW 60
theorem TD:BP MQ ["_law_script"] (Aa Mh):=by wtm_at "sc"
theorem Zq(hb:BW mg BZ){zh1:GL}(zu7:BA P w K mg base k "_law_words" zh1){zl1:GL}(zv7:BA P w K mg base k "_law_row" zl1){za:GL}(zj:BA P w K mg base k "_law_cell" za){zm1:GL}(zw7:BA P w K mg base k "_law_row_examples" zm1){zn1:GL}(zx7:BA P w K mg base k "_law_drawn_texts" zn1):Be P w K mg base k MQ "_law_made" Mh (Pa zh1 zl1 za zm1 zn1):=by intro cdv f A outer s H E hr;have nd:=TD.nd;exact(AO (Af nd (BF zu7 hr (AC (BF zj hr (AC vv (AC AL AK))) AK))) (AO (Ie nd rfl (Ce (BF zx7 hr (AC vv (AC AL (AC AL AK))))) (El (N:=MQ) (N':=["_law_text_here","_law_words_here"]) (n:=1) (idx:=[1]) (fnames:=(Aa Mh).names) rfl (λ_=>rfl) rfl (by decide +kernel)) (λ_ _ _ _ _ _=>⟨(BC (i:=0) (show(["_law_text_here","_law_words_here"]:List Str).Nodup by decide +kernel)),(RD (FU (Eg (Ay LR vv BE rfl) (GO (Ay Hc (Bf DK (hb.get "len") DC (AC vv AK)) AL rfl))))),vv⟩)) (AO (Af nd (BF zv7 hr (AC (BF zj hr (AC vv (AC AL AK))) (AC vv (AC vv AK))))) (AQ (Aj (CN (AC vv (AC vv (AC (BF zw7 hr (AC vv (AC vv (AC (BF zj hr (AC vv (AC AL AK))) AK)))) AK)))))))))
abbrev Ol:Stmt:=Bg pW 31
theorem TB:BP PV ["groups"] (Aa Ol):=by wtm_at "sc"
theorem Zo(hb:BW mg BZ):Be P w K mg base k PV "members_of" Ol (PR):=by intro cdv f A outer s H E hr;have nd:=TB.nd;exact(AO (Af nd Lr) (AO (Cj PassesOwn.never rfl (VW vv) (IC (n:=2) rfl (Cp (BC nd) (Cp (BC nd) GY))) (AQ (Cj PassesOwn.never rfl (ACV (hb.get "enumerate") (AC vv AK)) (IC (n:=2) rfl (Cp (BC nd) (Cp (BC nd) GY))) (AQ (Qv hr.units vv vv (EA (AC vv (AC vv AK)))))))) (AQ (Aj vv))))
abbrev Of:Stmt:=Wp pW 29 0
theorem Sy:BP PM ["self","ways"] (Aa Of):=by wtm_at "sc"
theorem Zm(hb:BW mg BZ)(zr:Ba K "Node" "arms")(zc:Ba K "Node" "ways"):Be P w K mg base k PM "Node.__init__" Of (PJ):=by intro cdv f A outer s H E hr;have nd:=Sy.nd;exact(AO (Ig vv vv (Bk zc Bj)) (AQ (Ig vv Lr (Bk zr Bj))))
abbrev Qf:Stmt:=Wp pW 30 0
theorem Sx:BP PC ["self","words","groups"] (Aa Qf):=by wtm_at "sc"
theorem Zk(hb:BW mg BZ)(zt:Ba K "Table" "groups")(zb8:Ba K "Table" "members")(zg2:Ba K "Table" "node_numbers")(ze:Ba K "Table" "nodes")(zp:Ba K "Table" "roots")(zc8:Ba K "Table" "words"){zd1:GL}(zd8:BA P w K mg base k "members_of" zd1){zi:GL}(zm2:Fz P w K mg base k "Node" zi):Be P w K mg base k PC "Table.__init__" Qf (Oy zd1 zi):=by intro cdv f A outer s H E hr;have nd:=Sx.nd;exact(AO (Ig vv vv (Bk zc8 Bj)) (AO (Ig vv vv (Bk zt Bj)) (AO (Ig vv (BF zd8 hr (AC vv AK)) (Bk zb8 Bj)) (AO (Ig vv (CN (AC (OD zm2 hr (AC AL AK)) (AC (OD zm2 hr (AC AL AK)) AK))) (Bk ze Bj)) (AO (Ig vv Lr (Bk zg2 Bj)) (AQ (Ig vv (CN AK) (Bk zp Bj))))))))
abbrev QP:Stmt:=Bg pW 15
theorem Sw:BP Ou [] (Aa QP):=by wtm_at "sc"
theorem Zi(hb:BW mg BZ)(zf8:Ef K mg "EDGES" Mf)(zg8:Ef K mg "KINDS" Mn)(zh8:Ef K mg "NTHS" Mi):Be P w K mg base k Ou "all_places" QP (Oq):=by intro cdv f A outer s H E hr;have nd:=Sw.nd;exact(AO (Af nd (CN AK)) (AO (Cj PassesOwn.never rfl (Ce (IM zg8)) (BC nd) (AQ (Cj PassesOwn.never rfl (Ce (IM zh8)) (BC nd) (AQ (Cj PassesOwn.never rfl (Ce (IM zf8)) (BC nd) (AQ (FV (Ew HQ AIt AIu Hx vv (AC (EA (AC vv (AC vv (AC vv AK)))) AK))))))))) (AQ (Aj vv))))
abbrev Pz:Stmt:=Bg pW 10
theorem Sv:BP On ["sign"] (Aa Pz):=by wtm_at "sc"
theorem Zg(hb:BW mg BZ)(zj8:Ef K mg "SIGNS_BY_KIND" Ml):Be P w K mg base k On "kind_of" Pz (Oh):=by intro cdv f A outer s H E hr;have nd:=Sv.nd;exact(AO (Cj PassesOwn.never rfl (Ce (IM zj8)) (IC (n:=2) rfl (Cp (BC nd) (Cp (BC nd) GY))) (AQ (BG (Ay LS vv vv rfl) (AQ (Aj vv)) BH))) (AQ (Aj Ea)))
abbrev Pp:Stmt:=Bg pW 11
theorem Su:BP Qh ["kind","sign"] (Aa Pp):=by wtm_at "sc"
theorem Zf(hb:BW mg BZ){zr1:GL}(zl8:BA P w K mg base k "kind_of" zr1):Be P w K mg base k Qh "is_of" Pp (Qc zr1):=by intro cdv f A outer s H E hr;have nd:=Su.nd;exact(AQ (Aj (AFd (IP Co vv BE rfl) (OC (IP Co (BF zl8 hr (AC vv AK)) vv rfl)))))
abbrev Me:Stmt:=Bg pW 16
theorem Ss:BP MP ["place","text"] (Aa Me):=by wtm_at "sc"
theorem Ze(hb:BW mg BZ){zs1:GL}(zm8:BA P w K mg base k "is_of" zs1):Be P w K mg base k MP "spot" Me (QZ zs1):=by intro cdv f A outer s H E hr;have nd:=Ss.nd;exact(AO (Af nd (BI vv AL)) (AO (Af nd (BI vv AL)) (AO (Ie nd rfl (ACU (hb.get "enumerate") (AC vv AK)) (El (N:=MP) (N':=["number","sign","kind"]) (n:=2) (idx:=[2]) (fnames:=(Aa Me).names) rfl (λ_=>rfl) rfl (by decide +kernel)) (λ_ _ _ _ _ _=>⟨(IC (n:=2) rfl (Cp (BC (i:=0) (show(["number","sign","kind"]:List Str).Nodup by decide +kernel)) (Cp (BC (i:=1) (show(["number","sign","kind"]:List Str).Nodup by decide +kernel)) GY))),(RD (Dg (BF zm8 hr (AC vv (AC vv AK))))),vv⟩)) (AO (BG (Ay Ik (Bf DK (hb.get "len") DC (AC vv AK)) (Bf YF (hb.get "abs") YH (AC vv AK)) rfl) (AQ (Aj Ea)) BH) (AO (Af nd (OE (Ay Hc vv AL rfl) (BI vv (AU JS vv AL)) (BI vv vv))) (AQ (Aj (OE (Ay Co (BI vv AL) BE rfl) vv (AU DB vv AL)))))))))
abbrev Mc:Stmt:=Bg pW 32
theorem Tv:BP MO ["texts"] (Aa Mc):=by wtm_at "sc"
theorem Zd(hb:BW mg BZ){zq1:GL}(zn8:BA P w K mg base k "all_places" zq1){zz:GL}(zo8:BA P w K mg base k "spot" zz):Be P w K mg base k MO "places_by_spots" Mc (QW zq1 zz):=by intro cdv f A outer s H E hr;have nd:=Tv.nd;exact(AO (Af nd Lr) (AO (Cj PassesOwn.never rfl (Ce (AFh zn8 hr)) (BC nd) (AO (Af nd (HB JA (hb.get "tuple") HD (AC (IN rfl (Ce vv) (El (N:=MO) (N':=["text","place"]) (n:=1) (idx:=[2]) (fnames:=(Aa Mc).names) rfl (λ_=>rfl) rfl (by decide +kernel)) (λ_ _ _ _ _ _=>⟨(BC (i:=0) (show(["text","place"]:List Str).Nodup by decide +kernel)),FW,(BF zo8 hr (AC vv (AC vv AK)))⟩)) AK))) (AQ (BG (Ay JT Ea vv rfl) (AQ (FV (Ew HQ AIt AIu Hx (Ew AJ2 AJ0 PySem.F.type_dict_setdefault (Vz hr.units) vv (AC vv (AC (CN AK) AK))) (AC vv AK)))) BH)))) (AQ (Aj vv))))
abbrev Ma:Stmt:=Bg pW 34
theorem Tu:BP MN ["answers","wanted"] (Aa Ma):=by wtm_at "sc"
theorem ZW(hb:BW mg BZ):Be P w K mg base k MN "stand_within" Ma (QR):=by intro cdv f A outer s H E hr;have nd:=Tu.nd;exact(AQ (Aj (Bf (AF4 rfl) (hb.get "all") AGI (AC (IN rfl (RN Tg (hb.get "zip") (AC vv (AC vv AK))) (El (N:=MN) (N':=["answer","whole"]) (n:=2) (idx:=[]) (fnames:=(Aa Ma).names) rfl (λ_=>rfl) rfl (by decide +kernel)) (λ_ _ _ _ _ _=>⟨(IC (n:=2) rfl (Cp (BC (i:=0) (show(["answer","whole"]:List Str).Nodup by decide +kernel)) (Cp (BC (i:=1) (show(["answer","whole"]:List Str).Nodup by decide +kernel)) GY))),FW,(IP LS vv vv rfl)⟩)) AK))))
abbrev PX:Stmt:=Bg pW 35
theorem Tt:BP QM ["groups","wanted","answers","pieces"] (Aa PX):=by wtm_at "sc"
theorem ZV(hb:BW mg BZ){zu1:GL}(zq8:BA P w K mg base k "stand_within" zu1):Be P w K mg base k QM "add_to_group" PX (QJ zu1):=by intro cdv f A outer s H E hr;have nd:=Tt.nd;exact(AQ (BG (Dg (BF zq8 hr (AC vv (AC vv AK)))) (AQ (FV (Ew HQ AJ6 AJ7 Rb (Ew AJ2 AJ0 PySem.F.type_dict_setdefault (Vz hr.units) vv (AC vv (AC (CN AK) AK))) (AC vv AK)))) BH))
abbrev PN:Stmt:=Bg pW 33
theorem Ts:BP QF ["texts","starts","ends"] (Aa PN):=by wtm_at "sc"
theorem ZU(hb:BW mg BZ):Be P w K mg base k QF "stretches" PN (QC):=by intro cdv f A outer s H E hr;have nd:=Ts.nd;exact(AO (Af nd (CN AK)) (AO (Cj PassesOwn.never rfl (RN Zc (hb.get "zip") (AC vv (AC vv (AC vv AK)))) (IC (n:=3) rfl (Cp (BC nd) (Cp (BC nd) (Cp (BC nd) GY)))) (AO (BG (Ay Vn vv vv rfl) (AQ (Aj Ea)) BH) (AQ (FV (Ew HQ AIt AIu Hx vv (AC (Fd vv (EU vv) (EU vv)) AK)))))) (AQ (Aj vv))))
abbrev MY:Stmt:=Bg pW 36
theorem Tq:BP MM ["deed","starts","ends"] (Aa MY):=by wtm_at "sc"
theorem ZT(hb:BW mg BZ):Be P w K mg base k MM "pieces_between" MY (Pv):=by intro cdv f A outer s H E hr;have nd:=Tq.nd;exact(AO (Af nd (CN AK)) (AO (Cj PassesOwn.never rfl (Ce vv) (BC nd) (AQ (FV (Ew HQ AJ6 AJ7 Rb vv (AC (IN rfl (Ce vv) (El (N:=MM) (N':=["end","deed","start"]) (n:=1) (idx:=[0,4]) (fnames:=(Aa MY).names) rfl (λ_=>rfl) rfl (by decide +kernel)) (λ_ _ _ _ _ _=>⟨(BC (i:=0) (show(["end","deed","start"]:List Str).Nodup by decide +kernel)),FW,(EA (AC vv (AC vv (AC vv AK))))⟩)) AK))))) (AQ (Aj vv))))
abbrev PK:Stmt:=Bg pW 19
theorem To:BP Pr ["deed","signs"] (Aa PK):=by wtm_at "sc"
theorem ZR(hb:BW mg BZ):Be P w K mg base k Pr "done_to" PK (Pn):=by intro cdv f A outer s H E hr;have nd:=To.nd;exact(AO (BG (Ay Co vv BE rfl) (AQ (Aj vv)) BH) (AQ (Aj (OE (Ay Co vv BE rfl) (Jh AIv PySem.F.slot_str_upper PySem.F.type_str_upper Vy vv) (Jh AIv PySem.F.slot_str_lower PySem.F.type_str_lower WB vv)))))
abbrev Kz:Stmt:=Bg pW 37
theorem Tl:BP Kw ["words","texts","wanted"] (Aa Kz):=by wtm_at "sc"
theorem ZP(hb:BW mg BZ)(zt8:Ef K mg "DEEDS" Md){zt1:GL}(zu8:BA P w K mg base k "places_by_spots" zt1){ze1:GL}(zn4:BA P w K mg base k "add_to_group" ze1){zv1:GL}(zv8:BA P w K mg base k "stretches" zv1){zw1:GL}(zw8:BA P w K mg base k "pieces_between" zw1){zx1:GL}(zx8:BA P w K mg base k "done_to" zx1):Be P w K mg base k Kw "groups_of" Kz (Ph zt1 ze1 zv1 zw1 zx1):=by intro cdv f A outer s H E hr;have nd:=Tl.nd;exact(AO (Af nd Lr) (AO (Cj PassesOwn.never rfl (Ce vv) (BC nd) (AQ (FV (BF zn4 hr (AC vv (AC vv (AC (HB JA (hb.get "tuple") HD (AC (IN rfl (Ce vv) (El (N:=Kw) (N':=["text","word"]) (n:=1) (idx:=[4]) (fnames:=(Aa Kz).names) rfl (λ_=>rfl) rfl (by decide +kernel)) (λ_ _ _ _ _ _=>⟨(BC (i:=0) (show(["text","word"]:List Str).Nodup by decide +kernel)),FW,vv⟩)) AK)) (AC (CN (AC (EA (AC BE (AC vv AK))) AK)) AK)))))))) (AO (Af nd (BF zu8 hr (AC vv AK))) (AO (Cj PassesOwn.never rfl (VY vv) (BC nd) (AQ (Cj PassesOwn.never rfl (VY vv) (BC nd) (AO (Af nd (BF zv8 hr (AC vv (AC vv (AC vv AK))))) (AQ (BG (Ay RU vv Ea rfl) (AQ (Cj PassesOwn.never rfl (Ce (IM zt8)) (BC nd) (AO (Af nd (HB JA (hb.get "tuple") HD (AC (IN rfl (Ce vv) (El (N:=Kw) (N':=["part","deed"]) (n:=1) (idx:=[9]) (fnames:=(Aa Kz).names) rfl (λ_=>rfl) rfl (by decide +kernel)) (λ_ _ _ _ _ _=>⟨(BC (i:=0) (show(["part","deed"]:List Str).Nodup by decide +kernel)),FW,(BF zx8 hr (AC vv (AC vv AK)))⟩)) AK))) (AQ (FV (BF zn4 hr (AC vv (AC vv (AC vv (AC (BF zw8 hr (AC vv (AC (Fe (KB hr.units) vv vv (λ_ _=>rfl)) (AC (Fe (KB hr.units) vv vv (λ_ _=>rfl)) AK)))) AK)))))))))) BH)))))) (AQ (Aj vv))))))
abbrev Oj:Stmt:=Bg pW 39
theorem Tj:BP Pe ["table","length","rest"] (Aa Oj):=by wtm_at "sc"
theorem ZN(hb:BW mg BZ)(zt:Ba K "Table" "groups"):Be P w K mg base k Pe "answers_to_try" Oj (Pb):=by intro cdv f A outer s H E hr;have nd:=Tj.nd;exact(AO (BG (Ay Co vv AL rfl) (AQ (Aj (OE (Ay (ADa hr.units) vv (CO vv (Bk zt Bj)) rfl) (CN (AC vv AK)) (CN AK)))) BH) (AQ (Aj (HB (AF2 rfl) (hb.get "list") AGG (AC (CO vv (Bk zt Bj)) AK)))))
abbrev Oe:Stmt:=Bg pW 38
theorem Th:BP PZ ["rest","answers"] (Aa Oe):=by wtm_at "sc"
theorem ZL(hb:BW mg BZ):Be P w K mg base k PZ "rest_behind" Oe (PU):=by intro cdv f A outer s H E hr;have nd:=Th.nd;exact(AO (Af nd (CN AK)) (AO (Cj PassesOwn.never rfl (RN Tg (hb.get "zip") (AC vv (AC vv AK))) (IC (n:=2) rfl (Cp (BC nd) (Cp (BC nd) GY))) (AO (BG (Ei (Dg (Ew AIv PySem.F.slot_str_startswith PySem.F.type_str_startswith ADr vv (AC vv AK)))) (AQ (Aj Ea)) BH) (AQ (FV (Ew HQ AIt AIu Hx vv (AC (Fd vv (EU (Bf DK (hb.get "len") DC (AC vv AK))) HY) AK)))))) (AQ (Aj (HB JA (hb.get "tuple") HD (AC vv AK))))))
abbrev Qe:Stmt:=Bg pW 40
theorem Te:BP PQ ["table","length","rest"] (Aa Qe):=by wtm_at "sc"
theorem ZJ(hb:BW mg BZ)(zo4:Ef K mg "NOWHERE" Ky)(zr:Ba K "Node" "arms")(zc:Ba K "Node" "ways")(zt:Ba K "Table" "groups")(ze:Ba K "Table" "nodes"){zi:GL}(zm2:Fz P w K mg base k "Node" zi){zz1:GL}(zb9:BA P w K mg base k "answers_to_try" zz1){za2:GL}(zc9:BA P w K mg base k "rest_behind" za2){zq:GL}(ze3:BA P w K mg base k "node_number" zq):Be P w K mg base k PQ "new_node" Qe (PL zi zz1 za2 zq):=by intro cdv f A outer s H E hr;have nd:=Te.nd;exact(AO (Af nd (OD zm2 hr (AC AL AK))) (AO (Cj PassesOwn.never rfl (Ce (BF zb9 hr (AC vv (AC vv (AC vv AK))))) (BC nd) (AO (Af nd (BF zc9 hr (AC vv (AC vv AK)))) (AQ (BG (Ay RU vv Ea rfl) (AO (Af nd (BF ze3 hr (AC vv (AC (AU JS vv AL) (AC vv AK))))) (AQ (BG (Ay LR vv (IM zo4) rfl) (AO (Qv hr.units (CO vv (Bk zr Bj)) vv (EA (AC (CO vv (Bk zc Bj)) (AC vv AK)))) (AQ (ABP vv (AU HZ (Bf DK (hb.get "len") DC (AC (Fe (KB hr.units) (CO vv (Bk zt Bj)) vv (λ_ _=>rfl)) AK)) (CO (Fe Ia (CO vv (Bk ze Bj)) vv (λ_ _=>rfl)) (Bk zc Bj))) (Bk zc Bj) AEn))) BH))) BH)))) (AO (BG (Ay Co (CO vv (Bk zc Bj)) AL rfl) (AQ (Aj (IM zo4))) BH) (AO (FV (Ew HQ AIt AIu Hx (CO vv (Bk ze Bj)) (AC vv AK))) (AQ (Aj (AU JS (Bf DK (hb.get "len") DC (AC (CO vv (Bk ze Bj)) AK)) AL)))))))
abbrev QU:Stmt:=Bg pW 41
theorem Tc:BP PH ["table","length","rest"] (Aa QU):=by wtm_at "sc"
theorem ZH(hb:BW mg BZ)(ze9:Ef K mg "END" MZ)(zg2:Ba K "Table" "node_numbers"){zz3:GL}(zt14:BA P w K mg base k "new_node" zz3):Be P w K mg base k PH "node_number" QU (MK zz3):=by intro cdv f A outer s H E hr;have nd:=Tc.nd;exact(AO (BG (Ay Co vv AL rfl) (AQ (Aj (IM ze9))) BH) (AO (Af nd (EA (AC vv (AC vv AK)))) (AO (BG (Ay (ADY hr.units) vv (CO vv (Bk zg2 Bj)) rfl) (AQ (Qv hr.units (CO vv (Bk zg2 Bj)) vv (BF zt14 hr (AC vv (AC vv (AC vv AK)))))) BH) (AQ (Aj (Fe (KB hr.units) (CO vv (Bk zg2 Bj)) vv (λ_ _=>rfl)))))))
abbrev Jy:Stmt:=Bg pW 42
theorem Ta:BP KA ["words","examples"] (Aa Jy):=by wtm_at "sc"
theorem ZE(hb:BW mg BZ)(zf9:Ef K mg "ROW_LENGTHS" Mb)(zp:Ba K "Table" "roots"){zp1:GL}(zg9:Fz P w K mg base k "Table" zp1){zy1:GL}(zh9:BA P w K mg base k "groups_of" zy1){zq:GL}(ze3:BA P w K mg base k "node_number" zq):Be P w K mg base k KA "table_of" Jy (PB zp1 zy1 zq):=by intro cdv f A outer s H E hr;have nd:=Ta.nd;exact(AO (Af nd (Bf AF1 (hb.get "sorted") AGF (AC vv AK))) (AO (Ie nd rfl (Ce vv) (El (N:=KA) (N':=["example"]) (n:=1) (idx:=[]) (fnames:=(Aa Jy).names) rfl (λ_=>rfl) rfl (by decide +kernel)) (λ_ _ _ _ _ _=>⟨(BC (i:=0) (show(["example"]:List Str).Nodup by decide +kernel)),FW,(BI vv AL)⟩)) (AO (Af nd (HB JA (hb.get "tuple") HD (AC (IN rfl (Ce vv) (El (N:=KA) (N':=["example"]) (n:=1) (idx:=[]) (fnames:=(Aa Jy).names) rfl (λ_=>rfl) rfl (by decide +kernel)) (λ_ _ _ _ _ _=>⟨(BC (i:=0) (show(["example"]:List Str).Nodup by decide +kernel)),FW,(BI vv AL)⟩)) AK))) (AO (Af nd (OD zg9 hr (AC (HB JA (hb.get "tuple") HD (AC vv AK)) (AC (BF zh9 hr (AC vv (AC vv (AC vv AK)))) AK)))) (AO (FV (Ew HQ AJ6 AJ7 Rb (CO vv (Bk zp Bj)) (AC (IN rfl (Ce (IM zf9)) (El (N:=KA) (N':=["length","table","wanted"]) (n:=1) (idx:=[5,4]) (fnames:=(Aa Jy).names) rfl (λ_=>rfl) rfl (by decide +kernel)) (λ_ _ _ _ _ _=>⟨(BC (i:=0) (show(["length","table","wanted"]:List Str).Nodup by decide +kernel)),FW,(BF ze3 hr (AC vv (AC vv (AC vv AK))))⟩)) AK))) (AQ (Aj vv)))))))
abbrev MU:Stmt:=Bg pW 22
theorem TY:BP Mr ["table"] (Aa MU):=by wtm_at "sc"
theorem ZC(hb:BW mg BZ)(zc:Ba K "Node" "ways")(ze:Ba K "Table" "nodes")(zp:Ba K "Table" "roots"):Be P w K mg base k Mr "many" MU (Ox):=by intro cdv f A outer s H E hr;have nd:=TY.nd;exact(AQ (Aj (Bf (AF0 rfl) (hb.get "sum") AGE (AC (IN rfl (Ce (CO vv (Bk zp Bj))) (El (N:=Mr) (N':=["root","table"]) (n:=1) (idx:=[0]) (fnames:=(Aa MU).names) rfl (λ_=>rfl) rfl (by decide +kernel)) (λ_ _ _ _ _ _=>⟨(BC (i:=0) (show(["root","table"]:List Str).Nodup by decide +kernel)),FW,(CO (BI (CO vv (Bk ze Bj)) vv) (Bk zc Bj))⟩)) AK))))
abbrev Py:Stmt:=Bg pW 23
theorem TV:BP Ot ["node","number"] (Aa Py):=by wtm_at "sc"
theorem ZA(hb:BW mg BZ)(zr:Ba K "Node" "arms"):Be P w K mg base k Ot "arm_answers" Py (Op):=by intro cdv f A outer s H E hr;have nd:=TV.nd;exact(AO (Af nd Ea) (AO (Cj PassesOwn.never rfl (VW (CO vv (Bk zr Bj))) (IC (n:=2) rfl (Cp (BC nd) (Cp (BC nd) GY))) (AO (BG (Ay Hc (BI vv AL) vv rfl) (AQ ABO) BH) (AQ (Af nd vv)))) (AQ (Aj vv))))
abbrev Pt:Stmt:=Bg pW 24
theorem TR:BP Om ["table","root","number"] (Aa Pt):=by wtm_at "sc"
theorem Yy(hb:BW mg BZ)(zr:Ba K "Node" "arms")(zc:Ba K "Node" "ways")(zt:Ba K "Table" "groups")(ze:Ba K "Table" "nodes"){zc2:GL}(zk9:BA P w K mg base k "arm_answers" zc2):Be P w K mg base k Om "row_from" Pt (Og zc2):=by intro cdv f A outer s H E hr;have nd:=TR.nd;exact(AO (Af nd (CN AK)) (AO (Af nd (Fe Ia (CO vv (Bk ze Bj)) vv (λ_ _=>rfl))) (AO (ABL PassesOwn.never (Ay Hc (Bf AF3 (hb.get "len") DC (AC (CO vv (Bk zr Bj)) AK)) AL rfl) (AO (Af nd (BF zk9 hr (AC vv (AC vv AK)))) (AO (Af nd (Fe (KB hr.units) (CO vv (Bk zr Bj)) vv (λ_ _=>rfl))) (AO (Af nd (Fe Ia (CO vv (Bk ze Bj)) (Fe Ia vv AL (λ_ _=>rfl)) (λ_ _=>rfl))) (AO (Af nd (AU JS vv (Fe Ia vv AL (λ_ _=>rfl)))) (AO (FV (Ew HQ AIt AIu Hx vv (AC (Fe Ia (Fe (KB hr.units) (CO vv (Bk zt Bj)) vv (λ_ _=>rfl)) (AU Cn vv (CO vv (Bk zc Bj))) (λ_ _=>rfl)) AK))) (AO (Af nd (AU Bs vv (CO vv (Bk zc Bj)))) (AQ (Af nd vv))))))))) (AQ (Aj (HB JA (hb.get "tuple") HD (AC vv AK)))))))
abbrev Jx:Stmt:=Bg pW 25
theorem MS:BP zw ["table","number"] (Aa Jx):=by wtm_at "sc"
section
variable {P:Program}{w:World}{K:AM}{mg:AKO}{base:Heap}{k:Nat}{f:Addr}{cdv:Value}{A:Around}{outer:List Env}{s:Shared}{H:Hp}{E:XK}
theorem Yw(hr:Bq k (A.deeper (envOfC "row_at" (Aa Jx) s.heap.objs.size f cdv)))(hb:BW mg BZ)(zc:Ba K "Node" "ways")(ze:Ba K "Table" "nodes")(zp:Ba K "Table" "roots"){zh:GL}(zu2:BA P w K mg base k "row_from" zh){zb:Addr}(zb1:Cg K "NoNumber" zb) :
  JG (Dt (GB P w) P w K mg base zw "row_at" (Aa Jx) f cdv A outer s H E) (Ff Jx) (LC zh) (Qg zh):=by
 have nd:zw.Nodup:=MS.nd;exact(Um (AA0 (Ay Ik (HA (pv 1)) AL rfl) (Ul (UY zb1 rfl)) AA5) (Um (AAz (Cj PassesOwn.never rfl (Ce (CO (HA (pv 0)) (Bk zp Bj))) (BC (i:=2) nd) (AO (Af (i:=3) nd (CO (Fe Ia (CO (HA (pv 0)) (Bk ze Bj)) (HA (pv 2)) (λ_ _=>rfl)) (Bk zc Bj))) (AO (BG (Ay Ik (HA (pv 1)) (HA (pv 3)) rfl) (AQ (Aj (BF zu2 hr (AC (HA (pv 0)) (AC (HA (pv 2)) (AC (HA (pv 1)) AK)))))) BH) (AQ (Uy (i:=1) nd (HA (pv 3)) Wj)))))) (Ul (UY zb1 rfl))))
end
theorem Yu(hb:BW mg BZ)(zc:Ba K "Node" "ways")(ze:Ba K "Table" "nodes")(zp:Ba K "Table" "roots"){zh:GL}(zu2:BA P w K mg base k "row_from" zh):Be P w K mg base k zw "row_at" Jx (LC zh):=by intro cdv f A outer s H E hr;have nd:=MS.nd;exact(AO (BG (Ay Ik vv AL rfl) (AQ Ux) BH) (AO (Cj PassesOwn.never rfl (Ce (CO vv (Bk zp Bj))) (BC nd) (AO (Af nd (CO (BI (CO vv (Bk ze Bj)) vv) (Bk zc Bj))) (AO (BG (Ay Ik vv vv rfl) (AQ (Aj (BF zu2 hr (AC vv (AC vv (AC vv AK)))))) BH) (AQ (Uy nd vv Wj))))) (AQ Ux)))
abbrev Pk:Stmt:=Bg pW 61
theorem TN:BP LB ["_law_table","_law_number"] (Aa Pk):=by wtm_at "sc"
theorem Zp(hb:BW mg BZ){zh2:Addr}{zi2:Addr}{zb:Addr}{zj2:Addr}{zk2:Addr}{zl2:Addr}(zm9:Cg K "FitError" zh2)(zn9:Cg K "NoExample" zi2)(zb1:Cg K "NoNumber" zb)(zo9:Cg K "NoProgram" zj2)(zp9:Cg K "NothingFits" zk2)(zq9:Cg K "Twice" zl2)(zr4:GA K zb)(KA_NoNumber_NoExample_NoProgram_NothingFits_Twice:AJP K (.ref zb) ([zi2,zj2,zk2,zl2].map Value.ref)=some false)(KO_NoNumber:AIz K (.ref zb) (.type "ValueError")=some true)(zr9:JD K "NoNumber" zh2)(zs9:JD K "NoNumber" zb){zf:GL}{za1:HN}(zs4:JJ P w K mg base k "row_at" zf za1):Be P w K mg base k LB "_law_refused" Pk (Mq zf za1):=by intro cdv f A outer s H E hr;have nd:=TN.nd;exact(AO (Af nd Eb) (AO (Af nd Ea) (AO (ABN zs4 hr (AC vv (AC vv AK)) zb1 (Uc zs9) (λ_=>(AQ (Af nd Eb))) rfl rfl) (AO (ABM (i:=4) zs4 hr (AC vv (AC vv AK)) zm9 (Uc zr9) nd (λ_=>(AQ (Af nd (CN (AC (AFe (i:=4) (AEl zb1 zr4 KO_NoNumber) (hb.get "isinstance") (hb.get "ValueError")) (AC (AFf (i:=4) (Cs:=[zi2,zj2,zk2,zl2]) (NV (NV (NV (NV ADB zq9.ns) zp9.ns) zo9.ns) zn9.ns) (by show 4<=sizeLine;decide) (AEk zb1 zr4 KA_NoNumber_NoExample_NoProgram_NothingFits_Twice) (hb.get "isinstance")) AK)))))) rfl rfl) (AQ (Aj (SJ vv (OC (IP (ADb hr.units) vv (CN (AC Eb (AC Eb AK))) rfl)))))))))
abbrev PD:Stmt:=Bg pW 57
theorem TL:BP Qb ["_law_thing"] (Aa PD):=by wtm_at "sc"
theorem Zn(hb:BW mg BZ):Be P w K mg base k Qb "_law_is_place" PD (QY):=by intro cdv f A outer s H E hr;have nd:=TL.nd;exact(AO (BG (FU (Eg (Ei (Dg (Bf IR (hb.get "isinstance") HE (AC vv (AC (IL (hb.get "tuple") HD) AK))))) (GO (Ay LR (Bf DK (hb.get "len") DC (AC vv AK)) AL rfl)))) (AQ (Aj Eb)) BH) (AO (BG (FU (Eg (Ei (Dg (Bf IR (hb.get "isinstance") HE (AC (BI vv AL) (AC (IL (hb.get "int") SO) AK))))) (Eg (Dg (Bf IR (hb.get "isinstance") HE (AC (BI vv AL) (AC (IL (hb.get "bool") AGH) AK)))) (GO (Ay JT (BI vv AL) (EA (AC AL (AC AL (AC (Jg AL) (AC (Jg AL) AK))))) rfl))))) (AQ (Aj Eb)) BH) (AO (BG (FU (Eg (Ei (Dg (Bf IR (hb.get "isinstance") HE (AC (BI vv AL) (AC (IL (hb.get "str") OJ) AK))))) (GO (Ei (Dg (Bf IR (hb.get "isinstance") HE (AC (BI vv AL) (AC (IL (hb.get "str") OJ) AK)))))))) (AQ (Aj Eb)) BH) (AQ (Aj (SJ (IP LS (BI vv AL) (EA (AC BE (AC BE (AC BE (AC BE (AC BE AK)))))) rfl) (OC (IP LS (BI vv AL) (EA (AC BE (AC BE AK))) rfl))))))))
abbrev Oz:Stmt:=Bg pW 58
theorem TJ:BP QV ["_law_thing","_law_words_here"] (Aa Oz):=by wtm_at "sc"
theorem Zl(hb:BW mg BZ){zg1:GL}(zt4:BA P w K mg base k "_law_is_place" zg1):Be P w K mg base k QV "_law_is_row" Oz (QQ zg1):=by intro cdv f A outer s H E hr;have nd:=TJ.nd;exact(AO (BG (FU (Eg (Ei (Dg (Bf IR (hb.get "isinstance") HE (AC vv (AC (IL (hb.get "tuple") HD) AK))))) (GO (Ei (AAV Vl Vl AL (Bf DK (hb.get "len") DC (AC vv AK)) AL))))) (AQ (Aj Eb)) BH) (AO (Cj PassesOwn.never rfl (Ce vv) (BC nd) (AO (BG (FU (Eg (Ei (Dg (Bf IR (hb.get "isinstance") HE (AC vv (AC (IL (hb.get "tuple") HD) AK))))) (Eg (Ay Ik (Bf DK (hb.get "len") DC (AC vv AK)) AL rfl) (GO (Ei (Dg (Bf IR (hb.get "isinstance") HE (AC (BI vv AL) (AC (IL (hb.get "str") OJ) AK))))))))) (AQ (Aj Eb)) BH) (AQ (BG (Ay Co (BI vv AL) BE rfl) (AQ (BG (FU (Eg (Ay LR (Bf DK (hb.get "len") DC (AC vv AK)) AL rfl) (Eg (Ei (Dg (Bf IR (hb.get "isinstance") HE (AC (BI vv AL) (AC (IL (hb.get "str") OJ) AK))))) (GO (Ay JT (BI vv AL) vv rfl))))) (AQ (Aj Eb)) BH)) (AQ (BG (FU (Eg (Ay LR (Bf DK (hb.get "len") DC (AC vv AK)) AL rfl) (GO (Ay JT (BI vv AL) (EA (AC BE (AC BE (AC BE AK)))) rfl)))) (AQ (Aj Eb)) (AQ (BG (FU (Eg (Ei (Dg (BF zt4 hr (AC (BI vv AL) AK)))) (GO (Ei (Dg (BF zt4 hr (AC (BI vv AL) AK))))))) (AQ (Aj Eb)) BH)))))))) (AQ (Aj Eb))))
abbrev Ow:Stmt:=Bg pW 59
theorem TC:BP QL ["_law_row_here","_law_words_here","_law_examples"] (Aa Ow):=by wtm_at "sc"
theorem Zj(hb:BW mg BZ){zo:GL}(zr2:BA P w K mg base k "_law_row_answer" zo){zd2:GL}(zw9:BA P w K mg base k "_law_is_row" zd2):Be P w K mg base k QL "_law_row_fits" Ow (QH zo zd2):=by intro cdv f A outer s H E hr;have nd:=TC.nd;exact(AO (BG (Ei (Dg (BF zw9 hr (AC vv (AC vv AK))))) (AQ (Aj Eb)) BH) (AO (Cj PassesOwn.never rfl (Ce vv) (IC (n:=2) rfl (Cp (BC nd) (Cp (BC nd) GY))) (AQ (BG (Ay (ADZ hr.units) (BF zr2 hr (AC vv (AC vv AK))) vv rfl) (AQ (Aj Eb)) BH))) (AQ (Aj Eb))))
abbrev Jw:Stmt:=Bg pW 62
theorem Sz:BP QE ["_law_script"] (Aa Jw):=by wtm_at "sc"
theorem Zh(hb:BW mg BZ){za:GL}(zj:BA P w K mg base k "_law_cell" za){zo1:GL}(zx9:BA P w K mg base k "_law_made" zo1){zb2:GL}(zy9:BA P w K mg base k "table_of" zb2){zf1:GL}(zu4:BA P w K mg base k "many" zf1){zf:GL}(zz9:BA P w K mg base k "row_at" zf){zx:GL}(zw2:BA P w K mg base k "_law_refused" zx){ze2:GL}(za10:BA P w K mg base k "_law_row_fits" ze2):Be P w K mg base k QE "law" Jw (QB za zo1 zb2 zf1 zf zx ze2):=by intro cdv f A outer s H E hr;have nd:=Sz.nd;exact(AO (Qw rfl (BF zx9 hr (AC vv AK)) (Cp (BC nd) (Cp (BC nd) (Cp (BC nd) GY)))) (AO (BG (Ay Co (AU Bs (BF zj hr (AC vv (AC AL AK))) AL) AL rfl) (AQ (Af nd (CN AK))) BH) (AO (Af nd (BF zy9 hr (AC vv (AC vv AK)))) (AO (Af nd (BF zu4 hr (AC vv AK))) (AO (Af nd (BI (CN (AC AL (AC (AU Bs (AU Cn (BF zj hr (AC vv (AC AL AK))) AL) AL) (AC (AU Cn (BF zj hr (AC vv (AC AL AK))) AL) AK)))) (AU Bs (AU Cn (BF zj hr (AC vv (AC AL AK))) AL) AL))) (AO (BG (FU (Eg (Ei (Dg (BF zw2 hr (AC vv (AC (AU DB vv vv) AK))))) (Eg (Ei (Dg (BF zw2 hr (AC vv (AC (AU JS (Jg AL) vv) AK))))) (GO (Ei (Dg (BF zw2 hr (AC vv (AC vv AK))))))))) (AQ (Aj Eb)) BH) (AO (BG (Ay Hc vv AL rfl) (AQ (Cj PassesOwn.never rfl (Ce (CN (AC AL (AC (AU JS vv AL) AK)))) (BC nd) (AQ (BG (Ei (Dg (BF za10 hr (AC (BF zz9 hr (AC vv (AC vv AK))) (AC vv (AC vv AK)))))) (AQ (Aj Eb)) BH)))) BH) (AQ (Aj (SJ (IP Co (BF zu4 hr (AC vv AK)) vv rfl) (OC (BF zw2 hr (AC vv (AC (AU DB vv vv) AK))))))))))))))
end
theorem AGe{l:PySem.W.OpenLaw}{w:World}{K:AM}{h:Heap}{mg:AKO}{fa:Addr}(X:K.In h)(G:h.Ns mainGlobals mg)(hfa:mg "law"=some (.ref fa))
  {r1:Addr} {o1:Option Addr} {n1:Nat} {l1:Array (Option Value)}
  {t2:Tok}
  {t3:Tok}
  {t4:Tok}
  {r7:Addr} {o7:Option Addr} {n7:Nat} {l7:Array (Option Value)}
  {t8:Tok}
  {t9:Tok}
  {t12:Tok}
  {r14:Addr} {o14:Option Addr} {n14:Nat} {l14:Array (Option Value)}
  {t15:Tok}
  {t16:Tok}
  {t17:Tok}
  {t18:Tok}
  {t19:Tok}
  {t22:Tok}
  {r24:Addr} {o24:Option Addr} {n24:Nat} {l24:Array (Option Value)}
  {t25:Tok}
  {t26:Tok}
  {t27:Tok}
  {t28:Tok}
  {r31:Addr} {o31:Option Addr} {n31:Nat} {l31:Array (Option Value)}
  {t32:Tok}
  {t33:Tok}
  {t34:Tok}
  {r37:Addr} {o37:Option Addr} {n37:Nat} {l37:Array (Option Value)}
  {r38:Addr} {o38:Option Addr} {n38:Nat} {l38:Array (Option Value)}
  {t39:Tok}
  {t40:Tok}
  {r42:Addr} {o42:Option Addr} {n42:Nat} {l42:Array (Option Value)}
  {t43:Tok}
  {t44:Tok}
  {r46:Addr} {o46:Option Addr} {n46:Nat} {l46:Array (Option Value)}
  {t47:Tok}
  {t48:Tok}
  {r50:Addr} {o50:Option Addr} {n50:Nat} {l50:Array (Option Value)}
  {t51:Tok}
  {t52:Tok}
  {zy:Addr}
  {zk:Addr}
  {zh2:Addr}
  {zi2:Addr}
  {zb:Addr}
  {zj2:Addr}
  {zk2:Addr}
  {zl2:Addr}
  {zu11:Addr}
  {zv11:Addr}
  {zw11:Addr}
  {zx11:Addr}
  {zy11:Addr}
  {zz11:Addr}
  {za12:Addr}
  {zb12:Addr}
  {zc12:Addr}
  {zd12:Addr}
  {ze12:Addr}
  {zf12:Addr}
  {zg12:Addr}
  {zh12:Addr}
  {zi12:Addr}
  {zb10:Addr}
  {zc10:Addr}
  {zj12:Addr}
  {zk12:Addr}
  {zl12:Addr}
  {zm12:Addr}
  {zn12:Addr}
  {zo12:Addr}
  {zp12:Addr}
  {zq12:Addr}
  {zr12:Addr}
  {zs12:Addr}
  {zt12:Addr}
  {zu12:Addr}
  {zv12:Addr}
  {zw12:Addr}
  {zx12:Addr}
  {zy12:Addr}
  {zz12:Addr}
  {za13:Addr}
  {zb13:Addr}
  {zc13:Addr}
  {zd13:Addr}
  {ze13:Addr}
  {zf13:Addr}
  {zg13:Addr}
  {zh13:Addr}
  (q6:Bw K mainGlobals "DEEDS"=some (some (.ref r1)))
  (q5:K.lookup r1=some ⟨.type "tuple",o1,.seq ([.str "copy" t2,.str "raise" t3,.str "sink" t4]:List Value).toArray n1,l1⟩)
  (q11:Bw K mainGlobals "EDGES"=some (some (.ref r7)))
  (q10:K.lookup r7=some ⟨.type "tuple",o7,.seq ([.str "ahead" t8,.str "behind" t9]:List Value).toArray n7,l7⟩)
  (q13:Bw K mainGlobals "END"=some (some (.int (0) t12)))
  (q21:Bw K mainGlobals "KINDS"=some (some (.ref r14)))
  (q20:K.lookup r14=some ⟨.type "tuple",o14,.seq ([.str "small" t15,.str "great" t16,.str "figure" t17,.str "mark" t18,.str "any" t19]:List Value).toArray n14,l14⟩)
  (q23:Bw K mainGlobals "NOWHERE"=some (some (.int (1) t22)))
  (q30:Bw K mainGlobals "NTHS"=some (some (.ref r24)))
  (q29:K.lookup r24=some ⟨.type "tuple",o24,.seq ([.int (1) t25,.int (2) t26,.int (-1) t27,.int (-2) t28]:List Value).toArray n24,l24⟩)
  (q36:Bw K mainGlobals "ROW_LENGTHS"=some (some (.ref r31)))
  (q35:K.lookup r31=some ⟨.type "tuple",o31,.seq ([.int (1) t32,.int (2) t33,.int (3) t34]:List Value).toArray n31,l31⟩)
  (q55:Bw K mainGlobals "SIGNS_BY_KIND"=some (some (.ref r37)))
  (q54:K.lookup r37=some ⟨.type "tuple",o37,.seq ([.ref r38,.ref r42,.ref r46,.ref r50]:List Value).toArray n37,l37⟩)
  (q41:K.lookup r38=some ⟨.type "tuple",o38,.seq ([.str "small" t39,.str "abcdefghijklmnopqrstuvwxyz" t40]:List Value).toArray n38,l38⟩)
  (q45:K.lookup r42=some ⟨.type "tuple",o42,.seq ([.str "great" t43,.str "ABCDEFGHIJKLMNOPQRSTUVWXYZ" t44]:List Value).toArray n42,l42⟩)
  (q49:K.lookup r46=some ⟨.type "tuple",o46,.seq ([.str "figure" t47,.str "0123456789" t48]:List Value).toArray n46,l46⟩)
  (q53:K.lookup r50=some ⟨.type "tuple",o50,.seq ([.str "mark" t51,.str " -.,/" t52]:List Value).toArray n50,l50⟩)
  (q56:Bw K mainGlobals "ValueError"=some none)
  (q57:Bw K mainGlobals "abs"=some none)
  (q58:Bw K mainGlobals "all"=some none)
  (q59:Bw K mainGlobals "bool"=some none)
  (q60:Bw K mainGlobals "enumerate"=some none)
  (q61:Bw K mainGlobals "int"=some none)
  (q62:Bw K mainGlobals "isinstance"=some none)
  (q63:Bw K mainGlobals "len"=some none)
  (q64:Bw K mainGlobals "list"=some none)
  (q65:Bw K mainGlobals "min"=some none)
  (q66:Bw K mainGlobals "range"=some none)
  (q67:Bw K mainGlobals "sorted"=some none)
  (q68:Bw K mainGlobals "str"=some none)
  (q69:Bw K mainGlobals "sum"=some none)
  (q70:Bw K mainGlobals "tuple"=some none)
  (q71:Bw K mainGlobals "zip"=some none)
  (q72:Bw K mainGlobals "Node"=some (some (.ref zy)))
  (q73:AJV K zy Str.empty=true)
  (q74:AJW K zy=true)
  (q75:AJf K zy=true)
  (q76:Cw K (.ref zy) "__setattr__"=some (some (.builtin "object.__setattr__")))
  (q77:AJg K zy=true)
  (q78:GH K (.ref zy)=true)
  (q79:Bw K mainGlobals "Table"=some (some (.ref zk)))
  (q80:AJV K zk Str.empty=true)
  (q81:AJW K zk=true)
  (q82:AJf K zk=true)
  (q83:Cw K (.ref zk) "__setattr__"=some (some (.builtin "object.__setattr__")))
  (q84:AJg K zk=true)
  (q85:GH K (.ref zk)=true)
  (q86:Cw K (.ref zy) "arms"=some none)
  (q87:Cw K (.ref zy) "ways"=some none)
  (q88:Cw K (.ref zk) "groups"=some none)
  (q89:Cw K (.ref zk) "members"=some none)
  (q90:Cw K (.ref zk) "node_numbers"=some none)
  (q91:Cw K (.ref zk) "nodes"=some none)
  (q92:Cw K (.ref zk) "roots"=some none)
  (q93:Cw K (.ref zk) "words"=some none)
  (q94:Bw K mainGlobals "FitError"=some (some (.ref zh2)))
  (q95:AI4 K zh2 JB "ValueError.__new__"=true)
  (q96:Bw K mainGlobals "NoExample"=some (some (.ref zi2)))
  (q97:AI4 K zi2 JB "ValueError.__new__"=true)
  (q98:Bw K mainGlobals "NoNumber"=some (some (.ref zb)))
  (q99:AI4 K zb JB "ValueError.__new__"=true)
  (q100:Bw K mainGlobals "NoProgram"=some (some (.ref zj2)))
  (q101:AI4 K zj2 JB "ValueError.__new__"=true)
  (q102:Bw K mainGlobals "NothingFits"=some (some (.ref zk2)))
  (q103:AI4 K zk2 JB "ValueError.__new__"=true)
  (q104:Bw K mainGlobals "Twice"=some (some (.ref zl2)))
  (q105:AI4 K zl2 JB "ValueError.__new__"=true)
  (q106:Cw K (.ref zb) "__getattribute__"=some (some (.builtin "BaseException.__getattribute__")))
  (q107:Cw K (.ref zb) "__getattr__"=some none)
  (q108:Cw K (.ref zb) "__class__"=some (some (.builtin "object.__class__")))
  (q109:PySem.W.specialIn K (.builtin "object.__class__") "__get__"=some (some (.builtin "getset_descriptor.__get__")))
  (q110:PySem.W.takesIn K (.builtin "object.__class__")=some true)
  (q111:AIy K zb (.type "object")=some true)
  (q112:AJP K (.ref zb) ([zi2,zj2,zk2,zl2].map Value.ref)=some false)
  (q113:AIz K (.ref zb) (.type "ValueError")=some true)
  (q114:AIy K zb (.ref zh2)=some true)
  (q115:AIy K zb (.ref zb)=some true)
  (q116:Bh K "_law_text" zu11)
  (q117:Bc K "_law_text" "_law_text" Pu zu11)
  (q118:Bh K "_law_words" zv11)
  (q119:Bc K "_law_words" "_law_words" Pq zv11)
  (q120:Bh K "_law_place" zw11)
  (q121:Bc K "_law_place" "_law_place" Pl zw11)
  (q122:Bh K "_law_piece" zx11)
  (q123:Bc K "_law_piece" "_law_piece" Pg zx11)
  (q124:Bh K "_law_kind" zy11)
  (q125:Bc K "_law_kind" "_law_kind" Pd zy11)
  (q126:Bh K "_law_spot" zz11)
  (q127:Bc K "_law_spot" "_law_spot" Mp zz11)
  (q128:Bh K "_law_piece_answer" za12)
  (q129:Bc K "_law_piece_answer" "_law_piece_answer" PY za12)
  (q130:Bh K "_law_fitting" zb12)
  (q131:Bc K "_law_fitting" "_law_fitting" Mo zb12)
  (q132:Bh K "_law_row" zc12)
  (q133:Bc K "_law_row" "_law_row" PP zc12)
  (q134:Bh K "_law_cell" zd12)
  (q135:Bc K "_law_cell" "_law_cell" PF zd12)
  (q136:Bh K "_law_row_answer" ze12)
  (q137:Bc K "_law_row_answer" "_law_row_answer" Mm ze12)
  (q138:Bh K "_law_row_examples" zf12)
  (q139:Bc K "_law_row_examples" "_law_row_examples" Mj zf12)
  (q140:Bh K "_law_drawn_texts" zg12)
  (q141:Bc K "_law_drawn_texts" "_law_drawn_texts" LA zg12)
  (q142:Bh K "_law_made" zh12)
  (q143:Bc K "_law_made" "_law_made" Mh zh12)
  (q144:Bh K "members_of" zi12)
  (q145:Bc K "members_of" "members_of" Ol zi12)
  (q146:Cw K (.ref zy) "__init__"=some (some (.ref zb10)))
  (q147:PySem.W.isFn K (.ref zb10)=true)
  (q148:Bc K "__init__" "Node.__init__" Of zb10)
  (q149:Cw K (.ref zk) "__init__"=some (some (.ref zc10)))
  (q150:PySem.W.isFn K (.ref zc10)=true)
  (q151:Bc K "__init__" "Table.__init__" Qf zc10)
  (q152:Bh K "all_places" zj12)
  (q153:Bc K "all_places" "all_places" QP zj12)
  (q154:Bh K "kind_of" zk12)
  (q155:Bc K "kind_of" "kind_of" Pz zk12)
  (q156:Bh K "is_of" zl12)
  (q157:Bc K "is_of" "is_of" Pp zl12)
  (q158:Bh K "spot" zm12)
  (q159:Bc K "spot" "spot" Me zm12)
  (q160:Bh K "places_by_spots" zn12)
  (q161:Bc K "places_by_spots" "places_by_spots" Mc zn12)
  (q162:Bh K "stand_within" zo12)
  (q163:Bc K "stand_within" "stand_within" Ma zo12)
  (q164:Bh K "add_to_group" zp12)
  (q165:Bc K "add_to_group" "add_to_group" PX zp12)
  (q166:Bh K "stretches" zq12)
  (q167:Bc K "stretches" "stretches" PN zq12)
  (q168:Bh K "pieces_between" zr12)
  (q169:Bc K "pieces_between" "pieces_between" MY zr12)
  (q170:Bh K "done_to" zs12)
  (q171:Bc K "done_to" "done_to" PK zs12)
  (q172:Bh K "groups_of" zt12)
  (q173:Bc K "groups_of" "groups_of" Kz zt12)
  (q174:Bh K "answers_to_try" zu12)
  (q175:Bc K "answers_to_try" "answers_to_try" Oj zu12)
  (q176:Bh K "rest_behind" zv12)
  (q177:Bc K "rest_behind" "rest_behind" Oe zv12)
  (q178:Bh K "new_node" zw12)
  (q179:Bc K "new_node" "new_node" Qe zw12)
  (q180:Bh K "node_number" zx12)
  (q181:Bc K "node_number" "node_number" QU zx12)
  (q182:Bh K "table_of" zy12)
  (q183:Bc K "table_of" "table_of" Jy zy12)
  (q184:Bh K "many" zz12)
  (q185:Bc K "many" "many" MU zz12)
  (q186:Bh K "arm_answers" za13)
  (q187:Bc K "arm_answers" "arm_answers" Py za13)
  (q188:Bh K "row_from" zb13)
  (q189:Bc K "row_from" "row_from" Pt zb13)
  (q190:Bh K "row_at" zc13)
  (q191:Bc K "row_at" "row_at" Jx zc13)
  (q192:Bh K "_law_refused" zd13)
  (q193:Bc K "_law_refused" "_law_refused" Pk zd13)
  (q194:Bh K "_law_is_place" ze13)
  (q195:Bc K "_law_is_place" "_law_is_place" PD ze13)
  (q196:Bh K "_law_is_row" zf13)
  (q197:Bc K "_law_is_row" "_law_is_row" Oz zf13)
  (q198:Bh K "_law_row_fits" zg13)
  (q199:Bc K "_law_row_fits" "_law_row_fits" Ow zg13)
  (q200:Bh K "law" zh13)
  (q201:Bc K "law" "law" Jw zh13) :
  ∃fd:FuncData,(∀(s:Shared) (v:Value),BindsTo s fd ⟨[v],[]⟩ [("_law_script",v)])/\∀base:Heap,K.In base->base.Ns mainGlobals mg->Dv l.prog w K mg base CX0 14 fa fd ["_law_script"] (JQ K Jz):=by
 have zt8:Ef K mg "DEEDS" Md:=Ir (EC X G q6) (HU q5 (by show 3<=sizeLine;decide) (.cons (EQ (by decide)) (.cons (EQ (by decide)) (.cons (EQ (by decide)) .nil))));have zf8:Ef K mg "EDGES" Mf:=Ir (EC X G q11) (HU q10 (by show 2<=sizeLine;decide) (.cons (EQ (by decide)) (.cons (EQ (by decide)) .nil)));have ze9:Ef K mg "END" MZ:=Ir (EC X G q13) Hs;have zg8:Ef K mg "KINDS" Mn:=Ir (EC X G q21) (HU q20 (by show 5<=sizeLine;decide) (.cons (EQ (by decide)) (.cons (EQ (by decide)) (.cons (EQ (by decide)) (.cons (EQ (by decide)) (.cons (EQ (by decide)) .nil))))));have zo4:Ef K mg "NOWHERE" Ky:=Ir (EC X G q23) Hs;have zh8:Ef K mg "NTHS" Mi:=Ir (EC X G q30) (HU q29 (by show 4<=sizeLine;decide) (.cons Hs (.cons Hs (.cons Hs (.cons Hs .nil)))));have zf9:Ef K mg "ROW_LENGTHS" Mb:=Ir (EC X G q36) (HU q35 (by show 3<=sizeLine;decide) (.cons Hs (.cons Hs (.cons Hs .nil))));have zj8:Ef K mg "SIGNS_BY_KIND" Ml:=Ir (EC X G q55) (HU q54 (by show 4<=sizeLine;decide) (.cons (HU q41 (by show 2<=sizeLine;decide) (.cons (EQ (by decide)) (.cons (EQ (by decide)) .nil))) (.cons (HU q45 (by show 2<=sizeLine;decide) (.cons (EQ (by decide)) (.cons (EQ (by decide)) .nil))) (.cons (HU q49 (by show 2<=sizeLine;decide) (.cons (EQ (by decide)) (.cons (EQ (by decide)) .nil))) (.cons (HU q53 (by show 2<=sizeLine;decide) (.cons (EQ (by decide)) (.cons (EQ (by decide)) .nil))) .nil)))))
 have hb:BW mg BZ:=by
  intro x hx;simp only[BZ,Ac,EN,or_false] at hx;rcases hx with rfl|rfl|rfl|rfl|rfl|rfl|rfl|rfl|rfl|rfl|rfl|rfl|rfl|rfl|rfl|rfl
  .exact FR X G q56
  .exact FR X G q57
  .exact FR X G q58
  .exact FR X G q59
  .exact FR X G q60
  .exact FR X G q61
  .exact FR X G q62
  .exact FR X G q63
  .exact FR X G q64
  .exact FR X G q65
  .exact FR X G q66
  .exact FR X G q67
  .exact FR X G q68
  .exact FR X G q69
  .exact FR X G q70
  .exact FR X G q71
 have ca_Node:EK K "Node" zy:=q72;have cl_Node:Cls K zy:=⟨q73,q74,q75,q76⟩;have ca_Table:EK K "Table" zk:=q79;have cl_Table:Cls K zk:=⟨q80,q81,q82,q83⟩;have zr:Ba K "Node" "arms":=Iw ca_Node cl_Node q86;have zc:Ba K "Node" "ways":=Iw ca_Node cl_Node q87;have zt:Ba K "Table" "groups":=Iw ca_Table cl_Table q88;have zb8:Ba K "Table" "members":=Iw ca_Table cl_Table q89;have zg2:Ba K "Table" "node_numbers":=Iw ca_Table cl_Table q90;have ze:Ba K "Table" "nodes":=Iw ca_Table cl_Table q91;have zp:Ba K "Table" "roots":=Iw ca_Table cl_Table q92;have zc8:Ba K "Table" "words":=Iw ca_Table cl_Table q93;have zm9:Cg K "FitError" zh2:=⟨q94,q95⟩;have zn9:Cg K "NoExample" zi2:=⟨q96,q97⟩;have zb1:Cg K "NoNumber" zb:=⟨q98,q99⟩;have zo9:Cg K "NoProgram" zj2:=⟨q100,q101⟩;have zp9:Cg K "NothingFits" zk2:=⟨q102,q103⟩;have zq9:Cg K "Twice" zl2:=⟨q104,q105⟩;have zr4:GA K zb:=⟨q106,q107,q108,q109,q110,q111⟩;have KA_NoNumber_NoExample_NoProgram_NothingFits_Twice:=q112;have KO_NoNumber:=q113;have zr9:JD K "NoNumber" zh2:=⟨zb,zb1,q114⟩;have zs9:JD K "NoNumber" zb:=⟨zb,zb1,q115⟩;obtain⟨zp15,zi13⟩:=q148;have zf15:=zi13.binds (ps:=["self","ways"]) λ_ _ _ _ _ _ us hl=>by obtain⟨_,_,rfl⟩:=JV hl;rfl
 obtain⟨zq15,zj13⟩:=q151;have zg15:=zj13.binds (ps:=["self","words","groups"]) λ_ _ _ _ _ _ us hl=>by obtain⟨_,_,_,rfl⟩:=Im hl;rfl
 obtain⟨zr15,zd10⟩:=q179;have zh15:=zd10.binds (ps:=["table","length","rest"]) λ_ _ _ _ _ _ us hl=>by obtain⟨_,_,_,rfl⟩:=Im hl;rfl
 obtain⟨zs15,zv4⟩:=q181;have zk13:=zv4.binds (ps:=["table","length","rest"]) λ_ _ _ _ _ _ us hl=>by obtain⟨_,_,_,rfl⟩:=Im hl;rfl
 obtain⟨zt15,zf3⟩:=q191;have zl13:=zf3.binds (ps:=["table","number"]) λ_ _ _ _ _ _ us hl=>by obtain⟨_,_,rfl⟩:=JV hl;rfl
 obtain⟨zu15,zm13⟩:=q201;obtain⟨_,_,zi15,zj15,zk15,zl15,zm15,zn15,_,rfl,_,_⟩:=id zm13.ex;have e0:=hfa.symm.trans (EC X G q200);cases e0;refine⟨AIo "law" "law" (Jj Jw) (Ff Jw) (Aa Jw) .none zi15 zj15 zk15 zl15 zm15 zn15,λs v=>.of_eq rfl,λbase _ _=>?_⟩;have fq:=@AFM l.prog w K mg base h X G;have zp2:=fq zm rfl q116 q117 Tp (ZS (k:=0) hb) (by wtm_at "b2");have zu7:=fq zh1 rfl q118 q119 Tn (ZQ (k:=1) hb zp2.mn) (by wtm_at "b1");have zc4:=fq zc1 rfl q120 q121 Tk (ZO (k:=0) hb) (by wtm_at "b1");have zq7:=fq zi1 rfl q122 q123 Ti (ZM (k:=1) hb zc4.mn) (by wtm_at "b2");have zo7:=fq zj1 rfl q124 q125 Tf (ZK (k:=0) hb) (by wtm_at "b1");have ze4:=fq zu rfl q126 q127 Td (ZI (k:=1) hb zo7.mn) (by wtm_at "b2");have zq2:=fq zg rfl q128 q129 Tb (ZG (k:=2) hb ze4.mn) (by wtm_at "b2");have zs7:=fq zk1 rfl q130 q131 TZ (ZF (k:=3) hb zq7.mn zq2.mn) (by wtm_at "b3");have zv7:=fq zl1 rfl q132 q133 TW (ZD (k:=4) hb zs7.mn) (by wtm_at "b3");have zj:=fq za rfl q134 q135 TU (ZB (k:=0) hb) (by wtm_at "b2");have zr2:=fq zo rfl q136 q137 TQ (Yz (k:=3) hb zq2.mn) (by wtm_at "b2");have zw7:=fq zm1 rfl q138 q139 TM (Yx (k:=4) hb zr2.mn) (by wtm_at "b3");have zx7:=fq zn1 rfl q140 q141 TK (Yv (k:=1) hb zp2.mn zj.mn) (by wtm_at "b3");have zx9:=fq zo1 rfl q142 q143 TD (Zq (k:=5) hb zu7.mn zv7.mn zj.mn zw7.mn zx7.mn) (by wtm_at "b1");have zd8:=fq zd1 rfl q144 q145 TB (Zo (k:=0) hb) (by wtm_at "b1");have zm2:Fz l.prog w K mg base 2 "Node" zi:=XU zi13 Sy (λcdv A outer s H E hr=>Zm hb zr zc cdv _ A outer s H E hr) zf15 (EC X G q72) ca_Node ⟨q77,q146,q147,q78⟩;have zg9:Fz l.prog w K mg base 4 "Table" zp1:=XU zj13 Sx (λcdv A outer s H E hr=>Zk hb zt zb8 zg2 ze zp zc8 (zd8.mono (by decide:1<=2)) (zm2.mono (by decide:2<=2)) cdv _ A outer s H E hr) zg15 (EC X G q79) ca_Table ⟨q84,q149,q150,q85⟩;have zn8:=fq zq1 rfl q152 q153 Sw (Zi (k:=0) hb zf8 zg8 zh8) (by wtm_at "b0");have zl8:=fq zr1 rfl q154 q155 Sv (Zg (k:=0) hb zj8) (by wtm_at "b1");have zm8:=fq zs1 rfl q156 q157 Su (Zf (k:=1) hb zl8.mn) (by wtm_at "b2");have zo8:=fq zz rfl q158 q159 Ss (Ze (k:=2) hb zm8.mn) (by wtm_at "b2");have zu8:=fq zt1 rfl q160 q161 Tv (Zd (k:=3) hb zn8.mn zo8.mn) (by wtm_at "b1");have zq8:=fq zu1 rfl q162 q163 Tu (ZW (k:=0) hb) (by wtm_at "b2");have zn4:=fq ze1 rfl q164 q165 Tt (ZV (k:=1) hb zq8.mn) (by wtm_at "b4");have zv8:=fq zv1 rfl q166 q167 Ts (ZU (k:=0) hb) (by wtm_at "b3");have zw8:=fq zw1 rfl q168 q169 Tq (ZT (k:=0) hb) (by wtm_at "b3");have zx8:=fq zx1 rfl q170 q171 To (ZR (k:=0) hb) (by wtm_at "b2");have zh9:=fq zy1 rfl q172 q173 Tl (ZP (k:=4) hb zt8 zu8.mn zn4.mn zv8.mn zw8.mn zx8.mn) (by wtm_at "b3");have zb9:=fq zz1 rfl q174 q175 Tj (ZN (k:=0) hb zt) (by wtm_at "b3");have zc9:=fq za2 rfl q176 q177 Th (ZL (k:=0) hb) (by wtm_at "b2")
 have zo15:∀n,BA l.prog w K mg base (2+2*n) "node_number" (IZ n):=λn=>by
  induction n with
  |zero=>exact fnd_none zk13 (EC X G q180) zv4.kp
  |succ n ih =>
   have FI:BA l.prog w K mg base (2+2*n+1) "new_node" (ML (IZ n)):=OA zd10 Te (λcdv A outer s H E hr=>ZJ hb zo4 zr zc zt ze (zm2.mono (by omega:2<=2+2*n)) (zb9.mono (by omega:1<=2+2*n)) (zc9.mono (by omega:1<=2+2*n)) ih cdv _ A outer s H E hr) zh15 (EC X G q178) zd10.kp;exact OA zv4 Tc (λcdv A outer s H E hr=>ZH hb ze9 zg2 FI cdv _ A outer s H E hr) zk13 (EC X G q180) zv4.kp
 have ze3:BA l.prog w K mg base 12 "node_number" zq:=zo15 5;have zy9:=fq zb2 rfl q182 q183 Ta (ZE (k:=12) hb zf9 zp zg9.mn zh9.mn ze3.mn) (by wtm_at "b2");have zu4:=fq zf1 rfl q184 q185 TY (ZC (k:=0) hb zc ze zp) (by wtm_at "b1");have zk9:=fq zc2 rfl q186 q187 TV (ZA (k:=0) hb zr) (by wtm_at "b2");have zu2:=fq zh rfl q188 q189 TR (Yy (k:=1) hb zr zc zt ze zk9.mn) (by wtm_at "b3");have zz9:BA l.prog w K mg base 3 "row_at" zf:=OA zf3 MS (λcdv A outer s H E hr=>Yu hb zc ze zp (zu2.mono (by decide:2<=2)) cdv _ A outer s H E hr) zl13 (EC X G q190) zf3.kp;have zs4:JJ l.prog w K mg base 3 "row_at" zf za1:=AFK zf3 MS (λcdv A outer s H E hr=>Yw hr hb zc ze zp (zu2.mono (by decide:2<=2)) zb1) zl13 (EC X G q190) zf3.kp;have zw2:=fq zx rfl q192 q193 TN (Zp (k:=3) hb zm9 zn9 zb1 zo9 zp9 zq9 zr4 KA_NoNumber_NoExample_NoProgram_NothingFits_Twice KO_NoNumber zr9 zs9 (zs4.mono (by decide:3<=3))) (by wtm_at "b2");have zt4:=fq zg1 rfl q194 q195 TL (Zn (k:=0) hb) (by wtm_at "b1");have zw9:=fq zd2 rfl q196 q197 TJ (Zl (k:=1) hb zt4.mn) (by wtm_at "b2");have za10:=fq ze2 rfl q198 q199 TC (Zj (k:=4) hb zr2.mn zw9.mn) (by wtm_at "b3");exact SE zm13 Sz Jz _ (λ_ _ _ h=>NJ h) (λcdv A outer s H E hr=>Zh hb (zj.mono (by decide:1<=13)) (zx9.mono (by decide:6<=13)) (zy9.mono (by decide:13<=13)) (zu4.mono (by decide:1<=13)) (zz9.mono (by decide:3<=13)) (zw2.mono (by decide:4<=13)) (za10.mono (by decide:5<=13)) cdv _ A outer s H E hr) (λ_ _ _ _ h=>NI h)
end L3
open PySem PySem.W PyProof.Rows
namespace PySem.Challenge.cw_byexample_k33_no_number_holds
def tw5760827826195062734:=()
def tw2121719050834914591:=()
def tw4926066840681069000:=()
def tw6541899849739897542:=()
def tw13046406924834745183:=()
def tw3277267858971042916:=()
def tw5235649151229829545:=()
def tw6167946857259926843:=()
def tw1777996953926777282:=()
def tw15387653504641443547:=()
def tw7735812375311596230:=()
def tw15094094284885307734:=()
def tw2540256775270998594:=()
def tw15978613303065751986:=()
def tw17724538709039646930:=()
def tw10723895684587064727:=()
def tw17138836849443958455:=()
def tw9534604965873364400:=()
def tw1395097946147575920:=()
def tw12181940858505637888:=()
def tw3095003461851872848:=()
def tw2093422157713203336:=()
def tw6591097856828342746:=()
def tw5948645984950724451:=()
def tw8548887764852944011:=()
def tw8526875747930376580:=()
def tw16361761238200221540:=()
def tw4417709500977934534:=()
def tw7779866471865387583:=()
def tw13566516023133282571:=()
def tw8676199929090224055:=()
def tw8558549904331771712:=()
def tw446529284640651011:=()
def tw4693002343600304619:=()
def tw4681383768096152277:=()
def tw368263780264410149:=()
def tw6035834127680357748:=()
def tw11182944021195005021:=()
def tw2001742719257739040:=()
def tw5374548273896880403:=()
def tw11260178279769816656:=()
def tw9509249200438689964:=()
def tw5564051202166200222:=()
def tw1310575570917663001:=()
def tw8146208156283844190:=()
def tw10386695452622141358:=()
def tw6255081020733619864:=()
def tw18056763608565414400:=()
def tw2022471910277844273:=()
def tw9916911786389022900:=()
def tw9548309085192640826:=()
def tw18079747889694627831:=()
def tw6312103954989136040:=()
def tw16857528641092383789:=()
def tw16328927120564509571:=()
def tw14475967691335076780:=()
def tw17773354467259597700:=()
def tw18246175707728635227:=()
def tw8058515086362582925:=()
def tw13859576799795189688:=()
def tw8679110227516265185:=()
def tw15386049496970698546:=()
def tw9883647248110578680:=()
def tw17593317323690308980:=()
def tw13426024523337033298:=()
def tw4737056569373668585:=()
def tw4639610033721265346:=()
def tw6651809378518273171:=()
def tw15101656062614230288:=()
def tw11160723902788316006:=()
def tw13457280774178950588:=()
def tw8294799766462680230:=()
def tw4935973229155900006:=()
def tw9261814601116616011:=()
def tw3937016160117164576:=()
def tw17413948493312715173:=()
def tw2251090694052078650:=()
def tw14926841160436698869:=()
def tw8602516983912605339:=()
def tw8285215429017765079:=()
def tw7097363219288601431:=()
def tw136236946735213071:=()
def tw8974179686107314737:=()
def tw6457712662335367807:=()
def tw11910044170710024871:=()
def tw15541859905683060915:=()
def tw7445093335195682423:=()
def tw42833835987479892:=()
def tw2898909999787559754:=()
def tw5449368322351023848:=()
def tw8751098935533879187:=()
def tw17817267999458736291:=()
def tw3521078421772067260:=()
def tw1454311775964098779:=()
def tw14329103362058725030:=()
def tw18336566117187460717:=()
def tw12052018023841410483:=()
def tw8980541391563804845:=()
def tw10824880633660301315:=()
def tw7214028573173795336:=()
def tw3287103364709075785:=()
def tw9160854221058843874:=()
def tw4180672055380512659:=()
def tw7955450164103884772:=()
def tw3672882535005204230:=()
def tw7049724384498022708:=()
def tw8530011188729825284:=()
def tw1798766449445863909:=()
def tw14125327580605483609:=()
def tw3376233086478422330:=()
def tw9405725440850117263:=()
def tw909636223424180890:=()
def tw15576982846118632858:=()
def tw2323910560121553028:=()
def tw415533858098177479:=()
def tw12898727916250967772:=()
def tw8095228053510621940:=()
def tw5333100596328781365:=()
def tw3763956245026581048:=()
def tw5057899816836702823:=()
def tw4568707600263356039:=()
def tw12690132781828258465:=()
def tw1036108238028679930:=()
def tw413877212463568557:=()
def tw3929331716640751584:=()
def tw13620227303777939524:=()
def tw7408364923041201229:=()
def tw11561171203028417273:=()
def tw14363438432305238491:=()
def tw12454975019323768730:=()
def tw6061562247367529672:=()
def tw3462759260738643749:=()
def tw2844751548412650946:=()
def tw4166568410368083562:=()
def tw10198446640046392784:=()
def tw18112504072240206687:=()
def tw259351797614767694:=()
def tw4346722353799978883:=()
def tw2685250076308510715:=()
def tw11298963068215210219:=()
def tw11674658601412696934:=()
def tw11614787444530399575:=()
def tw4653369511396985178:=()
def tw974185978546602136:=()
def tw12973209657899231641:=()
def tw4621675123398967664:=()
def tw10332185472013725333:=()
def tw13342878878851461915:=()
def tw15963643405748052147:=()
def tw16830510256520967349:=()
def tw15967499901946663055:=()
def tw17226881176725870581:=()
def tw17760168667062645629:=()
def tw16824846517442240604:=()
def tw3429028485783838716:=()
def tw16492950618593885512:=()
def tw12282453912607370864:=()
def tw745880290994895434:=()
def tw3999272404437925211:=()
def tw13882731653609520644:=()
def tw14612829051517360804:=()
def tw18220722797364677118:=()
def tw835393971438620514:=()
def tw15053470490705511398:=()
def tw6832678280996397757:=()
def tw12542069447189208239:=()
def tw3424653696913381883:=()
def tw18438238319250203025:=()
def tw3697611042056785772:=()
def tw7359898124833953433:=()
def tw919753216644177129:=()
def tw9547253434960729180:=()
def tw1740130174520690973:=()
def tw13489207775383270986:=()
def tw13335614606253676476:=()
def tw13598132002542014920:=()
def tw11399770467618298660:=()
def tw1463462241552256748:=()
def tw3087193633120153484:=()
def tw7203037252056314034:=()
def tw7840221850540424597:=()
def tw7822558396031889807:=()
def tw4454621280984077780:=()
def tw3204493176481168631:=()
def tw10590485292723849488:=()
def tw7183819416512209657:=()
def tw14326878136204941849:=()
def tw863261017311387182:=()
def tw8364325737869758590:=()
def tw12108788472666247360:=()
def tw7094021468845077480:=()
def tw15169806438143667436:=()
def tw10594966615356546538:=()
def tw15406264080760544680:=()
def tw5347218468839543314:=()
def tw6223940742011505599:=()
def tw4429382490321669101:=()
def tw4901504204096972427:=()
def tw7703205314260260176:=()
def tw17332431111105746607:=()
def tw16956624747413518091:=()
def tw13835276667970654472:=()
def tw9200141264287350523:=()
def tw12382021079729713237:=()
def tw3132029555604006153:=()
def tw17601124301198789102:=()
def tw244703258524155136:=()
def tw3882378316548075757:=()
def tw12627787597437183:=()
def tw8953390398422209155:=()
def tw2852492133386452068:=()
def tw11546970012342535871:=()
def tw994545557883416830:=()
def tw5577480976013970256:=()
def tw3240040402629943124:=()
def tw15203934524279488642:=()
def tw264280325934037548:=()
def tw16609298658830278516:=()
def tw6302279286814439384:=()
def tw15342025132726482684:=()
def tw14268686627145584374:=()
def tw6209981563225136251:=()
def tw11851843610022271485:=()
def tw2613982465307414242:=()
def tw7453913139477714948:=()
def tw3845969116505137453:=()
def tw9036155769750888863:=()
def tw17574578169482255670:=()
def tw14738060304696217831:=()
def tw14033875961343962346:=()
def tw7565382024338830891:=()
def tw6780740374119577449:=()
def tw10616084044370285715:=()
def tw7483321037395428127:=()
def tw12153008992814196340:=()
def tw16860685847564279085:=()
def tw904362988217890173:=()
def tw15438411934912394736:=()
def tw4886640808404012041:=()
def tw15847363738332437812:=()
def tw3137158226061878781:=()
def tw18286299709887494292:=()
def tw2603732799984967335:=()
def tw10327844696449024820:=()
def tw5972313279889144910:=()
def tw9534696759849138547:=()
def tw11088935728129224759:=()
def tw10523792183413295307:=()
def tw4715378445314468253:=()
def tw960891509550121147:=()
def tw8621502092231231450:=()
def tw16813685403045372951:=()
def tw10394210850429675206:=()
def tw14988805170924692677:=()
def tw11323448591514538690:=()
def tw5846050116185770027:=()
def tw8867589727457290849:=()
def tw1911895067624301821:=()
def tw10545097661382051309:=()
def tw9227461330765480817:=()
def tw17272114344952669161:=()
def tw1171164910271690317:=()
def tw12680355771179727877:=()
def tw1043826961625822440:=()
def tw3159466468340529166:=()
def tw11681391711694203632:=()
def tw3563547532904981311:=()
def tw17194104002009379607:=()
def tw3554713766353347406:=()
def tw5906039960499821495:=()
def tw14464451117681808918:=()
def tw1993364186701235603:=()
def tw1372703578356807457:=()
def tw8397682981419112877:=()
def tw17356264149257874540:=()
def tw7907900828536954290:=()
def tw11173522996496177695:=()
end PySem.Challenge.cw_byexample_k33_no_number_holds
set_option Elab.async true in
set_option maxRecDepth 100000 in
set_option maxHeartbeats 0 in
theorem PySem.Challenge.cw_byexample_k33_no_number_holds : PySem.Challenge.rw_byexample_k33_no_number.Holds := by
 w_on;o_law;k_head;(case hw=>w_witness2)
 k_fill
 refine L3.walk_f (l:=PySem.Challenge.rw_byexample_k33_no_number) (n:=63) (k:=14) (x:="_law_script") (G:=L3.Jz) rfl (by decide) rfl ⟨rfl,by decide,by decide⟩ (λw h Y=>PySem.W.kIn_of Y) ?F L3.law_true
 case F =>
  intro w mg fa h KX G hmg
  refine' L3.AGe KX G hmg ?_ ?_ ?_ ?_ ?_ ?_ ?_ ?_ ?_ ?_ ?_ ?_ ?_ ?_ ?_ ?_ ?_ ?_ ?_ ?_ ?_ ?_ ?_ ?_ ?_ ?_ ?_ ?_ ?_ ?_ ?_ ?_ ?_ ?_ ?_ ?_ ?_ ?_ ?_ ?_ ?_ ?_ ?_ ?_ ?_ ?_ ?_ ?_ ?_ ?_ ?_ ?_ ?_ ?_ ?_ ?_ ?_ ?_ ?_ ?_ ?_ ?_ ?_ ?_ ?_ ?_ ?_ ?_ ?_ ?_ ?_ ?_ ?_ ?_ ?_ ?_ ?_ ?_ ?_ ?_ ?_ ?_ ?_ ?_ ?_ ?_ ?_ ?_ ?_ ?_ ?_ ?_ ?_ ?_ ?_ ?_ ?_ ?_ ?_ ?_ ?_ ?_ ?_ ?_ ?_ ?_ ?_ ?_ ?_ ?_ ?_ ?_ ?_ ?_ ?_ ?_ ?_ ?_ ?_ ?_ ?_ ?_ ?_ ?_ ?_ ?_ ?_ ?_ ?_ ?_ ?_ ?_ ?_ ?_ ?_ ?_ ?_ ?_ ?_ ?_ ?_ ?_ ?_ ?_ ?_ ?_ ?_ ?_ ?_ ?_ ?_ ?_ ?_ ?_ ?_ ?_ ?_ ?_ ?_ ?_ ?_ ?_ ?_ ?_
  all_goals first|k_is|(unfold L3.Bh;k_is)|(refine' L3.AFL ?l ?c ?k;(case l=>k_is);(case c=>k_is);(case k=>k_is))|k_exc|kernel_rfl|rfl|decide|skip
