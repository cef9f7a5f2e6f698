import PyProof.Rows.All
import KE.IntBitsLaws
import KE.KDictList
import KE.KIsAll
import KE.KMinKey
import KE.KRevIter
import KE.KSortTup
import PySem.Challenge.RW_byexample_k36_whole_cheapest
set_option compiler.extract_closed false
set_option bootstrap.genMatcherCode false
local macro_rules | `(command| #check $s:str) => do return Lean.mkNullNode (← (Array.range (s.getString.length / 10)).mapM fun n => do return (← `(command| abbrev $(Lean.mkIdent (.mkSimple ("tw" ++ toString (((s.getString.toList.drop (10*n)).take 10).foldl (fun a c => a*86 + "0123456789ABCDEFGHIJKLMNOPQRSTUVWXYZabcdefghijklmnopqrstuvwxyz!$%&*+.:;<=>?^_|~,()[]{}".toList.idxOf c) 0)))):ident := ())).raw)
local macro_rules | `(command| def $i:declId $b:bracketedBinder* : $t:term $v:declVal) => do return (← `(command| theorem $i:declId $b:bracketedBinder* : $t:term $v:declVal)).raw.rewriteBottomUp fun s => s.setInfo .none
local macro_rules | `(command| abbrev $i:declId $s:optDeclSig $v:declVal) => do return (← `(command| noncomputable def $i:declId $s:optDeclSig $v:declVal)).raw.rewriteBottomUp fun s => s.setInfo .none
local macro_rules | `(tactic| omega) => do let f := fun (s : String) (t : Lean.TSyntax `tactic) (g : Lean.Ident → Lean.MacroM (Lean.TSyntax `term)) => (s.splitOn " ").foldr (fun n t => do let t ← t; let a ← g (Lean.mkCIdent (.str `Nat n)); `(tactic| first | exact $a | $t:tactic)) (pure t); let t ← `(tactic| fail); let t ← f "le_trans lt_of_le_of_lt" t fun c => `($c (m := OfNat.ofNat _) (by assumption) (by decide)); let t ← f "le_of_lt ne_of_lt ne_of_gt le_of_eq lt_succ_of_le succ_le_of_lt" t fun c => `($c (by assumption)); let t ← f "le_refl le_add_right le_add_left zero_le succ_pos" t fun c => `($c ..); `(tactic| first | with_reducible (first | assumption | $t:tactic) | omega +splitMinMax)
set_option Elab.async false
set_option linter.all false
set_option maxRecDepth 100000
open PySem.W renaming Frag → AL, nsIn → CS, findIn → Dl, mg_none_of → FH, mg_of → Fc, keepIn → GY, kia_one → GW, emptyDict → ANM, fnOf → ANO, instObj → ANT, plainGet → AN1, hasDictIn → AN2, plainOver → AOE, makesIn → AOF, codeIn → AOI
open List renaming prefix_refl → AV, mem_cons → AY, length_map → AZ, prefix_append → Ac, map_cons → Al, mem_map → Ap, getElem?_map → As, getElem?_eq_some_iff → Ax, mem_cons_self → BC, mem_cons_of_mem → BD, mem_of_getElem? → BY, size_toArray → Bn, mem_map_of_mem → Bw, map_map → Bx, mem_append → CF, length_append → CG, all_eq_true → CM, mem_range → CK, map_append → Cg, length_cons → Dm, mem_singleton → Dr, not_mem_nil → Dq, take_length → Dy, flatMap_cons → EA, mem_flatMap → Dz, getElem?_set_ne → ER, length_take → Eg, mem_append_right → Eu, getElem?_append_left → FK, sum_cons → FJ, find?_cons → Fd, lookup → Fx, map_congr_left → Ga, nodup_cons → Gy, nodup_append → Gz, nodup_nil → Gx, take_add_one → Gw, append_assoc → HA, foldl_cons → ANE, replicate → ANH, getElem?_append_right → ANI, mem_append_left → ANL, any_cons → ANQ, getElem?_eq_none → ANS, all_cons → ANU, length_eq_zero_iff → ANV, range_succ → ANZ, flatMap_append → ANb, getElem?_of_mem → ANc, getElem?_set_self → ANe, mem_filterMap → ANf, append_nil → ANg, of_mem_zip → ANh, length_drop → ANi, length_set → ANj, map_nil → ANk, filter_cons → ANl, getElem?_range → ANm, drop_zero → ANn, mem_of_mem_take → ANp, forIn_cons → ANq, filterMap_cons → ANr, drop_length → ANt, take_of_length_le → ANu, filterMap → ANw, countP_cons → ANx, pairwise_map → ANy, ext_getElem? → ANz, getElem_of_mem → AN3, drop_eq_getElem_cons → AN4, length_range → AN5, map_id → AN8, flatMap_map → AN9, pairwise_flatMap → AOA, mem_filter → AOC, getElem?_replicate → AOH, reverse_cons → AOJ, lookup_cons → AOK, getElem_mem → AOL, take_append_drop → AOM, find?_eq_none → AON, filterMap_append → AOP, foldl_append → AOR, length_replicate → AOS, getElem?_eq_none_iff → AOY, length_filterMap_le → AOZ, mem_of_mem_drop → AOa, mem_of_find?_eq_some → AOb
open Option renaming bind_some → AX, map_eq_some_iff → ANJ, map_some → ANW, bind_eq_some_iff → ANo, isSome_iff_exists → AOG, getD_some → AOQ
open Nat renaming le_refl → Ag, zero_add → BM, ne_of_lt → Bm, le_trans → Cf, lt_of_lt_of_le → DP, zero_le → Ef, ne_of_gt → GZ, lt_irrefl → ANF, le_of_eq → ANG, add_mul → ANK, le_succ → ANN, mul_le_mul_right → ANR, le_add_right → ANY, mul_le_mul → ANa, add_assoc → ANd, le_of_lt → AN0
open Bool renaming and_eq_true → Bs, false_ne_true → HB, false_eq_true → ANX, eq_iff_iff → ANs, eq_false_iff → AOB
open Int renaming emod_nonneg → De, emod_lt_of_pos → Eh, toNat_natCast → ANP, mul_le_mul → AN6, mul_nonneg → AN7
open PySem.F renaming plain_min_loop → ANv, slot_zip_next → AOO, slot_tuple_add → AOT, entry_tuple_add → AOU, args_tuple_add_2 → AOV, slot_dict_itemiterator_iter → AOc, slot_tuple_iterator_next → AOd
open Array renaming length_toList → AOD, getElem?_eq_some_iff → AOW, getElem?_eq_none → AOX
open PySem renaming wpAny_bind → AH, wpAny_pure → AO, wpAny_rule → AOe, wpAny_call_entry → GV, wpAny_seqItems → AOf, wpAny_mono → Dk, wpAny_truthy_bool → AOg, wpAny_holding → DW, wpAny_passesOwn → AOh, wpAny_pyIter_list → AOi, wpAny_Call_Name_kw → AOj, wpAny_field → Et, wpAny_callSpecial?_slot → AOk, wpAny_newObj_type → AOl, wpAny_getItem_str_slice → AOm, wpAny_notOrdered_dict → AOn, wpAny_dictEntries → AOo, wpAny_typeNameOfWhole_keyiter → AOp, wpAny_typeNameOfWhole_itemiter → AOq, wpAny_setField_rec → AOr
noncomputable abbrev AOs:=PySem.Str->Option PySem.Value
noncomputable abbrev AOt:=List PySem.Str
noncomputable abbrev AOu:=List PySem.Value
noncomputable abbrev AOv:=List PySem.Addr
noncomputable abbrev AOw:=List PySem.Expr
noncomputable abbrev AOx:=List PySem.Stmt
noncomputable abbrev AOy:=List Nat
noncomputable abbrev AOz:=List Int
noncomputable abbrev AO0:=PySem.Value->PySem.Shared->Prop
noncomputable section
namespace L2
open PySem PySem.Spec PyProof.Rows
def ftF{P:Prop}(h:false=true):P:=Bool.noConfusion h
noncomputable abbrev Key:=Sum Int Str
abbrev Ic:Key->Value->Bool
 |.inl k,v=>Value.isInt k v
 |.inr x,v=>Value.isStrOf x v
abbrev JY(w:World):Key->Int
 |.inl k=>hashInt k
 |.inr x=>hashStr w x
def Ez:∀{k:Key} {v:Value},Ic k v=true->(∃i t,k=Sum.inl i/\v=Value.int i t)\/(∃x t,k=Sum.inr x/\v=Value.str x t)
 |.inl i,v,h=>by
  obtain⟨t,e⟩:=Value.isInt_shape (k:=i) (v:=v) h;exact .inl ⟨i,t,rfl,e⟩
 |.inr x,v,h=>by
  obtain⟨t,e⟩:=Value.isStrOf_shape (x:=x) (v:=v) h;exact .inr ⟨x,t,rfl,e⟩
def AGU(i:Int)(t:Tok):Ic (.inl i) (.int i t)=true:=by simp[Ic,Value.isInt]
def AGT(x:Str)(t:Tok):Ic (.inr x) (.str x t)=true:=by simp[Ic,Value.isStrOf]
def AGS(a b:Int):decide ((Sum.inl a:Key)=Sum.inl b)=(a == b):=by
 by_cases e:a=b
 .subst e;simp
 .have h:¬(Sum.inl a:Key)=Sum.inl b:=λq=>e (Sum.inl.inj q);rw[decide_eq_false h];exact(beq_eq_false_iff_ne.mpr e).symm
def AGP(a b:Str):decide ((Sum.inr a:Key)=Sum.inr b)=decide (a=b):=by
 by_cases e:a=b
 .subst e;simp
 .have h:¬(Sum.inr a:Key)=Sum.inr b:=λq=>e (Sum.inr.inj q);rw[decide_eq_false h,decide_eq_false e]
def AGR(a:Int)(b:Str):decide ((Sum.inl a:Key)=Sum.inr b)=false:=decide_eq_false (λq=>nomatch q)
def AGQ(a:Str)(b:Int):decide ((Sum.inr a:Key)=Sum.inl b)=false:=decide_eq_false (λq=>nomatch q)
abbrev OB(prog:Program)(w:World):PySem.KeyKind prog w Key where
 is:=Ic
 hash:=JY w
 inj:=λv a b ha hb=>by
  rcases Ez ha with⟨i,t,rfl,rfl⟩|⟨x,t,rfl,rfl⟩
  .rcases Ez hb with⟨j,u,rfl,e⟩|⟨y,u,rfl,e⟩
   .injection e with e1 _;rw[e1]
   .exact nomatch e
  .rcases Ez hb with⟨j,u,rfl,e⟩|⟨y,u,rfl,e⟩
   .exact nomatch e
   .injection e with e1 _;rw[e1]
 byValue:=λk v h=>by
  rcases Ez h with⟨i,t,rfl,rfl⟩|⟨x,t,rfl,rfl⟩ <;> rfl
 pyHash:=λhv h=>by
  rcases Ez hv with⟨i,t,rfl,rfl⟩|⟨x,t,rfl,rfl⟩
  .exact wpAny_pyHash_int h
  .exact wpAny_pyHash_str h
 eqBool:=λhu hv h=>by
  rcases Ez hu with⟨i,t,rfl,rfl⟩|⟨x,t,rfl,rfl⟩
  .rcases Ez hv with⟨j,u,rfl,rfl⟩|⟨y,u,rfl,rfl⟩
   .rw[AGS] at h;exact wpAny_eqBool_int h
   .rw[AGR] at h;exact SeqAt.EqAt.int_str i t y u _ _ _ _ h
  .rcases Ez hv with⟨j,u,rfl,rfl⟩|⟨y,u,rfl,rfl⟩
   .rw[AGQ] at h;exact SeqAt.EqAt.str_int x t j u _ _ _ _ h
   .rw[AGP] at h;exact wpAny_eqBool_str h
 «strs»:=λk x t v h=>by
  rcases Ez h with⟨i,u,rfl,e⟩|⟨y,u,rfl,e⟩
  .exact nomatch e
  .injection e with e1 _
   subst e1;cases v <;> rfl
inductive V where
 |non|bl (b:Bool)|int (i:Int)|str (x:Str)|byt (b:Array UInt8)|flt (b:UInt64)|ref (a:Addr)|ty (n:String)
 deriving DecidableEq
abbrev Af:V->Value->Prop
 |.non,u=>u=Value.none
 |.bl b,u=>u=Value.bool b
 |.int i,u=>∃t,u=Value.int i t
 |.str x,u=>∃t,u=Value.str x t
 |.byt b,u=>∃t,u=Value.bytes b t
 |.flt b,u=>∃t,u=Value.float b t
 |.ref a,u=>u=Value.ref a
 |.ty n,u=>u=Value.type n
noncomputable abbrev Ae:List V->AOu->Prop:=Paired Af
def Ae.length{xs:List V}{us:AOu}(r:Ae xs us):xs.length=us.length:=Paired.length r
def Ae.get:∀{xs:List V} {us:AOu} {i:Nat} {x:V},Ae xs us->xs[i]?=some x->∃u,us[i]?=some u/\Af x u
 |_,_,_,_,.nil,e=>by simp at e
 |_,_,0,_,.cons r _,e=>by simp at e;subst e;exact⟨_,rfl,r⟩
 |_,_,i+1,x,.cons _ t,e=>by
  obtain⟨u,a,b⟩:=Ae.get (i:=i) (x:=x) t (by simpa using e);exact⟨u,by simpa using a,b⟩
def Ae.set{x:V}{u:Value}(r:Af x u):∀{xs:List V} {us:AOu} (i:Nat),Ae xs us->Ae (xs.set i x) (us.set i u)
 |_,_,_,.nil=>.nil
 |_,_,0,.cons _ t=>.cons r t
 |_,_,i+1,.cons q t=>.cons q (Ae.set r i t)
def Ae.append:∀{xs a:List V} {us ws:AOu},Ae xs us->Ae a ws->Ae (xs++a) (us++ws)
 |_,_,_,_,.nil,s=>s
 |_,_,_,_,.cons r t,s=>.cons r (Ae.append t s)
def Ae.take:∀{xs:List V} {us:AOu} (n:Nat),Ae xs us->Ae (xs.take n) (us.take n)
 |_,_,0,_=>.nil
 |_,_,_+1,.nil=>.nil
 |_,_,n+1,.cons r t=>.cons r (Ae.take n t)
def Ae.drop:∀{xs:List V} {us:AOu} (n:Nat),Ae xs us->Ae (xs.drop n) (us.drop n)
 |_,_,0,r=>r
 |_,_,_+1,.nil=>.nil
 |_,_,n+1,.cons _ t=>Ae.drop n t
abbrev Ft:Option V->Option Value->Prop
 |some v,some u=>Af v u
 |none,none=>True
 |_,_=>False
abbrev KV{κ:Type}:List (κ×V)->List (κ×Value)->Prop:=Paired λ(p:κ×V) (q:κ×Value)=>p.1=q.1/\Af p.2 q.2
abbrev kV:Key->V
 |.inl i=>.int i
 |.inr x=>.str x
abbrev KA(M:Model)(A:Around)(h:Heap)(v:Value)(q:Int×Nat):Prop:=∀(E:AO0) (s:Shared) (Q:Int->Shared->Prop),s.heap=h->Q q.1 {s with toks:=s.toks+q.2}->wpAny M A (pyHash v) Q E s
section
variable {prog:Program}{w:World}{A:Around}{E:AO0}{s:Shared}
def Vw{a:Addr}{aa:AOu}{f:List (Int×Nat)}(hu:A.units<cLine)(t:s.heap.IsTuple a aa.toArray)(ac:Paired (KA (model prog w) A.in1 s.heap) aa f) :
  KA (model prog w) A s.heap (.ref a) (reduceHash (Builtin.Tuple.tupleHashOf (f.map (·.1))),(f.map (·.2)).sum+1):=λE d Q e0 ad=>by
 have ty:d.TypeIs (.ref a) "tuple":=by obtain⟨o,g,c,_⟩:=t;exact⟨o,by rw[e0];exact g,c⟩
 have ag:∀{R:AO0} {F:AO0},R (.int (Builtin.Tuple.tupleHashOf (f.map (·.1))) (d.toks+(f.map (·.2)).sum)) {d with toks:=d.toks+(f.map (·.2)).sum+1}->wpAny (model prog w) A.in1 (Builtin.«tuple.__hash__» ⟨[.ref a],[]⟩) (λfi j=>∃v,fi=PySem.Fin.done (Flow.ret v)/\R v j) F d:=λ{R F} k=>by
  obtain⟨o,g,_,n,ae⟩:=t;show wpAny _ _ (Builtin.Tuple.tupleItemsOf (.ref a) >>= _) _ F d;refine AH (wpAny_tupleItemsOf (by rw[e0];exact g) ae (AH ?_))
  have r:∀{l:AOu} {m:List (Int×Nat)} (p:Paired (KA (model prog w) A.in1 s.heap) l m) (e:Array Int) (u:Nat) {G:Array Int->Shared->Prop},
    G (e++(m.map (·.1)).toArray) {d with toks:=u+(m.map (·.2)).sum}->wpAny (model prog w) A.in1 (forIn l e λx hs=>do let __do_lift <-pyHash x;pure (ForInStep.yield (hs.push __do_lift))) G F {d with toks:=u}:=by
   intro l m p
   induction p with
   |nil=>intro e u G hG;exact AO (by simpa using hG)
   |@cons x q l m hx _ ih =>
    intro e u G hG;rw[ANq];refine AH (AH (hx F {d with toks:=u} _ e0 (AO ?_)));refine ih (e.push q.1) (u+q.2) ?_;simpa[ANd] using hG
  have go:=r ac #[] d.toks (G:=λb j=>wpAny (model prog w) A.in1 (retInt (Builtin.Tuple.tupleHashOf b.toList)) (λfi j=>∃v,fi=PySem.Fin.done (Flow.ret v)/\R v j) F j) (by
   have e9:((#[]:Array Int)++(f.map (·.1)).toArray).toList=f.map (·.1):=by simp
   rw[e9];refine wpAny_ret_mkInt ?_
   exact k)
  simpa using go
 have z:∀{i:Int} {u:Nat},Q (reduceHash i) {d with toks:=u}->wpAny (model prog w) A (pyHashByItsType.reduced i) Q E {d with toks:=u}:=λ{i u} hQ=>by
  unfold reduceHash at hQ
  show wpAny _ _ (if (decide (-(2:Int) ^ 63<=i)&&decide (i<2 ^ 63))=true then _ else _) Q E _
  split at hQ
  .rename_i c;rw[if_pos c];exact AO hQ
  .rename_i c;rw[if_neg c];exact AH (AOe (AO hQ))
 have look:=PySem.F.slot_tuple_hash;unfold pyHash pyHashByItsType;refine AH (wpAny_cRoomFor_or (.inr hu) (AH (wpAny_specialOf ty look.lookup ?_)));refine iteN (AH (wpAny_specialOf ty look.lookup (AH (wpAny_callSpecialIfBoundUnlessNone?_slot ty look (GV look ty PySem.F.entry_tuple_hash (ag (z (by simpa[ANd] using ad))) (PySem.F.args_tuple_hash_1 _))))))
where
 iteN {U:Type} {M:Model} {A:Around} {x y:Sem U} {Q:U->Shared->Prop} {E:AO0} {s:Shared} {id:String} (h:wpAny M A y Q E s):wpAny M A (if (some (Value.builtin id) == some Value.none)=true then x else y) Q E s:=by rw[if_neg (by rw[beq_builtin_none];simp)];exact h
def AIh{U:Type}[DecidableEq U](x y:List U):((List.range (min x.length y.length)).all (λj=>decide (x[j]?=y[j]?))&&x.length == y.length)=decide (x=y):=by
 by_cases h:x=y
 .subst h;simp
 .rw[decide_eq_false h]
  by_cases a:x.length=y.length
  .rw[Bool.and_eq_false_iff];left;rw[AOB];intro b;refine h (ANz λj=>?_)
   by_cases c:j<x.length
   .exact of_decide_eq_true (CM.mp b j (CK.mpr (by omega)))
   .rw[ANS (by omega),ANS (by omega)]
  .simp[a]
def Paired.both{U β:Type}{R:U->β->Prop}:∀{l:List U} {m:List β} {j:Nat} (h:j<m.length),Paired R l m->∃a,l[j]?=some a/\R a m[j]
 |_,_,0,_,.cons r _=>⟨_,rfl,r⟩
 |_,_,j+1,h,.cons _ t=>by
  obtain⟨a,e,r⟩:=Paired.both (j:=j) (by simpa using h) t;exact⟨a,by simpa using e,by simpa using r⟩
def Paired.one{U β:Type}{R:U->β->Prop}(inj:∀a d b,R a b->R d b->a=d):∀{l c:List U} {m:List β},Paired R l m->Paired R c m->l=c
 |_,_,_,.nil,p=>by cases p;rfl
 |_,_,_,.cons r t,p=>by
  cases p with
  |cons e f=>rw[inj _ _ _ r e,Paired.one inj t f]
def Vu{U:Type}[DecidableEq U]{R:U->Value->Prop}{a b:Addr}{x y:List U}{us vs:AOu}(hu:A.units<cLine)(inj:∀k c u,R k u->R c u->k=c)(f:∀k c u v,R k u->R c v->SeqAt.EqAt A.in1 s u v (decide (k=c)))
  (w:s.heap.IsTuple a us.toArray) (r:s.heap.IsTuple b vs.toArray) (h:Paired R x us) (l:Paired R y vs):SeqAt.EqAt A s (.ref a) (.ref b) (decide (x=y)):=by
 by_cases t:a=b
 .subst t;obtain⟨o,g,_,n,dd⟩:=w;obtain⟨o',q,_,n',d⟩:=r;rw[g] at q;cases q;rw[dd] at d;cases d;rw[Paired.one inj h l,decide_eq_true rfl];exact .same _
 .refine .of_refs t ?_
  have p:=SeqAt.RcAt.tuples (e:=λj=>decide (x[j]?=y[j]?)) w r hu λj h1 h2=>by
   obtain⟨k,ek,z⟩:=Paired.both (j:=j) (by simpa using h1) h;obtain⟨c,i,m⟩:=Paired.both (j:=j) (by simpa using h2) l;rw[ek,i,show decide (some k=some c)=decide (k=c) from decide_eq_decide.mpr (by simp)];exact f k c _ _ (by simpa using z) (by simpa using m)
  rw[Bn,Bn,<-Paired.length h,<-Paired.length l,AIh] at p;exact p
def Vv{M:Model}{n:Nat}{a:Addr}{b:AOu}{Q:Bool->Shared->Prop}(t:s.heap.IsTuple a b.toArray)(d:∀v∈b,∀(G:Bool->Shared->Prop),G true s->wpAny M A (eqIsQuiet n v) G E s)(h:Q true s):wpAny M A (eqIsQuiet (n+1) (.ref a)) Q E s:=by
 obtain⟨o,g,c,m,dd⟩:=t;have ty:s.TypeIs (.ref a) "tuple":=⟨o,g,c⟩
 have e:∀l:AOu,(∀v∈l,v∈b)->wpAny M A (forIn l ((none:Option Bool),PUnit.unit) λy _=>do let __do_lift <-eqIsQuiet n y;if (!__do_lift)=true then pure (ForInStep.done (some false,PUnit.unit)) else pure (ForInStep.yield (none,PUnit.unit)))
   (λr i=>r.1=none/\i=s) E s:=by
  intro l
  induction l with
  |nil=>intro _;exact AO ⟨rfl,rfl⟩
  |cons v l u =>
   intro j;rw[ANq];refine AH (AH (d v (j v (by simp)) _ (iteF (by decide) (AO (u λz w=>j z (by simp[w]))))))
 unfold eqIsQuiet;refine AH (wpAny_specialOf ty PySem.F.slot_tuple_eq.lookup ?_);show wpAny M A (isInstance (.ref a) (.type "tuple") >>= _) Q E s;refine AH (wpAny_isInstance ty isSubtype_tuple_tuple (iteF (by decide) (AH (AOf g dd (AH ?_)))));have p:=e b λ_ z=>z;show wpAny M A (forIn b.toArray _ _) _ E s;rw[List.forIn_toArray];refine Dk p (λr i f=>?_) λ_ _ z=>z;obtain⟨q,k⟩:=f;rw[k];simp only[q];exact AO h
where
 iteF {U:Type} {M:Model} {A:Around} {x y:Sem U} {Q:U->Shared->Prop} {E:AO0} {s:Shared} {c:Prop} [Decidable c] (hc:¬c) (h:wpAny M A y Q E s):wpAny M A (if c then x else y) Q E s:=by rw[if_neg hc];exact h
end
noncomputable abbrev NK:=List (Key ⊕ List Key)
abbrev EO(k:Key)(v:Value):Prop:=Ic k v=true
abbrev Gv(h:Heap):Key ⊕ List Key->Value->Prop
 |.inl k,v=>EO k v
 |.inr ks,v=>∃b its,v=.ref b/\h.IsTuple b its.toArray/\Paired EO ks its
abbrev AIx(h:Heap)(k:NK)(a:Addr):Prop:=∃its,h.IsTuple a its.toArray/\Paired (Gv h) k its
abbrev TL(w:World):Key ⊕ List Key->Int×Nat
 |.inl k=>(JY w k,1)
 |.inr ks=>(reduceHash (Builtin.Tuple.tupleHashOf ((ks.map λk=>(JY w k,1)).map (·.1))),((ks.map λk=>(JY w k,1)).map (·.2)).sum+1)
section
variable {prog:Program}{w:World}{A:Around}{E:AO0}{s:Shared}{h:Heap}
def EO.inj{k a:Key}{u:Value}(x:EO k u)(y:EO a u):k=a:=by rcases Ez x with⟨_,_,rfl,rfl⟩|⟨_,_,rfl,rfl⟩ <;> rcases Ez y with⟨_,_,rfl,e⟩|⟨_,_,rfl,e⟩ <;> cases e <;> rfl
def IsTuple.same{a:Addr}{us vs:AOu}(x:h.IsTuple a us.toArray)(y:h.IsTuple a vs.toArray):us=vs:=by obtain⟨o,g,_,n,d⟩:=x;obtain⟨f,c,_,e,b⟩:=y;rw[g] at c;cases c;rw[d] at b;cases b;rfl
def EO.noRef{k:Key}{a:Addr}(x:EO k (.ref a)):False:=by rcases Ez x with⟨_,_,_,e⟩|⟨_,_,_,e⟩ <;> cases e
def Gv.inj{k c:Key ⊕ List Key}{u:Value}(x:Gv h k u)(y:Gv h c u):k=c:=by
 cases k with
 |inl k =>
  cases c with
  |inl c=>rw[EO.inj x y]
  |inr i=>obtain⟨b,_,rfl,_⟩:=y;exact x.noRef.elim
 |inr i =>
  obtain⟨b,g,rfl,t,p⟩:=x
  cases c with
  |inl c=>exact(EO.noRef y).elim
  |inr f =>
   obtain⟨m,d,e,l,j⟩:=y;cases e;rw[IsTuple.same t l] at p;rw[Paired.one (R:=EO) (λ_ _ _ a b=>a.inj b) p j]
def Xy{k a:Key}{u v:Value}(x:EO k u)(y:EO a v):SeqAt.EqAt A s u v (decide (k=a)):=λprog w E Q b=>(OB prog w).eqBool x y b
def AGa{k d:Key ⊕ List Key}{u v:Value}(e:A.units<cLine)(x:Gv s.heap k u)(y:Gv s.heap d v):SeqAt.EqAt A s u v (decide (k=d)):=by
 cases k with
 |inl k =>
  cases d with
  |inl d =>
   rw[show decide ((Sum.inl k:Key ⊕ List Key)=Sum.inl d)=decide (k=d) from decide_eq_decide.mpr (by simp)];exact Xy x y
  |inr h =>
   obtain⟨b,g,rfl,t,p⟩:=y;rw[decide_eq_false (by simp)];rcases Ez x with⟨i,c,rfl,rfl⟩|⟨z,c,rfl,rfl⟩
   .exact .int_tuple i c t e
   .exact .str_tuple z c t e
 |inr h =>
  obtain⟨a,g,rfl,t,p⟩:=x
  cases d with
  |inl d =>
   rw[decide_eq_false (by simp)];rcases Ez y with⟨i,c,rfl,rfl⟩|⟨z,c,rfl,rfl⟩
   .exact .tuple_int i c t e
   .exact .tuple_str z c t e
  |inr f =>
   obtain⟨b,j,rfl,c,l⟩:=y;rw[show decide ((Sum.inr h:Key ⊕ List Key)=Sum.inr f)=decide (h=f) from decide_eq_decide.mpr (by simp)];exact Vu (R:=EO) e (λ_ _ _ a b=>a.inj b) (λ_ _ _ _ a b=>Xy a b) t c p l
def Xx{k:Key}{v:Value}(x:EO k v):KA (model prog w) A h v (JY w k,1):=λE s Q _ a=>(OB prog w).pyHash x a
def Xw:∀{ks:List Key} {vs:AOu},Paired EO ks vs->Paired (KA (model prog w) A h) vs (ks.map λk=>(JY w k,1))
 |_,_,.nil=>.nil
 |_,_,.cons x t=>.cons (Xx x) (Xw t)
def Sw(a:A.units<cLine):∀{ks:NK} {vs:AOu},Paired (Gv s.heap) ks vs->Paired (KA (model prog w) A s.heap) vs (ks.map (TL w))
 |_,_,.nil=>.nil
 |.inl k::_,_,.cons x t=>.cons (Xx x) (Sw a t)
 |.inr ks::_,_,.cons x t=>by
  obtain⟨b,c,rfl,d,p⟩:=x;exact .cons (Vw a d (Xw p)) (Sw a t)
def Xv{M:Model}{n:Nat}{ks:List Key}{vs:AOu}(p:Paired EO ks vs):∀v∈vs,∀(G:Bool->Shared->Prop),G true s->wpAny M A (eqIsQuiet n v) G E s:=by
 induction p with
 |nil=>intro v a;cases a
 |cons x _ c =>
  intro v a G b;rcases AY.mp a with e|a
  .subst e;have:eqIsQuiet n v=pure true:=by rcases Ez x with⟨_,_,_,rfl⟩|⟨_,_,_,rfl⟩ <;> (unfold eqIsQuiet;rfl)
   rw[this];exact AO b
  .exact c v a G b
def AGZ{M:Model}{n:Nat}{ks:NK}{vs:AOu}(p:Paired (Gv s.heap) ks vs):∀v∈vs,∀(G:Bool->Shared->Prop),G true s->wpAny M A (eqIsQuiet (n+1) v) G E s:=by
 induction p with
 |nil=>intro v a;cases a
 |@cons k u _ _ x _ g =>
  intro v a G c;rcases AY.mp a with e|a
  .subst e
   cases k with
   |inl k=>exact Xv (ks:=[k]) (vs:=[v]) (.cons x .nil) v (by simp) G c
   |inr ks =>
    obtain⟨b,f,rfl,d,p⟩:=x;exact Vv d (Xv p) c
  .exact g v a G c
def IsTuple.other{h':Heap}{a d:Addr}{b:Array Value}{o:Obj}{es:Array DictEntry}{ep:Nat}(x:h.IsTuple a b)(ho:h.get? d=some o)(f:o.data=.dict es ep)(l:Heap.SameBut d h h'):h'.IsTuple a b:=by
 obtain⟨k,g,c,n,i⟩:=x;have j:a≠d:=λe=>by subst e;rw[g] at ho;cases ho;rw[i] at f;cases f
 exact⟨k,(l.2 a j).trans g,c,n,i⟩
def Paired.to{U β:Type}{F G:U->β->Prop}:∀{l₁:List U} {l₂:List β},Paired F l₁ l₂->(∀a b,F a b->G a b)->Paired G l₁ l₂
 |_,_,.nil,_=>.nil
 |_,_,.cons r t,f=>.cons (f _ _ r) (Paired.to t f)
end
abbrev HI(prog:Program)(w:World):HeapKind prog w NK where
 is:=AIx
 hash:=λk=>reduceHash (Builtin.Tuple.tupleHashOf ((k.map (TL w)).map (·.1)))
 draws:=λk=>((k.map (TL w)).map (·.2)).sum+1
 room:=λA=>A.units+1<cLine
 inj:=λz0_ z1_=>by
  obtain⟨_,t,p⟩:=z0_;obtain⟨_,t',p'⟩:=z1_;rw[IsTuple.same t t'] at p;exact Paired.one (R:=Gv _) (λ_ _ _ a b=>a.inj b) p p'
 keeps:=λ⟨its,t,p⟩ ho hd hs=>⟨its,IsTuple.other t ho hd hs,Paired.to p λk v x=>by
  cases k with
  |inl k=>exact x
  |inr ks=>obtain⟨b,l,e,tb,q⟩:=x;exact⟨b,l,e,IsTuple.other tb ho hd hs,q⟩⟩
 pyHash:=λhu z1_ hQ=>by obtain⟨_,t,p⟩:=z1_;exact Vw (Nat.lt_of_succ_lt hu) t (Sw hu p) _ _ _ rfl hQ
 eqBool:=λhu z1_ z2_ hQ=>by obtain⟨_,t,p⟩:=z1_;obtain⟨_,t',p'⟩:=z2_;exact Vu (R:=Gv _) (Nat.lt_of_succ_lt hu) (λ_ _ _ a b=>a.inj b) (λ_ _ _ _ a b=>AGa hu a b) t t' p p' _ _ _ _ hQ
 quiet:=λz0_ hQ=>by obtain⟨_,t,p⟩:=z0_;exact Vv t (AGZ p) hQ
inductive HO where
 /-- a list -/
 |lst (xs:List V)
 /-- a tuple (never changes) -/
 |tup (xs:List V)
 /-- a dict whose keys are ints and texts;one whose keys are tuples of ints and texts (the empty one is both) -/
 |dK (kvs:List (Key×V))|dT (kvs:List (List Key×V))
 /-- a dict whose keys are tuples: each key,its address,the value;how often its keys have changed -/
 |dN (kvs:List (NK×Addr×V)) (ep:Nat)
 /-- a set of ints: its members,its size -/
 |set (S:Int->Bool) (n:Nat)
 /-- an instance of the class at C,its dict at dx,its attributes -/
 |ins (C dx:Addr) (fs:List (Str×V))
 /-- the dict of the instance at x -/
 |own (x:Addr)
 /-- the dict of an exception -/
 |xd (fs:List (Str×V))
 /-- a bound method,f of x -/
 |met (f x:Addr)
 /-- a range object lo,lo+1,.. below hi -/
 |rng (lo hi:Int)
 /-- a thing that is known to the object (the script;a dict while a loop walks it): read,never written while it is so -/
 |frz (o:Obj) (u:HO)
 /-- a code object's table -/
 |tbl (ps:Array Value)
 /-- any other thing,by what is true of its one object (a def of one's own: SetO a S n:=HO.ext λh=>..) -/
 |ext (φ:Heap->Prop)
noncomputable abbrev Hp:=Addr->Option HO
abbrev upd(H:Hp)(a:Addr)(o:HO):Hp:=λb=>if b=a then some o else H b
def CT{H:Hp}{a:Addr}{o:HO}:upd H a o a=some o:=by unfold upd;rw[if_pos rfl]
def BX{H:Hp}{a b:Addr}{o:HO}(h:b≠a):upd H a o b=H b:=by unfold upd;rw[if_neg h]
def Df{H:Hp}{a b:Addr}{o:HO}(h:H a=some o)(h':H b=none):a≠b:=by intro e;subst e;rw[h] at h';cases h'
section
variable (P:Program)(w:World)
abbrev CJ(H:Hp)(h:Heap)(a:Addr):HO->Prop
 |.lst xs=>xs.length<=sizeLine/\∃(its:AOu) (n:Nat),Ae xs its/\h.get? a=some {cls:=.type "list",data:=.seq its.toArray n}
 |.tup xs=>xs.length<=sizeLine/\∃its:AOu,Ae xs its/\IsTup h a its.toArray
 |.dK kvs=>kvs.length<=sizeLine/\(a == sysModules)=false/\∃vs,KV kvs vs/\h.DictOf (OB P w) a vs
 |.dT kvs=>kvs.length<=sizeLine/\(a == sysModules)=false/\∃xs:List (List Key×Addr×Value),
   Paired (λ(p:List Key×V) (q:List Key×Addr×Value)=>p.1=q.1/\H q.2.1=some (.tup (p.1.map kV))/\Af p.2 q.2.2) kvs xs /\
   ∃o es ep,h.get? a=some o/\o.ExactDict/\o.data=.dict es ep/\es.toList=xs.map (entryOfKey (tupleKind (OB P w)))/\(xs.map (·.1)).Nodup
 |.dN kvs ep=>kvs.length<=sizeLine/\(a == sysModules)=false/\∃xs:List (NK×Addr×Value),
   Paired (λ(p:NK×Addr×V) (q:NK×Addr×Value)=>p.1=q.1/\p.2.1=q.2.1/\Af p.2.2 q.2.2) kvs xs /\
   ∃o es,h.get? a=some o/\o.ExactDict/\o.data=.dict es ep/\es.toList=xs.map (entryOfKey (HI P w))/\(xs.map (·.1)).Nodup
 |.set S n=>h.SetOf (intKind P w) a S n
 |.ins C dx fs=>H dx=some (.own a)/\fs.length<=1000/\dx≠a/\h.get? a=some (ANT C dx) /\
   ∃mA,h.Ns1 dx mA/\(∀f,Ft (fs.lookup f) (mA f))/\PySem.Within mA (fs.map (·.1))
 |.own _=>∃o,h.get? a=some o
 |.xd fs=>∃mA,h.Ns1 a mA/\∀f,Ft (fs.lookup f) (mA f)
 |.rng lo hi=>∃t u v,h.get? a=some {cls:=.type "range",data:=.fields #[.int lo t,.int hi u,.int 1 v]}
 |.frz o u=>h.get? a=some o/\CJ H h a u
 |.tbl ps=>h.get? a=some {cls:=.none,data:=.fields ps}
 |.met f x=>h.get? a=some (PySem.W.methodObj (.ref f) (.ref x))
 |.ext φ=>φ h/\(∃o,h.get? a=some o)/\∀h1 h2:Heap,φ h1->(∀o,h1.get? a=some o->h2.get? a=some o)->φ h2
abbrev DE(H:Hp)(h:Heap):Prop:=∀a o,H a=some o->CJ P w H h a o
end
section
variable {P:Program}{w:World}{H H':Hp}{h h':Heap}{a:Addr}{o:HO}
def CJ.lt(x:CJ P w H h a o):a<h.objs.size:=by
 cases o with
 |lst b=>obtain⟨_,_,_,_,e⟩:=x;exact Heap.lt_size e
 |tup b=>obtain⟨_,_,_,p⟩:=x;exact p.lt
 |dK kvs=>obtain⟨_,_,_,_,o,_,_,e,_⟩:=x;exact Heap.lt_size e
 |dT kvs=>obtain⟨_,_,_,_,o,_,_,e,_⟩:=x;exact Heap.lt_size e
 |dN kvs ep=>obtain⟨_,_,_,_,o,_,e,_⟩:=x;exact Heap.lt_size e
 |set S n=>obtain⟨o,_,_,_,e,_⟩:=x;exact Heap.lt_size e
 |ins C c fs=>obtain⟨_,_,_,e,_⟩:=x;exact Heap.lt_size e
 |own y=>obtain⟨_,e⟩:=x;exact Heap.lt_size e
 |xd fs=>obtain⟨_,⟨_,_,_,e,_⟩,_⟩:=x;exact Heap.lt_size e
 |rng lo hi=>obtain⟨_,_,_,e⟩:=x;exact Heap.lt_size e
 |frz ob u=>obtain⟨e,_⟩:=x;exact Heap.lt_size e
 |tbl ps=>exact Heap.lt_size (show h.get? a=some _ from x)
 |met f y=>exact Heap.lt_size (show h.get? a=some _ from x)
 |ext φ=>obtain⟨_,⟨_,e⟩,_⟩:=x;exact Heap.lt_size e
def Paired.mapP{U β:Type}{F G:U->β->Prop}:∀{l₁:List U} {l₂:List β},Paired F l₁ l₂->(∀a b,F a b->G a b)->Paired G l₁ l₂
 |_,_,.nil,_=>.nil
 |_,_,.cons r t,f=>.cons (f _ _ r) (Paired.mapP t f)
def CJ.stay(x:CJ P w H h a o)(k:∀b u,(b=a\/H b=some (.own a))->h.get? b=some u->h'.get? b=some u)
  (ho:∀b,H b=some (.own a)->H' b=some (.own a)) (ht:∀b l,H b=some (.tup l)->H' b=some (.tup l)):CJ P w H' h' a o:=by
 induction o with
 |lst l=>obtain⟨z,m,n,r,e⟩:=x;exact⟨z,m,n,r,k _ _ (.inl rfl) e⟩
 |tup l=>obtain⟨z,m,r,g,e,c⟩:=x;exact⟨z,m,r,g,k _ _ (.inl rfl) e,c⟩
 |dK kvs=>obtain⟨z,y,vs,r,g,i,j,e,c⟩:=x;exact⟨z,y,vs,r,g,i,j,k _ _ (.inl rfl) e,c⟩
 |dT kvs =>
  obtain⟨z,y,l,r,g,i,j,e,c⟩:=x;exact⟨z,y,l,Paired.mapP r λp q z=>⟨z.1,ht _ _ z.2.1,z.2.2⟩,g,i,j,k _ _ (.inl rfl) e,c⟩
 |dN kvs j=>obtain⟨z,y,l,r,g,i,e,c⟩:=x;exact⟨z,y,l,r,g,i,k _ _ (.inl rfl) e,c⟩
 |set S n=>obtain⟨g,i,j,t,e,c⟩:=x;exact⟨g,i,j,t,k _ _ (.inl rfl) e,c⟩
 |ins C dx fs =>
  obtain⟨d,z,ne,e,s,⟨od,i,j,e2,c⟩,r⟩:=x;exact⟨ho _ d,z,ne,k _ _ (.inl rfl) e,s,⟨od,i,j,k _ _ (.inr d) e2,c⟩,r⟩
 |own y=>obtain⟨g,e⟩:=x;exact⟨g,k _ _ (.inl rfl) e⟩
 |xd fs=>obtain⟨s,⟨od,i,j,e,c⟩,r⟩:=x;exact⟨s,⟨od,i,j,k _ _ (.inl rfl) e,c⟩,r⟩
 |rng lo hi=>obtain⟨t,u,v,e⟩:=x;exact⟨t,u,v,k _ _ (.inl rfl) e⟩
 |frz g u ih=>obtain⟨e,q⟩:=x;exact⟨k _ _ (.inl rfl) e,ih q⟩
 |tbl ps =>
  have e:h.get? a=some {cls:=.none,data:=.fields ps}:=x;show h'.get? a=some {cls:=.none,data:=.fields ps};exact k a _ (.inl rfl) e
 |met f y =>
  have e:h.get? a=some (PySem.W.methodObj (.ref f) (.ref y)):=x;show h'.get? a=some (PySem.W.methodObj (.ref f) (.ref y));exact k a _ (.inl rfl) e
 |ext φ=>obtain⟨p,⟨o,e⟩,st⟩:=x;exact⟨st _ _ p λo q=>k _ _ (.inl rfl) q,⟨o,k _ _ (.inl rfl) e⟩,st⟩
def DE.lt(x:DE P w H h)(e:H a=some o):a<h.objs.size:=(x a o e).lt
def DE.fresh(x:DE P w H h)(e:h.objs.size<=a):H a=none:=by
 cases q:H a with
 |none=>rfl
 |some u=>exact absurd (DP (x.lt q) e) (ANF _)
def DE.kept(x:DE P w H h)(k:∀b u,h.get? b=some u->h'.get? b=some u):DE P w H h':=λa o e =>
 (x a o e).stay (λb u _ q=>k b u q) (λ_ q=>q) λ_ _ q=>q
def DE.laid(x:DE P w H h)(k:∀b u,h.get? b=some u->h'.get? b=some u)(g:h.objs.size<=a)(new:CJ P w (upd H a o) h' a o):DE P w (upd H a o) h':=λb u e=>by
 have f:=x.fresh g
 by_cases d:b=a
 .subst d;rw[CT] at e;cases e;exact new
 .rw[BX d] at e;exact(x b u e).stay (λc v _ q=>k c v q) (λc q=>by rw[BX (Df q f)];exact q) λc i q=>by rw[BX (Df q f)];exact q
end
abbrev Rd(H:Hp)(a:Addr)(u:HO):Prop:=H a=some u\/∃o,H a=some (.frz o u)
def Rd.of{H:Hp}{a:Addr}{u:HO}(h:H a=some u):Rd H a u:=.inl h
def Rd.ok{P:Program}{w:World}{H:Hp}{h:Heap}{a:Addr}{u:HO}(r:Rd H a u)(x:DE P w H h):CJ P w H h a u:=by
 rcases r with r|⟨o,r⟩
 .exact x a u r
 .obtain⟨_,q⟩:=x a _ r;exact q
abbrev MC:Option HO->Prop
 |some (.lst _)=>True
 |some (.dK _)=>True
 |some (.dT _)=>True
 |some (.dN _ _)=>True
 |some (.set _ _)=>True
 |some (.ins _ _ _)=>True
 |some (.ext _)=>True
 |_=>False
section
variable {P:Program}{w:World}{H:Hp}{h h':Heap}{x e:Addr}{o':HO}
def DE.write(ok:DE P w H h)(g:MC (H x))(m:e=x\/H e=some (.own x))(k:∀b u,b≠e->h.get? b=some u->h'.get? b=some u)(l:∃u,h'.get? e=some u)
  (new:CJ P w (upd H x o') h' x o'):DE P w (upd H x o') h':=λb u q=>by
 have d:∀c y,H c=some (.own y)->c≠x:=λc y r z=>by subst z;rw[r] at g;exact g
 have f:∀c xs,H c=some (.tup xs)->c≠x:=λc xs r z=>by subst z;rw[r] at g;exact g
 by_cases j:b=x
 .subst j;rw[CT] at q;cases q;exact new
 .rw[BX j] at q
  by_cases a:b=e
  .have q':H b=some (.own x):=by
    rcases m with z|z
    .exact absurd (a.trans z) j
    .rw[a];exact z
   rw[q] at q';cases q';obtain⟨v,n⟩:=l;exact⟨v,by rw[a];exact n⟩
  .refine(ok b u q).stay (λc v i r=>k c v ?_ r) (λc r=>by rw[BX (d c b r)];exact r) λc xs r=>by rw[BX (f c xs r)];exact r
   rcases i with rfl|i
   .exact a
   .rintro rfl;rcases m with z|z
    .exact d c b i z
    .rw[i] at z;cases z;exact j rfl
end
structure Un (fs ex:AOv) (H H':Hp) (h h':Heap):Prop where
 keep:∀b o,h.get? b=some o->H b=none->b∉fs->b∉ex->h'.get? b=some o
 slot:∀b o,h.get? b=some o->H b=none->b∈fs->b∉ex->∃sl,h'.get? b=some {o with slots:=sl}
 free:∀b o,h.get? b=some o->H b=none->b∉ex->H' b=none
 there:∀b o,h.get? b=some o->b∉ex->∃o',h'.get? b=some o'
 tups:∀b xs,H b=some (.tup xs)->H' b=some (.tup xs)
 frzs:∀b o u,H b=some (.frz o u)->H' b=some (.frz o u)
 tbls:∀b ps,H b=some (.tbl ps)->∃more,H' b=some (.tbl (ps++more))
section
variable {fs fs' ex ex':AOv}{H H1 H2:Hp}{h h1 h2 h':Heap}{a x e:Addr}{o:HO}
def Un.any(u:Un fs ex H H1 h h1){b:Addr}{a:Obj}(q:h.get? b=some a)(n:H b=none)(d:b∉ex):∃e,h1.get? b=some {a with slots:=e}:=by
 by_cases c:b∈fs
 .exact u.slot b a q n c d
 .exact⟨a.slots,u.keep b a q n c d⟩
def Un.trans(a:Un fs ex H H1 h h1)(b:Un fs ex H1 H2 h1 h2):Un fs ex H H2 h h2 where
 keep:=λc d q n i e=>b.keep c d (a.keep c d q n i e) (a.free c d q n e) i e
 slot:=λc d q n i e=>by
  obtain⟨p,f⟩:=a.slot c d q n i e;obtain⟨l,j⟩:=b.slot c _ f (a.free c d q n e) i e;exact⟨l,j⟩
 free:=λc d q n e=>by
  obtain⟨k,f⟩:=a.there c d q e;exact b.free c k f (a.free c d q n e) e
 there:=λc d q e=>by
  obtain⟨k,f⟩:=a.there c d q e;exact b.there c k f e
 tups:=λc g q=>b.tups c g (a.tups c g q)
 frzs:=λc d g q=>b.frzs c d g (a.frzs c d g q)
 tbls:=λc ps q=>by
  obtain⟨o,f⟩:=a.tbls c ps q;obtain⟨m,j⟩:=b.tbls c _ f;exact⟨o++m,by rw[j,Array.append_assoc]⟩
def Un.kept(k:∀b u,h.get? b=some u->h'.get? b=some u):Un fs ex H H h h' :=
 ⟨λb a q _ _ _=>k b a q,λb a q _ _ _=>⟨a.slots,k b a q⟩,λ_ _ _ n _=>n,λb a q _=>⟨a,k b a q⟩,λ_ _ q=>q,λ_ _ _ q=>q,λ_ ps q=>⟨#[],by rw[q];simp⟩⟩
def Un.refl:Un fs ex H H h h:=Un.kept λ_ _ q=>q
def Un.laid(k:∀b u,h.get? b=some u->h'.get? b=some u)(e:h.objs.size<=a)(c:H a=none):Un fs ex H (upd H a o) h h' where
 keep:=λb u q _ _ _=>k b u q
 slot:=λb u q _ _ _=>⟨u.slots,k b u q⟩
 free:=λb u q n _=>by rw[BX (Bm (DP (Heap.lt_size q) e))];exact n
 there:=λb u q _=>⟨u,k b u q⟩
 tups:=λb d q=>by rw[BX (Df q c)];exact q
 frzs:=λb u d q=>by rw[BX (Df q c)];exact q
 tbls:=λb ps q=>⟨#[],by rw[BX (Df q c),q];simp⟩
def Un.write(c:MC (H x))(l:e=x\/H e=some (.own x))(k:∀b u,b≠e->h.get? b=some u->h'.get? b=some u)(d:∃u,h'.get? e=some u):Un fs ex H (upd H x o) h h':=by
 have g:∀b,H b=none->b≠x:=λb n z=>by subst z;rw[n] at c;exact c
 have i:∀b,H b=none->b≠e:=λb n z=>by
  subst z;rcases l with r|r
  .exact g b n r
  .rw[n] at r;cases r
 have f:∀b u,H b=some u->¬MC (some u)->b≠x:=λb u q m z=>by subst z;rw[q] at c;exact m c
 refine⟨λb u q n _ _=>k b u (i b n) q,λb u q n _ _=>⟨u.slots,k b u (i b n) q⟩,λb u q n _=>by rw[BX (g b n)];exact n,λb u q _=>?_,
  λb j q=>by rw[BX (f b _ q λz=>z)];exact q,λb u j q=>by rw[BX (f b _ q λz=>z)];exact q,λb ps q=>⟨#[],by rw[BX (f b _ q λz=>z),q];simp⟩⟩
 by_cases a:b=e
 .subst a;exact d
 .exact⟨u,k b u a q⟩
def Un.mono(u:Un fs ex H H1 h h1)(f:∀b∈fs,b∈fs')(d:∀b∈ex,b∈ex'):Un fs' ex' H H1 h h1 :=
 ⟨λb c q n e a=>u.keep b c q n (λz=>e (f b z)) λz=>a (d b z),λ_ _ q n _ a=>u.any q n λz=>a (d _ z),λb c q n a=>u.free b c q n λz=>a (d b z),λb c q a=>u.there b c q λz=>a (d b z),u.tups,u.frzs,u.tbls⟩
end
abbrev Ni(h:Heap)(H:Hp):AOv:=(List.range h.objs.size).filter λa=>(H a).isSome
abbrev Hj(h:Heap)(H:Hp):Heap:=PySem.W.hideAll h (Ni h H)
def AGo(h:Heap)(H:Hp):(Hj h H).objs.size=h.objs.size:=PySem.W.hideAll_size _ _
def AGp{h:Heap}{H:Hp}{b:Addr}{o:Obj}(e:h.get? b=some o)(n:H b=none):(Hj h H).get? b=some o :=
 PySem.W.hideAll_get _ e λa=>by
  have q:(H b).isSome=true:=(AOC.mp a).2;rw[n] at q;simp at q
def AFT{h:Heap}{H:Hp}{b:Addr}{o:Obj}(e:(Hj h H).get? b=some o):h.get? b=some o/\H b=none:=by
 have a:h.get? b=some o:=PySem.W.of_hideAll (Ni h H) e;refine⟨a,?_⟩
 cases q:H b with
 |none=>rfl
 |some x =>
  have c:b∈Ni h H:=AOC.mpr ⟨CK.mpr (Heap.lt_size a),by simp[q]⟩;have z:(Hj h H).get? b=none:=PySem.W.hideAll_none (Ni h H) c;rw[z] at e;cases e
abbrev AIj(g h:Heap)(L:Addr):List (Addr×Obj):=(List.range h.objs.size).filterMap λa=>if a=L\/(g.get? a).isSome=true then none else (h.get? a).map λo=>(a,o)
abbrev rest(g h:Heap)(L d:Addr):List (Addr×Obj):=(AIj g h L).filter λp=>decide (p.1≠d)
structure PC (K:AL) (mg:AOs) (base:Heap):Prop where
 kin:K.In base
 glob:base.Ns mainGlobals mg
 blt:∃mb,base.Ns builtinsNs mb/\∀x:Str,x≠"__name__"->mb x=bootBuiltins x
 nolimit:base.NoLimit
structure Cx where
 prog:Program
 w:World
 K:AL
 mg:AOs
 base:Heap
 A:Around
 N:AOt
 s₀:Shared
 H₀:Hp
 env:Env
 outer:List Env
 stack:List Env
 ex:AOv
 fn:Str->Bool
 calm:Bool
 pn:List (Addr×Obj)
 xe:AO0
abbrev FT(l:List Env):AOv:=l.filterMap (·.frame)
noncomputable abbrev Cx.fs(X:Cx):AOv:=FT X.outer
abbrev Ju(sc:Scope)(x:Str):Prop:=sc.names.lookup x=some .local\/sc.names.lookup x=some .cell\/sc.names.lookup x=some .free
abbrev HY(sc:Scope)(x:Str):Prop:=sc.names.lookup x=some .local\/sc.names.lookup x=some .cell
abbrev AIw(env:Env)(h:Heap)(m:AOs)(x:Str)(u:Value):Prop :=
 (env.kindOf x=some .local/\m x=some u)\/((env.kindOf x=some .cell\/env.kindOf x=some .free)/\∃c,env.cells.lookup x=some c/\h.IsCell c (some u))
structure Cx.Ok (X:Cx):Prop where
 mod:PC X.K X.mg X.base
 kind:X.env.scope.kind=.function
 glob:X.env.globals=mainGlobals
 blt:X.env.builtins=builtinsNs
 above:X.s₀.heap.objs.size<=X.env.locals
 inj:∀x y c,X.env.cells.lookup x=some c->X.env.cells.lookup y=some c->x=y
 has:∀x,(X.env.kindOf x=some .cell\/X.env.kindOf x=some .free)->∃c,X.env.cells.lookup x=some c
 cab:∀x c,X.fn x=true->X.env.cells.lookup x=some c->X.s₀.heap.objs.size<=c
 hd:X.calm=true->X.A.handled=none
 frames:X.A.frames=some X.stack
 stk:X.stack=X.outer\/(X.stack=X.env::X.outer/\X.env.frame=some X.env.locals)
 exf:∀b∈X.ex,b≠X.env.locals/\∀x c,X.env.cells.lookup x=some c->c≠b
 bs:∀b o,X.base.get? b=some o->X.s₀.heap.get? b=some o/\X.H₀ b=none
 bsz:X.base.objs.size<=X.s₀.heap.objs.size
 noex:∀b o,X.base.get? b=some o->b∉X.ex
 exfs:∀b∈X.ex,b∉X.fs
 funs:X.s₀.heap.FunFrames X.base X.outer
 frf:∀b∈X.fs,X.H₀ b=none
structure AI (X:Cx) (pins:List (Addr×Obj)) (Y:List (Option V)) (H:Hp) (s:Shared):Prop where
 ok:X.Ok
 os:s.os=X.s₀.os
 bare:AllBare s.gens
 base:Un X.fs X.ex X.H₀ H X.s₀.heap s.heap
 loc:∃m,s.heap.Ns X.env.locals m/\∀(i:Nat) (x:Str) (v:V),X.N[i]?=some x->Y[i]?=some (some v)->Ju X.env.scope x->∃u,Af v u/\AIw X.env s.heap m x u
 cell:∀x c,X.env.cells.lookup x=some c->∃v,s.heap.IsCell c v
 free:H X.env.locals=none
 freeC:∀x c,X.env.cells.lookup x=some c->H c=none
 pin:∀p∈X.pn++pins,s.heap.get? p.1=some p.2/\H p.1=none/\p.1≠X.env.locals/\p.1∉X.fs/\∀v,p.2.data≠.cell v
 hok:DE X.prog X.w H s.heap
 len:Y.length=X.N.length
section
variable {X:Cx}{pins:List (Addr×Obj)}{Y:List (Option V)}{H H':Hp}{s:Shared}{h':Heap}
def Cx.Ok.nofr(ok:X.Ok){b:Addr}{o:Obj}(e:X.base.get? b=some o):b∉X.fs:=λa=>by
 have:=(ok.funs.mem a).1;rw[e] at this;cases this
def AI.bs(I:AI X pins Y H s):∀b o,X.base.get? b=some o->s.heap.get? b=some o/\H b=none:=λb o e =>
 ⟨I.base.keep b o (I.ok.bs b o e).1 (I.ok.bs b o e).2 (I.ok.nofr e) (I.ok.noex b o e),I.base.free b o (I.ok.bs b o e).1 (I.ok.bs b o e).2 (I.ok.noex b o e)⟩
def AI.bk(I:AI X pins Y H s):∀b o,X.base.get? b=some o->s.heap.get? b=some o:=λb o e=>(I.bs b o e).1
def AI.mod(I:AI X pins Y H s):PC X.K X.mg X.base:=I.ok.mod
def AI.kIn(I:AI X pins Y H s):X.K.In s.heap:=I.ok.mod.kin.keeps I.bk
def AI.nolimit(I:AI X pins Y H s):s.heap.NoLimit:=I.ok.mod.nolimit.keeps I.bk
def AI.lt(I:AI X pins Y H s):X.env.locals<s.heap.objs.size:=let ⟨_,hn,_⟩:=I.loc;hn.lt
def AI.sz(I:AI X pins Y H s):X.s₀.heap.objs.size<=s.heap.objs.size:=Cf I.ok.above (AN0 I.lt)
def AI.nofs(I:AI X pins Y H s){a:Addr}(h:s.heap.objs.size<=a):a∉X.fs:=λb=>by
 obtain⟨_,o,ho,_⟩:=I.ok.funs.mem b;exact absurd (DP (Heap.lt_size ho) (Cf I.sz h)) (ANF _)
def AI.cne(I:AI X pins Y H s):∀x c,X.env.cells.lookup x=some c->c≠X.env.locals:=λx c e z=>by
 obtain⟨v,o,ho,d⟩:=I.cell x c e;obtain⟨m,⟨g,h,f,a,b,_⟩,_⟩:=I.loc;rw[z,a] at ho;cases ho;rw[b] at d;cases d
def AI.funs(I:AI X pins Y H s):s.heap.FunFrames X.base X.outer:=by
 have all:∀(l:List Env),(∀b∈FT l,b∈X.fs)->X.s₀.heap.FunFrames X.base l->s.heap.FunFrames X.base l:=by
  intro l
  induction l with
  |nil=>intro _ _;trivial
  |cons h r k =>
   intro f i;obtain⟨n,⟨L,o,d,m,ho,g⟩,j⟩:=i;have a:L∈X.fs:=f L (by unfold FT;rw[ANr,d];exact BC);obtain⟨p,e⟩:=I.base.slot L o ho (I.ok.frf L a) a λz=>I.ok.exfs L z a;exact⟨n,⟨L,_,d,m,e,g⟩,k (λb c=>f b (by unfold FT;rw[ANr,d];exact BD _ c)) j⟩
 exact all X.outer (λ_ c=>c) I.ok.funs
def AI.stack(I:AI X pins Y H s):s.heap.FunFrames X.base X.stack:=by
 rcases I.ok.stk with e|⟨e,b⟩
 .rw[e];exact I.funs
 .rw[e];obtain⟨m,a,_⟩:=I.loc;refine .cons (by rw[I.ok.kind];decide) b a ?_ I.funs;exact Heap.get?_none_of_le (Cf I.ok.bsz I.ok.above)
def AI.stkSub(I:AI X pins Y H s):∀b∈FT X.stack,b∈X.env.locals::X.fs:=λb a=>by
 rcases I.ok.stk with e|⟨e,c⟩
 .rw[e] at a;exact BD _ a
 .rw[e] at a;unfold FT at a;rw[ANr,c] at a;exact a
def AI.stkFree(I:AI X pins Y H s):∀b∈FT X.stack,H b=none:=λb a=>by
 rcases AY.mp (I.stkSub b a) with e|a
 .rw[e];exact I.free
 .obtain⟨_,o,ho,_⟩:=I.ok.funs.mem a;exact I.base.free b o ho (I.ok.frf b a) λz=>I.ok.exfs b z a
def AI.step{g':Array GenState}{t':Nat}{d':Drawn}{ch:AOv}(I:AI X pins Y H s)
  (f:∀b∈ch,(b∈X.ex\/X.s₀.heap.objs.size<=b)/\b≠X.env.locals/\(∀x c,X.env.cells.lookup x=some c->c≠b)/\∀p∈X.pn++pins,p.1≠b)
  (keep:∀b o,b≠X.env.locals->b∉X.fs->b∉ch->s.heap.get? b=some o->H b=none->h'.get? b=some o)
  (aa:∀b o,b≠X.env.locals->b∈X.fs->b∉ch->s.heap.get? b=some o->H b=none->∃sl,h'.get? b=some {o with slots:=sl}) (free:∀b o,b∉ch->s.heap.get? b=some o->H b=none->H' b=none)
  (ac:∀b o,b∉ch->s.heap.get? b=some o->∃o',h'.get? b=some o')
  (ad:∀b y,H b=some (.tup y)->H' b=some (.tup y)) (ae:∀b o u,H b=some (.frz o u)->H' b=some (.frz o u)) (ag:∀b ps,H b=some (.tbl ps)->∃more,H' b=some (.tbl (ps++more)))
  (ns:∀m,s.heap.Ns X.env.locals m->h'.Ns X.env.locals m) (aj:DE X.prog X.w H' h') (hg:AllBare g') :
  AI X pins Y H' {s with heap:=h',gens:=g',drawn:=d',toks:=t'}:=by
 have ai:∀b o,X.s₀.heap.get? b=some o->b≠X.env.locals:=λb o e=>Bm (DP (Heap.lt_size e) I.ok.above)
 have j:∀b o,X.s₀.heap.get? b=some o->b∉X.ex->b∉ch:=λb o e a hb=>by
  rcases(f b hb).1 with z|z
  .exact a z
  .exact absurd (DP (Heap.lt_size e) z) (ANF _)
 have h:∀x c,X.env.cells.lookup x=some c->∀v,s.heap.IsCell c v->h'.IsCell c v:=λx c e v ak=>by
  obtain⟨o,ho,hd⟩:=ak;have g:c∉ch:=λz=>(f c z).2.2.1 x c e rfl
  by_cases hc:c∈X.fs
  .obtain⟨sl,q⟩:=aa c o (I.cne x c e) hc g ho (I.freeC x c e);exact⟨_,q,hd⟩
  .exact⟨o,keep c o (I.cne x c e) hc g ho (I.freeC x c e),hd⟩
 refine⟨I.ok,I.os,hg,⟨λb o e n hb a=>?_,λb o e n hb a=>?_,λb o e n a=>?_,λb o e a=>?_,λb y e=>ad b y (I.base.tups b y e),λb o y e=>ae b o y (I.base.frzs b o y e),λb ps e=>?_⟩,?_,λx c e=>?_,?_,λx c e=>?_,λp hp=>?_,aj,I.len⟩
 .exact keep b o (ai b o e) hb (j b o e a) (I.base.keep b o e n hb a) (I.base.free b o e n a)
 .obtain⟨sl,t⟩:=I.base.slot b o e n hb a;obtain⟨al,e2⟩:=aa b _ (ai b o e) hb (j b o e a) t (I.base.free b o e n a);exact⟨al,e2⟩
 .obtain⟨o',t⟩:=I.base.there b o e a;exact free b o' (j b o e a) t (I.base.free b o e n a)
 .obtain⟨o',t⟩:=I.base.there b o e a;exact ac b o' (j b o e a) t
 .obtain⟨m1,t⟩:=I.base.tbls b ps e;obtain⟨m2,e2⟩:=ag b _ t;exact⟨m1++m2,by rw[e2,Array.append_assoc]⟩
 .obtain⟨m,hn,hl⟩:=I.loc;refine⟨m,ns m hn,λi x v t e2 e3=>?_⟩;obtain⟨u,r,l⟩:=hl i x v t e2 e3;refine⟨u,r,?_⟩;rcases l with l|⟨k,c,e,z⟩
  .exact .inl l
  .exact .inr ⟨k,c,e,h x c e _ z⟩
 .obtain⟨v,z⟩:=I.cell x c e;exact⟨v,h x c e v z⟩
 .obtain⟨m,⟨o,_,_,ho,_⟩,_⟩:=I.loc;exact free _ o (λz=>(f _ z).2.1 rfl) ho I.free
 .obtain⟨v,o,ho,hd⟩:=I.cell x c e;exact free c o (λz=>(f c z).2.2.1 x c e rfl) ho (I.freeC x c e)
 .obtain⟨e,n,ne,nf,d⟩:=I.pin p hp;have g:p.1∉ch:=λz=>(f p.1 z).2.2.2 p hp rfl;exact⟨keep p.1 p.2 ne nf g e n,free p.1 p.2 g e n,ne,nf,d⟩
def AI.un{t':Nat}(I:AI X pins Y H s)(u:Un X.fs [] H H' s.heap h')(c:DE X.prog X.w H' h'):AI X pins Y H' {s with heap:=h',toks:=t'}:=by
 obtain⟨m,⟨o,t,k,ho,r⟩,_⟩:=id I.loc;obtain⟨l,h⟩:=u.any ho I.free (by simp)
 exact I.step (g':=s.gens) (d':=s.drawn) (ch:=[]) (λ_ z=>nomatch z) (λb o _ g _ e n=>u.keep b o e n g (by simp)) (λb o _ g _ e n=>u.slot b o e n g (by simp)) (λb o _ e n=>u.free b o e n (by simp)) (λb o _ e=>u.there b o e (by simp)) u.tups u.frzs u.tbls (λq j=>by
  obtain⟨p,d,f,a,i⟩:=j;rw[ho] at a;cases a
  exact⟨_,d,f,h,i⟩) c I.bare
def AI.call{g':Array GenState}{t':Nat}{d':Drawn}{ch:AOv}(I:AI X pins Y H s)(u:Un (FT X.stack) ch H H' s.heap h')(g:DE X.prog X.w H' h')(q:AllBare g')
  (d:∀b∈ch,(b∈X.ex\/X.s₀.heap.objs.size<=b)/\b≠X.env.locals/\(∀x c,X.env.cells.lookup x=some c->c≠b)/\∀p∈X.pn++pins,p.1≠b) :
  AI X pins Y H' {s with heap:=h',gens:=g',drawn:=d',toks:=t'}:=by
 obtain⟨m,⟨o,es,v,ho,r⟩,_⟩:=id I.loc;obtain⟨y,h⟩:=u.any ho I.free λz=>(d _ z).2.1 rfl
 exact I.step (ch:=ch) d (λb o h l a e n=>u.keep b o e n (λz=>(AY.mp (I.stkSub b z)).elim h l) a) (λb o _ _ a e n=>u.any e n a) (λb o a e n=>u.free b o e n a) (λb o a e=>u.there b o e a) u.tups u.frzs u.tbls (λm' t=>by
  obtain⟨o',i,j,f,k⟩:=t;rw[ho] at f;cases f
  exact⟨_,i,j,h,k⟩) g q
def AI.turned{t':Nat}{a:Addr}(I:AI X pins Y H s)(k:∀b o,b≠a->s.heap.get? b=some o->h'.get? b=some o)(t:H a=none)(g:a≠X.env.locals)
  (i:a∈X.ex\/X.s₀.heap.objs.size<=a) (j:∀x c,X.env.cells.lookup x=some c->c≠a) (h:∀p∈X.pn++pins,p.1≠a):AI X pins Y H {s with heap:=h',toks:=t'}:=by
 have f:∀b u,H b=some u->b≠a:=λb u e z=>by rw[z,t] at e;cases e
 refine I.step (g':=s.gens) (d':=s.drawn) (ch:=[a]) (λb l=>?_) (λb o _ _ d e _=>k b o (λz=>d (by simp[z])) e) (λb o _ _ d e _=>⟨o.slots,k b o (λz=>d (by simp[z])) e⟩) (λ_ _ _ _ n=>n)
  (λb o d e=>⟨o,k b o (λz=>d (by simp[z])) e⟩) (λ_ _ e=>e) (λ_ _ _ e=>e) (λb ps e=>⟨#[],by rw[e];simp⟩) (λm w=>?_) (λb u e=>?_) I.bare
 .have e:b=a:=by simpa using l
  subst e;exact⟨i,g,j,h⟩
 .obtain⟨o,es,ep,ho,r⟩:=w;exact⟨o,es,ep,k _ o (Ne.symm g) ho,r⟩
 .refine(I.hok b u e).stay (λc v d q=>k c v ?_ q) (λ_ q=>q) λ_ _ q=>q;rcases d with z|z
  .rw[z];exact f b u e
  .exact f c _ z
def AI.tok(I:AI X pins Y H s)(t:Nat):AI X pins Y H {s with toks:=t}:=I.un (h':=s.heap) (t':=t) Un.refl I.hok
def AI.kept{t':Nat}(I:AI X pins Y H s)(k:∀b u,s.heap.get? b=some u->h'.get? b=some u):AI X pins Y H {s with heap:=h',toks:=t'}:=I.un (Un.kept k) (I.hok.kept k)
def AI.laid{a:Addr}{o:HO}{t':Nat}(I:AI X pins Y H s)(k:∀b u,s.heap.get? b=some u->h'.get? b=some u)(c:s.heap.objs.size<=a)(new:CJ X.prog X.w (upd H a o) h' a o) :
  AI X pins Y (upd H a o) {s with heap:=h',toks:=t'}:=I.un (Un.laid k c (I.hok.fresh c)) (I.hok.laid k c new)
def AI.write{x e:Addr}{o:HO}{t':Nat}(I:AI X pins Y H s)(c:MC (H x))(d:e=x\/H e=some (.own x))(k:∀b u,b≠e->s.heap.get? b=some u->h'.get? b=some u)(a:∃u,h'.get? e=some u)
  (new:CJ X.prog X.w (upd H x o) h' x o):AI X pins Y (upd H x o) {s with heap:=h',toks:=t'}:=I.un (Un.write c d k a) (I.hok.write c d k a new)
def AI.pins_of{a:List (Addr×Obj)}(I:AI X pins Y H s)(h:∀p∈a,s.heap.get? p.1=some p.2/\H p.1=none/\p.1≠X.env.locals/\p.1∉X.fs/\∀v,p.2.data≠.cell v):AI X a Y H s :=
 ⟨I.ok,I.os,I.bare,I.base,I.loc,I.cell,I.free,I.freeC,λp b=>(CF.mp b).elim (λz=>I.pin p (ANL _ z)) (h p),I.hok,I.len⟩
def Xd{N:AOt}(c:N.Nodup){i j:Nat}{x:Str}(a:N[i]?=some x)(b:N[j]?=some x):i=j:=by obtain⟨f,e⟩:=Ax.mp a;obtain⟨g,d⟩:=Ax.mp b;exact(List.getElem_inj c).mp (e.trans d.symm)
def WU{M:Model}{A:Around}{E:AO0}{i:Nat}{x:Str}{v:V}{u:Value}{Q:Unit->Shared->Prop}(I:AI X pins Y H s)(hN:X.N.Nodup)(hi:X.N[i]?=some x)(hx:HY X.env.scope x)(r:Af v u)
  (h:∀s',AI X pins (Y.set i (some v)) H s'->(∃a,Heap.SameBut a s.heap s'.heap/\(a=X.env.locals\/X.env.cells.lookup x=some a))->Q () s') (hf:X.fn x=true\/X.env.scope.names.lookup x=some .local):wpAny M A (storeName X.env x u) Q E s:=by
 obtain⟨m,hn,hl⟩:=id I.loc;have ac:(X.env.scope.kind == .class || (X.env.scope.kind == .module&&X.env.locals != X.env.globals))=false:=by rw[I.ok.kind];rfl
 have ad:i<Y.length:=by rw[I.len];exact(Ax.mp hi).1
 have cne:=I.cne
 have l:∀{a:Addr} {h':Heap},(∃o,s.heap.get? a=some o/\H a=none)->Heap.SameBut a s.heap h'->DE X.prog X.w H h':=λ{a h'} ha f b ob e=>by
  obtain⟨_,_,aa⟩:=ha;refine(I.hok b ob e).stay (λc w' t q=>(f.2 c ?_).trans q) (λ_ q=>q) λ_ _ q=>q;rintro rfl;rcases t with rfl|t
  .rw[aa] at e;cases e
  .rw[aa] at t;cases t
 rcases hx with hk|hk
 .refine wpAny_storeName_local hk hn (λh' ak f=>?_) ac;obtain⟨oL,_,_,aj,_⟩:=id hn;refine h _ ⟨I.ok,I.os,I.bare,⟨λb o e n hb hx=>?_,λb o e n hb hx=>?_,I.base.free,λb o e hx=>?_,I.base.tups,I.base.frzs,I.base.tbls⟩,⟨_,ak,λj y v' g e2 e3=>?_⟩,λy c e=>?_,I.free,I.freeC,λp hp=>?_,l ⟨oL,aj,I.free⟩ f,by simpa using I.len⟩ ⟨_,f,.inl rfl⟩
  .exact(f.2 b (Bm (DP (Heap.lt_size e) I.ok.above))).trans (I.base.keep b o e n hb hx)
  .obtain⟨sl,g⟩:=I.base.slot b o e n hb hx;exact⟨sl,(f.2 b (Bm (DP (Heap.lt_size e) I.ok.above))).trans g⟩
  .obtain⟨o',g⟩:=I.base.there b o e hx;exact⟨o',(f.2 b (Bm (DP (Heap.lt_size e) I.ok.above))).trans g⟩
  .by_cases hj:j=i
   .subst hj;rw[hi] at g;cases g;rw[ANe ad] at e2;cases e2;exact⟨u,r,.inl ⟨hk,by simp⟩⟩
   .rw[ER (Ne.symm hj)] at e2;obtain⟨u',r',q⟩:=hl j y v' g e2 e3;refine⟨u',r',?_⟩;rcases q with⟨k,e⟩|⟨k,c,e,z⟩
    .refine .inl ⟨k,?_⟩;have:y≠x:=λe=>hj (Xd hN g (e▸hi));simp[this,e]
    .exact .inr ⟨k,c,e,z.sameBut f (cne y c e)⟩
  .obtain⟨w',z⟩:=I.cell y c e;exact⟨w',z.sameBut f (cne y c e)⟩
  .obtain⟨e,n,ne,nf,d⟩:=I.pin p hp;exact⟨(f.2 p.1 ne).trans e,n,ne,nf,d⟩
 .have hfn:X.fn x=true:=by
   rcases hf with z|z
   .exact z
   .rw[z] at hk;cases hk
  obtain⟨c,t⟩:=I.ok.has x (.inl hk);obtain⟨w',z⟩:=I.cell x c t;refine wpAny_storeName_cell I.ok.kind hk t z (λh' ai f=>?_);obtain⟨oc,ag,ae⟩:=id z;refine h {s with heap:=h'} ⟨I.ok,I.os,I.bare,⟨λb o e n hb hx=>?_,λb o e n hb hx=>?_,I.base.free,λb o e hx=>?_,I.base.tups,I.base.frzs,I.base.tbls⟩,⟨m,hn.sameBut f (Ne.symm (cne x c t)),λj y v' g e2 e3=>?_⟩,λy c' e=>?_,I.free,I.freeC,λp hp=>?_,l ⟨oc,ag,I.freeC x c t⟩ f,by simpa using I.len⟩ ⟨c,f,.inr t⟩
  .exact(f.2 b (Bm (DP (Heap.lt_size e) (I.ok.cab x c hfn t)))).trans (I.base.keep b o e n hb hx)
  .obtain⟨sl,g⟩:=I.base.slot b o e n hb hx;exact⟨sl,(f.2 b (Bm (DP (Heap.lt_size e) (I.ok.cab x c hfn t)))).trans g⟩
  .obtain⟨o',g⟩:=I.base.there b o e hx;exact⟨o',(f.2 b (Bm (DP (Heap.lt_size e) (I.ok.cab x c hfn t)))).trans g⟩
  .by_cases hj:j=i
   .subst hj;rw[hi] at g;cases g;rw[ANe ad] at e2;cases e2;exact⟨u,r,.inr ⟨.inl hk,c,t,ai⟩⟩
   .rw[ER (Ne.symm hj)] at e2;obtain⟨u',r',q⟩:=hl j y v' g e2 e3;refine⟨u',r',?_⟩;rcases q with q|⟨k,c',e,z'⟩
    .exact .inl q
    .refine .inr ⟨k,c',e,z'.sameBut f ?_⟩;rintro rfl;exact hj (Xd hN g (I.ok.inj _ _ _ e t▸hi))
  .by_cases hcc:c'=c
   .subst hcc;exact⟨_,ai⟩
   .obtain⟨w2,z2⟩:=I.cell y c' e;exact⟨w2,z2.sameBut f hcc⟩
  .obtain⟨e,n,ne,nf,d⟩:=I.pin p hp;refine⟨(f.2 p.1 ?_).trans e,n,ne,nf,d⟩;intro q;rw[q,ag] at e;have q':oc=p.2:=Option.some.inj e;exact d w' (by rw[<-q'];exact ae)
def SG{M:Model}{A:Around}{E:AO0}{i:Nat}{x:Str}{v:V}{u:Value}{Q:Unit->Shared->Prop}(I:AI X pins Y H s)(d:X.N.Nodup)(b:X.N[i]?=some x)(c:HY X.env.scope x)(r:Af v u)
  (h:∀a,AI X pins (Y.set i (some v)) H a->Q () a) (f:X.fn x=true\/X.env.scope.names.lookup x=some .local):wpAny M A (storeName X.env x u) Q E s :=
 WU I d b c r (λa e _=>h a e) f
def AI.call'{s':Shared}{ch:AOv}(I:AI X pins Y H s)(ho:s'.os=s.os)(u:Un (FT X.stack) ch H H' s.heap s'.heap)(a:DE X.prog X.w H' s'.heap)(j:AllBare s'.gens)
  (d:∀b∈ch,(b∈X.ex\/X.s₀.heap.objs.size<=b)/\b≠X.env.locals/\(∀x c,X.env.cells.lookup x=some c->c≠b)/\∀p∈X.pn++pins,p.1≠b):AI X pins Y H' s':=by
 obtain⟨h',h,g,f,i⟩:=s';have e:i=s.os:=ho;subst e;exact I.call (g':=h) (t':=f) (d':=g) u a j d
end
noncomputable abbrev XK:=Value->Option Addr->Hp->Prop
noncomputable abbrev St:=List (Option V)
noncomputable abbrev VK:=V->Hp->Prop
noncomputable abbrev TE:=St->Hp->VK->Prop
noncomputable abbrev TT:=St->Hp->(Bool->Hp->Prop)->Prop
noncomputable abbrev TA:=St->Hp->(List V->Hp->Prop)->Prop
structure IV where
 nx:St->Hp->Prop
 rt:VK
 bk:St->Hp->Prop:=λ_ _=>False
 ct:St->Hp->Prop:=λ_ _=>False
noncomputable abbrev TS:=IV->St->Hp->Prop
abbrev EP(X:Cx)(pins:List (Addr×Obj))(Y:St)(Q:VK)(u:Value)(s':Shared):Prop:=∃v H',AI X pins Y H' s'/\Af v u/\Q v H'
abbrev TP(X:Cx)(pins:List (Addr×Obj))(Y:St)(Q:Bool->Hp->Prop)(b:Bool)(s':Shared):Prop:=∃H',AI X pins Y H' s'/\Q b H'
abbrev AP(X:Cx)(pins:List (Addr×Obj))(Y:St)(Q:List V->Hp->Prop)(us:AOu)(s':Shared):Prop:=∃vs H',AI X pins Y H' s'/\Ae vs us/\Q vs H'
abbrev SP(X:Cx)(pins:List (Addr×Obj))(D:IV)(f:Flow)(s':Shared):Prop :=
 match f with
 |.next=>∃Y' H',AI X pins Y' H' s'/\D.nx Y' H'
 |.brk=>∃Y' H',AI X pins Y' H' s'/\D.bk Y' H'
 |.cont=>∃Y' H',AI X pins Y' H' s'/\D.ct Y' H'
 |.ret u=>∃v Y' H',AI X pins Y' H' s'/\Af v u/\D.rt v H'
abbrev PE(X:Cx)(e:Expr)(t:TE):Prop :=
 ∀(pins:List (Addr×Obj)) (s:Shared) (Y:St) (H:Hp) (Q:VK),AI X pins Y H s->t Y H Q->wpAny (model X.prog X.w) X.A (eval e X.env) (EP X pins Y Q) X.xe s
abbrev PT(X:Cx)(e:Expr)(t:TT):Prop :=
 ∀(pins:List (Addr×Obj)) (s:Shared) (Y:St) (H:Hp) (Q:Bool->Hp->Prop),AI X pins Y H s->t Y H Q->wpAny (model X.prog X.w) X.A (isTrue e X.env (eval e X.env)) (TP X pins Y Q) X.xe s
abbrev PW(X:Cx)(e:Expr)(t:TT):Prop :=
 ∀(whole:Sem Value) (pins:List (Addr×Obj)) (s:Shared) (Y:St) (H:Hp) (Q:Bool->Hp->Prop),AI X pins Y H s->t Y H Q->wpAny (model X.prog X.w) X.A (isTrue e X.env whole) (TP X pins Y Q) X.xe s
def PW.pt{X:Cx}{e:Expr}{t:TT}(h:PW X e t):PT X e t:=h _
abbrev PA(X:Cx)(es:AOw)(t:TA):Prop :=
 ∀(pos:Pos) (pins:List (Addr×Obj)) (s:Shared) (Y:St) (H:Hp) (Q:List V->Hp->Prop),AI X pins Y H s->t Y H Q->wpAny (model X.prog X.w) X.A (spliced (backTo pos (starEach es X.env))) (AP X pins Y Q) X.xe s
abbrev PS(X:Cx)(st:Stmt)(t:TS):Prop :=
 ∀(pins:List (Addr×Obj)) (s:Shared) (Y:St) (H:Hp) (D:IV),AI X pins Y H s->t D Y H->wpAny (model X.prog X.w) X.A (exec st X.env) (SP X pins D) X.xe s
abbrev Dp(X:Cx)(st:AOx)(t:TS):Prop :=
 ∀(pins:List (Addr×Obj)) (s:Shared) (Y:St) (H:Hp) (D:IV),AI X pins Y H s->t D Y H->wpAny (model X.prog X.w) X.A (execs st X.env) (SP X pins D) X.xe s
def Ai{U:Type}{t:Sem U}{Q Q':U->Shared->Prop}{M:Model}{A:Around}{E:AO0}{s:Shared}(h:wpAny M A t Q E s)(b:∀a s,Q a s->Q' a s):wpAny M A t Q' E s:=Dk h b λ_ _ x=>x
section
variable {X:Cx}
abbrev SA(i:Nat):TE:=λY H Q=>∃v,Y[i]?=some (some v)/\Q v H
abbrev tC(v:V):TE:=λ_ H Q=>Q v H
def AEa{i:Nat}{x:Str}{pos:Pos}(q:X.N[i]?=some x)(p:Ju X.env.scope x)(g:(x == ("__debug__":Str))=false)(j:(x == ("__classdict__":Str))=false):PE X (.Name x pos) (SA i):=by
 intro f s Y H Q I h;obtain⟨v,e,h⟩:=h;obtain⟨m,t,o⟩:=I.loc;obtain⟨u,r,l⟩:=o i x v q e p;have b:EP X f Y Q u s:=⟨v,H,I,r,h⟩;rcases l with⟨d,n⟩|⟨d,c,k,a⟩
 .exact wpAny_Name (wpAny_loadName_local I.ok.kind d t n b) g
 .rcases d with d|d
  .exact wpAny_Name (wpAny_loadName_cell I.ok.kind d k a b) g
  .exact wpAny_Name (wpAny_loadName_free I.ok.kind d k a b j) g
def AEn{i j pos}:PE X (.Constant (.int i) j pos) (tC (.int i)):=λ_ _ _ H _ I h=>wpAny_Constant_int ⟨.int i,H,I.tok _,⟨_,rfl⟩,h⟩
def AEz{b j pos}:PE X (.Constant (.bool b) j pos) (tC (.bl b)):=λ_ _ _ H _ I h=>Constant_bool ⟨.bl b,H,I,rfl,h⟩
def AEj{j pos}:PE X (.Constant .none j pos) (tC .non):=λ_ _ _ H _ I h=>Constant_none ⟨.non,H,I,rfl,h⟩
def AEd{x j pos}:PE X (.Constant (.str x) j pos) (tC (.str x)):=λ_ _ _ H _ I h=>Calls.Constant_str ⟨.str x,H,I.tok _,⟨_,rfl⟩,h⟩
abbrev Gl(X:Cx)(x:Str):Prop:=X.env.kindOf x=some .globalImplicit
def LQ{E:AO0}{a:List (Addr×Obj)}{s:Shared}{Y:St}{H:Hp}{x:Str}{u:Value}{pos:Pos}{Q:AO0}(I:AI X a Y H s)(c:Gl X x)(d:X.mg x=some u)(h:Q u s)
  (b:(x == ("__debug__":Str))=false:=by decide):wpAny (model X.prog X.w) X.A (eval (.Name x pos) X.env) Q E s :=
 Calls.Name_function_global I.ok.kind c (Calls.loadGlobal_global (by rw[I.ok.glob];exact I.mod.glob.keeps I.bk) d h) b
def Hh{E:AO0}{a:List (Addr×Obj)}{s:Shared}{Y:St}{H:Hp}{x:Str}{u:Value}{pos:Pos}{Q:AO0}(I:AI X a Y H s)(f:Gl X x)(i:X.mg x=none)(e:bootBuiltins x=some u)(h:Q u s)
  (g:x≠"__name__":=by decide) (b:(x == ("__debug__":Str))=false:=by decide):wpAny (model X.prog X.w) X.A (eval (.Name x pos) X.env) Q E s:=by
 obtain⟨j,c,d⟩:=I.mod.blt;exact Calls.Name_function_global I.ok.kind f (Calls.loadGlobal_builtin (by rw[I.ok.glob];exact I.mod.glob.keeps I.bk) i (by rw[I.ok.blt];exact c.keeps I.bk) ((d x g).trans e) h) b
def AEp{x:Str}{v:V}{u:Value}{pos:Pos}(b:Gl X x)(c:X.mg x=some u)(r:Af v u)(a:(x == ("__debug__":Str))=false:=by decide):PE X (.Name x pos) (tC v) :=
 λ_ _ _ H _ I h=>LQ I b c ⟨v,H,I,r,h⟩ a
def AEy{x:Str}{v:V}{u:Value}{pos:Pos}(c:Gl X x)(e:X.mg x=none)(a:bootBuiltins x=some u)(r:Af v u)(d:x≠"__name__":=by decide)(b:(x == ("__debug__":Str))=false:=by decide):PE X (.Name x pos) (tC v) :=
 λ_ _ _ H _ I h=>Hh I c e a ⟨v,H,I,r,h⟩ d b
variable {a b:Expr}{ta tb:TE}{pos:Pos}
abbrev tB(t:TE):TT:=λY H Q=>t Y H λx H1=>∃c,x=.bl c/\Q c H1
def ADq{e:Expr}{t:TE}(h:PE X e t)(g:∀a,isTrue e X.env a=(do let v <-a;standAt e.pos;holding [v] (truthy v))):PT X e (tB t):=by intro b s Y H Q I hw;refine isTrue_plain (Ai (h b s Y H _ I hw) λv l c=>?_) (g _);obtain⟨x,j,i,f,k⟩:=c;obtain⟨d,rfl,q⟩:=k;cases f;exact AOg ⟨j,i,q⟩
variable {tA tB':TT}{rest:AOw}
abbrev ACh(t u:TT):TT:=λY H Q=>t Y H λc H1=>if c=true then u Y H1 Q else Q false H1
abbrev tOr(t u:TT):TT:=λY H Q=>t Y H λc H1=>if c=true then Q true H1 else u Y H1 Q
abbrev ACR(t:TT):TT:=λY H Q=>t Y H λc H1=>Q (!c) H1
def ADi(d:PT X a tA):PW X (.BoolOp .And [a] pos) tA:=by
 intro f b s Y H Q I h;refine isTrue_and (Ai (d b s Y H Q I h) λc g e=>?_)
 cases c with
 |true=>exact isTrue_and_nil e
 |false=>exact e
def ADg(d:PT X a tA):PW X (.BoolOp .Or [a] pos) tA:=by
 intro f b s Y H Q I h;refine isTrue_or (Ai (d b s Y H Q I h) λc g e=>?_)
 cases c with
 |false=>exact isTrue_or_nil e
 |true=>exact e
def ADj(m:PT X a tA)(j:PW X (.BoolOp .And (b::rest) pos) tB'):PW X (.BoolOp .And (a::b::rest) pos) (ACh tA tB'):=by
 intro k d s Y H Q I h;refine isTrue_and (Ai (m d s Y H _ I h) λc l e=>?_);obtain⟨g,i,f⟩:=e
 cases c with
 |true=>exact j k d l Y g Q i f
 |false=>exact⟨g,i,f⟩
def ADh(m:PT X a tA)(j:PW X (.BoolOp .Or (b::rest) pos) tB'):PW X (.BoolOp .Or (a::b::rest) pos) (tOr tA tB'):=by
 intro k d s Y H Q I h;refine isTrue_or (Ai (m d s Y H _ I h) λc l e=>?_);obtain⟨g,i,f⟩:=e
 cases c with
 |true=>exact⟨g,i,f⟩
 |false=>exact j k d l Y g Q i f
def ADr(d:PT X a tA):PT X (.UnaryOp .Not a pos) (ACR tA):=by intro b s Y H Q I h;exact isTrue_not (d b s Y H (λc e=>Q (!c) e) I h)
abbrev ACg(ta tb:TE):TE:=λY H Q=>ta Y H λx H1=>∃c,x=.bl c/\if c=true then tb Y H1 Q else Q (.bl false) H1
abbrev ACO(ta tb:TE):TE:=λY H Q=>ta Y H λx H1=>∃c,x=.bl c/\if c=true then Q (.bl true) H1 else tb Y H1 Q
abbrev ACQ(ta:TE):TE:=λY H Q=>ta Y H λx H1=>∃c,x=.bl c/\Q (.bl (!c)) H1
def AEh{op}{t:TE}(h:PE X a t):PE X (.BoolOp op [a] pos) t:=λb s Y H Q I hw=>BoolOp_one (h b s Y H Q I hw)
def AE0(l:PE X a ta)(m:PE X (.BoolOp .And (b::rest) pos) tb):PE X (.BoolOp .And (a::b::rest) pos) (ACg ta tb):=by
 intro d s Y H Q I h;refine BoolOp_and (Ai (l d s Y H _ I h) λv k f=>?_);obtain⟨x,i,g,j,e⟩:=f;obtain⟨c,rfl,e⟩:=e;cases j;refine AOg ?_
 cases c with
 |true=>exact m d k Y i Q g e
 |false=>exact⟨.bl false,i,g,rfl,e⟩
def AEf(l:PE X a ta)(m:PE X (.BoolOp .Or (b::rest) pos) tb):PE X (.BoolOp .Or (a::b::rest) pos) (ACO ta tb):=by
 intro d s Y H Q I h;refine BoolOp_or (Ai (l d s Y H _ I h) λv k f=>?_);obtain⟨x,i,g,j,e⟩:=f;obtain⟨c,rfl,e⟩:=e;cases j;refine AOg ?_
 cases c with
 |false=>exact m d k Y i Q g e
 |true=>exact⟨.bl true,i,g,rfl,e⟩
def AEi(g:PE X a ta):PE X (.UnaryOp .Not a pos) (ACQ ta):=by intro b s Y H Q I h;refine UnaryOp_ (Ai (g b s Y H _ I h) λv k d=>?_);obtain⟨x,j,i,f,e⟩:=d;obtain⟨c,rfl,e⟩:=e;cases f;exact not_of (AOg ⟨.bl (!c),j,i,rfl,e⟩)
abbrev tIf(t:TT)(ta tb:TE):TE:=λY H Q=>t Y H λc H1=>if c=true then ta Y H1 Q else tb Y H1 Q
def AEo{c:Expr}(m:PT X c tA)(n:PE X a ta)(l:PE X b tb):PE X (.IfExp c a b pos) (tIf tA ta tb):=by
 intro e s Y H Q I h;refine wpAny_IfExp (Ai (m e s Y H _ I h) λd i f=>?_);obtain⟨j,k,g⟩:=f
 cases d with
 |true=>exact n e i Y j Q k g
 |false=>exact l e i Y j Q k g
end
abbrev BJ(K:AL)(H:Hp)(a:Addr)(xs:List V):Prop :=
 Rd H a (.lst xs) \/
  ∃(o:Obj) (its:Array Value) (n:Nat),K.lookup a=some o/\o.cls=.type "list"/\o.dict=none/\o.data=.seq its n/\its.size<=sizeLine/\Ae xs its.toList
abbrev Be(K:AL)(H:Hp)(a:Addr)(xs:List V):Prop :=
 Rd H a (.tup xs) \/
  ∃(o:Obj) (its:Array Value) (n:Nat),K.lookup a=some o/\o.cls=.type "tuple"/\o.data=.seq its n/\its.size<=sizeLine/\Ae xs its.toList
abbrev AIo:Value->Option V
 |.none=>some .non
 |.bool b=>some (.bl b)
 |.int i _=>some (.int i)
 |.str x _=>some (.str x)
 |.bytes b _=>some (.byt b)
 |.float b _=>some (.flt b)
 |.ref a=>some (.ref a)
 |.type n=>some (.ty n)
 |_=>none
def Af.abs{x:V}{u:Value}(r:Af x u):AIo u=some x:=by
 cases x with
 |non=>cases r;rfl
 |bl _=>cases r;rfl
 |int _=>obtain⟨t,rfl⟩:=r;rfl
 |str _=>obtain⟨t,rfl⟩:=r;rfl
 |byt _=>obtain⟨t,rfl⟩:=r;rfl
 |flt _=>obtain⟨t,rfl⟩:=r;rfl
 |ref _=>cases r;rfl
 |ty _=>cases r;rfl
def Af.inj{x y:V}{u:Value}(r:Af x u)(q:Af y u):x=y:=Option.some.inj (r.abs.symm.trans q.abs)
def Ae.inj:∀{xs a:List V} {us:AOu},Ae xs us->Ae a us->xs=a
 |_,_,_,.nil,.nil=>rfl
 |_,_,_,.cons r t,.cons r' t'=>by rw[r.inj r',Ae.inj t t']
section
variable {X:Cx}{pins:List (Addr×Obj)}{Y:St}{H:Hp}{s:Shared}{a:Addr}{xs ys:List V}
def BJ.of{K:AL}(h:H a=some (.lst xs)):BJ K H a xs:=.inl (.inl h)
def Be.of{K:AL}(h:H a=some (.tup xs)):Be K H a xs:=.inl (.inl h)
def AI.list(I:AI X pins Y H s)(h:BJ X.K H a xs):∃b:AOu,Ae xs b/\PlainL s.heap a b.toArray/\xs.length<=sizeLine:=by
 rcases h with h|⟨o,b,n,f,d,c,g,i,r⟩
 .obtain⟨z,b,n,r,e⟩:=h.ok I.hok;exact⟨b,r,⟨_,n,e,rfl,rfl,rfl⟩,z⟩
 .refine⟨b.toList,r,⟨o,n,I.kIn a o f,d,c,by simpa using g⟩,?_⟩;have e:=r.length;simp only[AOD] at e;omega
def AI.tuple(I:AI X pins Y H s)(h:Be X.K H a xs):∃b:AOu,Ae xs b/\IsTup s.heap a b.toArray/\xs.length<=sizeLine:=by
 rcases h with h|⟨o,b,n,d,c,f,g,r⟩
 .obtain⟨z,b,r,p⟩:=h.ok I.hok;exact⟨b,r,p,z⟩
 .refine⟨b.toList,r,⟨o,I.kIn a o d,c,n,by simpa using f⟩,?_⟩;have e:=r.length;simp only[AOD] at e;omega
def AI.list_inj(I:AI X pins Y H s)(h:BJ X.K H a xs)(h':BJ X.K H a ys):xs=ys:=by
 obtain⟨c,r,⟨o,n,e,_,_,d⟩,_⟩:=I.list h;obtain⟨b,i,⟨k,j,f,_,_,g⟩,_⟩:=I.list h';rw[e] at f;cases f;rw[d] at g
 injection g with d1 _
 have:c=b:=by simpa using congrArg Array.toList d1
 subst this;exact r.inj i
def AI.tuple_inj(I:AI X pins Y H s)(h:Be X.K H a xs)(h':Be X.K H a ys):xs=ys:=by
 obtain⟨c,r,⟨o,e,_,n,d⟩,_⟩:=I.tuple h;obtain⟨b,i,⟨k,f,_,j,g⟩,_⟩:=I.tuple h';rw[e] at f;cases f;rw[d] at g
 injection g with d1 _
 have:c=b:=by simpa using congrArg Array.toList d1
 subst this;exact r.inj i
end
noncomputable abbrev Cx.wish(X:Cx)(E:AO0):Cx:={X with xe:=E}
noncomputable abbrev Cx.nox(X:Cx):Cx:=X.wish λ_ _=>False
def Cx.Ok.wish{X:Cx}(ok:X.Ok)(E:AO0):(X.wish E).Ok :=
 ⟨ok.mod,ok.kind,ok.glob,ok.blt,ok.above,ok.inj,ok.has,ok.cab,ok.hd,ok.frames,ok.stk,ok.exf,ok.bs,ok.bsz,ok.noex,ok.exfs,ok.funs,ok.frf⟩
def Cx.Ok.unwish{X:Cx}{E:AO0}(ok:(X.wish E).Ok):X.Ok :=
 ⟨ok.mod,ok.kind,ok.glob,ok.blt,ok.above,ok.inj,ok.has,ok.cab,ok.hd,ok.frames,ok.stk,ok.exf,ok.bs,ok.bsz,ok.noex,ok.exfs,ok.funs,ok.frf⟩
section
variable {X:Cx}{pins:List (Addr×Obj)}{Y:St}{H:Hp}{s:Shared}{E:AO0}
def AI.wish(I:AI X pins Y H s)(E:AO0):AI (X.wish E) pins Y H s:=⟨I.ok.wish E,I.os,I.bare,I.base,I.loc,I.cell,I.free,I.freeC,I.pin,I.hok,I.len⟩
def AI.unwish(I:AI (X.wish E) pins Y H s):AI X pins Y H s:=⟨I.ok.unwish,I.os,I.bare,I.base,I.loc,I.cell,I.free,I.freeC,I.pin,I.hok,I.len⟩
def SP.unwish{D:IV}{f:Flow}{s':Shared}(h:SP (X.wish E) pins D f s'):SP X pins D f s':=by
 cases f with
 |next=>obtain⟨a,b,I,q⟩:=h;exact⟨a,b,I.unwish,q⟩
 |brk=>obtain⟨a,b,I,q⟩:=h;exact⟨a,b,I.unwish,q⟩
 |cont=>obtain⟨a,b,I,q⟩:=h;exact⟨a,b,I.unwish,q⟩
 |ret u=>obtain⟨v,a,b,I,r,q⟩:=h;exact⟨v,a,b,I.unwish,r,q⟩
def PE.nox{e:Expr}{t:TE}(h:PE X.nox e t):PE X e t:=λpins s Y H Q I hw =>
 Dk (h pins s Y H Q (I.wish _) hw) (λ_ _ a=>(by obtain⟨v,b,c,r,q⟩:=a;exact⟨v,b,c.unwish,r,q⟩)) λ_ _ z=>False.elim z
def PT.nox{e:Expr}{t:TT}(h:PT X.nox e t):PT X e t:=λpins s Y H Q I hw =>
 Dk (h pins s Y H Q (I.wish _) hw) (λ_ _ a=>(by obtain⟨b,c,q⟩:=a;exact⟨b,c.unwish,q⟩)) λ_ _ z=>False.elim z
def Dp.nox{st:AOx}{t:TS}(h:Dp X.nox st t):Dp X st t:=λpins s Y H D I hw =>
 Dk (h pins s Y H D (I.wish _) hw) (λ_ _ q=>q.unwish) λ_ _ z=>False.elim z
end
section
variable {X:Cx}{st:Stmt}{rest:AOx}{t u:TS}{e:Expr}{te:TE}{pos:Pos}
abbrev ACT:TS:=λD Y H=>D.nx Y H
abbrev ACL(t u:TS):TS:=λD Y H=>t {D with nx:=u D} Y H
def ADv:Dp X [] ACT:=λ_ _ Y H _ I h=>wpAny_execs_nil ⟨Y,H,I,h⟩
def ADw(e:PS X st t)(i:Dp X rest u):Dp X (st::rest) (ACL t u):=by
 intro a s Y H D I h;refine wpAny_execs_cons (Ai (e a s Y H {D with nx:=u D} I h) λf c q=>?_)
 cases f with
 |next =>
  obtain⟨d,g,b,q⟩:=q;exact i a c d g D b q
 |ret v=>exact q
 |brk=>exact q
 |cont=>exact q
def ADu(b:PS X st t):Dp X [st] t:=by
 intro a s Y H D I h;refine wpAny_execs_cons (Ai (b a s Y H D I h) λf c q=>?_)
 cases f with
 |next=>exact wpAny_execs_nil q
 |ret v=>exact q
 |brk=>exact q
 |cont=>exact q
abbrev ACc:TS:=λD Y H=>D.bk Y H
def AD6:PS X (.Break pos) ACc:=λ_ _ Y H _ I h=>wpAny_Break ⟨Y,H,I,h⟩
def AI.quiet{a:List (Addr×Obj)}{Y:St}{H:Hp}{s:Shared}(I:AI X a Y H s):interactive X.env=false:=by simp[interactive,I.ok.kind]
abbrev ACa(te:TE):TS:=λD Y H=>te Y H λ_ H1=>D.nx Y H1
def AD5(f:PE X e te)(i:swapsWith e none pos.line X.env=pure false):PS X (.Expr e pos) (ACa te):=by intro a s Y H D I h;exact wpAny_Expr_any (Ai (f a s Y H _ I h) λv k b=>(by obtain⟨x,d,g,j,c⟩:=b;exact⟨Y,d,g,c⟩)) I.quiet i
abbrev ACM(te:TE):TS:=λD Y H=>te Y H D.rt
def ADz(g:PE X e te):PS X (.Return (some e) pos) (ACM te):=by intro a s Y H D I h;exact wpAny_Return_some (Ai (g a s Y H _ I h) λv j b=>(by obtain⟨x,f,i,c,d⟩:=b;exact⟨x,Y,f,i,c,d⟩))
abbrev ACW(c:TT)(t u:TS):TS:=λD Y H=>c Y H λb H1=>if b=true then t D Y H1 else u D Y H1
def AD1{c:Expr}{a b:AOx}{g:TT}(m:PT X c g)(n:Dp X a t)(o:Dp X b u):PS X (.If c a b pos) (ACW g t u):=by
 intro e s Y H D I h;refine wpAny_If (Ai (m e s Y H _ I h) λd i f=>?_);obtain⟨k,j,l⟩:=f
 cases d with
 |true=>exact n e i Y k D j l
 |false=>exact o e i Y k D j l
abbrev ACU:TS:=λ_ _ _=>False
def AD0:PS X st ACU:=λ_ _ _ _ _ _ h=>h.elim
end
noncomputable abbrev TG:=V->St->Hp->(St->Hp->Prop)->Prop
noncomputable abbrev HV:=List V->St->Hp->(St->Hp->Prop)->Prop
abbrev PG(X:Cx)(target:Expr)(t:TG):Prop :=
 ∀(pins:List (Addr×Obj)) (s:Shared) (Y:St) (H:Hp) (v:V) (u:Value) (Q:St->Hp->Prop),AI X pins Y H s->Af v u->t v Y H Q ->
  wpAny (model X.prog X.w) X.A (assign target X.env u) (λ_ s'=>∃Y' H',AI X pins Y' H' s'/\Q Y' H') X.xe s
abbrev Gs(X:Cx)(ts:AOw)(t:HV):Prop :=
 ∀(pins:List (Addr×Obj)) (s:Shared) (Y:St) (H:Hp) (vs:List V) (us:AOu) (Q:St->Hp->Prop),AI X pins Y H s->Ae vs us->t vs Y H Q ->
  wpAny (model X.prog X.w) X.A (assignInOrder ((assignEach ts X.env).map (·.2)) us) (λ_ s'=>∃Y' H',AI X pins Y' H' s'/\Q Y' H') X.xe s
noncomputable abbrev Ox:=V->V->V->Hp->(Hp->Prop)->Prop
abbrev UG(X:Cx)(t:Ox):Prop :=
 ∀(pins:List (Addr×Obj)) (s:Shared) (Y:St) (H:Hp) (o i v:V) (ov iv u:Value) (Q:Hp->Prop),AI X pins Y H s->Af o ov->Af i iv->Af v u->t o i v H Q ->
  wpAny (model X.prog X.w) X.A (setItem ov iv u) (λ_ s'=>∃H',AI X pins Y H' s'/\Q H') X.xe s
noncomputable abbrev Oy:=V->V->Hp->VK->Prop
abbrev PB(X:Cx)(op:Operator)(t:Oy):Prop :=
 ∀(pins:List (Addr×Obj)) (s:Shared) (Y:St) (H:Hp) (x y:V) (v u:Value) (Q:VK),AI X pins Y H s->Af x v->Af y u->t x y H Q ->
  wpAny (model X.prog X.w) X.A (inplaceOp op v u) (EP X pins Y Q) X.xe s
section
variable {X:Cx}{pos:Pos}
abbrev Yp(i:Nat):TG:=λv Y H Q=>Q (Y.set i (some v)) H
def AEY{i:Nat}{x:Str}(b:X.N.Nodup)(e:X.N[i]?=some x)(f:HY X.env.scope x)(d:X.fn x=true\/X.env.scope.names.lookup x=some .local):PG X (.Name x pos) (Yp i):=by intro a s Y H v u Q I r h;exact wpAny_assign_Name (SG I b e f r (λg c=>⟨_,H,c,h⟩) d)
abbrev AHA:HV:=λvs Y H Q=>vs=[]/\Q Y H
abbrev AHG(t:TG)(u:HV):HV:=λvs Y H Q=>∃v r,vs=v::r/\t v Y H λY' H'=>u r Y' H' Q
def AEW:Gs X [] AHA:=by intro a s Y H c b Q I r h;obtain⟨e,h⟩:=h;subst e;cases r;exact assignInOrder_nil ⟨Y,H,I,h⟩
def AEX{e:Expr}{es:AOw}{t:TG}{u:HV}(f:PG X e t)(g:Gs X es u)
  (n:(assignEach (e::es) X.env).map (·.2)=assign e X.env::(assignEach es X.env).map (·.2):=by rfl):Gs X (e::es) (AHG t u):=by
 intro a s Y H p q Q I r h;obtain⟨v,o,d,h⟩:=h;subst d
 cases r with
 |cons r k =>
  rw[n];refine assignInOrder_cons (Ai (f a s Y H _ _ _ I r h) λ_ c b=>?_);obtain⟨j,l,i,m⟩:=b;exact g a c j l _ _ Q i k m
abbrev AG8(K:AL)(n:Nat)(t:HV):TG:=λv Y H Q=>∃a xs,v=.ref a/\Be K H a xs/\xs.length=n/\t xs Y H Q
def XE{es:AOw}{k:Nat}{t:HV}{n:Nat}(j:X.calm=true)(h:Gs X es t)
  (y:(assignEach es X.env).length=n:=by rfl) (d:(assignEach es X.env).findIdx? (·.1)=none:=by rfl):PG X (.Tuple es k pos) (AG8 X.K n t):=by
 intro c s Y H v u Q I r hw;obtain⟨a,g,l,p,w,hw⟩:=hw;subst l;cases r;obtain⟨x,f,z,hz⟩:=I.tuple p;refine assign_Tuple_tuple (I.ok.hd j) z (by simp[y,<-w,f.length]) d λi m=>?_;have q:AI X c Y H {s with heap:=i}:=I.kept (t':=s.toks) λb o e=>m b o (Bm (Heap.lt_size e)) e;exact h c _ Y H g _ Q q (by simpa using f) hw
abbrev Fk(to ti:TE)(t:Ox):TG:=λv Y H Q=>to Y H λo H1=>ti Y H1 λi H2=>t o i v H2 λH3=>Q Y H3
def XF{o i:Expr}{to e:TE}{t:Ox}(ho:PE X o to)(hi:PE X i e)(q:UG X t)
  (ha:∀v,assign (.Subscript o i pos) X.env v=(do
   let c <-holding [v] (eval o X.env)
   let d <-holding [v,c] (eval i X.env)
   standAt pos
   holding [v,c,d] (setItem c d v)
   release [v,c,d] []):=by intro _;rfl):PG X (.Subscript o i pos) (Fk to e t):=by
 intro a s Y H v u Q I r h;rw[ha];refine AH (DW (Ai (ho a s Y H _ I h) λc w b=>?_));obtain⟨x,n,I1,f,p⟩:=b;refine AH (DW (Ai (hi a w Y n _ I1 p) λd g b=>?_));obtain⟨y,z,k,m,j⟩:=b;refine AH (wpAny_standAt (AH (DW (Ai (q a g Y z x y v c d u _ k f m r j) λ_ s3 b=>?_))));obtain⟨H3,l,q3⟩:=b;exact wpAny_release ⟨Y,H3,l,q3⟩
abbrev WE(te:TE)(g:TG):TS:=λD Y H=>te Y H λx H1=>g x Y H1 D.nx
def SR{b e:Expr}{d:TE}{g:TG}(j:PE X e d)(m:PG X b g)(p:swapsWithSole [b] e pos.line X.env=pure false)(hw:swappedStores [b] e X.env=pure none)
  (k:(assignEach [b] X.env).map (·.2)=[assign b X.env]):PS X (.Assign [b] e pos) (WE d g):=by
 intro a s Y H D I h;refine wpAny_Assign_stores (Ai (j a s Y H _ I h) λv i c=>?_) p hw;obtain⟨x,n,l,f,o⟩:=c;rw[k];exact Ai (m a i Y n x v _ l f o) λ_ r q=>q
def ADy{i:Nat}{x:Str}{e:Expr}{d:TE}{a:Pos}(n:X.N.Nodup)(j:X.N[i]?=some x)(m:HY X.env.scope x)(k:PE X e d)(r:swapsWith e (some (.Name x a)) pos.line X.env=pure false)(o:X.fn x=true\/X.env.scope.names.lookup x=some .local) :
  PS X (.Assign [.Name x a] e pos) (WE d (Yp i)):=by
 intro b s Y H D I h;refine wpAny_Assign_Name (Ai (k b s Y H _ I h) λv u c=>?_) r;obtain⟨y,p,l,f,q⟩:=c;exact SG l n j m f (λt g=>⟨_,p,g,q⟩) o
abbrev ACf(i:Nat)(te:TE)(ti:Oy):TS:=λD Y H=>∃x,Y[i]?=some (some x)/\te Y H λy H1=>ti x y H1 λz H2=>D.nx (Y.set i (some z)) H2
def AD7{i:Nat}{x:Str}{e:Expr}{t:TE}{q:Operator}{ti:Oy}{j:Pos}(hN:X.N.Nodup)(hi:X.N[i]?=some x)(p:HY X.env.scope x)(he:PE X e t)(ho:PB X q ti)(hf:X.fn x=true\/X.env.scope.names.lookup x=some .local) :
  PS X (.AugAssign (.Name x j) q e pos) (ACf i t ti):=by
 intro a s Y H D I h;obtain⟨v,e1,h⟩:=h;obtain⟨m,hn,hl⟩:=I.loc;have o:Ju X.env.scope x:=by rcases p with k|k;exact .inl k;exact .inr (.inl k)
 obtain⟨u,r,l⟩:=hl i x v hi e1 o;refine wpAny_AugAssign_Name ?_
 have go:wpAny (model X.prog X.w) X.A (eval e X.env) (λw g=>wpAny (model X.prog X.w) X.A (inplaceOp q u w) (λr n=>wpAny (model X.prog X.w) X.A (storeName X.env x r) (λ_=>SP X a D .next) X.xe n) X.xe g) X.xe s:=by refine Ai (he a s Y H _ I h) λw s1 f=>?_;obtain⟨y,H1,I1,r1,q1⟩:=f;refine Ai (ho a s1 Y H1 v y u w _ I1 r r1 q1) λz s2 f=>?_;obtain⟨zv,H2,I2,r2,q2⟩:=f;exact SG I2 hN hi p r2 (λs3 I3=>⟨_,H2,I3,q2⟩) hf
 rcases l with⟨b,hm⟩|⟨b,c,hc,d⟩
 .exact wpAny_loadName_local I.ok.kind b hn hm go
 .rcases b with b|b
  .exact wpAny_loadName_cell I.ok.kind b hc d go
  .rcases p with k|k
   .have:X.env.scope.names.lookup x=some .free:=b;rw[k] at this;cases this
   .have:X.env.scope.names.lookup x=some .free:=b;rw[k] at this;cases this
abbrev Sz(f:Int->Int->Int):Oy:=λx y H Q=>∃i j,x=.int i/\y=.int j/\Q (.int (f i j)) H
def ALO:PB X .Add (Sz λi j=>i+j):=by intro a s Y H x y v u Q I b e h;obtain⟨i,j,d,c,q⟩:=h;subst d;subst c;obtain⟨t,rfl⟩:=b;obtain⟨f,rfl⟩:=e;exact iadd_int ⟨.int _,H,I.tok _,⟨_,rfl⟩,q⟩
def ALN:PB X .Sub (Sz λi j=>i-j):=by intro a s Y H x y v u Q I b e h;obtain⟨i,j,d,c,q⟩:=h;subst d;subst c;obtain⟨t,rfl⟩:=b;obtain⟨f,rfl⟩:=e;exact isub_int ⟨.int _,H,I.tok _,⟨_,rfl⟩,q⟩
end
section
variable {X:Cx}{pos:Pos}
abbrev ACH(c:TT)(tb:TS):TS:=λD Y H=>∃W:Nat->St->Hp->Prop,(∃m,W m Y H)/\∀m Y H,W m Y H ->
 c Y H λb H1=>if b=true then ∃N:St->Hp->Prop,(∀Y' H',N Y' H'->∃m',m'<m/\W m' Y' H')/\tb {D with nx:=N,ct:=N,bk:=D.nx} Y H1 else D.nx Y H1
def ADx{c:Expr}{d:AOx}{tc:TT}{x:TS}(hp:PassesOwn (model X.prog X.w) X.A X.env X.xe)(hc:PT X c tc)(hb:Dp X d x):PS X (.While c d [] pos) (ACH tc x):=by
 intro a s Y H D I h;obtain⟨W,⟨m0,w0⟩,g⟩:=h;refine wpAny_While (codeAny_whileLoop (λn s'=>∃Y' H',AI X a Y' H' s'/\W n Y' H') ?_ m0 ⟨Y,H,I,w0⟩);rintro n s1 ⟨k,z,I1,w1⟩;refine AOh hp (Ai (hc a s1 k z _ I1 (g n k z w1)) λb s2 t=>?_);obtain⟨H2,u,j⟩:=t
 cases b with
 |true =>
  obtain⟨N,y,j⟩:=j;rw[if_pos rfl];refine AOh hp (Ai (hb a s2 k H2 _ u j) λf s3 l=>?_)
  cases f with
  |next =>
   obtain⟨e,i,m,o⟩:=l;obtain⟨q,p,r⟩:=y e i o;exact⟨q,p,e,i,m,r⟩
  |cont =>
   obtain⟨e,i,m,o⟩:=l;obtain⟨q,p,r⟩:=y e i o;exact⟨q,p,e,i,m,r⟩
  |brk=>exact l
  |ret v=>exact l
 |false =>
  rw[if_neg HB];exact wpAny_execs_nil ⟨k,H2,u,j⟩
end
structure It where
 go:Nat->Hp->Prop
 yld:Nat->Hp->V->Hp->Prop
 stop:Nat->Hp->Prop
abbrev Ed(X:Cx)(pins:List (Addr×Obj))(H:Hp)(b:Addr):Prop :=
 H b=none/\b≠X.env.locals/\b∉X.fs/\(b∈X.ex\/X.s₀.heap.objs.size<=b)/\(∀x c,X.env.cells.lookup x=some c->c≠b)/\∀p∈X.pn++pins,p.1≠b
def AI.fpOk{X:Cx}{a:List (Addr×Obj)}{Y:St}{H f:Hp}{s:Shared}{b:Addr}(I:AI X a Y H s)(d:s.heap.objs.size<=b)(g:f b=none):Ed X a f b:=by
 refine⟨g,GZ (DP I.lt d),I.nofs d,.inr (Cf I.sz d),λx c e z=>?_,λp h z=>?_⟩
 .obtain⟨v,q⟩:=I.cell x c e;exact absurd (DP q.lt (by rw[z];exact d)) (ANF _)
 .exact absurd (DP (Heap.lt_size (I.pin p h).1) (by rw[z];exact d)) (ANF _)
structure HR (P:Program) (w:World) (K:AL) (tg:Expr) (J:It) (fp:AOv) (it:Addr) (tn:Nat->Heap->Prop):Prop where
 mem:it∈fp
 obj:∀i h,tn i h->∀b∈fp,∃o,h.get? b=some o/\∀v,o.data≠.cell v
 keep:∀i h h',tn i h->(∀b∈fp,∀o,h.get? b=some o->h'.get? b=some o)->tn i h'
 item:∀(X:Cx),X.prog=P->X.w=w->X.K=K->X.calm=true->∀(i:Nat) (pins:List (Addr×Obj)) (s:Shared) (Y:St) (H:Hp) (E:AO0),AI X pins Y H s->(∀b∈fp,Ed X pins H b)->tn i s.heap->J.go i H ->
  wpAny (model P w) X.A (pyNext (.ref it)) (λr s1=>∃u,r=some u /\
   wpAny (model P w) X.A (letOwnedTupleGo tg (.ref it) u) (λ_ s2=>∃x H',AI X pins Y H' s2/\Af x u/\J.yld i H x H'/\tn (i+1) s2.heap/\∀b∈fp,H' b=none) E s1) E s
 done:∀(X:Cx),X.prog=P->X.w=w->X.K=K->X.calm=true->∀(i:Nat) (pins:List (Addr×Obj)) (s:Shared) (Y:St) (H:Hp) (E:AO0),AI X pins Y H s->(∀b∈fp,Ed X pins H b)->tn i s.heap->J.stop i H ->
  wpAny (model P w) X.A (pyNext (.ref it)) (λr s1=>r=none/\AI X pins Y H s1) E s
 self:∀(A:Around) (i:Nat) (s:Shared) (Q:AO0) (E:AO0),tn i s.heap->Q (.ref it) s->wpAny (model P w) A (pyIter (.ref it)) Q E s
noncomputable abbrev TI:=St->Hp->(It->Hp->Prop)->Prop
abbrev PIE(X:Cx)(pins:List (Addr×Obj))(Y:St)(tg:Expr)(R:It->Hp->Prop)(itv:Value)(s2:Shared):Prop :=
 ∃(it:Addr) (fp:AOv) (tn:Nat->Heap->Prop) (J:It) (H':Hp),itv=.ref it/\AI X pins Y H' s2/\HR X.prog X.w X.K tg J fp it tn/\tn 0 s2.heap/\(∀b∈fp,Ed X pins H' b)/\R J H'
abbrev PI(X:Cx)(tg iter:Expr)(wi:TI):Prop :=
 ∀(pins:List (Addr×Obj)) (s:Shared) (Y:St) (H:Hp) (R:It->Hp->Prop),AI X pins Y H s->wi Y H R ->
  wpAny (model X.prog X.w) X.A (eval iter X.env) (λv s1=>wpAny (model X.prog X.w) X.A (pyIter v) (PIE X pins Y tg R) X.xe s1) X.xe s
def OP{M:Model}{A:Around}{E:AO0}{s:Shared}{b:Expr}{c:Addr}{u:Value}{o:Obj}{n:String}{vs:Array Value}{Q:Unit->Shared->Prop}(ho:s.heap.get? c=some o)(e:o.cls=.type n)(d:o.data=.fields vs)
  (f:["enumerate","zip","dict_itemiterator","dict_reverseitemiterator","odict_iterator","itertools.zip_longest","itertools.pairwise"].contains n=false) (a:Q () s):wpAny M A (letOwnedTupleGo b (.ref c) u) Q E s:=by
 unfold letOwnedTupleGo
 cases b <;> first
  |exact AO a
  |(cases u <;> first
    |exact AO a
    |(refine AH (wpAny_load ho ?_)
      rw[e,d]
      show wpAny M A (if (["enumerate","zip","dict_itemiterator","dict_reverseitemiterator","odict_iterator","itertools.zip_longest","itertools.pairwise"].contains n&&vs[0]? == some (rawInt _))=true then _ else _) Q E s
      rw[if_neg (by intro h;rw[f,Bool.false_and] at h;cases h)]
      exact AO a))
abbrev Itl(K:AL)(a:Addr):It :=
 ⟨λi H=>∃xs x,BJ K H a xs/\xs[i]?=some x,λi H x H'=>H'=H/\∀xs,BJ K H a xs->xs[i]?=some x,λi H=>∃xs,BJ K H a xs/\xs.length<=i⟩
abbrev Itt(K:AL)(a:Addr):It :=
 ⟨λi H=>∃xs x,Be K H a xs/\xs[i]?=some x,λi H x H'=>H'=H/\∀xs,Be K H a xs->xs[i]?=some x,λi H=>∃xs,Be K H a xs/\xs.length<=i⟩
abbrev MD(lo:Int)(n:Nat):It:=⟨λi _=>i<n,λi H x H'=>H'=H/\x=.int (lo+i),λi _=>n<=i⟩
def AB7{P:Program}{w:World}{K:AL}{tg:Expr}(a l:Addr):HR P w K tg (Itl K a) [l] l (λi h=>h.IsListIter l a i) where
 mem:=by simp
 obj:=λi h f b j=>by
  have e:b=l:=by simpa using j
  subst e;obtain⟨o,e,c,d⟩:=f;exact⟨o,e,λv z=>by rw[d] at z;cases z⟩
 keep:=λi h n f k=>f.at λo e=>k l (by simp) o e
 item:=by intro X hP hw t hc i g s Y H E I q f hg;subst hP hw t;obtain⟨xs,x,r,hx⟩:=hg;obtain⟨aa,y,p,hz⟩:=I.list r;obtain⟨u,hu,ru⟩:=y.get hx;obtain⟨f0,f1,f2,f3,f4,f5⟩:=q l (by simp);refine wpAny_pyNext_list_item f p.isList (x:=u) (by simpa using hu) λn m sb=>?_;have I1:AI X g Y H {s with heap:=n}:=I.turned (t':=s.toks) (λb o j e=>(sb.2 b j).trans e) f0 f1 f3 f4 f5;obtain⟨o,e,c,d⟩:=id m;exact⟨u,rfl,OP (s:={s with heap:=n}) e c d (by decide) ⟨x,H,I1,ru,⟨rfl,λys hy=>by rw[I.list_inj hy r];exact hx⟩,m,λb j=>(q b j).1⟩⟩
 done:=by intro X hP hw t hc i g s Y H E I q f hg;subst hP hw t;obtain⟨xs,r,hx⟩:=hg;obtain⟨aa,y,p,hz⟩:=I.list r;obtain⟨f0,f1,f2,f3,f4,f5⟩:=q l (by simp);have hl:=y.length;exact wpAny_pyNext_list_end (I.ok.hd hc) f p.isList (by simp;omega) λn eb=>⟨rfl,I.turned (t':=s.toks) (λb o j e=>eb b o j e) f0 f1 f3 f4 f5⟩
 self:=λ_ _ _ _ _ f h=>wpAny_pyIter_listiter f h
def AB4{P:Program}{w:World}{K:AL}{tg:Expr}(a m:Addr):HR P w K tg (Itt K a) [m] m (λi h=>h.IsTupleIter m a i) where
 mem:=by simp
 obj:=λi h f b j=>by
  have e:b=m:=by simpa using j
  subst e;obtain⟨o,e,c,d⟩:=f;exact⟨o,e,λv z=>by rw[d] at z;cases z⟩
 keep:=λi h q f k=>f.at λo e=>k m (by simp) o e
 item:=by intro X hP hw y hc i g s Y H E I r f hg;subst hP hw y;obtain⟨xs,x,t,hx⟩:=hg;obtain⟨l,rv,p,hz⟩:=I.tuple t;obtain⟨u,hu,ru⟩:=rv.get hx;obtain⟨f0,f1,f2,f3,f4,f5⟩:=r m (by simp);refine wpAny_pyNext_tuple_item f (show s.heap.IsTuple a l.toArray from p) (x:=u) (by simpa using hu) λq n sb=>?_;have I1:AI X g Y H {s with heap:=q}:=I.turned (t':=s.toks) (λb o j e=>(sb.2 b j).trans e) f0 f1 f3 f4 f5;obtain⟨o,e,c,d⟩:=id n;exact⟨u,rfl,OP (s:={s with heap:=q}) e c d (by decide) ⟨x,H,I1,ru,⟨rfl,λys hy=>by rw[I.tuple_inj hy t];exact hx⟩,n,λb j=>(r b j).1⟩⟩
 done:=by intro X hP hw y hc i g s Y H E I r f hg;subst hP hw y;obtain⟨xs,t,hx⟩:=hg;obtain⟨l,rv,p,hz⟩:=I.tuple t;obtain⟨f0,f1,f2,f3,f4,f5⟩:=r m (by simp);have hl:=rv.length;exact wpAny_pyNext_tuple_end (I.ok.hd hc) f (show s.heap.IsTuple a l.toArray from p) (by simp;omega) λq eb=>⟨rfl,I.turned (t':=s.toks) (λb o j e=>eb b o j e) f0 f1 f3 f4 f5⟩
 self:=λ_ _ _ _ _ f h=>wpAny_pyIter_tupleiter f h
def AB5{P:Program}{w:World}{K:AL}{tg:Expr}(d:Addr)(l:Int)(n:Nat):HR P w K tg (MD l n) [d] d (λi h=>IsRangeIter h d (l+(i:Nat)*1) ((n:Int)-(i:Nat)) 1) where
 mem:=by simp
 obj:=λi h a b f=>by
  have e:b=d:=by simpa using f
  subst e
  exact⟨_,a,λv z=>by
   have z':Data.fields _=Data.cell v:=z
   cases z'⟩
 keep:=λi h j a k=>k d (by simp) _ a
 item:=by intro X hP hw p q i c s Y H E I m a r;subst hP hw p;obtain⟨f0,y,f2,f3,x,u⟩:=m d (by simp);have W:=Walks.range (prog:=X.prog) (w:=X.w) (I.ok.hd q) d l 1 n;refine W.item i s _ _ r a λv j tk hv g kk=>?_;obtain⟨t,rfl⟩:=hv;have I1:AI X c Y H {s with heap:=j,toks:=tk}:=I.turned (λb o f e=>kk b o (by simpa using f) e) f0 y f3 x u;refine⟨_,rfl,OP (s:={s with heap:=j,toks:=tk}) (n:="range_iterator") g rfl rfl (by decide) ⟨.int (l+i),H,I1,⟨t,?_⟩,⟨rfl,rfl⟩,g,λb f=>(m b f).1⟩⟩;rw[Int.mul_one]
 done:=by intro X hP hw p q i c s Y H E I m a r;subst hP hw p;obtain⟨f0,y,f2,f3,x,u⟩:=m d (by simp);exact wpAny_pyNext_range_end (I.ok.hd q) a (by have:n<=i:=r;omega) λj eb=>⟨rfl,I.turned (t':=s.toks) (λb o f e=>eb b o f e) f0 y f3 x u⟩
 self:=λ_ _ _ _ _ a h=>wpAny_pyIter_rangeiter a h
section
variable {X:Cx}{tg:Expr}
abbrev AGn(K:AL)(tl:TE):TI:=λY H R=>tl Y H λx H1=>∃a,x=.ref a/\(∃xs,BJ K H1 a xs)/\R (Itl K a) H1
abbrev AGj(K:AL)(tl:TE):TI:=λY H R=>tl Y H λx H1=>∃a,x=.ref a/\(∃xs,Be K H1 a xs)/\R (Itt K a) H1
def AEV{l:Expr}{i:TE}(r:PE X l i):PI X tg l (AGn X.K i):=by
 intro c s Y H R I h;refine Ai (r c s Y H _ I h) λv d g=>?_;obtain⟨x,t,f,j,u⟩:=g;obtain⟨a,e,⟨w,k⟩,q⟩:=u;subst e;cases j;obtain⟨m,y,p,z⟩:=f.list k;refine AOi p.isList ?_;refine⟨d.heap.objs.size,[d.heap.objs.size],_,_,t,rfl,f.kept (t':=d.toks) λb o e=>Heap.get?_push_of_some _ e,AB7 a _,⟨_,Heap.get?_push_size _ rfl,rfl,rfl⟩,λb n=>?_,q⟩;have e:b=d.heap.objs.size:=by simpa using n
 subst e;exact f.fpOk (Ag _) (f.hok.fresh (Ag _))
def AER{l:Expr}{j:TE}(r:PE X l j):PI X tg l (AGj X.K j):=by
 intro d s Y H R I h;refine Ai (r d s Y H _ I h) λv c i=>?_;obtain⟨x,t,f,k,u⟩:=i;obtain⟨a,e,⟨w,m⟩,q⟩:=u;subst e;cases k;obtain⟨g,y,p,z⟩:=f.tuple m;refine wpAny_pyIter_tuple (show c.heap.IsTuple a g.toArray from p) ?_;refine⟨c.heap.objs.size,[c.heap.objs.size],_,_,t,rfl,f.kept (t':=c.toks) λb o e=>Heap.get?_push_of_some _ e,AB4 a _,⟨_,Heap.get?_push_size _ rfl,rfl,rfl⟩,λb n=>?_,q⟩;have e:b=c.heap.objs.size:=by simpa using n
 subst e;exact f.fpOk (Ag _) (f.hok.fresh (Ag _))
def Wl{d:List (Addr×Obj)}{Y:St}{H:Hp}{s:Shared}{R:It->Hp->Prop}{E:AO0}{a c:Int}{t u v:Tok}{g:Nat}(I:AI X d Y H s)(j:-(2 ^ 62)<=a)(k:a<2 ^ 62)(m:-(2 ^ 62)<=c)(i:c<2 ^ 62)
  (q:R (MD a (c-a).toNat) H):wpAny (model X.prog X.w) X.A (pyIter (.ref s.heap.objs.size)) (PIE X d Y tg R) E {s with heap:=s.heap.push {cls:=.type "range",data:=.fields #[.int a t,.int c u,.int 1 v]},toks:=g}:=by
 refine wpAny_pyIter_range (IsRange.new ..) (small_one j k m i) ?_;have f:AI X d Y H {s with heap:=s.heap.push {cls:=.type "range",data:=.fields #[.int a t,.int c u,.int 1 v]},toks:=g}:=I.kept λb o e=>Heap.get?_push_of_some _ e
 refine⟨(s.heap.push {cls:=.type "range",data:=.fields #[.int a t,.int c u,.int 1 v]}).objs.size,[(s.heap.push {cls:=.type "range",data:=.fields #[.int a t,.int c u,.int 1 v]}).objs.size],_,_,H,rfl,
  f.kept (t':=g) λb o e=>Heap.get?_push_of_some _ e,AB5 _ a (c-a).toNat,?_,λb l=>?_,q⟩
 .have e1:a+((0:Nat):Int)*1=a:=by simp
  have h:(((c-a).toNat:Nat):Int)-((0:Nat):Int)=Builtin.Range.rangeSize a c 1:=by rw[rangeSize_one];split <;> omega
  show IsRangeIter _ _ (a+((0:Nat):Int)*1) ((((c-a).toNat:Nat):Int)-((0:Nat):Int)) 1;rw[e1,h];exact Heap.get?_push_size _ rfl
 .have e:b=(s.heap.push {cls:=.type "range",data:=.fields #[.int a t,.int c u,.int 1 v]}).objs.size:=by simpa using l
  subst e;exact f.fpOk (Ag _) (f.hok.fresh (Ag _))
abbrev AGm(ta:TA):TI:=λY H R=>ta Y H λvs H1=>∃j:Int,vs=[.int j]/\-(2 ^ 62)<=j/\j<2 ^ 62/\R (MD 0 j.toNat) H1
abbrev AGl(ta:TA):TI:=λY H R=>ta Y H λvs H1=>∃i j:Int,vs=[.int i,.int j]/\(-(2 ^ 62)<=i/\i<2 ^ 62/\-(2 ^ 62)<=j/\j<2 ^ 62)/\R (MD i (j-i).toNat) H1
def AEU{a:Expr}{f:TA}{p pos:Pos}(n:Gl X "range")(o:X.mg "range"=none)(k:PA X [a] f)(u:starEach [a] X.env=[(false,eval a X.env)]):PI X tg (.Call (.Name "range" p) [a] [] pos) (AGm f):=by
 intro b s Y H R I h;refine Call_ (Hh I n o boot_range (PyProof.Rows.callWith_type1 (Ai (k pos b s Y H _ I h) λy v c=>?_) u rfl));obtain⟨w,x,l,g,d⟩:=c;obtain⟨j,e,d,i,q⟩:=d;subst e
 cases g with
 |cons r m =>
  cases m;obtain⟨t,rfl⟩:=r;exact call_range_1 (Wl l (by omega) (by omega) d i (by simpa using q))
def AET{a b:Expr}{l:TA}{p pos:Pos}(u:Gl X "range")(w:X.mg "range"=none)(y:PA X [a,b] l)(x:starEach [a,b] X.env=[(false,eval a X.env),(false,eval b X.env)])(c:starEach [b] X.env=[(false,eval b X.env)]) :
  PI X tg (.Call (.Name "range" p) [a,b] [] pos) (AGl l):=by
 intro d s Y H R I h;refine Call_ (Hh I u w boot_range (PyProof.Rows.callWith_type1 (Ai (y pos d s Y H _ I h) λus s1 k=>?_) (by rw[x,c]) (by rw[c];rfl)));obtain⟨vs,H1,z,m,f⟩:=k;obtain⟨i,j,e,⟨f,n,q3,v⟩,q⟩:=f;subst e
 cases m with
 |cons r g =>
  cases g with
  |cons o g =>
   cases g;obtain⟨t,rfl⟩:=r;obtain⟨t',rfl⟩:=o;exact call_range_2 (Wl z f n q3 v q)
abbrev ACY(wi:TI)(g:TG)(tb:TS):TS:=λD Y H=>wi Y H λJ H1=>∃W:Nat->Nat->St->Hp->Prop,(∃m,W 0 m Y H1)/\∀i m Y H,W i m Y H ->
 (J.stop i H/\D.nx Y H)\/(J.go i H/\∃N:St->Hp->Prop,(∀Y' H',N Y' H'->∃m',m'<m/\W (i+1) m' Y' H')/\∀x H',J.yld i H x H'->g x Y H' λY2 H2=>tb {D with nx:=N,ct:=N,bk:=D.nx} Y2 H2)
abbrev JS(fp:AOv)(h:Heap):List (Addr×Obj):=fp.filterMap λb=>(h.get? b).map λo=>(b,o)
def JU{fp:AOv}{h:Heap}{b:Addr}{o:Obj}(a:b∈fp)(e:h.get? b=some o):(b,o)∈JS fp h:=ANf.mpr ⟨b,a,by rw[e];rfl⟩
def AFS{fp:AOv}{h:Heap}{p:Addr×Obj}(d:p∈JS fp h):p.1∈fp/\h.get? p.1=some p.2:=by
 obtain⟨b,a,e⟩:=ANf.mp d
 cases q:h.get? b with
 |none=>rw[q] at e;cases e
 |some o =>
  rw[q] at e;have c:(b,o)=p:=Option.some.inj e;subst c;exact⟨a,q⟩
def AI.pinned{a:List (Addr×Obj)}{Y:St}{H:Hp}{s:Shared}{fp:AOv}(I:AI X a Y H s)(i:∀b∈fp,Ed X a H b)(ho:∀b∈fp,∃o,s.heap.get? b=some o/\∀v,o.data≠.cell v):AI X (a++JS fp s.heap) Y H s :=
 I.pins_of λp g=>(CF.mp g).elim (λz=>I.pin p (Eu _ z)) λz=>by
  obtain⟨c,e⟩:=AFS z;obtain⟨k,h,j,_⟩:=i p.1 c;obtain⟨o,f,d⟩:=ho p.1 c;rw[e] at f;cases f;exact⟨e,k,h,j,d⟩
def AI.unpinned{a b:List (Addr×Obj)}{Y:St}{H:Hp}{s:Shared}(I:AI X (a++b) Y H s):AI X a Y H s:=I.pins_of λp c=>I.pin p (Eu _ (ANL _ c))
def AD2{q:Expr}{z:AOx}{wi:TI}{g:TG}{tb:TS}{pos:Pos}(hp:PassesOwn (model X.prog X.w) X.A X.env X.xe)(hc:X.calm=true)(hi:PI X tg q wi)(hg:PG X tg g)(l:Dp X z tb)
  (hs:∀x,foldedSetIterable q X.env x=pure x:=by intro _;rfl):PS X (.For tg q z [] pos) (ACY wi g tb):=by
 intro a s Y H D I h;refine wpAny_For (Ai (hi a s Y H _ I h) λv s1 h1=>Ai h1 λal s2 h2=>?_) hs;obtain⟨it,fp,tn,J,H2,e,I2,T,aj,f2,W,⟨m0,w0⟩,ad⟩:=h2;subst e
 -- what stays true of the iterator's objects through the loop
 have k:∀{y:Hp},(∀b∈fp,y b=none)->∀b∈fp,Ed X a y b:=λhn b l=>⟨hn b l,(f2 b l).2⟩;refine codeAny_forLoop_any (λn s'=>∃i Y' y,AI X a Y' y s'/\tn i s'.heap/\(∀b∈fp,y b=none)/\W i n Y' y) ?_ m0 ⟨0,Y,H2,I2,aj,λb l=>(f2 b l).1,w0⟩;rintro n s3 ⟨i,Y3,H3,I3,ac,ag,w3⟩;rcases ad i n Y3 H3 w3 with⟨ae,qn⟩|⟨go,N,hN,step⟩
 .refine AOh hp (Ai (T.done X rfl rfl rfl hc i a s3 Y3 H3 X.xe I3 (k ag) ac ae) λr s4 c=>?_);obtain⟨hr,I4⟩:=c;subst hr;exact wpAny_execs_nil ⟨Y3,H3,I4,qn⟩
 .refine AOh hp (Ai (T.item X rfl rfl rfl hc i a s3 Y3 H3 X.xe I3 (k ag) ac go) λr s4 c=>?_);obtain⟨u,hr,h4⟩:=c;subst hr;refine AOh hp (Ai h4 λ_ s5 c=>?_);obtain⟨x,H5,I5,r5,y5,aa,ak⟩:=c;have ai:=I5.pinned (k ak) (T.obj _ _ aa);refine AOh hp (Ai (hg _ s5 Y3 H5 x u _ ai r5 (step x H5 y5)) λ_ s6 c=>?_);obtain⟨Y6,H6,I6,q6⟩:=c;refine AOh hp (Ai (l _ s6 Y6 H6 _ I6 q6) λf s7 q7=>?_)
  have again:∀{t:St} {p:Hp},AI X (a++JS fp s5.heap) t p s7->N t p->∃m,m<n/\∃i Y' y,AI X a Y' y s7/\tn i s7.heap/\(∀b∈fp,y b=none)/\W i m Y' y:=λ{t p} j n7=>by
   obtain⟨m',hm,w7⟩:=hN t p n7;refine⟨m',hm,i+1,t,p,j.unpinned,T.keep _ _ _ aa λb l o e=>(j.pin (b,o) (Eu _ (Eu _ (JU l e)))).1,λb l=>?_,w7⟩;obtain⟨o,e,d⟩:=T.obj _ _ aa b l;exact(j.pin (b,o) (Eu _ (Eu _ (JU l e)))).2.1
  cases f with
  |next=>obtain⟨t,p,j,n7⟩:=q7;exact again j n7
  |cont=>obtain⟨t,p,j,n7⟩:=q7;exact again j n7
  |brk=>obtain⟨t,p,j,q7⟩:=q7;exact⟨t,p,j.unpinned,q7⟩
  |ret v=>obtain⟨x7,t,p,j,r7,q7⟩:=q7;exact⟨x7,t,p,j.unpinned,r7,q7⟩
end
noncomputable abbrev R2:=V->V->Hp->VK->Prop
abbrev Aw(X:Cx)(f:Value->Value->Sem Value)(r:R2):Prop :=
 ∀(pins:List (Addr×Obj)) (s:Shared) (Y:St) (H:Hp) (x y:V) (v u:Value) (Q:VK),AI X pins Y H s->Af x v->Af y u->r x y H Q ->
  wpAny (model X.prog X.w) X.A (f v u) (EP X pins Y Q) X.xe s
abbrev UD(X:Cx)(f:Value->Sem Value)(r:V->Hp->VK->Prop):Prop :=
 ∀(pins:List (Addr×Obj)) (s:Shared) (Y:St) (H:Hp) (x:V) (v:Value) (Q:VK),AI X pins Y H s->Af x v->r x H Q ->
  wpAny (model X.prog X.w) X.A (f v) (EP X pins Y Q) X.xe s
abbrev CD(X:Cx)(f:Value)(r:List V->Hp->VK->Prop):Prop :=
 ∀(pins:List (Addr×Obj)) (s:Shared) (Y:St) (H:Hp) (xs:List V) (us:AOu) (Q:VK),AI X pins Y H s->Ae xs us->r xs H Q ->
  wpAny (model X.prog X.w) X.A (call f us) (EP X pins Y Q) X.xe s
abbrev Kz(r:R2)(ta tb:TE):TE:=λY H Q=>ta Y H λx H1=>tb Y H1 λy H2=>r x y H2 Q
abbrev tUn(r:V->Hp->VK->Prop)(ta:TE):TE:=λY H Q=>ta Y H λx H1=>r x H1 Q
abbrev rI(C:Int->Int->Prop)(g:Int->Int->V):R2:=λx y H Q=>∃i j,x=.int i/\y=.int j/\C i j/\Q (g i j) H
abbrev Hf(g:Int->Int->V):R2:=λx y H Q=>∃i j,x=.int i/\y=.int j/\Q (g i j) H
abbrev rU(g:Int->V):V->Hp->VK->Prop:=λx H Q=>∃i,x=.int i/\Q (g i) H
section
variable {X:Cx}{a b c:Expr}{ta tb tc:TE}{pos:Pos}
def Tr(p:PE X a ta)(r:PE X b tb){c:List (Addr×Obj)}{s:Shared}{Y:St}{H:Hp}{R:V->V->Hp->Prop}(I:AI X c Y H s)
  (h:ta Y H λx k=>tb Y k λy e=>R x y e) {Q:AO0} {f:Value->Value->Sem Value}
  (z:∀v u j x y e,AI X c Y e j->Af x v->Af y u->R x y e->wpAny (model X.prog X.w) X.A (f v u) Q X.xe j) :
  wpAny (model X.prog X.w) X.A (eval a X.env) (λv i=>wpAny (model X.prog X.w) X.A (eval b X.env) (λu g=>wpAny (model X.prog X.w) X.A (f v u) Q X.xe g) X.xe i) X.xe s:=by
 refine Ai (p c s Y H _ I h) λv o d=>?_;obtain⟨x,k,q,l,q1⟩:=d;refine Ai (r c o Y k _ q q1) λu j d=>?_;obtain⟨y,e,n,t,m⟩:=d;exact z v u j x y e n l t m
def AEg{d:Operator}{r:R2}(ho:Aw X (binaryOp d) r)(i:PE X a ta)(l:PE X b tb):PE X (.BinOp a d b pos) (Kz r ta tb):=by intro c s Y H Q I h;exact wpAny_BinOp (Tr i l I h λv u e x y j f k g q=>ho c e Y j x y v u Q f k g q)
def AEb{d:UnaryOp}{r:V->Hp->VK->Prop}(ho:UD X (unaryOp d) r)(g:PE X a ta):PE X (.UnaryOp d a pos) (tUn r ta):=by intro b s Y H Q I h;exact UnaryOp_ (Ai (g b s Y H _ I h) λv f c=>(by obtain⟨x,j,i,e,k⟩:=c;exact ho b f Y j x v Q i e k))
def Nx{f:Value->Value->Sem Value}{C:Int->Int->Prop}{g:Int->Int->Int}
  (a:∀(i j:Int) (t u:Tok) (s:Shared) (Q:AO0) (E:AO0),C i j->Q (.int (g i j) s.toks) {s with toks:=s.toks+1}->wpAny (model X.prog X.w) X.A (f (.int i t) (.int j u)) Q E s) :
  Aw X f (rI C λi j=>.int (g i j)):=by
 intro b s Y H x y v u Q I e d h;obtain⟨i,j,rfl,rfl,c,q⟩:=h;obtain⟨t,rfl⟩:=e;obtain⟨k,rfl⟩:=d;exact a i j t k s _ _ c ⟨.int (g i j),H,I.tok _,⟨_,rfl⟩,q⟩
def XV{f:Value->Value->Sem Value}{g:Int->Int->Int}
  (a:∀(i j:Int) (t u:Tok) (s:Shared) (Q:AO0) (E:AO0),Q (.int (g i j) s.toks) {s with toks:=s.toks+1}->wpAny (model X.prog X.w) X.A (f (.int i t) (.int j u)) Q E s) :
  Aw X f (Hf λi j=>.int (g i j)):=by
 intro b s Y H x y v u Q I d c h;obtain⟨i,j,rfl,rfl,q⟩:=h;obtain⟨t,rfl⟩:=d;obtain⟨e,rfl⟩:=c;exact a i j t e s _ _ ⟨.int (g i j),H,I.tok _,⟨_,rfl⟩,q⟩
def Ny{f:Value->Value->Sem Value}{g:Int->Int->Bool}
  (a:∀(i j:Int) (t u:Tok) (s:Shared) (Q:AO0) (E:AO0),Q (.bool (g i j)) s->wpAny (model X.prog X.w) X.A (f (.int i t) (.int j u)) Q E s) :
  Aw X f (Hf λi j=>.bl (g i j)):=by
 intro b s Y H x y v u Q I d c h;obtain⟨i,j,rfl,rfl,q⟩:=h;obtain⟨t,rfl⟩:=d;obtain⟨e,rfl⟩:=c;exact a i j t e s _ _ ⟨.bl (g i j),H,I,rfl,q⟩
abbrev AI8(i j:Int):Prop:=0<=j/\j<=1000000/\i.natAbs<2 ^ 64
abbrev AAb(i j:Int):Prop:=(-(2 ^ 64)<i/\i<2 ^ 64)\/(-(2 ^ 64)<j/\j<2 ^ 64)
def AAb.ok{i j:Int}(h:AAb i j):IntMulOk i j:=by
 rcases h with⟨a,b⟩|⟨a,b⟩
 .exact .of_left (intBits_le_64 a b)
 .exact .of_right (intBits_le_64 a b)
def AFQ:Aw X (binaryOp .Add) (Hf λi j=>.int (i+j)):=XV λ_ _ _ _ _ _ _ q=>add_int q
def AE9:Aw X (binaryOp .Sub) (Hf λi j=>.int (i-j)):=XV λ_ _ _ _ _ _ _ q=>sub_int q
def AFF:Aw X (binaryOp .Mod) (rI (λ_ j=>0<j) λi j=>.int (i % j)):=Nx λi j _ _ _ _ _ a q=>by
 have b:(0:Int)<j:=a;exact mod_int' (by omega) (by rw[Int.fmod_eq_emod_of_nonneg i (by omega)];exact q)
def AFA:Aw X (binaryOp .Pow) (rI AI8 λi j=>.int (i ^ j.toNat)):=Nx λ_ _ _ _ _ _ _ a q=>pow_int_small a.1 a.2.1 a.2.2 q
def unI{f:Value->Sem Value}{g:Int->Int}
  (a:∀(i:Int) (t:Tok) (s:Shared) (Q:AO0) (E:AO0),Q (.int (g i) s.toks) {s with toks:=s.toks+1}->wpAny (model X.prog X.w) X.A (f (.int i t)) Q E s) :
  UD X f (rU λi=>.int (g i)):=by
 intro b s Y H x v Q I c h;obtain⟨i,rfl,q⟩:=h;obtain⟨t,rfl⟩:=c;exact a i t s _ _ ⟨.int (g i),H,I.tok _,⟨_,rfl⟩,q⟩
def AB0:UD X (unaryOp .USub) (rU λi=>.int (-i)):=unI λ_ _ _ _ _ q=>neg_int q
end
abbrev SI:V->V->Bool
 |.non,.non=>true|.non,.int _=>true|.int _,.non=>true|.non,.bl _=>true|.bl _,.non=>true|.non,.str _=>true|.str _,.non=>true
 |.int _,.int _=>true|.bl _,.bl _=>true|.str _,.str _=>true|.byt _,.byt _=>true
 |.int _,.str _=>true|.str _,.int _=>true|.bl _,.str _=>true|.str _,.bl _=>true
 |_,_=>false
abbrev rEq:R2:=λx y H Q=>SI x y=true/\Q (.bl (decide (x=y))) H
abbrev rNe:R2:=λx y H Q=>SI x y=true/\Q (.bl (!decide (x=y))) H
def ZR{i j:Int}:decide (V.int i=V.int j)=(i == j):=by rw[ANs];simp
def ZT{i j:Bool}:decide (V.bl i=V.bl j)=(i == j):=by rw[ANs];simp
def ZQ{i j:Str}:decide (V.str i=V.str j)=(i == j):=by rw[ANs];simp
def ZS{i j:Array UInt8}:decide (V.byt i=V.byt j)=(i.toList == j.toList):=by rw[ANs];cases i;cases j;simp
section
variable {X:Cx}{a b c:Expr}{ta tb tc:TE}{pos:Pos}
def BL{a:List (Addr×Obj)}{Y:St}{H:Hp}{s:Shared}{Q:VK}{k b:Bool}(I:AI X a Y H s)(q:Q (.bl k) H)(e:k=b):EP X a Y Q (.bool b) s:=by subst e;exact⟨.bl k,H,I,rfl,q⟩
def XU:Aw X (compareOp .Eq) rEq:=by
 intro e s Y H x y v u Q I d a h;obtain⟨c,q⟩:=h
 cases x with
 |non =>
  cases d
  cases y with
  |non=>cases a;exact PySem.EqNone.eq_none_none (BL I q (by simp))
  |bl j=>cases a;exact PySem.EqNone.eq_none_bool (BL I q (by simp))
  |int j=>obtain⟨b,rfl⟩:=a;exact PySem.EqNone.eq_none_int (BL I q (by simp))
  |str j=>obtain⟨b,rfl⟩:=a;exact PySem.EqNone.eq_none_str (BL I q (by simp))
  |_=>exact ftF c
 |bl i =>
  cases d
  cases y with
  |non=>cases a;exact PySem.EqNone.eq_bool_none (BL I q (by simp))
  |bl j=>cases a;exact eq_bool (BL I q ZT)
  |str j=>obtain⟨b,rfl⟩:=a;exact PySem.EqMixed.eq_bool_str (BL I q (by simp))
  |_=>exact ftF c
 |int i =>
  obtain⟨t,rfl⟩:=d
  cases y with
  |non=>cases a;exact PySem.EqNone.eq_int_none (BL I q (by simp))
  |int j=>obtain⟨b,rfl⟩:=a;exact eq_int (BL I q ZR)
  |str j=>obtain⟨b,rfl⟩:=a;exact PySem.EqMixed.eq_int_str (BL I q (by simp))
  |_=>exact ftF c
 |str i =>
  obtain⟨t,rfl⟩:=d
  cases y with
  |non=>cases a;exact PySem.EqNone.eq_str_none (BL I q (by simp))
  |bl j=>cases a;exact PySem.EqMixed.eq_str_bool (BL I q (by simp))
  |int j=>obtain⟨b,rfl⟩:=a;exact PySem.EqMixed.eq_str_int (BL I q (by simp))
  |str j=>obtain⟨b,rfl⟩:=a;exact eq_str (BL I q ZQ)
  |_=>exact ftF c
 |byt i =>
  obtain⟨t,rfl⟩:=d
  cases y with
  |byt j=>obtain⟨b,rfl⟩:=a;exact PySem.W.eq_bytes (BL I q ZS)
  |_=>exact ftF c
 |_=>cases y <;> exact ftF c
def XT:Aw X (compareOp .NotEq) rNe:=by
 intro e s Y H x y v u Q I d a h;obtain⟨c,q⟩:=h
 cases x with
 |non =>
  cases d
  cases y with
  |non=>cases a;exact PySem.EqNone.ne_none_none (BL I q (by simp))
  |bl j=>cases a;exact PySem.EqNone.ne_none_bool (BL I q (by simp))
  |int j=>obtain⟨b,rfl⟩:=a;exact PySem.EqNone.ne_none_int (BL I q (by simp))
  |str j=>obtain⟨b,rfl⟩:=a;exact PySem.EqNone.ne_none_str (BL I q (by simp))
  |_=>exact ftF c
 |bl i =>
  cases d
  cases y with
  |non=>cases a;exact PySem.EqNone.ne_bool_none (BL I q (by simp))
  |bl j=>cases a;exact ne_bool (BL I q (congrArg not ZT))
  |str j=>obtain⟨b,rfl⟩:=a;exact PySem.EqMixed.ne_bool_str (BL I q (by simp))
  |_=>exact ftF c
 |int i =>
  obtain⟨t,rfl⟩:=d
  cases y with
  |non=>cases a;exact PySem.EqNone.ne_int_none (BL I q (by simp))
  |int j=>obtain⟨b,rfl⟩:=a;exact ne_int (BL I q (congrArg not ZR))
  |str j=>obtain⟨b,rfl⟩:=a;exact PySem.EqMixed.ne_int_str (BL I q (by simp))
  |_=>exact ftF c
 |str i =>
  obtain⟨t,rfl⟩:=d
  cases y with
  |non=>cases a;exact PySem.EqNone.ne_str_none (BL I q (by simp))
  |bl j=>cases a;exact PySem.EqMixed.ne_str_bool (BL I q (by simp))
  |int j=>obtain⟨b,rfl⟩:=a;exact PySem.EqMixed.ne_str_int (BL I q (by simp))
  |str j=>obtain⟨b,rfl⟩:=a;exact ne_str (BL I q (congrArg not ZQ))
  |_=>exact ftF c
 |byt i =>
  obtain⟨t,rfl⟩:=d
  cases y with
  |byt j=>obtain⟨b,rfl⟩:=a;exact PySem.W.ne_bytes (BL I q (congrArg not ZS))
  |_=>exact ftF c
 |_=>cases y <;> exact ftF c
def op_lt:Aw X (compareOp .Lt) (Hf λi j=>.bl (decide (i<j))):=Ny λ_ _ _ _ _ _ _ q=>lt_int q
def AFG:Aw X (compareOp .LtE) (Hf λi j=>.bl (decide (i<=j))):=Ny λ_ _ _ _ _ _ _ q=>le_int q
def AFK:Aw X (compareOp .Gt) (Hf λi j=>.bl (decide (j<i))):=Ny λ_ _ _ _ _ _ _ q=>gt_int q
def AFL:Aw X (compareOp .GtE) (Hf λi j=>.bl (decide (j<=i))):=Ny λ_ _ _ _ _ _ _ q=>ge_int q
def AFI:Aw X (compareOp .In) (λx y H Q=>∃i j,x=.str i/\y=.str j/\Q (.bl (!(Builtin.Str.occurrences j i 0 j.length 1).isEmpty)) H):=by intro a s Y H x y v u Q I c b h;obtain⟨i,j,rfl,rfl,q⟩:=h;obtain⟨t,rfl⟩:=c;obtain⟨d,rfl⟩:=b;exact in_str (BL I q rfl)
def op_isN:Aw X (compareOp .Is) (λx y H Q=>y=.non/\Q (.bl (decide (x=.non))) H):=by
 intro b s Y H x y v u Q I a c h;obtain⟨rfl,q⟩:=h;cases c;refine is_none_gen (BL I q ?_)
 cases x <;> first
  |(cases a;rfl)
  |(obtain⟨t,rfl⟩:=a;rfl)
def AFB:Aw X (compareOp .IsNot) (λx y H Q=>y=.non/\Q (.bl (!decide (x=.non))) H):=by
 intro b s Y H x y v u Q I a c h;obtain⟨rfl,q⟩:=h;cases c;refine isnot_none_gen (BL I q ?_)
 cases x <;> first
  |(cases a;rfl)
  |(obtain⟨t,rfl⟩:=a;rfl)
def op_notin_str:Aw X (compareOp .NotIn) (λx y H Q=>∃i j,x=.str i/\y=.str j/\Q (.bl (!(!(Builtin.Str.occurrences j i 0 j.length 1).isEmpty))) H):=by intro a s Y H x y v u Q I c b h;obtain⟨i,j,rfl,rfl,q⟩:=h;obtain⟨t,rfl⟩:=c;obtain⟨d,rfl⟩:=b;exact notIn_str (BL I q rfl)
def Aw.or{f:Value->Value->Sem Value}{r d:R2}(h:Aw X f r)(h':Aw X f d):Aw X f (λx y H Q=>r x y H Q\/d x y H Q):=by
 intro a s Y H x y v u Q I c b q;rcases q with q|q
 .exact h a s Y H x y v u Q I c b q
 .exact h' a s Y H x y v u Q I c b q
def AEr{d:CmpOp}{r:R2}(ho:Aw X (compareOp d) r)(i:PE X a ta)(l:PE X b tb)(m:behindInMarks d b=false):PE X (.Compare a [d] [b] pos) (Kz r ta tb):=by intro c s Y H Q I h;exact wpAny_Compare1 (Tr i l I h λv u e x y j f k g q=>ho c e Y j x y v u Q f k g q) m
abbrev Vy(t:TE):TT:=λY H Q=>t Y H λx H'=>∃k,x=.bl k/\Q k H'
def ADs{f:CmpOp}{r:R2}(ho:Aw X (compareOp f) r)(o:PE X a ta)(w:PE X b tb)(hm:behindInMarks f b=false):PT X (.Compare a [f] [b] pos) (Vy (Kz r ta tb)):=by
 intro d s Y H Q I h
 refine wpAny_isTrue_Compare1 (Ai (o d s Y H _ I h) λv m ⟨x,H1,t,g,q1⟩=>Ai (w d m Y H1 _ t q1) λu i ⟨y,n,l,r2,j⟩ =>
  Ai (ho d i Y n x y v u _ l g r2 j) λc s3 ⟨z,q,p,r3,k,e,q3⟩=>?_) hm
 subst e;cases r3;exact AOg ⟨q,p,q3⟩
abbrev WB(r r':R2)(ta tb tc:TE):TE:=λY H Q=>ta Y H λx H1=>tb Y H1 λy H2=>r x y H2 λz H3=>∃k,z=.bl k /\
 (if k=true then tc Y H3 λw' H4=>r' y w' H4 Q else Q (.bl false) H3)
def ADt{j g:CmpOp}{r n:R2}(ho:Aw X (compareOp j) r)(l:Aw X (compareOp g) n)(ha:PE X a ta)(hb:PE X b tb)(hc:PE X c tc)
  (hm:lastMarks [j,g] [b,c]=false):PT X (.Compare a [j,g] [b,c] pos) (Vy (WB r n ta tb tc)):=by
 intro f s Y H Q I h
 refine isTrue_chain (Ai (ha f s Y H _ I h) λv s1 ⟨x,H1,I1,t,q1⟩=>test_link (Ai (hb f s1 Y H1 _ I1 q1) λu w ⟨y,H2,I2,o,q2⟩ =>
  Ai (ho f w Y H2 x y v u _ I2 t o q2) λd s3 ⟨z,p,m,r3,k,e,q⟩=>?_)) hm
 subst e;cases r3;refine AOg ?_
 cases k with
 |false =>
  obtain⟨k',e',q'⟩:=q;cases e';exact ite_ff ⟨p,m,q'⟩
 |true =>
  refine ite_tt (test_last (Ai (hc f s3 Y p _ m q) λw' s4 i=>?_));obtain⟨z',H4,I4,r4,q4⟩:=i;refine Ai (l f s4 Y H4 y z' u w' _ I4 o r4 q4) λd' s5 i=>?_;obtain⟨z2,H5,I5,r5,k2,e2,q5⟩:=i;subst e2;cases r5;exact AOg ⟨H5,I5,q5⟩
def JW:(sizeLine:Nat)<2 ^ 63:=by rw[sizeLine_eq];decide
def AFP:Aw X (binaryOp .Add) (λx y H Q=>∃i j,x=.str i/\y=.str j/\i.length+j.length<=sizeLine/\Q (.str (i++j)) H):=by intro a s Y H x y v u Q I c b h;obtain⟨i,j,rfl,rfl,d,q⟩:=h;obtain⟨t,rfl⟩:=c;obtain⟨e,rfl⟩:=b;exact add_str (λe f=>⟨.str (i++j),H,I.tok _,⟨_,rfl⟩,q⟩) d
def Ds{x:V}{us:AOu}(r:Ae [x] us):∃u,us=[u]/\Af x u:=by
 cases r with
 |cons a b=>cases b;exact⟨_,rfl,a⟩
def Rt{x y:V}{us:AOu}(r:Ae [x,y] us):∃u a,us=[u,a]/\Af x u/\Af y a:=by
 cases r with
 |cons b c =>
  cases c with
  |cons d e=>cases e;exact⟨_,_,rfl,b,d⟩
def AIF:CD X (.builtin "abs") (λa H Q=>∃i,a=[.int i]/\Q (.int (if i<0 then -i else i)) H):=by
 intro b s Y H a d Q I r h;obtain⟨i,rfl,q⟩:=h;obtain⟨u,rfl,t,rfl⟩:=Ds r
 exact call_abs_int λu c=>⟨.int (if i<0 then -i else i),H,I.tok _,⟨_,rfl⟩,q⟩
def AH9(d:X.calm=true):CD X (.builtin "max") (λb H Q=>∃i j,b=[.int i,.int j]/\Q (.int (if j>i then j else i)) H):=by
 intro c s Y H b m Q I r h;obtain⟨i,j,rfl,q⟩:=h;obtain⟨u,f,rfl,⟨t,rfl⟩,⟨g,rfl⟩⟩:=Rt r;refine max_two_ints (I.ok.hd d) λe l k=>⟨_,H,I.kept k,?_,q⟩
 by_cases a:j>i
 .rw[if_pos a,if_pos a];exact⟨_,rfl⟩
 .rw[if_neg a,if_neg a];exact⟨_,rfl⟩
def AH8(d:X.calm=true):CD X (.builtin "min") (λb H Q=>∃i j,b=[.int i,.int j]/\Q (.int (if j<i then j else i)) H):=by
 intro c s Y H b m Q I r h;obtain⟨i,j,rfl,q⟩:=h;obtain⟨u,f,rfl,⟨t,rfl⟩,⟨g,rfl⟩⟩:=Rt r;refine min_two_ints (I.ok.hd d) λe l k=>⟨_,H,I.kept k,?_,q⟩
 by_cases a:j<i
 .rw[if_pos a,if_pos a];exact⟨_,rfl⟩
 .rw[if_neg a,if_neg a];exact⟨_,rfl⟩
def AID:CD X (.type "int") (λa H Q=>(∃i,a=[.int i]/\Q (.int i) H)\/∃k,a=[.bl k]/\Q (.int (if k then 1 else 0)) H):=by
 intro b s Y H a c Q I r h;rcases h with⟨i,rfl,q⟩|⟨k,rfl,q⟩
 .obtain⟨u,rfl,t,rfl⟩:=Ds r;exact call_int_int ⟨.int i,H,I,⟨_,rfl⟩,q⟩
 .obtain⟨u,rfl,r1⟩:=Ds r;cases r1
  exact call_int_bool ⟨.int (if k then 1 else 0),H,I.tok _,⟨_,rfl⟩,q⟩
end
structure Jx (h:Heap) (x dx C:Addr) (mA:AOs):Prop where
 obj:h.get? x=some (ANT C dx)
 ns:h.Ns1 dx mA
 ne:dx≠x
def AGE{h:Heap}{d:Addr}{c:AOs}(n:h.Ns1 d c):∃f,h.get? d=some f/\∀name,PySem.W.lookIn name f=some (c name):=by
 obtain⟨o,g,p,ho,i,k,_,m⟩:=n;refine⟨o,ho,λname=>?_⟩;have e:=m name;unfold nsFind findBy at e;rw[<-Array.find?_toList] at e;unfold PySem.W.lookIn;rw[i];dsimp only;split
 .rename_i y q;rw[q] at e;exact congrArg some e
 .rename_i q;rw[q] at e
  have a:g.toList.any (·.refKey)=false:=by rw[List.any_eq_false];intro y j;obtain⟨z,t,b⟩:=k y (Array.mem_toList_iff.mp j);simp[DictEntry.refKey,b]
  have l:¬g.toList.any (·.refKey)=true:=by rw[a];exact HB
  rw[if_neg l];exact congrArg some e
def Jx.look{h:Heap}{x c C:Addr}{b:AOs}(I:Jx h x c C b):∃a,PySem.W.InstAt h x (ANT C c) C (some a)/\∀name,PySem.W.lookIn name a=some (b name) :=
 let ⟨a,ho,hl⟩:=AGE I.ns
 ⟨a,⟨I.obj,rfl,rfl,ho⟩,hl⟩
section
variable {prog:Program}{w:World}{A:Around}{E:AO0}{s:Shared}{K:AL}{x dx C f:Addr}{mA:AOs}{name:Str}{v:Value}
def AGt{a:Bool}{Q:AO0}(X:K.In s.heap)(I:Jx s.heap x dx C mA)(f:AN1 K C name=true)(e:AN2 K C=true)
  (g:Dl K (.ref C) name=some none) (c:mA name=some v) (b:PySem.W.handedIn v=true) (h:Q v {s with toks:=s.toks+1}) :
  wpAny (model prog w) A (getAttr (.ref x) name a) Q E s:=by
 obtain⟨i,J,d⟩:=I.look;exact PySem.W.get_value X J (PySem.W.plainGet_of f).1 (PySem.W.findObj_own e g rfl (by rw[d,c])) b h
def AC7{ns:AOt}{Q:Unit->Shared->Prop}(X:K.In s.heap)(I:Jx s.heap x dx C mA)
  (u:Dl K (.ref C) "__setattr__"=some (some (.builtin "object.__setattr__"))) (t:AOE K C=true) (q:PySem.W.takerIn K C name=some none) (p:AN2 K C=true)
  (hw:PySem.Within mA ns) (o:ns.length<=sizeLine)
  (h:∀e,Jx e x dx C (λy=>if y=name then some v else mA y)->Heap.SameBut dx s.heap e->Q () {s with heap:=e,toks:=s.toks+2}) :
  wpAny (model prog w) A (setAttr (.ref x) name v) Q E s:=by
 obtain⟨od,J,hl⟩:=I.look;refine PySem.W.set_plain X J u (PySem.W.osa_open (s:={s with toks:=s.toks+1}) (r:=none) X J t q λb=>?_);obtain⟨cd,l,g⟩:=PySem.W.any_some p;have n:s.heap.get? x=some ⟨.ref C,some dx,.plain,#[]⟩:=I.obj;refine AH (AO (AH (AH (wpAny_loadPart n (AH (PySem.W.Looks.here (s:={s with toks:=s.toks+1}) (PySem.W.looks_clsIn X l) ?_))))));rw[g];refine AO (a:=some dx) (AH (AO (AH ?_)));refine wpAny_nsSet1 (s:={s with toks:=s.toks+1}) I.ns λe d c=>?_;obtain⟨z,m,k,i,j,f⟩:=d.count (PySem.Within.cons name v hw);refine AH (wpAny_lookBehind i (by rw[j];exact pastItsLine_dict (Cf f (by rw[Dm];omega))) ?_);exact AO (h _ ⟨(c.2 _ (Ne.symm I.ne)).trans I.obj,d,I.ne⟩ c)
def AFv{R:Result->Shared->Prop}{vs:AOu}{b:List (Str×Value)}(X:K.In s.heap)(c:AOF K C=true)
  (i:Dl K (.ref C) "__init__"=some (some (.ref f))) (e:PySem.W.typeIn K (.ref f)=some (.type "function"))
  (h:codeAny (model prog w) (A.under (.builtin "type.__call__" ⟨.ref C::vs,b⟩)) (.call (.ref f) ⟨.ref (s.heap.objs.size+1)::vs,b⟩) (PySem.W.InitBack (s.heap.objs.size+1) R)
   {s with heap:=(s.heap.push ANM).push (ANT C s.heap.objs.size)}) :
  codeAny (model prog w) A (.call (.ref C) ⟨vs,b⟩) R s:=by
 obtain⟨j,g,d,t,k⟩:=s;exact PySem.W.make_core (PySem.W.makes_of X c) (PySem.W.looks_findIn X i) (λa=>PySem.W.bind_fn X a e) (.inl rfl) h
end
abbrev CW(f:Str)(v:V):List (Str×V)->List (Str×V)
 |[]=>[(f,v)]
 |(g,x)::r=>if g=f then (g,v)::r else (g,x)::CW f v r
def Xq(f g:Str)(v:V):∀fs:List (Str×V),(CW f v fs).lookup g=if g=f then some v else fs.lookup g
 |[]=>by
  show Fx g [(f,v)]=_
  by_cases h:g=f
  .have hb:(g == f)=true:=beq_iff_eq.mpr h;simp only[Fx,hb,if_pos h]
  .have hb:(g == f)=false:=beq_eq_false_iff_ne.mpr h;simp only[Fx,hb,if_neg h]
 |(k,x)::r=>by
  have b:=Xq f g v r
  rw[show CW f v ((k,x)::r)=(if k=f then (k,v)::r else (k,x)::CW f v r) from rfl]
  by_cases a:k=f
  .rw[if_pos a]
   by_cases h:g=k
   .have hb:(g == k)=true:=beq_iff_eq.mpr h;simp only[Fx,hb,if_pos (h.trans a)]
   .have hb:(g == k)=false:=beq_eq_false_iff_ne.mpr h;simp only[Fx,hb,if_neg (λe:g=f=>h (e.trans a.symm))]
  .rw[if_neg a]
   by_cases h:g=k
   .have hb:(g == k)=true:=beq_iff_eq.mpr h;simp only[Fx,hb,if_neg (λe:g=f=>a (h.symm.trans e))]
   .have hb:(g == k)=false:=beq_eq_false_iff_ne.mpr h;simp only[Fx,hb];exact b
def Sv(f:Str)(v:V):∀fs:List (Str×V),f∈(CW f v fs).map (·.1)/\∀g,g∈fs.map (·.1)->g∈(CW f v fs).map (·.1)
 |[]=>⟨by simp[CW],λg h=>by simp at h⟩
 |(k,x)::r=>by
  obtain⟨c,b⟩:=Sv f v r
  rw[show CW f v ((k,x)::r)=(if k=f then (k,v)::r else (k,x)::CW f v r) from rfl]
  by_cases a:k=f
  .rw[if_pos a];subst a;exact⟨by simp,λg h=>by simpa using h⟩
  .rw[if_neg a];refine⟨?_,λg h=>?_⟩
   .rw[Al];exact BD _ c
   .rw[Al] at h ⊢;rcases AY.mp h with e|e
    .exact AY.mpr (.inl e)
    .exact BD _ (b g e)
def Xs(f:Str)(v:V):∀fs:List (Str×V),(CW f v fs).length<=fs.length+1
 |[]=>by simp[CW]
 |(k,x)::r=>by
  have b:=Xs f v r
  rw[show CW f v ((k,x)::r)=(if k=f then (k,v)::r else (k,x)::CW f v r) from rfl]
  by_cases a:k=f
  .rw[if_pos a,Dm,Dm];omega
  .rw[if_neg a,Dm,Dm];omega
def Ft.some_of{v:V}{o:Option Value}(r:Ft (some v) o):∃u,o=some u/\Af v u:=by
 cases o with
 |none=>exact(show False from r).elim
 |some u=>exact⟨u,rfl,r⟩
def AGq{v:V}{u:Value}(r:Af v u):PySem.W.handedIn u=true:=by
 cases v with
 |non=>cases (show u=Value.none from r);rfl
 |bl b=>cases (show u=Value.bool b from r);rfl
 |int i=>obtain⟨t,e⟩:=(show ∃t,u=Value.int i t from r);cases e;rfl
 |str x=>obtain⟨t,e⟩:=(show ∃t,u=Value.str x t from r);cases e;rfl
 |byt b=>obtain⟨t,e⟩:=(show ∃t,u=Value.bytes b t from r);cases e;rfl
 |flt b=>obtain⟨t,e⟩:=(show ∃t,u=Value.float b t from r);cases e;rfl
 |ref a=>cases (show u=Value.ref a from r);rfl
 |ty n=>cases (show u=Value.type n from r);rfl
section
variable {P:Program}{w:World}{H H':Hp}{h h':Heap}{a C dx:Addr}{fs fs':List (Str×V)}
def TD(c:DE P w H h)(e:H a=some (.ins C dx fs)):∃b,Jx h a dx C b/\(∀f,Ft (fs.lookup f) (b f))/\PySem.Within b (fs.map (·.1))/\fs.length<=1000/\H dx=some (.own a):=by obtain⟨d,z,g,i,b,n,r,q⟩:=(show CJ P w H h a (.ins C dx fs) from c a _ e);exact⟨b,⟨i,n,g⟩,r,q,z,d⟩
end
structure Cls (K:AL) (C:Addr):Prop where
 pg:AN1 K C Str.empty=true
 hd:AN2 K C=true
 po:AOE K C=true
 sa:Dl K (.ref C) "__setattr__"=some (some (.builtin "object.__setattr__"))
def Cls.get{K:AL}{C:Addr}(c:Cls K C)(f:Str):AN1 K C f=true:=c.pg
abbrev IU(K:AL)(C:Addr)(f:Str):Prop:=Dl K (.ref C) f=some none
def IU.taker{K:AL}{C:Addr}{f:Str}(n:IU K C f):PySem.W.takerIn K C f=some none:=by unfold PySem.W.takerIn;rw[show Dl K (.ref C) f=some none from n];rfl
structure AIv (K:AL) (C:Addr) (m:Str) (f:Addr):Prop where
 at_:Dl K (.ref C) m=some (some (.ref f))
 fn:PySem.W.isFn K (.ref f)=true
 kp:GY K (.ref f)=true
section
variable {X:Cx}{pins:List (Addr×Obj)}{Y:St}{H:Hp}{s:Shared}{a C dx:Addr}{fs:List (Str×V)}{f:Str}{v:V}{A:Around}{E:AO0}
def Yg{b:Bool}{Q:AO0}(I:AI X pins Y H s)(e:H a=some (.ins C dx fs))(c:Cls X.K C)(n:IU X.K C f)(l:fs.lookup f=some v)
  (h:∀u d,AI X pins Y H d->Af v u->Q u d):wpAny (model X.prog X.w) A (getAttr (.ref a) f b) Q E s:=by
 obtain⟨j,O,r,_,_,_⟩:=TD I.hok e;obtain⟨u,i,g⟩:=Ft.some_of (v:=v) (o:=j f) (by rw[<-l];exact r f);exact AGt I.kIn O (c.get f) c.hd n i (AGq g) (h u _ (I.tok _) g)
def Wf{y:V}{u:Value}{Q:Unit->Shared->Prop}(I:AI X pins Y H s)(e:H a=some (.ins C dx fs))(c:Cls X.K C)(n:IU X.K C f)(hl:fs.length<1000)(p:Af y u)
  (h:∀i,AI X pins Y (upd H a (.ins C dx (CW f y fs))) i->Q () i):wpAny (model X.prog X.w) A (setAttr (.ref a) f u) Q E s:=by
 obtain⟨k,O,r,j,_,ho⟩:=TD I.hok e;have v:(fs.map (·.1)).length<=sizeLine:=by rw[AZ,sizeLine_eq];omega
 refine AC7 I.kIn O c.sa c.po n.taker c.hd j v λl d sb=>h _ ?_;have m:∃o,l.get? dx=some o:=let ⟨o,_,_,e',_⟩:=d.ns;⟨o,e'⟩;refine I.write (x:=a) (e:=dx) (by rw[e];exact True.intro) (.inr ho) (λb q t z=>(sb.2 b t).trans z) m ?_;refine⟨by rw[BX O.ne];exact ho,?_,O.ne,d.obj,_,d.ns,λg=>?_,λg hg=>?_⟩
 .have:=Xs f y fs;omega
 .show Ft ((CW f y fs).lookup g) (if g=f then some u else k g)
  rw[Xq]
  by_cases q:g=f
  .rw[if_pos q,if_pos q];exact p
  .rw[if_neg q,if_neg q];exact r g
 .by_cases q:g=f
  .rw[q];exact(Sv f y fs).1
  .refine(Sv f y fs).2 g (j g λz=>hg ?_)
   show(if g=f then some u else k g)=none
   rw[if_neg q];exact z
def AI.made(I:AI X pins Y H s):AI X pins Y (upd (upd H s.heap.objs.size (.own (s.heap.objs.size+1))) (s.heap.objs.size+1) (.ins C s.heap.objs.size []))
  {s with heap:=(s.heap.push ANM).push (ANT C s.heap.objs.size)}:=by
 have d:(s.heap.push ANM).get? s.heap.objs.size=some ANM:=Heap.get?_push_size s.heap rfl
 have f:((s.heap.push ANM).push (ANT C s.heap.objs.size)).get? (s.heap.objs.size+1)=some (ANT C s.heap.objs.size):=by
  have:=Heap.get?_push_size (s.heap.push ANM) (o:=ANT C s.heap.objs.size) rfl
  rwa [Heap.size_push] at this
 have i:(s.heap.push ANM).Ns s.heap.objs.size (λ_=>none):=⟨ANM,#[],_,d,rfl,(λe j=>absurd j (by simp)),λ_=>rfl⟩;have g:=I.laid (a:=s.heap.objs.size) (o:=.own (s.heap.objs.size+1)) (h':=s.heap.push ANM) (t':=s.toks) (λb u q=>Heap.get?_push_of_some _ q) (Ag _) ⟨_,d⟩;refine g.laid (a:=s.heap.objs.size+1) (o:=.ins C s.heap.objs.size []) (t':=s.toks) (λb u q=>Heap.get?_push_of_some _ q) (ANG (Heap.size_push _ _)) ?_;have c:s.heap.objs.size≠s.heap.objs.size+1:=Bm (Nat.lt_succ_self _);refine⟨by rw[BX c,CT],Ef _,c,f,λ_=>none,(Heap.Ns1.of_empty i).at λo q=>Heap.get?_push_of_some _ q,λ_=>True.intro,λy h=>absurd rfl h⟩
def AIV{prog:Program}{w:World}{env:Env}{e:Expr}{f:Str}{pos:Pos}{s:Shared}{Q:AO0}(b:attributeBase e f env (eval e env)=eval e env)
  (h:wpAny (model prog w) A (eval e env) (λo a=>wpAny (model prog w) A (getAttr o f true) Q E a) E s):wpAny (model prog w) A (eval (.Attribute e f pos) env) Q E s :=
 Attribute_any_ h (by rw[arm_eval_Attribute,b])
end
abbrev ACZ(K:AL)(ta:TE)(f:Str):TE:=λY H Q=>ta Y H λx H1=>∃a C dx fs v,x=.ref a/\H1 a=some (.ins C dx fs)/\Cls K C/\IU K C f/\fs.lookup f=some v/\Q v H1
abbrev ADJ(K:AL)(ta tv:TE)(f:Str):TS:=λD Y H=>tv Y H λy H1=>ta Y H1 λx H2=>∃a C dx fs,x=.ref a/\H2 a=some (.ins C dx fs)/\Cls K C/\IU K C f/\fs.length<1000 /\
 D.nx Y (upd H2 a (.ins C dx (CW f y fs)))
abbrev PF(X:Cx)(op:Operator)(rd:V->V->Hp->VK->Prop):Prop :=
 ∀(pins:List (Addr×Obj)) (s:Shared) (Y:St) (H:Hp) (x y:V) (u v:Value) (Q:VK),AI X pins Y H s->Af x u->Af y v->rd x y H Q->wpAny (model X.prog X.w) X.A (inplaceOp op u v) (EP X pins Y Q) X.xe s
abbrev ADI(K:AL)(ta tv:TE)(rd:V->V->Hp->VK->Prop)(f:Str):TS:=λD Y H=>ta Y H λx H1=>∃a C dx fs v,x=.ref a/\H1 a=some (.ins C dx fs)/\Cls K C/\IU K C f/\fs.lookup f=some v /\
 tv Y H1 λy H2=>rd v y H2 λz H3=>∃dx' fs',H3 a=some (.ins C dx' fs')/\fs'.length<1000/\D.nx Y (upd H3 a (.ins C dx' (CW f z fs')))
section
variable {X:Cx}{o e value:Expr}{f:Str}{pos pos' tpos:Pos}{ta tv:TE}
def AEq(m:PE X e ta)(p:attributeBase e f X.env (eval e X.env)=eval e X.env):PE X (.Attribute e f pos) (ACZ X.K ta f):=by intro b s Y H Q I h;refine AIV p (Ai (m b s Y H _ I h) λu y d=>?_);obtain⟨x,t,k,j,a,C,z,fs,v,i,r,c,n,l,q⟩:=d;subst i;obtain rfl:u=Value.ref a:=j;exact Yg k r c n l λu' w g o=>⟨v,t,g,o,q⟩
def AD4(w:PE X o ta)(hv:PE X value tv)(r:swapsWith value (some (.Attribute o f pos')) pos.line X.env=pure false):PS X (.Assign [.Attribute o f pos'] value pos) (ADJ X.K ta tv f):=by intro b s Y H D I h;refine plainObj_wpAny_Assign_Attribute (Ai (hv b s Y H _ I h) λu v d=>?_) r;obtain⟨y,p,I1,t,q⟩:=d;refine Ai (w b v Y p _ I1 q) λi s2 d=>?_;obtain⟨x,H2,e,z,a,C,dx,fs,j,m,c,n,l,g⟩:=d;subst j;obtain rfl:i=Value.ref a:=z;exact Wf e m c n l t λs3 k=>⟨Y,_,k,g⟩
def AD3{i:Operator}{j:V->V->Hp->VK->Prop}(ha:PE X o ta)(hv:PE X value tv)(g:PF X i j):PS X (.AugAssign (.Attribute o f tpos) i value pos) (ADI X.K ta tv j f):=by intro b s Y H D I h;refine wpAny_AugAssign_AttributeAny (Ai (ha b s Y H _ I h) λt s1 d=>?_);obtain⟨x,H1,I1,rx,a,C,dx,fs,v,w,ea,c,n,l,q⟩:=d;subst w;obtain rfl:t=Value.ref a:=rx;refine Yg I1 ea c n l λu m p ru=>Ai (hv b m Y H1 _ p q) λw3 s3 d=>?_;obtain⟨y,H2,I3,ry,q3⟩:=d;refine Ai (g b s3 Y H2 v y u w3 _ I3 ru ry q3) λw4 s4 d=>?_;obtain⟨z,H3,I4,k,ac,aa,e,r,q4⟩:=d;exact Wf I4 e c n r k λs5 I5=>⟨Y,_,I5,q4⟩
abbrev ADf:V->V->Hp->VK->Prop:=λx y H Q=>∃i j,x=.int i/\y=.int j/\Q (.int (i+j)) H
def AGg:PF X .Add ADf:=by rintro a s Y H x y u v Q I d c ⟨i,j,rfl,rfl,q⟩;obtain⟨t,rfl⟩:=(show ∃t,u=Value.int i t from d);obtain⟨b,rfl⟩:=(show ∃b,v=Value.int j b from c);exact PyProof.Rows.iadd_int ⟨.int (i+j),H,I.tok _,⟨_,rfl⟩,q⟩
end
section
variable {X:Cx}{pins:List (Addr×Obj)}{Y:St}{H:Hp}{s:Shared}{A:Around}{E:AO0}{Q:AO0}{c:Value}{b:Bool}
inductive TyOf (K:AL) (H:Hp):V->Value->Prop where
 |non:TyOf K H .non (.type "NoneType")
 |bl (x:Bool):TyOf K H (.bl x) (.type "bool")
 |int (i:Int):TyOf K H (.int i) (.type "int")
 |str (x:Str):TyOf K H (.str x) (.type "str")
 |flt (x:UInt64):TyOf K H (.flt x) (.type "float")
 |lst {a:Addr} {xs:List V} (e:H a=some (.lst xs)):TyOf K H (.ref a) (.type "list")
 |frz {a:Addr} {o:Obj} {xs:List V} (e:H a=some (.frz o (.lst xs))):TyOf K H (.ref a) (.type "list")
 |tup {a:Addr} {xs:List V} (e:H a=some (.tup xs)):TyOf K H (.ref a) (.type "tuple")
 |dK {a:Addr} {kvs:List (Key×V)} (e:H a=some (.dK kvs)):TyOf K H (.ref a) (.type "dict")
 |dT {a:Addr} {kvs:List (List Key×V)} (e:H a=some (.dT kvs)):TyOf K H (.ref a) (.type "dict")
 |ins {a C dx:Addr} {fs:List (Str×V)} (e:H a=some (.ins C dx fs)) (cl:Cls K C) (ha:Dl K (.ref C) "__class__"=some (some (.builtin "object.__class__")))
   (hn:PySem.W.specialIn K (.builtin "object.__class__") "__get__"=some (some (.builtin "getset_descriptor.__get__"))) (htk:PySem.W.takesIn K (.builtin "object.__class__")=some true)
   (hm:PySem.W.mroIn K C (.type "object")=some true):TyOf K H (.ref a) (.ref C)
def Ja{x:V}{u t:Value}(I:AI X pins Y H s)(f:Af x u)(ty:TyOf X.K H x t)(e:PySem.W.kitOne X.K t c=some b)(h:∀v,Q (.bool b) {s with toks:=v}) :
  wpAny (model X.prog X.w) A (call (.builtin "isinstance") [u,c]) Q E s:=by
 cases ty with
 |non=>cases (show u=Value.none from f);exact GW PySem.W.kitx_none I.kIn True.intro e (λz=>nomatch z) h
 |bl y=>cases (show u=Value.bool y from f);exact GW PySem.W.kitx_bool I.kIn True.intro e (λz=>nomatch z) h
 |int i=>obtain⟨t,q⟩:=(show ∃t,u=Value.int i t from f);cases q;exact GW PySem.W.kitx_int I.kIn True.intro e (λz=>nomatch z) h
 |str y=>obtain⟨t,q⟩:=(show ∃t,u=Value.str y t from f);cases q;exact GW PySem.W.kitx_str I.kIn True.intro e (λz=>nomatch z) h
 |flt y=>obtain⟨t,q⟩:=(show ∃t,u=Value.float y t from f);cases q;exact GW PySem.W.kitx_float I.kIn True.intro e (λz=>nomatch z) h
 |@lst a j d =>
  cases (show u=Value.ref a from f);obtain⟨_,_,n,_,g⟩:=(show CJ X.prog X.w H s.heap a (.lst j) from I.hok a _ d);exact GW PySem.W.kitx_list I.kIn ⟨_,g,rfl⟩ e (λz=>nomatch z) h
 |@frz a ob j d =>
  cases (show u=Value.ref a from f);obtain⟨_,_,_,n,_,g⟩:=(show CJ X.prog X.w H s.heap a (.frz ob (.lst j)) from I.hok a _ d);exact GW PySem.W.kitx_list I.kIn ⟨_,g,rfl⟩ e (λz=>nomatch z) h
 |@tup a j d =>
  cases (show u=Value.ref a from f);obtain⟨_,_,_,p⟩:=(show CJ X.prog X.w H s.heap a (.tup j) from I.hok a _ d);obtain⟨o,g,k,_⟩:=p;exact GW PySem.W.kitx_tuple I.kIn ⟨o,g,k⟩ e (λz=>nomatch z) h
 |@dK a kvs d =>
  cases (show u=Value.ref a from f);obtain⟨_,_,vs,_,p⟩:=(show CJ X.prog X.w H s.heap a (.dK kvs) from I.hok a _ d);obtain⟨o,es,ep,g,k,_⟩:=p;exact GW PySem.W.kitx_dict I.kIn ⟨o,g,k.1⟩ e (λz=>nomatch z) h
 |@dT a kvs d =>
  cases (show u=Value.ref a from f);obtain⟨_,_,j,_,o,es,ep,g,k,_⟩:=(show CJ X.prog X.w H s.heap a (.dT kvs) from I.hok a _ d);exact GW PySem.W.kitx_dict I.kIn ⟨o,g,k.1⟩ e (λz=>nomatch z) h
 |@ins a C dx fs d m ha r l hm =>
  cases (show u=Value.ref a from f);obtain⟨mA,O,_⟩:=TD I.hok d;obtain⟨od,J,_⟩:=O.look;exact GW (PySem.W.kitx_own (m.get _) m.hd ha r l hm) I.kIn J e (λz=>nomatch z) h
end
structure Room (k:Nat) (A:Around):Prop where
 hd:A.handled=none
 dp:A.depth+3*k+5<recursionLimit
 un:A.units+16*k+200<cLine
def Room.mono{j k:Nat}{A:Around}(r:Room k A)(h:j<=k):Room j A:=⟨r.hd,by have:=r.dp;omega,by have:=r.un;omega⟩
def Room.deeper{k:Nat}{A:Around}(r:Room (k+1) A)(env:Env):Room k (A.deeper env) :=
 ⟨r.hd,by have:=r.dp;show A.depth+1+3*k+5<_;omega,by have:=r.un;show A.units+3+16*k+200<_;omega⟩
def Room.in1{k:Nat}{A:Around}(r:Room (k+1) A):Room k A.in1 :=
 ⟨r.hd,by have:=r.dp;show A.depth+3*k+5<_;omega,by have:=r.un;show A.units+1+16*k+200<_;omega⟩
def AFx{A:Around}{C:Addr}{us:AOu}{a:List (Str×Value)}:(A.under (.builtin "type.__call__" ⟨.ref C::us,a⟩)).depth=A.depth+1:=by first|rfl|simp[Around.under,Code.weight,Code.isCreation,Code.isGuard,Code.isCaller,Code.frames,Code.isFrame,guardIds]
def AFu{A:Around}{C:Addr}{us:AOu}{a:List (Str×Value)}:(A.under (.builtin "type.__call__" ⟨.ref C::us,a⟩)).units=A.units+1:=by first|rfl|simp[Around.under,Code.cUnits,Code.frames,Code.isFrame]
def Room.make{k:Nat}{A:Around}(r:Room (k+1) A)(C:Addr)(us:AOu)(a:List (Str×Value)):Room k (A.under (.builtin "type.__call__" ⟨.ref C::us,a⟩)) :=
 ⟨r.hd,by have:=r.dp;rw[AFx];omega,by have:=r.un;rw[AFu];omega⟩
def Room.depth{k:Nat}{A:Around}(r:Room k A):A.depth<recursionLimit:=by have:=r.dp;omega
def Room.units{k:Nat}{A:Around}(r:Room k A):A.units+64<cLine:=by have:=r.un;omega
abbrev Vz:TA:=λ_ H Q=>Q [] H
abbrev ACb(ta:TE)(tr:TA):TA:=λY H Q=>ta Y H λx H1=>tr Y H1 λxs H2=>Q (x::xs) H2
section
variable {X:Cx}{e:Expr}{es:AOw}{te:TE}{t:TA}{pos:Pos}
def AE6:PA X [] Vz:=λ_ _ _ _ H Q I h=>Calls.spliced_nil ⟨[],H,I,.nil,h⟩
def AE7(k:PE X e te)(m:PA X es t)(p:starEach (e::es) X.env=(false,eval e X.env)::starEach es X.env:=by rfl):PA X (e::es) (ACb te t):=by intro pos a s Y H Q I h;rw[p];show wpAny _ _ (spliced ((false,eval e X.env)::backTo pos (starEach es X.env))) _ _ s;refine Calls.spliced_cons (Ai (k a s Y H _ I h) λu i b=>?_);obtain⟨x,o,l,c,q⟩:=b;exact Ai (m pos a i Y o _ l q) λv r b=>by obtain⟨d,j,g,n,f⟩:=b;exact⟨x::d,j,g,.cons c n,f⟩
abbrev ACJ(t:TA):TE:=λY H Q=>t Y H λxs H1=>xs.length<=sizeLine/\∀p,H1 p=none->Q (.ref p) (upd H1 p (.tup xs))
abbrev ACV(t:TA):TE:=λY H Q=>t Y H λxs H1=>xs.length<=sizeLine/\∀p,H1 p=none->Q (.ref p) (upd H1 p (.lst xs))
def AEc{x1}(h:PA X es t):PE X (.Tuple es x1 pos) (ACJ t):=by intro a s Y H Q I j;refine wpAny_Tuple_spliced (Ai (h pos a s Y H _ I j) λl c d=>?_);obtain⟨i,g,f,r,z,q⟩:=d;refine⟨by rw[<-r.length];exact z,?_⟩;have k:g c.heap.objs.size=none:=f.hok.fresh (Ag _);refine⟨.ref c.heap.objs.size,upd g c.heap.objs.size (.tup i),f.laid (t':=c.toks) (λb u e=>Heap.get?_push_of_some _ e) (Ag _) ?_,rfl,q _ k⟩;exact⟨z,l,r,⟨_,Heap.get?_push_size _ rfl,rfl,_,rfl⟩⟩
def AEl(h:PA X es t):PE X (.List es pos) (ACV t):=by intro a s Y H Q I j;refine wpAny_List_spliced (Ai (h pos a s Y H _ I j) λl c d=>?_);obtain⟨i,g,f,r,z,q⟩:=d;refine⟨by rw[<-r.length];exact z,?_⟩;have k:g c.heap.objs.size=none:=f.hok.fresh (Ag _);refine⟨.ref c.heap.objs.size,upd g c.heap.objs.size (.lst i),f.laid (t':=c.toks) (λb u e=>Heap.get?_push_of_some _ e) (Ag _) ?_,rfl,q _ k⟩;exact⟨z,l,0,r,Heap.get?_push_size _ rfl⟩
end
noncomputable abbrev Sp:=List V->Hp->VK->XK->Prop
noncomputable abbrev Fw:=List Env->Hp->Shared->XK->AO0
structure HZ (P:Program) (w:World) (K:AL) (mg:AOs) (base:Heap) (A:Around) (outer:List Env) (s:Shared) (H:Hp):Prop where
 frames:A.frames=some outer
 mod:PC K mg base
 bs:∀b o,base.get? b=some o->s.heap.get? b=some o/\H b=none
 bsz:base.objs.size<=s.heap.objs.size
 funs:s.heap.FunFrames base outer
 frf:∀b∈FT outer,H b=none
 hok:DE P w H s.heap
 bare:AllBare s.gens
abbrev CE(outer:List Env)(P:Program)(w:World)(H:Hp)(s:Shared)(Q:VK)(u:Value)(s':Shared):Prop :=
 ∃v H',s'.os=s.os/\AllBare s'.gens/\Un (FT outer) [] H H' s.heap s'.heap/\DE P w H' s'.heap/\Af v u/\Q v H'
abbrev CR(CX:Fw)(outer:List Env)(P:Program)(w:World)(H:Hp)(s:Shared)(Q:VK)(E:XK)(r:Result)(s':Shared):Prop :=
 match r with
 |.ok (.ret u)=>CE outer P w H s Q u s'
 |.ok _=>False
 |.error e=>CX outer H s E e s'
structure DF (P:Program) (w:World) (K:AL) (mg:AOs) (base:Heap) (CX:Fw) (k:Nat) (f:Addr) (fd:FuncData) (ps:AOt) (sp:Sp):Prop where
 len:∀vs H Q E,sp vs H Q E->vs.length=ps.length
 run:∀(A:Around) (outer:List Env) (s:Shared) (H:Hp) (args:Args) (us:AOu) (vs:List V) (Q:VK) (E:XK),Room k A->HZ P w K mg base A outer s H->BindsTo s fd args (ps.zip us)->Ae vs us->sp vs H Q E ->
  codeAny (model P w) A (.call (.ref f) args) (CR CX outer P w H s Q E) s
def DF.mono{P:Program}{w:World}{K:AL}{e:AOs}{a:Heap}{i:Fw}{j k:Nat}{f:Addr}{d:FuncData}{ps:AOt}{g:Sp}(F:DF P w K e a i j f d ps g)(h:j<=k) :
  DF P w K e a i k f d ps g:=⟨F.len,λA b s H c n l Q E m=>F.run A b s H c n l Q E (m.mono h)⟩
def DF.imp{P:Program}{w:World}{K:AL}{i:AOs}{a:Heap}{l:Fw}{k:Nat}{f:Addr}{g:FuncData}{ps:AOt}{j d:Sp}(F:DF P w K i a l k f g ps j)
  (h:∀c H Q E,d c H Q E->j c H Q E):DF P w K i a l k f g ps d :=
 ⟨λc H Q E q=>F.len c H Q E (h _ _ _ _ q),λA b s H e r c Q E o m p n t=>F.run A b s H e r c Q E o m p n (h _ _ _ _ t)⟩
def HZ.make{P:Program}{w:World}{K:AL}{c:AOs}{b:Heap}{A:Around}{a:List Env}{s:Shared}{H:Hp}(e:HZ P w K c b A a s H)(C:Addr)(us:AOu)(d:List (Str×Value)) :
  HZ P w K c b (A.under (.builtin "type.__call__" ⟨.ref C::us,d⟩)) a s H:=⟨by first|exact e.frames|(simpa[Around.under,Code.envs,Code.isFrame,pushEnvs] using e.frames),e.mod,e.bs,e.bsz,e.funs,e.frf,e.hok,e.bare⟩
def HZ.in1{P:Program}{w:World}{K:AL}{c:AOs}{b:Heap}{A:Around}{a:List Env}{s:Shared}{H:Hp}(e:HZ P w K c b A a s H) :
  HZ P w K c b A.in1 a s H:=⟨e.frames,e.mod,e.bs,e.bsz,e.funs,e.frf,e.hok,e.bare⟩
section
variable {X:Cx}{pins:List (Addr×Obj)}{Y:St}{H:Hp}{s s':Shared}
def AI.env0(I:AI X pins Y H s):HZ X.prog X.w X.K X.mg X.base X.A X.stack s H :=
 ⟨I.ok.frames,I.ok.mod,I.bs,Cf I.ok.bsz I.sz,I.stack,I.stkFree,I.hok,I.bare⟩
def AI.after{Q:VK}{u:Value}(I:AI X pins Y H s)(h:CE X.stack X.prog X.w H s Q u s'):EP X pins Y Q u s':=by obtain⟨v,j,i,a,un,c,r,q⟩:=h;obtain⟨f,g,d,t,e⟩:=s';obtain rfl:e=s.os:=i;exact⟨v,j,I.call (h':=f) (g':=g) (d':=d) (t':=t) (ch:=[]) un c a (λb z=>absurd z (by simp)),r,q⟩
end
abbrev WC(sp:Sp)(dvs:List V)(E:XK)(t:TA):TE:=λY H Q=>t Y H λvs H1=>sp (vs++dvs) H1 Q E
abbrev WA(C:Addr)(sp:Sp)(dvs:List V)(E:XK)(t:TA):TE:=λY H Q=>t Y H λvs H1=>∀x dx,H1 x=none->H1 dx=none->dx≠x ->
 sp (.ref x::(vs++dvs)) (upd (upd H1 dx (.own x)) x (.ins C dx [])) (λv H2=>v=.non/\Q (.ref x) H2) E
abbrev Dx(K:AL)(fd:FuncData)(ps:AOt)(ds:AOu):Prop :=
 ∀(s:Shared) (us:AOu),K.In s.heap->(us++ds).length=ps.length->BindsTo s fd ⟨us,[]⟩ (ps.zip (us++ds))
def Dx.all{K:AL}{c:FuncData}{ps:AOt}(h:∀a:AOu,a.length=ps.length->bindArgs c ⟨a,[]⟩=pure (ps.zip a)):Dx K c ps []:=λs a _ b=>by
 rw[ANg] at b ⊢;exact .of_eq (h a b)
abbrev Jv(CX:Fw)(X:Cx)(E:XK):Prop:=∀(pins:List (Addr×Obj)) (Y:St) (H:Hp) (s:Shared) (e:Value) (s':Shared),AI X pins Y H s->CX X.stack H s E e s'->X.xe e s'
section
variable {X:Cx}{CX:Fw}{k:Nat}{f C:Addr}{fd:FuncData}{ps:AOt}{sp:Sp}{dvs:List V}{ds:AOu}{E:XK}{x m:Str}{p pos apos:Pos}{e o:Expr}{es:AOw}{ta:TE}{t:TA}
def Wh{a:List (Addr×Obj)}{Y:St}{H:Hp}{s:Shared}{Q:VK}{us:AOu}{vs:List V}(F:DF X.prog X.w X.K X.mg X.base CX k f fd ps sp)(l:Room k X.A)(m:Dx X.K fd ps ds)(d:Ae dvs ds)(g:Jv CX X E)
  (I:AI X a Y H s) (r:Ae vs us) (h:sp (vs++dvs) H Q E):wpAny (model X.prog X.w) X.A (call (.ref f) us) (EP X a Y Q) X.xe s:=by
 have c:Ae (vs++dvs) (us++ds):=r.append d;have j:(us++ds).length=ps.length:=by rw[<-c.length];exact F.len _ _ _ _ h
 refine wpAny_call (codeAny_mono (F.run X.A X.stack s H ⟨us,[]⟩ (us++ds) (vs++dvs) Q E l I.env0 (m s us I.kIn j) c h) λr i b=>?_)
 cases r with
 |error e=>exact g a Y H s e i I b
 |ok fl =>
  cases fl with
  |ret u=>exact I.after b
  |next=>exact False.elim b
  |brk=>exact False.elim b
  |cont=>exact False.elim b
def AEv(F:DF X.prog X.w X.K X.mg X.base CX k f fd ps sp)(o:Room k X.A)(v:Gl X x)(y:X.mg x=some (.ref f))(j:GY X.K (.ref f)=true)(u:Dx X.K fd ps ds)(i:Ae dvs ds)(n:Jv CX X E)
  (l:PA X (e::es) t) (c:(x == ("__debug__":Str))=false:=by decide) (m:starEach (e::es) X.env=(false,eval e X.env)::starEach es X.env:=by rfl) (b:(backTo pos (starEach es X.env)).any (·.1)=false:=by rfl) :
  PE X (.Call (.Name x p) (e::es) [] pos) (WC sp dvs E t):=by
 intro a s Y H Q I h;refine AOj (LQ I v y ?_ c);refine PySem.W.callWith_K (h₀:=X.base) I.ok.mod.kin j (Ai (l pos a s Y H _ I h) λus z d=>?_) m b;obtain⟨vs,H1,g,r,q⟩:=d;refine⟨g.kIn,?_⟩;exact Wh F o u i n g r q
def AEu(F:DF X.prog X.w X.K X.mg X.base CX k f fd ps sp)(g:Room k X.A)(j:Gl X x)(l:X.mg x=some (.ref f))(d:GY X.K (.ref f)=true)(i:Dx X.K fd ps ds)(c:Ae dvs ds)(e:Jv CX X E)
  (a:(x == ("__debug__":Str))=false:=by decide):PE X (.Call (.Name x p) [] [] pos) (WC sp dvs E Vz):=by
 intro b s Y H Q I h;refine AOj (LQ I j l ?_ a);exact PySem.W.callWith_K0 I.kIn d (Wh (us:=[]) F g i c e I .nil h)
structure Mk (K:AL) (C f:Addr):Prop where
 makes:AOF K C=true
 init:Dl K (.ref C) "__init__"=some (some (.ref f))
 fn:PySem.W.isFn K (.ref f)=true
 kp:GY K (.ref C)=true
def ADK{b:List (Addr×Obj)}{Y:St}{H:Hp}{s:Shared}{Q:VK}{us:AOu}{vs:List V}(M:Mk X.K C f)(F:DF X.prog X.w X.K X.mg X.base CX k f fd ps sp)(t:Room (k+1) X.A)(y:Dx X.K fd ps ds)(j:Ae dvs ds)
  (o:Jv CX X E) (I:AI X b Y H s) (r:Ae vs us)
  (h:∀x d,H x=none->H d=none->d≠x->sp (.ref x::(vs++dvs)) (upd (upd H d (.own x)) x (.ins C d [])) (λv l=>v=.non/\Q (.ref x) l) E) :
  wpAny (model X.prog X.w) X.A (call (.ref C) us) (EP X b Y Q) X.xe s:=by
 have g:=h (s.heap.objs.size+1) s.heap.objs.size (I.hok.fresh (ANN _)) (I.hok.fresh (Ag _)) (Bm (Nat.lt_succ_self _));have c:=AI.made (C:=C) I;have i:Ae (V.ref (s.heap.objs.size+1)::(vs++dvs)) (Value.ref (s.heap.objs.size+1)::(us++ds)):=.cons rfl (r.append j)
 have q:(Value.ref (s.heap.objs.size+1)::us++ds).length=ps.length:=by have e:=i.length;rw[F.len _ _ _ _ g] at e;exact e.symm
 refine wpAny_call (AFv (f:=f) I.kIn M.makes M.init (beq_iff_eq.mp M.fn) (codeAny_mono (F.run _ X.stack _ _ ⟨Value.ref (s.heap.objs.size+1)::us,[]⟩ (Value.ref (s.heap.objs.size+1)::(us++ds)) _ _ E (t.make C us [])
  (c.env0.make C us []) (y _ (Value.ref (s.heap.objs.size+1)::us) c.kIn q) i g) λr p a=>?_))
 cases r with
 |error e=>exact o b Y _ _ e p c a
 |ok fl =>
  cases fl with
  |ret u =>
   obtain⟨v,H',m,n,ev,z⟩:=c.after a;subst ev;exact⟨n,⟨V.ref (s.heap.objs.size+1),H',m,rfl,z⟩⟩
  |next=>exact False.elim a
  |brk=>exact False.elim a
  |cont=>exact False.elim a
def AEk(M:Mk X.K C f)(F:DF X.prog X.w X.K X.mg X.base CX k f fd ps sp)(n:Room (k+1) X.A)(u:Gl X x)(v:X.mg x=some (.ref C))(o:Dx X.K fd ps ds)(i:Ae dvs ds)(m:Jv CX X E)
  (j:PA X (e::es) t) (c:(x == ("__debug__":Str))=false:=by decide) (l:starEach (e::es) X.env=(false,eval e X.env)::starEach es X.env:=by rfl) (b:(backTo pos (starEach es X.env)).any (·.1)=false:=by rfl) :
  PE X (.Call (.Name x p) (e::es) [] pos) (WA C sp dvs E t):=by
 intro a s Y H Q I h;refine AOj (LQ I u v ?_ c);refine PySem.W.callWith_K (h₀:=X.base) I.ok.mod.kin M.kp (Ai (j pos a s Y H _ I h) λus y d=>?_) l b;obtain⟨z,H1,g,r,q⟩:=d;refine⟨g.kIn,?_⟩;exact ADK M F n o i m g r q
end
structure Ar (N P:AOt) (sc:Scope):Prop where
 kind:sc.kind=.function
 co:sc.isCoroutine=false
 gen:sc.isGenerator=false
 nd:N.Nodup
 pre:N.take P.length=P
 par:∀x∈P,sc.names.lookup x=some .local\/sc.names.lookup x=some .cell
 nofree:∀y∈sc.names,y.2≠.free
def Zm{a:Str->Option NameKind}{x:Str}:∀{binds:List (Str×Value)} {m:AOs},(∀v,(x,v)∉binds)->bindL a binds m x=m x
 |[],_,_=>rfl
 |(n,v)::r,m,h=>by
  unfold bindL;rw[Zm λw hw=>h w (BD _ hw)];split
  .have:x≠n:=by rintro rfl;exact h v BC
   simp[this]
  .rfl
def Zo{a:Str->Option NameKind}{x:Str}:∀{binds:List (Str×Value)} {m:AOs},(∀v,(x,v)∉binds)->bindC a binds m x=m x
 |[],_,_=>rfl
 |(n,v)::r,m,h=>by
  unfold bindC;rw[Zo λw hw=>h w (BD _ hw)];split
  .rfl
  .have:x≠n:=by rintro rfl;exact h v BC
   simp[this]
def Zn{a:Str->Option NameKind}{x:Str}{v:Value}:∀{P:AOt} {vs:AOu} {i:Nat} {m:AOs},P.Nodup->P[i]?=some x->vs[i]?=some v->a x=some .local ->
  bindL a (P.zip vs) m x=some v
 |[],_,_,_,_,h,_,_=>by simp at h
 |_::_,[],_,_,_,_,h,_=>by simp at h
 |p::P,w::vs,0,m,nd,h1,h2,hk=>by
  simp at h1 h2;subst h1;subst h2;show bindL a ((p,w)::P.zip vs) m p=_;unfold bindL;rw[Zm λv b=>(Gy.mp nd).1 (ANh b).1,if_pos hk];simp
 |p::P,w::vs,i+1,m,nd,h1,h2,hk=>by
  show bindL a ((p,w)::P.zip vs) m x=_;unfold bindL;exact Zn (i:=i) (Gy.mp nd).2 (by simpa using h1) (by simpa using h2) hk
def Zp{a:Str->Option NameKind}{x:Str}{v:Value}:∀{P:AOt} {vs:AOu} {i:Nat} {m:AOs},P.Nodup->P[i]?=some x->vs[i]?=some v->a x≠some .local ->
  bindC a (P.zip vs) m x=some v
 |[],_,_,_,_,h,_,_=>by simp at h
 |_::_,[],_,_,_,_,h,_=>by simp at h
 |p::P,w::vs,0,m,nd,h1,h2,hk=>by
  simp at h1 h2;subst h1;subst h2;show bindC a ((p,w)::P.zip vs) m p=_;unfold bindC;rw[Zo λv b=>(Gy.mp nd).1 (ANh b).1,if_neg hk];simp
 |p::P,w::vs,i+1,m,nd,h1,h2,hk=>by
  show bindC a ((p,w)::P.zip vs) m x=_;unfold bindC;exact Zp (i:=i) (Gy.mp nd).2 (by simpa using h1) (by simpa using h2) hk
abbrev Gd(N:AOt)(vs:List V):St:=vs.map some++ANH (N.length-vs.length) none
abbrev Cr(CX:Fw)(P:Program)(w:World)(K:AL)(mg:AOs)(base:Heap)(N:AOt)(qual:Str)(scope:Scope)(f:Addr)(cd:Value)(A:Around)(outer:List Env)(s:Shared)(H:Hp)(E:XK):Cx where
 prog:=P
 w:=w
 K:=K
 mg:=mg
 base:=base
 A:=A.deeper (envOfC qual scope s.heap.objs.size f cd)
 N:=N
 s₀:=s
 H₀:=H
 env:=envOfC qual scope s.heap.objs.size f cd
 outer:=outer
 stack:=envOfC qual scope s.heap.objs.size f cd::outer
 ex:=[]
 calm:=true
 fn:=λ_=>true
 pn:=[]
 xe:=λe s'=>wpAny (model P w) (A.deeper (envOfC qual scope s.heap.objs.size f cd)) (leaving (envOfC qual scope s.heap.objs.size f cd) e) (λ_ s''=>CX outer H s E e s'') (λe' s''=>CX outer H s E e' s'') s'
def Zj{a:Scope}{n:Nat}{x:Str}(h:a.names.lookup x=some .cell):∃c,(cellsFrom n a.names []).lookup x=some c:=by have q:=PySem.W.cellsFrom_some a.names n [] (.inl h);exact AOG.mp q
def AGe{CX:Fw}{P:Program}{w:World}{K:AL}{mg:AOs}{l:Heap}{N ps:AOt}{g:Str}{scope:Scope}{f:Addr}{cd:Value}{A:Around}{d:List Env}{s s1:Shared}{H:Hp}{E:XK}{us:AOu}{vs:List V}
  (S:Ar N ps scope) (hd:A.handled=none) (m:HZ P w K mg l A d s H) (hl:vs.length=ps.length) (r:Ae vs us)
  (x:InCallC s s.heap.objs.size (bindL (envOfC g scope s.heap.objs.size f cd).kindOf (ps.zip us) λ_=>none) (cellsFrom (s.heap.objs.size+1) scope.names []) (bindC (envOfC g scope s.heap.objs.size f cd).kindOf (ps.zip us) λ_=>none) s1) :
  AI (Cr CX P w K mg l N g scope f cd A d s H E) [] (Gd N vs) H s1:=by
 have ac:ps.length<=N.length:=by have:=congrArg List.length S.pre;rw[Eg] at this;omega
 obtain⟨h1,tk,rfl,hk⟩:=x.done;have t:∀b:Addr,b∉(Cr CX P w K mg l N g scope f cd A d s H E).ex:=λb z=>absurd (show b∈([]:AOv) from z) (by simp)
 refine⟨⟨m.mod,S.kind,rfl,rfl,Ag _,λy z c h1 j=>?_,λy o=>?_,λy c _ h=>?_,λ_=>hd,Around.frames_deeper m.frames,.inr ⟨rfl,rfl⟩,λb z=>absurd z (t b),m.bs,m.bsz,λb _ _=>t b,λb z=>absurd z (t b),m.funs,m.frf⟩,
  rfl,m.bare,Un.kept hk,⟨_,x.toInCall.ns,λi y v h1 j h3=>?_⟩,λy c h=>⟨_,x.cell y c h⟩,m.hok.fresh (Ag _),λy c h=>?_,λp hp=>absurd (show p∈([]:List (Addr×Obj)) from hp) (by simp),m.hok.kept hk,?_⟩
 .exact name_of_addr x.apart (PySem.mem_of_lookup h1) (PySem.mem_of_lookup j)
 .have o:scope.names.lookup y=some .cell\/scope.names.lookup y=some .free:=o;rcases o with o|o
  .exact Zj o
  .exact absurd rfl (S.nofree _ (PySem.mem_of_lookup o))
 .exact AN0 (x.above y c (PySem.mem_of_lookup h))
 .have hi:i<vs.length:=by
   unfold Gd at j
   by_cases hi:i<vs.length
   .exact hi
   .rw[ANI (by simpa using hi)] at j;rw[AOH] at j;split at j <;> cases j
  have ha:vs[i]?=some v:=by
   unfold Gd at j;rw[FK (by simpa using hi),As] at j
   cases e:vs[i]? with
   |none=>rw[e] at j;cases j
   |some a=>rw[e] at j;cases j;rfl
  obtain⟨u,hu,rv⟩:=r.get ha
  have hp:ps[i]?=some y:=by rw[<-S.pre,List.getElem?_take_of_lt (by omega)];exact h1
  have aa:ps.Nodup:=by rw[<-S.pre];exact S.nd.sublist (List.take_sublist _ _)
  refine⟨u,rv,?_⟩;rcases S.par y (BY hp) with k|k
  .exact .inl ⟨k,Zn aa hp hu k⟩
  .obtain⟨c,e⟩:=Zj (n:=s.heap.objs.size+1) k;refine .inr ⟨.inl k,c,e,?_⟩;have q:=x.cell y c e;rw[Zp aa hp hu (by show scope.names.lookup y≠_;rw[k];decide)] at q;exact q
 .exact m.hok.fresh (AN0 (x.above y c (PySem.mem_of_lookup h)))
 .unfold Gd;show _=N.length;rw[CG,AZ,AOS];omega
def AHL{CX:Fw}{P:Program}{w:World}{K:AL}{mg:AOs}{h:Heap}{k:Nat}{f:Addr}{name c:Str}{g:Arguments}{i:AOx}{scope:Scope}{dV kV ac pm d ct oc:Value}{an od:Option Addr}
  {ad:Array (Option Value)} {N ps:AOt} {sp:Sp} (lk:K.lookup f=some ⟨oc,od,.func (ANO name c g i scope dV kV ac pm an d ct),ad⟩) (ae:AOI K d c=true) (S:Ar N ps scope)
  (len:∀vs H Q E,sp vs H Q E->vs.length=ps.length)
  (l:∀(A:Around) (a:List Env) (s:Shared) (H:Hp) (vs:List V) (Q:VK) (E:XK),Room k (A.deeper (envOfC c scope s.heap.objs.size f d))->sp vs H Q E ->
   ∃t,Dp (Cr CX P w K mg h N c scope f d A a s H E) i t/\t {nx:=λ_ j=>Q .non j,rt:=Q} (Gd N vs) H) :
  DF P w K mg h CX (k+1) f (ANO name c g i scope dV kV ac pm an d ct) ps sp:=by
 refine⟨len,λA a s H ai us vs Q E hr e0 hb r aa=>?_⟩;have hl:=len _ _ _ _ aa;have KX:K.In s.heap:=e0.mod.kin.keeps λb o e=>(e0.bs b o e).1;have ag:s.heap.NoLimit:=e0.mod.nolimit.keeps λb o e=>(e0.bs b o e).1
 have m:∀y∈ps.zip us,scope.names.lookup y.1=some .local\/(scope.names.lookup y.1=some .cell/\((cellsFrom (s.heap.objs.size+1) scope.names []).lookup y.1).isSome=true):=λ⟨n,v⟩ hy=>by
  rcases S.par n (ANh hy).1 with q|q
  .exact .inl q
  .exact .inr ⟨q,PySem.W.cellsFrom_some _ _ _ (.inl q)⟩
 refine codeAny_call_function hr.depth (KX _ _ lk) rfl S.co S.gen rfl (PySem.W.codeRec_of KX ae) (hb _ _ _ _ ?_);refine wpAny_newFunctionEnv_cells S.kind m λaj he s1 x=>?_;subst he;refine⟨ag.keeps x.toInCall.keep,codeAny_func ?_⟩;obtain⟨t,ht,hq⟩:=l A a s H vs Q E (hr.deeper _) aa;have I:AI (Cr CX P w K mg h N c scope f d A a s H E) [] (Gd N vs) H s1:=AGe S hr.hd e0 hl r x;refine Dk (ht [] s1 (Gd N vs) H _ I hq) (λfl s' p=>?_) λe s' p=>p
 have z:∀{Y':St} {j:Hp} {v:V} {u:Value},AI (Cr CX P w K mg h N c scope f d A a s H E) [] Y' j s'->Af v u->Q v j->CE a P w H s Q u s' :=
  λ{Y' j v u} J rv q=>⟨v,j,J.os,J.bare,J.base,J.hok,rv,q⟩
 cases fl with
 |ret u =>
  obtain⟨v,Y',j,J,rv,q⟩:=p;exact z J rv q
 |next =>
  obtain⟨Y',j,J,q⟩:=p;exact z (v:=V.non) (u:=Value.none) J rfl q
 |brk =>
  obtain⟨_,_,_,q⟩:=p;exact False.elim q
 |cont =>
  obtain⟨_,_,_,q⟩:=p;exact False.elim q
section
variable {X:Cx}{x:Str}{p pos:Pos}{e:Expr}{es:AOw}{t:TA}{id T:String}{r:List V->Hp->VK->Prop}
abbrev WD(r:List V->Hp->VK->Prop)(t:TA):TE:=λY H Q=>t Y H λvs H1=>r vs H1 Q
def AEt(g:CD X (.builtin id) r)(o:Gl X x)(y:X.mg x=none)(n:bootBuiltins x=some (.builtin id))(j:PA X (e::es) t)(q:x≠"__name__":=by decide)(c:(x == ("__debug__":Str))=false:=by decide)
  (k:starEach (e::es) X.env=(false,eval e X.env)::starEach es X.env:=by rfl) (b:(backTo pos (starEach es X.env)).any (·.1)=false:=by rfl):PE X (.Call (.Name x p) (e::es) [] pos) (WD r t):=by
 intro a s Y H Q I h;refine AOj (Hh I o y n ?_ q c);exact PyProof.Rows.callWith_builtin1 (Ai (j pos a s Y H _ I h) λv i d=>(by obtain⟨l,u,m,f,w⟩:=d;exact g a i Y u l v Q m f w)) k b
def AEs(g:CD X (.type T) r)(o:Gl X x)(y:X.mg x=none)(n:bootBuiltins x=some (.type T))(j:PA X (e::es) t)(q:x≠"__name__":=by decide)(c:(x == ("__debug__":Str))=false:=by decide)
  (k:starEach (e::es) X.env=(false,eval e X.env)::starEach es X.env:=by rfl) (b:(backTo pos (starEach es X.env)).any (·.1)=false:=by rfl):PE X (.Call (.Name x p) (e::es) [] pos) (WD r t):=by
 intro a s Y H Q I h;refine AOj (Hh I o y n ?_ q c);exact PyProof.Rows.callWith_type1 (Ai (j pos a s Y H _ I h) λv i d=>(by obtain⟨l,u,m,f,w⟩:=d;exact g a i Y u l v Q m f w)) k b
end
end L2
namespace HT
open PySem PyProof.Rows
section
variable {prog:Program}{w:World}{A:Around}{E:AO0}{s:Shared}
def AMp{t b:Addr}{vs ws:AOu}{Q:AO0}(z:IsTup s.heap t vs.toArray)(y:IsTup s.heap b ws.toArray)(q:vs≠[])
  (v:ws=[]->Q (.ref t) s) (x:ws≠[]->Q (.ref s.heap.objs.size) {s with heap:=s.heap.push {cls:=.type "tuple",data:=.seq (vs++ws).toArray}})
  (j:vs.length+ws.length<=sizeLine):wpAny (model prog w) A (binaryOp .Add (.ref t) (.ref b)) Q E s:=by
 obtain⟨⟨i,r,f,m⟩,ho,o,n,l⟩:=id z;obtain⟨⟨u,c,k,h⟩,a,g,p,d⟩:=id y;simp only at o l g d;subst o l g d;have e:vs.toArray++ws.toArray=(vs++ws).toArray:=by simp
 by_cases hw:ws=[]
 .exact concat_meets ⟨_,ho,rfl⟩ ⟨_,a,rfl⟩ noFill_tuple_add seq_tuple_add AOT AOU (AOV _ _)
   (tuple_addW1 t b vs.toArray ws.toArray n p r c m h (by simpa using q) (by simp[hw])) ⟨ho,a,v hw⟩
 .refine concat_meets ⟨_,ho,rfl⟩ ⟨_,a,rfl⟩ noFill_tuple_add seq_tuple_add AOT AOU (AOV _ _)
   (tuple_addW2 t b vs.toArray ws.toArray n p r c m h (by simpa using q) (by simpa using hw) (by rw[Bn,Bn];exact j)) ⟨ho,a,?_⟩
  rw[e];exact x hw
abbrev sIx(n d:Nat):Option Int->Nat
 |none=>d
 |some v=>if v<0 then (v+(n:Int)).toNat else min v.toNat n
def AKS(n d k:Nat):sIx n d (some (k:Int))=min k n:=by
 show(if (k:Int)<0 then ((k:Int)+(n:Int)).toNat else min (k:Int).toNat n)=min k n
 rw[if_neg (by omega),ANP]
def ADH(n d:Nat)(b:d<=n)(o:Option Int):sIx n d o<=n:=by
 cases o with
 |none=>exact b
 |some v =>
  show(if v<0 then (v+(n:Int)).toNat else min v.toNat n)<=n
  by_cases a:v<0
  .rw[if_pos a];omega
  .rw[if_neg a];exact Nat.min_le_right _ _
def Zg(v:Int)(n d:Nat):(if v<0 then max (v+(n:Int)) 0 else min v (n:Int))=((sIx n d (some v):Nat):Int):=by
 show(if v<0 then max (v+(n:Int)) 0 else min v (n:Int))=(((if v<0 then (v+(n:Int)).toNat else min v.toNat n):Nat):Int)
 by_cases a:v<0
 .simp only[if_pos a];omega
 .simp only[if_neg a];omega
def AIk(a b:Option Int)(n:Nat):Builtin.Slice.sliceAdjust a b 1 (n:Int)=(((sIx n 0 a:Nat):Int),((sIx n n b:Nat):Int)):=by
 have c:¬((1:Int)<0):=by omega
 unfold Builtin.Slice.sliceAdjust;simp only[c,if_false];refine Prod.ext ?_ ?_
 .cases a with
  |none=>rfl
  |some v=>exact Zg v n 0
 .cases b with
  |none=>rfl
  |some v=>exact Zg v n n
def AEH(i j:Nat):Builtin.Slice.slicePlaces (i:Int) (j:Int) 1=j-i:=by
 unfold Builtin.Slice.slicePlaces;have a:(1:Int)>0:=by omega
 simp only[a,if_true,Int.ediv_one];split <;> omega
def Wd{v:Value}{o:Option Int}{Q:Option Int->Shared->Prop}(p:IsPart v o)(h:Q o s):wpAny (model prog w) A (Builtin.Slice.slicePartIndex v) Q E s:=by
 cases p with
 |none=>exact slicePart_none h
 |int i t=>exact slicePart_int h
def We{g:Addr}{f e:Value}{a c:Option Int}{n:Nat}{Q:Int×Int×Nat->Shared->Prop}(k:s.heap.IsSliceOf g f e .none)(j:IsPart f a)(i:IsPart e c)
  (h:Q (((sIx n 0 a:Nat):Int),1,sIx n n c-sIx n 0 a) s):wpAny (model prog w) A (Builtin.Slice.sliceApplied (.ref g) (pure (n:Int))) Q E s:=by
 obtain⟨m,b,l,d⟩:=id k;unfold Builtin.Slice.sliceApplied Builtin.Slice.sliceFields;refine AH (AH (Et b d (x:=f) rfl (AH (Et b d (x:=e) rfl (AH (Et b d (x:=.none) rfl (AO ?_)))))));refine AH (slicePart_none ?_)
 show wpAny _ _ (if ((1:Int) == 0)=true then _ else _) _ _ s
 rw[if_neg (by decide)];refine AH (Wd j (AH (Wd i (AH (AO ?_)))))
 show wpAny _ _ (match Builtin.Slice.sliceAdjust a c 1 (n:Int) with|(a,c)=>pure (a,(1:Int),Builtin.Slice.slicePlaces a c 1)) _ _ s
 rw[AIk a c n];show wpAny _ _ (pure (((sIx n 0 a:Nat):Int),(1:Int),Builtin.Slice.slicePlaces ((sIx n 0 a:Nat):Int) ((sIx n n c:Nat):Int) 1)) _ _ s;rw[AEH];exact AO h
def AEQ(xs:Array Value)(i k:Nat):((List.range k).filterMap λ(m:Nat)=>xs[((i:Int)+(m:Int)*1).toNat]?).toArray=((xs.toList.drop i).take k).toArray:=by
 have e:(λ(m:Nat)=>xs[((i:Int)+(m:Int)*1).toNat]?)=λm=>xs[i+m]?:=by
  funext m
  have:((i:Int)+(m:Int)*1).toNat=i+m:=by omega
  rw[this]
 rw[e];have:=pick_run xs i k;rw[List.filterMap_map] at this;have a:((λx=>xs[x]?)∘λx=>i+x)=λm=>xs[i+m]?:=rfl;rw[a] at this;rw[this]
def ALV{t g:Addr}{a:Array Value}{l n:Value}{c d:Option Int}{Q:AO0}(e:IsTup s.heap t a)(o:s.heap.IsSliceOf g l n .none)(v:IsPart l c)(p:IsPart n d)
  (hw:¬(sIx a.size 0 c=0/\sIx a.size a.size d=a.size))
  (h:Q (.ref s.heap.objs.size) {s with heap:=s.heap.push {cls:=.type "tuple",data:=.seq ((a.toList.drop (sIx a.size 0 c)).take (sIx a.size a.size d-sIx a.size 0 c)).toArray}})
  (u:a.size<=sizeLine):wpAny (model prog w) A (getItem (.ref t) (.ref g)) Q E s:=by
 have b:sizeOk (.seq ((a.toList.drop (sIx a.size 0 c)).take (sIx a.size a.size d-sIx a.size 0 c)).toArray):=by show((a.toList.drop (sIx a.size 0 c)).take (sIx a.size a.size d-sIx a.size 0 c)).toArray.size<=sizeLine;rw[Bn,Eg,ANi,AOD];omega
 have z:sIx a.size a.size d<=a.size:=ADH _ _ (Ag _) d;obtain⟨x,i,k,r⟩:=id o;have f:s.TypeIs (.ref g) "slice":=⟨x,i,k⟩;unfold getItem
 try with_reducible refine DW ?_
 first|refine AH (AO ?_)|skip
 refine AH (wpAny_sequenceKey e.typeIs (by decide) ?_)
 refine AH (AOk (name:=Str.ofString "__getitem__") e.typeIs PyProof.Rows.slot_tuple_getitem
  (GV PyProof.Rows.slot_tuple_getitem e.typeIs entry_tuple_getitem ?_ (args_tuple_getitem _ _)))
 show wpAny _ _ (Builtin.Tuple.tupleItemsOf (.ref t) >>= _) _ _ s;refine AH (tupleItemsOf_ e ?_);refine AH (wpAny_typeOf f ?_);rw[if_pos (by decide)];refine AH (We o v p ?_)
 have j:¬((((sIx a.size 0 c:Nat):Int) == 0&&(1:Int) == 1&&(sIx a.size a.size d-sIx a.size 0 c) == a.size)=true):=by intro q;rw[Bs,Bs] at q;have q1:((sIx a.size 0 c:Nat):Int)=0:=eq_of_beq q.1.1;have y:sIx a.size a.size d-sIx a.size 0 c=a.size:=eq_of_beq q.2;exact hw ⟨by omega,by omega⟩
 show wpAny _ _ (if (((sIx a.size 0 c:Nat):Int) == 0&&(1:Int) == 1&&(sIx a.size a.size d-sIx a.size 0 c) == a.size)=true then _ else _) _ _ s
 rw[if_neg j,AEQ]
 first
  |exact AH (m:=Builtin.Tuple.tupleExact _) (AOl (AO ⟨_,rfl,AO h⟩) b)
  |exact AH (m:=Builtin.Tuple.tupleExact _) (AOl (AH (AO (AO ⟨_,rfl,AO h⟩))) b)
  |exact AH (AH (m:=Builtin.Tuple.tupleExact _) (AOl (AO (AO ⟨_,rfl,AO h⟩)) b))
  |exact AH (AH (m:=Builtin.Tuple.tupleExact _) (AOl (AO ⟨_,rfl,AO h⟩) b))
end
end HT
namespace L2
open PySem PySem.Spec PyProof.Rows
noncomputable abbrev TO:=St->Hp->(Option Int->Hp->Prop)->Prop
abbrev PO(X:Cx)(e:Option Expr)(t:TO):Prop :=
 ∀(pins:List (Addr×Obj)) (s:Shared) (Y:St) (H:Hp) (Q:Option Int->Hp->Prop),AI X pins Y H s->t Y H Q ->
  wpAny (model X.prog X.w) X.A (evalPart e X.env) (λu s'=>∃o H',AI X pins Y H' s'/\IsPart u o/\Q o H') X.xe s
abbrev ACS:TO:=λ_ H Q=>Q none H
abbrev ACN(t:TE):TO:=λY H Q=>t Y H λx H1=>∃i,x=.int i/\Q (some i) H1
section
variable {X:Cx}{e:Expr}{te:TE}{lo hi:Option Expr}{tl th:TO}{pos p2:Pos}
def AEF:PO X none ACS:=by intro a s Y H Q I h;rw[evalPart_none];exact AO ⟨none,H,I,.none,h⟩
def AEE(h:PE X e te):PO X (some e) (ACN te):=by intro a s Y H Q I hw;rw[evalPart_some];refine Ai (h a s Y H _ I hw) λu j b=>?_;obtain⟨x,f,d,c,g⟩:=b;obtain⟨i,rfl,q⟩:=g;obtain⟨t,rfl⟩:=c;exact⟨some i,f,d,.int i t,q⟩
abbrev GQ(X:Cx)(r:V->Option Int->Option Int->Hp->VK->Prop):Prop :=
 ∀(pins:List (Addr×Obj)) (s:Shared) (Y:St) (H:Hp) (x:V) (v vl vu:Value) (lo hi:Option Int) (sl:Addr) (Q:VK),AI X pins Y H s->Af x v->s.heap.IsSliceOf sl vl vu .none->IsPart vl lo->IsPart vu hi->r x lo hi H Q ->
  ∃T id,typeLookup (.type T) "__getitem__"=pure (some (.builtin id))/\s.TypeIs v T/\wpAny (model X.prog X.w) X.A (getItem v (.ref sl)) (EP X pins Y Q) X.xe s
def GQ.or{r e:V->Option Int->Option Int->Hp->VK->Prop}(h:GQ X r)(h':GQ X e):GQ X (λx lo hi H Q=>r x lo hi H Q\/e x lo hi H Q):=by
 intro a s Y H x v f g lo hi b Q I d j i c q;rcases q with q|q
 .exact h a s Y H x v f g lo hi b Q I d j i c q
 .exact h' a s Y H x v f g lo hi b Q I d j i c q
abbrev tSl(r:V->Option Int->Option Int->Hp->VK->Prop)(te:TE)(tl th:TO):TE:=λY H Q=>te Y H λx H1=>tl Y H1 λl H2=>th Y H2 λu H3=>r x l u H3 Q
def AEe{r:V->Option Int->Option Int->Hp->VK->Prop}(hr:GQ X r)(he:PE X e te)(t:PO X lo tl)(hu:PO X hi th):PE X (.Subscript e (.Slice lo hi none p2) pos) (tSl r te tl th):=by intro a s Y H Q I h;refine Subscript_ (Ai (he a s Y H _ I h) λv s1 c=>?_);obtain⟨x,H1,I1,j,q1⟩:=c;refine wpAny_Slice (Ai (t a s1 Y H1 _ I1 q1) λf k c=>?_);obtain⟨l,H2,n,pl,m⟩:=c;refine Ai (hu a k Y H2 _ n m) λg d c=>?_;obtain⟨u,i,p,o,q3⟩:=c;rw[evalPart_none];refine AO ?_;have z:AI X a Y i {d with heap:=d.heap.push {cls:=.type "slice",data:=.fields #[f,g,.none]}}:=p.kept (t':=d.toks) λb ob q=>Heap.get?_push_of_some _ q;obtain⟨T,id,hT,ht,y⟩:=hr a {d with heap:=d.heap.push {cls:=.type "slice",data:=.fields #[f,g,.none]}} Y i x v f g l u d.heap.objs.size Q z j (Heap.IsSliceOf.new ..) pl o q3;show wpAny (model X.prog X.w) X.A (subscriptTail e (.Slice lo hi none p2) v (.ref d.heap.objs.size)) (EP X a Y Q) X.xe {d with heap:=d.heap.push {cls:=.type "slice",data:=.fields #[f,g,.none]}};exact tail_any (ops:=[.ref d.heap.objs.size,v]) ht hT y (by with_unfolding_all rfl)
abbrev Gk(xs:List V)(lo hi:Option Int):List V:=(xs.drop (HT.sIx xs.length 0 lo)).take (HT.sIx xs.length xs.length hi-HT.sIx xs.length 0 lo)
def ZZ(xs:List V)(lo hi:Option Int):(Gk xs lo hi).length<=xs.length:=by unfold Gk;rw[Eg,ANi];omega
abbrev ADX(K:AL):V->Option Int->Option Int->Hp->VK->Prop:=λx lo hi H Q=>∃a xs,x=.ref a/\Be K H a xs /\
 ¬(HT.sIx xs.length 0 lo=0/\HT.sIx xs.length xs.length hi=xs.length)/\∀p,H p=none->Q (.ref p) (upd H p (.tup (Gk xs lo hi)))
def AC1:GQ X (ADX X.K):=by
 intro g s Y H x v u w lo hi p Q I k n m j h;obtain⟨a,d,rfl,l,hw,q⟩:=h;cases k;obtain⟨e,r,i,f⟩:=I.tuple l;have c:e.toArray.size=d.length:=by rw[Bn];exact r.length.symm
 refine⟨"tuple",_,PyProof.Rows.slot_tuple_getitem.lookup,i.typeIs,?_⟩;refine HT.ALV i n m j (by rw[c];exact hw) ?_ (by rw[c];exact f);rw[c];refine⟨.ref s.heap.objs.size,_,I.laid (t':=s.toks) (o:=.tup (Gk d lo hi)) (λb t q=>Heap.get?_push_of_some _ q) (Ag _) ?_,rfl,q _ (I.hok.fresh (Ag _))⟩;exact⟨Cf (ZZ d lo hi) f,_,(r.drop (HT.sIx d.length 0 lo)).take (HT.sIx d.length d.length hi-HT.sIx d.length 0 lo),IsTup.new _ _⟩
abbrev ADe(K:AL):R2:=λx y H Q=>∃a b xs ys,x=.ref a/\y=.ref b/\Be K H a xs/\Be K H b ys/\xs≠[]/\xs.length+ys.length<=sizeLine /\
 (ys=[]->Q (.ref a) H)/\(ys≠[]->∀p,H p=none->Q (.ref p) (upd H p (.tup (xs++ys))))
def Ae.nil_iff{xs:List V}{us:AOu}(r:Ae xs us):us=[]↔xs=[]:=by
 cases r with
 |nil=>simp
 |cons _ _=>simp
def AFN:Aw X (binaryOp .Add) (ADe X.K):=by intro g s Y H x y v u Q I p m h;obtain⟨a,b,i,ys,rfl,rfl,n,k,r,e,l,j⟩:=h;cases p;cases m;obtain⟨t,d,p1,_⟩:=I.tuple n;obtain⟨f,c,p2,_⟩:=I.tuple k;refine HT.AMp p1 p2 (λz=>r (d.nil_iff.mp z)) (λz=>⟨.ref a,H,I,rfl,l (c.nil_iff.mp z)⟩) (λz=>?_) (by rw[<-d.length,<-c.length];exact e);refine⟨.ref s.heap.objs.size,_,I.laid (t':=s.toks) (o:=.tup (i++ys)) (λb ob q=>Heap.get?_push_of_some _ q) (Ag _) ?_,rfl,j (λw=>z (c.nil_iff.mpr w)) _ (I.hok.fresh (Ag _))⟩;exact⟨by rw[CG];exact e,_,d.append c,IsTup.new _ _⟩
end
abbrev ixN(n:Nat)(i:Int):Option Nat:=if 0<=i then (if i<n then some i.toNat else none) else if -(n:Int)<=i then some (i+n).toNat else none
abbrev atI{U:Type}(xs:List U)(i:Int):Option U:=(ixN xs.length i).bind λj=>xs[j]?
def YE{n:Nat}{i:Int}{j:Nat}(h:ixN n i=some j):seqIndex? i n=some j/\j<n/\-(n:Int)<=i/\i<n:=by
 unfold ixN at h
 by_cases b:0<=i
 .rw[if_pos b] at h
  by_cases a:i<n
  .rw[if_pos a] at h;have e:i.toNat=j:=Option.some.inj h;exact⟨by rw[seqIndex_of b a,e],by omega,by omega,a⟩
  .rw[if_neg a] at h;cases h
 .rw[if_neg b] at h
  by_cases a:-(n:Int)<=i
  .rw[if_pos a] at h;have e:(i+n).toNat=j:=Option.some.inj h;exact⟨by rw[seqIndex_neg (by omega) a,e],by omega,a,by omega⟩
  .rw[if_neg a] at h;cases h
def Op{U:Type}{xs:List U}{i:Int}{v:U}(h:atI xs i=some v):∃j,seqIndex? i xs.length=some j/\xs[j]?=some v/\j<xs.length/\-(xs.length:Int)<=i/\i<xs.length:=by
 unfold atI at h
 cases e:ixN xs.length i with
 |none=>rw[e] at h;cases h
 |some j =>
  rw[e] at h;obtain⟨b,c,d,a⟩:=YE e;exact⟨j,b,h,c,d,a⟩
def Dc{U:Type}{xs:List U}{j:Nat}{v:U}(h:xs[j]?=some v):atI xs (j:Int)=some v:=by
 have a:j<xs.length:=(Ax.mp h).1
 have e:ixN xs.length (j:Int)=some j:=by unfold ixN;rw[if_pos (by omega),if_pos (by omega)];simp
 unfold atI;rw[e];exact h
def AIY{U:Type}(xs:List U)(v:U):atI (xs++[v]) (-1)=some v:=by
 have a:(xs++[v]).length=xs.length+1:=by simp
 have e:ixN (xs++[v]).length (-1)=some xs.length:=by
  unfold ixN;rw[a,if_neg (by decide),if_pos (by omega)]
  congr 1
  omega
 unfold atI;rw[e];show(xs++[v])[xs.length]?=some v;simp
abbrev UF(b:Expr):Prop:=∀o i,subscripted b false o i=operate [o,i] (getItem o i)
abbrev Fa(X:Cx)(r:R2):Prop :=
 ∀(value slice:Expr) (pins:List (Addr×Obj)) (s:Shared) (Y:St) (H:Hp) (x y:V) (v u:Value) (Q:VK),AI X pins Y H s->Af x v->Af y u->r x y H Q ->
  subscripted slice false v u=operate [v,u] (getItem v u)->wpAny (model X.prog X.w) X.A (subscriptTail value slice v u) (EP X pins Y Q) X.xe s
abbrev FZ(X:Cx)(id:String)(r:V->List V->Hp->VK->Prop):Prop :=
 ∀(pins:List (Addr×Obj)) (s:Shared) (Y:St) (H:Hp) (x:V) (xs:List V) (v:Value) (us:AOu) (Q:VK),AI X pins Y H s->Af x v->Ae xs us->r x xs H Q ->
  wpAny (model X.prog X.w) X.A (call (.builtin id) (v::us)) (EP X pins Y Q) X.xe s
section
variable {X:Cx}{a b:Expr}{ta tb:TE}{pos:Pos}
def Fa.or{r e:R2}(h:Fa X r)(h':Fa X e):Fa X (λx y H Q=>r x y H Q\/e x y H Q):=by
 intro a slice b s Y H x y v u Q I d c q f;rcases q with q|q
 .exact h a slice b s Y H x y v u Q I d c q f
 .exact h' a slice b s Y H x y v u Q I d c q f
def FZ.or{id:String}{r f:V->List V->Hp->VK->Prop}(h:FZ X id r)(h':FZ X id f):FZ X id (λx b H Q=>r x b H Q\/f x b H Q):=by
 intro a s Y H x b v e Q I d c q;rcases q with q|q
 .exact h a s Y H x b v e Q I d c q
 .exact h' a s Y H x b v e Q I d c q
def AEm{r:R2}(k:Fa X r)(g:PE X a ta)(l:PE X b tb)(m:UF b):PE X (.Subscript a b pos) (Kz r ta tb):=by intro c s Y H Q I h;exact Subscript_ (Tr g l I h λv u d x y i e j f q=>k a b c d Y i x y v u Q e j f q (m _ _))
abbrev Wp(K:AL):R2:=λx y H Q=>∃p xs i v,x=.ref p/\y=.int i/\BJ K H p xs/\atI xs i=some v/\Q v H
abbrev Wn(K:AL):R2:=λx y H Q=>∃p xs i v,x=.ref p/\y=.int i/\Be K H p xs/\atI xs i=some v/\Q v H
abbrev Wo:R2:=λx y H Q=>∃z i c,x=.str z/\y=.int i/\z.length<=sizeLine/\atI z.cps.toList i=some c/\Q (.str ⟨#[c]⟩) H
def AGY:Fa X (Wp X.K):=by
 intro g slice a s Y H x y v u Q I rx ry h k;obtain⟨p,xs,i,z,rfl,rfl,hq,he,q⟩:=h;cases rx;obtain⟨t,rfl⟩:=ry;obtain⟨e,r,f,hz⟩:=I.list hq;obtain⟨j,c,n,h3,h4,h5⟩:=Op he;obtain⟨w,l,d⟩:=r.get n;have o:=r.length;have hn:=JW;have b:EP X a Y Q w s:=⟨z,H,I,d,q⟩
 by_cases m:0<=i
 .have hj:i.toNat=j:=by
   rw[seqIndex_of m h5] at c;exact Option.some.inj c
  exact item_listR f.isList m (by omega) (by rw[hj];simpa using l) b k
 .have hj:(i+(e.toArray.size:Int)).toNat=j:=by
   rw[seqIndex_neg (by omega) h4] at c;rw[Bn,<-o];exact Option.some.inj c
  exact subscriptTail_builtinR (x:=w) f.isList.typeIs slot_list_getitem.lookup
   (wpAny_getItem_list_neg (Q:=λr s'=>r=w/\EP X a Y Q r s') f.isList (by omega) (by rw[Bn] <;> omega) (by omega) (by rw[hj];simpa using l) ⟨rfl,b⟩) k
def AGV:Fa X (Wn X.K):=by
 intro d slice a s Y H x y v u Q I n m h k;obtain⟨p,xs,i,z,rfl,rfl,hq,o,q⟩:=h;cases n;obtain⟨t,rfl⟩:=m;obtain⟨aa,r,e,hz⟩:=I.tuple hq;obtain⟨j,h1,f,h3,h4,h5⟩:=Op o;obtain⟨w,l,c⟩:=r.get f;have g:=r.length;have hn:=JW;have b:EP X a Y Q w s:=⟨z,H,I,c,q⟩
 exact subscriptTail_builtinR (x:=w) e.typeIs slot_tuple_getitem.lookup
  (getItem_tuple (j:=j) (Q:=λr s'=>r=w/\EP X a Y Q r s') e (by omega) (by omega) (by rw[Bn,<-g];exact h1) (by simpa using l) ⟨rfl,b⟩) k
def AGW:Fa X Wo:=by
 intro a slice d s Y H x y v u Q I p m h l;obtain⟨z,i,c,rfl,rfl,w,r,q⟩:=h;obtain⟨t,rfl⟩:=p;obtain⟨t',rfl⟩:=m;obtain⟨j,b,f,h3,n,k⟩:=Op r;have g:z.cps.toList.length=z.length:=by simp[Str.length]
 rw[g] at b n k;have hn:=JW
 exact tail_any (typeIs_str s z t) slot_str_getitem.lookup (getItem_str (c:=c) (by
  have o:decide (i < -(2 ^ 63:Int))=false:=decide_eq_false (by omega);have e:decide (i ≥ 2 ^ 63)=false:=decide_eq_false (by omega)
  rw[o,e,Bool.or_false]) (by rw[b];simpa using f) ⟨.str ⟨#[c]⟩,H,I.tok _,⟨_,rfl⟩,q⟩) l
abbrev rIx(K:AL):R2:=λx y H Q=>Wp K x y H Q\/Wn K x y H Q\/Wo x y H Q
def AGX:Fa X (rIx X.K):=AGY.or (AGV.or AGW)
def AFs(a:AOu)(n j:Nat)(u:Value):Obj.mapSeq (·.setIfInBounds j u) {cls:=.type "list",data:=.seq a.toArray n}={cls:=.type "list",data:=.seq (a.set j u).toArray n}:=by simp[Obj.mapSeq]
def AI.lst{b:List (Addr×Obj)}{Y:St}{H:Hp}{s:Shared}{p:Addr}{xs:List V}(I:AI X b Y H s)(h:H p=some (.lst xs)) :
  ∃(a:AOu) (n:Nat),Ae xs a/\s.heap.get? p=some {cls:=.type "list",data:=.seq a.toArray n}/\xs.length<=sizeLine:=by
 obtain⟨z,a,n,r,e⟩:=I.hok p _ h;exact⟨a,n,r,e,z⟩
def AI.lstUpd{a:List (Addr×Obj)}{Y:St}{H:Hp}{s:Shared}{p:Addr}{xs g:List V}{c its':AOu}{n d:Nat}{f:Obj->Obj}(I:AI X a Y H s)(h:H p=some (.lst xs))
  (ho:s.heap.get? p=some {cls:=.type "list",data:=.seq c.toArray n}) (i:f {cls:=.type "list",data:=.seq c.toArray n}={cls:=.type "list",data:=.seq its'.toArray d}) (r:Ae g its') (hz:g.length<=sizeLine) (t:Nat) :
  AI X a Y (upd H p (.lst g)) {s with heap:=s.heap.update p f,toks:=t}:=by
 have e:(s.heap.update p f).get? p=some {cls:=.type "list",data:=.seq its'.toArray d}:=by rw[Heap.get?_update_self f ho (by rw[i] <;> rfl),i]
 refine I.write (x:=p) (e:=p) (by rw[h];trivial) (.inl rfl) (λb u j q=>(Heap.get?_update_other _ _ (Ne.symm j)).trans q) ⟨_,e⟩ ?_;exact⟨hz,its',d,r,e⟩
abbrev ADZ:V->V->V->Hp->(Hp->Prop)->Prop:=λo i v H Q=>∃p xs k j,o=.ref p/\i=.int k/\H p=some (.lst xs)/\ixN xs.length k=some j/\Q (upd H p (.lst (xs.set j v)))
def AC8:UG X ADZ:=by
 intro b s Y H o i v ov iv u Q I ro x y h;obtain⟨p,w,k,j,rfl,rfl,f,hj,q⟩:=h;cases ro;obtain⟨t,rfl⟩:=x;obtain⟨a,n,r,ho,z⟩:=I.lst f;obtain⟨c,h2,m,g⟩:=YE hj;have d:=r.length;have hn:=JW
 have e:AI X b Y (upd H p (.lst (w.set j v))) {s with heap:=s.heap.update p (Obj.mapSeq (·.setIfInBounds j u))} :=
  I.lstUpd f ho (AFs a n j u) (r.set y j) (by rw[ANj];exact z) s.toks
 by_cases l:0<=k
 .have hk:k.toNat=j:=by
   rw[seqIndex_of l g] at c;exact Option.some.inj c
  exact PySem.W.ki_setAt ho l (by omega) (by rw[Bn,<-d];exact g) (by rw[hk];exact⟨_,e,q⟩)
 .have hk:(k+(a.toArray.size:Int)).toNat=j:=by
   rw[seqIndex_neg (by omega) m] at c;rw[Bn,<-d];exact Option.some.inj c
  exact PySem.W.ki_setBack ho (by omega) (by rw[Bn,<-d];exact m) (by omega) (by rw[hk];exact⟨_,e,q⟩)
def ACy(a b:Option Int)(n:Nat):(sliceBounds a b none n).1=((HT.sIx n 0 a:Nat):Int)/\(sliceBounds a b none n).2.1=((HT.sIx n n b:Nat):Int)/\(sliceBounds a b none n).2.2=1:=by
 refine⟨?_,?_,rfl⟩
 .cases a with
  |none=>simp[sliceBounds,HT.sIx]
  |some i =>
   simp only[sliceBounds,HT.sIx,Option.getD_none,show(1:Int)>0 by decide,if_true]
   by_cases h:i<0
   .simp only[h,if_true] <;> omega
   .simp only[h,if_false] <;> omega
 .cases b with
  |none=>simp[sliceBounds,HT.sIx]
  |some i =>
   simp only[sliceBounds,HT.sIx,Option.getD_none,show(1:Int)>0 by decide,if_true]
   by_cases h:i<0
   .simp only[h,if_true] <;> omega
   .simp only[h,if_false] <;> omega
def ACz(a:AOu)(b c:Option Int):slicePick a.toArray b c none=((a.drop (HT.sIx a.length 0 b)).take (HT.sIx a.length a.length c-HT.sIx a.length 0 b)).toArray:=by obtain⟨d,e,f⟩:=ACy b c a.toArray.size;unfold slicePick;rw[d,e,f];simp only[sliceRange_one,pick_run,Bn] <;> rfl
abbrev ADY(K:AL):V->Option Int->Option Int->Hp->VK->Prop:=λx lo hi H Q=>∃a xs,x=.ref a/\BJ K H a xs/\∀p,H p=none->Q (.ref p) (upd H p (.lst (Gk xs lo hi)))
def AC3:GQ X (ADY X.K):=by intro g s Y H x v y z e f u Q I k t p j h;obtain⟨a,c,rfl,l,q⟩:=h;cases k;obtain⟨m,r,i,n⟩:=I.list l;have d:=r.length;refine⟨"list",_,slot_list_getitem.lookup,i.isList.typeIs,?_⟩;refine wpAny_getItem_list_slice i.isList t p j .none (by simp) ?_ (by rw[Bn] <;> omega);rw[ACz,<-d];refine⟨.ref s.heap.objs.size,_,I.laid (t':=s.toks) (o:=.lst (Gk c e f)) (λb w q=>Heap.get?_push_of_some _ q) (Ag _) ?_,rfl,q _ (I.hok.fresh (Ag _))⟩;exact⟨Cf (ZZ c e f) n,_,0,(r.drop (HT.sIx c.length 0 e)).take (HT.sIx c.length c.length f-HT.sIx c.length 0 e),Heap.get?_push_size _ rfl⟩
abbrev GN:V->Bool
 |.non=>true
 |.bl _=>true
 |.int _=>true
 |.str _=>true
 |_=>false
abbrev eqV:V->V->Bool
 |.non,.non=>true
 |.bl a,.bl b=>a == b
 |.bl a,.int b=>(if a then 1 else 0) == b
 |.int a,.bl b=>a == (if b then 1 else 0)
 |.int a,.int b=>a == b
 |.str a,.str b=>a == b
 |_,_=>false
def ZI{A:Around}{s:Shared}{y x:V}{u v:Value}(e:Af y u)(c:Af x v)(g:GN y=true)(f:GN x=true):SeqAt.EqAt A s u v (eqV y x):=by
 cases y with
 |non =>
  cases e
  cases x with
  |non=>cases c;exact SeqAt.EqAt.same _
  |bl b=>cases c;exact SeqAt.EqAt.none_bool b
  |int b=>obtain⟨t,rfl⟩:=c;exact SeqAt.EqAt.none_int b t
  |str b=>obtain⟨t,rfl⟩:=c;exact SeqAt.EqAt.none_str b t
  |_=>exact ftF f
 |bl a =>
  cases e
  cases x with
  |non=>cases c;exact SeqAt.EqAt.bool_none a
  |bl b=>cases c;exact SeqAt.EqAt.bool_bool a b
  |int b=>obtain⟨t,rfl⟩:=c;exact SeqAt.EqAt.bool_int a b t
  |str b=>obtain⟨t,rfl⟩:=c;exact SeqAt.EqAt.bool_str a b t
  |_=>exact ftF f
 |int a =>
  obtain⟨d,rfl⟩:=e
  cases x with
  |non=>cases c;exact SeqAt.EqAt.int_none a d
  |bl b=>cases c;exact SeqAt.EqAt.int_bool a d b
  |int b=>obtain⟨t,rfl⟩:=c;exact SeqAt.EqAt.int_int a d b t
  |str b=>obtain⟨t,rfl⟩:=c;exact SeqAt.EqAt.int_str a d b t
  |_=>exact ftF f
 |str a =>
  obtain⟨d,rfl⟩:=e
  cases x with
  |non=>cases c;exact SeqAt.EqAt.str_none a d
  |bl b=>cases c;exact SeqAt.EqAt.str_bool a d b
  |int b=>obtain⟨t,rfl⟩:=c;exact SeqAt.EqAt.str_int a d b t
  |str b=>obtain⟨t,rfl⟩:=c;exact SeqAt.EqAt.str_str a d b t
  |_=>exact ftF f
 |_=>exact ftF g
abbrev FB(x:V)(u:Value):Bool:=match u with
 |.none=>eqV .non x
 |.bool b=>eqV (.bl b) x
 |.int i _=>eqV (.int i) x
 |.str z _=>eqV (.str z) x
 |_=>false
def ZF{x y:V}{u:Value}(r:Af y u)(f:GN y=true):FB x u=eqV y x:=by
 cases y with
 |non=>cases r;rfl
 |bl b=>cases r;rfl
 |int i=>obtain⟨t,rfl⟩:=r;rfl
 |str z=>obtain⟨t,rfl⟩:=r;rfl
 |_=>exact ftF f
def Ly{x:V}:∀{xs:List V} {us:AOu},Ae xs us->xs.all GN=true->us.any (FB x)=xs.any λy=>eqV y x
 |_,_,.nil,_=>rfl
 |y::xs,u::us,.cons r t,f=>by
  rw[ANU,Bs] at f;rw[ANQ,ANQ,ZF r f.1,Ly t f.2]
def LO{A:Around}{s:Shared}{x:V}{v:Value}(b:Af x v)(c:GN x=true):∀{xs:List V} {us:AOu},Ae xs us->xs.all GN=true->∀u∈us,SeqAt.EqAt A s u v (FB x u)
 |_,_,.nil,_=>λu a=>by cases a
 |y::xs,u::us,.cons r t,f=>λd a=>by
  rw[ANU,Bs] at f;rcases AY.mp a with rfl|a
  .rw[ZF r f.1];exact ZI r b f.1 c
  .exact LO b c t f.2 d a
abbrev TH(x:V)(xs:List V):Bool:=xs.any λy=>eqV y x
abbrev SO(K:AL)(neg:Bool):R2:=λx y H Q=>∃p xs,y=.ref p/\(BJ K H p xs\/Be K H p xs)/\GN x=true/\xs.all GN=true/\Q (.bl (if neg then !TH x xs else TH x xs)) H
def AFJ:Aw X (compareOp .In) (SO X.K false):=by
 intro c s Y H x y v u Q I b e h;obtain⟨p,f,rfl,a,d,fs,q⟩:=h;cases e;rcases a with a|a
 .obtain⟨its,r,pl,hz⟩:=I.list a;refine SeqAt.in_listAt (FB x) pl.isList (λw hw=>LO b d r fs w (by simpa using hw)) ⟨.bl _,H,I,rfl,?_⟩;rw[show its.toArray.any (FB x)=its.any (FB x) by simp,Ly r fs];exact q
 .obtain⟨its,r,pl,hz⟩:=I.tuple a;refine SeqAt.in_tupleAt (FB x) pl (λw hw=>LO b d r fs w (by simpa using hw)) ⟨.bl _,H,I,rfl,?_⟩;rw[show its.toArray.any (FB x)=its.any (FB x) by simp,Ly r fs];exact q
def AFC:Aw X (compareOp .NotIn) (SO X.K true):=by
 intro c s Y H x y v u Q I b e h;obtain⟨p,f,rfl,a,d,fs,q⟩:=h;cases e;rcases a with a|a
 .obtain⟨its,r,pl,hz⟩:=I.list a;refine SeqAt.notIn_listAt (FB x) pl.isList (λw hw=>LO b d r fs w (by simpa using hw)) ⟨.bl _,H,I,rfl,?_⟩;rw[show its.toArray.any (FB x)=its.any (FB x) by simp,Ly r fs];exact q
 .obtain⟨its,r,pl,hz⟩:=I.tuple a;refine SeqAt.notIn_tupleAt (FB x) pl (λw hw=>LO b d r fs w (by simpa using hw)) ⟨.bl _,H,I,rfl,?_⟩;rw[show its.toArray.any (FB x)=its.any (FB x) by simp,Ly r fs];exact q
def AIC:CD X (.builtin "len") (λd H Q=>∃p b,d=[.ref p]/\(BJ X.K H p b\/Be X.K H p b)/\Q (.int b.length) H):=by
 intro e s Y H d i Q I r h;obtain⟨p,b,rfl,c,q⟩:=h;obtain⟨u,rfl,f⟩:=Ds r;cases f;have g:=JW;rcases c with c|c
 .obtain⟨its,r',pl,hz⟩:=I.list c;have a:=r'.length;exact Calls.call_len_list pl.isList (by simp only[Bn] <;> omega) ⟨.int b.length,H,I.tok _,⟨s.toks+1,by rw[Bn,a]⟩,q⟩
 .obtain⟨its,r',pl,hz⟩:=I.tuple c;have a:=r'.length;exact len_tuple pl (by simp only[Bn] <;> omega) ⟨.int b.length,H,I.tok _,⟨s.toks+1,by rw[Bn,a]⟩,q⟩
def AIB:CD X (.builtin "len") (λa H Q=>∃z,a=[.str z]/\z.length<=sizeLine/\Q (.int z.length) H):=by intro b s Y H a e Q I r h;obtain⟨z,rfl,c,q⟩:=h;obtain⟨u,rfl,t,rfl⟩:=Ds r;have d:=JW;exact len_str (by omega) ⟨.int z.length,H,I.tok _,⟨_,rfl⟩,q⟩
def CD.or{f:Value}{r e:List V->Hp->VK->Prop}(h:CD X f r)(h':CD X f e):CD X f (λb H Q=>r b H Q\/e b H Q):=by
 intro a s Y H b d Q I c q;rcases q with q|q
 .exact h a s Y H b d Q I c q
 .exact h' a s Y H b d Q I c q
def AIA:CD X (.type "list") (λy H Q=>∃p d,y=[.ref p]/\(BJ X.K H p d\/Be X.K H p d)/\∀l,H l=none->Q (.ref l) (upd H l (.lst d))):=by
 intro t s Y H y us Q I r h;obtain⟨p,d,rfl,m,q⟩:=h;obtain⟨u,rfl,z⟩:=Ds r;cases z
 have g:∀(a:AOu),Ae d a->d.length<=sizeLine->∀(h':Heap) (f:Nat),(∀b o',s.heap.get? b=some o'->h'.get? b=some o') ->
   h'.get? s.heap.objs.size=some {cls:=.type "list",dict:=none,data:=.seq a.toArray f,slots:=#[]}->EP X t Y Q (.ref s.heap.objs.size) {s with heap:=h'}:=λa c k h' f i e =>
  ⟨.ref s.heap.objs.size,_,I.laid (t':=s.toks) i (Ag _) (show CJ X.prog X.w _ h' _ (.lst d) from ⟨k,a,f,c,e⟩),rfl,q _ (I.hok.fresh (Ag _))⟩
 rcases m with m|m
 .obtain⟨a,c,pl,k⟩:=I.list m;have j:=c.length;obtain⟨o,ho,x,n,v⟩:=pl.isList;exact call_list_seq p (.inl rfl) ho x v (λh' f i e=>g a c k h' f i e) (by simp only[Bn] <;> omega)
 .obtain⟨a,c,pl,k⟩:=I.tuple m;have j:=c.length;obtain⟨o,ho,x,n,v⟩:=pl;exact call_list_seq p (.inr rfl) ho x v (λh' f i e=>g a c k h' f i e) (by simp only[Bn] <;> omega)
def AH5:CD X (.type "tuple") (λg H Q=>∃p c,g=[.ref p]/\((BJ X.K H p c/\∀l,H l=none->Q (.ref l) (upd H l (.tup c)))\/(Be X.K H p c/\Q (.ref p) H))):=by
 intro a s Y H g t Q I r h;obtain⟨p,c,rfl,h⟩:=h;obtain⟨u,rfl,n⟩:=Ds r;cases n;rcases h with⟨f,q⟩|⟨f,q⟩
 .obtain⟨its,r',pl,hz⟩:=I.list f;have i:=r'.length;refine call_tuple_list pl.isList (λd k=>?_) (by simp only[Bn] <;> omega);have j:AI X a Y H {s with heap:=d}:=I.kept (t':=s.toks) k
  have m:AI X a Y (upd H d.objs.size (.tup c)) {s with heap:=d.push {cls:=.type "tuple",data:=.seq its.toArray}} :=
   j.laid (t':=s.toks) (λb o e=>Heap.get?_push_of_some _ e) (Ag _) (show CJ X.prog X.w _ _ _ (.tup c) from ⟨hz,its,r',IsTup.new _ _⟩)
  exact⟨.ref d.objs.size,_,m,rfl,q _ (j.hok.fresh (Ag _))⟩
 .obtain⟨its,r',pl,hz⟩:=I.tuple f;exact call_tuple_same pl ⟨.ref p,H,I,rfl,q⟩
abbrev Nf(K:AL)(T:String)(x:V)(H:Hp):Prop:=match x with
 |.str _=>T = "str"
 |.int _=>T = "int"
 |.ref p=>(T = "list"/\∃xs,BJ K H p xs)\/(T = "tuple"/\∃o,K.lookup p=some o/\o.cls=.type "tuple"/\o.dict=none) \/
   (T = "dict"/\((∃kvs,H p=some (.dK kvs))\/(∃kvs,H p=some (.dT kvs))\/∃kvs ep,H p=some (.dN kvs ep)))\/(T = "set"/\∃S n,H p=some (.set S n))
 |_=>False
def Vr{f:List (Addr×Obj)}{Y:St}{H:Hp}{s:Shared}{T:String}{x:V}{v:Value}(I:AI X f Y H s)(r:Af x v)(ty:Nf X.K T x H) :
  s.TypeIs v T/\∀a,v=.ref a->∃k,s.heap.get? a=some k/\k.dict=none:=by
 cases x with
 |str z =>
  obtain⟨t,rfl⟩:=r;cases (show T = "str" from ty);exact⟨typeIs_str s z t,λ_ e=>nomatch e⟩
 |int i =>
  obtain⟨t,rfl⟩:=r;cases (show T = "int" from ty);exact⟨typeIs_int s i t,λ_ e=>nomatch e⟩
 |ref p =>
  cases r;rcases ty with⟨rfl,q,m⟩|⟨rfl,o,b,l,j⟩|⟨rfl,b⟩|⟨rfl,S,n,b⟩
  .obtain⟨its,_,pl,_⟩:=I.list m;refine⟨pl.isList.typeIs,λa e=>?_⟩;cases e;obtain⟨o,n,e,c,j,_⟩:=pl;exact⟨o,e,j⟩
  .refine⟨⟨o,I.kIn p o b,l⟩,λa e=>?_⟩;cases e;exact⟨o,I.kIn _ o b,j⟩
  .have z:∃o,s.heap.get? p=some o/\o.ExactDict:=by
    rcases b with⟨g,b⟩|⟨g,b⟩|⟨g,u,b⟩
    .obtain⟨_,_,_,_,o,_,_,e,d,_⟩:=I.hok p _ b;exact⟨o,e,d⟩
    .obtain⟨_,_,_,_,o,_,_,e,d,_⟩:=I.hok p _ b;exact⟨o,e,d⟩
    .obtain⟨_,_,_,_,o,_,e,d,_⟩:=I.hok p _ b;exact⟨o,e,d⟩
   obtain⟨o,e,d⟩:=z;refine⟨⟨o,e,d.1⟩,λa h=>?_⟩;cases h;exact⟨o,e,d.2.1⟩
  .obtain⟨o,_,_,_,e,d,_⟩:=I.hok p _ b;refine⟨⟨o,e,d.1⟩,λa h=>?_⟩;cases h;exact⟨o,e,d.2.1⟩
 |_=>exact False.elim ty
abbrev ACd(K:AL)(T:String)(r:V->List V->Hp->VK->Prop)(to:TE):TE:=λY H Q=>to Y H λx H1=>Nf K T x H1/\r x [] H1 Q
abbrev tBM(K:AL)(T:String)(r:V->List V->Hp->VK->Prop)(to:TE)(t:TA):TE:=λY H Q=>to Y H λx H1=>Nf K T x H1/\t Y H1 λxs H2=>r x xs H2 Q
variable {o e:Expr}{es:AOw}{to:TE}{t:TA}{name:Str}{apos cpos:Pos}{T id:String}{r:V->List V->Hp->VK->Prop}
def AEw(j:PlainAttrs T)(d:Slot T name id)(e:typeOf (.builtin id)=pure (.type "method_descriptor"))(q:FZ X id r)(ho:PE X o to)
  (b:attributeBase o name X.env (eval o X.env)=eval o X.env:=by rfl) (c:(apos.endLine == cpos.line)=true:=by rfl):PE X (.Call (.Attribute o name apos) [] [] cpos) (ACd X.K T r to):=by
 intro a s Y H Q I h;refine wpAny_Call_method0_late b c (Ai (ho a s Y H _ I h) λv k f=>?_);obtain⟨x,n,i,g,ty,p⟩:=f;obtain⟨l,m⟩:=Vr i g ty;exact⟨T,id,j,d,e,l,m,Calls.callWith_builtin rfl (PySem.evalArgs_none (q a k Y n x [] v [] Q i g .nil p))⟩
def AEx(pa:PlainAttrs T)(i:Slot T name id)(j:typeOf (.builtin id)=pure (.type "method_descriptor"))(hm:FZ X id r)(ho:PE X o to)(ha:PA X (e::es) t)
  (c:attributeBase o name X.env (eval o X.env)=eval o X.env:=by rfl)
  (g:((backTo cpos (starEach (e::es) X.env)).all (λx=>!x.1)&&(backToKw cpos (keywordEach [] X.env)).all (λx=>x.1.isSome)
   && decide ((e::es).length+([]:List Keyword).length+(if ([]:List Keyword).isEmpty then 0 else 1)<30))=true:=by rfl)
  (d:(apos.endLine == cpos.line)=true:=by rfl) (hs:starEach (e::es) X.env=(false,eval e X.env)::starEach es X.env:=by rfl) (b:(backTo cpos (starEach es X.env)).any (·.1)=false:=by rfl) :
  PE X (.Call (.Attribute o name apos) (e::es) [] cpos) (tBM X.K T r to t):=by
 intro a s Y H Q I h;refine wpAny_Call_method_late c g d rfl (Ai (ho a s Y H _ I h) λv s1 f=>?_);obtain⟨x,y,m,k,ty,q1⟩:=f;obtain⟨h1,u⟩:=Vr m k ty;refine⟨T,id,pa,i,j,h1,u,?_⟩;have l:=ha cpos a s1 Y y _ m q1;rw[hs] at l ⊢;refine Calls.callWith_builtin (by show(false || (backTo cpos (starEach es X.env)).any (·.1))=false;rw[b] <;> rfl) (Calls.evalArgs_plain ?_);exact Ai l λz n f=>by obtain⟨vs,H2,q,w,p⟩:=f;exact hm a n Y H2 x vs v z Q q k w p
end
abbrev MtM(X:Cx)(id:String)(r:V->List V->Hp->VK->Prop):Prop :=
 ∀(pins:List (Addr×Obj)) (s:Shared) (Y:St) (H:Hp) (x:V) (xs:List V) (v:Value) (us:AOu) (Q:VK),AI X pins Y H s->Af x v->Ae xs us->r x xs H Q ->
  wpAny (model X.prog X.w) X.A (call (.builtin id) (v::us)) (EP X pins Y Q) X.xe s
def Ae.one:∀{x:V} {us:AOu},Ae [x] us->∃u,us=[u]/\Af x u
 |_,_,.cons r .nil=>⟨_,rfl,r⟩
def Ae.zero:∀{us:AOu},Ae [] us->us=[]
 |_,.nil=>rfl
def Ae.reverse{xs:List V}{us:AOu}(h:Ae xs us):Ae xs.reverse us.reverse:=by
 induction h with
 |nil=>exact .nil
 |cons r t a=>rw[AOJ,AOJ];exact Ae.append a (.cons r .nil)
section
variable {X:Cx}{pins:List (Addr×Obj)}{Y:St}{H:Hp}{s:Shared}{l b:Addr}{xs ys zs:List V}
def AI.lset{a its':AOu}{n:Nat}{f:Array Value->Array Value}{t':Nat}(I:AI X pins Y H s)(c:H l=some (.lst xs))
  (e:s.heap.get? l=some {cls:=.type "list",data:=.seq a.toArray n}) (h:f a.toArray=its'.toArray) (d:Ae ys its') (hz:ys.length<=sizeLine) :
  AI X pins Y (upd H l (.lst ys)) {s with heap:=s.heap.update l (Obj.mapSeq f),toks:=t'}:=by
 have q:=PySem.IsL.update e f;rw[h] at q;refine I.write (x:=l) (e:=l) (by rw[c];exact trivial) (.inl rfl) (λi u g b=>(Heap.get?_update_other s.heap (Obj.mapSeq f) (Ne.symm g)).trans b) ⟨_,q⟩ ?_;exact⟨hz,its',_,d,q⟩
def AI.lnew{a:AOu}{t':Nat}(I:AI X pins Y H s)(b:Ae ys a)(hz:ys.length<=sizeLine) :
  AI X pins Y (upd H s.heap.objs.size (.lst ys)) {s with heap:=s.heap.push {cls:=.type "list",data:=.seq a.toArray},toks:=t'} :=
 I.laid (λ_ _ q=>Heap.get?_push_of_some _ q) (Ag _) ⟨hz,a,0,b,Heap.get?_push_size _ rfl⟩
def AI.fresh(I:AI X pins Y H s):H s.heap.objs.size=none:=I.hok.fresh (Ag _)
def AI.lstM(I:AI X pins Y H s)(b:H l=some (.lst xs)):xs.length<=sizeLine/\∃(a:AOu) (n:Nat),Ae xs a/\xs.length=a.length/\s.heap.get? l=some {cls:=.type "list",data:=.seq a.toArray n}:=by obtain⟨z,a,n,r,e⟩:=I.hok l _ b;exact⟨z,a,n,r,r.length,e⟩
def AFZ{n:Nat}(h:n<=sizeLine):Builtin.List.listTooLong n=false:=by unfold Builtin.List.listTooLong;exact decide_eq_false (by omega)
end
section
variable {X:Cx}
abbrev Wq:V->List V->Hp->VK->Prop:=λx vs H Q=>∃l xs y,x=.ref l/\vs=[y]/\H l=some (.lst xs)/\xs.length<sizeLine/\Q .non (upd H l (.lst (xs++[y])))
def Xf:MtM X "list.append" Wq:=by intro b s Y H x j v o Q I d f h;obtain⟨l,i,y,rfl,rfl,c,m,q⟩:=h;cases d;obtain⟨u,rfl,g⟩:=f.one;obtain⟨z,a,n,r,k,e⟩:=I.lstM c;refine call_meets F.slot_list_append ⟨_,e,rfl⟩ F.entry_list_append (F.args_list_append_2 _ _) (PySem.list_append l a.toArray n u (by rw[Bn];omega)) ⟨e,?_⟩;refine⟨.non,_,I.lset (its':=a++[u]) c e (by simp) (r.append (.cons g .nil)) ?_,rfl,q⟩;rw[CG,List.length_singleton];omega
abbrev rExtend:V->List V->Hp->VK->Prop:=λx vs H Q=>∃l b xs zs,x=.ref l/\vs=[.ref b]/\H l=some (.lst xs)/\H b=some (.lst zs)/\xs.length+zs.length<=sizeLine/\Q .non (upd H l (.lst (xs++zs)))
def AFh:MtM X "list.extend" rExtend:=by
 intro i s Y H x vs v us Q I w o h;obtain⟨l,b,xs,zs,rfl,rfl,g,t,hz,q⟩:=h;cases w;obtain⟨u,rfl,y⟩:=o.one;cases y;obtain⟨z,c,n,r,hl,e⟩:=I.lstM g;obtain⟨z2,a,m,p,j,k⟩:=I.lstM t;have f:c.toArray.size+a.toArray.size<=sizeLine:=by rw[Bn,Bn];omega
 have d:¬(!c.toArray.isEmpty&&Builtin.List.listTooLong (c.toArray.size+a.toArray.size))=true:=by rw[AFZ f,Bool.and_false];exact HB
 refine call_meets F.slot_list_extend ⟨_,e,rfl⟩ F.entry_list_extend (F.args_list_extend_2 _ _)
  (AutoSeq1.list_extend_list_list_0 l c.toArray n b a.toArray m d (by rw[Bn];omega) (by omega)) ⟨e,k,?_⟩
 refine⟨.non,_,I.lset (its':=c++a) g e (by simp) (r.append p) ?_,rfl,q⟩;rw[CG];omega
abbrev rCat:R2:=λx y H Q=>∃l b xs zs,x=.ref l/\y=.ref b/\H l=some (.lst xs)/\H b=some (.lst zs)/\xs.length+zs.length<=sizeLine/\∀p,H p=none->Q (.ref p) (upd H p (.lst (xs++zs)))
def AFO:Aw X (binaryOp .Add) rCat:=by
 intro d s Y H x y v u Q I o m h;obtain⟨l,b,t,zs,rfl,rfl,p,k,hz,q⟩:=h;cases o;cases m;obtain⟨z,c,n,r,hl,e⟩:=I.lstM p;obtain⟨z2,a,w,j,f,g⟩:=I.lstM k;refine PySem.P.add_list e g ?_ (by rw[Bn,Bn];omega);have i:c.toArray++a.toArray=(c++a).toArray:=by simp
 rw[i];exact⟨.ref _,_,I.lnew (t':=s.toks) (r.append j) (by rw[CG];omega),rfl,q _ I.fresh⟩
end
section
variable {prog:Program}{w:World}{A:Around}{E:AO0}{s:Shared}
set_option maxRecDepth 100000 in
end
end L2
namespace Att
open PySem PySem.W PySem.Calls PyProof.Rows
def ints_of_wellAll{P:Params}{h:Heap}:∀(ns:AOz) (vs:AOu),WellAll P h vs (ns.map WData.int)->IntsAre vs ns:=by
 intro ns
 induction ns with
 |nil =>
  intro vs w;rw[ANk] at w;cases w;exact .nil
 |cons n ns c =>
  intro vs w;rw[Al] at w
  cases w with
  |cons a b =>
   cases a;exact .cons _ _ (c _ b)
def AKR{l:OpenLaw}{n:Nat}(x:l.most=some n){P:Params}{h:Heap}{b:List WData}{f:AOu}
  (e:l.row.toRowW.claim.pre b=true) (k:WellAll P h f b) :
  ∃a p c,f=[Value.ref a]/\b=[WData.list (c.map WData.int)]/\h.get? a=some {cls:=.type "list",data:=.seq p.toArray}/\IntsAre p c/\c.length<=n:=by
 have m:WShape.hasAll [] b [.list .int]=true:=(pre_splitW e).1;have o:l.pre.holds [] {args:=b}=true:=(pre_splitW e).2;obtain⟨d,r,rfl,u,v⟩:=hasAllW_cons m;obtain rfl:=hasAllW_nil v;obtain⟨z,rfl,y⟩:=hasW_list u;obtain⟨c,rfl⟩:=items_int y
 have g:c.length<=n:=by
  unfold OpenLaw.pre at o
  have i:(WTm.not (.lt (.lit (.int (n:Int))) (.len (.arg 0)))).holds [] {args:=[.list (c.map .int)]}=true:=by have i:=(holds_andW o).1;rw[x] at i;exact i
  have j:=condW_of i (w_not (w_lt w_lit (w_len_list (w_arg rfl))));rw[AZ] at j;refine Nat.le_of_not_lt λq=>?_;have t:(n:Int)<((c.length:Nat):Int):=by omega
  first
   |(rw[decide_eq_true t] at j;exact absurd j (by decide))
   |(simp at j;omega)
 cases k with
 |cons w s =>
  cases s
  cases w with
  |list ho hall=>exact⟨_,_,c,rfl,rfl,ho,ints_of_wellAll c _ hall,g⟩
def AKX(l:OpenLaw)(a:List WData):l.row.toRowW.claim.post a (.bool true) a=true :=
 postW_of (r:=l.row.toRowW) (X:=(true == true))
  (show WShape.has [] (.bool true) .bool=true by first|rfl|decide|simp[WShape.has,WShape.arms,WShape.armsAll])
  (show(WTm.eq .res (.lit (.bool true))).value [] {args:=a,res:=some (.bool true),after:=a}=some (.bool (true == true)) from w_eq_bool (w_res rfl) w_lit) rfl
end Att
namespace L2
open PySem PySem.Spec PyProof.Rows
def Vo:∀{vs:AOu} {ns:AOz},IntsAre vs ns->Ae (ns.map V.int) vs
 |_,_,.nil=>.nil
 |_,_,.cons n t h=>.cons ⟨t,rfl⟩ (Vo h)
abbrev AAS(H:Hp):Prop:=∀b,H b=none\/∃o xs,H b=some (.frz o (.lst xs))
def AGK{P:Program}{w:World}{K:AL}{mg mb:AOs}{CX:Fw}{k:Nat}{fa a:Addr}{fd:FuncData}{x:Str}{sp:Sp}{c:Shared}{vs:AOu}{ns:AOz}
  (KX:K.In c.heap) (ac:c.heap.Ns mainGlobals mg) (g:c.heap.Ns builtinsNs mb) (ak:∀x:Str,x≠"__name__"->mb x=bootBuiltins x) (ae:c.heap.NoLimit) (hg:c.gens=#[])
  (ha:c.heap.get? a=some {cls:=.type "list",data:=.seq vs.toArray}) (hi:IntsAre vs ns) (hl:ns.length<=sizeLine) (hr:Room k callerA)
  (F:∀i:Heap,K.In i->i.Ns mainGlobals mg->DF P w K mg i CX k fa fd [x] sp) (t:∀(s:Shared) (u:Value),BindsTo s fd ⟨[u],[]⟩ [(x,u)])
  (aj:∀H:Hp,AAS H->BJ K H a (ns.map V.int)->sp [.ref a] H (λv _=>v=.bl true) λ_ _ _=>False)
  (am:∀H e j,CX [] H c (λ_ _ _=>False) e j->False) :
  codeAny (model P w) callerA (.call (.ref fa) ⟨[.ref a],[]⟩) (λr j=>r=.ok (.ret (.bool true))/\OldK c.heap j.heap/\j.os=c.os/\AllBare j.gens) c:=by
 have rv:=Vo hi;have ai:=hi.length
 -- from an abstract heap in which nothing but the script may be tracked
 have p:∀H:Hp,AAS H->BJ K H a (ns.map V.int)->DE P w H c.heap->(∀b,H b≠none->b=a)->(H a≠none->K.lookup a=none) ->
   codeAny (model P w) callerA (.call (.ref fa) ⟨[.ref a],[]⟩) (λr j=>r=.ok (.ret (.bool true))/\OldK c.heap j.heap/\j.os=c.os/\AllBare j.gens) c:=by
  intro H hO hS aa hA hK;have f:∀{b:Addr} {o:Obj},c.heap.get? b=some o->H b=none->(Hj c.heap H).get? b=some o:=λe n=>AGp e n
  have al:∀{b:Addr} {o:Obj} {es:Array DictEntry} {ep:Nat},c.heap.get? b=some o->o.data=.dict es ep->H b=none:=λ{b o es ep} e d=>by
   cases q:H b with
   |none=>rfl
   |some u =>
    have e':b=a:=hA b (by rw[q];simp);subst e';rw[ha] at e;cases e;have d':Data.seq vs.toArray _=Data.dict es ep:=d;cases d'
  have l:∀{b:Addr} {m:AOs},c.heap.Ns b m->(Hj c.heap H).Ns b m:=λ{b m} ⟨o,es,ep,e,d,r⟩=>⟨o,es,ep,f e (al e d),d,r⟩
  have y:K.In (Hj c.heap H):=λb o e=>f (KX b o e) (by
   cases q:H b with
   |none=>rfl
   |some u =>
    have e':b=a:=hA b (by rw[q];simp);subst e'
    rw[hK (by rw[q];simp)] at e;cases e)
  have hM:PC K mg (Hj c.heap H):=⟨y,l ac,⟨mb,l g,ak⟩,let ⟨mc,h1,h2⟩:=ae;⟨mc,l h1,h2⟩⟩;have e0:HZ P w K mg (Hj c.heap H) callerA [] c H:=⟨rfl,hM,λb o e=>AFT e,ANG (AGo _ _),trivial,λb g=>absurd (show b∈([]:AOv) from g) (by simp),aa,.of_eq hg⟩;refine codeAny_mono ((F _ y (l ac)).run callerA [] c H ⟨[.ref a],[]⟩ [.ref a] [.ref a] _ _ hr e0 (t c (.ref a)) (.cons rfl .nil) (aj H hO hS)) λr j h=>?_
  cases r with
  |error e=>exact(am H e j h).elim
  |ok fl =>
   cases fl with
   |next=>exact False.elim h
   |brk=>exact False.elim h
   |cont=>exact False.elim h
   |ret u =>
    obtain⟨v,H',os,ad,un,ag,r',q⟩:=h;have q':v=.bl true:=q;subst q';obtain rfl:u=Value.bool true:=r';refine⟨rfl,OldK.of_keep λb o e=>?_,os,ad⟩
    cases q:H b with
    |none=>exact un.keep b o e q (by intro z;exact absurd (show b∈([]:AOv) from z) (by simp)) (by simp)
    |some u =>
     rcases hO b with z|⟨ob,xs,z⟩
     .rw[q] at z;cases z
     .have z2:=un.frzs b ob _ z;obtain⟨e1,_⟩:=aa b _ z;obtain⟨e2,_⟩:=ag b _ z2;rw[e] at e1;cases e1;exact e2
 cases hk:K.lookup a with
 |some o =>
  -- the script is one of the module's own objects
  have e:=KX a o hk;rw[ha] at e;cases e;refine p (λ_=>none) (λ_=>.inl rfl) (.inr ⟨_,vs.toArray,_,hk,rfl,rfl,rfl,by rw[Bn,ai];exact hl,by simpa using rv⟩) (λb u z=>by have z':(none:Option HO)=some u:=z;cases z') (λb z=>absurd rfl z) λz=>absurd rfl z
 |none =>
  refine p (λb=>if b=a then some (.frz {cls:=.type "list",data:=.seq vs.toArray} (.lst (ns.map V.int))) else none) (λb=>?_) (.inl (.inr ⟨{cls:=.type "list",data:=.seq vs.toArray},if_pos rfl⟩)) (λb u z=>?_) (λb z=>?_) λ_=>hk
  .by_cases g:b=a
   .exact .inr ⟨_,_,if_pos g⟩
   .exact .inl (if_neg g)
  .by_cases g:b=a
   .have z':=(if_pos g).symm.trans z;cases z';subst g;exact⟨ha,by rw[AZ];exact hl,vs,_,rv,ha⟩
   .have z':=(if_neg g).symm.trans z;cases z'
  .by_cases g:b=a
   .exact g
   .exact absurd (if_neg g) z
abbrev Ip(s:Stmt):Arguments:=match s with
 |.FunctionDef _ a _ _ _ _ _ _ _ _=>a
 |_=>{posonlyargs:=[],args:=[],vararg:=none,kwonlyargs:=[],kw_defaults:=[],kwarg:=none,defaults:=[]}
abbrev Fp(s:Stmt):AOx:=match s with
 |.FunctionDef _ _ b _ _ _ _ _ _ _=>b
 |_=>[]
abbrev Ad(s:Stmt):Scope:=match s with
 |.FunctionDef _ _ _ _ _ _ sc _ _ _=>sc
 |_=>{kind:=.function,names:=[],isGenerator:=false,isCoroutine:=false}
noncomputable abbrev CX0:Fw:=λ_ _ _ _ _ _=>False
noncomputable abbrev E0:XK:=λ_ _ _=>False
def Sa{X:Cx}:Jv CX0 X E0:=λ_ _ _ _ _ _ _ h=>h.elim
structure Hr (K:AL) (x qual:Str) (st:Stmt) (f:Addr) (fd:FuncData):Prop where
 ex:∃(oc:Value) (od:Option Addr) (kV doc pm:Value) (an:Option Addr) (cdv ct:Value) (osl:Array (Option Value)),
  fd=ANO x qual (Ip st) (Fp st) (Ad st) .none kV doc pm an cdv ct/\K.lookup f=some ⟨oc,od,.func fd,osl⟩/\AOI K cdv qual=true
 kp:GY K (.ref f)=true
section
variable {P:Program}{w:World}{K:AL}{mg:AOs}{base:Heap}
def Hr.ok{x b:Str}{st:Stmt}{f:Addr}{j:FuncData}{N ps:AOt}{k:Nat}{g:Sp}(F:Hr K x b st f j)(S:Ar N ps (Ad st))(len:∀vs H Q E,g vs H Q E->vs.length=ps.length)
  (d:∀(c:Value) (A:Around) (a:List Env) (s:Shared) (H:Hp) (vs:List V) (Q:VK) (E:XK),Room k (A.deeper (envOfC b (Ad st) s.heap.objs.size f c))->g vs H Q E ->
   ∃t,Dp (Cr CX0 P w K mg base N b (Ad st) f c A a s H E).nox (Fp st) t/\t {nx:=λ_ n=>Q .non n,rt:=Q} (Gd N vs) H):DF P w K mg base CX0 (k+1) f j ps g:=by
 obtain⟨y,z,kV,l,r,v,c,u,o,rfl,m,i⟩:=F.ex;refine AHL m i S len λA a s H vs Q E p e=>?_;obtain⟨t,h,q⟩:=d c A a s H vs Q E p e;exact⟨t,h.nox,q⟩
def Hr.binds{x a:Str}{st:Stmt}{f:Addr}{i:FuncData}{ps:AOt}(F:Hr K x a st f i)
  (h:∀(kV c g:Value) (d:Option Addr) (b e:Value) (us:AOu),us.length=ps.length->bindArgs (ANO x a (Ip st) (Fp st) (Ad st) .none kV c g d b e) ⟨us,[]⟩=pure (ps.zip us)):Dx K i ps []:=by
 obtain⟨l,n,kV,c,g,d,b,e,j,rfl,m,k⟩:=F.ex;exact .all (h kV c g d b e)
def AHH{x a:Str}{st:Stmt}{f:Addr}{j:Value}{m g:Option Addr}{e:Array (Option Value)}{kV d h b i:Value}(l:K.lookup f=some ⟨j,m,.func (ANO x a (Ip st) (Fp st) (Ad st) .none kV d h g b i),e⟩)
  (c:AOI K b a=true) (k:GY K (.ref f)=true):Hr K x a st f (ANO x a (Ip st) (Fp st) (Ad st) .none kV d h g b i):=⟨⟨j,m,kV,d,h,g,b,i,e,rfl,l,c⟩,k⟩
end
section
variable {X:Cx}
def pv(i:Nat){x:Str}{pos:Pos}(c:X.N[i]?=some x)(b:Ju X.env.scope x)(d:(x == ("__debug__":Str))=false)
  (a:(x == ("__classdict__":Str))=false):PE X (.Name x pos) (SA i):=AEa c b d a
end
def iteF{A B:Prop}(h:B):if false=true then A else B:=by rw[if_neg HB];exact h
def iteT{A B:Prop}(h:A):if true=true then A else B:=by rw[if_pos rfl];exact h
abbrev HW(H H':Hp):Prop:=∀b o,H b=some o->H' b=some o
def HW.refl(H:Hp):HW H H:=λ_ _ h=>h
def HW.trans{H e d:Hp}(a:HW H e)(b:HW e d):HW H d:=λc o h=>b c o (a c o h)
def HW.free{H a:Hp}(e:HW H a){l:Addr}(h:a l=Option.none):H l=Option.none:=by
 cases q:H l with
 |none=>rfl
 |some o =>
  rw[e l o q] at h;cases h
def HW.seq{K:AL}{H b:Hp}{a:Addr}{xs:List V}(e:HW H b)(h:BJ K H a xs):BJ K b a xs:=by
 rcases h with(h|⟨o,h⟩)|h
 .exact .inl (.inl (e _ _ h))
 .exact .inl (.inr ⟨o,e _ _ h⟩)
 .exact .inr h
section
variable {κ:Type}[DecidableEq κ]
abbrev Fy(kvs:List (κ×V))(k:κ):Option V:=(kvs.find? λkv=>decide (kv.1=k)).map (·.2)
abbrev Hy(kvs:List (κ×V))(k:κ)(v:V):List (κ×V) :=
 if (kvs.any λkv=>decide (kv.1=k))=true then kvs.map (λkv=>if kv.1=k then (kv.1,v) else kv) else kvs++[(k,v)]
abbrev ZM(kvs:List (κ×V))(k:κ):List (κ×V):=kvs.filter λkv=>decide (kv.1≠k)
def Ru{p:κ×V}{r:List (κ×V)}{k:κ}(e:p.1=k):Fy (p::r) k=some p.2:=by simp[Fy,Fd,e]
def Rv{p:κ×V}{r:List (κ×V)}{k:κ}(e:¬p.1=k):Fy (p::r) k=Fy r k:=by simp[Fy,Fd,e]
def Vp(k:κ):∀kvs:List (κ×V),(kvs.any λa=>decide (a.1=k))=(Fy kvs k).isSome
 |[]=>rfl
 |p::r=>by
  rw[ANQ]
  by_cases e:p.1=k
  .simp only[Ru e,decide_eq_true e,Bool.true_or,Option.isSome_some]
  .rw[Rv e,decide_eq_false e,Bool.false_or];exact Vp k r
def Ft.isSome_eq{o:Option V}{u:Option Value}(r:Ft o u):o.isSome=u.isSome:=by
 cases o with
 |none=>cases u with
  |none=>rfl
  |some _=>exact(show False from r).elim
 |some _=>cases u with
  |none=>exact(show False from r).elim
  |some _=>rfl
def Ft.getD{o:Option V}{u:Option Value}{d:V}{d':Value}(r:Ft o u)(a:Af d d'):Af (o.getD d) (u.getD d'):=by
 cases o with
 |none=>cases u with
  |none=>exact a
  |some _=>exact(show False from r).elim
 |some _=>cases u with
  |none=>exact(show False from r).elim
  |some _=>exact r
def KV.val{kvs:List (κ×V)}{vs:List (κ×Value)}(r:KV kvs vs)(k:κ):Ft (Fy kvs k) (valueAt vs k):=by
 unfold KV at r
 induction r with
 |nil=>exact True.intro
 |@cons p q ps a h t d =>
  obtain⟨c,f⟩:=h
  by_cases e:p.1=k
  .have e':q.1=k:=c.symm.trans e;have b:valueAt (q::a) k=some q.2:=by simp[valueAt,Fd,e']
   rw[Ru e,b];exact f
  .have e':¬q.1=k:=λz=>e (c.trans z);have b:valueAt (q::a) k=valueAt a k:=by simp[valueAt,Fd,e']
   rw[Rv e,b];exact d
def KV.any{kvs:List (κ×V)}{vs:List (κ×Value)}(r:KV kvs vs)(k:κ):(kvs.any λa=>decide (a.1=k))=vs.any λa=>decide (a.1=k):=by
 unfold KV at r
 induction r with
 |nil=>rfl
 |cons h t b=>rw[ANQ,ANQ,b,h.1]
def KV.repl{kvs:List (κ×V)}{vs:List (κ×Value)}(r:KV kvs vs)(k:κ){y:V}{u:Value}(c:Af y u) :
  KV (kvs.map λa=>if a.1=k then (a.1,y) else a) (vs.map λa=>if a.1=k then (a.1,u) else a):=by
 unfold KV at r ⊢
 induction r with
 |nil=>exact .nil
 |@cons p q ps g h t f =>
  rw[Al,Al];refine .cons ?_ f;obtain⟨b,d⟩:=h
  by_cases e:p.1=k
  .rw[if_pos e,if_pos (b.symm.trans e)];exact⟨b,c⟩
  .rw[if_neg e,if_neg (λz=>e (b.trans z))];exact⟨b,d⟩
def KV.put{kvs:List (κ×V)}{vs:List (κ×Value)}(r:KV kvs vs)(k:κ){y:V}{u:Value}(a:Af y u):KV (Hy kvs k y) (stored vs k u):=by
 unfold Hy stored;rw[r.any k]
 by_cases e:(vs.any λb=>decide (b.1=k))=true
 .rw[if_pos e,if_pos e];exact r.repl k a
 .rw[if_neg e,if_neg e];exact Paired.snoc r ⟨rfl,a⟩
def KV.drop{kvs:List (κ×V)}{vs:List (κ×Value)}(r:KV kvs vs)(k:κ):KV (ZM kvs k) (without vs k):=by
 unfold KV at r ⊢;unfold ZM without
 induction r with
 |nil=>exact .nil
 |@cons p q ps g h t d =>
  obtain⟨c,f⟩:=h;rw[ANl,ANl]
  by_cases e:p.1=k
  .have a:¬decide (p.1≠k)=true:=by simp[e]
   have b:¬decide (q.1≠k)=true:=by simp[c.symm.trans e]
   rw[if_neg a,if_neg b];exact d
  .have e':¬q.1=k:=λz=>e (c.trans z);have a:decide (p.1≠k)=true:=by simp[e]
   have b:decide (q.1≠k)=true:=by simp[e']
   rw[if_pos a,if_pos b];exact .cons ⟨c,f⟩ d
def KV.keys{kvs:List (κ×V)}{vs:List (κ×Value)}(r:KV kvs vs):kvs.map (·.1)=vs.map (·.1):=by
 unfold KV at r
 induction r with
 |nil=>rfl
 |cons h t a=>rw[Al,Al,a,h.1]
def KV.length{kvs:List (κ×V)}{vs:List (κ×Value)}(r:KV kvs vs):kvs.length=vs.length:=Paired.length r
end
noncomputable abbrev KT(H:Hp):List (List Key×V)->List (List Key×Addr×Value)->Prop:=Paired λp q=>p.1=q.1/\H q.2.1=some (.tup (p.1.map kV))/\Af p.2 q.2.2
def KT.val{H:Hp}{kvs:List (List Key×V)}{xs:List (List Key×Addr×Value)}(r:KT H kvs xs)(k:List Key):Ft (Fy kvs k) ((atKey xs k).map (·.2)):=by
 induction r with
 |nil=>exact True.intro
 |@cons p q ps a h t d =>
  obtain⟨c,_,f⟩:=h
  by_cases e:p.1=k
  .have e':q.1=k:=c.symm.trans e;have b:atKey (q::a) k=some q.2:=by simp[atKey,Fd,e']
   rw[Ru e,b];exact f
  .have e':¬q.1=k:=λz=>e (c.trans z);have b:atKey (q::a) k=atKey a k:=by simp[atKey,Fd,e']
   rw[Rv e,b];exact d
def KT.repl{H:Hp}{kvs:List (List Key×V)}{xs:List (List Key×Addr×Value)}(r:KT H kvs xs)(k:List Key){y:V}{u:Value}(d:Af y u) :
  KT H (kvs.map λb=>if b.1=k then (b.1,y) else b) (xs.map (putAt k u)):=by
 induction r with
 |nil=>exact .nil
 |@cons p q ps i h t f =>
  rw[Al,Al];refine .cons ?_ f;obtain⟨a,c,g⟩:=h;unfold putAt
  by_cases e:p.1=k
  .rw[if_pos e,if_pos (a.symm.trans e)];exact⟨a,c,d⟩
  .rw[if_neg e,if_neg (λz=>e (a.trans z))];exact⟨a,c,g⟩
def KT.put{H:Hp}{kvs:List (List Key×V)}{xs:List (List Key×Addr×Value)}(r:KT H kvs xs)(k:List Key){b:Addr}{y:V}{u:Value}(c:H b=some (.tup (k.map kV)))(a:Af y u) :
  KT H (Hy kvs k y) (storedH xs k b u):=by
 have e:(kvs.any λd=>decide (d.1=k))=(atKey xs k).isSome:=by rw[Vp,(r.val k).isSome_eq,Option.isSome_map]
 unfold Hy storedH;rw[e]
 by_cases q:(atKey xs k).isSome=true
 .rw[if_pos q,if_pos q];exact r.repl k a
 .rw[if_neg q,if_neg q];exact Paired.snoc r ⟨rfl,c,a⟩
def KT.keeps{H c:Hp}{kvs:List (List Key×V)}{xs:List (List Key×Addr×Value)}(r:KT H kvs xs)(d:∀b a,H b=some (.tup a)->c b=some (.tup a)):KT c kvs xs :=
 Paired.mapP r λ_ _ z=>⟨z.1,d _ _ z.2.1,z.2.2⟩
abbrev PJ(H:Hp)(a:Addr)(y:V)(r:Option V):Prop :=
 (∃kvs k,Rd H a (.dK kvs)/\y=kV k/\r=Fy kvs k)\/∃kvs k b,Rd H a (.dT kvs)/\y=.ref b/\H b=some (.tup (k.map kV))/\r=Fy kvs k
abbrev PH(H:Hp)(a:Addr)(y v:V)(H':Hp):Prop :=
 (∃kvs k,H a=some (.dK kvs)/\y=kV k/\kvs.length<sizeLine/\H'=upd H a (.dK (Hy kvs k v))) \/
 ∃kvs k b,H a=some (.dT kvs)/\y=.ref b/\H b=some (.tup (k.map kV))/\kvs.length<sizeLine/\H'=upd H a (.dT (Hy kvs k v))
def PJ.k{H:Hp}{a:Addr}{kvs:List (Key×V)}{k:Key}(e:H a=some (.dK kvs)):PJ H a (kV k) (Fy kvs k):=.inl ⟨kvs,k,.inl e,rfl,rfl⟩
def PJ.t{H:Hp}{a b:Addr}{kvs:List (List Key×V)}{k:List Key}(e:H a=some (.dT kvs))(c:H b=some (.tup (k.map kV))):PJ H a (.ref b) (Fy kvs k):=.inr ⟨kvs,k,b,.inl e,rfl,c,rfl⟩
def PH.k{H:Hp}{a:Addr}{kvs:List (Key×V)}{k:Key}{v:V}(e:H a=some (.dK kvs))(b:kvs.length<sizeLine):PH H a (kV k) v (upd H a (.dK (Hy kvs k v))):=.inl ⟨kvs,k,e,rfl,b,rfl⟩
def PH.t{H:Hp}{a b:Addr}{kvs:List (List Key×V)}{k:List Key}{v:V}(e:H a=some (.dT kvs))(d:H b=some (.tup (k.map kV)))(c:kvs.length<sizeLine) :
  PH H a (.ref b) v (upd H a (.dT (Hy kvs k v))):=.inr ⟨kvs,k,b,e,rfl,d,c,rfl⟩
section
variable {X:Cx}{pins:List (Addr×Obj)}{Y:St}{H:Hp}{s:Shared}{a:Addr}{y v:V}{u r:Value}{o:Option V}{A:Around}{E:AO0}
def AI.big(I:AI X pins Y H s):sysModules<s.heap.objs.size:=by have h:mainGlobals<s.heap.objs.size:=(I.mod.glob.keeps I.bk).lt;exact Nat.lt_trans (by decide) h
def AHn{h':Heap}{t':Nat}{c:HO}(I:AI X pins Y H s)(f:MC (H a))(h:Heap.SameBut a s.heap h')(g:∃q,h'.get? a=some q)(new:CJ X.prog X.w (upd H a c) h' a c) :
  AI X pins Y (upd H a c) {s with heap:=h',toks:=t'} :=
 I.write (x:=a) (e:=a) f (.inl rfl) (λb q d z=>(h.2 b d).trans z) g new
end
structure M1 (X:Cx) (o:Expr) (m:Str) (apos:Pos) (e:Expr) (cpos:Pos):Prop where
 base:attributeBase o m X.env (eval o X.env)=eval o X.env
 few:((backTo cpos (starEach [e] X.env)).all (λx=>!x.1)&&(backToKw cpos (keywordEach [] X.env)).all (λx=>x.1.isSome)
  && decide (([e]:AOw).length+([]:List Keyword).length+(if ([]:List Keyword).isEmpty then 0 else 1)<30))=true
 line:(apos.endLine == cpos.line)=true
 trees:backTo cpos (starEach [e] X.env)=[(false,eval e X.env)]
structure M2 (X:Cx) (o:Expr) (m:Str) (apos:Pos) (e f:Expr) (cpos:Pos):Prop where
 base:attributeBase o m X.env (eval o X.env)=eval o X.env
 few:((backTo cpos (starEach [e,f] X.env)).all (λx=>!x.1)&&(backToKw cpos (keywordEach [] X.env)).all (λx=>x.1.isSome)
  && decide (([e,f]:AOw).length+([]:List Keyword).length+(if ([]:List Keyword).isEmpty then 0 else 1)<30))=true
 line:(apos.endLine == cpos.line)=true
 trees:backTo cpos (starEach [e,f] X.env)=[(false,eval e X.env),(false,eval f X.env)]
end L2
set_option maxHeartbeats 8000000
namespace L3
open PySem PySem.Spec PyProof.Rows L2
noncomputable abbrev AO1:Str:="Table"
noncomputable abbrev AO2:Str:="Node"
noncomputable abbrev AO3:Str:="ways"
noncomputable abbrev AO4:Str:="groups"
noncomputable abbrev AO5:Str:="nodes"
noncomputable abbrev AO6:Str:="arms"
noncomputable abbrev AO7:Str:="words"
noncomputable abbrev AO8:Str:="table"
noncomputable abbrev AO9:Str:="members"
noncomputable abbrev APA:Str:="node_numbers"
noncomputable abbrev APB:Str:="roots"
noncomputable abbrev APC:Str:="answers"
noncomputable abbrev APD:Str:="_law_cell_here"
noncomputable abbrev APE:Str:="_law_words_here"
noncomputable abbrev APF:Str:="_law_text_here"
noncomputable abbrev APG:Str:="_law_texts"
noncomputable abbrev APH:Str:="_law_row_here"
noncomputable abbrev API:Str:="number"
noncomputable abbrev APJ:Str:="_law_piece_here"
noncomputable abbrev APK:Str:="_law_number"
noncomputable abbrev APL:Str:="_law_draws_here"
noncomputable abbrev APM:Str:="_law_script"
noncomputable abbrev APN:Str:="_law_place_here"
noncomputable abbrev APO:Str:="_law_piece_answer"
noncomputable abbrev APP:Str:="_law_row_answer"
noncomputable abbrev APQ:Str:="_law_row_examples"
noncomputable abbrev APR:Str:="_law_drawn_texts"
noncomputable abbrev APS:Str:="_law_cost_of_row"
inductive D where
 |non|bl (b:Bool)|int (i:Int)|str (x:Str)|tup (xs:List D)|fz (xs:List D)|ref (k:Nat)|ty (n:String)
mutual
def D.beq:D->D->Bool
 |.non,.non=>true
 |.bl a,.bl b=>a == b
 |.int a,.int b=>a == b
 |.str a,.str b=>decide (a=b)
 |.tup a,.tup b=>D.beqL a b
 |.fz a,.fz b=>D.beqL a b
 |.ref a,.ref b=>a == b
 |.ty a,.ty b=>a == b
 |_,_=>false
def D.beqL:List D->List D->Bool
 |[],[]=>true
 |a::as,b::bs=>D.beq a b&&D.beqL as bs
 |_,_=>false
end
mutual
theorem D.beq_refl:∀a:D,D.beq a a=true
 |.non=>rfl
 |.bl b=>(beq_self_eq_true b:(b == b)=true)
 |.int b=>(beq_self_eq_true b:(b == b)=true)
 |.str b=>(decide_eq_true rfl:decide (b=b)=true)
 |.tup xs=>(D.beqL_refl xs:D.beqL xs xs=true)
 |.fz xs=>(D.beqL_refl xs:D.beqL xs xs=true)
 |.ref b=>(beq_self_eq_true b:(b == b)=true)
 |.ty b=>(beq_self_eq_true b:(b == b)=true)
theorem D.beqL_refl:∀a:List D,D.beqL a a=true
 |[]=>rfl
 |a::as=>by show(D.beq a a&&D.beqL as as)=true;rw[D.beq_refl a,D.beqL_refl as];rfl
end
mutual
theorem D.eq_of_beq:∀{a b:D},D.beq a b=true->a=b
 |.non,b,h=>by
  cases b with
  |non=>rfl
  |_=>exact ftF h
 |.bl x,b,h=>by
  cases b with
  |bl y=>rw[LawfulBEq.eq_of_beq (show(x == y)=true from h)]
  |_=>exact ftF h
 |.int x,b,h=>by
  cases b with
  |int y=>rw[LawfulBEq.eq_of_beq (show(x == y)=true from h)]
  |_=>exact ftF h
 |.str x,b,h=>by
  cases b with
  |str y=>rw[of_decide_eq_true (show decide (x=y)=true from h)]
  |_=>exact ftF h
 |.tup xs,b,h=>by
  cases b with
  |tup ys=>rw[D.eq_of_beqL (show D.beqL xs ys=true from h)]
  |_=>exact ftF h
 |.fz xs,b,h=>by
  cases b with
  |fz ys=>rw[D.eq_of_beqL (show D.beqL xs ys=true from h)]
  |_=>exact ftF h
 |.ref x,b,h=>by
  cases b with
  |ref y=>rw[LawfulBEq.eq_of_beq (show(x == y)=true from h)]
  |_=>exact ftF h
 |.ty x,b,h=>by
  cases b with
  |ty y=>rw[LawfulBEq.eq_of_beq (show(x == y)=true from h)]
  |_=>exact ftF h
theorem D.eq_of_beqL:∀{a b:List D},D.beqL a b=true->a=b
 |[],b,h=>by
  cases b with
  |nil=>rfl
  |cons _ _=>exact ftF h
 |a::as,b,h=>by
  cases b with
  |nil=>exact ftF h
  |cons b bs =>
   have h:(D.beq a b&&D.beqL as bs)=true:=h;rw[Bs] at h;rw[D.eq_of_beq h.1,D.eq_of_beqL h.2]
end
noncomputable instance:DecidableEq D:=λa b=>if h:D.beq a b=true then .isTrue (D.eq_of_beq h) else .isFalse λe=>h (by rw[e];exact D.beq_refl b)
inductive Ob where
 |lst (xs:List D)|dk (kvs:List (Key×D))|dt (kvs:List (NK×D)) (ep:Nat)|ins (c:Str) (fs:List (Str×D))|exn (c:Str)
deriving DecidableEq
noncomputable abbrev AB:=List Ob
noncomputable abbrev APT:=D->AB->Prop
noncomputable abbrev Fm:=List (Option D)
abbrev SqF(K:AL)(H:Hp)(a:Addr)(xs:List V):Prop :=
 (∃o,H a=some (.frz o (.lst xs))) \/
  ∃(o:Obj) (its:Array Value) (n:Nat),K.lookup a=some o/\o.cls=.type "list"/\o.dict=none/\o.data=.seq its n/\its.size<=sizeLine/\Ae xs its.toList
def SqF.sql{K:AL}{H:Hp}{a:Addr}{xs:List V}(h:SqF K H a xs):BJ K H a xs:=by
 rcases h with h|h
 .exact .inl (.inr h)
 .exact .inr h
mutual
inductive Is (K:AL) (H:Hp) (O:AOv):V->D->Prop
 |non:Is K H O .non .non
 |bl (b:Bool):Is K H O (.bl b) (.bl b)
 |int (i:Int):Is K H O (.int i) (.int i)
 |str (x:Str):x.length<=16777216->Is K H O (.str x) (.str x)
 |tup {a:Addr} {vs:List V} {ds:List D}:Be K H a vs->AT K H O vs ds->Is K H O (.ref a) (.tup ds)
 |fz {a:Addr} {vs:List V} {ds:List D}:SqF K H a vs->AT K H O vs ds->Is K H O (.ref a) (.fz ds)
 |ref {k:Nat} {a:Addr}:O[k]?=some a->Is K H O (.ref a) (.ref k)
 |ty (n:String):Is K H O (.ty n) (.ty n)
inductive AT (K:AL) (H:Hp) (O:AOv):List V->List D->Prop
 |nil:AT K H O [] []
 |cons {v:V} {d:D} {vs:List V} {ds:List D}:Is K H O v d->AT K H O vs ds->AT K H O (v::vs) (d::ds)
end
def ns_E{U:Type _}{a:U}{P:Prop}(h:none=some a):P:=by cases h
def AKB{U:Type _}{a:U}{P:Prop}(h:some a=none):P:=by cases h
def AL4{P:Prop}(h:false=true):P:=by cases h
def AJ6{P:Prop}(h:true=false):P:=by cases h
def Wa{U:Type _}{a c:U}(h:some a=some c):c=a:=(Option.some.inj h).symm
def ACr{U β:Type _}{a c:U}{b d:β}(h:some (a,b)=some (c,d)):c=a:=congrArg Prod.fst (Wa h)
def WZ{U β:Type _}{a c:U}{b d:β}(h:some (a,b)=some (c,d)):d=b:=congrArg Prod.snd (Wa h)
def bI{U β:Type _}{o:Option U}{g:U->Option β}{r:β}{P:Prop}(e:o.bind g=some r)(k:∀p,o=some p->g p=some r->P):P:=by
 cases o with
 |none=>exact ns_E e
 |some p=>exact k p rfl e
section
variable {K:AL}{H:Hp}{O:AOv}{v:V}{d:D}
abbrev IsR(K:AL)(H:Hp)(O:AOv)(v:V):D->Prop
 |.non=>v=.non
 |.bl b=>v=.bl b
 |.int i=>v=.int i
 |.str x=>v=.str x/\x.length<=16777216
 |.tup ds=>∃a vs,v=.ref a/\Be K H a vs/\AT K H O vs ds
 |.fz ds=>∃a vs,v=.ref a/\SqF K H a vs/\AT K H O vs ds
 |.ref k=>∃a,v=.ref a/\O[k]?=some a
 |.ty n=>v=.ty n
def Is.inv(h:Is K H O v d):IsR K H O v d:=by
 cases h with
 |tup a b=>exact⟨_,_,rfl,a,b⟩
 |fz a b=>exact⟨_,_,rfl,a,b⟩
 |ref a=>exact⟨_,rfl,a⟩
 |str _ a=>exact⟨rfl,a⟩
 |_=>exact rfl
def ALG(h:Is K H O v .non):v=.non:=h.inv
def ALJ{b:Bool}(h:Is K H O v (.bl b)):v=.bl b:=h.inv
def ALI{b:Int}(h:Is K H O v (.int b)):v=.int b:=h.inv
def ALE{b:String}(h:Is K H O v (.ty b)):v=.ty b:=h.inv
def ALF{x:Str}(h:Is K H O v (.str x)):v=.str x/\x.length<=16777216:=h.inv
abbrev AI3(K:AL)(H:Hp)(O:AOv)(vs:List V):List D->Prop
 |[]=>vs=[]
 |d::ds=>∃v ws,vs=v::ws/\Is K H O v d/\AT K H O ws ds
def AT.inv{vs:List V}{ds:List D}(h:AT K H O vs ds):AI3 K H O vs ds:=by
 cases h with
 |nil=>exact rfl
 |cons a b=>exact⟨_,_,rfl,a,b⟩
def ALH{vs:List V}(h:AT K H O vs []):vs=[]:=h.inv
end
abbrev UP:HO->Prop
 |.tup _=>True
 |.frz _ _=>True
 |_=>False
abbrev FG(H H':Hp):Prop:=∀a o,H a=some o->UP o->H' a=some o
abbrev An(H:Hp)(O:AOv)(H':Hp)(O':AOv):Prop:=FG H H'/\O <+: O'
def FG.refl(H:Hp):FG H H:=λ_ _ h _=>h
def FG.trans{H e d:Hp}(a:FG H e)(b:FG e d):FG H d:=λc o h f=>b c o (a c o h f) f
def An.refl(H:Hp)(O:AOv):An H O H O:=⟨.refl H,AV O⟩
def An.trans{H f e:Hp}{O c d:AOv}(a:An H O f c)(b:An f c e d):An H O e d:=⟨a.1.trans b.1,a.2.trans b.2⟩
def FG.ext{H b:Hp}(h:∀a o,H a=some o->b a=some o):FG H b:=λa o e _=>h a o e
def FG.new{H:Hp}{p:Addr}{o:HO}(h:H p=none):FG H (upd H p o):=.ext λa u e=>by rw[BX (Df e h)];exact e
def FG.write{H:Hp}{p:Addr}{o u:HO}(h:H p=some u)(n:¬UP u):FG H (upd H p o):=λa x e f=>by
 by_cases z:a=p
 .subst z;rw[h] at e;cases e;exact absurd f n
 .rw[BX z];exact e
section
variable {K:AL}{H H':Hp}{O O':AOv}
def Be.grow{a:Addr}{xs:List V}(g:FG H H')(h:Be K H a xs):Be K H' a xs:=by
 rcases h with(h|⟨o,h⟩)|h
 .exact .inl (.inl (g _ _ h True.intro))
 .exact .inl (.inr ⟨o,g _ _ h True.intro⟩)
 .exact .inr h
def SqF.grow{a:Addr}{xs:List V}(g:FG H H')(h:SqF K H a xs):SqF K H' a xs:=by
 rcases h with⟨o,h⟩|h
 .exact .inl ⟨o,g _ _ h True.intro⟩
 .exact .inr h
def AFe{U:Type}{N:List U}(g:N.Nodup){i j:Nat}{x:U}(a:N[i]?=some x)(b:N[j]?=some x):i=j:=by
 obtain⟨d,f⟩:=Ax.mp a;obtain⟨e,c⟩:=Ax.mp b;have p:=List.pairwise_iff_getElem.mp g;rcases Nat.lt_trichotomy i j with h|h|h
 .exact absurd (f.trans c.symm) (p i j d e h)
 .exact h
 .exact absurd (c.trans f.symm) (p j i e d h)
def CP{U:Type}{O O':List U}(h:O <+: O'){k:Nat}{a:U}(e:O[k]?=some a):O'[k]?=some a:=by obtain⟨t,rfl⟩:=h;rw[FK (Ax.mp e).1];exact e
def Is.mono(st:An H O H' O'){v:V}{d:D}(h:Is K H O v d):Is K H' O' v d :=
 Is.rec (motive_1:=λv d _=>Is K H' O' v d) (motive_2:=λv d _=>AT K H' O' v d) .non .bl .int .str (λh _ r=>.tup (Be.grow st.1 h) r) (λh _ r=>.fz (SqF.grow st.1 h) r) (λh=>.ref (CP st.2 h)) .ty .nil (λ_ _ a b=>.cons a b) h
def AT.mono(st:An H O H' O'){v:List V}{d:List D}(h:AT K H O v d):AT K H' O' v d :=
 AT.rec (motive_1:=λv d _=>Is K H' O' v d) (motive_2:=λv d _=>AT K H' O' v d) .non .bl .int .str (λh _ r=>.tup (Be.grow st.1 h) r) (λh _ r=>.fz (SqF.grow st.1 h) r) (λh=>.ref (CP st.2 h)) .ty .nil (λ_ _ a b=>.cons a b) h
def AT.length{vs:List V}{ds:List D}(h:AT K H O vs ds):vs.length=ds.length :=
 AT.rec (motive_1:=λ_ _ _=>True) (motive_2:=λvs ds _=>vs.length=ds.length) ⟨⟩ (λ_=>⟨⟩) (λ_=>⟨⟩) (λ_ _=>⟨⟩) (λ_ _ _=>⟨⟩) (λ_ _ _=>⟨⟩) (λ_=>⟨⟩) (λ_=>⟨⟩) rfl (λ_ _ _ b=>congrArg (·+1) b) h
def AT.get{vs:List V}{ds:List D}{i:Nat}{d:D}(h:AT K H O vs ds)(e:ds[i]?=some d):∃v,vs[i]?=some v/\Is K H O v d:=by
 induction ds generalizing vs i with
 |nil=>simp at e
 |cons x ds c =>
  cases h with|cons a b =>
  cases i with
  |zero=>cases e;exact⟨_,rfl,a⟩
  |succ i=>have q:=c (i:=i) b e;exact q
def AT.append{vs ws:List V}{ds es:List D}(h:AT K H O vs ds)(b:AT K H O ws es):AT K H O (vs++ws) (ds++es):=by
 induction ds generalizing vs with
 |nil=>cases h;exact b
 |cons x ds d=>cases h with|cons a c=>exact .cons a (d c)
def AT.take{vs:List V}{ds:List D}(n:Nat)(h:AT K H O vs ds):AT K H O (vs.take n) (ds.take n):=by
 induction ds generalizing vs n with
 |nil=>cases h;cases n <;> exact .nil
 |cons x ds b =>
  cases h with|cons a c =>
  cases n with
  |zero=>exact .nil
  |succ n=>exact .cons a (b n c)
def AT.drop{vs:List V}{ds:List D}(n:Nat)(h:AT K H O vs ds):AT K H O (vs.drop n) (ds.drop n):=by
 induction ds generalizing vs n with
 |nil=>cases h;cases n <;> exact .nil
 |cons x ds b =>
  cases n with
  |zero=>exact h
  |succ n=>cases h with|cons a c=>exact b n c
def AT.set{v:V}{d:D}(r:Is K H O v d){vs:List V}{ds:List D}(i:Nat)(h:AT K H O vs ds):AT K H O (vs.set i v) (ds.set i d):=by
 induction ds generalizing vs i with
 |nil=>cases h;cases i <;> exact .nil
 |cons x ds b =>
  cases h with|cons a c =>
  cases i with
  |zero=>exact .cons r c
  |succ i=>exact .cons a (b i c)
def AT.one{v:V}{ds:List D}(h:AT K H O [v] ds):∃d,ds=[d]/\Is K H O v d:=by cases h with|cons a b=>cases b;exact⟨_,rfl,a⟩
abbrev keyD:Key->D
 |.inl i=>.int i
 |.inr x=>.str x
abbrev Ih:Key ⊕ List Key->D
 |.inl k=>keyD k
 |.inr ks=>.tup (ks.map keyD)
abbrev EG(k:NK):D:=.tup (k.map Ih)
abbrev Fv(K:AL)(c:Str)(C:Addr):Prop:=CS K mainGlobals c=some (some (.ref C))
abbrev Gu(K:AL)(H:Hp)(O:AOv)(a:Addr):Ob->Prop
 |.exn c=>∃C:Addr,Fv K c C/\H a=some (.ext λh=>∃o,h.get? a=some o/\o.cls=.ref C)
 |.ins c fs=>∃(C dx:Addr) (us:List (Str×V)),Fv K c C/\H a=some (.ins C dx us)/\us.map (·.1)=fs.map (·.1)/\AT K H O (us.map (·.2)) (fs.map (·.2))
 |.lst ds=>∃vs,H a=some (.lst vs)/\AT K H O vs ds
 |.dk kvs=>∃us:List (Key×V),H a=some (.dK us)/\us.map (·.1)=kvs.map (·.1)/\AT K H O (us.map (·.2)) (kvs.map (·.2))
 |.dt kvs ep=>∃us:List (NK×Addr×V),H a=some (.dN us ep)/\us.map (·.1)=kvs.map (·.1)/\AT K H O (us.map (·.2.2)) (kvs.map (·.2))/\∀u∈us,Is K H O (.ref u.2.1) (EG u.1)
structure Aq (K:AL) (H:Hp) (O:AOv) (L:AB):Prop where
 len:O.length=L.length
 nd:O.Nodup
 ob:∀(k:Nat) (a:Addr) (o:Ob),O[k]?=some a->L[k]?=some o->Gu K H O a o
def Gu.ho{a:Addr}{o:Ob}(h:Gu K H O a o):∃u,H a=some u/\¬UP u:=by
 cases o with
 |lst b=>obtain⟨d,e,_⟩:=h;exact⟨_,e,id⟩
 |dk b=>obtain⟨d,e,_⟩:=h;exact⟨_,e,id⟩
 |dt b f=>obtain⟨d,e,_⟩:=h;exact⟨_,e,id⟩
 |ins c fs=>obtain⟨C,g,i,_,e,_⟩:=h;exact⟨_,e,id⟩
 |exn c=>obtain⟨C,_,e⟩:=h;exact⟨_,e,id⟩
def Gu.move{a:Addr}{o:Ob}(h:Gu K H O a o)(st:An H O H' O')(e:H' a=H a):Gu K H' O' a o:=by
 cases o with
 |lst g=>obtain⟨d,q,r⟩:=h;exact⟨d,by rw[e];exact q,r.mono st⟩
 |dk g=>obtain⟨d,q,b,f⟩:=h;exact⟨d,by rw[e];exact q,b,f.mono st⟩
 |dt g m=>obtain⟨d,q,b,f,l⟩:=h;exact⟨d,by rw[e];exact q,b,f.mono st,λu i=>(l u i).mono st⟩
 |ins c fs=>obtain⟨C,j,k,z,q,b,f⟩:=h;exact⟨C,j,k,z,by rw[e];exact q,b,f.mono st⟩
 |exn c=>obtain⟨C,z,q⟩:=h;exact⟨C,z,by rw[e];exact q⟩
def Aq.has{L:AB}(r:Aq K H O L){k:Nat}{a:Addr}(e:O[k]?=some a):∃o,L[k]?=some o/\Gu K H O a o:=by
 have h:k<L.length:=by rw[<-r.len];exact(Ax.mp e).1
 exact⟨L[k],by simp[h],r.ob k a _ e (by simp[h])⟩
def Aq.at{L:AB}(r:Aq K H O L){k:Nat}{o:Ob}(e:L[k]?=some o):∃a,O[k]?=some a/\Gu K H O a o:=by
 have h:k<O.length:=by rw[r.len];exact(Ax.mp e).1
 exact⟨O[k],by simp[h],r.ob k _ o (by simp[h]) e⟩
def Aq.ext{L:AB}(r:Aq K H O L)(k:∀a o,H a=some o->H' a=some o):Aq K H' O L :=
 ⟨r.len,r.nd,λj a o d c=>by
  have q:=r.ob j a o d c;obtain⟨u,b,_⟩:=q.ho
  exact q.move ⟨.ext k,AV _⟩ (by rw[b];exact k a u b)⟩
def Aq.new{L:AB}{p:Addr}{u:HO}{o:Ob}(r:Aq K H O L)(i:H p=none)(n:Gu K (upd H p u) (O++[p]) p o):Aq K (upd H p u) (O++[p]) (L++[o]):=by
 have g:p∉O:=λg=>by
  obtain⟨k,j,e⟩:=AN3 g;obtain⟨l,_,q⟩:=r.has (k:=k) (a:=p) (by rw[<-e];simp[j]);obtain⟨t,f,_⟩:=q.ho;rw[i] at f;cases f
 refine⟨by simp[r.len],by rw[Gz];exact⟨r.nd,by simp,λa s b m=>by simp at m;subst m;rintro rfl;exact g s⟩,λk a l d c=>?_⟩
 by_cases h:k<O.length
 .rw[FK h] at d;rw[FK (by rw[<-r.len];exact h)] at c;have q:=r.ob k a l d c;obtain⟨t,f,_⟩:=q.ho;exact q.move ⟨.new i,Ac _ _⟩ (by rw[BX (Df f i)])
 .have j:k=O.length:=by
   have:=(Ax.mp d).1;simp at this;omega
  subst j;rw[ANI (Ag _)] at d;rw[ANI (by rw[r.len];exact Ag _)] at c;simp at d;rw[r.len] at c;simp at c;subst d c;exact n
def Aq.write{L:AB}{k:Nat}{a:Addr}{u:HO}{o':Ob}(r:Aq K H O L)(e:O[k]?=some a)(n:Gu K (upd H a u) O a o'):Aq K (upd H a u) O (L.set k o'):=by
 obtain⟨o,i,q⟩:=r.has e;obtain⟨s,f,p⟩:=q.ho;refine⟨by simp[r.len],r.nd,λj b l c d=>?_⟩
 by_cases h:j=k
 .subst h;rw[e] at c;cases c;rw[ANe (Ax.mp i).1] at d;cases d;exact n
 .rw[ER (Ne.symm h)] at d;have g:=r.ob j b l c d
  have m:b≠a:=λz=>by
   subst z;exact h (AFe r.nd c e)
  exact g.move ⟨.write f p,AV _⟩ (by rw[BX m])
end
structure Hs (K:AL) (H:Hp) (O:AOv) (Y:L2.St) (Z:Fm):Prop where
 len:Y.length=Z.length
 at':∀(i:Nat) (d:D),Z[i]?=some (some d)->∃v,Y[i]?=some (some v)/\Is K H O v d
structure Rep (K:AL) (H:Hp) (O:AOv) (Y:L2.St) (Z:Fm) (L:AB):Prop where
 s:Aq K H O L
 f:Hs K H O Y Z
def Hs.mono{K:AL}{H f:Hp}{O c:AOv}{Y:L2.St}{Z:Fm}(st:An H O f c)(h:Hs K H O Y Z):Hs K f c Y Z :=
 ⟨h.len,λi d e=>let ⟨v,a,b⟩:=h.at' i d e;⟨v,a,b.mono st⟩⟩
def Hs.set{K:AL}{H:Hp}{O:AOv}{Y:L2.St}{Z:Fm}{v:V}{d:D}(h:Hs K H O Y Z)(r:Is K H O v d)(i:Nat):Hs K H O (Y.set i (some v)) (Z.set i (some d)):=by
 refine⟨by simp[h.len],λj e q=>?_⟩
 by_cases z:j=i
 .subst z
  have c:j<Z.length:=by have:=(Ax.mp q).1;simpa using this
  rw[ANe c] at q;cases q;exact⟨v,by rw[ANe (by rw[h.len];exact c)],r⟩
 .rw[ER (Ne.symm z)] at q;obtain⟨f,a,b⟩:=h.at' j e q;exact⟨f,by rw[ER (Ne.symm z)];exact a,b⟩
end L3
local macro_rules | `(tactic| cases $x:ident) => do let p ← `(rcasesPat| $(Lean.mkIdent `rfl):ident); let g := fun (s : String) f t => (s.splitOn " ").foldrM (fun n t => do let a ← f (Lean.mkCIdent (.str `L3 n)); `(tactic| first | $a:tactic | $t:tactic)) t; g "ns_E AKB AL4 AJ6" (fun c => `(tactic| exact $c $x)) (← g "Wa" (fun c => `(tactic| (obtain $p:rcasesPat := $c $x; clear $x))) (← g "ACr" (fun c => `(tactic| (obtain $p:rcasesPat := $c $x; obtain $p:rcasesPat := L3.WZ $x; clear $x))) (← g "ALJ ALI ALG ALH ALE" (fun c => `(tactic| (obtain $p:rcasesPat := $c $x; clear $x))) (← g "ALF" (fun c => `(tactic| (obtain ⟨$p, _⟩ := $c $x; clear $x))) (← `(tactic| cases ($x)))))))
namespace L3
open PySem PySem.Spec PyProof.Rows L2
noncomputable abbrev EF:=Fm->AB->Option (D×AB)
noncomputable abbrev TF:=Fm->AB->Option (Bool×AB)
noncomputable abbrev AF:=Fm->AB->Option (List D×AB)
noncomputable abbrev G1:=D->AB->Option (D×AB)
noncomputable abbrev G2:=D->D->AB->Option (D×AB)
noncomputable abbrev GL:=List D->AB->Option (D×AB)
inductive lift (K:AL) (f:EF) (Y:L2.St) (H:Hp) (Q:VK):Prop
 |mk (O Z L d L') (r:Rep K H O Y Z L) (e:f Z L=some (d,L')) (k:∀v H' O',An H O H' O'->Aq K H' O' L'->Is K H' O' v d->Q v H'):lift K f Y H Q
inductive liftT (K:AL) (f:TF) (Y:L2.St) (H:Hp) (Q:Bool->Hp->Prop):Prop
 |mk (O Z L b L') (r:Rep K H O Y Z L) (e:f Z L=some (b,L')) (k:∀H' O',An H O H' O'->Aq K H' O' L'->Q b H'):liftT K f Y H Q
inductive liftA (K:AL) (f:AF) (Y:L2.St) (H:Hp) (Q:List V->Hp->Prop):Prop
 |mk (O Z L ds L') (r:Rep K H O Y Z L) (e:f Z L=some (ds,L')) (k:∀vs H' O',An H O H' O'->Aq K H' O' L'->AT K H' O' vs ds->Q vs H'):liftA K f Y H Q
abbrev Ab(X:Cx)(e:Expr)(f:EF):Prop:=PE X e (lift X.K f)
abbrev FE(X:Cx)(e:Expr)(f:TF):Prop:=PT X e (liftT X.K f)
abbrev IS(X:Cx)(e:Expr)(f:TF):Prop:=PW X e (liftT X.K f)
abbrev Ec(X:Cx)(es:AOw)(f:AF):Prop:=PA X es (liftA X.K f)
def PE.weaken{X:Cx}{e:Expr}{t t':TE}(h:PE X e t)(i:∀Y H Q,t' Y H Q->t Y H Q):PE X e t':=λa s Y H Q I q=>h a s Y H Q I (i Y H Q q)
def PT.weaken{X:Cx}{e:Expr}{t t':TT}(h:PT X e t)(i:∀Y H Q,t' Y H Q->t Y H Q):PT X e t':=λa s Y H Q I q=>h a s Y H Q I (i Y H Q q)
def PW.weaken{X:Cx}{e:Expr}{t t':TT}(h:PW X e t)(i:∀Y H Q,t' Y H Q->t Y H Q):PW X e t':=λw a s Y H Q I q=>h w a s Y H Q I (i Y H Q q)
def PA.weaken{X:Cx}{e:AOw}{t t':TA}(h:PA X e t)(i:∀Y H Q,t' Y H Q->t Y H Q):PA X e t':=λp a s Y H Q I q=>h p a s Y H Q I (i Y H Q q)
def Rep.to{K:AL}{H b:Hp}{O a:AOv}{Y:L2.St}{Z:Fm}{L L':AB}(r:Rep K H O Y Z L)(st:An H O b a)(c:Aq K b a L'):Rep K b a Y Z L':=⟨c,r.f.mono st⟩
abbrev AD(d:D):EF:=λ_ L=>some (d,L)
abbrev AA(i:Nat):EF:=λZ L=>match Z[i]? with|some (some d)=>some (d,L)|_=>none
abbrev AE(g:G2)(fa fb:EF):EF:=λZ L=>(fa Z L).bind λx=>(fb Z x.2).bind λy=>g x.1 y.1 y.2
abbrev BG(g:G1)(fa:EF):EF:=λZ L=>(fa Z L).bind λx=>g x.1 x.2
section
variable {X:Cx}{a b c:Expr}{fa fb fc:EF}{pos:Pos}
def Ji{v:V}{d:D}(h:PE X a (tC v))(i:∀H O,Is X.K H O v d):Ab X a (AD d) :=
 PE.weaken h λY H Q b=>by
  obtain⟨O,Z,L,c,f,r,e,k⟩:=b;cases e;exact k _ _ _ (.refl _ _) r.s (i _ _)
def AML{i:Int}{j:Nat}{pos:Pos}:Ab X (.Constant (.int i) j pos) (AD (.int i)):=Ji AEn λ_ _=>.int _
def AMY{i:Bool}{j:Nat}{pos:Pos}:Ab X (.Constant (.bool i) j pos) (AD (.bl i)):=Ji AEz λ_ _=>.bl _
def AMG{j:Nat}{pos:Pos}:Ab X (.Constant .none j pos) (AD .non):=Ji AEj λ_ _=>.non
def AMA{x:Str}{j:Nat}{pos:Pos}(h:x.length<=16777216:=by decide):Ab X (.Constant (.str x) j pos) (AD (.str x)):=Ji AEd λ_ _=>.str _ h
def AHd{i:Nat}(h:PE X a (SA i)):Ab X a (AA i) :=
 PE.weaken h λY H Q b=>by
  obtain⟨O,Z,L,g,j,r,e,k⟩:=b;unfold AA at e;split at e
  .rename_i d hd;cases e;obtain⟨v,c,is⟩:=r.f.at' i _ hd;exact⟨v,c,k _ _ _ (.refl _ _) r.s is⟩
  .cases e
inductive rD (K:AL) (g:G2) (v u:V) (H:Hp) (Q:VK):Prop
 |mk (O L x y d L') (r:Aq K H O L) (i:Is K H O v x) (j:Is K H O u y) (e:g x y L=some (d,L')) (k:∀w H' O',An H O H' O'->Aq K H' O' L'->Is K H' O' w d->Q w H'):rD K g v u H Q
inductive rC (K:AL) (g:GL) (vs:List V) (H:Hp) (Q:VK):Prop
 |mk (O L xs d L') (r:Aq K H O L) (i:AT K H O vs xs) (e:g xs L=some (d,L')) (k:∀w H' O',An H O H' O'->Aq K H' O' L'->Is K H' O' w d->Q w H'):rC K g vs H Q
abbrev Ck(X:Cx)(f:Value->Value->Sem Value)(g:G2):Prop:=Aw X f (rD X.K g)
abbrev Ee(X:Cx)(f:Value)(g:GL):Prop:=CD X f (rC X.K g)
abbrev PD(X:Cx)(g:G2):Prop:=Fa X (rD X.K g)
def Aw.weaken{f:Value->Value->Sem Value}{r b:R2}(h:Aw X f r)(i:∀x y H Q,b x y H Q->r x y H Q):Aw X f b :=
 λa s Y H x y v u Q I d c q=>h a s Y H x y v u Q I d c (i _ _ _ _ q)
def Fa.weaken{r d:R2}(h:Fa X r)(i:∀x y H Q,d x y H Q->r x y H Q):Fa X d :=
 λa b c s Y H x y v u Q I f e q=>h a b c s Y H x y v u Q I f e (i _ _ _ _ q)
def CD.weaken{f:Value}{r c:List V->Hp->VK->Prop}(h:CD X f r)(i:∀b H Q,c b H Q->r b H Q):CD X f c :=
 λa s Y H b e Q I d q=>h a s Y H b e Q I d (i _ _ _ q)
def two_lift{K:AL}{g:G2}{Y:L2.St}{H:Hp}{Q:VK}(h:lift K (AE g fa fb) Y H Q):Kz (rD K g) (lift K fa) (lift K fb) Y H Q:=by obtain⟨O,Z,L,d,z,r,e,k⟩:=h;refine bI e λp o e=>?_;refine bI e λq m e=>?_;refine⟨O,Z,L,p.1,p.2,r,o,λv H1 s b c i=>?_⟩;refine⟨s,Z,p.2,q.1,q.2,r.to b c,m,λu H2 t a j f=>?_⟩;exact⟨t,q.2,p.1,q.1,d,z,j,i.mono a,f,e,λw y l x n is=>k w y l ((b.trans a).trans x) n is⟩
def AMD{c:Operator}{g:G2}(ho:Ck X (binaryOp c) g)(d:Ab X a fa)(e:Ab X b fb):Ab X (.BinOp a c b pos) (AE g fa fb) :=
 PE.weaken (AEg ho d e) λ_ _ _ h=>two_lift h
def AMR{c:CmpOp}{g:G2}(ho:Ck X (compareOp c) g)(d:Ab X a fa)(e:Ab X b fb)(f:behindInMarks c b=false):Ab X (.Compare a [c] [b] pos) (AE g fa fb) :=
 PE.weaken (AEr ho d e f) λ_ _ _ h=>two_lift h
def AHe{g:G2}(ho:PD X g)(c:Ab X a fa)(d:Ab X b fb)(e:UF b):Ab X (.Subscript a b pos) (AE g fa fb) :=
 PE.weaken (AEm ho c d e) λ_ _ _ h=>two_lift h
abbrev AS(f:EF):TF:=λZ L=>(f Z L).bind λx=>match x.1 with|.bl b=>some (b,x.2)|_=>none
def Tu{K:AL}{f:EF}{Y:L2.St}{H:Hp}{Q:Bool->Hp->Prop}(h:liftT K (AS f) Y H Q):lift K f Y H λx a=>∃k,x=.bl k/\Q k a:=by
 obtain⟨O,Z,L,b,m,r,e,k⟩:=h;refine bI e λp i e=>?_;obtain⟨d,l⟩:=p
 cases d <;> simp only[AX] at e <;> try (cases e;done)
 cases e;refine⟨O,Z,L,_,_,r,i,λv a c j g is=>?_⟩;cases is;exact⟨_,rfl,k a c j g⟩
def AJ4{c:CmpOp}{g:G2}(ho:Ck X (compareOp c) g)(e:Ab X a fa)(d:Ab X b fb)(f:behindInMarks c b=false):FE X (.Compare a [c] [b] pos) (AS (AE g fa fb)) :=
 PT.weaken (ADs ho e d f) λY H Q h=>by
  have q:=Tu h;exact two_lift q
def AJ2(c:Ab X a fa)(d:∀b,isTrue a X.env b=(do let v <-b;standAt a.pos;holding [v] (truthy v)):=by intro _;rfl):FE X a (AS fa) :=
 PT.weaken (ADq c d) λY H Q h=>Tu h
abbrev Da(f:TF):TF:=λZ L=>(f Z L).bind λx=>some (!x.1,x.2)
abbrev IR(f g:TF):TF:=λZ L=>(f Z L).bind λx=>if x.1=true then g Z x.2 else some (false,x.2)
abbrev DI(f g:TF):TF:=λZ L=>(f Z L).bind λx=>if x.1=true then some (true,x.2) else g Z x.2
def AJ3{f:TF}(h:FE X a f):FE X (.UnaryOp .Not a pos) (Da f) :=
 PT.weaken (ADr h) λY H Q c=>by
  obtain⟨O,Z,L,b,m,r,e,k⟩:=c;refine bI e λp i e=>?_;cases e;exact⟨O,Z,L,p.1,p.2,r,i,λl d j g=>k l d j g⟩
def AJd{f:TF}(b:FE X a f):IS X (.BoolOp .And [a] pos) f:=ADi b
def AJc{f:TF}(b:FE X a f):IS X (.BoolOp .Or [a] pos) f:=ADg b
def AJe{f g:TF}{rest:AOw}(s:FE X a f)(u:IS X (.BoolOp .And (b::rest) pos) g):IS X (.BoolOp .And (a::b::rest) pos) (IR f g) :=
 PW.weaken (ADj s u) λY H Q d=>by
  obtain⟨O,Z,L,c,x,r,e,k⟩:=d;refine bI e λp t e=>?_;obtain⟨m,n⟩:=p;refine⟨O,Z,L,m,n,r,t,λv o h l=>?_⟩
  cases m with
  |true =>
   refine iteT ⟨o,Z,n,c,x,r.to h l,by simpa using e,λw q j i=>k w q (h.trans j) i⟩
  |false =>
   simp at e;obtain⟨rfl,rfl⟩:=e;exact iteF (k v o h l)
def AJb{f g:TF}{rest:AOw}(s:FE X a f)(u:IS X (.BoolOp .Or (b::rest) pos) g):IS X (.BoolOp .Or (a::b::rest) pos) (DI f g) :=
 PW.weaken (ADh s u) λY H Q d=>by
  obtain⟨O,Z,L,c,x,r,e,k⟩:=d;refine bI e λp t e=>?_;obtain⟨m,n⟩:=p;refine⟨O,Z,L,m,n,r,t,λv o h l=>?_⟩
  cases m with
  |true =>
   simp at e;obtain⟨rfl,rfl⟩:=e;exact iteT (k v o h l)
  |false =>
   refine iteF ⟨o,Z,n,c,x,r.to h l,by simpa using e,λw q j i=>k w q (h.trans j) i⟩
def AJ1{f:TF}(h:IS X a f):FE X a f:=PW.pt h
abbrev Ep(f g:EF):EF:=λZ L=>(f Z L).bind λx=>match x.1 with|.bl true=>g Z x.2|.bl false=>some (.bl false,x.2)|_=>none
abbrev LM(f g:EF):EF:=λZ L=>(f Z L).bind λx=>match x.1 with|.bl true=>some (.bl true,x.2)|.bl false=>g Z x.2|_=>none
abbrev LN(f:EF):EF:=λZ L=>(f Z L).bind λx=>match x.1 with|.bl b=>some (.bl (!b),x.2)|_=>none
def AME{b:BoolOp}{f:EF}(h:Ab X a f):Ab X (.BoolOp b [a] pos) f:=AEh h
def AMZ{f g:EF}{rest:AOw}(u:Ab X a f)(x:Ab X (.BoolOp .And (b::rest) pos) g):Ab X (.BoolOp .And (a::b::rest) pos) (Ep f g) :=
 PE.weaken (AE0 u x) λY H Q i=>by
  obtain⟨O,Z,L,c,L',r,e,k⟩:=i;refine bI e λp w e=>?_;obtain⟨d,q⟩:=p;refine⟨O,Z,L,d,q,r,w,λv y s j n is=>?_⟩
  cases d <;> simp only[AX] at e <;> try (cases e;done)
  rename_i o;cases is;refine⟨o,rfl,?_⟩
  cases o with
  |true=>exact iteT ⟨s,Z,q,c,L',r.to j n,by simpa using e,λv z t m l h=>k v z t (j.trans m) l h⟩
  |false =>
   simp at e;obtain⟨rfl,rfl⟩:=e;exact iteF (k _ y s j n (.bl _))
def AMC{f g:EF}{rest:AOw}(u:Ab X a f)(x:Ab X (.BoolOp .Or (b::rest) pos) g):Ab X (.BoolOp .Or (a::b::rest) pos) (LM f g) :=
 PE.weaken (AEf u x) λY H Q i=>by
  obtain⟨O,Z,L,c,L',r,e,k⟩:=i;refine bI e λp w e=>?_;obtain⟨d,q⟩:=p;refine⟨O,Z,L,d,q,r,w,λv y s j n is=>?_⟩
  cases d <;> simp only[AX] at e <;> try (cases e;done)
  rename_i o;cases is;refine⟨o,rfl,?_⟩
  cases o with
  |false=>exact iteF ⟨s,Z,q,c,L',r.to j n,by simpa using e,λv z t m l h=>k v z t (j.trans m) l h⟩
  |true =>
   simp at e;obtain⟨rfl,rfl⟩:=e;exact iteT (k _ y s j n (.bl _))
def AMF{f:EF}(h:Ab X a f):Ab X (.UnaryOp .Not a pos) (LN f) :=
 PE.weaken (AEi h) λY H Q b=>by
  obtain⟨O,Z,L,c,o,r,e,k⟩:=b;refine bI e λp i e=>?_;obtain⟨d,j⟩:=p;refine⟨O,Z,L,d,j,r,i,λv n l m g is=>?_⟩
  cases d <;> simp only[AX] at e <;> try (cases e;done)
  cases e;cases is;exact⟨_,rfl,k _ n l m g (.bl _)⟩
abbrev GI(t:TF)(f g:EF):EF:=λZ L=>(t Z L).bind λx=>if x.1=true then f Z x.2 else g Z x.2
def AMM{t:TF}{f g:EF}(y:FE X c t)(z:Ab X a f)(hb:Ab X b g):Ab X (.IfExp c a b pos) (GI t f g) :=
 PE.weaken (AEo y z hb) λY H Q o=>by
  obtain⟨O,Z,L,d,x,r,e,k⟩:=o;refine bI e λp e1 e=>?_;obtain⟨u,n⟩:=p;refine⟨O,Z,L,u,n,r,e1,λH1 w l s=>?_⟩
  cases u with
  |true=>exact iteT ⟨w,Z,n,d,x,r.to l s,by simpa using e,λv q m j i h=>k v q m (l.trans j) i h⟩
  |false=>exact iteF ⟨w,Z,n,d,x,r.to l s,by simpa using e,λv q m j i h=>k v q m (l.trans j) i h⟩
abbrev Ej:Expr->Bool
 |.Starred _ _=>false
 |_=>true
def Hd{e:Expr}{es:AOw}{env:Env}(h:Ej e=true):starEach (e::es) env=(false,eval e env)::starEach es env:=by cases e <;> first|rfl|(cases h)
def IZ:∀{es:AOw} {env:Env} {pos:Pos},es.all Ej=true->(backTo pos (starEach es env)).any (·.1)=false
 |[],_,_,_=>rfl
 |e::es,env,pos,h=>by
  rw[ANU,Bs] at h;rw[Hd h.1];have:=IZ (env:=env) (pos:=pos) h.2;unfold backTo at this ⊢;rw[Al,ANQ,this];rfl
def Wv:∀{es:AOw} {env:Env} {pos:Pos},es.all Ej=true->(backTo pos (starEach es env)).all (λx=>!x.1)=true
 |[],_,_,_=>rfl
 |e::es,env,pos,h=>by
  rw[ANU,Bs] at h;rw[Hd h.1];have:=Wv (env:=env) (pos:=pos) h.2;unfold backTo at this ⊢;rw[Al,ANU,this];rfl
abbrev AG:AF:=λ_ L=>some ([],L)
abbrev AC(f:EF)(g:AF):AF:=λZ L=>(f Z L).bind λx=>(g Z x.2).bind λy=>some (x.1::y.1,y.2)
def ANC:Ec X [] AG:=PA.weaken AE6 λY H Q a=>by obtain⟨O,Z,L,d,b,r,e,k⟩:=a;cases e;exact k _ _ _ (.refl _ _) r.s .nil
def AND{e:Expr}{es:AOw}{f:EF}{g:AF}(o:Ab X e f)(s:Ec X es g)(w:Ej e=true:=by rfl):Ec X (e::es) (AC f g) :=
 PA.weaken (AE7 o s (Hd w)) λY H Q l=>by
  obtain⟨O,Z,L,d,L',r,e,k⟩:=l;refine bI e λp n e=>?_;refine bI e λq m e=>?_;cases e;refine⟨O,Z,L,p.1,p.2,r,n,λv z t b c i=>?_⟩;refine⟨t,Z,p.2,q.1,q.2,r.to b c,m,λu x y a j h=>?_⟩;exact k _ _ _ (b.trans a) j (.cons (i.mono a) h)
abbrev Bg(f:AF):EF:=λZ L=>(f Z L).bind λx=>if x.1.length<=16777216 then some (.tup x.1,x.2) else none
abbrev Bh(f:AF):EF:=λZ L=>(f Z L).bind λx=>if x.1.length<=16777216 then some (.ref x.2.length,x.2++[.lst x.1]) else none
def AL9{es:AOw}{f:AF}{m:Nat}(h:Ec X es f):Ab X (.Tuple es m pos) (Bg f) :=
 PE.weaken (AEc h) λY H Q c=>by
  obtain⟨O,Z,L,d,t,r,e,k⟩:=c;refine bI e λp n e=>?_;split at e
  .rename_i hz;cases e;refine⟨O,Z,L,p.1,p.2,r,n,λo j i s l is=>⟨by rw[is.length,sizeLine_eq];exact hz,λq g=>?_⟩⟩;have b:An j i (upd j q (.tup o)) i:=⟨.new g,AV _⟩;exact k _ _ _ (s.trans b) (l.ext λa u e=>by rw[BX (Df e g)];exact e) (.tup (Be.of CT) (is.mono b))
  .cases e
def AMK{es:AOw}{f:AF}(h:Ec X es f):Ab X (.List es pos) (Bh f) :=
 PE.weaken (AEl h) λY H Q b=>by
  obtain⟨O,Z,L,d,o,r,e,k⟩:=b;refine bI e λp m e=>?_;split at e
  .rename_i hz;cases e;refine⟨O,Z,L,p.1,p.2,r,m,λg l j n c is=>⟨by rw[is.length,sizeLine_eq];exact hz,λq i=>?_⟩⟩;have a:An l j (upd l q (.lst g)) (j++[q]):=⟨.new i,Ac _ _⟩;refine k _ _ _ (n.trans a) (c.new i ⟨g,CT,is.mono a⟩) (.ref ?_);rw[<-c.len];simp
  .cases e
abbrev AK(g:GL)(f:AF):EF:=λZ L=>(f Z L).bind λx=>g x.1 x.2
def Ol{K:AL}{g:GL}{f:AF}{Y:L2.St}{H:Hp}{Q:VK}(h:lift K (AK g f) Y H Q):liftA K f Y H λi j=>rC K g i j Q:=by obtain⟨O,Z,L,d,t,r,e,k⟩:=h;refine bI e λp n e=>?_;exact⟨O,Z,L,p.1,p.2,r,n,λi j o q m is=>⟨o,p.2,p.1,d,t,m,is,e,λw s l c b a=>k w s l (q.trans c) b a⟩⟩
def AMT{x:Str}{p:Pos}{e:Expr}{es:AOw}{id:String}{g:GL}{f:AF}(c:Ee X (.builtin id) g)(m:X.mg x=none)(j:bootBuiltins x=some (.builtin id))(d:Ec X (e::es) f)(k:Gl X x:=by rfl)(l:x≠"__name__":=by decide)(b:(x == ("__debug__":Str))=false:=by decide)
  (i:Ej e=true:=by rfl) (a:es.all Ej=true:=by rfl):Ab X (.Call (.Name x p) (e::es) [] pos) (AK g f) :=
 PE.weaken (AEt c k m j d l b (Hd i) (IZ a)) λY H Q h=>Ol h
def AMS{x:Str}{p:Pos}{e:Expr}{es:AOw}{T:String}{g:GL}{f:AF}(c:Ee X (.type T) g)(m:X.mg x=none)(j:bootBuiltins x=some (.type T))(d:Ec X (e::es) f)(k:Gl X x:=by rfl)(l:x≠"__name__":=by decide)(b:(x == ("__debug__":Str))=false:=by decide)
  (i:Ej e=true:=by rfl) (a:es.all Ej=true:=by rfl):Ab X (.Call (.Name x p) (e::es) [] pos) (AK g f) :=
 PE.weaken (AEs c k m j d l b (Hd i) (IZ a)) λY H Q h=>Ol h
end
inductive GS where
 |next (Z:Fm) (L:AB)|ret (d:D) (L:AB)|brk (Z:Fm) (L:AB)|cont (Z:Fm) (L:AB)
noncomputable abbrev SF:=Fm->AB->Option GS
abbrev PostS(K:AL)(H:Hp)(O:AOv)(E:IV):GS->Prop
 |.next Z L=>∀Y' H' O',An H O H' O'->Rep K H' O' Y' Z L->E.nx Y' H'
 |.ret d L=>∀v H' O',An H O H' O'->Aq K H' O' L->Is K H' O' v d->E.rt v H'
 |.brk Z L=>∀Y' H' O',An H O H' O'->Rep K H' O' Y' Z L->E.bk Y' H'
 |.cont Z L=>∀Y' H' O',An H O H' O'->Rep K H' O' Y' Z L->E.ct Y' H'
def PostS.mono{K:AL}{H j:Hp}{O g:AOv}{E:IV}{c:GS}(st:An H O j g)(h:PostS K H O E c):PostS K j g E c:=by
 cases c with
 |next Z L=>exact λf e b a r=>h f e b (st.trans a) r
 |ret d L=>exact λv e b a r i=>h v e b (st.trans a) r i
 |brk Z L=>exact λf e b a r=>h f e b (st.trans a) r
 |cont Z L=>exact λf e b a r=>h f e b (st.trans a) r
inductive liftS (K:AL) (f:SF) (E:IV) (Y:L2.St) (H:Hp):Prop
 |mk (O Z L out) (r:Rep K H O Y Z L) (e:f Z L=some out) (k:PostS K H O E out):liftS K f E Y H
abbrev Du(X:Cx)(st:Stmt)(f:SF):Prop:=PS X st (liftS X.K f)
abbrev FY(X:Cx)(st:AOx)(f:SF):Prop:=Dp X st (liftS X.K f)
def PS.weaken{X:Cx}{e:Stmt}{t t':TS}(h:PS X e t)(i:∀D Y H,t' D Y H->t D Y H):PS X e t':=λa s Y H D I q=>h a s Y H D I (i D Y H q)
def Dp.weaken{X:Cx}{e:AOx}{t t':TS}(h:Dp X e t)(i:∀D Y H,t' D Y H->t D Y H):Dp X e t':=λa s Y H D I q=>h a s Y H D I (i D Y H q)
abbrev Au:SF:=λZ L=>some (.next Z L)
abbrev AJ(f g:SF):SF:=λZ L=>(f Z L).bind λout=>match out with|.next Z' L'=>g Z' L'|o=>some o
abbrev AU(f:EF):SF:=λZ L=>(f Z L).bind λx=>some (.ret x.1 x.2)
abbrev Dh(f:EF):SF:=λZ L=>(f Z L).bind λx=>some (.next Z x.2)
abbrev AR(i:Nat)(f:EF):SF:=λZ L=>(f Z L).bind λx=>some (.next (Z.set i (some x.1)) x.2)
abbrev Ao(t:TF)(f g:SF):SF:=λZ L=>(t Z L).bind λx=>if x.1=true then f Z x.2 else g Z x.2
abbrev Tp:SF:=λZ L=>some (.brk Z L)
section
variable {X:Cx}{st:Stmt}{rest:AOx}{f g:SF}{fe:EF}{e:Expr}{pos:Pos}
def AJ8:FY X [] Au:=Dp.weaken ADv λD Y H a=>by obtain⟨O,Z,L,b,r,e,k⟩:=a;cases e;exact k Y H O (.refl _ _) r
def AJ9(n:Du X st f)(p:FY X rest g):FY X (st::rest) (AJ f g) :=
 Dp.weaken (ADw n p) λD Y H h=>by
  obtain⟨O,Z,L,b,r,e,k⟩:=h;refine bI e λj m e=>?_;refine⟨O,Z,L,j,r,m,?_⟩
  cases j with
  |next c a=>exact λq s l i o=>⟨l,c,a,b,o,e,k.mono i⟩
  |ret d a=>cases e;exact k
  |brk c a=>cases e;exact k
  |cont c a=>cases e;exact k
def AJ7(a:Du X st f):FY X [st] f:=Dp.weaken (ADu a) λD Y H h=>h
def AKN:Du X (.Break pos) Tp:=PS.weaken AD6 λD Y H a=>by obtain⟨O,Z,L,b,r,e,k⟩:=a;cases e;exact k Y H O (.refl _ _) r
def AKK(g:Ab X e fe)(i:swapsWith e none pos.line X.env=pure false:=by rfl):Du X (.Expr e pos) (Dh fe) :=
 PS.weaken (AD5 g i) λD Y H a=>by
  obtain⟨O,Z,L,c,r,e,k⟩:=a;refine bI e λp f e=>?_;cases e;exact⟨O,Z,L,p.1,p.2,r,f,λv h b st d is=>k Y h b st (r.to st d)⟩
def AKE(g:Ab X e fe):Du X (.Return (some e) pos) (AU fe) :=
 PS.weaken (ADz g) λD Y H a=>by
  obtain⟨O,Z,L,c,r,e,k⟩:=a;refine bI e λp f e=>?_;cases e;exact⟨O,Z,L,p.1,p.2,r,f,λv h b st d is=>k v h b st d is⟩
def AKD{i:Nat}{x:Str}{a:Pos}(o:X.N.Nodup)(l:Ab X e fe)(j:X.N[i]?=some x:=by rfl)(m:HY X.env.scope x:=by first|exact Or.inl rfl|exact Or.inr rfl)(s:swapsWith e (some (.Name x a)) pos.line X.env=pure false:=by rfl)
  (q:X.fn x=true\/X.env.scope.names.lookup x=some .local:=by first|exact .inl rfl|exact .inr rfl):Du X (.Assign [.Name x a] e pos) (AR i fe) :=
 PS.weaken (ADy o j m l s q) λD Y H b=>by
  obtain⟨O,Z,L,d,r,e,k⟩:=b;refine bI e λp h e=>?_;cases e;exact⟨O,Z,L,p.1,p.2,r,h,λv n c st g is=>k _ n c st ⟨g,(r.f.mono st).set is i⟩⟩
def AKI{c:Expr}{a b:AOx}{t:TF}(n:FE X c t)(q:FY X a f)(s:FY X b g):Du X (.If c a b pos) (Ao t f g) :=
 PS.weaken (AD1 n q s) λD Y H i=>by
  obtain⟨O,Z,L,d,r,e,k⟩:=i;refine bI e λp o e=>?_;obtain⟨l,h⟩:=p;refine⟨O,Z,L,l,h,r,o,λu m st j=>?_⟩
  cases l with
  |true=>exact iteT ⟨m,Z,h,d,r.to st j,by simpa using e,k.mono st⟩
  |false=>exact iteF ⟨m,Z,h,d,r.to st j,by simpa using e,k.mono st⟩
end
noncomputable abbrev GF:=D->Fm->Option Fm
noncomputable abbrev FF:=List D->Fm->Option Fm
inductive liftG (K:AL) (g:GF) (v:V) (Y:L2.St) (H:Hp) (Q:L2.St->Hp->Prop):Prop
 |mk (O Z L d Z') (r:Rep K H O Y Z L) (i:Is K H O v d) (e:g d Z=some Z') (k:∀Y',Rep K H O Y' Z' L->Q Y' H):liftG K g v Y H Q
inductive liftGs (K:AL) (g:FF) (v:List V) (Y:L2.St) (H:Hp) (Q:L2.St->Hp->Prop):Prop
 |mk (O Z L d Z') (r:Rep K H O Y Z L) (i:AT K H O v d) (e:g d Z=some Z') (k:∀Y',Rep K H O Y' Z' L->Q Y' H):liftGs K g v Y H Q
abbrev HX(X:Cx)(tg:Expr)(g:GF):Prop:=PG X tg (liftG X.K g)
abbrev Jw(X:Cx)(tg:AOw)(g:FF):Prop:=Gs X tg (liftGs X.K g)
def PG.weaken{X:Cx}{e:Expr}{t t':TG}(h:PG X e t)(i:∀v Y H Q,t' v Y H Q->t v Y H Q):PG X e t':=λa s Y H v u Q I r q=>h a s Y H v u Q I r (i _ _ _ _ q)
def Gs.weaken{X:Cx}{e:AOw}{t t':HV}(h:Gs X e t)(i:∀v Y H Q,t' v Y H Q->t v Y H Q):Gs X e t':=λa s Y H v u Q I r q=>h a s Y H v u Q I r (i _ _ _ _ q)
abbrev Aa(i:Nat):GF:=λd Z=>some (Z.set i (some d))
abbrev EJ:FF:=λds Z=>match ds with|[]=>some Z|_=>none
abbrev Bc(g:GF)(h:FF):FF:=λds Z=>match ds with|d::r=>(g d Z).bind λZ'=>h r Z'|[]=>none
abbrev EX(n:Nat)(h:FF):GF:=λd Z=>match d with|.tup ds=>if ds.length=n then h ds Z else none|_=>none
section
variable {X:Cx}{pos:Pos}
def ALT{i:Nat}{x:Str}(g:X.N.Nodup)(b:X.N[i]?=some x:=by rfl)(c:HY X.env.scope x:=by first|exact Or.inl rfl|exact Or.inr rfl)(h:X.fn x=true\/X.env.scope.names.lookup x=some .local:=by first|exact .inl rfl|exact .inr rfl):HX X (.Name x pos) (Aa i) :=
 PG.weaken (AEY g b c h) λv Y H Q a=>by
  obtain⟨O,Z,L,d,j,r,is,e,k⟩:=a;cases e;exact k _ ⟨r.s,r.f.set is i⟩
def ALQ:Jw X [] EJ:=Gs.weaken AEW λv Y H Q c=>by
 obtain⟨O,Z,L,d,f,r,is,e,k⟩:=c
 cases is with
 |nil=>cases e;exact⟨rfl,k _ r⟩
 |cons a b=>cases e
end
section
variable {X:Cx}{pos:Pos}
def ALR{e:Expr}{es:AOw}{g:GF}{h:FF}(l:HX X e g)(o:Jw X es h)
  (q:(assignEach (e::es) X.env).map (·.2)=assign e X.env::(assignEach es X.env).map (·.2):=by rfl):Jw X (e::es) (Bc g h) :=
 Gs.weaken (AEX l o q) λv Y H Q c=>by
  obtain⟨O,Z,L,i,p,r,is,e,k⟩:=c
  cases is with
  |nil=>cases e
  |@cons v d n i a b =>
   simp only[Bc] at e;refine bI e λf j e=>?_;exact⟨v,n,rfl,O,Z,L,d,f,r,a,j,λs m=>⟨O,f,L,i,p,m,b,e,k⟩⟩
def ALS{es:AOw}{k:Nat}{h:FF}{n:Nat}(g:X.calm=true)(i:Jw X es h)
  (p:(assignEach es X.env).length=n:=by rfl) (c:(assignEach es X.env).findIdx? (·.1)=none:=by rfl):HX X (.Tuple es k pos) (EX n h) :=
 PG.weaken (XE g i p c) λv Y H Q b=>by
  obtain⟨O,Z,L,d,m,r,is,e,k⟩:=b
  cases is with
  |@tup a j o l f =>
   simp only[EX] at e;split at e
   .rename_i hl;exact⟨a,j,rfl,l,by rw[f.length];exact hl,O,Z,L,o,m,r,f,e,k⟩
   .cases e
  |_=>cases e
end
structure ME where
 items:List D
 ok:AB->Bool
noncomputable abbrev IF:=Fm->AB->Option (ME×AB)
abbrev ItIs(K:AL)(H0:Hp)(O0:AOv)(Jt:It)(J:ME):Prop:=∀(i:Nat) (H:Hp) (O:AOv) (L:AB),An H0 O0 H O->Aq K H O L->J.ok L=true ->
 (∀d,J.items[i]?=some d->Jt.go i H/\∀x H',Jt.yld i H x H'->An H O H' O/\Aq K H' O L/\Is K H' O x d)/\(J.items.length<=i->Jt.stop i H)
def ItIs.mono{K:AL}{a d:Hp}{b c:AOv}{e:It}{J:ME}(st:An a b d c)(h:ItIs K a b e J):ItIs K d c e J:=λi H O L s r o=>h i H O L (st.trans s) r o
inductive liftI (K:AL) (f:IF) (Y:L2.St) (H:Hp) (R:It->Hp->Prop):Prop
 |mk (O Z L J L') (r:Rep K H O Y Z L) (e:f Z L=some (J,L')) (k:∀Jt H' O',An H O H' O'->Aq K H' O' L'->ItIs K H' O' Jt J->R Jt H'):liftI K f Y H R
abbrev EM(X:Cx)(tg iter:Expr)(f:IF):Prop:=PI X tg iter (liftI X.K f)
def PI.weaken{X:Cx}{b e:Expr}{t t':TI}(h:PI X b e t)(i:∀Y H R,t' Y H R->t Y H R):PI X b e t':=λa s Y H R I q=>h a s Y H R I (i _ _ _ q)
abbrev Dn(ok:AB->Bool)(g:GF)(body:SF):List D->Fm->AB->Option GS
 |[],Z,L=>if ok L=true then some (.next Z L) else none
 |x::xs,Z,L=>if ok L=true then (g x Z).bind λZ1=>(body Z1 L).bind λout=>match out with
   |.next Z2 L2=>Dn ok g body xs Z2 L2
   |.cont Z2 L2=>Dn ok g body xs Z2 L2
   |.brk Z2 L2=>some (.next Z2 L2)
   |.ret d L2=>some (.ret d L2)
  else none
abbrev Bi(fi:IF)(g:GF)(body:SF):SF:=λZ L=>(fi Z L).bind λx=>Dn x.1.ok g body x.1.items Z x.2
def AKJ{X:Cx}{tg j:Expr}{q:AOx}{fi:IF}{g:GF}{fb:SF}{pos:Pos}(hp:PassesOwn (model X.prog X.w) X.A X.env X.xe)(hc:X.calm=true)(hi:EM X tg j fi)(hg:HX X tg g)(hb:FY X q fb)
  (hs:∀x,foldedSetIterable j X.env x=pure x:=by intro _;rfl):Du X (.For tg j q [] pos) (Bi fi g fb) :=
 PS.weaken (AD2 hp hc hi hg hb hs) λD Y H ag=>by
  obtain⟨O,Z,L,o,r,e,k⟩:=ag;refine bI e λp e1 e=>?_;obtain⟨⟨a,ok⟩,L1⟩:=p;simp only[AX] at e;refine⟨O,Z,L,_,_,r,e1,λJt H1 O1 aa ac it=>?_⟩
  refine⟨λi m Y H=>m=a.length-i/\i<=a.length/\∃O Z L,An H1 O1 H O/\Rep X.K H O Y Z L/\Dn ok g fb (a.drop i) Z L=some o/\PostS X.K H O D o,
   ⟨a.length,rfl,Ef _,O1,Z,L1,.refl _ _,r.to aa ac,e,k.mono aa⟩,?_⟩
  rintro i m Y' H' ⟨rfl,ai,O',Z',L',n,r',b,k'⟩
  by_cases l:i<a.length
  .have ed:a.drop i=a[i]::a.drop (i+1):=AN4 l;rw[ed] at b;simp only[Dn] at b;split at b
   .rename_i hok;obtain⟨h1,_⟩:=it i H' O' L' n r'.s hok;obtain⟨go,yl⟩:=h1 a[i] (by simp[l])
    refine .inr ⟨go,λY2 z=>∃m',m'<a.length-i/\m'=a.length-(i+1)/\i+1<=a.length/\∃O Z L,An H1 O1 z O/\Rep X.K z O Y2 Z L/\Dn ok g fb (a.drop (i+1)) Z L=some o/\PostS X.K z O D o,
     λY2 z h=>h,λx z y=>?_⟩
    obtain⟨f,ad,ae⟩:=yl x z y
    cases eg:g a[i] Z' with
    |none=>rw[eg] at b;cases b
    |some Z1 =>
     rw[eg] at b;simp only[AX] at b;refine⟨O',Z',L',_,Z1,r'.to f ad,ae,eg,λY3 r3=>?_⟩;refine bI b λo1 eb b=>?_;refine⟨O',Z1,L',o1,r3,eb,?_⟩
     cases o1 with
     |next Z2 L2=>exact λY4 H4 u c t=>⟨a.length-(i+1),by omega,rfl,l,u,Z2,L2,(n.trans f).trans c,t,b,(k'.mono f).mono c⟩
     |cont Z2 L2=>exact λY4 H4 u c t=>⟨a.length-(i+1),by omega,rfl,l,u,Z2,L2,(n.trans f).trans c,t,b,(k'.mono f).mono c⟩
     |brk Z2 L2=>cases b;exact λY4 H4 u c t=>k' Y4 H4 u (f.trans c) t
     |ret d L2=>cases b;exact λv H4 u c t i4=>k' v H4 u (f.trans c) t i4
   .cases b
  .have hi2:i=a.length:=by omega
   subst hi2;rw[ANt] at b;simp only[Dn] at b;split at b
   .rename_i hok;cases b;obtain⟨_,h2⟩:=it _ H' O' L' n r'.s hok;exact .inl ⟨h2 (Ag _),k' Y' H' O' (.refl _ _) r'⟩
   .cases b
abbrev YU(f:EF):IF:=λZ L=>(f Z L).bind λx=>match x.1 with|.tup xs=>some (⟨xs,λ_=>true⟩,x.2)|_=>none
abbrev TK(f:EF):IF:=λZ L=>(f Z L).bind λx=>match x.1 with
 |.fz xs=>some (⟨xs,λ_=>true⟩,x.2)
 |.ref k=>match x.2[k]? with|some (.lst xs)=>some (⟨xs,λL'=>decide (L'[k]?=some (.lst xs))⟩,x.2)|_=>none
 |_=>none
abbrev Ey(lo:Int)(n:Nat):List D:=(List.range n).map λ(i:Nat)=>.int (lo+((i:Nat):Int))
abbrev Gi(f:AF):IF:=λZ L=>(f Z L).bind λx=>match x.1 with
 |[.int j]=>if j<=4611686018427387903/\-4611686018427387904<=j then some (⟨Ey 0 j.toNat,λ_=>true⟩,x.2) else none
 |_=>none
abbrev OL(f:AF):IF:=λZ L=>(f Z L).bind λx=>match x.1 with
 |[.int i,.int j]=>if (i<=4611686018427387903/\-4611686018427387904<=i)/\(j<=4611686018427387903/\-4611686018427387904<=j) then some (⟨Ey i (j-i).toNat,λ_=>true⟩,x.2) else none
 |_=>none
section
variable {X:Cx}{tg l:Expr}{f:EF}
def Wj(a:Int)(n i:Nat):(Ey a n)[i]?=if i<n then some (.int (a+(i:Int))) else none:=by
 unfold Ey;rw[As]
 by_cases h:i<n
 .rw[if_pos h];simp[ANm h]
 .rw[if_neg h];simp;omega
def Ge(a:Int)(n:Nat):(Ey a n).length=n:=by simp[Ey]
def YG{K:AL}{g:Hp}{c:AOv}{b:Int}{n:Nat}:ItIs K g c (MD b n) ⟨Ey b n,λ_=>true⟩:=by
 intro i H O L j f _;refine⟨λd a=>?_,λh=>by rw[Ge] at h;exact h⟩;simp only at a;rw[Wj] at a;split at a
 .rename_i hlt;cases a;refine⟨hlt,λx k y=>?_⟩;obtain⟨e,y⟩:=y;subst e y;exact⟨.refl _ _,f,.int _⟩
 .cases a
def AEK(w:Ab X l f):EM X tg l (YU f):=PI.weaken (AER w) λY H R n=>by
 obtain⟨O,Z,L,J,L',r,e,k⟩:=n;refine bI e λp e1 e=>?_;obtain⟨d,L1⟩:=p
 cases d <;> simp only[AX] at e <;> try (cases e;done)
 cases e;refine⟨O,Z,L,_,_,r,e1,λv H1 O1 z rs is=>?_⟩
 cases is with
 |@tup a g ds o s =>
  refine⟨a,rfl,⟨g,o⟩,k _ _ _ z rs λi H2 O2 L2 c m _=>?_⟩;have b:=Be.grow c.1 o;have j:=s.mono c;refine⟨λd t=>?_,λh=>⟨g,b,by rw[s.length];exact h⟩⟩;obtain⟨v,q,u⟩:=j.get t;refine⟨⟨g,v,b,q⟩,λx H' y=>?_⟩;obtain⟨e,y⟩:=y;subst e;have:=y g b;rw[q] at this;cases this;exact⟨.refl _ _,m,u⟩
def XB(hl:Ab X l f):EM X tg l (TK f):=PI.weaken (AEV hl) λY H R ac=>by
 obtain⟨O,Z,L,J,L',r,e,k⟩:=ac;refine bI e λp e1 e=>?_;obtain⟨d,L1⟩:=p
 cases d <;> simp only[AX] at e <;> try (cases e;done)
 .cases e;refine⟨O,Z,L,_,_,r,e1,λv H1 O1 st n is=>?_⟩
  cases is with
  |@fz a j ds hq il =>
   refine⟨a,rfl,⟨j,hq.sql⟩,k _ _ _ st n λi H2 O2 L2 b c _=>?_⟩;have g:=(SqF.grow b.1 hq).sql;have z:=il.mono b;refine⟨λd t=>?_,λh=>⟨j,g,by rw[il.length];exact h⟩⟩;obtain⟨v,q,w⟩:=z.get t;refine⟨⟨j,v,g,q⟩,λx H' y=>?_⟩;obtain⟨e,y⟩:=y;subst e;have:=y j g;rw[q] at this;cases this;exact⟨.refl _ _,c,w⟩
 .rename_i kk
  cases s:L1[kk]? with
  |none=>rw[s] at e;cases e
  |some o =>
   rw[s] at e
   cases o with
   |dk _=>cases e
   |ins _ _=>cases e
   |dt _ _=>cases e
   |exn _=>cases e
   |lst xs =>
    cases e;refine⟨O,Z,L,_,_,r,e1,λv H1 O1 st n is=>?_⟩
    cases is with
    |@ref _ a hk =>
     obtain⟨j,q,il⟩:=n.ob _ _ _ hk s;refine⟨a,rfl,⟨j,BJ.of q⟩,k _ _ _ st n λi H2 O2 L2 b c u=>?_⟩;have aa:=CP b.2 hk;obtain⟨ws,hw,iw⟩:=c.ob _ _ _ aa (of_decide_eq_true u);refine⟨λd t=>?_,λh=>⟨ws,BJ.of hw,by rw[iw.length];exact h⟩⟩;obtain⟨v,m,w⟩:=iw.get t;refine⟨⟨ws,v,BJ.of hw,m⟩,λx H' y=>?_⟩;obtain⟨e,y⟩:=y;subst e;have:=y ws (BJ.of hw);rw[m] at this;cases this;exact⟨.refl _ _,c,w⟩
def AKa{a:Expr}{c:AF}{p pos:Pos}(l:X.mg "range"=none)(g:Ec X [a] c)(o:Gl X "range":=by rfl)(t:starEach [a] X.env=[(false,eval a X.env)]:=by rfl):EM X tg (.Call (.Name "range" p) [a] [] pos) (Gi c) :=
 PI.weaken (AEU o l g t) λY H R b=>by
  obtain⟨O,Z,L,J,x,r,e,k⟩:=b;refine bI e λq h e=>?_;obtain⟨n,m⟩:=q;simp only[AX] at e;refine⟨O,Z,L,n,m,r,h,λu w v s d is=>?_⟩;split at e
  .rename_i j;split at e
   .rename_i hj;cases e
    cases is with
    |cons i f =>
     cases i;cases f;exact⟨j,rfl,by omega,by omega,k _ _ _ s d YG⟩
   .cases e
  .cases e
def AKZ{a b:Expr}{f:AF}{p pos:Pos}(s:X.mg "range"=none)(m:Ec X [a,b] f)(w:Gl X "range":=by rfl)(y:starEach [a,b] X.env=[(false,eval a X.env),(false,eval b X.env)]:=by rfl)(c:starEach [b] X.env=[(false,eval b X.env)]:=by rfl):EM X tg (.Call (.Name "range" p) [a,b] [] pos) (OL f) :=
 PI.weaken (AET w s m y c) λY H R d=>by
  obtain⟨O,Z,L,J,L',r,e,k⟩:=d;refine bI e λq n e=>?_;obtain⟨v,t⟩:=q;simp only[AX] at e;refine⟨O,Z,L,v,t,r,n,λz H1 O1 x h is=>?_⟩;split at e
  .rename_i i j;split at e
   .rename_i hj;cases e
    cases is with
    |cons o l =>
     cases o
     cases l with
     |cons g u =>
      cases g;cases u;exact⟨i,j,rfl,⟨by omega,by omega,by omega,by omega⟩,k _ _ _ x h YG⟩
   .cases e
  .cases e
end
def AHI{names:List (Str×NameKind)}{env:Env}:∀(cs:List (Str×Addr)),(∀y∈names,y.2=.free->∃c,env.cells.lookup y.1=some c) ->
  ∃f:List (Str×Addr),(forIn names cs (λ(x:Str×NameKind) (r:List (Str×Addr))=>match x with
   |(name,kind)=>if (kind == NameKind.free)=true then do let a <-cellOf env name;pure (ForInStep.yield ((name,a)::r)) else pure (ForInStep.yield r)):Sem (List (Str×Addr)))=pure f /\
   (∀x,(x,NameKind.free)∈names->f.lookup x=env.cells.lookup x)/\(∀x c,f.lookup x=some c->env.cells.lookup x=some c\/cs.lookup x=some c)/\(∀x,(cs.lookup x=env.cells.lookup x)->f.lookup x=env.cells.lookup x):=by
 induction names with
 |nil=>intro cs _;exact⟨cs,rfl,λx h=>by simp at h,λx c h=>.inr h,λx h=>h⟩
 |cons y r q =>
  intro cs h;obtain⟨n,p⟩:=y;rw[ANq]
  by_cases o:p=.free
  .subst o;obtain⟨c,g⟩:=h (n,.free) BC rfl;obtain⟨f,m,j,l,i⟩:=q ((n,c)::cs) λy k=>h y (BD _ k)
   have d:∀x,((n,c)::cs).lookup x=if x == n then some c else cs.lookup x:=λx=>by
    cases e:x == n <;> simp[Fx,e]
   refine⟨f,?_,λx e=>?_,λx s e=>?_,λx e=>i x ?_⟩
   .simp only[cellOf,g];rw[<-m];rfl
   .rcases AY.mp e with z|z
    .injection z with z1 _
     subst z1;refine i x ?_;rw[d];simp[g]
    .exact j x z
   .rcases l x s e with z|z
    .exact .inl z
    .rw[d] at z
     cases b:x == n with
     |true =>
      rw[b] at z;simp at z;subst z;have:x=n:=by simpa using b
      subst this;exact .inl g
     |false=>rw[b] at z;exact .inr z
   .rw[d]
    cases b:x == n with
    |true =>
     have:x=n:=by simpa using b
     subst this;simp[g]
    |false=>simpa using e
  .have hb:(p == NameKind.free)=false:=by simpa using o
   obtain⟨f,m,j,l,i⟩:=q cs λy k=>h y (BD _ k);refine⟨f,?_,λx e=>?_,l,i⟩
   .simp only[hb];rw[<-m];rfl
   .rcases AY.mp e with z|z
    .injection z with _ z2
     exact absurd z2.symm o
    .exact j x z
def AH0{scope:Scope}{env:Env}(h:∀y∈scope.names,y.2=.free->∃c,env.cells.lookup y.1=some c) :
  ∃a,closureFor scope env=pure a/\(∀x,(x,NameKind.free)∈scope.names->a.lookup x=env.cells.lookup x)/\(∀x c,a.lookup x=some c->env.cells.lookup x=some c):=by
 obtain⟨a,b,d,e,_⟩:=AHI (names:=scope.names) (env:=env) [] h;refine⟨a,?_,d,λx c f=>?_⟩
 .unfold closureFor;simp only[bind_pure]
  first
   |exact b
   |(rw[b];rfl)
 .rcases e x c f with z|z
  .exact z
  .simp at z
section
variable {prog:Program}{w:World}{A:Around}{R:Result->Shared->Prop}{s:Shared}
def AHx{u a o:Expr}{q:AOw}{scope:Scope}{pos:Pos}{it t:Value}{env:Env}(I:Nat->Shared->Prop)
  (y:∀n s,I n s->wpAny (model prog w) A (pyNext it) (λr e=>match r with
   |none=>R (.ok .next) e
   |some v=>wpAny (model prog w) A (letOwnedTupleGo a it v) (λ_ d=>wpAny (model prog w) A (assign a env v) (λ_ k =>
     wpAny (model prog w) A (forIn q true λc r=>if r=true then do let ok <-isTrue c env (eval c env);pure (ForInStep.yield ok) else pure (ForInStep.yield r)) (λok f =>
      if ok=true then wpAny (model prog w) A (eval u env) (λx i =>
       wpAny (model prog w) A (call (.builtin "list.append") [t,x]) (λ_ j=>∃m,m<n/\I m j) (λ_ _=>False) i) (λ_ _=>False) f
      else ∃m,m<n/\I m f) (λ_ _=>False) k) (λ_ _=>False) d) (λ_ _=>False) e) (λ_ _=>False) s)
  (n:Nat) (h:I n s) :
  codeAny (model prog w) A (.compLoop (.ListComp u [⟨a,o,q,0⟩] scope pos) 0 it t env) R s:=by
 refine codeAny_loop rfl I (λn s hI=>?_) n h
 show wpAny _ A ((compTurn (.ListComp u [⟨a,o,q,0⟩] scope pos) 0 it t env).onRaise (λx=>do noteFrame x env;theTreesLotGoes x)) _ _ s
 refine wpAny_noted ?_;rw[compTurn_list];refine AH (wpAny_standAt (AH (Dk (y n s hI) (λr e l=>?_) λ_ _ b=>b.elim)))
 cases r with
 |none=>exact AO l
 |some v =>
  refine AH (Dk l (λ_ d p=>?_) λ_ _ b=>b.elim);refine AH (Dk p (λ_ k z=>AH (Dk z (λok f g=>?_) λ_ _ b=>b.elim)) λ_ _ b=>b.elim)
  cases ok with
  |false=>exact AO ⟨rfl,g⟩
  |true =>
   exact AH (AH (Dk g (λx i ac=>AH (Dk ac (λ_ j aa=>AO (AO ⟨rfl,aa⟩)) λ_ _ b=>b.elim)) λ_ _ b=>b.elim))
end
abbrev Cs(X:Cx)(N':AOt)(scope:Scope)(cl:List (Str×Addr))(C:Addr)(s:Shared)(H:Hp)(fp:AOv)(pins:List (Addr×Obj)):Cx where
 prog:=X.prog
 w:=X.w
 K:=X.K
 mg:=X.mg
 base:=X.base
 A:=X.A
 N:=N'
 s₀:=s
 H₀:=H
 env:=compEnvC scope cl C X.env
 outer:=X.stack
 stack:=X.stack
 ex:=fp
 fn:=λ_=>false
 calm:=X.calm
 pn:=X.pn++pins
 xe:=λ_ _=>False
abbrev IT(X:Cx)(ifs:AOw)(c:TF):Prop :=
 ∀(pins:List (Addr×Obj)) (s:Shared) (Y:L2.St) (H:Hp) (Q:Bool->Hp->Prop),AI X pins Y H s->liftT X.K c Y H Q ->
  wpAny (model X.prog X.w) X.A (forIn ifs true λc r=>if r=true then do let ok <-isTrue c X.env (eval c X.env);pure (ForInStep.yield ok) else pure (ForInStep.yield r)) (TP X pins Y Q) X.xe s
abbrev By:TF:=λ_ L=>some (true,L)
def AKW{X:Cx}:IT X [] By:=λc s Y H Q I a=>by
 obtain⟨O,Z,L,b,d,r,e,k⟩:=a;cases e;exact wpAny_tests_nil ⟨H,I,k H O (.refl _ _) r.s⟩
def AKV{X:Cx}{c:Expr}{f:TF}(h:FE X c f):IT X [c] f:=λa s Y H Q I q=>wpAny_tests_one (h a s Y H Q I q)
abbrev DK(ok:AB->Bool)(g:GF)(c:TF)(elt:EF)(k:Nat):List D->Fm->AB->Option AB
 |[],Z,L=>if ok L=true then some L else none
 |x::xs,Z,L=>if ok L=true then (g x Z).bind λZ1=>(c Z1 L).bind λp=>if p.1=true then (elt Z1 p.2).bind λq=>match q.2[k]? with
    |some (.lst ys)=>if ys.length<16777216 then DK ok g c elt k xs Z1 (q.2.set k (.lst (ys++[q.1]))) else none
    |_=>none
   else DK ok g c elt k xs Z1 p.2
  else none
abbrev Hn(n:Nat)(idx:AOy)(Z:Fm):Fm:=ANH n none++idx.map λj=>(Z[j]?).join
abbrev Bk(fi:IF)(n:Nat)(idx:AOy)(g:GF)(c:TF)(elt:EF):EF:=λZ L=>(fi Z L).bind λx =>
 (DK x.1.ok g c elt x.2.length x.1.items (Hn n idx Z) (x.2++[.lst []])).bind λL2=>some (.ref x.2.length,L2)
def SN{env:Env}:∀{names:List (Str×NameKind)} {x:Str} {k:NameKind},
  (names.map λ(n,k)=>if (k == NameKind.free&&env.scope.kind == .function&&env.kindOf n == some .cell) then (n,NameKind.cell) else (n,k)).lookup x=some k ->
  ∃c,(x,c)∈names/\(k=c\/(k=.cell/\c=.free))
 |[],_,_,h=>by simp at h
 |(n,k0)::r,x,k,h=>by
  rw[Al] at h;dsimp only at h;have g:=@SN env r x k
  by_cases f:(k0 == NameKind.free&&env.scope.kind == .function&&env.kindOf n == some .cell)=true
  .rw[if_pos f] at h
   cases d:x == n with
   |true =>
    simp only[AOK,d] at h;cases h;have e:x=n:=by simpa using d
    subst e
    have i:k0=.free:=by simp only[Bs] at f;simpa using f.1.1
    subst i;exact⟨.free,BC,.inr ⟨rfl,rfl⟩⟩
   |false =>
    simp only[AOK,d] at h;obtain⟨c,a,b⟩:=g h;exact⟨c,BD _ a,b⟩
  .rw[if_neg f] at h
   cases d:x == n with
   |true =>
    simp only[AOK,d] at h;cases h;have e:x=n:=by simpa using d
    subst e;exact⟨_,BC,.inl rfl⟩
   |false =>
    simp only[AOK,d] at h;obtain⟨c,a,b⟩:=g h;exact⟨c,BD _ a,b⟩
section
variable {X:Cx}{elt tg iter:Expr}{ifs:AOw}{scope:Scope}{pos pos':Pos}{N':AOt}{n:Nat}{idx:AOy}{fi:IF}{g:GF}{c:TF}{fe:EF}
structure MG (X:Cx) (scope:Scope) (N':AOt) (n:Nat) (idx:AOy):Prop where
 kind:scope.kind=.function
 cell:∀y∈scope.names,y.2≠.cell
 names:∀y∈scope.names,y.2=.local->scope.names.lookup y.1=some .local
 free:∀y∈scope.names,y.2=.free->X.env.kindOf y.1=some .cell\/X.env.kindOf y.1=some .free
 len:N'.length=n+idx.length
 idx:∀(j:Nat) (i:Nat),idx[j]?=some i->∃x,N'[n+j]?=some x/\X.N[i]?=some x/\(x,NameKind.free)∈scope.names/\∀k,(x,k)∈scope.names->k=.free
def Ze(hc:X.calm=true)(hi:EM X tg iter fi)(S:MG X scope N' n idx)
  (bc:∀cl C s3 H3 fp l,HX (Cs X N' scope cl C s3 H3 fp l) tg g/\IT (Cs X N' scope cl C s3 H3 fp l) ifs c/\Ab (Cs X N' scope cl C s3 H3 fp l) elt fe)
  (hs:∀x,foldedSetIterable iter X.env x=pure x)
  {l:List (Addr×Obj)} {s:Shared} {Y:L2.St} {H:Hp} {use:Option (Value->Sem Unit)} {Q':AO0} (I:AI X l Y H s) {O:AOv} {Z:Fm} {L L1 L9:AB} {t:List D} {ok:AB->Bool}
  (r:Rep X.K H O Y Z L) (e1:fi Z L=some (⟨t,ok⟩,L1)) (e2:DK ok g c fe L1.length t (Hn n idx Z) (L1++[.lst []])=some L9)
  (cf:∀(C D:Addr) (s':Shared) (H':Hp) (O':AOv) (m:AOs),AI X l Y H' s'->s'.heap.Ns C m->H' C=none->C≠X.env.locals->X.s₀.heap.objs.size<=C->(∀x c,X.env.cells.lookup x=some c->c≠C)->(∀p∈X.pn++l,p.1≠C) ->
   An H O H' O'->Aq X.K H' O' L9->O'[L1.length]?=some D->compPost (model X.prog X.w) X.A X.xe use Q' (.ref D) C (.ok .next) s') :
  wpAny (model X.prog X.w) X.A (comprehension (.ListComp elt [⟨tg,iter,ifs,0⟩] scope pos) scope X.env pos' (newList []) false (eval iter X.env) use) Q' X.xe s:=by
 obtain⟨cl,bh,au,ac⟩:=AH0 (scope:=scope) (env:=X.env) λy hy hk=>I.ok.has _ (S.free y hy hk);refine wpAny_comprehension_free rfl hs bh S.kind S.names ?_;refine Ai (hi l s Y H (λJt H1=>∃O1,An H O H1 O1/\Aq X.K H1 O1 L1/\ItIs X.K H1 O1 Jt ⟨t,ok⟩) I ⟨O,Z,L,_,_,r,e1,λJt H1 O1 st rs it=>⟨O1,st,rs,it⟩⟩) λv s1 h1=>Ai h1 λc8 s2 h2=>?_;obtain⟨it,fp,tn,J,H2,rfl,I2,T,bp,f2,O1,b8,bo,ba⟩:=h2;refine AOl (wpAny_newFunctionEnv S.cell (by intro y hy;simp at hy) (λai ae ad=>?_) S.kind);dsimp only at ae ad ⊢
 -- the list
 have I3:AI X l Y (upd H2 s2.heap.objs.size (.lst [])) {s2 with heap:=s2.heap.push {cls:=.type "list",dict:=none,data:=.seq ([]:AOu).toArray},toks:=s2.toks} :=
  I2.laid (t':=s2.toks) (λb o e=>Heap.get?_push_of_some _ e) (Ag _) ⟨by simp,[],0,.nil,Heap.get?_push_size _ rfl⟩
 have bz:H2 s2.heap.objs.size=none:=I2.hok.fresh (Ag _);have cm:Aq X.K (upd H2 s2.heap.objs.size (.lst [])) (O1++[s2.heap.objs.size]) (L1++[.lst []]):=bo.new bz ⟨[],CT,.nil⟩;have ax:An H2 O1 (upd H2 s2.heap.objs.size (.lst [])) (O1++[s2.heap.objs.size]):=⟨.new bz,Ac _ _⟩
 have bu:∀b∈fp,b≠s2.heap.objs.size:=λb hb z=>by
  obtain⟨o,e,_⟩:=T.obj 0 _ bp b hb;exact absurd (Heap.lt_size e) (by rw[z];exact ANF _)
 have f3:∀b∈fp,Ed X l (upd H2 s2.heap.objs.size (.lst [])) b:=λb hb=>⟨by rw[BX (bu b hb)];exact(f2 b hb).1,(f2 b hb).2⟩;generalize cu:s2.heap.push {cls:=.type "list",dict:=none,data:=.seq ([]:AOu).toArray}=hp3 at ae ad I3 ⊢;have c6:O1.length=L1.length:=bo.len;generalize c9:s2.heap.objs.size=D at *;generalize c7:upd H2 D (.lst [])=H3 at *;have bt:(O1++[D])[L1.length]?=some D:=by rw[<-c6];simp
 have bm:tn 0 hp3:=T.keep _ _ _ bp λb hb o e=>by rw[<-cu];exact Heap.get?_push_of_some _ e
 -- the block's frame
 generalize hC:hp3.objs.size=C at *;have kept:∀b o,hp3.get? b=some o->ai.get? b=some o:=λb o e=>ad.extBut b o (by rw[<-hC];exact Bm (Heap.lt_size e)) (Heap.get?_push_of_some _ e);have ca:tn 0 ai:=T.keep _ _ _ bm λb hb o e=>kept b o e
 let s3:Shared:={s2 with heap:=hp3,toks:=s2.toks}
 have Cfresh:∀(b:Addr) (o:Obj),hp3.get? b=some o->b≠C:=λb o e=>by rw[<-hC];exact Bm (Heap.lt_size e)
 have CL:C≠X.env.locals:=λz=>by
  have:=I3.lt;rw[<-z,<-hC] at this;exact ANF _ this
 have Ccell:∀x c,X.env.cells.lookup x=some c->c≠C:=λx c e=>by
  obtain⟨v,o,ho,_⟩:=I3.cell x c e;exact Cfresh c o ho
 have Cpin:∀p∈X.pn++l,p.1≠C:=λp hp=>Cfresh _ _ (I3.pin p hp).1;have C0:X.s₀.heap.objs.size<=C:=by rw[<-hC];exact I3.sz
 have ar:∀b∈FT X.stack,b=X.env.locals\/b∈X.fs:=λb hb=>AY.mp (I3.stkSub b hb)
 have am:∀x k,(relabel scope X.env).names.lookup x=some k->(k=.cell\/k=.free)->(x,NameKind.free)∈scope.names:=λx k e hk=>by
  obtain⟨k',a,b⟩:=SN e;rcases b with rfl|⟨_,rfl⟩
  .rcases hk with rfl|rfl
   .exact absurd rfl (S.cell _ a)
   .exact a
  .exact a
 have a8:(Cs X N' scope cl C s3 H3 fp l).Ok:=by
  refine⟨I3.ok.mod,S.kind,I3.ok.glob,I3.ok.blt,ANG hC,λx y d h1 h2=>I3.ok.inj x y d (ac x d h1) (ac y d h2),λx hx=>?_,λx d h1=>(nomatch h1),I3.ok.hd,I3.ok.frames,.inl rfl,
   λb hb=>⟨λz=>?_,λx d e=>(f3 b hb).2.2.2.2.1 x d (ac x d e)⟩,I3.bs,Cf I3.ok.bsz I3.sz,λb o e hb=>?_,λb hb hz=>?_,I3.stack,I3.stkFree⟩
  .have hx':(relabel scope X.env).names.lookup x=some .cell\/(relabel scope X.env).names.lookup x=some .free:=hx
   have hm:(x,NameKind.free)∈scope.names:=by
    rcases hx' with h|h
    .exact am x _ h (.inl rfl)
    .exact am x _ h (.inr rfl)
   obtain⟨d,hd⟩:=I3.ok.has x (S.free _ hm rfl);exact⟨d,(au x hm).trans hd⟩
  .obtain⟨o,e,_⟩:=T.obj 0 _ bm b hb;exact Cfresh b o e z
  .rcases(f3 b hb).2.2.2.1 with z|z
   .exact I3.ok.noex b o e z
   .have h1:=DP (Heap.lt_size e) I3.ok.bsz;exact absurd (DP h1 z) (ANF _)
  .rcases ar b hz with z|z
   .exact(f3 b hb).2.1 z
   .exact(f3 b hb).2.2.1 z
 -- its state
 have I4:AI (Cs X N' scope cl C s3 H3 fp l) [] (ANH n none++idx.map λj=>(Y[j]?).join) H3 {s3 with heap:=ai,toks:=s2.toks+([]:List (Str×Value)).length}:=by
  refine⟨a8,rfl,I3.bare,Un.kept kept,⟨_,ae,λi x v h1 h2 h3=>?_⟩,λx d e=>?_,?_,λx d e=>I3.freeC x d (ac x d e),λp hp=>?_,I3.hok.kept kept,?_⟩
  .by_cases ag:i<n
   .rw[FK (by simpa using ag)] at h2;rw[AOH,if_pos ag] at h2;cases h2
   .rw[ANI (by simpa using ag)] at h2;simp only[AOS] at h2;rw[As] at h2
    cases e:idx[i-n]? with
    |none=>rw[e] at h2;cases h2
    |some j =>
     rw[e] at h2;have ao:(Y[j]?).join=some v:=Option.some.inj h2
     have hY:Y[j]?=some (some v):=by
      cases q:Y[j]? with
      |none=>rw[q] at ao;cases ao
      |some o=>rw[q] at ao;cases o with
       |none=>cases ao
       |some w=>cases ao;rfl
     obtain⟨y,a1,a2,a3,a4⟩:=S.idx _ _ e
     have cg:y=x:=by
      have:N'[n+(i-n)]?=some x:=by rw[show n+(i-n)=i from by omega];exact h1
      rw[a1] at this;exact Option.some.inj this
     subst cg;have hk:=S.free _ a3 rfl;obtain⟨m,hm,hl⟩:=I3.loc
     have b7:Ju X.env.scope y:=by
      rcases hk with z|z
      .exact .inr (.inl z)
      .exact .inr (.inr z)
     obtain⟨u,ru,lk⟩:=hl j y v a2 hY b7;refine⟨u,ru,.inr ⟨?_,?_⟩⟩
     .rcases h3 with z|z|z
      .obtain⟨k',b1,b2⟩:=SN (show(relabel scope X.env).names.lookup y=some .local from z);rcases b2 with b2|⟨b2,_⟩
       .have:=a4 _ b1;rw[<-b2] at this;cases this
       .cases b2
      .exact .inl z
      .exact .inr z
     .rcases lk with⟨z,_⟩|⟨_,d,hd,⟨o,ho,hdt⟩⟩
      .rcases hk with q|q <;> rw[q] at z <;> cases z
      .exact⟨d,(au y a3).trans hd,o,kept d o ho,hdt⟩
  .obtain⟨v,o,ho,hdt⟩:=I3.cell x d (ac x d e);exact⟨v,o,kept d o ho,hdt⟩
  .exact I3.hok.fresh (ANG hC)
  .have a7:p∈X.pn++l:=by simpa[Cs] using hp
   obtain⟨q1,q2,q3,q4,q5⟩:=I3.pin p a7;refine⟨kept _ _ q1,q2,Cpin p a7,λz=>?_,q5⟩;rcases ar _ z with y|y
   .exact q3 y
   .exact q4 y
  .show _=N'.length;rw[S.len];simp
 have bf:∀{H':Hp} {pl:List (Addr×Obj)},pl=[]->(∀b∈fp,H' b=none)->∀b∈fp,Ed (Cs X N' scope cl C s3 H3 fp l) pl H' b:=λ{H' pl} cx hn b hb=>by
  subst cx;refine⟨hn b hb,λz=>(a8.exf b hb).1 z,a8.exfs b hb,.inl hb,λx d e=>(a8.exf b hb).2 x d e,λp hp=>?_⟩;have a7:p∈X.pn++l:=by simpa[Cs] using hp
  exact(f3 b hb).2.2.2.2.2 p a7
 obtain⟨bg,bq,be⟩:=bc cl C s3 H3 fp l
 have cp:Hs X.K H3 (O1++[D]) (ANH n none++idx.map λj=>(Y[j]?).join) (Hn n idx Z):=by
  have fY:=(r.f.mono b8).mono ax;refine⟨by simp[Hn],λi d hd=>?_⟩;unfold Hn at hd
  by_cases ag:i<n
  .rw[FK (by simpa using ag),AOH,if_pos ag] at hd;cases hd
  .rw[ANI (by simpa using ag)] at hd ⊢;simp only[AOS] at hd ⊢;rw[As] at hd ⊢
   cases e:idx[i-n]? with
   |none=>rw[e] at hd;cases hd
   |some j =>
    rw[e] at hd;have aq:(Z[j]?).join=some d:=Option.some.inj hd
    have hZ:Z[j]?=some (some d):=by
     cases q:Z[j]? with
     |none=>rw[q] at aq;cases aq
     |some o=>rw[q] at aq;cases o with
      |none=>cases aq
      |some w=>cases aq;rfl
    obtain⟨v,hv,iv⟩:=fY.at' j d hZ;exact⟨v,by simp[hv],iv⟩
 have a9:∀aw:Shared,aw={s3 with heap:=ai,toks:=s2.toks+([]:List (Str×Value)).length} ->
   codeAny (model X.prog X.w) X.A (.compLoop (.ListComp elt [⟨tg,iter,ifs,0⟩] scope pos) 0 (.ref it) (.ref D) (compEnvC scope cl C X.env))
    (compPost (model X.prog X.w) X.A X.xe use Q' (.ref D) C) aw:=by
  rintro aw rfl
  refine AHx (λm s'=>∃i Y' H' O' Z' L',m=t.length-i/\i<=t.length/\AI (Cs X N' scope cl C s3 H3 fp l) [] Y' H' s'/\tn i s'.heap/\(∀b∈fp,H' b=none) /\
   An H3 (O1++[D]) H' O'/\Rep X.K H' O' Y' Z' L'/\DK ok g c fe L1.length (t.drop i) Z' L'=some L9) ?_ t.length
   ⟨0,_,H3,O1++[D],Hn n idx Z,L1++[.lst []],rfl,Ef _,I4,ca,λb hb=>(f3 b hb).1,.refl _ _,⟨cm,cp⟩,by rw[ANn];exact e2⟩
  rintro m s' ⟨i,Y',H',O',Z',L',rfl,da,I',bj,bv,ak,r',el⟩
  by_cases ay:i<t.length
  .have ed:t.drop i=t[i]::t.drop (i+1):=AN4 ay;rw[ed] at el;simp only[DK] at el;split at el
   .rename_i hok;obtain⟨q1,_⟩:=ba i H' O' L' (ax.trans ak) r'.s hok;obtain⟨go,yl⟩:=q1 t[i] (by simp[ay]);refine Ai (T.item (Cs X N' scope cl C s3 H3 fp l) rfl rfl rfl hc i [] s' Y' H' (λ_ _=>False) I' (bf rfl bv) bj go) λrr s4 aa=>?_;obtain⟨u,hr,h4⟩:=aa;subst hr;refine Ai h4 λ_ s5 aa=>?_;obtain⟨x,H5,I5,r5,y5,bd,cz⟩:=aa;obtain⟨al,cj,cn⟩:=yl x H5 y5;have ck:=I5.pinned (bf rfl cz) (T.obj _ _ bd)
    have back:∀{s7:Shared} {Y7:L2.St} {H7:Hp},AI (Cs X N' scope cl C s3 H3 fp l) ([]++JS fp s5.heap) Y7 H7 s7->tn (i+1) s7.heap/\(∀b∈fp,H7 b=none):=λ{s7 Y7 H7} I7=>by
     refine⟨T.keep _ _ _ bd λb hb o e=>(I7.pin (b,o) (Eu _ (Eu _ (JU hb e)))).1,λb hb=>?_⟩;obtain⟨o,e,d⟩:=T.obj _ _ bd b hb;exact(I7.pin (b,o) (Eu _ (Eu _ (JU hb e)))).2.1
    cases eg:g t[i] Z' with
    |none=>rw[eg] at el;cases el
    |some Z1 =>
     rw[eg] at el;simp only[AX] at el;refine Ai (bg _ s5 Y' H5 x u (λY2 Ha=>Ha=H5/\Rep X.K H5 O' Y2 Z1 L') ck r5 ⟨O',Z',L',_,Z1,r'.to al cj,cn,eg,λY2 r2=>⟨rfl,r2⟩⟩) λ_ s6 aa=>?_;obtain⟨Y6,H6,I6,ci,q6⟩:=aa;subst ci;refine bI el λpc ec el=>?_;obtain⟨b1,L5⟩:=pc;simp only[AX] at el;refine Ai (bq _ s6 Y6 H6 (λb Hb=>b=b1/\∃Ob,An H6 O' Hb Ob/\Aq X.K Hb Ob L5) I6 ⟨O',Z1,L',b1,L5,q6,ec,λHb Ob st rs=>⟨rfl,Ob,st,rs⟩⟩) λcr s7 aa=>?_;obtain⟨H7,I7,cw,O7,av,bw⟩:=aa;subst cw
     cases cr with
     |false =>
      rw[if_neg (by simp)] at el;rw[if_neg (by simp)];obtain⟨b1,b2⟩:=back I7;exact⟨t.length-(i+1),by omega,i+1,Y6,H7,O7,Z1,L5,rfl,ay,I7.unpinned,b1,b2,(ak.trans al).trans av,q6.to av bw,el⟩
     |true =>
      rw[if_pos rfl] at el;rw[if_pos rfl];refine bI el λpe ee el=>?_;obtain⟨de,L6⟩:=pe;simp only[AX] at el;refine Ai (be _ s7 Y6 H7 (λv Hb=>∃Ob,An H7 O7 Hb Ob/\Aq X.K Hb Ob L6/\Is X.K Hb Ob v de) I7 ⟨O7,Z1,L5,de,L6,q6.to av bw,ee,λv Hb Ob st rs is=>⟨Ob,st,rs,is⟩⟩) λue s8 aa=>?_;obtain⟨ve,H8,I8,r8,O8,br,cb,cq⟩:=aa
      cases ek:L6[L1.length]? with
      |none=>rw[ek] at el;cases el
      |some oo =>
       rw[ek] at el
       cases oo with
       |dk _=>cases el
       |ins _ _=>cases el
       |dt _ _=>cases el
       |exn _=>cases el
       |lst ys =>
        simp only at el;split at el
        .rename_i hys;have bn:An H3 (O1++[D]) H8 O8:=((ak.trans al).trans av).trans br;have b9:O8[L1.length]?=some D:=CP bn.2 bt;obtain⟨vs,hv,il⟩:=cb.ob _ _ _ b9 ek
         refine Ai (Xf (X:=Cs X N' scope cl C s3 H3 fp l) _ s8 Y6 H8 (.ref D) [ve] (.ref D) [ue] (λv Hb=>Hb=upd H8 D (.lst (vs++[ve]))) I8 rfl (.cons r8 .nil) ⟨D,vs,ve,rfl,rfl,hv,by rw[il.length,sizeLine_eq];exact hys,rfl⟩)
          λ_ s9 ⟨_,H9,I9,_,q9⟩=>?_
         subst q9;have a6:An H8 O8 (upd H8 D (.lst (vs++[ve]))) O8:=⟨.write hv id,AV _⟩;obtain⟨b1,b2⟩:=back I9;refine⟨t.length-(i+1),by omega,i+1,Y6,_,O8,Z1,_,rfl,ay,I9.unpinned,b1,b2,bn.trans a6,⟨cb.write (o':=.lst (ys++[de])) b9 ⟨_,CT,(il.mono a6).append (.cons (cq.mono a6) .nil)⟩,((q6.f.mono av).mono br).mono a6⟩,el⟩
        .cases el
   .cases el
  .have hi2:i=t.length:=by omega
   subst hi2;rw[ANt] at el;simp only[DK] at el;split at el
   .rename_i hok;cases el;obtain⟨_,q2⟩:=ba _ H' O' _ (ax.trans ak) r'.s hok;refine Ai (T.done (Cs X N' scope cl C s3 H3 fp l) rfl rfl rfl hc _ [] s' Y' H' (λ_ _=>False) I' (bf rfl bv) bj (q2 (Ag _))) λrr s4 aa=>?_;obtain⟨hr,aj⟩:=aa;subst hr;obtain⟨m,hm,_⟩:=aj.loc;have cy:s4.os=s3.os:=aj.os;have J:AI X l Y H' s4:=I3.call' (s':=s4) (ch:=fp) cy aj.base aj.hok aj.bare λb hb=>⟨(f3 b hb).2.2.2.1,(f3 b hb).2.1,(f3 b hb).2.2.2.2.1,(f3 b hb).2.2.2.2.2⟩;exact cf C D s4 H' O' m J hm aj.free CL C0 Ccell Cpin ((b8.trans ax).trans ak) r'.s (CP ak.2 bt)
   .cases el
 exact codeAny_compStart_list (a9 _ rfl) (T.self X.A 0 _ _ _ ca (a9 _ rfl))
def AHg(z:X.calm=true)(hi:EM X tg iter fi)(S:MG X scope N' n idx)
  (h:∀q C u w v a,HX (Cs X N' scope q C u w v a) tg g/\IT (Cs X N' scope q C u w v a) ifs c/\Ab (Cs X N' scope q C u w v a) elt fe)
  (hs:∀x,foldedSetIterable iter X.env x=pure x:=by intro _;rfl):Ab X (.ListComp elt [⟨tg,iter,ifs,0⟩] scope pos) (Bk fi n idx g c fe):=by
 rintro a s Y H Q I ⟨O,Z,L,d,L',r,e,k⟩;refine bI e λp e1 e=>?_;obtain⟨⟨i,ok⟩,y⟩:=p;simp only[AX] at e
 cases t:DK ok g c fe y.length i (Hn n idx Z) (y++[.lst []]) with
 |none=>rw[t] at e;cases e
 |some L9 =>
  rw[t] at e;cases e;rw[eval_ListComp];refine Ze z hi S h hs I r e1 t λC D s' H' O' m J hn j hL h0 f l st rs hD=>?_;refine⟨m,hn,λh' sb=>?_⟩;exact⟨.ref D,H',J.turned (t':=s'.toks) (λb o hb e=>(sb.2 b hb).trans e) j hL (.inr h0) f l,rfl,k _ _ _ st rs (.ref hD)⟩
def AC5{i:Nat}{x:Str}{t:Pos}(hN:X.N.Nodup)(hc:X.calm=true)(hi:EM X tg iter fi)(S:MG X scope N' n idx)
  (j:∀w C s3 H3 fp d,HX (Cs X N' scope w C s3 H3 fp d) tg g/\IT (Cs X N' scope w C s3 H3 fp d) ifs c/\Ab (Cs X N' scope w C s3 H3 fp d) elt fe)
  (aa:X.N[i]?=some x:=by rfl) (hx:HY X.env.scope x:=by first|exact Or.inl rfl|exact Or.inr rfl)
  (ad:swapsWith (.ListComp elt [⟨tg,iter,ifs,0⟩] scope pos) (some (.Name x t)) pos'.line X.env=pure true:=by rfl)
  (hf:X.fn x=true\/X.env.scope.names.lookup x=some .local:=by first|exact .inl rfl|exact .inr rfl)
  (hs:∀x,foldedSetIterable iter X.env x=pure x:=by intro _;rfl):Du X (.Assign [.Name x t] (.ListComp elt [⟨tg,iter,ifs,0⟩] scope pos) pos') (AR i (Bk fi n idx g c fe)):=by
 rintro d s Y H E I ⟨O,Z,L,ag,r,e,k⟩;unfold AR Bk at e
 cases e1:fi Z L with
 |none=>rw[e1] at e;cases e
 |some p =>
  rw[e1] at e;obtain⟨⟨l,ok⟩,L1⟩:=p;simp only[AX] at e
  cases y:DK ok g c fe L1.length l (Hn n idx Z) (L1++[.lst []]) with
  |none=>rw[y] at e;cases e
  |some L9 =>
   rw[y] at e;cases e;rw[exec_Assign_Name_used _ _ _ _ ad];refine AH (wpAny_standAt (AH ?_))
   show wpAny _ X.A (do let _ <-comprehension (.ListComp elt [⟨tg,iter,ifs,0⟩] scope pos) scope X.env _ (newList []) false (eval iter X.env) (some (assign (.Name x t) X.env))) _ _ s
   refine AH (Dk (Ze (use:=some (assign (.Name x t) X.env)) (Q':=λ_ s'=>SP X d E .next s') hc hi S j hs I r e1 y
    λC D s' H' O' m J hn q hL h0 h u st rs hD=>?_) (λ_ s' hq=>AO (AO hq)) λ_ _ e=>e)
   show wpAny _ X.A (assign (.Name x t) X.env (.ref D)) _ _ _;refine wpAny_assign_Name (WU (v:=.ref D) J hN aa hx rfl (λs2 J2 ae=>?_) hf);obtain⟨a,sb,ha⟩:=ae
   have aC:C≠a:=by
    rcases ha with z|z
    .rw[z];exact hL
    .exact(h x a z).symm
   refine⟨m,hn.sameBut sb aC,λh' ac=>?_⟩;exact⟨_,H',J2.turned (t':=s2.toks) (λb o hb e=>(ac.2 b hb).trans e) q hL (.inr h0) h u,k _ _ _ st ⟨rs,(r.f.mono st).set (.ref hD) i⟩⟩
end
section
variable {X:Cx}{pins:List (Addr×Obj)}{Y:L2.St}{H:Hp}{s:Shared}{h':Heap}
def Nh{t':Nat}{fp:AOv}{T:Addr}{o:HO}(I:AI X pins Y H s)(f:∀b∈fp,Ed X pins H b)(k:∀b o,b∉fp->s.heap.get? b=some o->h'.get? b=some o)(l:s.heap.objs.size<=T)(x:T∉fp)
  (j:∀b∈fp,∃o,h'.get? b=some o) (new:CJ X.prog X.w (upd H T o) h' T o):AI X pins Y (upd H T o) {s with heap:=h',toks:=t'}:=by
 have h:H T=none:=I.hok.fresh l;have g:∀b u,H b=some u->b∉fp:=λb u e z=>by rw[(f b z).1] at e;cases e
 have i:∀b o,s.heap.get? b=some o->b≠T:=λb o e=>Bm (DP (Heap.lt_size e) l)
 refine I.step (g':=s.gens) (d':=s.drawn) (ch:=fp) (λb d=>⟨(f b d).2.2.2.1,(f b d).2.1,(f b d).2.2.2.2.1,(f b d).2.2.2.2.2⟩) (λb o _ _ a e _=>k b o a e) (λb o _ _ a e _=>⟨o.slots,k b o a e⟩)
  (λb o _ e n=>by rw[BX (i b o e)];exact n) (λb o a e=>⟨o,k b o a e⟩) (λb p e=>by rw[BX (Df e h)];exact e) (λb o u e=>by rw[BX (Df e h)];exact e)
  (λb ps e=>⟨#[],by rw[BX (Df e h),e];simp⟩) (λm t=>?_) (λb u e=>?_) I.bare
 .obtain⟨o,es,ep,ho,r⟩:=t;exact⟨o,es,ep,k _ o (λz=>(f _ z).2.1 rfl) ho,r⟩
 .by_cases d:b=T
  .subst d;rw[CT] at e;cases e;exact new
  .rw[BX d] at e;refine(I.hok b u e).stay (λc v a q=>k c v ?_ q) (λc q=>by rw[BX (Df q h)];exact q) λc p q=>by rw[BX (Df q h)];exact q
   rcases a with z|z
   .rw[z];exact g b u e
   .exact g c _ z
end
abbrev Its(x:Str):It:=⟨λi _=>i<x.cps.size,λi H v H'=>H'=H/\∃c,x.cps[i]?=some c/\v=.str ⟨#[c]⟩,λi _=>x.cps.size<=i⟩
def Vt{P:Program}{w:World}{K:AL}{tg:Expr}(x:Str)(t:Tok)(a:Addr)(ty:String)(aa:["enumerate","zip","dict_itemiterator","dict_reverseitemiterator","odict_iterator","itertools.zip_longest","itertools.pairwise"].contains ty=false)
  (W:∀A':Around,A'.handled=none->Walks P w A' a [a] [a] x.cps.size (SignAt x) (λi h=>h.IsStrIter a ty x t i))
  (l:∀(A:Around) (i:Nat) (s:Shared) (Q:AO0) (E:AO0),s.heap.IsStrIter a ty x t i->Q (.ref a) s->wpAny (model P w) A (pyIter (.ref a)) Q E s) :
  HR P w K tg (Its x) [a] a (λi h=>h.IsStrIter a ty x t i/\i<=x.cps.size) where
 mem:=by simp
 obj:=λi h f b j=>by
  have e:b=a:=by simpa using j
  subst e;obtain⟨⟨o,e,c,d⟩,_⟩:=f;exact⟨o,e,λv z=>by rw[d] at z;cases z⟩
 keep:=λi h p f k=>⟨let ⟨o,ho,r⟩:=f.1;⟨o,k a (by simp) o ho,r⟩,f.2⟩
 item:=by intro X hP hw hK hc i g s Y H E I y f q;subst hP hw hK;obtain⟨f0,f1,f2,f3,f4,f5⟩:=y a (by simp);refine(W X.A (I.ok.hd hc)).item i s _ _ q f.1 λv p tk hv n kk=>?_;obtain⟨c,u,ac,rfl⟩:=hv;have I1:AI X g Y H {s with heap:=p,toks:=tk}:=I.turned (λb o j e=>kk b o (by simpa using j) e) f0 f1 f3 f4 f5;obtain⟨o,e,cc,d⟩:=id n;exact⟨_,rfl,OP (s:={s with heap:=p,toks:=tk}) e cc d aa ⟨.str ⟨#[c]⟩,H,I1,⟨u,rfl⟩,⟨rfl,c,ac,rfl⟩,⟨n,q⟩,λb j=>(y b j).1⟩⟩
 done:=by intro X hP hw hK hc i g s Y H E I y f q;subst hP hw hK;obtain⟨f0,f1,f2,f3,f4,f5⟩:=y a (by simp);have hi:i=x.cps.size:=Nat.le_antisymm f.2 q;have m:=f.1;rw[hi] at m;exact(W X.A (I.ok.hd hc)).done s _ _ m λp tk kk=>⟨rfl,I.turned (λb o j e=>kk b o (by simpa using j) e) f0 f1 f3 f4 f5⟩
 self:=λA i s Q E f h=>l A i s Q E f.1 h
section
variable {X:Cx}{tg l:Expr}{f:EF}
abbrev AGk(tl:TE):TI:=λY H R=>tl Y H λv H1=>∃x,v=.str x/\R (Its x) H1
def AES{n:TE}(u:PE X l n):PI X tg l (AGk n):=by
 intro c s Y H R I h;refine Ai (u c s Y H _ I h) λv a k=>?_;obtain⟨y,j,d,p,x,e,q⟩:=k;subst e;obtain⟨t,rfl⟩:=p
 have f:∀(o:Obj) (b:Addr),b∈[a.heap.objs.size]->Ed X c j b:=λo b f=>by
  have e:b=a.heap.objs.size:=by simpa using f
  subst e;exact d.fpOk (Ag _) (d.hok.fresh (Ag _))
 cases m:x.cps.all (·<128)
 .refine wpAny_pyIter_wide m ⟨a.heap.objs.size,[a.heap.objs.size],_,_,j,rfl,d.kept (t':=a.toks) λb o e=>Heap.get?_push_of_some _ e,Vt x t _ "str_iterator" (by decide) (λr g=>Walks.strWide g _ x t) (λ_ _ _ _ _ i h=>wpAny_pyIter_striter_wide i h),
   ⟨⟨_,Heap.get?_push_size _ rfl,rfl,rfl⟩,Ef _⟩,f default,q⟩
 .refine wpAny_pyIter_ascii m ⟨a.heap.objs.size,[a.heap.objs.size],_,_,j,rfl,d.kept (t':=a.toks) λb o e=>Heap.get?_push_of_some _ e,Vt x t _ "str_ascii_iterator" (by decide) (λr g=>Walks.strAscii g _ x t) (λ_ _ _ _ _ i h=>wpAny_pyIter_striter_ascii i h),
   ⟨⟨_,Heap.get?_push_size _ rfl,rfl,rfl⟩,Ef _⟩,f default,q⟩
abbrev sgs(x:Str):List D:=x.cps.toList.map λc=>.str ⟨#[c]⟩
abbrev YV(f:EF):IF:=λZ L=>(f Z L).bind λx=>match x.1 with|.str y=>some (⟨sgs y,λ_=>true⟩,x.2)|_=>none
def AEL(q:Ab X l f):EM X tg l (YV f):=PI.weaken (AES q) λY H R j=>by
 obtain⟨O,Z,L,J,L',r,e,k⟩:=j;refine bI e λp u e=>?_;obtain⟨d,L1⟩:=p
 cases d <;> simp only[AX] at e <;> try (cases e;done)
 rename_i y;cases e;refine⟨O,Z,L,_,_,r,u,λv H1 z s t is=>?_⟩;cases is;refine⟨y,rfl,k _ _ _ s t λi H2 O2 w n g _=>⟨λd a=>?_,λh=>by show y.cps.size<=i;simpa[sgs] using h⟩⟩;simp only[sgs,As] at a
 cases b:y.cps[i]? with
 |none=>simp[b] at a
 |some c =>
  simp[b] at a;subst a;refine⟨(AOW.mp b).1,λx H' o=>?_⟩;obtain⟨e,c',m,rfl⟩:=o;subst e;rw[b] at m;cases m;exact⟨.refl _ _,g,.str _ (by simp[Str.length])⟩
end
abbrev Ite(x:Str):It:=⟨λi _=>i<x.cps.size,λi H v H'=>∃T c,H T=none/\x.cps[i]?=some c/\v=.ref T/\H'=upd H T (.tup [.int (i:Int),.str ⟨#[c]⟩]),λi _=>x.cps.size<=i⟩
def ZN{P:Program}{w:World}{A:Around}(b:A.handled=none)(a:Addr)(x:Str)(t:Tok) :
  Draws P w A a [a] x.cps.size (λi v=>∃c u,x.cps[i]?=some c/\v=.str ⟨#[c]⟩ u) (λi h=>h.IsStrIter a (strIterType x) x t i):=by
 unfold strIterType;cases d:x.cps.all (·<128)
 .exact Draws.strWide b a x t
 .exact Draws.strAscii b a x t
def ACA{P:Program}{w:World}{K:AL}{ac:AOw}{x1:Nat}{tp:Pos}(x:Str)(t:Tok)(e g:Addr)(p:e≠g) :
  HR P w K (.Tuple ac x1 tp) (Ite x) [e,g] e (λi h=>(∃a,IsEnum h e g (i:Int) a)/\h.IsStrIter g (strIterType x) x t i/\i<=x.cps.size) where
 mem:=by simp
 obj:=λi h l b f=>by
  obtain⟨⟨a,j⟩,⟨o,m,c,d⟩,_⟩:=l;rcases AY.mp f with rfl|f
  .exact⟨_,j,λv z=>by cases z⟩
  .have e':b=g:=by simpa using f
   subst e';exact⟨o,m,λv z=>by rw[d] at z;cases z⟩
 keep:=λi h h' l k=>by
  obtain⟨⟨a,j⟩,⟨o,m,r⟩,hi⟩:=l;exact⟨⟨a,k e (by simp) _ j⟩,⟨o,k g (by simp) o m,r⟩,hi⟩
 item:=by
  intro X hP hw hK hc i ai s Y H E I hf l hg;subst hP hw hK;obtain⟨⟨a,j⟩,hs,hi⟩:=l;have hh:X.A.in1.handled=none:=I.ok.hd hc;refine wpAny_pyNext_enum_itemD (ZN hh g x t) j hs hg p (by simpa using p) λv h' tk hv am ao ht hz kk=>⟨_,rfl,?_⟩;obtain⟨c,u,al,rfl⟩:=hv;refine wpAny_letOwnedTupleGo_enum am λh2 ae n=>?_;have y:e<s.heap.objs.size:=Heap.lt_size j;have aa:g<s.heap.objs.size:=by obtain⟨o,m,_⟩:=hs;exact Heap.lt_size m
  have ad:h2.IsStrIter g (strIterType x) x t (i+1):=by obtain⟨o,m,r⟩:=ao;exact⟨o,(n.2 g (Ne.symm p)).trans m,r⟩
  have ak:h2.get? s.heap.objs.size=some {cls:=.type "tuple",data:=.seq #[.int i tk,.str ⟨#[c]⟩ u]}:=(n.2 _ (GZ y)).trans ht
  have new:CJ X.prog X.w (upd H s.heap.objs.size (.tup [.int (i:Int),.str ⟨#[c]⟩])) h2 s.heap.objs.size (.tup [.int (i:Int),.str ⟨#[c]⟩]) :=
   ⟨by rw[sizeLine_eq];show 2<=16777216;decide,[.int i tk,.str ⟨#[c]⟩ u],.cons ⟨_,rfl⟩ (.cons ⟨_,rfl⟩ .nil),⟨_,ak,rfl,_,rfl⟩⟩
  have I1:=Nh (t':=tk+1) (h':=h2) I hf (λb o f q=>by
    have ag:b≠e:=λz=>f (by simp[z]);have aj:b≠g:=λz=>f (by simp[z])
    exact(n.2 b ag).trans (kk b o ag aj q)) (Ag _) (λz=>by
    rcases AY.mp z with z|z
    .exact absurd z (GZ y)
    .exact absurd (Dr.mp z) (GZ aa)) (λb f=>by
    rcases AY.mp f with rfl|f
    .exact⟨_,ae⟩
    .have e':b=g:=by simpa using f
     subst e';obtain⟨o,m,_⟩:=ad
     exact⟨o,m⟩) new
  refine⟨.ref s.heap.objs.size,_,I1,rfl,⟨s.heap.objs.size,c,I.hok.fresh (Ag _),al,rfl,rfl⟩,⟨⟨.str ⟨#[c]⟩ u,?_⟩,ad,hg⟩,λb f=>?_⟩
  .have:((i+1:Nat):Int)=(i:Int)+1:=by omega
   rw[this];exact ae
  .rw[BX]
   .exact(hf b f).1
   .rcases AY.mp f with z|z
    .rw[z];exact Bm y
    .rw[Dr.mp z];exact Bm aa
 done:=by intro X hP hw hK hc i ai s Y H E I hf l hg;subst hP hw hK;obtain⟨⟨a,j⟩,hs,hi⟩:=l;have hh:X.A.in1.handled=none:=I.ok.hd hc;obtain⟨f0,f1,f2,f3,f4,f5⟩:=hf g (by simp);have hi:i=x.cps.size:=Nat.le_antisymm hi hg;rw[hi] at hs;exact wpAny_pyNext_enum_endD (ZN hh g x t) j hs λh' eb=>⟨rfl,I.turned (t':=s.toks) (λb o f q=>eb b o f q) f0 f1 f3 f4 f5⟩
 self:=λA i s Q E l h=>by
  obtain⟨⟨a,j⟩,_⟩:=l;exact wpAny_pyIter_enum j h
abbrev FV(xs:List D):List D:=xs.zipIdx.map λp=>.tup [.int (p.2:Int),p.1]
abbrev ON(f:AF):IF:=λZ L=>(f Z L).bind λx=>match x.1 with|[.str y]=>some (⟨FV (sgs y),λ_=>true⟩,x.2)|_=>none
def ZJ(y:Str)(i:Nat):(FV (sgs y))[i]?=(y.cps[i]?).map λc=>.tup [.int (i:Int),.str ⟨#[c]⟩]:=by unfold FV sgs;rw[As,List.getElem?_zipIdx,As,Array.getElem?_toList];cases y.cps[i]? <;> simp
def AHb(y:Str):(FV (sgs y)).length=y.cps.size:=by simp[FV,sgs]
section
variable {X:Cx}{elts:AOw}{x1:Nat}{tp p pos:Pos}{a:Expr}{fa:AF}
def AKd(hm:X.mg "enumerate"=none)(ha:Ec X [a] fa)(hg:Gl X "enumerate":=by rfl)(hs:starEach [a] X.env=[(false,eval a X.env)]:=by rfl):EM X (.Tuple elts x1 tp) (.Call (.Name "enumerate" p) [a] [] pos) (ON fa):=by
 rintro f s Y H R I ⟨O,Z,L,J,L',r,e,k⟩;refine bI e λq e1 e=>?_;obtain⟨ds,L1⟩:=q;simp only[AX] at e;split at e
 .rename_i y;simp only[Option.some.injEq,Prod.mk.injEq] at e;obtain⟨hJ,hL⟩:=e;subst hJ;subst hL;refine Call_ (Hh I hg hm (u:=.type "enumerate") (by decide +kernel) (PyProof.Rows.callWith_type1 (Ai (ha pos f s Y H (λvs g=>vs=[.str y]/\∃l,An H O g l/\Aq X.K g l L1) I ⟨O,Z,L,_,_,r,e1,λvs g l w z is=>?_⟩) λus j ⟨vs,g,m,r1,ev,l,w,z⟩=>?_) hs rfl))
  .cases is with
   |cons i1 i2=>cases i1;cases i2;exact⟨rfl,l,w,z⟩
  .subst ev;obtain⟨u,rfl,t,rfl⟩:=Ds r1;refine call_enumerate_str λh' he ac hz kk=>?_;refine wpAny_pyIter_enum he ?_;have I2:AI X f Y g {j with heap:=h'}:=m.kept (t':=j.toks) kk;refine⟨j.heap.objs.size+1,[j.heap.objs.size+1,j.heap.objs.size],_,_,g,rfl,I2,ACA y t _ _ (Nat.succ_ne_self _),⟨⟨_,he⟩,ac,Ef _⟩,λb hb=>?_,k (Ite y) g l w z λi H2 O2 L2 ad aa _=>?_⟩
   .rcases AY.mp hb with rfl|hb
    .exact m.fpOk (ANN _) (m.hok.fresh (ANN _))
    .have e':b=j.heap.objs.size:=by simpa using hb
     subst e';exact m.fpOk (Ag _) (m.hok.fresh (Ag _))
   .refine⟨λd n=>?_,λh=>by rw[AHb] at h;exact h⟩;simp only at n;rw[ZJ] at n
    cases o:y.cps[i]? with
    |none=>simp[o] at n
    |some c =>
     simp[o] at n;subst n;refine⟨(AOW.mp o).1,λx H' yy=>?_⟩;obtain⟨T,c',hT,h1,rfl,rfl⟩:=yy;rw[o] at h1;obtain rfl:=Option.some.inj h1;have v:An H2 O2 (upd H2 T (.tup [.int (i:Int),.str ⟨#[c]⟩])) O2:=⟨.new hT,AV _⟩;exact⟨v,aa.ext λa u e=>by rw[BX (Df e hT)];exact e,.tup (Be.of CT) (.cons (.int _) (.cons (.str _ (by simp[Str.length])) .nil))⟩
 .cases e
end
mutual
def D.noRef:D->Bool
 |.tup xs=>D.noRefL xs
 |.fz xs=>D.noRefL xs
 |.ref _=>false
 |_=>true
def D.noRefL:List D->Bool
 |[]=>true
 |x::xs=>D.noRef x&&D.noRefL xs
end
section
variable {K:AL}{H H' H0:Hp}{O O':AOv}
def Xc{v:V}{d:D}{vs:List V}{ds:List D}(a:d.noRef=true->Is K H O' v d)(b:D.noRefL ds=true->AT K H O' vs ds)(e:D.noRefL (d::ds)=true):AT K H O' (v::vs) (d::ds):=by have e:(D.noRef d&&D.noRefL ds)=true:=e;rw[Bs] at e;exact .cons (a e.1) (b e.2)
def Is.nr{v:V}{d:D}(h:Is K H O v d):d.noRef=true->Is K H O' v d :=
 Is.rec (motive_1:=λv d _=>d.noRef=true->Is K H O' v d) (motive_2:=λv d _=>D.noRefL d=true->AT K H O' v d) (λ_=>.non) (λb _=>.bl b) (λb _=>.int b) (λb h _=>.str b h) (λh _ r e=>.tup h (r e)) (λh _ r e=>.fz h (r e)) (λ_ e=>Bool.noConfusion (show false=true from e)) (λn _=>.ty n) (λ_=>.nil) (λ_ _ a b=>Xc a b) h
def AT.nr{v:List V}{d:List D}(h:AT K H O v d):D.noRefL d=true->AT K H O' v d :=
 AT.rec (motive_1:=λv d _=>d.noRef=true->Is K H O' v d) (motive_2:=λv d _=>D.noRefL d=true->AT K H O' v d) (λ_=>.non) (λb _=>.bl b) (λb _=>.int b) (λb h _=>.str b h) (λh _ r e=>.tup h (r e)) (λh _ r e=>.fz h (r e)) (λ_ e=>Bool.noConfusion (show false=true from e)) (λn _=>.ty n) (λ_=>.nil) (λ_ _ a b=>Xc a b) h
def AIQ(p:O <+: O'){k:Nat}{a:Addr}(q:O[k]?=some a){v:V}(h:Is K H' O' v (.ref k)):Is K H' O v (.ref k):=by
 cases h with
 |ref b =>
  have:=CP p q;rw[b] at this;cases this;exact .ref q
def AIP{ds:List D}(r:∀{v:List V},AT K H' O' v ds->AT K H' O v ds){v:V}(h:Is K H' O' v (.tup ds)):Is K H' O v (.tup ds):=by cases h with|tup q a=>exact .tup q (r a)
def AIR{ds:List D}(r:∀{v:List V},AT K H' O' v ds->AT K H' O v ds){v:V}(h:Is K H' O' v (.fz ds)):Is K H' O v (.fz ds):=by cases h with|fz q r'=>exact .fz q (r r')
def AIS{d:D}{ds:List D}(a:∀{v:V},Is K H' O' v d->Is K H' O v d)(r:∀{v:List V},AT K H' O' v ds->AT K H' O v ds){v:List V}(h:AT K H' O' v (d::ds)):AT K H' O v (d::ds):=by cases h with|cons c b=>exact .cons (a c) (r b)
def AT.back(p:O <+: O'){c:List V}{d:List D}(i:AT K H0 O c d):∀{v:List V},AT K H' O' v d->AT K H' O v d :=
 AT.rec (motive_1:=λ_ d _=>∀{v:V},Is K H' O' v d->Is K H' O v d) (motive_2:=λ_ d _=>∀{v:List V},AT K H' O' v d->AT K H' O v d) (λh=>h.nr rfl) (λ_ _ h=>h.nr rfl) (λ_ _ h=>h.nr rfl) (λ_ _ _ h=>h.nr rfl) (λ_ _ r _ h=>AIP r h) (λ_ _ r _ h=>AIR r h) (λq _ h=>AIQ p q h) (λ_ _ h=>h.nr rfl) (λh=>h.nr rfl) (λ_ _ a b _ h=>AIS a b h) i
def Sh{U:Type}{f:U->D}(h:∀a,(f a).noRef=true):∀xs:List U,D.noRefL (xs.map f)=true
 |[]=>rfl
 |x::r=>by rw[Al,D.noRefL,h x,Sh h r];rfl
def keyD_noRef(k:Key):(keyD k).noRef=true:=by cases k <;> rfl
def AGb(k:Key ⊕ List Key):(Ih k).noRef=true:=by
 cases k with
 |inl k=>exact keyD_noRef k
 |inr a=>exact Sh keyD_noRef a
def AFb(k:NK):(EG k).noRef=true:=Sh AGb k
def Aq.back{L M:AB}(m:Aq K H O L)(st:An H O H' O')(q:Aq K H' O' (L++M)):Aq K H' O L:=by
 refine⟨m.len,m.nd,λk a o p l=>?_⟩;have j:=m.ob k a o p l;have h:=q.ob k a o (CP st.2 p) (by rw[FK (Ax.mp l).1];exact l)
 cases o with
 |lst y =>
  obtain⟨w,_,e⟩:=j;obtain⟨v,d,b⟩:=h;exact⟨v,d,AT.back st.2 e b⟩
 |dk n =>
  obtain⟨f,_,_,e⟩:=j;obtain⟨g,d,i,b⟩:=h;exact⟨g,d,i,AT.back st.2 e b⟩
 |dt n x =>
  obtain⟨f,_,_,e,_⟩:=j;obtain⟨g,d,i,b,s⟩:=h;exact⟨g,d,i,AT.back st.2 e b,λu r=>(s u r).nr (AFb _)⟩
 |ins c fs =>
  obtain⟨_,_,f,_,_,_,e⟩:=j;obtain⟨C,t,g,z,d,i,b⟩:=h;exact⟨C,t,g,z,d,i,AT.back st.2 e b⟩
 |exn c=>exact h
end
abbrev GA(N:AOt)(ds:List D):Fm:=ds.map some++ANH (N.length-ds.length) none
abbrev GB(K:AL)(G:GL):Sp:=λvs H Q _=>rC K G vs H Q
abbrev AAO(B:SF)(N:AOt)(xs:List D)(L:AB)(d:D)(L':AB):Prop :=
 ∃L'',(B (GA N xs) L=some (.ret d L'')\/(d=.non/\∃Z',B (GA N xs) L=some (.next Z' L'')))/\(L''=L'\/(L'=L/\L <+: L''/\d.noRef=true))
structure Am (P:Program) (w:World) (K:AL) (mg:AOs) (base:Heap) (k:Nat) (x:Str) (G:GL):Prop where
 ex:∃f fd ps,DF P w K mg base CX0 k f fd ps (GB K G)/\mg x=some (.ref f)/\GY K (.ref f)=true/\Dx K fd ps []
section
variable {P:Program}{w:World}{K:AL}{mg:AOs}{base:Heap}
def Yv{H:Hp}{O:AOv}{N:AOt}{vs:List V}{ds:List D}(h:AT K H O vs ds):Hs K H O (L2.Gd N vs) (GA N ds):=by
 refine⟨by simp[L2.Gd,GA,h.length],λi d e=>?_⟩;unfold GA at e;unfold L2.Gd
 by_cases a:i<ds.length
 .rw[FK (by simpa using a),As] at e;rw[FK (by simpa[h.length] using a),As]
  cases q:ds[i]? with
  |none=>rw[q] at e;cases e
  |some f =>
   rw[q] at e;cases e;obtain⟨v,b,c⟩:=h.get q;exact⟨v,by simp[b],c⟩
 .rw[ANI (by simpa using a),AOH] at e;split at e <;> cases e
def Td{x b:Str}{st:Stmt}{f:Addr}{y:FuncData}{N ps:AOt}{k:Nat}(F:Hr K x b st f y)(S:Ar N ps (Ad st))(G:GL)(B:SF)(n:∀i L r,G i L=some r->i.length=ps.length)
  (hb:∀(j:Value) (A:Around) (a:List Env) (s:Shared) (H:Hp) (E:XK),Room k (A.deeper (envOfC b (Ad st) s.heap.objs.size f j)) ->
   FY (Cr CX0 P w K mg base N b (Ad st) f j A a s H E).nox (Fp st) B)
  (hG:∀i L d t,G i L=some (d,t)->AAO B N i L d t):DF P w K mg base CX0 (k+1) f y ps (GB K G):=by
 refine F.ok S (λvs H Q E h=>?_) (λj A a s H vs Q E hr h=>?_)
 .obtain⟨O,L,i,d,t,_,is,e,_⟩:=h;rw[is.length];exact n _ _ _ e
 .obtain⟨O,L,i,d,t,rs,is,e,kk⟩:=h;refine⟨_,hb j A a s H E hr,?_⟩;obtain⟨u,p,z⟩:=hG _ _ _ _ e
  have c:∀v l m,An H O l m->Aq K l m u->Is K l m v d->Q v l:=λv l m g q o=>by
   rcases z with rfl|⟨rfl,⟨M,rfl⟩,nr⟩
   .exact kk v l m g q o
   .exact kk v l O ⟨g.1,AV _⟩ (rs.back g q) (o.nr nr)
  rcases p with p|⟨rfl,Z',p⟩
  .exact⟨O,GA N i,L,_,⟨rs,Yv is⟩,p,c⟩
  .exact⟨O,GA N i,L,_,⟨rs,Yv is⟩,p,λY' l m g r'=>c _ l m g r'.s .non⟩
def Am.mono{j k:Nat}{x:Str}{G:GL}(F:Am P w K mg base j x G)(h:j<=k):Am P w K mg base k x G:=by obtain⟨f,c,ps,a,b⟩:=F.ex;exact⟨f,c,ps,a.mono h,b⟩
def Am.imp{k:Nat}{x:Str}{G i:GL}(F:Am P w K mg base k x G)(h:∀c L r,i c L=some r->G c L=some r):Am P w K mg base k x i:=by obtain⟨f,j,ps,a,b⟩:=F.ex;exact⟨f,j,ps,a.imp λo H Q E g=>(by obtain⟨O,L,c,d,n,l,is,e,m⟩:=g;exact⟨O,L,c,d,n,l,is,h _ _ _ e,m⟩),b⟩
end
section
variable {X:Cx}{k:Nat}{x:Str}{G:GL}{p pos:Pos}{e:Expr}{es:AOw}{f:AF}
def AMV(F:Am X.prog X.w X.K X.mg X.base k x G)(s:Room k X.A)(n:Ec X (e::es) f)(v:Gl X x:=by rfl)(i:(x == ("__debug__":Str))=false:=by decide)
  (o:Ej e=true:=by rfl) (g:es.all Ej=true:=by rfl):Ab X (.Call (.Name x p) (e::es) [] pos) (AK G f):=by
 obtain⟨fa,fd,ps,a,b,c,d⟩:=F.ex
 exact PE.weaken (AEv a s v b c d .nil Sa n i (Hd o) (IZ g)) λY H Q h=>by
  have q:=Ol h;obtain⟨O,Z,L,u,z,r,e,k⟩:=q;exact⟨O,Z,L,u,z,r,e,λj l t y m is=>by show rC X.K G (j++[]) l Q;rw[ANg];exact k j l t y m is⟩
def AMU(F:Am X.prog X.w X.K X.mg X.base k x G)(g:Room k X.A)(j:Gl X x:=by rfl)(f:(x == ("__debug__":Str))=false:=by decide):Ab X (.Call (.Name x p) [] [] pos) (AK G AG):=by
 obtain⟨n,m,ps,a,b,c,d⟩:=F.ex
 exact PE.weaken (AEu a g j b c d .nil Sa f) λY H Q h=>by
  obtain⟨O,Z,L,i,l,r,e,k⟩:=h;exact⟨O,L,[],i,l,r.s,.nil,e,k⟩
end
noncomputable instance decMul (a b:Int):Decidable (IntMulOk a b):=by unfold IntMulOk;infer_instance
section
variable {X:Cx}
def AFR:Aw X (binaryOp .Mult) (rI IntMulOk λi j=>.int (i*j)):=Nx λ_ _ _ _ _ _ _ a q=>mul_int q a
def op_catE:Aw X (binaryOp .Add) (λx y H Q=>∃a b t,x=.ref a/\y=.ref b/\Be X.K H a []/\Be X.K H b t/\Q (.ref b) H):=by
 intro p s Y H x y v u Q I rx ry h;obtain⟨a,b,t,rfl,rfl,ha,hb,q⟩:=h;cases rx;cases ry;obtain⟨g,w,p1,_⟩:=I.tuple ha;obtain⟨m,r2,p2,_⟩:=I.tuple hb;have hi:g=[]:=w.nil_iff.mpr rfl;subst hi;obtain⟨⟨aa,dd,o,z⟩,ho,l,n,k⟩:=p1;obtain⟨⟨r,f,i,j⟩,e,d,n2,c⟩:=p2;simp only at l k d c;subst l k d c
 exact concat_meets ⟨_,ho,rfl⟩ ⟨_,e,rfl⟩ noFill_tuple_add seq_tuple_add AOT AOU (AOV _ _)
  (tuple_addW0 a b _ _ n n2 dd f z j rfl) ⟨ho,e,.ref b,H,I,rfl,q⟩
abbrev BE:G2
 |.int i,.int j,L=>some (.int (i+j),L)
 |.str x,.str y,L=>if x.length+y.length<=16777216 then some (.str (x++y),L) else none
 |.ref a,.ref b,L=>match L[a]?,L[b]? with
  |some (.lst xs),some (.lst ys)=>if xs.length+ys.length<=16777216 then some (.ref L.length,L++[.lst (xs++ys)]) else none
  |_,_=>none
 |.tup xs,.tup ys,L=>if xs=[] then some (.tup ys,L) else if xs.length+ys.length<=16777216 then some (.tup (xs++ys),L) else none
 |_,_,_=>none
def AAM{G:Prop}(h:∀P:Prop,(G->P)->P):G:=h G id
def or5{A B C D E:Prop}(h:∀P:Prop,(A->P)->(B->P)->(C->P)->(D->P)->(E->P)->P):A\/B\/C\/D\/E:=h _ .inl (λh=>.inr (.inl h)) (λh=>.inr (.inr (.inl h))) (λh=>.inr (.inr (.inr (.inl h)))) λh=>.inr (.inr (.inr (.inr h)))
def AK1:Ck X (binaryOp .Add) BE:=Aw.weaken (Aw.or AFQ (Aw.or AFP (Aw.or AFO (Aw.or AFN op_catE)))) λv u H Q h=>or5 λP k1 k2 k3 k4 z=>by
 obtain⟨O,L,x,y,d,L',c,o,l,e,k⟩:=h;unfold BE at e;split at e
 .cases o;cases l;cases e;exact k1 ⟨_,_,rfl,rfl,k _ _ _ (.refl _ _) c (.int _)⟩
 .cases o with|str _ s=>cases l with|str _ j =>
   split at e
   .rename_i hz;cases e;exact k2 ⟨_,_,rfl,rfl,by rw[sizeLine_eq];exact hz,k _ _ _ (.refl _ _) c (.str _ (by rw[strLen_append];exact hz))⟩
   .cases e
 .rename_i a b
  cases o with|ref ha=>cases l with|ref hb =>
   split at e
   .rename_i xs ys e1 e2;split at e
    .rename_i hz;cases e;obtain⟨i,hv,w⟩:=c.ob _ _ _ ha e1;obtain⟨f,hw,t⟩:=c.ob _ _ _ hb e2;refine k3 ⟨_,_,i,f,rfl,rfl,hv,hw,by rw[w.length,t.length,sizeLine_eq];exact hz,λp n=>?_⟩;have m:An H O (upd H p (.lst (i++f))) (O++[p]):=⟨.new n,Ac _ _⟩;exact k _ _ _ m (c.new n ⟨_,CT,(w.append t).mono m⟩) (.ref (by rw[<-c.len];simp))
    .cases e
   .cases e
 .rename_i xs ys;split at e
  .rename_i hx;subst hx;cases e
   cases o with|@tup a i _ s g=>cases l with|@tup b f _ j r =>
    cases g;exact z ⟨_,_,f,rfl,rfl,s,j,k _ _ _ (.refl _ _) c (.tup j r)⟩
  .rename_i hx;split at e
   .rename_i hz;cases e
    cases o with|@tup a i _ s g=>cases l with|@tup b f _ j r =>
     refine k4 ⟨_,_,i,f,rfl,rfl,s,j,?_,by rw[g.length,r.length,sizeLine_eq];exact hz,λq=>?_,λq p n=>?_⟩
     .rintro rfl;cases g;exact hx rfl
     .subst q;cases r;rw[ANg] at k;exact k _ _ _ (.refl _ _) c (.tup s g)
     .have m:An H O (upd H p (.tup (i++f))) O:=⟨.new n,AV _⟩;exact k _ _ _ m (c.ext λa u e=>by rw[BX (Df e n)];exact e) (.tup (Be.of CT) ((g.append r).mono m))
   .cases e
 .cases e
abbrev gI(C:Int->Int->Bool)(f:Int->Int->D):G2:=λx y L=>match x,y with|.int i,.int j=>if C i j=true then some (f i j,L) else none|_,_=>none
def IA{f:Value->Value->Sem Value}{C:Int->Int->Prop}{c:Int->Int->Bool}{g:Int->Int->V}{b:Int->Int->D}(h:Aw X f (rI C g))(m:∀i j,c i j=true->C i j)(o:∀K H O i j,Is K H O (g i j) (b i j)):Ck X f (gI c b) :=
 Aw.weaken h λv u H Q a=>by
  obtain⟨O,L,x,y,d,q,l,p,n,e,k⟩:=a;unfold gI at e;split at e
  .split at e
   .rename_i hcc;cases p;cases n;cases e;exact⟨_,_,rfl,rfl,m _ _ hcc,k _ _ _ (.refl _ _) l (o _ _ _ _ _)⟩
   .cases e
  .cases e
def LG{f:Value->Value->Sem Value}{g:Int->Int->V}(h:Aw X f (Hf g)):Aw X f (rI (λ_ _=>True) g):=Aw.weaken h λx y H Q c=>by obtain⟨i,j,a,b,_,q⟩:=c;exact⟨i,j,a,b,q⟩
abbrev Ky(_ _:Int):Bool:=true
abbrev Lp(_ j:Int):Bool:=decide (0<j)&&decide (j<10000000000000000000000000000000000000000000000000000000000000000000000000000000000000000000000000000)
abbrev Om(_ j:Int):Bool:=decide (0<j)
abbrev To(i j:Int):Bool:=decide (0<=j)&&decide (j<=1000000)&&decide (i.natAbs<2 ^ 64)
abbrev cMul(i j:Int):Bool:=decide (IntMulOk i j)
abbrev Fk:G2:=gI Ky λi j=>.int (i-j)
abbrev Cd:G2:=gI Lp λi j=>.int (i / j)
abbrev BK:G2:=gI Om λi j=>.int (i % j)
abbrev Gj:G2:=gI To λi j=>.int (i ^ j.toNat)
def AKi:Ck X (binaryOp .Sub) Fk:=IA (LG AE9) (λ_ _ _=>True.intro) λ_ _ _ _ _=>.int _
def AGF{j:Int}(h0:0<j)(b:j<10000000000000000000000000000000000000000000000000000000000000000000000000000000000000000000000000000):j.natAbs.log2<340:=by
 have a:j.natAbs≠0:=by omega
 refine(Nat.log2_lt a).mpr ?_;have e:10000000000000000000000000000000000000000000000000000000000000000000000000000000000000000000000000000<(2:Nat) ^ 340:=by decide +kernel
 omega
def AFM:Aw X (binaryOp .FloorDiv) (rI (λ_ j=>0<j/\j<10000000000000000000000000000000000000000000000000000000000000000000000000000000000000000000000000000) λi j=>.int (i / j)):=Nx λi j _ _ _ _ _ a q=>by
 rw[<-Int.fdiv_eq_ediv_of_nonneg i (Int.le_of_lt a.1)] at q;exact floordiv_int (by omega) q (.inl (PyProof.noPylong_of_log2 (by have:=AGF a.1 a.2;omega)))
def AKy:Ck X (binaryOp .FloorDiv) Cd:=IA AFM (λi j h=>by simp only[Lp,Bs,decide_eq_true_eq] at h;exact h) λ_ _ _ _ _=>.int _
def AKp:Ck X (binaryOp .Mod) BK:=IA AFF (λi j h=>by simp[Om] at h;exact h) λ_ _ _ _ _=>.int _
def AKj:Ck X (binaryOp .Pow) Gj:=IA AFA (λi j h=>by simp[To] at h;exact⟨h.1.1,h.1.2,h.2⟩) λ_ _ _ _ _=>.int _
abbrev JT(x:Str)(n:Int):Bool:=decide (-1000000<=n)&&decide (n<=1000000)&&decide (x.length*n.toNat<=16777216)
abbrev CI:G2:=λx y L=>match x,y with
 |.int i,.int j=>if cMul i j=true then some (.int (i*j),L) else none
 |.str x,.int n=>if JT x n=true then some (.str (Txt.mul x n),L) else none
 |_,_=>none
def Xt:∀(l:List (Array Nat)) (a:Array Nat),(l.foldl (·++·) a).size=a.size+(l.map (·.size)).sum
 |[],a=>by simp
 |b::r,a=>by rw[ANE,Xt r];simp[Array.size_append];omega
def AFg(x:Str)(n:Int):(Txt.mul x n).length<=x.length*n.toNat:=by
 unfold Txt.mul;split
 .exact Ef _
 .split
  .rename_i h1 a;simp only[Bool.or_eq_true,beq_iff_eq] at a;rcases a with a|a
   .subst a;simp
   .rw[a];simp
  .show((ANH n.toNat x.cps).foldl (·++·) #[]).size<=_;rw[Xt];simp[Str.length,Nat.mul_comm]
def AFE:Aw X (binaryOp .Mult) (λx y H Q=>∃z n,x=.str z/\y=.int n/\JT z n=true/\Q (.str (Txt.mul z n)) H):=by
 intro c s Y H x y v u Q I f d h;obtain⟨z,n,rfl,rfl,b,q⟩:=h;obtain⟨t,rfl⟩:=f;obtain⟨g,rfl⟩:=d;simp only[JT,Bs,decide_eq_true_eq] at b;obtain⟨⟨j,l⟩,i⟩:=b;refine SB.mul ⟨?_,λo _ m=>?_,λ_ _=>?_⟩ λg k=>⟨.str _,H,I.tok _,⟨_,rfl⟩,q⟩
 .have e1:decide (n < -(2 ^ 63:Int))=false:=decide_eq_false (by omega);have a:decide (n ≥ 2 ^ 63)=false:=decide_eq_false (by omega);rw[e1,a];rfl
 .have e1:(z.length:Int)*n<=16777216:=by
   have e:((z.length*n.toNat:Nat):Int)<=((16777216:Nat):Int):=Int.ofNat_le.mpr i;rw[Int.natCast_mul,Int.toNat_of_nonneg (by omega)] at e;omega
  have a:(z.length:Int)<=((2:Int) ^ 63-1) / n:=Int.le_ediv_of_mul_le (by omega) (by omega);omega
 .have h5:¬(z.length*n.toNat>sizeLine):=by rw[sizeLine_eq];omega
  exact decide_eq_false h5
def AKo:Ck X (binaryOp .Mult) CI:=Aw.weaken (Aw.or AFR AFE) λv u H Q a=>by
 obtain⟨O,L,x,y,d,g,b,f,c,e,k⟩:=a;unfold CI at e;split at e
 .split at e
  .rename_i hc;cases f;cases c;cases e;exact .inl ⟨_,_,rfl,rfl,of_decide_eq_true hc,k _ _ _ (.refl _ _) b (.int _)⟩
  .cases e
 .split at e
  .rename_i hc;cases f;cases c;cases e;refine .inr ⟨_,_,rfl,rfl,hc,k _ _ _ (.refl _ _) b (.str _ ?_)⟩;simp only[JT,Bs,decide_eq_true_eq] at hc;exact Cf (AFg _ _) hc.2
  .cases e
 .cases e
abbrev gLt:G2:=gI Ky λi j=>.bl (decide (i<j))
abbrev Oc:G2:=gI Ky λi j=>.bl (decide (i<=j))
abbrev Fl:G2:=gI Ky λi j=>.bl (decide (j<i))
abbrev Oe:G2:=gI Ky λi j=>.bl (decide (j<=i))
def AKq:Ck X (compareOp .Lt) gLt:=IA (LG op_lt) (λ_ _ _=>True.intro) λ_ _ _ _ _=>.bl _
def AKr:Ck X (compareOp .LtE) Oc:=IA (LG AFG) (λ_ _ _=>True.intro) λ_ _ _ _ _=>.bl _
def AKw:Ck X (compareOp .Gt) Fl:=IA (LG AFK) (λ_ _ _=>True.intro) λ_ _ _ _ _=>.bl _
def AKx:Ck X (compareOp .GtE) Oe:=IA (LG AFL) (λ_ _ _=>True.intro) λ_ _ _ _ _=>.bl _
abbrev DX:D->V
 |.non=>.non|.bl b=>.bl b|.int i=>.int i|.str x=>.str x|_=>.non
abbrev BA:D->Bool
 |.non=>true|.bl _=>true|.int _=>true|.str _=>true|_=>false
def Em{K:AL}{H:Hp}{O:AOv}{v:V}{d:D}(h:Is K H O v d)(f:BA d=true):v=DX d:=by cases h <;> first|rfl|(simp[BA] at f)
def AHM{K:AL}{H:Hp}{O:AOv}:∀{vs:List V} {ds:List D},AT K H O vs ds->ds.all BA=true->vs=ds.map DX:=by
 intro vs ds h f
 induction ds generalizing vs with
 |nil=>cases h;rfl
 |cons x ds c =>
  cases h with|cons a b =>
  rw[ANU,Bs] at f;rw[Al,Em a f.1,c b f.2]
def Jh{d:D}(f:BA d=true):GN (DX d)=true:=by cases d <;> simp_all [BA,DX,GN]
def IX{a b:D}(c:BA a=true)(d:BA b=true):(DX a=DX b)↔a=b:=by cases a <;> simp[BA] at c <;> cases b <;> simp[BA] at d <;> simp[DX]
abbrev Ex(a b:D):Bool:=BA a&&BA b&&SI (DX a) (DX b)
abbrev Ba:G2:=λx y L=>if Ex x y=true then some (.bl (decide (x=y)),L) else none
abbrev FR:G2:=λx y L=>if Ex x y=true then some (.bl (!decide (x=y)),L) else none
def AK0:Ck X (compareOp .Eq) Ba:=Aw.weaken XU λv u H Q a=>by
 obtain⟨O,L,x,y,d,l,f,j,i,e,k⟩:=a;unfold Ba at e;split at e
 .rename_i h;cases e;simp only[Ex,Bs] at h;obtain⟨⟨b,c⟩,g⟩:=h;rw[Em j b,Em i c];refine⟨g,?_⟩;have:decide (DX x=DX y)=decide (x=y):=by simp[IX b c]
  rw[this];exact k _ _ _ (.refl _ _) f (.bl _)
 .cases e
def AKn:Ck X (compareOp .NotEq) FR:=Aw.weaken XT λv u H Q a=>by
 obtain⟨O,L,x,y,d,l,f,j,i,e,k⟩:=a;unfold FR at e;split at e
 .rename_i h;cases e;simp only[Ex,Bs] at h;obtain⟨⟨b,c⟩,g⟩:=h;rw[Em j b,Em i c];refine⟨g,?_⟩;have:decide (DX x=DX y)=decide (x=y):=by simp[IX b c]
  rw[this];exact k _ _ _ (.refl _ _) f (.bl _)
 .cases e
abbrev Hi:D->Bool|.non=>true|_=>false
def YL{K:AL}{H:Hp}{O:AOv}{v:V}{d:D}(h:Is K H O v d):decide (v=.non)=Hi d:=by cases h <;> simp[Hi]
abbrev isBl(b:Bool):D->Bool|.bl c=>c == b|_=>false
def AFH:Aw X (compareOp .Is) (λx y H Q=>∃b,y=.bl b/\(∀n,x≠.ty n)/\Q (.bl (decide (x=.bl b))) H):=by
 intro d s Y H x y v u Q I a e h;obtain⟨b,rfl,f,q⟩:=h;cases e
 cases x with
 |non=>cases a;exact AO (BL I q rfl)
 |bl c=>cases a;exact AO (BL I q (by cases c <;> cases b <;> rfl))
 |int c=>obtain⟨t,rfl⟩:=a;exact AO (BL I q rfl)
 |str c=>obtain⟨t,rfl⟩:=a;exact AO (BL I q rfl)
 |byt c=>obtain⟨t,rfl⟩:=a;exact AO (BL I q rfl)
 |flt c=>obtain⟨t,rfl⟩:=a;exact AO (BL I q rfl)
 |ref c=>cases a;exact AO (BL I q rfl)
 |ty c=>exact absurd rfl (f c)
def AFD:Aw X (compareOp .IsNot) (λx y H Q=>∃b,y=.bl b/\(∀n,x≠.ty n)/\Q (.bl (!decide (x=.bl b))) H):=by
 intro d s Y H x y v u Q I a e h;obtain⟨b,rfl,f,q⟩:=h;cases e
 cases x with
 |non=>cases a;exact AO (BL I q rfl)
 |bl c=>cases a;exact AO (BL I q (by cases c <;> cases b <;> rfl))
 |int c=>obtain⟨t,rfl⟩:=a;exact AO (BL I q rfl)
 |str c=>obtain⟨t,rfl⟩:=a;exact AO (BL I q rfl)
 |byt c=>obtain⟨t,rfl⟩:=a;exact AO (BL I q rfl)
 |flt c=>obtain⟨t,rfl⟩:=a;exact AO (BL I q rfl)
 |ref c=>cases a;exact AO (BL I q rfl)
 |ty c=>exact absurd rfl (f c)
def YM{K:AL}{H:Hp}{O:AOv}{v:V}{d:D}{b:Bool}(h:Is K H O v d):decide (v=.bl b)=isBl b d:=by cases h <;> simp[isBl];rename_i c;cases c <;> cases b <;> rfl
abbrev noTy:D->Bool|.ty _=>false|_=>true
def Xe{K:AL}{H:Hp}{O:AOv}{v:V}{d:D}(h:Is K H O v d)(n:noTy d=true):∀m,v≠.ty m:=by
 intro m z
 cases h <;> first|(cases z;done)|(simp[noTy] at n)
abbrev IJ:G2:=λx y L=>match y with|.non=>some (.bl (Hi x),L)|.bl b=>if noTy x=true then some (.bl (isBl b x),L) else none|_=>none
abbrev Ij:G2:=λx y L=>match y with|.non=>some (.bl (!Hi x),L)|.bl b=>if noTy x=true then some (.bl (!isBl b x),L) else none|_=>none
def AKt:Ck X (compareOp .Is) IJ:=Aw.weaken (Aw.or op_isN AFH) λv u H Q a=>by
 obtain⟨O,L,x,y,d,g,c,b,f,e,k⟩:=a;unfold IJ at e;split at e
 .cases e;cases f;refine .inl ⟨rfl,?_⟩;rw[YL b];exact k _ _ _ (.refl _ _) c (.bl _)
 .split at e
  .rename_i hn;cases e;cases f;refine .inr ⟨_,rfl,Xe b hn,?_⟩;rw[YM b];exact k _ _ _ (.refl _ _) c (.bl _)
  .cases e
 .cases e
def AKs:Ck X (compareOp .IsNot) Ij:=Aw.weaken (Aw.or AFB AFD) λv u H Q a=>by
 obtain⟨O,L,x,y,d,g,c,b,f,e,k⟩:=a;unfold Ij at e;split at e
 .cases e;cases f;refine .inl ⟨rfl,?_⟩;rw[YL b];exact k _ _ _ (.refl _ _) c (.bl _)
 .split at e
  .rename_i hn;cases e;cases f;refine .inr ⟨_,rfl,Xe b hn,?_⟩;rw[YM b];exact k _ _ _ (.refl _ _) c (.bl _)
  .cases e
 .cases e
abbrev GH(i j:Str):Bool:=!(Builtin.Str.occurrences j i 0 j.length 1).isEmpty
abbrev Im(a b:D):Bool:=eqV (DX a) (DX b)
abbrev DB(x:D)(xs:List D):Bool:=xs.any λy=>Im y x
abbrev Cq(d:D)(L:AB):Option (List D):=match d with
 |.tup xs=>some xs|.fz xs=>some xs
 |.ref k=>match L[k]? with|some (.lst xs)=>some xs|_=>none
 |_=>none
def IY{K:AL}{H:Hp}{O:AOv}{L:AB}{v:V}{d:D}{xs:List D}(g:Aq K H O L)(h:Is K H O v d)(e:Cq d L=some xs):∃a b,v=.ref a/\(BJ K H a b\/Be K H a b)/\AT K H O b xs:=by
 cases h with
 |tup c f=>cases e;exact⟨_,_,rfl,.inr c,f⟩
 |fz c f=>cases e;exact⟨_,_,rfl,.inl c.sql,f⟩
 |ref k =>
  simp only[Cq] at e;split at e
  .rename_i ys e2;cases e;obtain⟨b,i,j⟩:=g.ob _ _ _ k e2;exact⟨_,b,rfl,.inl (BJ.of i),j⟩
  .cases e
 |_=>cases e
abbrev Cc(neg:Bool):G2:=λx y L=>match x,y with
 |.str i,.str j=>some (.bl (if neg then !GH i j else GH i j),L)
 |_,_=>match Cq y L with|some ys=>if BA x&&ys.all BA then some (.bl (if neg then !DB x ys else DB x ys),L) else none|none=>none
def AGi{x:D}{xs:List D}:TH (DX x) (xs.map DX)=DB x xs:=by unfold TH DB Im;rw[List.any_map];rfl
def AIi{xs:List D}(h:xs.all BA=true):(xs.map DX).all GN=true:=by rw[List.all_map];rw[CM] at h ⊢;exact λd a=>Jh (h d a)
def Yq{K:AL}{H:Hp}{O:AOv}{L L':AB}{v u:V}{x y d:D}{b:Bool}{Q:VK}(h:Aq K H O L)(n:Is K H O v x)(l:Is K H O u y)
  (e:(match Cq y L with|some c=>if BA x&&c.all BA then some (D.bl (if b then !DB x c else DB x c),L) else none|none=>none)=some (d,L'))
  (k:∀w f g,An H O f g->Aq K f g L'->Is K f g w d->Q w f):SO K b v u H Q:=by
 split at e
 .rename_i c hy;split at e
  .rename_i hf;cases e;rw[Bs] at hf;obtain⟨a,p,rfl,o,m⟩:=IY h l hy;have j:=Em n hf.1;have i:=AHM m hf.2;subst j i;refine⟨a,_,rfl,o,Jh hf.1,AIi hf.2,?_⟩;rw[AGi];exact k _ _ _ (.refl _ _) h (.bl _)
  .cases e
 .cases e
def AKv:Ck X (compareOp .In) (Cc false):=Aw.weaken (Aw.or AFI AFJ) λv u H Q a=>by
 obtain⟨O,L,x,y,d,g,b,f,c,e,k⟩:=a;unfold Cc at e;split at e
 .cases e;cases f;cases c;exact .inl ⟨_,_,rfl,rfl,k _ _ _ (.refl _ _) b (.bl _)⟩
 .exact .inr (Yq b f c e k)
def AKl:Ck X (compareOp .NotIn) (Cc true):=Aw.weaken (Aw.or op_notin_str AFC) λv u H Q a=>by
 obtain⟨O,L,x,y,d,g,b,f,c,e,k⟩:=a;unfold Cc at e;split at e
 .cases e;cases f;cases c;exact .inl ⟨_,_,rfl,rfl,k _ _ _ (.refl _ _) b (.bl _)⟩
 .exact .inr (Yq b f c e k)
abbrev AN:G2:=λx y L=>match y with
 |.int i=>match x with
  |.str z=>(match atI z.cps.toList i with|some c=>some (.str ⟨#[c]⟩,L)|none=>none)
  |_=>(match Cq x L with|some xs=>(match atI xs i with|some d=>some (d,L)|none=>none)|none=>none)
 |_=>none
def AIZ{K:AL}{H:Hp}{O:AOv}{vs:List V}{xs:List D}{i:Int}{d:D}(a:AT K H O vs xs)(e:atI xs i=some d):∃v,atI vs i=some v/\Is K H O v d:=by
 unfold atI at e ⊢;rw[a.length]
 cases q:ixN xs.length i with
 |none=>rw[q] at e;cases e
 |some j=>rw[q] at e;exact a.get e
def ABl:PD X AN:=Fa.weaken AGX λv u H Q g=>by
 obtain⟨O,L,x,y,d,o,f,j,l,e,k⟩:=g;unfold AN at e;split at e
 .cases l;split at e
  .split at e
   .rename_i c hc;cases e
    cases j with|str _ m =>
     exact .inr (.inr ⟨_,_,c,rfl,rfl,by rw[sizeLine_eq];exact m,hc,k _ _ _ (.refl _ _) f (.str _ (by simp[Str.length]))⟩)
   .cases e
  .split at e
   .rename_i xs hx;split at e
    .rename_i dd hd;cases e;obtain⟨a,i,rfl,b,n⟩:=IY f j hx;obtain⟨w,hw,h⟩:=AIZ n hd;rcases b with b|b
     .exact .inl ⟨a,i,_,w,rfl,rfl,b,hw,k _ _ _ (.refl _ _) f h⟩
     .exact .inr (.inl ⟨a,i,_,w,rfl,rfl,b,hw,k _ _ _ (.refl _ _) f h⟩)
    .cases e
   .cases e
 .cases e
end
end L3
namespace HT
open PySem PySem.Spec PyProof.Rows
section
variable {prog:Program}{w:World}{A:Around}{E:AO0}{s:Shared}
def ALU{t g:Addr}{a:Array Value}{k l:Value}{b e:Option Int}{Q:AO0}(c:IsTup s.heap t a)(m:s.heap.IsSliceOf g k l .none)(q:IsPart k b)(n:IsPart l e)
  (hw:sIx a.size 0 b=0/\sIx a.size a.size e=a.size) (h:Q (.ref t) s) (p:a.size<=sizeLine):wpAny (model prog w) A (getItem (.ref t) (.ref g)) Q E s:=by
 obtain⟨r,i,j,o⟩:=id m;have f:s.TypeIs (.ref g) "slice":=⟨r,i,j⟩;unfold getItem
 try with_reducible refine DW ?_
 first|refine AH (AO ?_)|skip
 refine AH (wpAny_sequenceKey c.typeIs (by decide) ?_)
 refine AH (AOk (name:=Str.ofString "__getitem__") c.typeIs PyProof.Rows.slot_tuple_getitem
  (GV PyProof.Rows.slot_tuple_getitem c.typeIs entry_tuple_getitem ?_ (args_tuple_getitem _ _)))
 show wpAny _ _ (Builtin.Tuple.tupleItemsOf (.ref t) >>= _) _ _ s;refine AH (tupleItemsOf_ c ?_);refine AH (wpAny_typeOf f ?_);rw[if_pos (by decide)];refine AH (We m q n ?_)
 have d:(((sIx a.size 0 b:Nat):Int) == 0&&(1:Int) == 1&&(sIx a.size a.size e-sIx a.size 0 b) == a.size)=true:=by rw[hw.1,hw.2];simp
 show wpAny _ _ (if (((sIx a.size 0 b:Nat):Int) == 0&&(1:Int) == 1&&(sIx a.size a.size e-sIx a.size 0 b) == a.size)=true then _ else _) _ _ s
 rw[if_pos d];unfold Builtin.Tuple.tupleIsExact;refine AH (AH (wpAny_typeOf c.typeIs (AO ?_)));rw[if_pos (by decide)];refine AH (AOe ?_);exact AO ⟨_,rfl,AO h⟩
end
end HT
namespace L2
open PySem PySem.Spec PyProof.Rows
section
variable {X:Cx}
def AC0:GQ X (λx f e H Q=>∃a c,x=.ref a/\Be X.K H a c/\(HT.sIx c.length 0 f=0/\HT.sIx c.length c.length e=c.length)/\Q (.ref a) H):=by
 intro g s Y H x v t u f e p Q I k o n j h;obtain⟨a,c,rfl,l,hw,q⟩:=h;cases k;obtain⟨d,r,i,m⟩:=I.tuple l;have b:d.toArray.size=c.length:=by rw[Bn];exact r.length.symm
 refine⟨"tuple",_,PyProof.Rows.slot_tuple_getitem.lookup,i.typeIs,?_⟩;exact HT.ALU i o n j (by rw[b];exact hw) ⟨.ref a,H,I,rfl,q⟩ (by rw[b];exact m)
end
end L2
namespace L3
open PySem PySem.Spec PyProof.Rows L2
noncomputable abbrev OF:=Fm->AB->Option (Option Int×AB)
inductive liftO (K:AL) (f:OF) (Y:L2.St) (H:Hp) (Q:Option Int->Hp->Prop):Prop
 |mk (O Z L d L') (r:Rep K H O Y Z L) (e:f Z L=some (d,L')) (k:∀H' O',An H O H' O'->Aq K H' O' L'->Q d H'):liftO K f Y H Q
abbrev MA(X:Cx)(e:Option Expr)(f:OF):Prop:=PO X e (liftO X.K f)
abbrev FN:OF:=λ_ L=>some (none,L)
abbrev CU(f:EF):OF:=λZ L=>(f Z L).bind λx=>match x.1 with|.int i=>some (some i,x.2)|_=>none
section
variable {X:Cx}{e:Expr}{f:EF}{lo hi:Option Expr}{fl fh:OF}{pos p2:Pos}
def AKh:MA X none FN:=λa s Y H Q I b=>by
 obtain⟨O,Z,L,d,c,r,e,k⟩:=b;cases e;exact AEF a s Y H Q I (k H O (.refl _ _) r.s)
def AKg(h:Ab X e f):MA X (some e) (CU f):=λb s Y H Q I c=>by
 obtain⟨O,Z,L,d,o,r,a,k⟩:=c;refine AEE h b s Y H Q I ?_;refine bI a λp j a=>?_;obtain⟨x,n⟩:=p
 cases x <;> simp only[AX] at a <;> try (cases a;done)
 cases a;refine⟨O,Z,L,_,_,r,j,λv l g m i is=>?_⟩;cases is;exact⟨_,rfl,k l g m i⟩
def AC2:GQ X (λx lo hi H Q=>∃z,x=.str z/\z.length<=sizeLine/\Q (.str (Txt.slice z lo hi)) H):=by
 intro b s Y H x v r w lo hi p Q I m d o f h;obtain⟨z,rfl,n,q⟩:=h;obtain⟨t,rfl⟩:=m;refine⟨"str",_,F.slot_str_getitem.lookup,typeIs_str _ _ _,?_⟩;have a:∀t' k,EP X b Y Q (.str (Txt.slice z lo hi) t') {s with toks:=k}:=λt' k=>⟨.str _,H,I.tok _,⟨_,rfl⟩,q⟩;have c:(Txt.slice z lo hi).length<=sizeLine:=Cf (Txt.slice_le z _ _) n
 cases o with
 |none=>cases f with
  |none=>exact AOm (l:=none) (u:=none) (st:=none) d rfl (post_val_or_str ⟨c,a⟩)
  |int j e=>exact AOm (l:=none) (u:=some (j,e)) (st:=none) d rfl (post_val_or_str ⟨c,a⟩)
 |int i g=>cases f with
  |none=>exact AOm (l:=some (i,g)) (u:=none) (st:=none) d rfl (post_val_or_str ⟨c,a⟩)
  |int j e=>exact AOm (l:=some (i,g)) (u:=some (j,e)) (st:=none) d rfl (post_val_or_str ⟨c,a⟩)
abbrev cutD(xs:List D)(lo hi:Option Int):List D:=(xs.drop (HT.sIx xs.length 0 lo)).take (HT.sIx xs.length xs.length hi-HT.sIx xs.length 0 lo)
abbrev Jd(x:D)(lo hi:Option Int)(L:AB):Option (D×AB):=match x with
 |.str z=>some (.str (Txt.slice z lo hi),L)
 |.fz xs=>some (.ref L.length,L++[.lst (cutD xs lo hi)])
 |.ref k=>(match L[k]? with|some (.lst xs)=>some (.ref L.length,L++[.lst (cutD xs lo hi)])|_=>none)
 |.tup xs=>some (.tup (cutD xs lo hi),L)
 |_=>none
abbrev DY(f:EF)(fl fh:OF):EF:=λZ L=>(f Z L).bind λx=>(fl Z x.2).bind λl=>(fh Z l.2).bind λh=>Jd x.1 l.1 h.1 h.2
def Th{K:AL}{H:Hp}{O:AOv}{vs:List V}{xs:List D}(a:AT K H O vs xs)(lo hi:Option Int):AT K H O (Gk vs lo hi) (cutD xs lo hi):=by unfold Gk cutD;rw[a.length];exact(a.drop _).take _
def AMB(he:Ab X e f)(hl:MA X lo fl)(hh:MA X hi fh):Ab X (.Subscript e (.Slice lo hi none p2) pos) (DY f fl fh) :=
 PE.weaken (AEe (GQ.or AC2 (GQ.or AC3 (GQ.or AC1 AC0))) he hl hh) λY H Q ae=>by
  obtain⟨O,Z,L,d,L',r,h,k⟩:=ae;refine bI h λp e1 h=>?_;refine bI h λq e2 h=>?_;refine bI h λw e3 h=>?_;refine⟨O,Z,L,p.1,p.2,r,e1,λv H1 O1 o ac aa=>⟨O1,Z,p.2,q.1,q.2,r.to o ac,e2,λH2 O2 n ad=>⟨O2,Z,q.2,w.1,w.2,r.to (o.trans n) ad,e3,λx t y b=>?_⟩⟩⟩;have c:=(aa.mono n).mono y;have i:=(o.trans n).trans y;unfold Jd at h;split at h
  .rename_i z hz;rw[hz] at c;cases h
   cases c with|str _ hl =>
    exact .inl ⟨_,rfl,by rw[sizeLine_eq];exact hl,k _ _ _ i b (.str _ (Cf (Txt.slice_le _ _ _) hl))⟩
  .rename_i xs hx;rw[hx] at c;cases h
   cases c with|@fz a j ds hq m =>
    refine .inr (.inl ⟨_,_,rfl,hq.sql,λs l=>?_⟩);have g:An x t (upd x s (.lst (Gk j q.1 w.1))) (t++[s]):=⟨.new l,Ac _ _⟩;exact k _ _ _ (i.trans g) (b.new l ⟨_,CT,(Th m _ _).mono g⟩) (.ref (by rw[<-b.len];simp))
  .rename_i kk hx;rw[hx] at c;split at h
   .rename_i xs e4;cases h
    cases c with|ref hk =>
     obtain⟨j,hv,m⟩:=b.ob _ _ _ hk e4;refine .inr (.inl ⟨_,_,rfl,BJ.of hv,λs l=>?_⟩);have g:An x t (upd x s (.lst (Gk j q.1 w.1))) (t++[s]):=⟨.new l,Ac _ _⟩;exact k _ _ _ (i.trans g) (b.new l ⟨_,CT,(Th m _ _).mono g⟩) (.ref (by rw[<-b.len];simp))
   .cases h
  .rename_i xs hx;rw[hx] at c;cases h
   cases c with|@tup a j ds hq m =>
    by_cases hw:HT.sIx j.length 0 q.1=0/\HT.sIx j.length j.length w.1=j.length
    .refine .inr (.inr (.inr ⟨_,j,rfl,hq,hw,?_⟩))
     have e5:cutD xs q.1 w.1=xs:=by unfold cutD;rw[<-m.length,hw.1,hw.2,ANn,Nat.sub_zero,m.length,Dy]
     rw[e5] at k;exact k _ _ _ i b (.tup hq m)
    .refine .inr (.inr (.inl ⟨_,j,rfl,hq,hw,λs l=>?_⟩));have g:An x t (upd x s (.tup (Gk j q.1 w.1))) t:=⟨.new l,AV _⟩;exact k _ _ _ (i.trans g) (b.ext λa u e=>by rw[BX (Df e l)];exact e) (.tup (Be.of CT) ((Th m _ _).mono g))
  .cases h
end
section
variable {X:Cx}
abbrev BQ:GL:=λxs L=>match xs with
 |[.str z]=>some (.int (z.length:Int),L)
 |[x]=>(match Cq x L with|some ys=>some (.int (ys.length:Int),L)|none=>none)
 |_=>none
def AMk:Ee X (.builtin "len") BQ:=CD.weaken (CD.or AIB AIC) λh H Q g=>by
 obtain⟨O,L,m,d,n,b,is,e,k⟩:=g;unfold BQ at e;split at e
 .cases e
  cases is with|cons f c=>cases c;cases f with|str _ i =>
   exact .inl ⟨_,rfl,by rw[sizeLine_eq];exact i,k _ _ _ (.refl _ _) b (.int _)⟩
 .split at e
  .rename_i ys hy;cases e
   cases is with|cons f c =>
    cases c;obtain⟨a,h,rfl,l,j⟩:=IY b f hy;exact .inr ⟨a,h,rfl,l,by rw[j.length];exact k _ _ _ (.refl _ _) b (.int _)⟩
  .cases e
 .cases e
abbrev Jg:GL:=λxs L=>match xs with|[.int i]=>some (.int (if i<0 then -i else i),L)|_=>none
def AMo:Ee X (.builtin "abs") Jg:=CD.weaken AIF λh H Q a=>by
 obtain⟨O,L,g,d,i,b,is,e,k⟩:=a;unfold Jg at e;split at e
 .cases e;cases is with|cons f c=>cases c;cases f;exact⟨_,rfl,k _ _ _ (.refl _ _) b (.int _)⟩
 .cases e
abbrev Oa:GL:=λxs L=>match xs with|[.int i,.int j]=>some (.int (if j>i then j else i),L)|_=>none
abbrev Je:GL:=λxs L=>match xs with|[.int i,.int j]=>some (.int (if j<i then j else i),L)|_=>none
def AMg(g:X.calm=true):Ee X (.builtin "max") Oa:=CD.weaken (AH9 g) λl H Q a=>by
 obtain⟨O,L,j,d,m,c,is,e,k⟩:=a;unfold Oa at e;split at e
 .cases e;cases is with|cons h f=>cases f with|cons b i=>cases i;cases h;cases b;exact⟨_,_,rfl,k _ _ _ (.refl _ _) c (.int _)⟩
 .cases e
def AMf(g:X.calm=true):Ee X (.builtin "min") Je:=CD.weaken (AH8 g) λl H Q a=>by
 obtain⟨O,L,j,d,m,c,is,e,k⟩:=a;unfold Je at e;split at e
 .cases e;cases is with|cons h f=>cases f with|cons b i=>cases i;cases h;cases b;exact⟨_,_,rfl,k _ _ _ (.refl _ _) c (.int _)⟩
 .cases e
abbrev IK:GL:=λxs L=>match xs with|[.int i]=>some (.int i,L)|[.bl b]=>some (.int (if b then 1 else 0),L)|_=>none
def AMl:Ee X (.type "int") IK:=CD.weaken AID λh H Q a=>by
 obtain⟨O,L,g,d,i,f,is,e,k⟩:=a;unfold IK at e;split at e
 .cases e;cases is with|cons c b=>cases b;cases c;exact .inl ⟨_,rfl,k _ _ _ (.refl _ _) f (.int _)⟩
 .cases e;cases is with|cons c b=>cases b;cases c;exact .inr ⟨_,rfl,k _ _ _ (.refl _ _) f (.int _)⟩
 .cases e
abbrev Fj:GL:=λxs L=>match xs with
 |[.tup ys]=>some (.tup ys,L)
 |[x]=>(match Cq x L with|some ys=>some (.tup ys,L)|none=>none)
 |_=>none
def AMb:Ee X (.type "tuple") Fj:=CD.weaken AH5 λg H Q m=>by
 obtain⟨O,L,q,d,r,f,is,e,k⟩:=m;unfold Fj at e;split at e
 .cases e;cases is with|cons j i=>cases i;cases j with|tup n h=>exact⟨_,_,rfl,.inr ⟨n,k _ _ _ (.refl _ _) f (.tup n h)⟩⟩
 .split at e
  .rename_i ys hy;cases e
   cases is with|cons j i =>
    cases i;obtain⟨a,g,rfl,c,h⟩:=IY f j hy;rcases c with c|c
    .refine⟨a,g,rfl,.inl ⟨c,λl o=>?_⟩⟩;have p:An H O (upd H l (.tup g)) O:=⟨.new o,AV _⟩;exact k _ _ _ p (f.ext λb u e=>by rw[BX (Df e o)];exact e) (.tup (Be.of CT) (h.mono p))
    .exact⟨a,g,rfl,.inr ⟨c,k _ _ _ (.refl _ _) f (.tup c h)⟩⟩
  .cases e
 .cases e
abbrev Le:GL:=λxs L=>match xs with
 |[x]=>(match Cq x L with|some ys=>some (.ref L.length,L++[.lst ys])|none=>none)
 |_=>none
def AMi:Ee X (.type "list") Le:=CD.weaken AIA λc H Q f=>by
 obtain⟨O,L,o,d,p,b,is,e,k⟩:=f;unfold Le at e;split at e
 .split at e
  .rename_i ys hy;cases e
   cases is with|cons j i =>
    cases i;obtain⟨a,c,rfl,n,m⟩:=IY b j hy;refine⟨a,c,rfl,n,λl g=>?_⟩;have h:An H O (upd H l (.lst c)) (O++[l]):=⟨.new g,Ac _ _⟩;exact k _ _ _ h (b.new g ⟨_,CT,m.mono h⟩) (.ref (by rw[<-b.len];simp))
  .cases e
 .cases e
def AIE(hc:X.calm=true):CD X (.builtin "all") (λw H Q=>∃(p:Addr) (bs:List Bool),w=[.ref p]/\BJ X.K H p (bs.map V.bl)/\Q (.bl (bs.all id)) H):=by
 intro j s Y H w us Q I r h;obtain⟨p,bs,rfl,hq,q⟩:=h;obtain⟨u,rfl,rx⟩:=Ds r;cases rx;obtain⟨a,z,pl,hz⟩:=I.list hq;have hI:∀b o,s.heap.get? b=some o->b≠s.heap.objs.size:=λb o e=>Bm (Heap.lt_size e);obtain⟨y,g,l,nl,t⟩:=pl.isList;have d:bs.length=a.length:=by have:=z.length;simpa using this
 refine call_all_walk (AOi pl.isList ⟨s.heap.objs.size,_,_,_,_,_,λi=>(bs[i]?).getD true,rfl,
  Walks.list (A:=X.A.in1) (show X.A.in1.handled=none from I.ok.hd hc) s.heap.objs.size p (hI p y g) a.toArray,⟨⟨_,Heap.get?_push_size _ rfl,rfl,rfl⟩,⟨y,Heap.get?_push_of_some _ g,l,nl,t⟩⟩,?_,?_⟩)
 .intro i v s' Q' E' hv hQ;have f:a[i]?=some v:=by simpa using hv
  have c:i<a.length:=(Ax.mp f).1;have m:bs[i]?=some bs[i]:=by simp[d,c]
  obtain⟨w',hw,n⟩:=z.get (i:=i) (x:=.bl bs[i]) (by simp[d,c]);rw[f] at hw;cases hw;cases n;dsimp only at hQ;rw[m] at hQ;exact AOg hQ
 .intro h' tk kk;have I1:AI X j Y H {s with heap:=h',toks:=tk}:=I.kept λb o e=>kk b o (by simpa using hI b o e) (Heap.get?_push_of_some _ e);refine⟨.bl (bs.all id),H,I1,?_,q⟩;show Value.bool _=Value.bool _
  congr 1
  rw[Bn,<-d];rw[ANs,CM,CM];constructor
  .intro h b m;obtain⟨i,c,rfl⟩:=AN3 m;have:=h i (CK.mpr c);simpa[c] using this
  .intro h i c;have k:=CK.mp c;simpa[k] using h _ (AOL k)
abbrev blsD:List D->Option (List Bool)
 |[]=>some []
 |.bl b::r=>(blsD r).map (b::·)
 |_=>none
def AII{K:AL}{H:Hp}{O:AOv}:∀{vs:List V} {ds:List D} {bs:List Bool},AT K H O vs ds->blsD ds=some bs->vs=bs.map V.bl:=by
 intro vs ds bs h e
 induction ds generalizing vs bs with
 |nil=>cases h;cases e;rfl
 |cons d ds c =>
  cases h with|cons a b =>
  cases a <;> simp only[blsD] at e <;> try (cases e;done)
  cases q:blsD ds with
  |none=>rw[q] at e;cases e
  |some r =>
   rw[q] at e;cases e;rw[c b q];rfl
abbrev Jf:GL:=λxs L=>match xs with
 |[.ref k]=>(match L[k]? with|some (.lst ds)=>(match blsD ds with|some bs=>some (.bl (bs.all id),L)|none=>none)|_=>none)
 |_=>none
def AMn(g:X.calm=true):Ee X (.builtin "all") Jf:=CD.weaken (AIE g) λi H Q a=>by
 obtain⟨O,L,m,d,n,b,is,e,k⟩:=a;unfold Jf at e;split at e
 .split at e
  .rename_i ds hd;split at e
   .rename_i bs hb;cases e
    cases is with|cons h f =>
     cases f
     cases h with|ref l =>
      obtain⟨i,c,j⟩:=b.ob _ _ _ l hd;rw[AII j hb] at c;exact⟨_,bs,rfl,BJ.of c,k _ _ _ (.refl _ _) b (.bl _)⟩
   .cases e
  .cases e
 .cases e
end
noncomputable abbrev GM:=D->List D->AB->Option (D×AB)
inductive rM (K:AL) (g:GM) (v:V) (vs:List V) (H:Hp) (Q:VK):Prop
 |mk (O L x xs d L') (r:Aq K H O L) (i:Is K H O v x) (j:AT K H O vs xs) (e:g x xs L=some (d,L')) (k:∀w H' O',An H O H' O'->Aq K H' O' L'->Is K H' O' w d->Q w H'):rM K g v vs H Q
abbrev MtD(X:Cx)(id:String)(g:GM):Prop:=FZ X id (rM X.K g)
def FZ.weaken{X:Cx}{id:String}{r c:V->List V->Hp->VK->Prop}(h:FZ X id r)(i:∀x b H Q,c x b H Q->r x b H Q):FZ X id c :=
 λa s Y H x b v f Q I e d q=>h a s Y H x b v f Q I e d (i _ _ _ _ q)
abbrev JP(T:String)(x:D)(L:AB):Bool:=match x with
 |.str _=>T == "str"
 |.fz _=>T == "list"
 |.ref k=>match L[k]? with|some (.lst _)=>T == "list" | some (.dk _)=>T == "dict" | some (.dt _ _)=>T == "dict" | _=>false
 |_=>false
def Vs{K:AL}{H:Hp}{O:AOv}{L:AB}{T:String}{v:V}{x:D}(b:Aq K H O L)(i:Is K H O v x)(h:JP T x L=true):Nf K T v H:=by
 unfold JP at h;split at h
 .cases i;exact beq_iff_eq.mp h
 .cases i with|fz hq il=>exact .inl ⟨beq_iff_eq.mp h,_,hq.sql⟩
 .cases i with|ref c =>
   split at h
   .rename_i e;obtain⟨d,a,_⟩:=b.ob _ _ _ c e;exact .inl ⟨beq_iff_eq.mp h,_,BJ.of a⟩
   .rename_i e;obtain⟨d,a,_⟩:=b.ob _ _ _ c e;exact .inr (.inr (.inl ⟨beq_iff_eq.mp h,.inl ⟨_,a⟩⟩))
   .rename_i e;obtain⟨d,a,_⟩:=b.ob _ _ _ c e;exact .inr (.inr (.inl ⟨beq_iff_eq.mp h,.inr (.inr ⟨_,_,a⟩)⟩))
   .cases h
 .cases h
abbrev CC(T:String)(g:GM)(fo:EF)(fa:AF):EF:=λZ L=>(fo Z L).bind λx=>if JP T x.1 x.2=true then (fa Z x.2).bind λy=>g x.1 y.1 y.2 else none
section
variable {X:Cx}{o e:Expr}{es:AOw}{fo:EF}{fa:AF}{name:Str}{apos cpos:Pos}{T id:String}{g:GM}
def AMW(q:PlainAttrs T)(c:Slot T name id)(i:typeOf (.builtin id)=pure (.type "method_descriptor"))(t:MtD X id g)(ho:Ab X o fo)
  (a:attributeBase o name X.env (eval o X.env)=eval o X.env:=by rfl) (b:(apos.endLine == cpos.line)=true:=by rfl):Ab X (.Call (.Attribute o name apos) [] [] cpos) (CC T g fo AG) :=
 PE.weaken (AEw q c i t ho a b) λY H Q h=>by
  obtain⟨O,Z,L,d,z,r,e,k⟩:=h;refine bI e λp s e=>?_;split at e
  .rename_i ht;refine⟨O,Z,L,p.1,p.2,r,s,λv H1 u x m is=>⟨Vs m is ht,u,p.2,p.1,[],d,z,m,is,.nil,e,λw y n l j f=>k w y n (x.trans l) j f⟩⟩
  .cases e
def AMX(pa:PlainAttrs T)(i:Slot T name id)(m:typeOf (.builtin id)=pure (.type "method_descriptor"))(hm:MtD X id g)(ho:Ab X o fo)(ha:Ec X (e::es) fa)
  (b:attributeBase o name X.env (eval o X.env)=eval o X.env:=by rfl)
  (h:decide ((e::es).length+([]:List Keyword).length+(if ([]:List Keyword).isEmpty then 0 else 1)<30)=true:=by rfl)
  (c:(apos.endLine == cpos.line)=true:=by rfl) (y:Ej e=true:=by rfl) (a:es.all Ej=true:=by rfl) :
  Ab X (.Call (.Attribute o name apos) (e::es) [] cpos) (CC T g fo fa) :=
 PE.weaken (AEx pa i m hm ho ha b (by rw[Wv (by rw[ANU,y,a];rfl),h];rfl) c (Hd y) (IZ a)) λY H Q t=>by
  obtain⟨O,Z,L,d,L',r,e,k⟩:=t;refine bI e λp e1 e=>?_;split at e
  .rename_i ht;refine bI e λq e2 e=>?_;refine⟨O,Z,L,p.1,p.2,r,e1,λv H1 O1 x z is=>⟨Vs z is ht,O1,Z,p.2,q.1,q.2,r.to x z,e2,λvs H2 O2 f s j=>?_⟩⟩;exact⟨O2,q.2,p.1,q.1,d,L',s,is.mono f,j,e,λw H' O' n u l=>k w H' O' ((x.trans f).trans n) u l⟩
  .cases e
abbrev Hm(f:Str->Bool):GM:=λx xs L=>match x,xs with|.str z,[]=>some (.bl (f z),L)|_,_=>none
abbrev gS0s(f:Str->Str):GM:=λx xs L=>match x,xs with|.str z,[]=>if (f z).length<=16777216 then some (.str (f z),L) else none|_,_=>none
def Sk{id:String}{f:Str->Bool}(h:∀(z:Str) (t:Tok) (s:Shared) (Q E:AO0),Q (.bool (f z)) s->wpAny (model X.prog X.w) X.A (call (.builtin id) [.str z t]) Q E s):MtD X id (Hm f) :=
 λc s Y H x n v p Q I i g a=>by
  obtain⟨O,L,o,j,d,q,m,l,b,e,k⟩:=a;unfold Hm at e;split at e
  .cases e;cases l;cases b;cases g;obtain⟨t,rfl⟩:=i;exact h _ _ _ _ _ ⟨.bl _,H,I,rfl,k _ _ _ (.refl _ _) m (.bl _)⟩
  .cases e
def Xj{id:String}{f:Str->Str}(h:∀(z:Str) (t:Tok) (s:Shared) (Q E:AO0),Builtin.Str.tooLong (f z).length=false->Q (.str (f z) s.toks) {s with toks:=s.toks+1}->wpAny (model X.prog X.w) X.A (call (.builtin id) [.str z t]) Q E s):MtD X id (gS0s f) :=
 λc s Y H x n v p Q I i g a=>by
  obtain⟨O,L,o,j,d,q,m,l,b,e,k⟩:=a;unfold gS0s at e;split at e
  .split at e
   .rename_i hz;cases e;cases l;cases b;cases g;obtain⟨t,rfl⟩:=i;exact h _ _ _ _ _ (decide_eq_false (by rw[sizeLine_eq];omega)) ⟨.str _,H,I.tok _,⟨_,rfl⟩,k _ _ _ (.refl _ _) m (.str _ hz)⟩
   .cases e
  .cases e
def AK8:MtD X "str.islower" (Hm Txt.islower):=Sk λ_ _ _ _ _ h=>SC.islower h
def AK7:MtD X "str.isupper" (Hm Txt.isupper):=Sk λ_ _ _ _ _ h=>SC.isupper h
def AK9:MtD X "str.isdigit" (Hm Txt.isdigit):=Sk λ_ _ _ _ _ h=>SC.isdigit h
def AK2:MtD X "str.upper" (gS0s Txt.upper):=Xj λ_ _ _ _ _ a h=>SC.upper a h
def AK5:MtD X "str.lower" (gS0s Txt.lower):=Xj λ_ _ _ _ _ a h=>SC.lower a h
abbrev Bp:List D->Option (AOt)
 |[]=>some []
 |.str x::r=>(Bp r).map (x::·)
 |_=>none
def ACj{K:AL}{H:Hp}{O:AOv}:∀{vs:List V} {ds:List D} {c:AOt},AT K H O vs ds->Bp ds=some c->vs=c.map V.str:=by
 intro vs ds c h e
 induction ds generalizing vs c with
 |nil=>cases h;cases e;rfl
 |cons d ds f =>
  cases h with|cons a b =>
  cases a <;> simp only[Bp] at e <;> try (cases e;done)
  cases q:Bp ds with
  |none=>rw[q] at e;cases e
  |some r =>
   rw[q] at e;cases e;rw[f b q];rfl
def SE:∀{a:AOt} {us:AOu},Ae (a.map V.str) us->StrsAre us a
 |[],_,r=>by rw[ANk] at r;cases r;exact .nil
 |y::a,_,r=>by
  rw[Al] at r
  cases r with
  |cons b c=>obtain⟨t,rfl⟩:=b;exact .cons y t (SE c)
abbrev Lg:GM:=λx xs L=>match x,xs with
 |.str sep,[y]=>(match Cq y L with|some ds=>(match Bp ds with|some ys=>if (ys.map (·.length)).sum+ys.length*sep.length<=16777216 then some (.str (Txt.join sep ys),L) else none|none=>none)|none=>none)
 |_,_=>none
def join_len(a:Str)(b:AOt):(Txt.join a b).length<=(b.map (·.length)).sum+b.length*a.length:=by show(Builtin.Str.glued a b).length<=_;rw[size_glued];exact Nat.add_le_add_left (ANR _ (Nat.sub_le _ _)) _
def AK6:MtD X "str.join" Lg:=λg s Y H x xs v us Q I r o c=>by
 obtain⟨O,L,dx,m,d,L',l,n,h,e,k⟩:=c;unfold Lg at e;split at e
 .split at e
  .rename_i ds hd;split at e
   .rename_i ys hy;split at e
    .rename_i hz;cases e;cases n
     cases h with|cons w p =>
      cases p;obtain⟨t,rfl⟩:=r;obtain⟨u,rfl,y⟩:=Ds o;obtain⟨a,vs,rfl,f,z⟩:=IY l w hd;cases y;have q:=ACj z hy;subst q;have b:∀j i,EP X g Y Q (.str (Txt.join _ ys) j) {s with toks:=i}:=λj i=>⟨.str _,H,I.tok _,⟨_,rfl⟩,k _ _ _ (.refl _ _) l (.str _ (Cf (join_len _ _) hz))⟩;rcases f with f|f
      .obtain⟨its,rv,pl,_⟩:=I.list f;exact join_list pl.isList (by simpa using SE rv) hz b
      .obtain⟨its,rv,pl,_⟩:=I.tuple f;exact join_tuple pl (by simpa using SE rv) hz b
    .cases e
   .cases e
  .cases e
 .cases e
abbrev El:GM:=λx xs L=>match x,xs with
 |.ref k,[y]=>(match L[k]? with|some (.lst ds)=>if ds.length<16777216 then some (.non,L.set k (.lst (ds++[y]))) else none|_=>none)
 |_,_=>none
def ALC:MtD X "list.append" El:=FZ.weaken (show FZ X "list.append" Wq from Xf) λv r H Q b=>by
 obtain⟨O,L,q,o,d,t,j,p,c,e,k⟩:=b;unfold El at e;split at e
 .split at e
  .rename_i ds hd;split at e
   .rename_i hz;cases e
    cases p with|@ref s a g =>
     cases c with|@cons n y1 _ _ m l =>
      cases l;obtain⟨h,hw,i⟩:=j.ob _ _ _ g hd;refine⟨_,h,_,rfl,rfl,hw,by rw[i.length,sizeLine_eq];exact hz,?_⟩;have f:An H O (upd H a (.lst (h++[n]))) O:=⟨.write hw id,AV _⟩;exact k _ _ _ f (j.write (o':=.lst (ds++[_])) g ⟨_,CT,(i.mono f).append (.cons (m.mono f) .nil)⟩) .non
   .cases e
  .cases e
 .cases e
end
abbrev Ff(x:D)(L:AB):Option String:=match x with
 |.non=>some "NoneType" | .bl _=>some "bool" | .int _=>some "int" | .str _=>some "str" | .tup _=>some "tuple" | .fz _=>some "list"
 |.ref k=>(match L[k]? with|some (.lst _)=>some "list" | some (.dk _)=>some "dict" | _=>none)
 |.ty _=>none
abbrev Jc(t T:String):Bool:=t == T || (t == "bool"&&T == "int")
abbrev DS:GL:=λxs L=>match xs with
 |[x,.ty T]=>if ["int","str","bool","list","tuple","dict"].contains T then (Ff x L).map λt=>(.bl (Jc t T),L) else none
 |_=>none
section
variable {X:Cx}
def ID(K:AL){t T:String}(b:t∈["NoneType","bool","int","str","tuple","list","dict"])(a:T∈["int","str","bool","list","tuple","dict"]):PySem.W.kitOne K (.type t) (.type T)=some (Jc t T):=by
 simp only[AY,Dq,or_false] at b a
 rcases b with rfl|rfl|rfl|rfl|rfl|rfl|rfl <;> rcases a with rfl|rfl|rfl|rfl|rfl|rfl <;> first|rfl|decide
def AMm:Ee X (.builtin "isinstance") DS:=λh s Y H xs us Q I r j=>by
 obtain⟨O,L,ds,d,L',w,is,e,k⟩:=j;unfold DS at e;split at e
 .rename_i x T;split at e
  .rename_i hT;have c:T∈["int","str","bool","list","tuple","dict"]:=by simpa using hT
   cases is with|cons i1 i2=>cases i2 with|cons i3 i4 =>
    cases i4;cases i3;obtain⟨u,u2,rfl,g,r2⟩:=Rt r;cases r2
    cases f:Ff x L with
    |none=>rw[f] at e;cases e
    |some t =>
     rw[f] at e;cases e;have a:∀y,EP X h Y Q (.bool (Jc t T)) {s with toks:=y}:=λy=>⟨.bl _,H,I.tok _,rfl,k _ _ _ (.refl _ _) w (.bl _)⟩
     cases i1 with
     |non=>cases f;exact Ja I g .non (ID _ (by simp) c) a
     |bl b=>cases f;exact Ja I g (.bl b) (ID _ (by simp) c) a
     |int b=>cases f;exact Ja I g (.int b) (ID _ (by simp) c) a
     |str b _=>cases f;exact Ja I g (.str b) (ID _ (by simp) c) a
     |tup m il =>
      cases f;cases g;obtain⟨q,rv,v,_⟩:=I.tuple m;obtain⟨o,l,i,_⟩:=v;exact GW PySem.W.kitx_tuple I.kIn ⟨o,l,i⟩ (ID _ (by simp) c) (λz=>nomatch z) a
     |fz m il =>
      cases f;cases g;obtain⟨q,rv,v,_⟩:=I.list m.sql;obtain⟨o,l,i,_⟩:=v.isList;exact GW PySem.W.kitx_list I.kIn ⟨o,l,i⟩ (ID _ (by simp) c) (λz=>nomatch z) a
     |ref hk =>
      simp only[Ff] at f;split at f
      .rename_i e2;cases f;obtain⟨vs,p,_⟩:=w.ob _ _ _ hk e2;exact Ja I g (.lst p) (ID _ (by simp) c) a
      .rename_i e2;cases f;obtain⟨vs,p,_⟩:=w.ob _ _ _ hk e2;exact Ja I g (.dK p) (ID _ (by simp) c) a
      .cases f
     |ty n=>cases f
  .cases e
 .cases e
def AL8{x:Str}{T:String}{pos:Pos}(e:X.mg x=none)(a:bootBuiltins x=some (.type T))(c:Gl X x:=by rfl)(d:x≠"__name__":=by decide)(b:(x == ("__debug__":Str))=false:=by decide):Ab X (.Name x pos) (AD (.ty T)) :=
 Ji (AEy c e a (v:=.ty T) rfl d b) λ_ _=>.ty T
def AHf{x:Str}{v:V}{u:Value}{d:D}{pos:Pos}(c:X.mg x=some u)(r:Af v u)(i:∀H O,Is X.K H O v d)(b:Gl X x:=by rfl)(a:(x == ("__debug__":Str))=false:=by decide):Ab X (.Name x pos) (AD d):=Ji (AEp b c r a) i
end
abbrev Ln(names fnames:List (Str×NameKind))(N N':AOt)(n:Nat)(idx:AOy):Bool :=
 names.all (λp=>!(p.2 == .cell))&&names.all (λp=>!(p.2 == .local) || names.lookup p.1 == some .local)&&names.all (λp=>!(p.2 == .free) || fnames.lookup p.1 == some .cell || fnames.lookup p.1 == some .free) &&
 N'.length == n+idx.length&&(List.range idx.length).all λj=>match idx[j]? with
  |some i=>(match N'[n+j]?,N[i]? with|some x,some y=>x == y&&names.contains (x,.free)&&names.all (λp=>!(p.1 == x) || p.2 == .free)|_,_=>false)
  |none=>false
def AHy{X:Cx}{scope:Scope}{N d:AOt}{n:Nat}{c:AOy}{a:List (Str×NameKind)}(t:scope.kind=.function)(hk:∀x,X.env.kindOf x=a.lookup x)(u:X.N=N)(f:Ln scope.names a N d n c=true):MG X scope d n c:=by
 subst u;unfold Ln at f;simp only[Bs] at f;obtain⟨⟨⟨⟨q,r⟩,s⟩,z⟩,p⟩:=f;rw[CM] at q r s p;refine⟨t,λy b e=>?_,λy b e=>?_,λy b e=>?_,beq_iff_eq.mp z,λj i e=>?_⟩
 .have:=q y b;rw[e] at this;exact absurd this (by decide)
 .have:=r y b;rw[e] at this;simpa using this
 .have:=s y b;rw[e] at this;rw[hk];simpa using this
 .have hj:=(Ax.mp e).1;have:=p j (CK.mpr hj);rw[e] at this;simp only at this
  cases l:d[n+j]? with
  |none=>simp[l] at this
  |some x =>
   cases o:X.N[i]? with
   |none=>simp[l,o] at this
   |some y =>
    simp only[l,o,Bs] at this;obtain⟨⟨v,w⟩,m⟩:=this;have h:x=y:=beq_iff_eq.mp v;subst h;refine⟨x,rfl,rfl,by simpa using w,λk g=>?_⟩;rw[CM] at m;have:=m _ g;simpa using this
open PySem.W in
def AIW{l:OpenLaw}{n:Nat}{q:Program}{e:AOt}{XP:(AOs)->Heap->Prop}{YP:World->Heap->Prop}{d:DefRec}
  (hn:l.most=some n) (x:d.params.defaults=[])
  (call:∀(w:World) (c b:Shared) (m v:AOs) (p:Addr) (a:Addr) (vs:AOu) (ns:AOz),
   Ground q e [] XP w c m v b.heap->YP w b.heap->m d.name=some (.ref p) ->
   b.heap.get? a=some {cls:=.type "list",data:=.seq vs.toArray}->IntsAre vs ns->ns.length<=n->(∀z∈ns,Builtin.Int.intBits z<=1048576)->b.gens=#[] ->
   codeAny (model l.prog w) callerA (.call (.ref p) ⟨[.ref a],[]⟩) (λr s=>r=.ok (.ret (.bool true))/\OldK b.heap s.heap/\s.os=b.os/\AllBare s.gens) b) :
  WalkO q e XP YP l.row.toRowW d [] (λf vs=>PySem.call f vs):=by
 intro w c b m v G Y_ p o pm cd ae dV kV ho hd ag hD t hg ac aa as k j ad y ai;obtain rfl:dV=.none:=Dflts.none hD x;obtain rfl:kV=.none:=Dflts.noKw hD;obtain⟨a,vs,ns,rfl,rfl,i,g,h⟩:=Att.AKR hn k y
 have hb:∀z∈ns,Builtin.Int.intBits z<=1048576:=λz hz=>by
  have h1:=layableW_arg j _ BC;have u:=layableW_item h1 (.int z) (Ap.mpr ⟨z,hz,rfl⟩);have h3:=(layableW_iff.mp u).2.2;simpa only[WData.weight,Builtin.Int.intBits] using h3
 refine enter_call (codeAny_mono (call w c b m v p a vs ns G Y_ t i g h hb hg) λr s hq=>?_);obtain⟨rfl,u,h3,h4⟩:=hq;exact⟨.inl ⟨.bool true,.bool true,[],rfl,λ_=>rfl,.bool true,Att.AKX l _,λ_=>⟨List.Pairwise.nil,λ_ hm=>(nomatch hm)⟩⟩,u,h3,h4⟩
def YK{K:AL}{H:Hp}{O:AOv}:∀ns:AOz,AT K H O (ns.map V.int) (ns.map D.int)
 |[]=>.nil
 |n::ns=>.cons (.int n) (YK ns)
def walk_f{l:PySem.W.OpenLaw}{n k:Nat}{q:Program}{m:AOt}{XP:(AOs)->Heap->Prop}{YP:World->Heap->Prop}{d:DefRec}{K:Params->AL}{x:Str}{G:GL}
  (hn:l.most=some n) (ag:n<=sizeLine) (ae:d.params.defaults=[]) (hr:Room k callerA)
  (hY:∀(w:World) (h:Heap),YP w h->(K w.params).In h)
  (F:∀(w:World) (r:AOs) (y:Addr) (h:Heap),(K w.params).In h->h.Ns mainGlobals r->r d.name=some (.ref y) ->
   ∃fd:FuncData,(∀(s:Shared) (u:Value),BindsTo s fd ⟨[u],[]⟩ [(x,u)]) /\
    ∀c:Heap,(K w.params).In c->c.Ns mainGlobals r->DF l.prog w (K w.params) r c CX0 k y fd [x] (GB (K w.params) G))
  (hG:∀j:AOz,j.length<=n->(∀z∈j,Builtin.Int.intBits z<=1048576)->∃L',G [.fz (j.map .int)] []=some (.bl true,L')) :
  PySem.W.WalkO q m XP YP l.row.toRowW d [] (λf vs=>PySem.call f vs):=by
 refine AIW hn ae λw ai aj r mb y a vs j v Y_ aa t p i hb hg=>?_;have KX:=hY w _ Y_;obtain⟨fd,ac,hF⟩:=F w r y _ KX v.T.g aa;refine AGK KX v.T.g v.T.b v.T.builtins v.T.nolimit hg t p (Cf i ag) hr hF ac (λH hO hS=>?_) λH e s' h=>h;obtain⟨L',e⟩:=hG j i hb
 have ad:SqF (K w.params) H a (j.map V.int):=by
  rcases hS with(h|h)|h
  .rcases hO a with z|⟨o,xs,z⟩
   .rw[h] at z;cases z
   .rw[h] at z;cases z
  .exact .inl h
  .exact .inr h
 exact⟨[],[],[.fz (j.map .int)],.bl true,L',⟨rfl,Gx,λk a o e=>by simp at e⟩,.cons (.fz ad (YK j)) .nil,e,λw' H' O' st rs is=>by cases is;rfl⟩
section
variable {X:Cx}{a l tg:Expr}{f:EF}{pos:Pos}
abbrev HK:G1:=λx L=>match x with|.int i=>some (.int (-i),L)|_=>none
def AMH(g:Ab X a f):Ab X (.UnaryOp .USub a pos) (BG HK f):=PE.weaken (AEb AB0 g) λY H Q b=>by
 obtain⟨O,Z,L,d,n,r,e,k⟩:=b;refine bI e λp h e=>?_;obtain⟨x,j⟩:=p
 cases x <;> simp only[AX,HK] at e <;> try (cases e;done)
 cases e;refine⟨O,Z,L,_,_,r,h,λv m l i c is=>?_⟩;cases is;exact⟨_,rfl,k _ _ _ i c (.int _)⟩
structure EQ (K:AL) (mg:AOs) (x:Str) (d:D):Prop where
 ex:∃v u,mg x=some u/\Af v u/\∀H O,Is K H O v d
def AMN{x:Str}{d:D}(h:EQ X.K X.mg x d)(f:Gl X x:=by rfl)(e:(x == ("__debug__":Str))=false:=by decide):Ab X (.Name x pos) (AD d):=by obtain⟨v,u,a,b,c⟩:=h.ex;exact AHf a b c f e
abbrev JZ(d:D)(L:AB):Option ME:=match d with
 |.tup xs=>some ⟨xs,λ_=>true⟩
 |.fz xs=>some ⟨xs,λ_=>true⟩
 |.ref k=>(match L[k]? with|some (.lst xs)=>some ⟨xs,λL'=>decide (L'[k]?=some (.lst xs))⟩|_=>none)
 |.str y=>some ⟨sgs y,λ_=>true⟩
 |_=>none
abbrev BN(f:EF):IF:=λZ L=>(f Z L).bind λx=>(JZ x.1 x.2).bind λJ=>some (J,x.2)
def AKf(c:Ab X l f):EM X tg l (BN f):=λa s Y H R I h=>by
 obtain⟨O,Z,L,J,g,r,e,k⟩:=h;refine bI e λp b e=>?_;obtain⟨d,j⟩:=p;simp only[AX] at e
 cases d <;> simp only[JZ,AX,Option.bind_none] at e <;> try (cases e;done)
 .exact AEL c a s Y H R I ⟨O,Z,L,J,g,r,by simp only[YV,b,AX];exact e,k⟩
 .exact AEK c a s Y H R I ⟨O,Z,L,J,g,r,by simp only[YU,b,AX];exact e,k⟩
 .exact XB c a s Y H R I ⟨O,Z,L,J,g,r,by simp only[TK,b,AX];exact e,k⟩
 .rename_i kk;refine XB c a s Y H R I ⟨O,Z,L,J,g,r,?_,k⟩;simp only[TK,b,AX]
  cases i:j[kk]? with
  |none=>rw[i] at e;cases e
  |some o=>rw[i] at e;cases o <;> simp at e ⊢ <;> exact e
end
def AMy:bootBuiltins "int"=some (.type "int"):=by decide +kernel
def AMs:bootBuiltins "str"=some (.type "str"):=by decide +kernel
def AMz:bootBuiltins "bool"=some (.type "bool"):=by decide +kernel
def AMv:bootBuiltins "list"=some (.type "list"):=by decide +kernel
def AMq:bootBuiltins "tuple"=some (.type "tuple"):=by decide +kernel
def AMw:bootBuiltins "len"=some (.builtin "len"):=by decide +kernel
def AM1:bootBuiltins "abs"=some (.builtin "abs"):=by decide +kernel
def AIH:bootBuiltins "min"=some (.builtin "min"):=by decide +kernel
def AMu:bootBuiltins "max"=some (.builtin "max"):=by decide +kernel
def AM0:bootBuiltins "all"=some (.builtin "all"):=by decide +kernel
def AMx:bootBuiltins "isinstance"=some (.builtin "isinstance"):=by decide +kernel
abbrev BlOk(mg:AOs)(ns:AOt):Prop:=∀x∈ns,mg x=none
def BlOk.get{a:AOs}{ns:AOt}(h:BlOk a ns)(x:Str)(b:x∈ns:=by decide):a x=none:=h x b
abbrev BB(p:Program)(i:Nat):Stmt:=p.main.body.getD i (.Pass ⟨0,0,0,0⟩)
abbrev Aj(B:SF)(N:AOt)(n:Nat):GL:=λxs L=>if xs.length=n then
  (match B (GA N xs) L with
   |some (.ret d L2)=>some (if d.noRef=true/\L2.take L.length=L then (d,L) else (d,L2))
   |some (.next _ L2)=>some (if L2.take L.length=L then (.non,L) else (.non,L2))
   |_=>none)
 else none
def Nr{L a:AB}(h:a.take L.length=L):L <+: a:=⟨a.drop L.length,by have:=AOM L.length a;rw[h] at this;exact this⟩
def SJ{B:SF}{N:AOt}{n:Nat}{xs:List D}{L:AB}{d:D}{L':AB}(h:Aj B N n xs L=some (d,L')):AAO B N xs L d L':=by
 unfold Aj at h;split at h
 .split at h
  .rename_i d2 L2 e;split at h
   .rename_i c;cases h;exact⟨L2,.inl e,.inr ⟨rfl,Nr c.2,c.1⟩⟩
   .cases h;exact⟨_,.inl e,.inl rfl⟩
  .rename_i Z L2 e;split at h
   .rename_i c;cases h;exact⟨L2,.inr ⟨rfl,Z,e⟩,.inr ⟨rfl,Nr c,rfl⟩⟩
   .cases h;exact⟨_,.inr ⟨rfl,Z,e⟩,.inl rfl⟩
  .cases h
 .cases h
def SK{B:SF}{N:AOt}{n:Nat}{xs:List D}{L:AB}{r:D×AB}(h:Aj B N n xs L=some r):xs.length=n:=by
 unfold Aj at h;split at h
 .assumption
 .cases h
section
variable {P:Program}{w:World}{K:AL}{mg:AOs}{base:Heap}
def Tc{x a:Str}{st:Stmt}{f:Addr}{d:FuncData}{N ps:AOt}{k:Nat}{B:SF}(g:Hr K x a st f d)(S:Ar N ps (Ad st))
  (i:∀(c:Value) (A:Around) (b:List Env) (s:Shared) (H:Hp) (E:XK),Room k (A.deeper (envOfC a (Ad st) s.heap.objs.size f c)) ->
   FY (Cr CX0 P w K mg base N a (Ad st) f c A b s H E).nox (Fp st) B)
  (j:Dx K d ps []) (m:mg x=some (.ref f)) (e:GY K (.ref f)=true):Am P w K mg base (k+1) x (Aj B N ps.length) :=
 ⟨f,d,ps,Td g S _ B (λ_ _ _ h=>SK h) i (λ_ _ _ _ h=>SJ h),m,e,j⟩
structure TupK (K:AL) (u:Value) (d:D):Prop where
 ex:∃v,Af v u/\∀H O,Is K H O v d
def Hc{i:Int}{t:Tok}:TupK K (.int i t) (.int i):=⟨.int i,⟨t,rfl⟩,λ_ _=>.int i⟩
def EB{x:Str}{t:Tok}(h:x.length<=16777216):TupK K (.str x t) (.str x):=⟨.str x,⟨t,rfl⟩,λ_ _=>.str x h⟩
def ACB:TupK K .none .non:=⟨.non,rfl,λ_ _=>.non⟩
inductive TupsK (K:AL):AOu->List D->Prop
 |nil:TupsK K [] []
 |cons {u:Value} {d:D} {us:AOu} {ds:List D}:TupK K u d->TupsK K us ds->TupsK K (u::us) (d::ds)
def TupsK.get:∀{us:AOu} {ds:List D},TupsK K us ds->∃c,Ae c us/\∀H O,AT K H O c ds
 |_,_,.nil=>⟨[],.nil,λ_ _=>.nil⟩
 |_,_,.cons a b=>by
  obtain⟨v,r,i⟩:=a.ex;obtain⟨c,d,is⟩:=b.get;exact⟨v::c,.cons r d,λH O=>.cons (i H O) (is H O)⟩
def HD{a:Addr}{e:Option Addr}{b:AOu}{n:Nat}{c:Array (Option Value)}{ds:List D}(l:K.lookup a=some ⟨.type "tuple",e,.seq b.toArray n,c⟩)(hz:b.length<=sizeLine)(t:TupsK K b ds):TupK K (.ref a) (.tup ds):=by obtain⟨f,d,is⟩:=t.get;exact⟨.ref a,rfl,λH O=>.tup (.inr ⟨_,b.toArray,n,l,rfl,rfl,by simpa using hz,by simpa using d⟩) (is H O)⟩
def II{x:Str}{u:Value}{d:D}(m:mg x=some u)(t:TupK K u d):EQ K mg x d:=by obtain⟨v,r,i⟩:=t.ex;exact⟨v,u,m,r,i⟩
end
def Xu{U:Type}{us:List U}(h:us.length=1):∃a,us=[a]:=List.length_eq_one_iff.mp h
def Sr{U:Type}{us:List U}{n:Nat}(h:us.length=n+1):∃a b,us=a::b/\b.length=n:=by
 cases us with
 |nil=>cases h
 |cons a b=>exact⟨a,b,rfl,Nat.succ.inj h⟩
def AGH{U:Type}{us:List U}(h:us.length=0):us=[]:=ANV.mp h
def JX{U:Type}{us:List U}(h:us.length=2):∃a b,us=[a,b]:=by obtain⟨a,d,rfl,c⟩:=Sr h;obtain⟨b,rfl⟩:=Xu c;exact⟨a,b,rfl⟩
def IC{U:Type}{us:List U}(h:us.length=3):∃a b c,us=[a,b,c]:=by obtain⟨a,e,rfl,d⟩:=Sr h;obtain⟨b,c,rfl⟩:=JX d;exact⟨a,b,c,rfl⟩
def AGG{U:Type}{us:List U}(h:us.length=4):∃a b c d,us=[a,b,c,d]:=by obtain⟨a,f,rfl,e⟩:=Sr h;obtain⟨b,c,d,rfl⟩:=IC e;exact⟨a,b,c,d,rfl⟩
abbrev DH(x:D)(L:AB):Option (Bool×List D):=match x with
 |.tup xs=>some (true,xs)
 |.fz xs=>some (false,xs)
 |.ref k=>(match L[k]? with|some (.lst xs)=>some (false,xs)|_=>none)
 |_=>none
abbrev FC:List (Option Bool)->Option Bool
 |[]=>some true
 |none::_=>none
 |some b::r=>(FC r).map (b&&·)
abbrev Cj:Nat->AB->D->D->Option Bool
 |0,_,_,_=>none
 |n+1,L,x,y =>
  if BA x=true then (if BA y=true then some (Im x y) else (DH y L).map λ_=>false)
  else (DH x L).bind λp=>if BA y=true then some false else (DH y L).bind λq =>
   if p.1=q.1 then (FC ((p.2.zip q.2).map λz=>Cj n L z.1 z.2)).map (·&&p.2.length == q.2.length) else some false
def Lk(n:Nat)(L:AB)(x y:D):Cj (n+1) L x y=if BA x=true then (if BA y=true then some (Im x y) else (DH y L).map λ_=>false)
  else (DH x L).bind λp=>if BA y=true then some false else (DH y L).bind λq =>
   if p.1=q.1 then (FC ((p.2.zip q.2).map λz=>Cj n L z.1 z.2)).map (·&&p.2.length == q.2.length) else some false:=rfl
def Tz:∀{os:List (Option Bool)} {b:Bool},FC os=some b->∃bs:List Bool,os=bs.map some/\b=bs.all id
 |[],b,h=>by cases h;exact⟨[],rfl,rfl⟩
 |none::_,b,h=>by cases h
 |some c::r,b,h=>by
  simp only[FC] at h
  cases e:FC r with
  |none=>rw[e] at h;cases h
  |some d =>
   rw[e] at h;cases h;obtain⟨bs,f,a⟩:=Tz e;exact⟨c::bs,by rw[f];rfl,by rw[a];rfl⟩
section
variable {X:Cx}{pins:List (Addr×Obj)}{Y:L2.St}{H:Hp}{s:Shared}{O:AOv}{L:AB}
def HF(I:AI X pins Y H s)(g:Aq X.K H O L){v:V}{x:D}{t:Bool}{xs:List D}(i:Is X.K H O v x)(e:DH x L=some (t,xs)) :
  ∃(a:Addr) (d:List V) (b:AOu),v=.ref a/\AT X.K H O d xs/\Ae d b/\(if t=true then s.heap.IsTuple a b.toArray else s.heap.IsList a b.toArray):=by
 cases i with
 |tup h f =>
  cases e;obtain⟨b,r,c,_⟩:=I.tuple h;exact⟨_,_,b,rfl,f,r,c⟩
 |fz h f =>
  cases e;obtain⟨b,r,c,_⟩:=I.list h.sql;exact⟨_,_,b,rfl,f,r,c.isList⟩
 |ref l =>
  simp only[DH] at e;split at e
  .rename_i ys e2;cases e;obtain⟨d,j,k⟩:=g.ob _ _ _ l e2;obtain⟨b,r,c,_⟩:=I.list (BJ.of j);exact⟨_,d,b,rfl,k,r,c.isList⟩
  .cases e
 |_=>cases e
def ADE{a:Addr}{us ws:AOu}{t:Bool}(f:if t=true then s.heap.IsTuple a us.toArray else s.heap.IsList a us.toArray)(e:if t=true then s.heap.IsTuple a ws.toArray else s.heap.IsList a ws.toArray):us=ws:=by
 have q:us.toArray=ws.toArray:=by
  cases t
  .obtain⟨o,ho,hc,n,hd⟩:=f;obtain⟨g,c,d,h,b⟩:=e;rw[ho] at c;cases c;rw[hd] at b;cases b;rfl
  .obtain⟨o,ho,hc,n,hd⟩:=f;obtain⟨g,c,d,h,b⟩:=e;rw[ho] at c;cases c;rw[hd] at b;cases b;rfl
 simpa using congrArg Array.toList q
def Yy{v:V}{x:D}{a:Addr}(i:Is X.K H O v x)(f:BA x=true):v≠.ref a:=by cases i <;> first|(intro z;cases z;done)|(simp[BA] at f)
def Lj{x:D}(f:BA x=true):Im x x=true:=by
 cases x with
 |non=>rfl
 |bl b=>exact(beq_self_eq_true b:(b == b)=true)
 |int b=>exact(beq_self_eq_true b:(b == b)=true)
 |str b=>exact(beq_self_eq_true b:(b == b)=true)
 |_=>exact ftF f
def ZG(I:AI X pins Y H s)(u:Aq X.K H O L):∀(n:Nat) {v:V} {x y:D} {b:Bool},Is X.K H O v x->Is X.K H O v y->Cj n L x y=some b->b=true
 |0,_,_,_,_,_,_,e=>by cases e
 |n+1,v,x,y,b,ix,iy,e=>by
  simp only[Cj] at e
  by_cases i:BA x=true
  .rw[if_pos i] at e
   by_cases f:BA y=true
   .rw[if_pos f] at e;cases e;have:x=y:=(IX i f).mp ((Em ix i).symm.trans (Em iy f));subst this;exact Lj i
   .rw[if_neg f] at e
    cases w:DH y L with
    |none=>rw[w] at e;cases e
    |some q =>
     obtain⟨a,_,_,hv,_⟩:=HF I u iy w;exact absurd hv (Yy ix i)
  .rw[if_neg i] at e;refine bI e λp hx e=>?_;obtain⟨a,vs,ae,hv,il,r,o⟩:=HF I u ix hx
   by_cases f:BA y=true
   .exact absurd hv (Yy iy f)
   .rw[if_neg f] at e;refine bI e λq w e=>?_;obtain⟨a',ad,ac,l,g,r',d⟩:=HF I u iy w;rw[hv] at l;cases l;obtain⟨t,xs⟩:=p;obtain⟨t',ys⟩:=q;simp only at e o d il g
    by_cases ht:t=t'
    .subst ht;rw[if_pos rfl] at e;have k:=ADE o d;subst k;have aa:=r.inj r';subst aa
     cases q:FC ((xs.zip ys).map λz=>Cj n L z.1 z.2) with
     |none=>rw[q] at e;cases e
     |some c =>
      rw[q] at e;cases e;obtain⟨bs,e1,rfl⟩:=Tz q;rw[Bs];refine⟨?_,beq_iff_eq.mpr (il.length.symm.trans g.length)⟩;rw[CM];intro c hc;obtain⟨j,hj,rfl⟩:=AN3 hc;have h:((xs.zip ys).map λz=>Cj n L z.1 z.2)[j]?=some (some bs[j]):=by rw[e1];simp[hj]
      rw[As] at h
      cases m:(xs.zip ys)[j]? with
      |none=>rw[m] at h;cases h
      |some z =>
       rw[m] at h;simp only[ANW,Option.some.injEq] at h;rw[List.getElem?_zip_eq_some] at m;obtain⟨v1,h1,i1⟩:=il.get m.1;obtain⟨v2,h2,i2⟩:=g.get m.2;rw[h1] at h2;cases h2;exact ZG I u n i1 i2 h
    .exfalso
     cases t <;> cases t' <;> first|exact ht rfl|skip
     .exact SeqAt.ne_of_list_tuple o d rfl
     .exact SeqAt.ne_of_list_tuple d o rfl
def Yx{A:Around}{v u:V}{a:Addr}{w w':Value}{e:AOu}{t:Bool}(c:A.units<cLine)(f:GN v=true)(g:Af v w)(d:if t=true then s.heap.IsTuple a e.toArray else s.heap.IsList a e.toArray) :
  SeqAt.EqAt A s w (.ref a) false/\SeqAt.EqAt A s (.ref a) w false:=by
 cases v with
 |non=>cases g;cases t;exact⟨.none_list d c,.list_none d c⟩;exact⟨.none_tuple d c,.tuple_none d c⟩
 |bl b=>cases g;cases t;exact⟨.bool_list b d c,.list_bool b d c⟩;exact⟨.bool_tuple b d c,.tuple_bool b d c⟩
 |int b=>obtain⟨k,rfl⟩:=g;cases t;exact⟨.int_list b k d c,.list_int b k d c⟩;exact⟨.int_tuple b k d c,.tuple_int b k d c⟩
 |str b=>obtain⟨k,rfl⟩:=g;cases t;exact⟨.str_list b k d c,.list_str b k d c⟩;exact⟨.str_tuple b k d c,.tuple_str b k d c⟩
 |_=>cases f
def AAF(bs:List Bool):(List.range bs.length).all (λj=>bs.getD j false)=bs.all id:=by
 rw[ANs,CM,CM];constructor
 .intro h c hc;obtain⟨j,b,rfl⟩:=AN3 hc;have:=h j (CK.mpr b);simpa[b] using this
 .intro h j b;have a:=CK.mp b;have:=h bs[j] (AOL a);simpa[a] using this
def AE3{A:Around}{xs a:List D}{vs ws:List V}{us c:AOu}{n:Nat}{bs:List Bool}(o:AT X.K H O vs xs)(l:AT X.K H O ws a)(rx:Ae vs us)(r:Ae ws c)
  (e1:(xs.zip a).map (λz=>Cj n L z.1 z.2)=bs.map some)
  (f:∀{v w:V} {x y:D} {u z:Value} {b:Bool},Is X.K H O v x->Is X.K H O w y->Af v u->Af w z->Cj n L x y=some b->SeqAt.EqAt A s u z b) :
  ∀j (t:j<us.toArray.size) (k:j<c.toArray.size),SeqAt.EqAt A s us.toArray[j] c.toArray[j] (bs.getD j false):=by
 intro j t k;have g:j<us.length:=by simpa using t
 have h:j<c.length:=by simpa using k
 have hx:j<xs.length:=by rw[<-o.length,rx.length];exact g
 have p:j<a.length:=by rw[<-l.length,r.length];exact h
 obtain⟨v,hv,iv⟩:=o.get (i:=j) (d:=xs[j]) (by simp[hx]);obtain⟨w,hw,iw⟩:=l.get (i:=j) (d:=a[j]) (by simp[p]);obtain⟨u,hu,ru⟩:=rx.get hv;obtain⟨z,hz,rz⟩:=r.get hw
 have eu:us.toArray[j]=u:=by have:=Ax.mp hu;obtain⟨_,q⟩:=this;simpa using q
 have ez:c.toArray[j]=z:=by have:=Ax.mp hz;obtain⟨_,q⟩:=this;simpa using q
 rw[eu,ez]
 have m:j<bs.length:=by have:=congrArg List.length e1;simp at this;omega
 have e:((xs.zip a).map λz=>Cj n L z.1 z.2)[j]?=some (some bs[j]):=by rw[e1];simp[m]
 have e3:(xs.zip a)[j]?=some (xs[j],a[j]):=by rw[List.getElem?_zip_eq_some];exact⟨by simp[hx],by simp[p]⟩
 rw[As,e3] at e;simp only[ANW,Option.some.injEq] at e;have e4:bs.getD j false=bs[j]:=by simp[m]
 rw[e4];exact f iv iw ru rz e
def SH{A:Around}{a c:Addr}{xs d:List D}{vs ws:List V}{us j:AOu}{n:Nat}{t b:Bool}(g:A.units<cLine)(ix:AT X.K H O vs xs)(r:AT X.K H O ws d)(rx:Ae vs us)(ry:Ae ws j)
  (f:if t=true then s.heap.IsTuple a us.toArray else s.heap.IsList a us.toArray) (h:if t=true then s.heap.IsTuple c j.toArray else s.heap.IsList c j.toArray)
  (e:(FC ((xs.zip d).map λz=>Cj n L z.1 z.2)).map (·&&xs.length == d.length)=some b)
  (o:∀{v w:V} {x y:D} {u z:Value} {b:Bool},Is X.K H O v x->Is X.K H O w y->Af v u->Af w z->Cj n L x y=some b->SeqAt.EqAt A.in1 s u z b) :
  SeqAt.RcAt A s (.ref a) (.ref c) b/\SeqAt.RcNeAt A s (.ref a) (.ref c) (!b):=by
 cases q:FC ((xs.zip d).map λz=>Cj n L z.1 z.2) with
 |none=>rw[q] at e;cases e
 |some k =>
  rw[q] at e;cases e;obtain⟨bs,e1,rfl⟩:=Tz q;have m:=AE3 ix r rx ry e1 o;have p:us.toArray.size=xs.length:=by simp[<-rx.length,ix.length]
  have ly:j.toArray.size=d.length:=by simp[<-ry.length,r.length]
  have lb:bs.length=min xs.length d.length:=by have:=congrArg List.length e1;simpa using this.symm
  cases t
  .by_cases hl:xs.length=d.length
   .have h1:=SeqAt.RcAt.lists f h (by omega) g m;have i:=SeqAt.RcNeAt.lists f h (by omega) g m;rw[show us.toArray.size=bs.length by omega,AAF] at h1 i;have:(xs.length == d.length)=true:=beq_iff_eq.mpr hl;rw[this];simp only[Bool.and_true];exact⟨h1,i⟩
   .have:(xs.length == d.length)=false:=by simpa using hl
    rw[this];simp only[Bool.and_false];have l:(us.toArray.size != j.toArray.size)=true:=by rw[p,ly];simpa using hl
    exact⟨SeqAt.RcAt.lists_lengths f h l g,SeqAt.RcNeAt.lists_lengths f h l g⟩
  .have h1:=SeqAt.RcAt.tuples f h g m;have i:=SeqAt.RcNeAt.tuples f h g m;rw[p,ly,<-lb,AAF] at h1 i;exact⟨h1,i⟩
def Tf(I:AI X pins Y H s)(k:Aq X.K H O L):∀(n:Nat) {A:Around} {v w:V} {x y:D} {u z:Value} {b:Bool},A.units+n<cLine->Is X.K H O v x->Is X.K H O w y->Af v u->Af w z->Cj n L x y=some b->SeqAt.EqAt A s u z b
 |0,_,_,_,_,_,_,_,_,_,_,_,_,_,e=>by cases e
 |n+1,A,v,w,x,y,u,z,b,hu,ix,iy,ru,rz,e=>by
  have e0:=e;simp only[Cj] at e
  by_cases h:BA x=true
  .rw[if_pos h] at e
   by_cases d:BA y=true
   .rw[if_pos d] at e;cases e;have m:=Em ix h;have h2:=Em iy d;subst m h2;exact ZI ru rz (Jh h) (Jh d)
   .rw[if_neg d] at e
    cases l:DH y L with
    |none=>rw[l] at e;cases e
    |some q =>
     rw[l] at e;cases e;obtain⟨a,_,o,rfl,_,_,g⟩:=HF I k iy l;cases rz;have m:=Em ix h;subst m;exact(Yx (u:=.non) (w':=.none) (by omega) (Jh h) ru g).1
  .rw[if_neg h] at e;refine bI e λp hx e=>?_;obtain⟨a,vs,o,rfl,il,r,g⟩:=HF I k ix hx;cases ru
   by_cases d:BA y=true
   .rw[if_pos d] at e;cases e;have m:=Em iy d;subst m;exact(Yx (u:=.non) (w':=.none) (by omega) (Jh d) rz g).2
   .rw[if_neg d] at e;refine bI e λq l e=>?_;obtain⟨c,ws,zs,rfl,j,r',f⟩:=HF I k iy l;cases rz;obtain⟨t,xs⟩:=p;obtain⟨t',ys⟩:=q;simp only at e g f il j
    by_cases ht:t=t'
    .subst ht;rw[if_pos rfl] at e
     by_cases i:a=c
     .subst i;have:=ZG I k (n+1) ix iy e0;subst this;exact .same _
     .refine .of_refs i (SH (by omega) il j r r' g f e λa1 a2 a3 a4 a5=>Tf I k n ?_ a1 a2 a3 a4 a5).1;rw[Around.in1_units];omega
    .rw[if_neg ht] at e;cases e
     cases t <;> cases t' <;> first|exact absurd rfl ht|skip
     .exact .list_tuple g f (by omega)
     .exact .tuple_list g f (by omega)
end
abbrev He(x:D)(L:AB):Bool:=(DH x L).isSome
abbrev Ek:G2:=λx y L=>if Ex x y=true then some (.bl (decide (x=y)),L) else if (He x L&&He y L)=true then (Cj 30 L x y).map λb=>(.bl b,L) else none
abbrev Lb:G2:=λx y L=>if Ex x y=true then some (.bl (!decide (x=y)),L) else if (He x L&&He y L)=true then (match DH x L,DH y L with
  |some (t,_),some (t',_)=>if t=t' then (Cj 30 L x y).map λb=>(.bl (!b),L) else none
  |_,_=>none) else none
section
variable {X:Cx}
def No{x:D}{L:AB}{p:Bool×List D}(h:DH x L=some p):BA x=false:=by cases x <;> first|rfl|(simp[DH] at h)
def AHX(hu:X.A.units+64<cLine):Aw X (compareOp .Eq) (λv u H Q=>∃O L x y b,Aq X.K H O L/\Is X.K H O v x/\Is X.K H O u y/\He x L=true/\He y L=true/\Cj 30 L x y=some b/\Q (.bl b) H):=by
 intro o s Y H v u w z Q I rv ru h;obtain⟨O,L,x,y,b,i,ix,iy,n,m,e,q⟩:=h;unfold He at n m;obtain⟨⟨t,xs⟩,k⟩:=AOG.mp n;obtain⟨⟨p,ys⟩,j⟩:=AOG.mp m;have fx:=No k;have fy:=No j;rw[show(30:Nat)=29+1 from rfl,Lk,if_neg (by rw[fx];exact HB),k,AX,if_neg (by rw[fy];exact HB),j,AX] at e;obtain⟨a,vs,aa,rfl,il,r,f⟩:=HF I i ix k;obtain⟨c,ws,zs,rfl,g,r',d⟩:=HF I i iy j;cases rv;cases ru;simp only at e
 by_cases l:t=p
 .subst l;rw[if_pos rfl] at e;exact(SH (by omega) il g r r' f d e λa1 a2 a3 a4 a5=>Tf I i 29 (by rw[Around.in1_units];omega) a1 a2 a3 a4 a5).1 _ _ _ _ ⟨.bl b,H,I,rfl,q⟩
 .rw[if_neg l] at e;cases e
  cases t <;> cases p <;> first|exact absurd rfl l|skip
  .exact SeqAt.RcAt.list_tuple f d (by omega) _ _ _ _ ⟨.bl _,H,I,rfl,q⟩
  .exact SeqAt.RcAt.tuple_list f d (by omega) _ _ _ _ ⟨.bl _,H,I,rfl,q⟩
def AFd(hu:X.A.units+64<cLine):Aw X (compareOp .NotEq) (λv u H Q=>∃O L x y b t k m,Aq X.K H O L/\Is X.K H O v x/\Is X.K H O u y/\DH x L=some (t,k)/\DH y L=some (t,m)/\Cj 30 L x y=some b/\Q (.bl (!b)) H):=by intro l s Y H v u w z Q I n ru h;obtain⟨O,L,x,y,b,t,k,m,f,ix,iy,i,g,e,q⟩:=h;have fx:=No i;have p:=No g;rw[show(30:Nat)=29+1 from rfl,Lk,if_neg (by rw[fx];exact HB),i,AX,if_neg (by rw[p];exact HB),g,AX] at e;obtain⟨a,vs,aa,rfl,il,r,hp⟩:=HF I f ix i;obtain⟨c,ws,zs,rfl,d,o,j⟩:=HF I f iy g;cases n;cases ru;rw[if_pos rfl] at e;exact(SH (by omega) il d r o hp j e λa1 a2 a3 a4 a5=>Tf I f 29 (by rw[Around.in1_units];omega) a1 a2 a3 a4 a5).2 _ _ _ _ ⟨.bl _,H,I,rfl,q⟩
def AKz(i:X.A.units+64<cLine):Ck X (compareOp .Eq) Ek:=Aw.weaken (Aw.or XU (AHX i)) λv u H Q c=>by
 obtain⟨O,L,x,y,d,n,a,g,f,e,k⟩:=c;unfold Ek at e;split at e
 .rename_i hs;cases e;have m:=hs;simp only[Ex,Bs] at hs;have j:=Em g hs.1.1;have l:=Em f hs.1.2;subst j l;refine .inl ⟨hs.2,?_⟩;have:=k (.bl (decide (x=y))) _ _ (.refl _ _) a (.bl _)
  have e:decide (DX x=DX y)=decide (x=y):=by
   by_cases h:x=y
   .rw[decide_eq_true h,decide_eq_true ((IX hs.1.1 hs.1.2).mpr h)]
   .rw[decide_eq_false h,decide_eq_false (λz=>h ((IX hs.1.1 hs.1.2).mp z))]
  rw[e];exact this
 .split at e
  .rename_i hq;rw[Bs] at hq
   cases q:Cj 30 L x y with
   |none=>rw[q] at e;cases e
   |some b =>
    rw[q] at e;cases e;exact .inr ⟨O,_,x,y,b,a,g,f,hq.1,hq.2,q,k _ _ _ (.refl _ _) a (.bl _)⟩
  .cases e
def AKm(i:X.A.units+64<cLine):Ck X (compareOp .NotEq) Lb:=Aw.weaken (Aw.or XT (AFd i)) λv u H Q c=>by
 obtain⟨O,L,x,y,d,m,a,g,f,e,k⟩:=c;unfold Lb at e;split at e
 .rename_i hs;cases e;simp only[Ex,Bs] at hs;have j:=Em g hs.1.1;have l:=Em f hs.1.2;subst j l;refine .inl ⟨hs.2,?_⟩;have:=k (.bl (!decide (x=y))) _ _ (.refl _ _) a (.bl _)
  have e:decide (DX x=DX y)=decide (x=y):=by
   by_cases h:x=y
   .rw[decide_eq_true h,decide_eq_true ((IX hs.1.1 hs.1.2).mpr h)]
   .rw[decide_eq_false h,decide_eq_false (λz=>h ((IX hs.1.1 hs.1.2).mp z))]
  rw[e];exact this
 .split at e
  .split at e
   .rename_i t xs t' ys hx hy;split at e
    .rename_i ht;subst ht
     cases q:Cj 30 L x y with
     |none=>rw[q] at e;cases e
     |some b =>
      rw[q] at e;cases e;exact .inr ⟨O,_,x,y,b,t,xs,ys,a,g,f,hx,hy,q,k _ _ _ (.refl _ _) a (.bl _)⟩
    .cases e
   .cases e
  .cases e
end
abbrev Si:SF:=λ_ _=>none
def AKH{X:Cx}{st:Stmt}:Du X st Si:=PS.weaken AD0 λD Y H a=>by obtain⟨O,Z,L,b,r,e,k⟩:=a;cases e
def fnd_none{P:Program}{w:World}{K:AL}{d:AOs}{a:Heap}{k:Nat}{x:Str}{f:Addr}{c:FuncData}{ps:AOt}(l:Dx K c ps [])(m:d x=some (.ref f))(i:GY K (.ref f)=true):Am P w K d a k x (λ_ _=>none) :=
 ⟨f,c,ps,⟨(λj H Q E h=>by obtain⟨_,_,_,_,_,_,_,e,_⟩:=h;cases e),(λA b s H g n j Q E _ _ _ _ h=>by obtain⟨_,_,_,_,_,_,_,e,_⟩:=h;cases e)⟩,m,i,l⟩
abbrev La(o i v:D)(L:AB):Option AB:=match o,i with
 |.ref k,.int j=>(match L[k]? with|some (.lst xs)=>(match ixN xs.length j with|some n=>some (L.set k (.lst (xs.set n v)))|none=>none)|_=>none)
 |_,_=>none
abbrev CW(fo fi fv:EF):SF:=λZ L=>(fv Z L).bind λv=>(fo Z v.2).bind λo=>(fi Z o.2).bind λi=>(La o.1 i.1 v.1 i.2).bind λL'=>some (.next Z L')
section
variable {X:Cx}{a b c o i e:Expr}{fa fb fc fo fi fv:EF}{pos:Pos}
def AKG{j:Pos}(ho:Ab X o fo)(hi:Ab X i fi)(he:Ab X e fv)(hs:swapsWithSole [.Subscript o i j] e pos.line X.env=pure false:=by rfl)(hw:swappedStores [.Subscript o i j] e X.env=pure none:=by rfl)
  (h1:(assignEach [.Subscript o i j] X.env).map (·.2)=[assign (.Subscript o i j) X.env]:=by rfl)
  (ha:∀v,assign (.Subscript o i j) X.env v=(do
   let m <-holding [v] (eval o X.env)
   let y <-holding [v,m] (eval i X.env)
   standAt j
   holding [v,m,y] (setItem m y v)
   release [v,m,y] []):=by intro _;rfl):Du X (.Assign [.Subscript o i j] e pos) (CW fo fi fv) :=
 PS.weaken (SR he (XF ho hi AC8 ha) hs hw h1) λD Y H ae=>by
  obtain⟨O,Z,L,ai,r,a,k⟩:=ae;refine bI a λp e1 a=>?_;refine bI a λq e2 a=>?_;refine bI a λw e3 a=>?_;refine bI a λL' b a=>?_;cases a;refine⟨O,Z,L,p.1,p.2,r,e1,λv H1 O1 g ac aa=>⟨O1,Z,p.2,q.1,q.2,r.to g ac,e2,λm H2 O2 d ad z=>⟨O2,Z,q.2,w.1,w.2,r.to (g.trans d) ad,e3,λy H3 O3 c l s=>?_⟩⟩⟩;have ag:=(aa.mono d).mono c;have x:=z.mono c;unfold La at b;split at b
  .rename_i kk jj hk hj;rw[hk] at x;rw[hj] at s;cases s
   cases x with|@ref _ pa u =>
    split at b
    .rename_i xs hx;split at b
     .rename_i n hn;cases b;obtain⟨vs,hv,il⟩:=l.ob _ _ _ u hx;refine⟨pa,vs,_,n,rfl,rfl,hv,by rw[il.length];exact hn,?_⟩;have h:An H3 O3 (upd H3 pa (.lst (vs.set n v))) O3:=⟨.write hv id,AV _⟩;have t:=((g.trans d).trans c).trans h;exact k _ _ _ t ⟨l.write (o':=.lst (xs.set n p.1)) u ⟨_,CT,(il.mono h).set (ag.mono h) n⟩,r.f.mono t⟩
     .cases b
    .cases b
  .cases b
abbrev Jm(g g':G2)(fa fb fc:EF):EF:=λZ L=>(fa Z L).bind λx=>(fb Z x.2).bind λy=>(g x.1 y.1 y.2).bind λz=>match z.1 with
 |.bl true=>(fc Z z.2).bind λw=>g' y.1 w.1 w.2
 |.bl false=>some (.bl false,z.2)
 |_=>none
def AH4{K:AL}{g g':G2}{Y:L2.St}{H:Hp}{Q:VK}(h:lift K (Jm g g' fa fb fc) Y H Q):WB (rD K g) (rD K g') (lift K fa) (lift K fb) (lift K fc) Y H Q:=by
 obtain⟨O,Z,L,d,L',r,e,k⟩:=h;refine bI e λp e1 e=>?_;refine bI e λq e2 e=>?_;refine bI e λz e3 e=>?_;refine⟨O,Z,L,p.1,p.2,r,e1,λv H1 O1 j t o=>⟨O1,Z,p.2,q.1,q.2,r.to j t,e2,λu H2 O2 i ad f=>?_⟩⟩;refine⟨O2,q.2,p.1,q.1,z.1,z.2,ad,o.mono i,f,e3,λw H3 O3 c b s=>?_⟩;have a:=(j.trans i).trans c;obtain⟨zd,zL⟩:=z
 cases zd <;> try (cases e;done)
 rename_i bb;cases s;refine⟨bb,rfl,?_⟩
 cases bb with
 |false=>cases e;exact iteF (k _ _ _ a b (.bl _))
 |true =>
  simp only at e;refine bI e λw e4 e=>?_;refine iteT ⟨O3,Z,zL,w.1,w.2,r.to a b,e4,λu4 H4 O4 l n ac=>?_⟩;exact⟨O4,w.2,q.1,w.1,d,L',n,(f.mono c).mono l,ac,e,λy H5 O5 x aa m=>k _ _ _ ((a.trans l).trans x) aa m⟩
def AJ5{f d:CmpOp}{g g':G2}(ho:Ck X (compareOp f) g)(e:Ck X (compareOp d) g')(k:Ab X a fa)(i:Ab X b fb)(j:Ab X c fc)
  (l:lastMarks [f,d] [b,c]=false:=by with_unfolding_all rfl):FE X (.Compare a [f,d] [b,c] pos) (AS (Jm g g' fa fb fc)) :=
 PT.weaken (ADt ho e k i j l) λY H Q h=>by
  have q:=Tu h;exact AH4 q
end
end L3
namespace HT
open PySem PySem.Spec PyProof.Rows
section
variable {prog:Program}{w:World}{A:Around}{E:AO0}
def ZO{f t:Addr}{a:Array Value}(h:t≠f):∀(n i:Nat) (s:Shared) (Q:AOu->Shared->Prop),s.heap.IsListIter f t i->s.heap.IsList t a->i+n<=a.size ->
  (∀h',Heap.IsListIter h' f t (i+n)->Heap.SameBut f s.heap h'->Q ((a.toList.drop i).take n) {s with heap:=h'})->wpAny (model prog w) A (draw (.ref f) n) Q E s
 |0,i,s,Q,hit,_,_,hQ=>by
  show wpAny _ _ (pure []) Q E s;exact AO (by simpa using hQ s.heap hit (Heap.SameBut.refl ..))
 |n+1,i,s,Q,hit,ht,hle,hQ=>by
  have j:i<a.size:=by omega
  show wpAny _ _ (pyNext (.ref f) >>= _) Q E s;refine AH (wpAny_pyNext_list_item hit ht (x:=a[i]) (by simp[j]) λk c b=>?_);refine AH (DW (ZO h n (i+1) _ _ c (ht.extBut b.extBut h) (by omega) λg d e=>AO ?_));have l:a.toList.drop i=a[i]::a.toList.drop (i+1):=by simp[AN4,j]
  have:=hQ g (by rw[show i+(n+1)=i+1+n by omega];exact d) (b.trans e);rw[l,List.take_succ_cons] at this;exact this
variable {s:Shared}
def ABz{t:Addr}{a:Array Value}{Q:AOu->Shared->Prop}(v:A.handled=none)(m:s.heap.IsList t a)
  (u:∀n,Heap.ExtBut s.heap.objs.size s.heap n->Q a.toList {s with heap:=n}):wpAny (model prog w) A (unpackItems (.ref t) a.size none) Q E s:=by
 have k:t≠s.heap.objs.size:=by obtain⟨o,ho,_⟩:=m;exact Bm (Heap.lt_size ho)
 have j:∀p,Heap.IsList (s.heap.push p) t a:=λp=>let ⟨o,ho,r⟩:=m;⟨o,Heap.get?_push_of_some _ ho,r⟩;unfold unpackItems;refine AH ?_
 .unfold notIterableAtAll;refine AH (wpAny_specialOf m.typeIs slot_list_iter.lookup ?_);refine AO ?_;simp only[ANX,if_false];refine AH (DW (AOi m ?_));refine AH (DW (ZO k a.size 0 _ _ ⟨_,Heap.get?_push_size _ rfl,rfl,rfl⟩ (j _) (by omega) λi d c=>?_))
  have l:List.take a.size (List.drop 0 a.toList)=a.toList:=by rw[ANn];exact ANu (by simp)
  rw[l];rw[if_neg (by simp)];have f:Heap.IsList i t a:=(j _).extBut c.extBut k;refine AH (DW (wpAny_pyNext_list_end v d f (by simp) λh g=>?_));simp only[Option.isSome_none,ANX,if_false];refine AO (u h λb o q e=>g b o q (c.extBut b o q (Heap.get?_push_of_some _ e)))
def ANB{env:Env}{b:AOw}{x1}{pos:Pos}{t:Addr}{a:Array Value}{Q:Unit->Shared->Prop}(e:A.handled=none)(g:s.heap.IsList t a)
  (f:(assignEach b env).length=a.size) (c:(assignEach b env).findIdx? (·.1)=none)
  (h:∀d,Heap.ExtBut s.heap.objs.size s.heap d->wpAny (model prog w) A (assignInOrder ((assignEach b env).map (·.2)) a.toList) Q E {s with heap:=d}) :
  wpAny (model prog w) A (assign (.Tuple b x1 pos) env (.ref t)) Q E s:=by
 rw[assign_Tuple];refine AH (wpAny_standAt ?_);unfold unpack;rw[f,c];exact AH (DW (ABz e g h))
end
end HT
namespace L2
open PySem PySem.Spec PyProof.Rows
section
variable {X:Cx}{pos:Pos}
abbrev AHD(K:AL)(n:Nat)(t:HV):TG:=λv Y H Q=>∃a xs,v=.ref a/\BJ K H a xs/\xs.length=n/\t xs Y H Q
def AEZ{es:AOw}{k:Nat}{t:HV}{n:Nat}(j:X.calm=true)(h:Gs X es t)
  (y:(assignEach es X.env).length=n:=by rfl) (d:(assignEach es X.env).findIdx? (·.1)=none:=by rfl):PG X (.Tuple es k pos) (AHD X.K n t):=by
 intro c s Y H v u Q I r hw;obtain⟨a,g,l,p,w,hw⟩:=hw;subst l;cases r;obtain⟨x,f,z,hz⟩:=I.list p;refine HT.ANB (I.ok.hd j) z.isList (by simp[y,<-w,f.length]) d λi m=>?_;have q:AI X c Y H {s with heap:=i}:=I.kept (t':=s.toks) λb o e=>m b o (Bm (Heap.lt_size e)) e;exact h c _ Y H g _ Q q (by simpa using f) hw
def PG.or{b:Expr}{t t':TG}(h:PG X b t)(h':PG X b t'):PG X b (λv Y H Q=>t v Y H Q\/t' v Y H Q):=by
 intro a s Y H v u Q I r q;rcases q with q|q
 .exact h a s Y H v u Q I r q
 .exact h' a s Y H v u Q I r q
end
end L2
namespace L3
open PySem PySem.Spec PyProof.Rows L2
abbrev Jr(f:EF)(n:Nat)(gs:FF):SF:=λZ L=>(f Z L).bind λx=>(Cq x.1 x.2).bind λds=>if ds.length=n then (gs ds Z).bind λZ'=>some (.next Z' x.2) else none
def AKQ{X:Cx}{es:AOw}{k n:Nat}{e:Expr}{f:EF}{t:FF}{pos i:Pos}(u:X.calm=true)(he:Ab X e f)(x:Jw X es t)
  (y:(assignEach es X.env).length=n:=by rfl) (j:(assignEach es X.env).findIdx? (·.1)=none:=by rfl)
  (hs:swapsWithSole [.Tuple es k i] e pos.line X.env=pure false:=by rfl) (hw:swappedStores [.Tuple es k i] e X.env=pure none:=by rfl)
  (h1:(assignEach [.Tuple es k i] X.env).map (·.2)=[assign (.Tuple es k i) X.env]:=by rfl):Du X (.Assign [.Tuple es k i] e pos) (Jr f n t) :=
 PS.weaken (SR he (PG.or (XE u x y j) (AEZ u x y j)) hs hw h1) λD Y H o=>by
  obtain⟨O,Z,L,aa,r,b,kk⟩:=o;refine bI b λp e1 b=>?_;refine bI b λds e2 b=>?_;split at b
  .rename_i hl;refine bI b λZ' e3 b=>?_;cases b;refine⟨O,Z,L,p.1,p.2,r,e1,λv z w c d l=>?_⟩;obtain⟨a,m,rfl,h,s⟩:=IY d l e2;have g:liftGs X.K t m Y z (λq H'=>D.nx q H'):=⟨w,Z,p.2,ds,Z',r.to c d,s,e3,λq rp=>kk q z w c rp⟩;rcases h with h|h
   .exact .inr ⟨a,m,rfl,h,by rw[s.length];exact hl,g⟩
   .exact .inl ⟨a,m,rfl,h,by rw[s.length];exact hl,g⟩
  .cases b
abbrev EW(f:Str)(v:D):List (Str×D)->List (Str×D)
 |[]=>[(f,v)]
 |(g,x)::r=>if g=f then (g,v)::r else (g,x)::EW f v r
section
variable {K:AL}{H:Hp}{O:AOv}
def Sq{f:Str}{d:D}:∀{us:List (Str×V)} {fs:List (Str×D)},us.map (·.1)=fs.map (·.1)->AT K H O (us.map (·.2)) (fs.map (·.2))->fs.lookup f=some d->∃v,us.lookup f=some v/\Is K H O v d
 |[],[],_,_,h=>by cases h
 |[],_::_,h,_,_=>by cases h
 |_::_,[],h,_,_=>by cases h
 |(g,u)::us,(g',x)::fs,c,hi,hl=>by
  simp only[Al,List.cons.injEq] at c;obtain⟨rfl,c⟩:=c
  cases hi with
  |cons a b =>
   by_cases e:f=g
   .subst e;simp only[Fx,beq_self_eq_true,Option.some.injEq] at hl;subst hl;exact⟨u,by simp[Fx],a⟩
   .have hb:(f == g)=false:=beq_eq_false_iff_ne.mpr e;simp only[Fx,hb] at hl;obtain⟨v,i,j⟩:=Sq c b hl;exact⟨v,by simp only[Fx,hb];exact i,j⟩
def SQ{f:Str}{v:V}{d:D}(i:Is K H O v d):∀{us:List (Str×V)} {fs:List (Str×D)},us.map (·.1)=fs.map (·.1)->AT K H O (us.map (·.2)) (fs.map (·.2)) ->
  (L2.CW f v us).map (·.1)=(EW f d fs).map (·.1)/\AT K H O ((L2.CW f v us).map (·.2)) ((EW f d fs).map (·.2))
 |[],[],_,_=>⟨rfl,.cons i .nil⟩
 |[],_::_,h,_=>by cases h
 |_::_,[],h,_=>by cases h
 |(g,u)::us,(g',x)::fs,c,hi=>by
  simp only[Al,List.cons.injEq] at c;obtain⟨rfl,c⟩:=c
  cases hi with
  |cons a b =>
   obtain⟨j,k⟩:=SQ i c b;unfold L2.CW EW
   by_cases e:g=f
   .rw[if_pos e,if_pos e];exact⟨by simp[c],.cons i b⟩
   .rw[if_neg e,if_neg e];exact⟨by simp[j],.cons a k⟩
end
structure DO (K:AL) (c f:Str):Prop where
 ok:∀C,Fv K c C->Cls K C/\IU K C f
abbrev BO(cs:AOt)(f:Str):G1:=λx L=>match x with
 |.ref k=>(match L[k]? with|some (.ins c fs)=>if c∈cs then (fs.lookup f).bind λd=>some (d,L) else none|_=>none)
 |_=>none
section
variable {X:Cx}{o e:Expr}{fo fe:EF}{f:Str}{cs:AOt}{pos pos':Pos}
def AMO(he:Ab X o fo)(m:∀c∈cs,DO X.K c f)(u:attributeBase o f X.env (eval o X.env)=eval o X.env:=by rfl):Ab X (.Attribute o f pos) (BG (BO cs f) fo) :=
 PE.weaken (AEq he u) λY H Q i=>by
  obtain⟨O,Z,L,d,L',r,e,k⟩:=i;refine bI e λp e1 e=>?_;obtain⟨x,l⟩:=p;simp only[AX,BO] at e;refine⟨O,Z,L,x,l,r,e1,λv H1 O1 w j is=>?_⟩
  cases is <;> try (cases e;done)
  rename_i kk a z;simp only at e
  cases g:l[kk]? with
  |none=>rw[g] at e;cases e
  |some n =>
   rw[g] at e
   cases n with
   |lst _=>cases e
   |dk _=>cases e
   |dt _ _=>cases e
   |exn _=>cases e
   |ins c fs =>
    simp only at e;split at e
    .rename_i hcm;obtain⟨C,q,y,hC,hH,b,hi⟩:=j.ob _ _ _ z g;refine bI e λd0 e3 e=>?_;cases e;obtain⟨v',h,t⟩:=Sq b hi e3;obtain⟨h1,s⟩:=(m c hcm).ok C hC;exact⟨a,C,q,y,v',rfl,hH,h1,s,h,k _ _ _ w j t⟩
    .cases e
abbrev LH(cs:AOt)(f:Str)(x v:D)(L:AB):Option AB:=match x with
 |.ref k=>(match L[k]? with|some (.ins c fs)=>if c∈cs/\fs.length<1000 then some (L.set k (.ins c (EW f v fs))) else none|_=>none)
 |_=>none
abbrev Gf(cs:AOt)(f:Str)(fo fv:EF):SF:=λZ L=>(fv Z L).bind λv=>(fo Z v.2).bind λx=>(LH cs f x.1 v.1 x.2).bind λL'=>some (.next Z L')
def AKF(ho:Ab X o fo)(he:Ab X e fe)(hc:∀c∈cs,DO X.K c f)(hs:swapsWith e (some (.Attribute o f pos')) pos.line X.env=pure false:=by rfl):Du X (.Assign [.Attribute o f pos'] e pos) (Gf cs f fo fe) :=
 PS.weaken (AD4 ho he hs) λD Y H w=>by
  obtain⟨O,Z,L,aa,r,e,k⟩:=w;refine bI e λp e1 e=>?_;refine bI e λq e2 e=>?_;obtain⟨x,L2⟩:=q;refine⟨O,Z,L,p.1,p.2,r,e1,λy H1 O1 g t m=>?_⟩;refine⟨O1,Z,p.2,x,L2,r.to g t,e2,λv H2 z d j l=>?_⟩
  cases l <;> try (cases e;done)
  rename_i kk a hk;simp only[LH] at e
  cases u:L2[kk]? with
  |none=>rw[u] at e;cases e
  |some ob =>
   rw[u] at e
   cases ob with
   |lst _=>cases e
   |dk _=>cases e
   |dt _ _=>cases e
   |exn _=>cases e
   |ins c fs =>
    simp only at e;split at e
    .rename_i hcm;simp only[AX] at e;cases e;obtain⟨C,n,s,hC,hH,h,hi⟩:=j.ob _ _ _ hk u;obtain⟨h1,h2⟩:=(hc c hcm.1).ok C hC
     have i:s.length<1000:=by have:=congrArg List.length h;simp at this;rw[this];exact hcm.2
     refine⟨a,C,n,s,rfl,hH,h1,h2,i,?_⟩;have b:An H2 z (upd H2 a (.ins C n (_root_.L2.CW f y s))) z:=⟨.write hH id,AV _⟩;obtain⟨g1,g2⟩:=SQ ((m.mono d).mono b) h (hi.mono b);exact k Y _ z ((g.trans d).trans b) (r.to ((g.trans d).trans b) (j.write hk ⟨C,n,_,hC,CT,g1,g2⟩))
    .cases e
abbrev Lw(cs:AOt)(f:Str)(g:Int->Int->Int)(fo fv:EF):SF:=λZ L=>(fo Z L).bind λx=>match x.1 with
 |.ref k=>(match x.2[k]? with
  |some (.ins c fs)=>if c∈cs then (match fs.lookup f with
   |some (.int i)=>(fv Z x.2).bind λy=>(match y.1 with
    |.int j=>(match y.2[k]? with
     |some (.ins c' fs')=>if c'=c/\fs'.length<1000 then some (.next Z (y.2.set k (.ins c (EW f (.int (g i j)) fs')))) else none
     |_=>none)
    |_=>none)
   |_=>none) else none
  |_=>none)
 |_=>none
def AIU{P:Prop}{cs:AOt}{f:Str}{g:Int->Int->Int}{fo fe:EF}{Z:Fm}{L:AB}{h:GS}(e:Lw cs f g fo fe Z L=some h)
  (q:∀k d c fs i b j a,fo Z L=some (.ref k,d)->d[k]?=some (.ins c fs)->c∈cs->fs.lookup f=some (.int i)->fe Z d=some (.int j,b)->b[k]?=some (.ins c a)->a.length<1000->h=.next Z (b.set k (.ins c (EW f (.int (g i j)) a)))->P):P:=by
 refine bI e λp t e=>?_;obtain⟨x,d⟩:=p;simp only[AX] at e
 cases x <;> try (cases e;done)
 rename_i r;simp only at e
 cases l:d[r]? with
 |none=>rw[l] at e;cases e
 |some o =>
  rw[l] at e
  cases o <;> try (cases e;done)
  rename_i c fs;simp only at e;split at e
  .rename_i hcm
   cases n:fs.lookup f with
   |none=>rw[n] at e;cases e
   |some s =>
    rw[n] at e
    cases s <;> try (cases e;done)
    rename_i i;simp only at e;refine bI e λw v e=>?_;obtain⟨y,b⟩:=w;simp only[AX] at e
    cases y <;> try (cases e;done)
    rename_i j;simp only at e
    cases m:b[r]? with
    |none=>rw[m] at e;cases e
    |some o =>
     rw[m] at e
     cases o <;> try (cases e;done)
     rename_i z a;simp only at e;split at e
     .rename_i hcm';cases e;obtain⟨rfl,u⟩:=hcm';exact q r d _ fs i b j a t l hcm n v m u rfl
     .cases e
  .cases e
def AKO{op:Operator}{g:Int->Int->Int}(ho:Ab X o fo)(he:Ab X e fe)(hc:∀c∈cs,DO X.K c f)(ai:PF X op λx y H Q=>∃i j,x=.int i/\y=.int j/\Q (.int (g i j)) H):Du X (.AugAssign (.Attribute o f pos') op e pos) (Lw cs f g fo fe) :=
 PS.weaken (AD3 ho he ai) λD Y H h=>by
  obtain⟨O,Z,L,ak,r,e,k⟩:=h;refine AIU e λkk L1 c fs i L2 j aj e1 e2 aa e3 e4 e5 hl eo=>?_;subst eo;refine⟨O,Z,L,_,L1,r,e1,λv H1 O1 st rs is=>AAM λP a=>?_⟩
  cases is with|ref hk =>
  obtain⟨C,dx,us,hC,hH,z,hi⟩:=rs.ob _ _ _ hk e2;obtain⟨v',ac,iv⟩:=Sq z hi e3;obtain⟨h1,h2⟩:=(hc c aa).ok C hC;refine a ⟨_,C,dx,us,v',rfl,hH,h1,h2,ac,O1,Z,L1,_,L2,r.to st rs,e4,λw H2 O2 n s ae=>AAM λP a=>?_⟩;cases iv;cases ae;have u:=CP n.2 hk;obtain⟨C',m,p,b,q,d,ag⟩:=s.ob _ _ _ u e5
  have ad:C'=C:=by unfold Fv at hC b;rw[hC] at b;cases b;rfl
  subst ad
  have t:p.length<1000:=by have:=congrArg List.length d;simp at this;rw[this];exact hl
  refine a ⟨i,j,rfl,rfl,m,p,q,t,?_⟩;have l:An H2 O2 (upd H2 _ (.ins C' m (_root_.L2.CW f (.int (g i j)) p))) O2:=⟨.write q id,AV _⟩;obtain⟨g1,g2⟩:=SQ (Is.int (g i j)) d (ag.mono l);exact k Y _ O2 ((st.trans n).trans l) (r.to ((st.trans n).trans l) (s.write u ⟨C',m,_,b,CT,g1,g2⟩))
def ALP:PF X .Add λx y H Q=>∃i j,x=.int i/\y=.int j/\Q (.int (i+j)) H:=AGg
abbrev Jq(i:Nat)(g:Int->Int->Int)(fe:EF):SF:=λZ L=>match Z[i]? with
 |some (some (.int a))=>(fe Z L).bind λy=>(match y.1 with|.int b=>some (.next (Z.set i (some (.int (g a b)))) y.2)|_=>none)
 |_=>none
def AKP{i:Nat}{x:Str}{c:Operator}{g:Int->Int->Int}(u:X.N.Nodup)(n:Ab X e fe)(ho:PB X c (Sz g))(m:X.N[i]?=some x:=by rfl)(o:HY X.env.scope x:=by first|exact Or.inl rfl|exact Or.inr rfl)
  (w:X.fn x=true\/X.env.scope.names.lookup x=some .local:=by first|exact .inl rfl|exact .inr rfl):Du X (.AugAssign (.Name x pos') c e pos) (Jq i g fe) :=
 PS.weaken (AD7 u m o n ho w) λD Y H b=>by
  obtain⟨O,Z,L,h,r,e,k⟩:=b;unfold Jq at e;split at e
  .rename_i a ha;obtain⟨v,q,s⟩:=r.f.at' i _ ha;cases s;refine⟨_,q,?_⟩;refine bI e λp l e=>?_;obtain⟨y,t⟩:=p;simp only[AX] at e;refine⟨O,Z,L,y,t,r,l,λv H1 z d j is=>?_⟩
   cases y <;> try (cases e;done)
   cases e;cases is;exact⟨_,_,rfl,rfl,k _ _ _ d ⟨j,(r.f.mono d).set (.int _) i⟩⟩
  .cases e
end
structure UO (P:Program) (w:World) (K:AL) (mg:AOs) (base:Heap) (k:Nat) (c m:Str) (G:GL):Prop where
 ex:∃C f fd ps,DF P w K mg base CX0 k f fd ps (GB K G)/\Fv K c C/\Cls K C/\AIv K C m f/\Dx K fd ps []
structure GU (P:Program) (w:World) (K:AL) (mg:AOs) (base:Heap) (k:Nat) (c:Str) (G:GL):Prop where
 ex:∃C f fd ps j,DF P w K mg base CX0 j f fd ps (GB K G)/\j+1<=k/\mg c=some (.ref C)/\Fv K c C/\Mk K C f/\Dx K fd ps []
def UO.mono{P:Program}{w:World}{K:AL}{e:AOs}{d:Heap}{j k:Nat}{c m:Str}{G:GL}(F:UO P w K e d j c m G)(h:j<=k):UO P w K e d k c m G:=by obtain⟨C,f,g,ps,a,b⟩:=F.ex;exact⟨C,f,g,ps,a.mono h,b⟩
def GU.mono{P:Program}{w:World}{K:AL}{e:AOs}{d:Heap}{j k:Nat}{c:Str}{G:GL}(F:GU P w K e d j c G)(h:j<=k):GU P w K e d k c G:=by obtain⟨C,f,g,ps,i,a,b,c⟩:=F.ex;exact⟨C,f,g,ps,i,a,by omega,c⟩
abbrev IB(c:Str)(G:GL)(a:AF):EF:=λZ L=>(a Z L).bind λy=>(G (.ref y.2.length::y.1) (y.2++[.ins c []])).bind λz=>match z.1 with
 |.non=>some (.ref y.2.length,z.2)
 |_=>none
section
variable {X:Cx}{k:Nat}{c m x:Str}{G:GL}{p pos apos:Pos}{o e:Expr}{es:AOw}{fo:EF}{f:AF}
def AFw{C:Addr}(hC:Fv X.K c C){t:TA}(ht:∀Y H Q,liftA X.K f Y H Q->t Y H Q){Y:L2.St}{H:Hp}{Q:VK}(h:lift X.K (IB c G f) Y H Q):WA C (GB X.K G) [] E0 t Y H Q:=by
 obtain⟨O,Z,L,d,L',r,e,k⟩:=h;refine bI e λp e1 e=>?_;obtain⟨ys,j⟩:=p;simp only[AX] at e
 cases o:G (.ref j.length::ys) (j++[.ins c []]) with
 |none=>rw[o] at e;cases e
 |some z =>
  rw[o] at e;obtain⟨zd,L2⟩:=z
  cases zd <;> simp only[AX] at e <;> try (cases e;done)
  cases e;refine ht _ _ _ ⟨O,Z,L,ys,j,r,e1,λvs i g st rs is x b hx n y=>?_⟩;show rC X.K G (V.ref x::(vs++[])) _ _;rw[ANg];have s1:An i g (upd i b (.own x)) g:=⟨.new n,AV _⟩;have s:Aq X.K (upd i b (.own x)) g j:=rs.ext λa u e=>by rw[BX (Df e n)];exact e
  have l:upd i b (.own x) x=none:=by rw[BX (Ne.symm y)];exact hx
  have s2:An (upd i b (.own x)) g (upd (upd i b (.own x)) x (.ins C b [])) (g++[x]):=⟨.new l,Ac _ _⟩;have v:Aq X.K (upd (upd i b (.own x)) x (.ins C b [])) (g++[x]) (j++[.ins c []]):=s.new l ⟨C,b,[],hC,CT,rfl,.nil⟩;have hk:(g++[x])[j.length]?=some x:=by rw[<-rs.len];simp
  refine⟨g++[x],j++[.ins c []],_,.non,_,v,.cons (.ref hk) (is.mono (s1.trans s2)),o,λw H' O' m aa q=>?_⟩;cases q;exact⟨rfl,k _ H' O' ((st.trans (s1.trans s2)).trans m) aa (.ref (CP m.2 hk))⟩
def AMJ(F:GU X.prog X.w X.K X.mg X.base k c G)(m:Room k X.A)(i:Ec X (e::es) f)(n:Gl X c:=by rfl)(d:(c == ("__debug__":Str))=false:=by decide)
  (l:Ej e=true:=by rfl) (b:es.all Ej=true:=by rfl):Ab X (.Call (.Name c p) (e::es) [] pos) (IB c G f):=by
 obtain⟨C,u,t,ps,j,a,q,s,o,g,r⟩:=F.ex;exact PE.weaken (AEk (E:=E0) g a (m.mono q) n s r .nil Sa i d (Hd l) (IZ b)) λY H Q h=>AFw o (λ_ _ _ h=>h) h
end
def AL5{K:AL}{f:Str}:∀c∈([]:AOt),DO K c f:=λ_ h=>by cases h
def AL6{K:AL}{f c:Str}{cs:AOt}(a:DO K c f)(b:∀c∈cs,DO K c f):∀x∈c::cs,DO K x f:=λx h=>by
 rcases AY.mp h with rfl|h
 .exact a
 .exact b x h
def IL{K:AL}{c f:Str}{C:Addr}(a:Fv K c C)(b:Cls K C)(n:Dl K (.ref C) f=some none):DO K c f:=⟨λd h=>by
 have:d=C:=by unfold Fv at a h;rw[a] at h;cases h;rfl
 subst this
 exact⟨b,n⟩⟩
section
variable {P:Program}{w:World}{K:AL}{mg:AOs}{base:Heap}
def Yu{x a c:Str}{C:Addr}{st:Stmt}{f:Addr}{e:FuncData}{N ps:AOt}{k:Nat}{B:SF}(g:Hr K x a st f e)(S:Ar N ps (Ad st))
  (i:∀(d:Value) (A:Around) (b:List Env) (s:Shared) (H:Hp) (E:XK),Room k (A.deeper (envOfC a (Ad st) s.heap.objs.size f d)) ->
   FY (Cr CX0 P w K mg base N a (Ad st) f d A b s H E).nox (Fp st) B)
  (m:Dx K e ps []) (j:mg c=some (.ref C)) (l:Fv K c C) (M:Mk K C f):GU P w K mg base (k+2) c (Aj B N ps.length) :=
 ⟨C,f,e,ps,k+1,Td g S _ B (λ_ _ _ h=>SK h) i (λ_ _ _ _ h=>SJ h),Ag _,j,l,M,m⟩
end
abbrev YT(p:Program)(i j:Nat):Stmt:=match BB p i with
 |.ClassDef _ _ _ body _ _ _ _ _ _ _=>body.getD j (.Pass ⟨0,0,0,0⟩)
 |s=>s
abbrev Ev(t:TF)(b:SF):Nat->SF
 |0=>λ_ _=>none
 |n+1=>λZ L=>(t Z L).bind λx=>if x.1=true then (b Z x.2).bind λout=>(match out with
   |.next Z2 L2=>Ev t b n Z2 L2
   |.cont Z2 L2=>Ev t b n Z2 L2
   |.brk Z2 L2=>some (.next Z2 L2)
   |.ret d L2=>some (.ret d L2)) else some (.next Z x.2)
abbrev Rp(t:TF)(b:SF):SF:=Ev t b 1000000
def AKC{X:Cx}{c:Expr}{j:AOx}{t:TF}{b:SF}{pos:Pos}(hp:PassesOwn (model X.prog X.w) X.A X.env X.xe)(hc:FE X c t)(hb:FY X j b):Du X (.While c j [] pos) (Rp t b) :=
 PS.weaken (ADx hp hc hb) λD Y H aa=>by
  obtain⟨O,Z,L,i,r,e,k⟩:=aa;refine⟨λn Y H=>∃O Z L,Rep X.K H O Y Z L/\Ev t b n Z L=some i/\PostS X.K H O D i,⟨1000000,O,Z,L,r,e,k⟩,?_⟩;rintro n Y1 H1 ⟨O1,Z1,L1,z,g,o⟩
  cases n with
  |zero=>cases g
  |succ n =>
   simp only[Ev] at g;refine bI g λp e2 g=>?_;obtain⟨bb,L2⟩:=p;simp only[AX] at g;refine⟨O1,Z1,L1,bb,L2,z,e2,λH2 O2 a u=>?_⟩
   cases bb with
   |false =>
    simp only[ANX,if_false] at g ⊢;cases g;exact o _ _ _ a (z.to a u)
   |true =>
    simp only[if_true] at g ⊢;refine⟨λx m=>∃O Z L,Rep X.K m O x Z L/\Ev t b n Z L=some i/\PostS X.K m O D i,λx m h=>⟨n,Nat.lt_succ_self _,h⟩,?_⟩;refine bI g λo1 e3 g=>?_;refine⟨O2,Z1,L2,o1,z.to a u,e3,?_⟩
    cases o1 with
    |next y s=>exact λx m q f l=>⟨q,y,s,l,g,(o.mono a).mono f⟩
    |cont y s=>exact λx m q f l=>⟨q,y,s,l,g,(o.mono a).mono f⟩
    |brk y s=>cases g;exact λx m q f l=>o _ _ _ (a.trans f) l
    |ret d s=>cases g;exact λv m q f l i'=>o _ _ _ (a.trans f) l i'
def TB:∀{ns:AOz} {c:AOu},Ae (ns.map V.int) c->∃d:List (Int×Tok),c=d.map (λp=>Value.int p.1 p.2)/\d.map (·.1)=ns
 |[],_,h=>by cases h;exact⟨[],rfl,rfl⟩
 |n::ns,_,h=>by
  cases h with
  |cons a b =>
   obtain⟨t,rfl⟩:=(show ∃t,_=Value.int n t from a);obtain⟨d,rfl,e⟩:=TB b;exact⟨(n,t)::d,rfl,by simp[e]⟩
abbrev Db:List D->Option (AOz)
 |[]=>some []
 |.int b::r=>(Db r).map (b::·)
 |_=>none
def YR{K:AL}{H:Hp}{O:AOv}:∀{vs:List V} {ds:List D} {bs:AOz},AT K H O vs ds->Db ds=some bs->vs=bs.map V.int:=by
 intro vs ds bs h e
 induction ds generalizing vs bs with
 |nil=>cases h;cases e;rfl
 |cons d ds c =>
  cases h with|cons a b =>
  cases a <;> simp only[Db] at e <;> try (cases e;done)
  cases q:Db ds with
  |none=>rw[q] at e;cases e
  |some r =>
   rw[q] at e;cases e;rw[c b q];rfl
def AGf(ns:AOz):Db (ns.map D.int)=some ns:=by
 induction ns with
 |nil=>rfl
 |cons y r a=>simp[Db,a]
section
variable {X:Cx}
def AH6(d:X.calm=true):CD X (.builtin "sum") (λb H Q=>∃(p:Addr) (a:AOz),b=[.ref p]/\BJ X.K H p (a.map V.int)/\Q (.int a.sum) H):=by
 intro c s Y H b w Q I r h;obtain⟨p,a,rfl,i,q⟩:=h;obtain⟨u,rfl,f⟩:=Ds r;cases f;obtain⟨k,g,m,t⟩:=I.list i;obtain⟨ps,rfl,rfl⟩:=TB g
 have j:s.heap.IsList p (intItems ps.toArray):=by
  have:=m.isList;have e:(ps.map (λp=>Value.int p.1 p.2)).toArray=intItems ps.toArray:=by simp[intItems]
  rw[<-e];exact this
 refine PySem.sum_intListG (I.ok.hd d) j λo v l n=>⟨.int (ps.map (·.1)).sum,H,I.kept n,⟨l,?_⟩,q⟩;rw[preSum_eq,ANu (by simp)]
def AH7(l:X.calm=true):CD X (.builtin "min") (λf H Q=>∃(p:Addr) (c:AOz) (m:Int),f=[.ref p]/\BJ X.K H p (c.map V.int)/\c.min?=some m/\Q (.int m) H):=by
 intro k s Y H f us Q I r h;obtain⟨p,c,m,rfl,hq,g,q⟩:=h;obtain⟨u,rfl,rx⟩:=Ds r;cases rx;obtain⟨aa,n,pl,x⟩:=I.list hq;obtain⟨ps,rfl,rfl⟩:=TB n
 have w:s.heap.IsList p (intItems ps.toArray):=by
  have:=pl.isList;have e:(ps.map (λp=>Value.int p.1 p.2)).toArray=intItems ps.toArray:=by simp[intItems]
  rw[<-e];exact this
 have b:=List.min?_eq_some_iff.mp g
 have d:0<ps.toArray.size:=by
  cases ps with
  |nil=>simp at g
  |cons=>simp
 refine PySem.min_intList (I.ok.hd l) w d λv h' tk hv y=>?_;obtain⟨t,rfl⟩:=intItems_at hv;obtain⟨h1,o⟩:=argBest_lt (numAt ps.toArray) (ps.toArray.size-1);refine⟨.int m,H,I.kept y,⟨t,?_⟩,q⟩
 congr 1
 have g1:numAt ps.toArray (argBest (λi j=>decide (numAt ps.toArray i<numAt ps.toArray j)) (ps.toArray.size-1))∈ps.map (·.1):=by
  rw[numAt_eq];have x:ps.toArray.size=ps.length:=by simp
  exact getD_mem (by rw[AZ];show _<ps.length;omega)
 have g2:∀a∈ps.map (·.1),numAt ps.toArray (argBest (λi j=>decide (numAt ps.toArray i<numAt ps.toArray j)) (ps.toArray.size-1))<=a:=λa z=>by
  obtain⟨j,hj,rfl⟩:=mem_getD z;rw[AZ] at hj;have:=o j (by rw[Bn];omega);rw[numAt_eq (j:=j)] at this;exact this
 have:=b.2 _ g1;have:=g2 _ b.1;omega
abbrev JV(xs:List D)(L:AB):Option (List D):=match xs with
 |[.ref k]=>(match L[k]? with|some (.lst ds)=>some ds|_=>none)
 |_=>none
abbrev LY:GL:=λxs L=>(JV xs L).bind λds=>(Db ds).bind λns=>some (.int ns.sum,L)
abbrev OZ:GL:=λxs L=>(JV xs L).bind λds=>(Db ds).bind λns=>ns.min?.bind λm=>some (.int m,L)
def Xp{K:AL}{H:Hp}{O:AOv}{L:AB}{vs:List V}{xs ds:List D}(b:Aq K H O L)(is:AT K H O vs xs)(e:JV xs L=some ds):∃(p:Addr) (a:List V),vs=[.ref p]/\BJ K H p a/\AT K H O a ds:=by
 unfold JV at e;split at e
 .split at e
  .rename_i ds' hd;cases e
   cases is with|cons d c =>
    cases c
    cases d with|ref h =>
     obtain⟨a,f,g⟩:=b.ob _ _ _ h hd;exact⟨_,a,rfl,BJ.of f,g⟩
  .cases e
 .cases e
def Lr{U β:Type}{o:Option U}{f:U->Option β}{b:β}(h:o.bind f=some b):∃a,o=some a/\f a=some b:=ANo.mp h
def AMc(g:X.calm=true):Ee X (.builtin "sum") LY:=CD.weaken (AH6 g) λm H Q a=>by
 obtain⟨O,L,l,d,q,b,is,e,k⟩:=a;obtain⟨n,h,e⟩:=Lr e;obtain⟨i,f,e⟩:=Lr e;cases e;obtain⟨p,o,rfl,c,j⟩:=Xp b is h;rw[YR j f] at c;exact⟨p,i,rfl,c,k _ _ _ (.refl _ _) b (.int _)⟩
def AMe(h:X.calm=true):Ee X (.builtin "min") OZ:=CD.weaken (AH7 h) λo H Q a=>by
 obtain⟨O,L,n,d,s,b,is,e,k⟩:=a;obtain⟨q,i,e⟩:=Lr e;obtain⟨j,f,e⟩:=Lr e;obtain⟨m,g,e⟩:=Lr e;cases e;obtain⟨p,r,rfl,c,l⟩:=Xp b is i;rw[YR l f] at c;exact⟨p,j,m,rfl,c,g,k _ _ _ (.refl _ _) b (.int _)⟩
end
def AMr:bootBuiltins "sum"=some (.builtin "sum"):=by decide +kernel
section
variable {L:AB}{Q:APT}{k:Nat}{ds:List D}
def Xo(e:L[k]?=some (.lst ds)):JV [.ref k] L=some ds:=by simp[JV,e]
end
end L3
namespace L3
open PySem PySem.Spec PyProof.Rows L2 Builtin Builtin.Str
inductive EntsK (K:AL):List DictEntry->List (Str×D)->Prop
 |nil:EntsK K [] []
 |cons {h:Int} {x:Str} {t:Tok} {u:Value} {d:D} {es:List DictEntry} {ds:List (Str×D)}:TupK K u d->EntsK K es ds->EntsK K (⟨h,.str x t,u⟩::es) ((x,d)::ds)
def EntsK.at{K:AL}(z:Str):∀{es:List DictEntry} {ds:List (Str×D)},EntsK K es ds->TupK K ((findBy Value.isStrOf es.toArray z).getD .none) ((ds.lookup z).getD .non)
 |_,_,.nil=>ACB
 |_,_,.cons (x:=x) (t:=t) (u:=u) (d:=d) (es:=es) (ds:=ds) a b=>by
  have c:=EntsK.at z b;unfold findBy at c ⊢;rw[List.find?_toArray] at c ⊢;rw[Fd]
  by_cases h:z=x
  .subst h;have e:Value.isStrOf z (.str z t)=true:=by simp[Value.isStrOf]
   simp only[e,Fx,beq_self_eq_true];exact a
  .have e:Value.isStrOf z (.str x t)=false:=by
    have:¬x=z:=λq=>h q.symm;simp[Value.isStrOf,this]
   have f:(z == x)=false:=beq_eq_false_iff_ne.mpr h;simp only[e,Fx,f];exact c
abbrev Cov(B:Heap)(l:List Env)(h0:Heap)(H:Hp):Prop:=(∀b o,h0.get? b=some o->b∉FT l->∃u,B.get? b=some u)/\∀b u,H b=some u->∃o,B.get? b=some o
abbrev CXX(P:Program)(w:World):Fw:=λouter H s E e s'=>∃(ea:Addr) (cv a0:Value) (H':Hp) (B:Heap),e=.ref ea/\s'.os=s.os/\AllBare s'.gens/\Un (FT outer) [] H H' s.heap s'.heap/\DE P w H' s'.heap /\
 Heap.FlyingW B outer ea cv a0 s'.heap/\Cov B outer s.heap H'/\E cv none H'
noncomputable abbrev UM:=List D->AB->Option (Str×AB)
abbrev spX(K:AL)(G:GL)(GX:UM):Sp:=λvs H Q E=>rC K G vs H Q\/∃O L xs c L' C,Aq K H O L/\AT K H O vs xs/\GX xs L=some (c,L')/\Fv K c C/\∀H' O',An H O H' O'->Aq K H' O' L'->E (.ref C) none H'
structure UN (P:Program) (w:World) (K:AL) (mg:AOs) (base:Heap) (k:Nat) (x:Str) (G:GL) (GX:UM):Prop where
 ex:∃f fd ps,DF P w K mg base (CXX P w) k f fd ps (spX K G GX)/\mg x=some (.ref f)/\GY K (.ref f)=true/\Dx K fd ps []
def UN.mono{P:Program}{w:World}{K:AL}{e:AOs}{c:Heap}{j k:Nat}{x:Str}{G:GL}{d:UM}(F:UN P w K e c j x G d)(h:j<=k):UN P w K e c k x G d:=by obtain⟨f,g,ps,a,b⟩:=F.ex;exact⟨f,g,ps,a.mono h,b⟩
noncomputable abbrev Zk:AOu:=[.type "ValueError",.type "Exception",.type "BaseException",.type "object"]
structure AAZ (K:AL) (c:Str) (C:Addr):Prop where
 ns:CS K mainGlobals c=some (some (.ref C))
 ok:PySem.W.excIn K C Zk "ValueError.__new__"=true
abbrev AAa(x C:Addr)(h:Heap):Prop:=∃o,h.get? x=some o/\o.cls=.ref C
def AAa.ty{x C:Addr}{h:Heap}(p:AAa x C h)(M:Model):PySem.W.Looks M h (typeOf (.ref x)) (.ref C):=by obtain⟨o,a,b⟩:=p;rw[<-b];exact(PySem.W.Looks.ld a).andThen .now
abbrev only(c0:Str):Str->Bool:=λc=>c == c0
open Sem (wp) in
abbrev Co{prog:Program}{w:World}{κ:Type}[DecidableEq κ](knd:HeapKind prog w κ)(h:Heap)(d:Addr)(xs:List (κ×Addr×Value))(ep:Nat):Prop :=
 ∃o es,h.get? d=some o/\o.ExactDict/\o.data=.dict es ep/\es.toList=xs.map (entryOfKey knd)/\(∀x∈xs,knd.is h x.1 x.2.1)/\(xs.map (·.1)).Nodup
abbrev FU{κ:Type}[DecidableEq κ](xs:List (κ×Addr×Value))(k:κ)(ep:Nat):Nat:=if (atKey xs k).isSome=true then ep else ep+1
section
variable {prog:Program}{w:World}{κ:Type}[DecidableEq κ]{knd:HeapKind prog w κ}{A:Around}{E:AO0}{s:Shared}{d a:Addr}{k:κ}{xs:List (κ×Addr×Value)}{ep:Nat}
def Co.of{h:Heap}(x:Co knd h d xs ep):h.DictOfH knd d xs:=let ⟨o,es,h1,h2,h3,r⟩:=x;⟨o,es,ep,h1,h2,h3,r⟩
def AIX(a:atKey xs k=none):k∉xs.map (·.1):=λd=>by
 obtain⟨x,c,rfl⟩:=Ap.mp d;have b:(xs.find? λy=>decide (y.1=x.1))=none:=by simpa[atKey] using a
 simpa using AON.mp b x c
def Co.grown{h:Heap}(x:Co knd h d xs ep)(n:atKey xs k=none)(p:knd.is h k a)(v:Value) :
  Co knd (h.update d (Obj.mapDictKeys (·.push ⟨knd.hash k,.ref a,v⟩))) d (xs++[(k,a,v)]) (ep+1)/\Heap.SameBut d h (h.update d (Obj.mapDictKeys (·.push ⟨knd.hash k,.ref a,v⟩))):=by
 have f:Heap.SameBut d h (h.update d (Obj.mapDictKeys (·.push ⟨knd.hash k,.ref a,v⟩))):=.update ..;obtain⟨o,q,g,j,b,l,all,i⟩:=x;have stay:∀y∈xs++[(k,a,v)],knd.is h y.1 y.2.1:=λy c=>(CF.mp c).elim (all y) λz=>by rw[Dr.mp z];exact p
 refine⟨⟨_,_,Heap.get?_update_self _ g (Obj.isFreed_of_dict (Obj.data_mapDictKeys b _)),j.mapDictKeys _,Obj.data_mapDictKeys b _,by simp[l,entryOfKey],λy c=>knd.keeps (stay y c) g b f,?_⟩,f⟩;rw[Cg];exact Gz.mpr ⟨i,by simp,λy c z m e=>AIX n (by rw[show z=k by simpa using m] at e;rwa [<-e])⟩
def Co.turned{h:Heap}(x:Co knd h d xs ep){j:Nat}{q:Addr×Value}(r:xs[j]?=some (k,q))(v:Value) :
  Co knd (h.update d (Obj.mapDict (·.modify j λe=>{e with val:=v}))) d (xs.map (putAt k v)) ep/\Heap.SameBut d h (h.update d (Obj.mapDict (·.modify j λe=>{e with val:=v}))):=by
 have l:Heap.SameBut d h (h.update d (Obj.mapDict (·.modify j λe=>{e with val:=v}))):=.update ..;obtain⟨o,s,g,m,a,n,all,c⟩:=x
 have b:(s.modify j λe=>{e with val:=v}).toList=(xs.map (putAt k v)).map (entryOfKey knd):=by rw[<-modify_map_putAt (entryOfKey knd) (λe:DictEntry=>{e with val:=v}) k v (λ_ _=>rfl) c r,<-n];simp
 refine⟨⟨_,_,Heap.get?_update_self _ g (Obj.isFreed_of_dict (Obj.data_mapDict a _)),m.mapDict _,Obj.data_mapDict a _,b,λy f=>?_,by rw[keys_map_putAt];exact c⟩,l⟩;rw[Ap] at f;obtain⟨z,p,rfl⟩:=f;have i:(putAt k v z).1=z.1/\(putAt k v z).2.1=z.2.1:=by unfold putAt;split <;> exact⟨rfl,rfl⟩
 rw[i.1,i.2];exact knd.keeps (all z p) g a l
def Co.find{G:Option Nat->Shared->Prop}(l:knd.room A)(m:knd.is s.heap k a)(x:Co knd s.heap d xs ep)(n:atKey xs k=none->G none s)(b:∀j q,xs[j]?=some (k,q)->atKey xs k=some q->G (some j) s) :
  wpAny (model prog w) A (dictFind d (.ref a) (knd.hash k)) G E s:=by
 obtain⟨o,r,g,p,c,i,all,e⟩:=x;exact wpAny_dictFind_heap l m g c i all e (λf=>n (atKey_none_of_get f)) λj q h=>b j q h (atKey_of_get e h)
def Co.room(x:Co knd s.heap d xs ep):∃o a,s.heap.get? d=some o/\o.data=.dict a ep/\a.size=xs.length:=by obtain⟨o,a,g,e,b,c,_⟩:=x;exact⟨o,a,g,b,size_of_entries c⟩
def AHl{v:Value}{Q:Unit->Shared->Prop}(i:knd.room A)(h:knd.is s.heap k a)(x:Co knd s.heap d xs ep)(hz:xs.length<=sizeLine)
  (q:∀c,Co knd c d (storedH xs k a v) (FU xs k ep)->Heap.SameBut d s.heap c->Q () {s with heap:=c,toks:=s.toks+knd.draws k}):wpAny (model prog w) A (dictSet d (.ref a) v) Q E s:=by
 obtain⟨o,m,g,b,sz⟩:=x.room;unfold dictSet dictSetHashed
 (try with_reducible refine DW ?_)
 refine AH (knd.pyHash i h ?_)
 (try with_reducible refine DW ?_)
 refine AH (Co.find (s:={s with toks:=s.toks+knd.draws k}) i h x (λn=>?_) λj p l e=>?_)
 .obtain⟨y,sb⟩:=x.grown n h v;have f:FU xs k ep=ep+1:=by simp[FU,n]
  rw[f,storedH_new n] at q;exact AH (AOe (wpAny_updateDictKeys (s:={s with toks:=s.toks+knd.draws k}) (hz:=by omega) g b (q _ y sb)))
 .obtain⟨y,sb⟩:=x.turned l v;have f:FU xs k ep=ep:=by simp[FU,e]
  rw[f,storedH_old e] at q;exact AH (AOe (AH (wpAny_updateDict (s:={s with toks:=s.toks+knd.draws k}) g b (wpAny_point (q _ y sb)))))
def ADA{v:Value}{Q:Unit->Shared->Prop}(f:knd.room A.in1)(h:knd.is s.heap k a)(x:Co knd s.heap d xs ep)(hz:xs.length<=sizeLine)
  (q:∀h',Co knd h' d (storedH xs k a v) (FU xs k ep)->Heap.SameBut d s.heap h'->Q () {s with heap:=h',toks:=s.toks+knd.draws k}):wpAny (model prog w) A (setItem (.ref d) (.ref a) v) Q E s:=by
 have ty:=x.of.typeIs
 have b:∀{R:AO0} {F:AO0},(∀h',Co knd h' d (storedH xs k a v) (FU xs k ep)->Heap.SameBut d s.heap h'->R .none {s with heap:=h',toks:=s.toks+knd.draws k}) ->
   wpAny (model prog w) A.in1 (Builtin.«dict.__setitem__» ⟨[.ref d,.ref a,v],[]⟩) (λg e=>∃v,g=PySem.Fin.done (Flow.ret v)/\R v e) F s:=λ{R F} r=>by
  show wpAny _ _ (Builtin.Dict.notOrdered "__setitem__" ⟨[.ref d,.ref a,v],[]⟩ >>= λ_=>dictSet d (.ref a) v >>= _) _ F s;exact AH (AOn ty (AH (AHl f h x hz λh' y c=>AO ⟨.none,rfl,r h' y c⟩)))
 unfold setItem
 (try with_reducible refine DW ?_)
 exact AH (wpAny_sequenceKey ty (by decide) (AH (AOk (name:=Str.ofString "__setitem__") ty slot_dict_setitem (GV slot_dict_setitem ty entry_dict_setitem (b λh' y c=>AO (q h' y c)) (args_dict_setitem _ _ _)))))
end
section
variable {X:Cx}{pins:List (Addr×Obj)}{Y:L2.St}{H:Hp}{s:Shared}{O:AOv}{L:AB}
def key_leaf{k:Key}{v:V}{u:Value}(i:Is X.K H O v (keyD k))(r:Af v u):EO k u:=by
 cases k with
 |inl n=>cases i;obtain⟨t,rfl⟩:=r;exact AGU _ _
 |inr x=>cases i;obtain⟨t,rfl⟩:=r;exact AGT _ _
def keys_leaf:∀{ks:List Key} {vs:List V} {us:AOu},AT X.K H O vs (ks.map keyD)->Ae vs us->Paired EO ks us
 |[],_,_,i,r=>by cases i;cases r;exact .nil
 |k::ks,_,_,i,r=>by
  cases i with|cons d b=>cases r with|cons a c=>exact .cons (key_leaf d a) (keys_leaf b c)
def Sx(I:AI X pins Y H s):∀{ks:NK} {vs:List V} {us:AOu},AT X.K H O vs (ks.map Ih)->Ae vs us->Paired (Gv s.heap) ks us
 |[],_,_,i,r=>by cases i;cases r;exact .nil
 |.inl k::ks,_,_,i,r=>by
  cases i with|cons f c=>cases r with|cons a d=>exact .cons (key_leaf f a) (Sx I c d)
 |.inr k::ks,v::_,_,i,r=>by
  cases i with|cons f c=>cases r with|cons a d =>
   have e:Is X.K H O v (.tup (k.map keyD)):=f
   cases e with|tup h g =>
    obtain⟨b,j,t,_⟩:=I.tuple h;exact .cons ⟨_,b,a,t,keys_leaf g j⟩ (Sx I c d)
def Ib(I:AI X pins Y H s){k:NK}{b:Addr}(i:Is X.K H O (.ref b) (EG k)):(HI X.prog X.w).is s.heap k b:=by
 have e:Is X.K H O (.ref b) (.tup (k.map Ih)):=i
 cases e with|tup h d =>
  obtain⟨a,c,t,_⟩:=I.tuple h;exact⟨a,t,Sx I d c⟩
end
abbrev Ll:D->Option Key
 |.int i=>some (.inl i)
 |.str x=>some (.inr x)
 |_=>none
abbrev Ir:List D->Option (List Key)
 |[]=>some []
 |d::r=>(Ll d).bind λk=>(Ir r).map (k::·)
abbrev Jl:D->Option (Key ⊕ List Key)
 |.int i=>some (.inl (.inl i))
 |.str x=>some (.inl (.inr x))
 |.tup ds=>(Ir ds).map .inr
 |_=>none
abbrev GP:List D->Option NK
 |[]=>some []
 |d::r=>(Jl d).bind λk=>(GP r).map (k::·)
abbrev dNK:D->Option NK
 |.tup ds=>GP ds
 |_=>none
def AHo{d:D}{k:Key}(e:Ll d=some k):d=keyD k:=by unfold Ll at e;split at e <;> cases e <;> rfl
def ZU:∀{ds:List D} {ks:List Key},Ir ds=some ks->ds=ks.map keyD
 |[],ks,e=>by cases e;rfl
 |d::r,ks,e=>by
  unfold Ir at e;obtain⟨k,c,a⟩:=ANo.mp e;obtain⟨l,b,rfl⟩:=ANJ.mp a;rw[AHo c,ZU b];rfl
def AHp{d:D}{k:Key ⊕ List Key}(e:Jl d=some k):d=Ih k:=by
 unfold Jl at e;split at e
 .cases e;rfl
 .cases e;rfl
 .obtain⟨l,e3,rfl⟩:=ANJ.mp e;rw[ZU e3];rfl
 .cases e
def ZV:∀{ds:List D} {ks:NK},GP ds=some ks->ds=ks.map Ih
 |[],ks,e=>by cases e;rfl
 |d::r,ks,e=>by
  unfold GP at e;obtain⟨k,c,a⟩:=ANo.mp e;obtain⟨l,b,rfl⟩:=ANJ.mp a;rw[AHp c,ZV b];rfl
def Jk{d:D}{k:NK}(e:dNK d=some k):d=EG k:=by
 unfold dNK at e;split at e
 .rw[ZV e];rfl
 .cases e
def Jb{K:AL}{H:Hp}{O:AOv}{v:V}{d:D}{k:NK}(i:Is K H O v d)(e:dNK d=some k):∃b,v=.ref b/\Is K H O (.ref b) (EG k):=by rw[Jk e] at i;have c:Is K H O v (.tup (k.map Ih)):=i;cases c with|tup h a=>exact⟨_,rfl,.tup h a⟩
abbrev Bo(kvs:List (NK×D))(k:NK):Option D:=(kvs.find? λkv=>decide (kv.1=k)).map (·.2)
abbrev DQ(kvs:List (NK×D))(k:NK)(d:D):List (NK×D) :=
 if (kvs.any λkv=>decide (kv.1=k))=true then kvs.map (λkv=>if kv.1=k then (kv.1,d) else kv) else kvs++[(k,d)]
section
variable {X:Cx}{pins:List (Addr×Obj)}{Y:L2.St}{H:Hp}{s:Shared}{O:AOv}{L:AB}{a:Addr}
inductive DD (K:AL) (H:Hp) (O:AOv):List (NK×D)->List (NK×Addr×V)->List (NK×Addr×Value)->Prop
 |nil:DD K H O [] [] []
 |cons {k:NK} {d:D} {b:Addr} {v:V} {u:Value} {kvs us xs}:Is K H O v d->Af v u->DD K H O kvs us xs->DD K H O ((k,d)::kvs) ((k,b,v)::us) ((k,b,u)::xs)
def row3_of{K:AL}:∀{kvs:List (NK×D)} {us:List (NK×Addr×V)} {xs:List (NK×Addr×Value)},us.map (·.1)=kvs.map (·.1)->AT K H O (us.map (·.2.2)) (kvs.map (·.2)) ->
  Paired (λ(p:NK×Addr×V) (q:NK×Addr×Value)=>p.1=q.1/\p.2.1=q.2.1/\Af p.2.2 q.2.2) us xs->DD K H O kvs us xs
 |[],[],_,_,_,r=>by cases r;exact .nil
 |(k,d)::kvs,(k',b,v)::us,_,e,i,r=>by
  simp only[Al,List.cons.injEq] at e;obtain⟨a,j⟩:=e
  cases r with
  |@cons _ q _ s h n =>
   obtain⟨u,o,t⟩:=q;obtain⟨c,f,g⟩:=h;simp only at a c f g;subst a c f
   cases i with
   |cons m l=>exact .cons m g (row3_of j l n)
 |[],_::_,_,e,_,_=>by simp at e
 |_::_,[],_,e,_,_=>by simp at e
def DD.look{K:AL}{kvs:List (NK×D)}{us:List (NK×Addr×V)}{xs:List (NK×Addr×Value)}(r:DD K H O kvs us xs)(k:NK) :
  (Bo kvs k=none/\atKey xs k=none)\/∃d b v u,Bo kvs k=some d/\atKey xs k=some (b,u)/\Is K H O v d/\Af v u/\(k,b,v)∈us:=by
 induction r with
 |nil=>exact .inl ⟨rfl,rfl⟩
 |@cons a d b v u kvs us xs i l t m =>
  by_cases e:a=k
  .subst e;exact .inr ⟨d,b,v,u,by simp[Bo],by simp[atKey],i,l,BC⟩
  .have e1:Bo ((a,d)::kvs) k=Bo kvs k:=by simp[Bo,Fd,e]
   have c:atKey ((a,b,u)::xs) k=atKey xs k:=by simp[atKey,Fd,e]
   rw[e1,c];rcases m with h|⟨d,b,v,u,g,j,n,f,o⟩
   .exact .inl h
   .exact .inr ⟨d,b,v,u,g,j,n,f,BD _ o⟩
def Jj(I:AI X pins Y H s){kvs:List (NK×D)}{ep:Nat}(h:Gu X.K H O a (.dt kvs ep)):∃b d,H a=some (.dN b ep)/\(a == sysModules)=false/\b.length<=sizeLine/\DD X.K H O kvs b d/\(∀u∈b,Is X.K H O (.ref u.2.1) (EG u.1))/\Co (HI X.prog X.w) s.heap a d ep:=by
 obtain⟨b,e,e1,il,i⟩:=h;obtain⟨z,y,d,r,o,es,h1,j,h3,v,k⟩:=(show CJ X.prog X.w H s.heap a (.dN b ep) from I.hok a _ e);refine⟨b,d,e,y,z,row3_of e1 il r,i,o,es,h1,j,h3,v,λx c=>?_,k⟩
 have all:∀{l:List (NK×Addr×V)} {m:List (NK×Addr×Value)},Paired (λ(p:NK×Addr×V) (q:NK×Addr×Value)=>p.1=q.1/\p.2.1=q.2.1/\Af p.2.2 q.2.2) l m->(∀u∈l,Is X.K H O (.ref u.2.1) (EG u.1))->∀x∈m,(HI X.prog X.w).is s.heap x.1 x.2.1:=by
  intro l m q
  induction q with
  |nil=>intro _ x c;exact nomatch c
  |@cons p q ps qs g t ih =>
   intro f x c;rcases AY.mp c with e|c
   .subst e;rw[<-g.1,<-g.2.1];exact Ib I (f p BC)
   .exact ih (λu n=>f u (BD _ n)) x c
 exact all r i x c
end
section
variable {X:Cx}
def ACE{prog:Program}{w:World}{A:Around}{E:AO0}{s:Shared}{a slice:Expr}{T id:String}{o i:Value}{Q:AO0}
  (d:typeLookup (.type T) "__getitem__"=pure (some (.builtin id))) (e:subscripted slice false o i=operate [o,i] (getItem o i)) (ty:s.TypeIs o T) (b:wpAny (model prog w) A (getItem o i) Q E s) :
  wpAny (model prog w) A (subscriptTail a slice o i) Q E s:=by
 have all:∀{k:Sem Value},k=(subscripted slice false o i >>= λr=>letTemporaryGo a o r >>= λ_=>pure r)->wpAny (model prog w) A k Q E s:=λ{k} c=>by
  rw[c,e];exact AH (wpAny_operating (Dk b (λr _ z=>AH (wpAny_letTemporaryGo (AO z))) λ_ _ z=>z))
 unfold subscriptTail;rw[getitemInPython_of_ne ty.not_modules];refine AH (AH (wpAny_specialOf ty d ?_))
 first|exact AO (all rfl)|exact AH (AO (all rfl))|exact all rfl
abbrev FS:G2:=λx y L=>match x with
 |.ref i=>(match L[i]? with|some (.dt kvs _)=>(dNK y).bind λk=>(Bo kvs k).map λd=>(d,L)|_=>none)
 |_=>none
def AHE{x y d:D}{L L':AB}(e:FS x y L=some (d,L')):∃i a b k,x=.ref i/\L[i]?=some (.dt a b)/\dNK y=some k/\Bo a k=some d/\L'=L:=by
 unfold FS at e;split at e
 .rename_i i;split at e
  .rename_i a b e1;obtain⟨k,c,g⟩:=ANo.mp e;obtain⟨j,h,f⟩:=ANJ.mp g;cases f;exact⟨i,a,b,k,rfl,e1,c,h,rfl⟩
  .cases e
 .cases e
def AJB(hu:X.A.units+64<cLine):PD X FS:=by
 rintro c slice j s Y H x y v u Q I rx ry ⟨O,L,dx,dy,d,L',g,t,p,e,k⟩ z;obtain⟨i,r,ep,k0,rfl,e1,m,h,rfl⟩:=AHE e
 cases t with|ref hi =>
  obtain⟨us,xs,ha,aa,hz,w,hk,f⟩:=Jj I (g.ob i _ _ hi e1);obtain⟨b,rfl,ik⟩:=Jb p m;cases rx;cases ry;rcases w.look k0 with⟨n,_⟩|⟨d',b',v',u',l,a,q,o,_⟩
  .rw[h] at n;cases n
  .rw[h] at l;cases l;refine ACE PySem.F.slot_dict_getitem.lookup z f.of.typeIs (wpAny_getItem_heap (show X.A.in1.units+1<cLine from by show X.A.units+1+1<cLine;omega) (Ib I ik) f.of a ?_);exact⟨v',H,I.tok _,o,k _ _ _ (.refl _ _) g q⟩
abbrev HL(neg:Bool):G2:=λx y L=>match y with
 |.ref i=>(match L[i]? with|some (.dt kvs _)=>(dNK x).map λk=>(.bl (neg != (Bo kvs k).isSome),L)|_=>none)
 |_=>none
def Yr{b:Bool}{x y d:D}{L L':AB}(e:HL b x y L=some (d,L')):∃i a c k,y=.ref i/\L[i]?=some (.dt a c)/\dNK x=some k/\d=.bl (b != (Bo a k).isSome)/\L'=L:=by
 unfold HL at e;split at e
 .rename_i i;split at e
  .rename_i a c e1;obtain⟨k,f,g⟩:=ANJ.mp e;cases g;exact⟨i,a,c,k,rfl,e1,f,rfl,rfl⟩
  .cases e
 .cases e
def DD.some_eq{K:AL}{H:Hp}{O:AOv}{kvs:List (NK×D)}{us:List (NK×Addr×V)}{xs:List (NK×Addr×Value)}(r:DD K H O kvs us xs)(k:NK):(atKey xs k).isSome=(Bo kvs k).isSome:=by
 rcases r.look k with⟨a,b⟩|⟨d,b,v,u,c,e,_⟩
 .rw[a,b];rfl
 .rw[c,e];rfl
def AKu(hu:X.A.units+64<cLine):Ck X (compareOp .In) (HL false):=by
 rintro g s Y H x y v u Q I w q ⟨O,L,dx,dy,d,L',f,m,j,e,k⟩;obtain⟨i,a,ep,p,rfl,r,h,rfl,rfl⟩:=Yr e
 cases j with|ref t =>
  obtain⟨us,z,ha,c,hz,n,hk,l⟩:=Jj I (f.ob i _ _ t r);obtain⟨b,rfl,o⟩:=Jb m h;cases w;cases q;refine wpAny_in_heap (show X.A.in1.units+1<cLine from by show X.A.units+1+1<cLine;omega) (Ib I o) c l.of ?_;rw[n.some_eq];exact⟨.bl (Bo a p).isSome,H,I.tok _,rfl,k _ _ _ (.refl _ _) f (by rw[Bool.false_bne];exact .bl _)⟩
def AKk(hu:X.A.units+64<cLine):Ck X (compareOp .NotIn) (HL true):=by
 rintro g s Y H x y v u Q I w q ⟨O,L,dx,dy,d,L',f,m,j,e,k⟩;obtain⟨i,a,ep,p,rfl,r,h,rfl,rfl⟩:=Yr e
 cases j with|ref t =>
  obtain⟨us,z,ha,c,hz,n,hk,l⟩:=Jj I (f.ob i _ _ t r);obtain⟨b,rfl,o⟩:=Jb m h;cases w;cases q;refine wpAny_notIn_heap (show X.A.in1.units+1<cLine from by show X.A.units+1+1<cLine;omega) (Ib I o) c l.of ?_;rw[n.some_eq];exact⟨.bl (!(Bo a p).isSome),H,I.tok _,rfl,k _ _ _ (.refl _ _) f (by rw[Bool.true_bne];exact .bl _)⟩
end
abbrev IP:EF:=λ_ L=>some (.ref L.length,L++[.dt [] 0])
section
variable {X:Cx}{pos:Pos}
def AHk{P:Program}{w:World}{H:Hp}(h:Heap)(a:sysModules<h.objs.size):CJ P w H (h.push {cls:=.type "dict",data:=.dict #[]}) h.objs.size (.dN [] 0) :=
 ⟨Ef _,beq_eq_false_iff_ne.mpr (Ne.symm (Bm a)),[],.nil,_,#[],Heap.get?_push_size _ rfl,⟨rfl,rfl,rfl⟩,rfl,rfl,Gx⟩
def AMP:Ab X (.Dict [] [] pos) IP:=λc s Y H Q I b=>by
 obtain⟨O,Z,L,d,i,r,e,k⟩:=b;cases e;have f:=I.hok.fresh (Ag s.heap.objs.size);have h:An H O (upd H s.heap.objs.size (.dN [] 0)) (O++[s.heap.objs.size]):=⟨.new f,Ac _ _⟩
 exact wpAny_Dict_empty ⟨.ref s.heap.objs.size,_,I.laid (a:=s.heap.objs.size) (o:=.dN [] 0) (t':=s.toks) (λ_ _ q=>Heap.get?_push_of_some _ q) (Ag _) (AHk s.heap I.big),rfl,
  k _ _ _ h (r.s.new f ⟨[],CT,rfl,.nil,λu g=>(nomatch g)⟩) (.ref (by rw[<-r.s.len];simp))⟩
end
abbrev putU(us:List (NK×Addr×V))(k:NK)(b:Addr)(v:V):List (NK×Addr×V) :=
 if (us.any λu=>decide (u.1=k))=true then us.map (λu=>if u.1=k then (u.1,u.2.1,v) else u) else us++[(k,b,v)]
section
variable {K:AL}{H:Hp}{O:AOv}
def DD.anyU{kvs:List (NK×D)}{us:List (NK×Addr×V)}{xs:List (NK×Addr×Value)}(r:DD K H O kvs us xs)(k:NK) :
  (us.any λu=>decide (u.1=k))=(atKey xs k).isSome/\(kvs.any λu=>decide (u.1=k))=(atKey xs k).isSome:=by
 induction r with
 |nil=>exact⟨rfl,rfl⟩
 |@cons a d b v u kvs us xs i f t c =>
  by_cases e:a=k
  .subst e;simp[atKey]
  .have e2:atKey ((a,b,u)::xs) k=atKey xs k:=by simp[atKey,Fd,e]
   rw[e2,ANQ,ANQ,c.1,c.2];simp[e]
def DD.repl{kvs:List (NK×D)}{us:List (NK×Addr×V)}{xs:List (NK×Addr×Value)}(r:DD K H O kvs us xs)(k:NK){d:D}{v:V}{u:Value}(i:Is K H O v d)(g:Af v u) :
  DD K H O (kvs.map λa=>if a.1=k then (a.1,d) else a) (us.map λq=>if q.1=k then (q.1,q.2.1,v) else q) (xs.map (putAt k u)):=by
 induction r with
 |nil=>exact .nil
 |@cons h n b m l kvs us xs j c t f =>
  rw[Al,Al,Al];unfold putAt
  by_cases e:h=k
  .rw[if_pos e,if_pos e,if_pos e];exact .cons i g f
  .rw[if_neg e,if_neg e,if_neg e];exact .cons j c f
def DD.snoc{kvs:List (NK×D)}{us:List (NK×Addr×V)}{xs:List (NK×Addr×Value)}(r:DD K H O kvs us xs){k:NK}{b:Addr}{d:D}{v:V}{u:Value}(i:Is K H O v d)(e:Af v u) :
  DD K H O (kvs++[(k,d)]) (us++[(k,b,v)]) (xs++[(k,b,u)]):=by
 induction r with
 |nil=>exact .cons i e .nil
 |cons f a t c=>exact .cons f a c
def DD.put{kvs:List (NK×D)}{us:List (NK×Addr×V)}{xs:List (NK×Addr×Value)}(r:DD K H O kvs us xs)(k:NK){b:Addr}{d:D}{v:V}{u:Value}(i:Is K H O v d)(a:Af v u) :
  DD K H O (DQ kvs k d) (putU us k b v) (storedH xs k b u):=by
 obtain⟨e,c⟩:=r.anyU k;unfold DQ putU storedH;rw[e,c]
 by_cases q:(atKey xs k).isSome=true
 .rw[if_pos q,if_pos q,if_pos q];exact r.repl k i a
 .rw[if_neg q,if_neg q,if_neg q];exact r.snoc i a
def DD.parts{kvs:List (NK×D)}{us:List (NK×Addr×V)}{xs:List (NK×Addr×Value)}(r:DD K H O kvs us xs):us.map (·.1)=kvs.map (·.1)/\AT K H O (us.map (·.2.2)) (kvs.map (·.2)) /\
  Paired (λ(p:NK×Addr×V) (q:NK×Addr×Value)=>p.1=q.1/\p.2.1=q.2.1/\Af p.2.2 q.2.2) us xs:=by
 induction r with
 |nil=>exact⟨rfl,.nil,.nil⟩
 |cons i b t a=>exact⟨by rw[Al,Al,a.1],.cons i a.2.1,.cons ⟨rfl,rfl,b⟩ a.2.2⟩
def DD.len{kvs:List (NK×D)}{us:List (NK×Addr×V)}{xs:List (NK×Addr×Value)}(r:DD K H O kvs us xs):us.length=kvs.length/\xs.length=kvs.length:=by
 induction r with
 |nil=>exact⟨rfl,rfl⟩
 |cons i b t a=>simp[a.1,a.2]
def ADn{kvs:List (NK×D)}{k:NK}{d:D}:(DQ kvs k d).length<=kvs.length+1:=by unfold DQ;split <;> simp
def ADl{us:List (NK×Addr×V)}{k:NK}{b:Addr}{v:V}{P:NK->Addr->Prop}(h:∀u∈us,P u.1 u.2.1)(d:P k b):∀u∈putU us k b v,P u.1 u.2.1:=by
 intro u a;unfold putU at a;split at a
 .rw[Ap] at a;obtain⟨q,c,rfl⟩:=a;split
  .exact h q c
  .exact h q c
 .rcases CF.mp a with a|a
  .exact h u a
  .rw[show u=(k,b,v) by simpa using a];exact d
end
abbrev epN(kvs:List (NK×D))(k:NK)(ep:Nat):Nat:=if (kvs.any λkv=>decide (kv.1=k))=true then ep else ep+1
abbrev Il(o i v:D)(L:AB):Option AB:=match o with
 |.ref n=>(match L[n]? with|some (.dt kvs ep)=>if kvs.length<16777216 then (dNK i).map λk=>L.set n (.dt (DQ kvs k v) (epN kvs k ep)) else none|_=>none)
 |_=>none
def AHF{o i v:D}{L L':AB}(e:Il o i v L=some L'):∃n a b k,o=.ref n/\L[n]?=some (.dt a b)/\a.length<16777216/\dNK i=some k/\L'=L.set n (.dt (DQ a k v) (epN a k b)):=by
 unfold Il at e;split at e
 .rename_i n;split at e
  .rename_i a b e1;split at e
   .rename_i hz;obtain⟨k,c,rfl⟩:=ANJ.mp e;exact⟨n,a,b,k,rfl,e1,hz,c,rfl⟩
   .cases e
  .cases e
 .cases e
abbrev ADa(K:AL):Ox:=λo i v H Q=>∃O L x y d L',Aq K H O L/\Is K H O o x/\Is K H O i y/\Is K H O v d/\Il x y d L=some L'/\∀H',An H O H' O->Aq K H' O L'->Q H'
section
variable {X:Cx}{o i e:Expr}{fo fi fv:EF}{pos:Pos}
def ZL{c:List (Addr×Obj)}{Y:L2.St}{H:Hp}{s:Shared}{O:AOv}{L:AB}{n ep:Nat}{a b:Addr}{kvs:List (NK×D)}{k:NK}{v:V}{u:Value}{d:D}{us:List (NK×Addr×V)}{xs:List (NK×Addr×Value)}{h':Heap}{t':Nat}
  (I:AI X c Y H s) (rs:Aq X.K H O L) (t:O[n]?=some a) (hz:kvs.length<16777216) (j:H a=some (.dN us ep)) (f:(a == sysModules)=false) (i:DD X.K H O kvs us xs) (y:∀u∈us,Is X.K H O (.ref u.2.1) (EG u.1))
  (ik:Is X.K H O (.ref b) (EG k)) (r:Is X.K H O v d) (o:Af v u) (h:Co (HI X.prog X.w) h' a (storedH xs k b u) (FU xs k ep)) (hs:Heap.SameBut a s.heap h') :
  AI X c Y (upd H a (.dN (putU us k b v) (epN kvs k ep))) {s with heap:=h',toks:=t'}/\An H O (upd H a (.dN (putU us k b v) (epN kvs k ep))) O/\Aq X.K (upd H a (.dN (putU us k b v) (epN kvs k ep))) O (L.set n (.dt (DQ kvs k d) (epN kvs k ep))):=by
 have g:=i.put k (b:=b) r o;obtain⟨p1,p2,p3⟩:=g.parts;have ee:FU xs k ep=epN kvs k ep:=by unfold FU epN;rw[(i.anyU k).2]
 rw[ee] at h
 have p:(putU us k b v).length<=sizeLine:=by rw[g.len.1,sizeLine_eq];have:=ADn (kvs:=kvs) (k:=k) (d:=d);omega
 have e:An H O (upd H a (.dN (putU us k b v) (epN kvs k ep))) O:=⟨.write j id,AV _⟩;obtain⟨q,es,l,m,h3,h4,_,z⟩:=h;refine⟨AHn I (by rw[j];exact True.intro) hs ⟨q,l⟩ ⟨p,f,_,p3,q,es,l,m,h3,h4,z⟩,e,?_⟩;exact rs.write (o':=.dt (DQ kvs k d) (epN kvs k ep)) t ⟨_,CT,p1,p2.mono e,λx hx=>(ADl (P:=λk b=>Is X.K H O (.ref b) (EG k)) y ik x hx).mono e⟩
def AC9(hu:X.A.units+64<cLine):UG X (ADa X.K):=by
 rintro p s Y H o i v ov iv u Q I ro q z ⟨O,L,x,y,d,L',l,t,ii,a,e,k⟩;obtain⟨n,aa,ep,k0,rfl,e1,hz,r,rfl⟩:=AHF e
 cases t with|ref h =>
  obtain⟨us,xs,ha,f,ac,j,hk,dd⟩:=Jj I (l.ob n _ _ h e1);obtain⟨b,rfl,m⟩:=Jb ii r;cases ro;cases q;refine ADA (show X.A.in1.units+1<cLine from by show X.A.units+1+1<cLine;omega) (Ib I m) dd (by rw[j.len.2,sizeLine_eq];omega) λh' c hs=>?_;obtain⟨I',st,g⟩:=ZL (t':=s.toks+(HI X.prog X.w).draws k0) I l h hz ha f j hk m a z c hs;exact⟨_,I',k _ st g⟩
abbrev Io(fo fi fv:EF):SF:=λZ L=>(fv Z L).bind λv=>(fo Z v.2).bind λo=>(fi Z o.2).bind λi=>(Il o.1 i.1 v.1 i.2).bind λL'=>some (.next Z L')
def AKL{g:Pos}(hu:X.A.units+64<cLine)(ho:Ab X o fo)(hi:Ab X i fi)(he:Ab X e fv)(hs:swapsWithSole [.Subscript o i g] e pos.line X.env=pure false:=by rfl)(hw:swappedStores [.Subscript o i g] e X.env=pure none:=by rfl)
  (h1:(assignEach [.Subscript o i g] X.env).map (·.2)=[assign (.Subscript o i g) X.env]:=by rfl)
  (ha:∀v,assign (.Subscript o i g) X.env v=(do
   let h <-holding [v] (eval o X.env)
   let l <-holding [v,h] (eval i X.env)
   standAt g
   holding [v,h,l] (setItem h l v)
   release [v,h,l] []):=by intro _;rfl):Du X (.Assign [.Subscript o i g] e pos) (Io fo fi fv) :=
 PS.weaken (SR he (XF ho hi (AC9 hu) ha) hs hw h1) λD Y H aa=>by
  obtain⟨O,Z,L,ac,r,a,k⟩:=aa;refine bI a λp e1 a=>?_;refine bI a λq e2 a=>?_;refine bI a λw e3 a=>?_;refine bI a λL' e4 a=>?_;cases a;refine⟨O,Z,L,p.1,p.2,r,e1,λv H1 O1 d x t=>⟨O1,Z,p.2,q.1,q.2,r.to d x,e2,λh H2 O2 c z s=>⟨O2,Z,q.2,w.1,w.2,r.to (d.trans c) z,e3,λl H3 O3 b m u=>?_⟩⟩⟩;refine⟨O3,w.2,q.1,w.1,p.1,L',m,s.mono b,u,(t.mono c).mono b,e4,λH4 y n=>?_⟩;have j:=((d.trans c).trans b).trans y;exact k _ _ _ j ⟨n,r.f.mono j⟩
end
open Sem (wp)
section
variable {prog:Program}{w:World}{κ:Type}[DecidableEq κ]{knd:HeapKind prog w κ}{A:Around}{E:AO0}{s:Shared}{d a:Addr}{k:κ}{xs:List (κ×Addr×Value)}{ep:Nat}
def Co.entry{h:Heap}(x:Co knd h d xs ep){j:Nat}{q:Addr×Value}(e:xs[j]?=some (k,q)):∃o a,h.get? d=some o/\o.data=.dict a ep/\a[j]?=some (entryOfKey knd (k,q)):=by obtain⟨o,a,g,f,b,c,_⟩:=x;exact⟨o,a,g,b,by rw[entry_at c,e];rfl⟩
def ADB{c:Value}{Q:AO0}(l:knd.room A)(i:knd.is s.heap k a)(x:Co knd s.heap d xs ep)(hz:xs.length<=sizeLine)
  (b:∀p,atKey xs k=some p->Q p.2 {s with toks:=s.toks+knd.draws k})
  (new:atKey xs k=none->∀f,Co knd f d (storedH xs k a c) (FU xs k ep)->Heap.SameBut d s.heap f->Q c {s with heap:=f,toks:=s.toks+knd.draws k}) :
  wpAny (model prog w) A (dictSetDefault d (.ref a) c) Q E s:=by
 obtain⟨o,r,g,h,sz⟩:=x.room;unfold dictSetDefault
 (try with_reducible refine DW ?_)
 refine AH (knd.pyHash l i ?_);refine AH (Co.find (s:={s with toks:=s.toks+knd.draws k}) l i x (λn=>?_) λj p q e=>?_)
 .obtain⟨y,sb⟩:=x.grown n i c;have m:FU xs k ep=ep+1:=by simp[FU,n]
  rw[m,storedH_new n] at new;exact AH (AOe (AH (wpAny_updateDictKeys (s:={s with toks:=s.toks+knd.draws k}) (hz:=by omega) g h (AO (new n _ y sb)))))
 .obtain⟨o',es',g',dat',ee⟩:=x.entry q;refine AH (AOo (s:={s with toks:=s.toks+knd.draws k}) g' dat' ?_);rw[ee];exact AH (AOe (AO (b p e)))
def AFp(l:(d == sysModules)=false)(b:Value) :
  MeetsIn prog w (Builtin.«dict.setdefault» ⟨[.ref d,.ref a,b],[]⟩) (λA R s=>knd.room A.in1/\∃k xs ep,knd.is s.heap k a/\Co knd s.heap d xs ep/\xs.length<=sizeLine /\
   (∀p,atKey xs k=some p->R (.ok (.ret p.2)) {s with toks:=s.toks+knd.draws k}) /\
   (atKey xs k=none->∀h',Co knd h' d (storedH xs k a b) (FU xs k ep)->Heap.SameBut d s.heap h'->R (.ok (.ret b)) {s with heap:=h',toks:=s.toks+knd.draws k})) :=
 .of_wp λA R s f=>by
  obtain⟨j,k,xs,ep,c,h,o,m,n⟩:=f;unfold Builtin.«dict.setdefault»;refine AH ?_;unfold Builtin.Dict.keyAndDefault;refine AH (AOn h.of.typeIs ?_);show wpAny _ _ (pure (d,Value.ref a,some b)) _ _ s;refine AO ?_
  show wpAny _ _ (if (d == sysModules)=true then _ else (dictSetDefault d (.ref a) b >>= _)) _ _ s
  rw[if_neg (by rw[l];exact HB)];exact AH (ADB j c h o (λp i=>AO ⟨p.2,rfl,m p i⟩) λq h' e g=>AO ⟨b,rfl,n q h' e g⟩)
end
section
variable {X:Cx}
abbrev Lh:GM:=λx xs L=>match x,xs with
 |.ref i,[y]=>(match L[i]? with|some (.dt kvs _)=>(dNK y).map λk=>((Bo kvs k).getD .non,L)|_=>none)
 |_,_=>none
def ALB(hu:X.A.units+64<cLine):MtD X "dict.get" Lh:=λo s Y H x xs v us Q I rx r a=>by
 obtain⟨O,L,dx,z,d,L',j,ix,h,e,k⟩:=a;unfold Lh at e;split at e
 .rename_i i y;split at e
  .rename_i kvs ep e1;obtain⟨n,p,e3⟩:=ANJ.mp e;cases e3
   cases ix with|ref hi =>
    cases h with|cons i1 i2 =>
     cases i2;obtain⟨aa,ys,ha,c,hz,r3,hk,m⟩:=Jj I (j.ob i _ _ hi e1);obtain⟨b,rfl,ik⟩:=Jb i1 p;cases rx;obtain⟨u,rfl,ru⟩:=Ds r;cases (show u=Value.ref b from ru);refine call_meetsIn PySem.F.slot_dict_get m.of.typeIs PySem.F.entry_dict_get (PySem.F.args_dict_get_2 _ _) (meetsH_dict_get (HI X.prog X.w) _ b c) ⟨show X.A.in1.units+1<cLine from by show X.A.units+1+1<cLine;omega,n,ys,Ib I ik,m.of,?_⟩;rcases r3.look n with⟨n1,q⟩|⟨d',b',v',u',l,f,t,g,_⟩
     .rw[n1] at k;rw[q];exact⟨.non,H,I.tok _,rfl,k _ _ _ (.refl _ _) j .non⟩
     .rw[l] at k;rw[f];exact⟨v',H,I.tok _,g,k _ _ _ (.refl _ _) j t⟩
  .cases e
 .cases e
abbrev Hl:GM:=λx xs L=>match x,xs with
 |.ref i,[y,v]=>(match L[i]? with
  |some (.dt kvs ep)=>(dNK y).bind λk=>(match Bo kvs k with|some d=>some (d,L)|none=>if kvs.length<16777216 then some (v,L.set i (.dt (DQ kvs k v) (epN kvs k ep))) else none)
  |_=>none)
 |_,_=>none
def AK4(hu:X.A.units+64<cLine):MtD X "dict.setdefault" Hl:=λaa s Y H x xs v us Q I rx rv c=>by
 obtain⟨O,L,dx,ac,d,L',z,ix,t,e,k⟩:=c;unfold Hl at e;split at e
 .rename_i i y dv;split at e
  .rename_i kvs ep e1;obtain⟨m,e2,a⟩:=ANo.mp e
   cases ix with|ref hi =>
    cases t with|@cons v1 _ _ _ i1 i2=>cases i2 with|@cons v2 _ _ _ j1 j2 =>
     cases j2;obtain⟨ad,ys,ha,h,hz,f,hk,dd⟩:=Jj I (z.ob i _ _ hi e1);obtain⟨b,rfl,ik⟩:=Jb i1 e2;cases rx
     cases rv with|@cons _ u1 _ _ n q=>cases q with|@cons _ u2 _ _ g r =>
      cases r;cases (show u1=Value.ref b from n);refine call_meetsIn PySem.F.slot_dict_setdefault dd.of.typeIs PySem.F.entry_dict_setdefault (PySem.F.args_dict_setdefault_3 _ _ _) (AFp (knd:=HI X.prog X.w) h u2) ⟨show X.A.in1.units+1<cLine from by show X.A.units+1+1<cLine;omega,m,ys,ep,Ib I ik,dd,by rw[f.len.2,<-f.len.1];exact hz,λp j=>?_,λhn h' o hs=>?_⟩
      .rcases f.look m with⟨n1,n2⟩|⟨d',b',v',u',l,at_,iv,rv',_⟩
       .rw[n2] at j;cases j
       .rw[at_] at j;cases j;rw[l] at a;cases a;exact⟨v',H,I.tok _,rv',k _ _ _ (.refl _ _) z iv⟩
      .rcases f.look m with⟨n1,n2⟩|⟨d',b',v',u',l,at_,iv,rv',_⟩
       .rw[n1] at a;simp only at a;split at a
        .rename_i hz2;cases a;obtain⟨I',st,u⟩:=ZL (t':=s.toks+(HI X.prog X.w).draws m) I z hi hz2 ha h f hk ik j1 g o hs;exact⟨v2,_,I',g,k _ _ _ st u (j1.mono st)⟩
        .cases a
       .rw[at_] at hn;cases hn
  .cases e
 .cases e
abbrev Ik:GM:=λx xs L=>match x,xs with
 |.ref i,[.ref j]=>(match L[i]?,L[j]? with|some (.lst as),some (.lst bs)=>if as.length+bs.length<=16777216 then some (.non,L.set i (.lst (as++bs))) else none|_,_=>none)
 |_,_=>none
def ALA:MtD X "list.extend" Ik:=FZ.weaken (show FZ X "list.extend" rExtend from AFh) λv z H Q h=>by
 obtain⟨O,L,x,r,d,L',m,s,l,e,k⟩:=h;unfold Ik at e;split at e
 .rename_i i j;split at e
  .rename_i as bs e1 e2;split at e
   .rename_i hz;cases e
    cases s with|@ref _ a p =>
     cases l with|@cons y y1 _ _ u t =>
      cases t
      cases u with|@ref _ b w =>
       obtain⟨o,hw,q⟩:=m.ob _ _ _ p e1;obtain⟨n,g,c⟩:=m.ob _ _ _ w e2;refine⟨_,_,o,n,rfl,rfl,hw,g,by rw[q.length,c.length,sizeLine_eq];exact hz,?_⟩;have f:An H O (upd H a (.lst (o++n))) O:=⟨.write hw id,AV _⟩;exact k _ _ _ f (m.write (o':=.lst (as++bs)) p ⟨_,CT,(q.mono f).append (c.mono f)⟩) .non
   .cases e
  .cases e
 .cases e
end
abbrev JB(h:Heap)(d:Addr)(es:Array DictEntry)(ep:Nat):Prop:=∃o,h.get? d=some o/\o.data=.dict es ep
section
variable {prog:Program}{w:World}{A:Around}{E:AO0}{s:Shared}{t d v:Addr}{i ep:Nat}{es:Array DictEntry}{Q:Option Value->Shared->Prop}
def Sf{U:Type}{h0:Heap}{d:AO0}(f:A.handled=none)(k:Heap.ExtBut t h0 s.heap)(b:∀c,Heap.ExtBut t h0 c->∀e,(∃o,c.get? e=some o/\o.cls=.type "StopIteration")->d (.ref e) {s with heap:=c}){R:U->Shared->Prop} :
  wpAny (model prog w) A (newExc (.type "StopIteration") [] >>= λx=>(raiseNew x:Sem U)) R d s:=by
 refine AH ?_;simp only[newExc,newTuple];refine AH (AOl (AH (m:=firstArgMember _ _) (wpAny_of_eq (a:=Value.none) (by simp only[firstArgMember];rfl) (AOl ?_ (by size_fits)))) (by size_fits));simp only[raiseNew];refine AH (wpAny_handled ?_);rw[f];exact AH (AO (wpAny_throw (b _ ((k.push _).push _) _ ⟨_,Heap.get?_push_size _ rfl,rfl⟩)))
def OK(hh:A.handled=none)(it:s.heap.IsKeyIter t d i es.size ep)(q:JB s.heap d es ep)
  (more:∀e,es[i]?=some e->∀h',h'.IsKeyIter t d (i+1) es.size ep->Heap.SameBut t s.heap h'->Q (some e.key) {s with heap:=h'})
  (p:es[i]?=none->∀h',Heap.ExtBut t s.heap h'->Q none {s with heap:=h'}):wpAny (model prog w) A (pyNext (.ref t)) Q E s:=by
 obtain⟨ot,n,ct,h⟩:=id it;obtain⟨od,u,y⟩:=q;have ty:=it.typeIs
 have f:∀{F:AO0} {R:AO0},(∀e,es[i]?=some e->∀h',h'.IsKeyIter t d (i+1) es.size ep->Heap.SameBut t s.heap h'->R e.key {s with heap:=h'}) ->
   (es[i]?=none->∀h',Heap.ExtBut t s.heap h'->∀x,(∃o,h'.get? x=some o/\o.cls=.type "StopIteration")->F (.ref x) {s with heap:=h'}) ->
   wpAny (model prog w) A.in1 (Builtin.«dict_keyiterator.__next__» ⟨[.ref t],[]⟩) (λfi s2=>∃v,fi=PySem.Fin.done (Flow.ret v)/\R v s2) F s:=λ{F R} one a=>by
  refine AH (AO (AH (AH (AH (AOp ty (AO (AH (wpAny_fieldsOf n h ?_))))))));rw[show Builtin.Dict_items.ownsTuple "dict_keyiterator"=false from by decide]
  show wpAny _ _ (if (Value.ref d == Value.none)=true then _ else _) _ _ s
  rw[if_neg (λz=>by cases (show(false:Bool)=true from z))];refine AH (AO (AH (AOo u y ?_)));rw[if_neg (by simp)];refine AH (AO (AH (wpAny_dictEpoch u y ?_)));rw[if_neg (by simp)];refine AO ?_;have i0:¬((i:Int)<0):=by omega
  simp only[i0,if_false,ANP]
  cases l:es[i]? with
  |none =>
   refine AH (AH (AOp ty (AO ?_)));refine AH (m:=setField (.ref t) 0 .none) (wpAny_setField n h (by simp) ?_);exact Sf (A:=A.in1) (t:=t) (h0:=s.heap) (s:={s with heap:=s.heap.update t (Obj.mapFields (·.setIfInBounds 0 .none))}) hh (Heap.SameBut.update ..).extBut λh' k x r=>a l h' k x r
  |some e =>
   refine AH (AH (AOp ty (AO (AH (wpAny_isOneOf_keyiter ty ?_)))))
   have j:(s.heap.update t (Obj.mapFields (·.setIfInBounds 1 (rawInt ((i:Int)+1))))).IsKeyIter t d (i+1) es.size ep :=
    ⟨_,Heap.get?_update_self _ n (Obj.isFreed_of_fields (Obj.data_mapFields h _)),(Obj.cls_mapFields ..).trans ct,by rw[Obj.data_mapFields h];simp[rawInt]⟩
   refine AH (m:=setField (.ref t) 1 (rawInt ((i:Int)+1))) (wpAny_setField n h (by simp) (AH (DW (AH (wpAny_isOneOf_keyiter j.typeIs ?_)))));exact AO (AO ⟨_,rfl,one e l _ j (Heap.SameBut.update ..)⟩)
 unfold pyNext;refine AH (wpAny_attempt (AOk (name:=Str.ofString "__next__") ty F.slot_dict_keyiterator_next (GV F.slot_dict_keyiterator_next ty F.entry_dict_keyiterator_next (f (λe l h' i' sb=>AO (more e l h' i' sb)) λq h' k x r=>?_) (F.args_dict_keyiterator_next_1 _))));obtain⟨o,g,c⟩:=r;exact AH (wpAny_isInstance (T:="StopIteration") (b:=true) ⟨o,g,c⟩ isSubtype_stop (AO (p q h' k)))
abbrev AAQ(h:Heap)(t d:Addr)(i n ep:Nat):Prop:=∃a b,IsItemIter h t d i n ep a b
abbrev AAP(h:Heap)(t d:Addr)(i n ep:Nat)(T:Addr):Prop:=∃a b,IsItemIterOut h t d i n ep a b T
def XI(hh:A.handled=none)(it:AAQ s.heap t d i es.size ep)(en:JB s.heap d es ep)
  (more:∀e,es[i]?=some e->∀h',AAP h' t d (i+1) es.size ep s.heap.objs.size->h'.get? s.heap.objs.size=some {cls:=.type "tuple",data:=.seq #[e.key,e.val]}->h'.objs.size=s.heap.objs.size+1->(∀b o,b≠t->s.heap.get? b=some o->h'.get? b=some o)->Q (some (.ref s.heap.objs.size)) {s with heap:=h'})
  (ac:es[i]?=none->∀h',Heap.ExtBut t s.heap h'->Q none {s with heap:=h'}):wpAny (model prog w) A (pyNext (.ref t)) Q E s:=by
 obtain⟨ka,va,r⟩:=it;obtain⟨od,gd,dd⟩:=en;have ty:s.TypeIs (.ref t) "dict_itemiterator":=⟨_,r,rfl⟩;have tl:t<s.heap.objs.size:=Heap.lt_size r
 have l:∀{F:AO0} {R:AO0},
   (∀e,es[i]?=some e->∀h',AAP h' t d (i+1) es.size ep s.heap.objs.size->h'.get? s.heap.objs.size=some {cls:=.type "tuple",data:=.seq #[e.key,e.val]}->h'.objs.size=s.heap.objs.size+1->(∀b o,b≠t->s.heap.get? b=some o->h'.get? b=some o)->R (.ref s.heap.objs.size) {s with heap:=h'}) ->
   (es[i]?=none->∀h',Heap.ExtBut t s.heap h'->∀x,(∃o,h'.get? x=some o/\o.cls=.type "StopIteration")->F (.ref x) {s with heap:=h'}) ->
   wpAny (model prog w) A.in1 (Builtin.«dict_itemiterator.__next__» ⟨[.ref t],[]⟩) (λfi s2=>∃v,fi=PySem.Fin.done (Flow.ret v)/\R v s2) F s:=λ{F R} one j=>by
  refine AH (AO (AH (AH (AH (AOq ty (AO (AH (wpAny_fieldsOf r rfl ?_))))))));rw[show Builtin.Dict_items.ownsTuple "dict_itemiterator"=true from by decide]
  show wpAny _ _ (if (Value.ref d == Value.none)=true then _ else _) _ _ s
  rw[if_neg (λz=>by cases (show(false:Bool)=true from z))];refine AH (AO (AH (AOo gd dd ?_)));rw[if_neg (by simp)];refine AH (AO (AH (wpAny_dictEpoch gd dd ?_)));rw[if_neg (by simp)];refine AO ?_;have i0:¬((i:Int)<0):=by omega
  simp only[i0,if_false,ANP]
  cases ee:es[i]? with
  |none =>
   refine AH (AH (AOq ty (AO ?_)));refine AH (m:=setField (.ref t) 2 .none) (wpAny_setField r rfl (by simp) ?_);exact Sf (A:=A.in1) (t:=t) (h0:=s.heap) (s:={s with heap:=s.heap.update t (Obj.mapFields (·.setIfInBounds 2 .none))}) hh (Heap.SameBut.update ..).extBut λh' k x hx=>j ee h' k x hx
  |some e =>
   refine AH (AH (AOq ty (AO (AH (wpAny_isOneOf_itemiter ty ?_)))));refine AH (m:=setField (.ref t) 3 (rawInt ((i:Int)+1))) (AOr r (by simp) λh g1 b1=>?_)
   have n:IsItemIter h t d (i+1) es.size ep ka va:=by show h.get? t=_;rw[show((i+1:Nat):Int)=(i:Int)+1 by omega];exact g1
   have aa:Shared.TypeIs {s with heap:=h} (.ref t) "dict_itemiterator":=⟨_,n,rfl⟩;refine AH (DW (AH (wpAny_isOneOf_itemiter aa (AH (wpAny_isOneOf_itemiter aa ?_)))));show wpAny _ _ (Builtin.Dict_items.pairFromOwner (.ref t) 6 e.key e.val) _ _ {s with heap:=h};unfold Builtin.Dict_items.pairFromOwner;refine AH (wpAny_newTuple ?_)
   -- the tuple is laid
   have z1:h.objs.size=s.heap.objs.size:=b1.1
   have ad:∀a,a=h.push {cls:=.type "tuple",data:=.seq #[e.key,e.val]}->IsItemIter a t d (i+1) es.size ep ka va/\a.get? s.heap.objs.size=some {cls:=.type "tuple",data:=.seq #[e.key,e.val]}/\a.objs.size=s.heap.objs.size+1/\∀b o,b≠t->s.heap.get? b=some o->a.get? b=some o:=λa e2=>by
    subst e2;exact⟨Heap.get?_push_of_some _ n,by rw[<-z1];exact Heap.get?_push_size _ rfl,by rw[Heap.size_push,z1],λb o f q=>Heap.get?_push_of_some _ (b1.extBut b o f q)⟩
   show wpAny _ _ (Builtin.Dict_items.ownedTupleIsFree (.ref t) >>= _) _ _ {s with heap:=h.push {cls:=.type "tuple",data:=.seq #[e.key,e.val]}};obtain⟨y,u2,z2,k2⟩:=ad _ rfl;rw[z1];generalize h.push {cls:=.type "tuple",data:=.seq #[e.key,e.val]}=a at y u2 z2 k2 ⊢;unfold Builtin.Dict_items.ownedTupleIsFree;refine AH (AH (Et (x:=.none) y rfl rfl (AO ?_)));rw[if_pos rfl];refine AH (Et (x:=ka) y rfl rfl (AH (Et (x:=va) y rfl rfl ?_)));refine AH (AOr y (by simp) λh3 g3 b3=>AH (AOr g3 (by simp) λh4 g4 b4=>AH (AOr g4 (by simp) λh5 g5 b5=>AH (AOr g5 (by simp) λh6 g6 b6=>?_))));have p:∀b o,b≠t->a.get? b=some o->h6.get? b=some o:=λb o f q=>b6.extBut b o f (b5.extBut b o f (b4.extBut b o f (b3.extBut b o f q)));have z6:h6.objs.size=a.objs.size:=b6.1.trans (b5.1.trans (b4.1.trans b3.1));refine AH (wpAny_letGo (AO (AO ⟨_,rfl,one e ee h6 ⟨e.key,e.val,g6⟩ (p _ _ (GZ tl) u2) (z6.trans z2) λb o f q=>p b o f (k2 b o f q)⟩)))
 unfold pyNext;refine AH (wpAny_attempt (AOk (name:=Str.ofString "__next__") ty F.slot_dict_itemiterator_next (GV F.slot_dict_itemiterator_next ty F.entry_dict_itemiterator_next (l (λe ee h' i' u z k=>AO (more e ee h' i' u z k)) λen h' k x hx=>?_) (F.args_dict_itemiterator_next_1 _))));obtain⟨o,g,c⟩:=hx;exact AH (wpAny_isInstance (T:="StopIteration") (b:=true) ⟨o,g,c⟩ isSubtype_stop (AO (ac en h' k)))
def Xz{R:AO0}(c:(d == sysModules)=false)(ty:s.TypeIs (.ref d) "dict")(e:JB s.heap d es ep)
  (k:R (.ref s.heap.objs.size) {s with heap:=s.heap.push {cls:=.type "dict_keyiterator",data:=.fields #[.ref d,.int 0 0,.int es.size 0,.int ep 0]}}):wpAny (model prog w) A (pyIter (.ref d)) R E s:=by
 obtain⟨f,a,b⟩:=e;refine wpAny_pyIter_slot ty F.slot_dict_iter (GV F.slot_dict_iter ty F.entry_dict_iter ?_ (F.args_dict_iter_1 _));refine AH (AH (m:=Builtin.Dict.notOrdered "__iter__" ⟨[.ref d],[]⟩) (AOn ty (AO ?_)));refine AH (m:=Builtin.Dict.showsAll d) ?_;unfold Builtin.Dict.showsAll;rw[c,if_neg HB];refine AO (AH (AOo a b (AH (wpAny_dictEpoch a b (AH (AOl (AO ⟨_,rfl,"dict_keyiterator",_,⟨_,Heap.get?_push_size _ rfl,rfl⟩,F.slot_dict_keyiterator_next.lookup,?_⟩)))))));exact k
def AFq(b:(d == sysModules)=false):MeetsIn prog w (Builtin.«dict.items» ⟨[.ref d],[]⟩) (λ_ R s=>s.TypeIs (.ref d) "dict"/\R (.ok (.ret (.ref s.heap.objs.size))) {s with heap:=s.heap.push {cls:=.type "dict_items",data:=.fields #[.ref d]}}) :=
 .of_wp λA R s a=>by
  obtain⟨ty,k⟩:=a;refine AH (AH (m:=Builtin.Dict.notOrdered "items" ⟨[.ref d],[]⟩) (AOn ty (AO ?_)));refine AH (m:=Builtin.Dict.showsAll d) ?_;unfold Builtin.Dict.showsAll;rw[b,if_neg HB];exact AO (AH (AOl (AO ⟨_,rfl,k⟩)))
def AE2{R:AO0}(a:s.heap.IsItemsView v d)(g:JB s.heap d es ep)
  (k:R (.ref s.heap.objs.size) {s with heap:=s.heap.push {cls:=.type "dict_itemiterator",data:=.fields #[.none,.bool false,.ref d,.int 0 0,.int es.size 0,.int ep 0,.none,.none]}}):wpAny (model prog w) A (pyIter (.ref v)) R E s:=by
 obtain⟨h,f,i,e⟩:=id a;obtain⟨j,b,c⟩:=g;refine wpAny_pyIter_slot a.typeIs F.slot_dict_items_iter (GV F.slot_dict_items_iter a.typeIs F.entry_dict_items_iter ?_ (F.args_dict_items_iter_1 _));refine AH (AO (AH (AH (Et (x:=.ref d) f e rfl (AO (AH (AH (AOo b c (AH (wpAny_dictEpoch b c ?_))))))))));show wpAny _ _ (newFields "dict_itemiterator" [.none,.bool false,.ref d,rawInt 0,rawInt es.size,rawInt ep,.none,.none]) _ _ s;refine AOl (AO ⟨_,rfl,"dict_itemiterator",_,⟨_,Heap.get?_push_size _ rfl,rfl⟩,F.slot_dict_itemiterator_next.lookup,?_⟩) (by rw[sizeOk,sizeLine_eq];show 8<=16777216+2;decide);exact k
end
section
variable {X:Cx}{pins:List (Addr×Obj)}{Y:L2.St}{H:Hp}{s:Shared}
def Paired.at{U β:Type}{R:U->β->Prop}:∀{l:List U} {m:List β} {j:Nat} {a:U},Paired R l m->l[j]?=some a->∃b,m[j]?=some b/\R a b
 |_,_,_,_,.nil,h=>by simp at h
 |_,_,0,_,.cons r _,h=>by simp at h;subst h;exact⟨_,rfl,r⟩
 |_,_,j+1,_,.cons _ t,h=>by
  obtain⟨b,e,q⟩:=Paired.at (j:=j) t (by simpa using h);exact⟨b,by simpa using e,q⟩
def IN(I:AI X pins Y H s){a:Addr}{us:List (NK×Addr×V)}{ep:Nat}(h:H a=some (.dN us ep)) :
  (a == sysModules)=false/\(s.TypeIs (.ref a) "dict"/\∃o,s.heap.get? a=some o/\o.dict=none)/\∃b,JB s.heap a b ep/\b.size=us.length/\∀(i:Nat) (u:NK×Addr×V),us[i]?=some u->∃e:DictEntry,b[i]?=some e/\e.key=.ref u.2.1/\Af u.2.2 e.val:=by
 obtain⟨z,y,k,r,o,b,g,d,c,f,m⟩:=(show CJ X.prog X.w H s.heap a (.dN us ep) from I.hok a _ h);have l:k.length=us.length:=(Paired.length r).symm;refine⟨y,⟨⟨o,g,d.1⟩,o,g,d.2.1⟩,b,⟨o,g,c⟩,?_,λi u j=>?_⟩
 .rw[<-AOD,f,AZ,l]
 .obtain⟨q,hq,h1,h2,h3⟩:=Paired.at r j;refine⟨entryOfKey (HI X.prog X.w) q,?_,by show Value.ref q.2.1=_;rw[h2],h3⟩;rw[<-Array.getElem?_toList,f,As,hq];rfl
end
abbrev Itk(a:Addr)(n ep:Nat):It :=
 ⟨λi H=>∃us,H a=some (.dN us ep)/\us.length=n/\i<n,λi H v H'=>H'=H/\∀us,H a=some (.dN us ep)->∃u,us[i]?=some u/\v=.ref u.2.1,λi H=>∃us,H a=some (.dN us ep)/\us.length=n/\n<=i⟩
def AB8{P:Program}{w:World}{K:AL}{tg:Expr}(a r:Addr)(n ep:Nat):HR P w K tg (Itk a n ep) [r] r (λi h=>h.IsKeyIter r a i n ep) where
 mem:=by simp
 obj:=λi h g b m=>by
  obtain rfl:b=r:=by simpa using m
  obtain⟨o,e,c,d⟩:=g;exact⟨o,e,λv z=>by rw[d] at z;cases z⟩
 keep:=λi h j g k=>g.at λo e=>k r (by simp) o e
 item:=by
  rintro X hP hw hK hc i l s Y H E I x g ⟨y,ha,hl,hi⟩;subst hP hw hK;obtain⟨_,_,es,en,sz,t⟩:=IN I ha;obtain⟨f0,f1,f2,f3,f4,f5⟩:=x r (by simp);have hz:es.size=n:=sz.trans hl;subst hz;obtain⟨u,hu⟩:∃u,y[i]?=some u:=⟨y[i]'(by omega),by simp[show i<y.length by omega]⟩;obtain⟨e,he,hk,_⟩:=t i u hu;refine OK (I.ok.hd hc) g en (λe' f j p sb=>?_) λhn=>by rw[he] at hn;cases hn
  rw[he] at f;obtain rfl:=Option.some.inj f;have I1:AI X l Y H {s with heap:=j}:=I.turned (t':=s.toks) (λb o m q=>(sb.2 b m).trans q) f0 f1 f3 f4 f5;rw[hk];exact⟨_,rfl,letGo_keyiter (s':={s with heap:=j}) p ⟨.ref u.2.1,H,I1,rfl,⟨rfl,λaa j=>by rw[ha] at j;cases j;exact⟨u,hu,rfl⟩⟩,p,λb m=>(x b m).1⟩⟩
 done:=by rintro X hP hw hK hc i l s Y H E I x g ⟨y,ha,hl,hi⟩;subst hP hw hK;obtain⟨_,_,es,en,sz,t⟩:=IN I ha;obtain⟨f0,f1,f2,f3,f4,f5⟩:=x r (by simp);have hz:es.size=n:=sz.trans hl;subst hz;refine OK (I.ok.hd hc) g en (λe' f j p sb=>?_) λ_ j k=>⟨rfl,I.turned (t':=s.toks) (λb o m q=>k b o m q) f0 f1 f3 f4 f5⟩;rw[AOX hi] at f;cases f
 self:=λ_ _ _ _ _ g h=>wpAny_pyIter_keyiter g h
def AHc:entryFor table "dict_itemiterator.__iter__"=some Builtin.«dict_keyiterator.__iter__»:=entryFor_alias (id':="dict_keyiterator.__iter__") (by kernel_rfl) rfl (by decide +kernel) (by kernel_rfl)
abbrev Itp(a:Addr)(n ep:Nat):It :=
 ⟨λi H=>∃us,H a=some (.dN us ep)/\us.length=n/\i<n,λi H v H'=>∃T,H T=none/\v=.ref T/\∀us,H a=some (.dN us ep)->∃u,us[i]?=some u/\H'=upd H T (.tup [.ref u.2.1,u.2.2]),λi H=>∃us,H a=some (.dN us ep)/\us.length=n/\n<=i⟩
def AB6{P:Program}{w:World}{K:AL}{t:AOw}{x1:Nat}{tp:Pos}(a c:Addr)(n ep:Nat):HR P w K (.Tuple t x1 tp) (Itp a n ep) [c] c (λi h=>AAQ h c a i n ep) where
 mem:=by simp
 obj:=λi h f b j=>by
  obtain rfl:b=c:=by simpa using j
  obtain⟨_,_,e⟩:=f;exact⟨_,e,λv z=>by cases z⟩
 keep:=λi h l ai k=>by obtain⟨x,y,f⟩:=ai;exact⟨x,y,k c (by simp) _ f⟩
 item:=by
  rintro X hP hw hK hc i ad s Y H E I hf f ⟨us,ha,hl,hi⟩;subst hP hw hK;obtain⟨_,_,es,en,sz,ac⟩:=IN I ha;have hz:es.size=n:=sz.trans hl;subst hz;have m:c<s.heap.objs.size:=by obtain⟨_,_,e⟩:=f;exact Heap.lt_size e
  obtain⟨u,hu⟩:∃u,us[i]?=some u:=⟨us[i]'(by omega),by simp[show i<us.length by omega]⟩;obtain⟨e,he,hk,rv⟩:=ac i u hu;refine XI (I.ok.hd hc) f en (λe' d l g ht ag kk=>?_) λhn=>by rw[he] at hn;cases hn
  rw[he] at d;obtain rfl:=Option.some.inj d;obtain⟨y1,y2,g⟩:=g;refine⟨_,rfl,wpAny_letOwnedTupleGo_items g λh2 aa r=>?_⟩;have ae:h2.get? s.heap.objs.size=some {cls:=.type "tuple",data:=.seq #[e.key,e.val]}:=(r.2 _ (GZ m)).trans ht
  have new:CJ X.prog X.w (upd H s.heap.objs.size (.tup [.ref u.2.1,u.2.2])) h2 s.heap.objs.size (.tup [.ref u.2.1,u.2.2]) :=
   ⟨by rw[sizeLine_eq];show 2<=16777216;decide,[e.key,e.val],.cons hk (.cons rv .nil),⟨_,ae,rfl,_,rfl⟩⟩
  have I1:=Nh (t':=s.toks) (h':=h2) I hf (λb o j q=>by
   have p:b≠c:=λz=>j (by simp[z])
   exact(r.2 b p).trans (kk b o p q)) (Ag _) (λz=>absurd (Dr.mp z) (GZ m)) (λb j=>by
   obtain rfl:b=c:=by simpa using j
   exact⟨_,aa⟩) new
  refine⟨.ref s.heap.objs.size,_,I1,rfl,⟨s.heap.objs.size,I.hok.fresh (Ag _),rfl,λaj l=>by rw[ha] at l;cases l;exact⟨u,hu,rfl⟩⟩,⟨_,_,aa⟩,λb j=>?_⟩;obtain rfl:b=c:=by simpa using j
  rw[BX (Bm m)];exact(hf b (by simp)).1
 done:=by rintro X hP hw hK hc i ad s Y H E I hf f ⟨us,ha,hl,hi⟩;subst hP hw hK;obtain⟨_,_,es,en,sz,ac⟩:=IN I ha;obtain⟨f0,f1,f2,f3,f4,f5⟩:=hf c (by simp);have hz:es.size=n:=sz.trans hl;subst hz;refine XI (I.ok.hd hc) f en (λe' d l g ht ag kk=>?_) λ_ l k=>⟨rfl,I.turned (t':=s.toks) (λb o j q=>k b o j q) f0 f1 f3 f4 f5⟩;rw[AOX hi] at d;cases d
 self:=λA i s Q E ⟨x,y,f⟩ h=>by
  have ty:s.TypeIs (.ref c) "dict_itemiterator":=⟨_,f,rfl⟩;refine wpAny_pyIter_slot ty AOc (GV AOc ty AHc ?_ (PySem.F.args_dict_itemiterator_iter_1 _));show wpAny _ _ (ret (.ref c)) _ _ s;exact AO ⟨_,rfl,"dict_itemiterator",_,ty,PySem.F.slot_dict_itemiterator_next.lookup,h⟩
abbrev Hx(k:Nat)(kvs:List (NK×D))(ep:Nat)(L:AB):Bool:=match L[k]? with|some (.dt kvs' ep')=>decide (kvs'.map (·.1)=kvs.map (·.1))&&ep' == ep|_=>false
abbrev GD(kvs:List (NK×D)):List D:=kvs.map λkv=>EG kv.1
abbrev FM(kvs:List (NK×D)):List D:=kvs.map λkv=>.tup [EG kv.1,kv.2]
abbrev LW(f:EF):IF:=λZ L=>(f Z L).bind λx=>match x.1 with
 |.ref k=>(match x.2[k]? with|some (.dt kvs ep)=>some (⟨GD kvs,Hx k kvs ep⟩,x.2)|_=>none)
 |_=>none
abbrev Ii(f:EF):IF:=λZ L=>(f Z L).bind λx=>match x.1 with
 |.ref k=>(match x.2[k]? with|some (.dt kvs ep)=>some (⟨FM kvs,λL'=>decide (L'[k]?=some (.dt kvs ep))⟩,x.2)|_=>none)
 |_=>none
section
variable {X:Cx}{tg l:Expr}{f:EF}
def ADG{k:Nat}{kvs:List (NK×D)}{ep:Nat}{L:AB}(h:Hx k kvs ep L=true):∃a,L[k]?=some (.dt a ep)/\a.map (·.1)=kvs.map (·.1):=by
 unfold Hx at h;split at h
 .rename_i a ep' e;rw[Bs] at h;obtain rfl:ep'=ep:=beq_iff_eq.mp h.2;exact⟨a,e,of_decide_eq_true h.1⟩
 .cases h
def AKc(hl:Ab X l f):EM X tg l (LW f):=by
 rintro ad s Y H R I ⟨O,Z,L,J,L',r,e,k⟩;refine bI e λp e1 e=>?_;obtain⟨d,L1⟩:=p;simp only[AX] at e;split at e
 .rename_i n;split at e
  .rename_i kvs ep e2;cases e;refine Ai (hl ad s Y H (λv w=>∃a t,v=.ref a/\An H O w t/\Aq X.K w t L'/\t[n]?=some a) I ⟨O,Z,L,_,_,r,e1,λv w t st rs is=>by cases is with|ref h=>exact⟨_,t,rfl,st,rs,h⟩⟩) λv s1 m=>?_;obtain⟨x,w,I1,r1,a,t,ev,st,rs,hn⟩:=m;subst ev;cases r1;obtain⟨us,ha,ek,il,ik⟩:=rs.ob n _ _ hn e2;obtain⟨ag,⟨ty,nd⟩,es,en,sz,_⟩:=IN I1 ha;have j:us.length=kvs.length:=by simpa using congrArg List.length ek
   refine Xz ag ty en ?_;refine⟨s1.heap.objs.size,[s1.heap.objs.size],_,_,w,rfl,I1.kept (t':=s1.toks) λb o q=>Heap.get?_push_of_some _ q,AB8 a _ es.size ep,⟨_,Heap.get?_push_size _ rfl,rfl,rfl⟩,λb hb=>?_,k _ w t st rs λi H2 O2 L2 ae z ok=>?_⟩
   .obtain rfl:b=s1.heap.objs.size:=by simpa using hb
    exact I1.fpOk (Ag _) (I1.hok.fresh (Ag _))
   .obtain⟨kvs',e3,ekk⟩:=ADG ok;obtain⟨c,g,aa,aj,ai⟩:=z.ob n _ _ (CP ae.2 hn) e3;have ac:c.length=es.size:=by rw[sz,j];simpa using congrArg List.length (aa.trans ekk)
    refine⟨λd hd=>?_,λh=>⟨c,g,ac,by rw[sz,j];simpa[GD] using h⟩⟩
    have hi:i<kvs.length:=by
     rcases Nat.lt_or_ge i kvs.length with h|h
     .exact h
     .rw[show(GD kvs)[i]?=none from ANS (by simpa[GD] using h)] at hd;cases hd
    refine⟨⟨c,g,ac,by rw[sz,j];exact hi⟩,λx H' m=>?_⟩;obtain⟨eH,y⟩:=m;subst eH;obtain⟨u,hu,rfl⟩:=y c g;refine⟨.refl _ _,z,?_⟩;have hk:=ai u (BY hu);have e5:(c.map (·.1))[i]?=some u.1:=by rw[As,hu];rfl
    rw[aa,ekk,As] at e5;simp only[GD,As] at hd
    cases e6:kvs[i]? with
    |none=>rw[e6] at e5;cases e5
    |some q =>
     rw[e6] at e5 hd;cases hd;show Is _ _ _ _ (EG q.1);rw[show q.1=u.1 from Option.some.inj e5];exact hk
  .cases e
 .cases e
def AKb{ae:AOw}{x1:Nat}{tp g j:Pos}(hl:Ab X l f)(aa:attributeBase l "items" X.env (eval l X.env)=eval l X.env:=by rfl)(ac:(g.endLine == j.line)=true:=by rfl) :
  EM X (.Tuple ae x1 tp) (.Call (.Attribute l "items" g) [] [] j) (Ii f):=by
 rintro m s Y H R I ⟨O,Z,L,J,L',r,e,k⟩;refine bI e λp e1 e=>?_;obtain⟨d,L1⟩:=p;simp only[AX] at e;split at e
 .rename_i n;split at e
  .rename_i kvs ep e2;cases e;refine wpAny_Call_method0_late aa ac (Ai (hl m s Y H (λv H1=>∃a O1,v=.ref a/\An H O H1 O1/\Aq X.K H1 O1 L'/\O1[n]?=some a) I ⟨O,Z,L,_,_,r,e1,λv H1 O1 st rs is=>by cases is with|ref h=>exact⟨_,O1,rfl,st,rs,h⟩⟩) λv s1 ad=>?_);obtain⟨x,H1,I1,r1,a,O1,ev,st,rs,hn⟩:=ad;subst ev;cases r1;obtain⟨us,ha,ek,il,ik⟩:=rs.ob n _ _ hn e2;obtain⟨am,⟨ty,nd⟩,es,en,sz,_⟩:=IN I1 ha;have z:us.length=kvs.length:=by simpa using congrArg List.length ek
   refine⟨"dict","dict.items",PySem.F.plainAttrs_dict,PySem.F.slot_dict_items,PySem.F.type_dict_items,ty,λb q=>by cases q;exact nd,Calls.callWith_builtin rfl (PySem.evalArgs_none ?_)⟩;refine call_meetsIn PySem.F.slot_dict_items ty PySem.F.entry_dict_items (PySem.F.args_dict_items_1 _) (AFq am) ⟨ty,?_⟩;obtain⟨od,gd,dd⟩:=en;refine AE2 (d:=a) (es:=es) (ep:=ep) (s:={s1 with heap:=s1.heap.push {cls:=.type "dict_items",data:=.fields #[.ref a]}}) ⟨_,Heap.get?_push_size _ rfl,rfl,rfl⟩ ⟨od,Heap.get?_push_of_some _ gd,dd⟩ ?_;have I2:AI X m Y H1 {s1 with heap:=s1.heap.push {cls:=.type "dict_items",data:=.fields #[.ref a]}}:=I1.kept (t':=s1.toks) λb o q=>Heap.get?_push_of_some _ q;refine⟨_,[_],_,_,H1,rfl,I2.kept (t':=s1.toks) λb o q=>Heap.get?_push_of_some _ q,AB6 a _ es.size ep,⟨_,_,Heap.get?_push_size _ rfl⟩,λb hb=>?_,k _ H1 O1 st rs λi H2 O2 L2 ak ag ok=>?_⟩
   .obtain rfl:=Dr.mp hb;exact I2.fpOk (Ag _) (I2.hok.fresh (Ag _))
   .have e3:L2[n]?=some (.dt kvs ep):=of_decide_eq_true ok;obtain⟨c,w,ai,al,ao⟩:=ag.ob n _ _ (CP ak.2 hn) e3;have aj:c.length=es.size:=by rw[sz,z];simpa using congrArg List.length ai
    refine⟨λd hd=>?_,λh=>⟨c,w,aj,by rw[sz,z];simpa[FM] using h⟩⟩
    have hi:i<kvs.length:=by
     rcases Nat.lt_or_ge i kvs.length with h|h
     .exact h
     .rw[show(FM kvs)[i]?=none from ANS (by simpa[FM] using h)] at hd;cases hd
    refine⟨⟨c,w,aj,by rw[sz,z];exact hi⟩,λx H' ad=>?_⟩;obtain⟨T,hT,ex,y⟩:=ad;obtain⟨u,hu,eH⟩:=y c w;subst ex eH;have t:An H2 O2 (upd H2 T (.tup [.ref u.2.1,u.2.2])) O2:=⟨.new hT,AV _⟩;refine⟨t,ag.ext λb q h=>by rw[BX (Df h hT)];exact h,?_⟩;have hk:=ao u (BY hu);have e5:(c.map (·.1))[i]?=some u.1:=by rw[As,hu];rfl
    rw[ai,As] at e5;simp only[FM,As] at hd
    cases e6:kvs[i]? with
    |none=>rw[e6] at e5;cases e5
    |some q =>
     rw[e6] at e5 hd;cases hd;have e7:q.1=u.1:=Option.some.inj e5;obtain⟨v,hv,iv⟩:=al.get (i:=i) (d:=q.2) (by rw[As,e6];rfl);rw[As,hu] at hv;cases hv;show Is _ _ _ _ (.tup [EG q.1,q.2]);rw[e7];exact .tup (Be.of CT) (.cons (hk.mono t) (.cons (iv.mono t) .nil))
  .cases e
 .cases e
end
abbrev ItE(K:AL)(a:Addr)(n:Nat):It :=
 ⟨λi H=>∃xs,BJ K H a xs/\xs.length=n/\i<n,λi H v H'=>∃T,H T=none/\v=.ref T/\∀xs,BJ K H a xs->∃x,xs[i]?=some x/\H'=upd H T (.tup [.int (i:Int),x]),λi H=>∃xs,BJ K H a xs/\xs.length=n/\n<=i⟩
def AB9{P:Program}{w:World}{K:AL}{ag:AOw}{x1:Nat}{tp:Pos}(a e m:Addr)(n:Nat)(ac:e≠m) :
  HR P w K (.Tuple ag x1 tp) (ItE K a n) [e,m] e (λi h=>(∃f,IsEnum h e m (i:Int) f)/\h.IsListIter m a i/\i<=n) where
 mem:=by simp
 obj:=λi h st b j=>by
  obtain⟨⟨f,r⟩,⟨o,e1,c,d⟩,_⟩:=st;rcases AY.mp j with rfl|j
  .exact⟨_,r,λv z=>by cases z⟩
  .obtain rfl:=Dr.mp j;exact⟨o,e1,λv z=>by rw[d] at z;cases z⟩
 keep:=λi h h' av k=>by obtain⟨⟨f,r⟩,si,hi⟩:=av;exact⟨⟨f,k e (by simp) _ r⟩,si.at λo q=>k m (by simp) o q,hi⟩
 item:=by
  rintro X hP hw hK hc i al s Y H E I hf st ⟨xs,hq,hl,hi⟩;subst hP hw hK;obtain⟨⟨f,r⟩,hs,_⟩:=st;obtain⟨l,rv,p,hz⟩:=I.list hq;have t:l.length=n:=by rw[<-rv.length];exact hl
  have ad:e<s.heap.objs.size:=Heap.lt_size r;have ae:m<s.heap.objs.size:=by obtain⟨o,e1,_⟩:=hs;exact Heap.lt_size e1
  obtain⟨x,hx⟩:∃x,xs[i]?=some x:=⟨xs[i]'(by omega),by simp[show i<xs.length by omega]⟩;obtain⟨u,hu,ru⟩:=rv.get hx
  have au:a≠e:=λz=>by
   obtain⟨o,g,c,_⟩:=p.isList;rw[z] at g;have g':=r.symm.trans g;cases g';exact absurd (show Value.type "enumerate"=Value.type "list" from c) (by decide)
  have y:a≠m:=λz=>by
   obtain⟨o,g,c,_⟩:=p.isList;obtain⟨o',g',c',_⟩:=hs;rw[z] at g;rw[g] at g';cases g';rw[c] at c';exact absurd c' (by decide)
  refine wpAny_pyNext_enum_itemD (Draws.list (show X.A.in1.handled=none from I.ok.hd hc) m a y l.toArray) r ⟨hs,p.isList⟩ (by rw[Bn,t];exact hi) ac (by simp[ac,Ne.symm au]) λv h' tk hv aq ar ht _ kk=>⟨_,rfl,?_⟩
  obtain rfl:v=u:=by
   have:l[i]?=some v:=by simpa using hv
   rw[hu] at this;exact(Option.some.inj this).symm
  refine wpAny_letOwnedTupleGo_enum aq λh2 ak aa=>?_;have ai:h2.IsListIter m a (i+1):=ar.1.at λo q=>(aa.2 m (Ne.symm ac)).trans q;have ao:h2.get? s.heap.objs.size=some {cls:=.type "tuple",data:=.seq #[.int i tk,v]}:=(aa.2 _ (GZ ad)).trans ht
  have new:CJ X.prog X.w (upd H s.heap.objs.size (.tup [.int (i:Int),x])) h2 s.heap.objs.size (.tup [.int (i:Int),x]) :=
   ⟨by rw[sizeLine_eq];show 2<=16777216;decide,[.int i tk,v],.cons ⟨_,rfl⟩ (.cons ru .nil),⟨_,ao,rfl,_,rfl⟩⟩
  have I1:=Nh (t':=tk+1) (h':=h2) I hf (λb o j q=>by
    have aj:b≠e:=λz=>j (by simp[z]);have am:b≠m:=λz=>j (by simp[z])
    exact(aa.2 b aj).trans (kk b o aj am q)) (Ag _) (λz=>by
    rcases AY.mp z with z|z
    .exact absurd z (GZ ad)
    .exact absurd (Dr.mp z) (GZ ae)) (λb j=>by
    rcases AY.mp j with rfl|j
    .exact⟨_,ak⟩
    .obtain rfl:=Dr.mp j;obtain⟨o,e1,_⟩:=ai
     exact⟨o,e1⟩) new
  refine⟨.ref s.heap.objs.size,_,I1,rfl,⟨s.heap.objs.size,I.hok.fresh (Ag _),rfl,λys hy=>by rw[I.list_inj hy hq];exact⟨x,hx,rfl⟩⟩,⟨⟨v,?_⟩,ai,hi⟩,λb j=>?_⟩
  .rw[show((i+1:Nat):Int)=(i:Int)+1 by omega];exact ak
  .rw[BX]
   .exact(hf b j).1
   .rcases AY.mp j with z|z
    .rw[z];exact Bm ad
    .rw[Dr.mp z];exact Bm ae
 done:=by
  rintro X hP hw hK hc i al s Y H E I hf st ⟨xs,hq,hl,hi⟩;subst hP hw hK;obtain⟨⟨f,r⟩,hs,aw⟩:=st;obtain⟨l,rv,p,hz⟩:=I.list hq;have t:l.length=n:=by rw[<-rv.length];exact hl
  obtain⟨f0,f1,f2,f3,f4,f5⟩:=hf m (by simp)
  have y:a≠m:=λz=>by
   obtain⟨o,g,c,_⟩:=p.isList;obtain⟨o',g',c',_⟩:=hs;rw[z] at g;rw[g] at g';cases g';rw[c] at c';exact absurd c' (by decide)
  obtain rfl:i=l.toArray.size:=by rw[Bn,t];omega
  exact wpAny_pyNext_enum_endD (Draws.list (show X.A.in1.handled=none from I.ok.hd hc) m a y l.toArray) r ⟨hs,p.isList⟩ λh' eb=>⟨rfl,I.turned (t':=s.toks) (λb o j q=>eb b o j q) f0 f1 f3 f4 f5⟩
 self:=λA i s Q E st h=>by
  obtain⟨⟨f,r⟩,_⟩:=st;exact wpAny_pyIter_enum r h
abbrev OM(f:AF):IF:=λZ L=>(f Z L).bind λx=>match x.1 with
 |[.ref k]=>(match x.2[k]? with|some (.lst xs)=>some (⟨FV xs,λL'=>decide (L'[k]?=some (.lst xs))⟩,x.2)|_=>none)
 |_=>none
def ZK(xs:List D)(i:Nat):(FV xs)[i]?=(xs[i]?).map λd=>.tup [.int (i:Int),d]:=by unfold FV;rw[As,List.getElem?_zipIdx];cases xs[i]? <;> simp
section
variable {X:Cx}{elts:AOw}{x1:Nat}{tp p pos:Pos}{a:Expr}{fa:AF}
def AKe(hm:X.mg "enumerate"=none)(ha:Ec X [a] fa)(hg:Gl X "enumerate":=by rfl)(hs:starEach [a] X.env=[(false,eval a X.env)]:=by rfl):EM X (.Tuple elts x1 tp) (.Call (.Name "enumerate" p) [a] [] pos) (OM fa):=by
 rintro f s Y H R I ⟨O,Z,L,J,L',r,e,k⟩;refine bI e λq e1 e=>?_;obtain⟨ds,L1⟩:=q;simp only[AX] at e;split at e
 .rename_i n;split at e
  .rename_i xs e2;cases e;refine Call_ (Hh I hg hm (u:=.type "enumerate") (by decide +kernel) (PyProof.Rows.callWith_type1 (Ai (ha pos f s Y H (λvs j=>∃a g,vs=[.ref a]/\An H O j g/\Aq X.K j g L'/\g[n]?=some a) I ⟨O,Z,L,_,_,r,e1,λvs j g st rs is=>?_⟩) λus w ⟨vs,j,l,r1,b,g,ev,st,rs,hn⟩=>?_) hs rfl))
   .cases is with
    |cons i1 i2=>cases i2;cases i1 with|ref h=>exact⟨_,g,rfl,st,rs,h⟩
   .subst ev;obtain⟨u,rfl,ru⟩:=Ds r1;cases ru;obtain⟨ws,hw,il⟩:=rs.ob n _ _ hn e2;obtain⟨ae,rv,pl,hz⟩:=l.list (BJ.of hw);refine call_enumerate_list pl.isList λh' he ac ad kk=>?_;refine wpAny_pyIter_enum he ?_;have I2:AI X f Y j {w with heap:=h'}:=l.kept (t':=w.toks) kk;refine⟨w.heap.objs.size+1,[w.heap.objs.size+1,w.heap.objs.size],_,_,j,rfl,I2,AB9 b _ _ xs.length (Nat.succ_ne_self _),⟨⟨_,he⟩,ac,Ef _⟩,λb hb=>?_,k _ j g st rs λi H2 O2 L2 aa z ok=>?_⟩
    .rcases AY.mp hb with rfl|hb
     .exact l.fpOk (ANN _) (l.hok.fresh (ANN _))
     .obtain rfl:=Dr.mp hb;exact l.fpOk (Ag _) (l.hok.fresh (Ag _))
    .obtain⟨ws',hw',il'⟩:=z.ob n _ _ (CP aa.2 hn) (of_decide_eq_true ok);refine⟨λd m=>?_,λh=>⟨ws',BJ.of hw',il'.length,by simpa[FV] using h⟩⟩;simp only at m;rw[ZK] at m
     cases ec:xs[i]? with
     |none=>rw[ec] at m;cases m
     |some c =>
      rw[ec] at m;cases m;refine⟨⟨ws',BJ.of hw',il'.length,(Ax.mp ec).1⟩,λx H' ⟨T,hT,ex,y⟩=>?_⟩;obtain⟨v,hv,eH⟩:=y ws' (BJ.of hw');subst ex eH;obtain⟨v',t,iv⟩:=il'.get ec;rw[hv] at t;obtain rfl:=Option.some.inj t;have o:An H2 O2 (upd H2 T (.tup [.int (i:Int),v])) O2:=⟨.new hT,AV _⟩;exact⟨o,z.ext λa u e=>by rw[BX (Df e hT)];exact e,.tup (Be.of CT) (.cons (.int _) (.cons (iv.mono o) .nil))⟩
  .cases e
 .cases e
end
def Vn:∀{vs:List V} {us:AOu},vs.length=us.length->(∀(i:Nat) (v:V),vs[i]?=some v->∃u,us[i]?=some u/\Af v u)->Ae vs us
 |[],[],_,_=>.nil
 |[],_::_,h,_=>by simp at h
 |_::_,[],h,_=>by simp at h
 |v::vs,u::us,h,f=>by
  refine .cons ?_ (Vn (by simpa using h) λi w hw=>by simpa using f (i+1) w (by simpa using hw));obtain⟨a,e,r⟩:=f 0 v rfl;cases e;exact r
section
variable {X:Cx}
def AFr{prog:Program}{w:World}{d:Addr}(f:(d == sysModules)=false):MeetsIn prog w (Builtin.«dict.__len__» ⟨[.ref d],[]⟩) (λ_ R s=>∃c e,JB s.heap d c e/\R (.ok (.ret (.int c.size s.toks))) {s with toks:=s.toks+1}) :=
 .of_wp λA R s a=>by
  obtain⟨c,e,⟨o,g,b⟩,k⟩:=a;refine AH (m:=dictSize d) (AH (AOo g b (AO (AH (m:=Builtin.Dict.pendingCount d) (wpAny_pendingCount_other f (wpAny_ret_mkInt ?_))))));exact k
abbrev Lf:GL:=λxs L=>match xs with
 |[.ref k]=>(match L[k]? with|some (.dt kvs _)=>some (.int (kvs.length:Int),L)|_=>none)
 |_=>none
def AMj:Ee X (.builtin "len") Lf:=λj s Y H vs us Q I l f=>by
 obtain⟨O,L,z,d,L',h,is,e,k⟩:=f;unfold Lf at e;split at e
 .rename_i n;split at e
  .rename_i kvs ep e1;cases e
   cases is with|cons x v=>cases v;cases x with|ref r =>
    obtain⟨u,rfl,y⟩:=Ds l;cases y;obtain⟨b,i,o,_,_⟩:=h.ob n _ _ r e1;obtain⟨c,⟨ty,_⟩,a,t,sz,_⟩:=IN I i;have q:b.length<=sizeLine:=(show CJ X.prog X.w H s.heap _ (.dN b ep) from I.hok _ _ i).1;have p:b.length=kvs.length:=by simpa using congrArg List.length o
    have g:a.size=kvs.length:=sz.trans p;rw[sizeLine_eq] at q;refine Calls.call_function_entry kind_len plain_len entry_len (args_len1 _) ?_
    refine AH (m:=oneArg "len" _) (AO (AH (m:=callSpecial? (.ref _) (Str.ofString "__len__")) (AOk (name:=Str.ofString "__len__") ty PySem.F.slot_dict_len
     (call_meetsIn PySem.F.slot_dict_len ty PySem.F.entry_dict_len (PySem.F.args_dict_len_1 _) (AFr c) ⟨a,ep,t,?_⟩))))
    refine AH (DW (AO (AH (wpAny_letGo ?_))))
    show wpAny _ _ (if ((a.size:Nat):Int)<0 then _ else if ((a.size:Nat):Int) ≥ 2 ^ 63 then _ else _) _ _ _
    rw[if_neg (by omega),if_neg (by omega)];refine AH (wpAny_mkInt (AO ⟨_,rfl,?_⟩));exact⟨.int a.size,H,(I.tok _).tok _,⟨_,rfl⟩,by rw[g];exact k _ _ _ (.refl _ _) h (.int _)⟩
  .cases e
 .cases e
def ABt{prog:Program}{w:World}{A:Around}(r:A.handled=none)(t d:Addr)(p:d≠t)(es:Array DictEntry)(ep:Nat) :
  Walks prog w A t [t,d] [t] es.size (λi v=>∃e,es[i]?=some e/\v=e.key) (λi h=>h.IsKeyIter t d i es.size ep/\JB h d es ep) where
 sub:=λb f=>by simp at f;simp[f]
 frame:=λ_ _ _ m k=>by obtain⟨a,o,g,c⟩:=m;exact⟨a.at λo q=>k t (by simp) o q,o,k d (by simp) o g,c⟩
 item:=λi s Q E hi ⟨a,o,g,c⟩ k=>by
  refine OK r a ⟨o,g,c⟩ (λe j l y u=>?_) λz=>by rw[Array.getElem?_eq_none_iff] at z;omega
  exact k e.key l s.toks ⟨e,j,rfl⟩ ⟨y,o,(u.2 d p).trans g,c⟩ λb q f n=>(u.2 b (by simpa using f)).trans n
 done:=λs Q E ⟨a,en⟩ k=>by
  refine OK r a en (λe j=>by rw[AOX (Ag _)] at j;cases j) λ_ l x=>?_;exact k l s.toks λb q f n=>x b q (by simpa using f) n
 self:=λ_ _ _ _ st h=>wpAny_pyIter_keyiter st.1 h
abbrev AI5(h:Heap)(d:Addr)(es:Array DictEntry)(ep:Nat):Prop:=∃o,h.get? d=some o/\o.cls=.type "dict"/\o.data=.dict es ep
def ACp{prog:Program}{w:World}{d:Addr}{es:Array DictEntry}{ep:Nat}(l:(d == sysModules)=false):PySem.W.KdlSrc prog w "dict" d d es.size (λi v=>∃e,es[i]?=some e/\v=e.key) (λh=>AI5 h d es ep) where
 type:=λ_ a=>by obtain⟨o,g,c,_⟩:=a;exact⟨o,g,c⟩
 there:=λ_ a=>by obtain⟨o,g,_⟩:=a;exact⟨Heap.lt_size g,Heap.lt_size g⟩
 keep:=λ_ _ j k=>by obtain⟨o,g,r⟩:=j;exact⟨o,k d (.inl rfl) o g,r⟩
 notList:=by decide
 notTuple:=by decide
 hint:=λ_ _ _ _ f q=>by obtain⟨o,g,c,_⟩:=f;exact PySem.W.kdl_hint_dict ⟨o,g,c⟩ q
 iter:=λA s m ⟨o,g,c,b⟩=>⟨_,_,λE Q q=>Xz l ⟨o,g,c⟩ ⟨o,g,b⟩ q,ABt m _ d (Bm (Heap.lt_size g)) es ep,⟨_,Heap.get?_push_size _ rfl,rfl,rfl⟩,o,Heap.get?_push_of_some _ g,b⟩
abbrev Ld:GL:=λxs L=>match xs with
 |[.ref k]=>(match L[k]? with|some (.dt kvs _)=>some (.ref L.length,L++[.lst (GD kvs)])|_=>none)
 |_=>none
def AMh(hc:X.calm=true):Ee X (.type "list") Ld:=λt s Y H vs us Q I rv aa=>by
 obtain⟨O,L,xs,d,L',rs,is,e,k⟩:=aa;unfold Ld at e;split at e
 .rename_i n;split at e
  .rename_i kvs ep e1;cases e
   cases is with|cons i1 i2=>cases i2;cases i1 with|@ref _ a hn =>
    obtain⟨u,rfl,ru⟩:=Ds rv;cases ru;obtain⟨h,ha,ek,il,ik⟩:=rs.ob n _ _ hn e1;obtain⟨ac,⟨⟨o,g,c⟩,_⟩,es,⟨o',g',y⟩,sz,ad⟩:=IN I ha;rw[g] at g';obtain rfl:=Option.some.inj g';have hz:h.length<=sizeLine:=(show CJ X.prog X.w H s.heap _ (.dN h ep) from I.hok _ _ ha).1;have hl:h.length=kvs.length:=by simpa using congrArg List.length ek
    refine PySem.W.kdl_call (ACp (ep:=ep) ac) (I.ok.hd hc) ⟨o,g,c,y⟩ (by rw[sz];exact hz) λh' tk f c' kk hD b=>?_
    -- the list of the keys
    have j:Ae (h.map λw=>V.ref w.2.1) f.toList:=by
     refine Vn (by have h9:=b.1;rw[sz] at h9;simp[h9]) λi v j=>?_;rw[As] at j
     cases x:h[i]? with
     |none=>rw[x] at j;cases j
     |some q =>
      rw[x] at j;cases j;obtain⟨en,h1,h2,_⟩:=ad i q x;have hi:i<f.size:=by rw[b.1,sz];exact(Ax.mp x).1
      obtain⟨ae,h3,h4⟩:=b.2 i f[i] (by simp[hi]);rw[h1] at h3;cases h3;exact⟨f[i],by simp[hi],by rw[h4];exact h2⟩
    have hf:H s.heap.objs.size=none:=I.hok.fresh (Ag _)
    have I1:AI X t Y (upd H s.heap.objs.size (.lst (h.map λw=>V.ref w.2.1))) {s with heap:=h',toks:=tk} :=
     I.laid (t':=tk) kk (Ag _) ⟨by rw[AZ];exact hz,f.toList,c',j,by simpa using hD⟩
    have st:An H O (upd H s.heap.objs.size (.lst (h.map λw=>V.ref w.2.1))) (O++[s.heap.objs.size]):=⟨.new hf,Ac _ _⟩
    have z:AT X.K H O (h.map λw=>V.ref w.2.1) (GD kvs):=by
     have go:∀{l:List (NK×Addr×V)} {m:List (NK×D)},l.map (·.1)=m.map (·.1)->(∀u∈l,Is X.K H O (.ref u.2.1) (EG u.1))->AT X.K H O (l.map λw=>V.ref w.2.1) (GD m):=by
      intro l
      induction l with
      |nil=>intro m r _;cases m with|nil=>exact .nil|cons=>simp at r
      |cons q l ih =>
       intro m r hm
       cases m with
       |nil=>simp at r
       |cons p m =>
        simp only[Al,List.cons.injEq] at r;refine .cons ?_ (ih r.2 λu hu=>hm u (BD _ hu));show Is X.K H O (.ref q.2.1) (EG p.1);rw[<-r.1];exact hm q BC
     exact go ek ik
    exact⟨.ref s.heap.objs.size,_,I1,rfl,k _ _ _ st (rs.new hf ⟨_,CT,z.mono st⟩) (.ref (by rw[<-rs.len];simp))⟩
  .cases e
 .cases e
end
abbrev Dt(b:Bool)(h:Heap)(l:Addr)(its:Array Value):Prop:=match b with|true=>h.IsTuple l its|false=>h.IsList l its
abbrev Ct(b:Bool)(h:Heap)(t l:Addr)(k:Nat):Prop:=match b with|true=>h.IsTupleIter t l k|false=>h.IsListIter t l k
section
variable {prog:Program}{w:World}{A:Around}{E:AO0}{s:Shared}{b:Bool}{h h':Heap}{t l:Addr}{k:Nat}{its:Array Value}
def Dt.ext(x:Dt b h l its)(e:∀o,h.get? l=some o->h'.get? l=some o):Dt b h' l its:=by
 cases b with
 |true=>obtain⟨o,g,r⟩:=x;exact⟨o,e o g,r⟩
 |false=>obtain⟨o,g,r⟩:=x;exact⟨o,e o g,r⟩
def Ct.ext(x:Ct b h t l k)(e:∀o,h.get? t=some o->h'.get? t=some o):Ct b h' t l k:=by
 cases b with
 |true=>obtain⟨o,g,r⟩:=x;exact⟨o,e o g,r⟩
 |false=>obtain⟨o,g,r⟩:=x;exact⟨o,e o g,r⟩
def Ct.obj(x:Ct b h t l k):∃o,h.get? t=some o/\∀v,o.data≠.cell v:=by
 cases b with
 |true=>obtain⟨o,g,_,d⟩:=x;exact⟨o,g,λv z=>by rw[d] at z;cases z⟩
 |false=>obtain⟨o,g,_,d⟩:=x;exact⟨o,g,λv z=>by rw[d] at z;cases z⟩
def ADD{Q:AO0}(x:Dt b s.heap l its)(q:∀o,Ct b (s.heap.push o) s.heap.objs.size l 0->Q (.ref s.heap.objs.size) {s with heap:=s.heap.push o}):wpAny (model prog w) A (pyIter (.ref l)) Q E s:=by
 cases b with
 |true=>exact wpAny_pyIter_tuple x (q _ ⟨_,Heap.get?_push_size _ rfl,rfl,rfl⟩)
 |false=>exact AOi x (q _ ⟨_,Heap.get?_push_size _ rfl,rfl,rfl⟩)
def tup_next{Q:AO0}(u:A.handled=none)(i:s.heap.IsTupleIter t l k)(x:s.heap.IsTuple l its)(b:∀v,its[k]?=some v->∀h',h'.IsTupleIter t l (k+1)->Heap.SameBut t s.heap h'->Q v {s with heap:=h'})
  (a:its[k]?=none->∀h' e,Heap.ExtBut t s.heap h'->(∃o,h'.get? e=some o/\o.cls=.type "StopIteration")->E (.ref e) {s with heap:=h'}):wpAny (model prog w) A (Builtin.SmallTypes.nextOf (.ref t)) Q E s:=by
 obtain⟨ot,f,ct,d⟩:=id i;obtain⟨ol,r,_,n,dl⟩:=x
 have c:∀{R:AO0},(∀v,its[k]?=some v->∀h',h'.IsTupleIter t l (k+1)->Heap.SameBut t s.heap h'->R v {s with heap:=h'}) ->
   wpAny (model prog w) A.in1 (Builtin.«tuple_iterator.__next__» ⟨[.ref t],[]⟩) (λj h=>∃v,j=PySem.Fin.done (Flow.ret v)/\R v h) E s:=λ{R} one=>by
  refine AH (m:=field (.ref t) 0) (Et (x:=.ref l) f d rfl ?_)
  show wpAny _ _ (if (Value.ref l == Value.none)=true then _ else _) _ _ s
  rw[if_neg (λz=>by cases (show(false:Bool)=true from z))];refine AH (m:=field (.ref t) 1) (Et (x:=.int k 0) f d rfl (AH (m:=seqItems? (.ref l)) (AOf r dl ?_)));simp only[ANP]
  cases g:its[k]? with
  |none =>
   refine AH (AOe (AH (m:=setField (.ref t) 0 .none) (wpAny_setField f d (by simp) ?_)));exact Sf (A:=A.in1) (t:=t) (h0:=s.heap) (s:={s with heap:=s.heap.update t (Obj.mapFields (·.setIfInBounds 0 .none))}) u (Heap.SameBut.update ..).extBut λh' k x p=>a g h' x k p
  |some v =>
   refine AH (wpAny_setField f d (by simp) (AO ⟨v,rfl,one v g _ ?_ (Heap.SameBut.update ..)⟩));exact⟨_,Heap.get?_update_self _ f (Obj.isFreed_of_fields (Obj.data_mapFields d _)),(Obj.cls_mapFields ..).trans ct,by rw[Obj.data_mapFields d];simp[rawInt]⟩
 unfold Builtin.SmallTypes.nextOf;exact AH (AOk (name:=Str.ofString "__next__") i.typeIs AOd (GV AOd i.typeIs PySem.F.entry_tuple_iterator_next (c λv q h' i' y=>AO (b v q h' i' y)) (PySem.F.args_tuple_iterator_next_1 _)))
def ADC{v:Value}{Q:AO0}(c:A.handled=none)(i:Ct b s.heap t l k)(x:Dt b s.heap l its)(a:its[k]?=some v)(q:∀h',Ct b h' t l (k+1)->Heap.SameBut t s.heap h'->Q v {s with heap:=h'}):wpAny (model prog w) A (Builtin.SmallTypes.nextOf (.ref t)) Q E s:=by
 cases b with
 |true=>exact tup_next c i x (λg e h' f d=>by rw[a] at e;cases e;exact q h' f d) λe=>by rw[a] at e;cases e
 |false=>exact wpAny_nextOf_list_item i x a q
def ADF{Q:AO0}(c:A.handled=none)(i:Ct b s.heap t l k)(x:Dt b s.heap l its)(a:its[k]?=none)(q:∀h' e,Heap.ExtBut t s.heap h'->(∃o,h'.get? e=some o/\o.cls=.type "StopIteration")->E (.ref e) {s with heap:=h'}):wpAny (model prog w) A (Builtin.SmallTypes.nextOf (.ref t)) Q E s:=by
 cases b with
 |true=>exact tup_next c i x (λd e=>by rw[a] at e;cases e) λ_=>q
 |false=>exact wpAny_nextOf_list_end c i x a q
end
structure Src where
 b:Bool
 t:Addr
 l:Addr
noncomputable abbrev EK(h:Heap)(T:Addr)(vs:AOu):Prop:=h.get? T=some {cls:=.type "tuple",data:=.seq vs.toArray}
abbrev LI:AOu->Nat->AOu->AOu
 |kept,_,[]=>kept
 |kept,j,v::vs=>LI (kept.set j v) (j+1) vs
def Wr:∀(vs kept:AOu) (j:Nat),kept.length=j+vs.length->LI kept j vs=kept.take j++vs
 |[],kept,j,h=>by simp only[LI,ANg];rw[ANu (by simpa using ANG h)]
 |v::vs,kept,j,h=>by
  simp only[Dm] at h;rw[LI,Wr vs _ _ (by rw[ANj];omega)];rw[List.take_succ,ANe (by omega),List.take_set_of_le (Ag _)];simp
section
variable {prog:Program}{w:World}{A:Around}{E:AO0}{s:Shared}{z TI TO:Addr}{k:Nat}
abbrev AI4(M:Model)(A:Around)(E:AO0)(s:Shared)(z TI TO:Addr)(k:Nat){β:Type}(init:β)(f:Value×Nat->β->Sem (ForInStep β)):Prop :=
 ∀(r:Src) (j:Nat) (v:Value) (its:Array Value) (h1:Heap) (kept:AOu),Ct r.b h1 r.t r.l k->Dt r.b h1 r.l its->its[k]?=some v->IsZip h1 z TI TO .ellipsis->EK h1 TO kept->kept.length<=1000->r.t≠TO->r.t≠z ->
  ∀G:ForInStep β->Shared->Prop,(∀h2,Ct r.b h2 r.t r.l (k+1)->EK h2 TO (kept.set j v)->IsZip h2 z TI TO .ellipsis->h2.objs.size=h1.objs.size->(∀c o,c≠TO->c≠r.t->h1.get? c=some o->h2.get? c=some o)->G (.yield init) {s with heap:=h2}) ->
   wpAny M A (f (.ref r.t,j) init) G E {s with heap:=h1}
def AHi{M:Model}{β:Type}{n:β}{f:Value×Nat->β->Sem (ForInStep β)}(one:AI4 M A E s z TI TO k n f)(tz:TO≠z):∀(d:List Src) (vs:AOu) (j:Nat) (g:Heap) (kept:AOu),
  Paired (λ(r:Src) v=>Ct r.b g r.t r.l k/\∃a,Dt r.b g r.l a/\a[k]?=some v) d vs->(d.map (·.t)).Nodup->(∀r∈d,r.t≠TO/\r.t≠z/\r.l≠TO/\∀q∈d,r.l≠q.t)->IsZip g z TI TO .ellipsis->EK g TO kept->kept.length<=1000 ->
  ∀G:β->Shared->Prop,(∀i,(∀r∈d,Ct r.b i r.t r.l (k+1))->EK i TO (LI kept j vs)->IsZip i z TI TO .ellipsis->i.objs.size=g.objs.size->(∀c o,c≠TO->c∉d.map (·.t)->g.get? c=some o->i.get? c=some o)->G n {s with heap:=i}) ->
   wpAny M A (forIn ((d.map λr=>Value.ref r.t).zipIdx j) n f) G E {s with heap:=g}:=by
 intro d
 induction d with
 |nil =>
  intro vs j g kept p _ _ hz ht _ G q;cases p;exact AO (q g (λ_ h=>nomatch h) ht hz rfl λc o _ _ e=>e)
 |cons r d ih =>
  intro vs j g kept p nd ap hz ht hk G q
  cases p with
  |@cons _ v _ vs hr ps =>
  obtain⟨ir,a,xr,hv⟩:=hr;rw[Al,List.zipIdx_cons,ANq];obtain⟨a1,a2,a3,a4⟩:=ap r BC;rw[Al,Gy] at nd;refine AH (one r j v a g kept ir xr hv hz ht hk a1 a2 _ λi i2 t2 z2 s2 k2=>?_);have ne:∀r'∈d,r'.t≠r.t:=λr' w e=>nd.1 (by rw[<-e];exact Bw w)
  have ac:Paired (λ(r:Src) v=>Ct r.b i r.t r.l k/\∃a,Dt r.b i r.l a/\a[k]?=some v) d vs:=by
   have go:∀{l:List Src} {m:AOu},(∀x∈l,x∈d)->Paired (λ(r:Src) v=>Ct r.b g r.t r.l k/\∃a,Dt r.b g r.l a/\a[k]?=some v) l m->Paired (λ(r:Src) v=>Ct r.b i r.t r.l k/\∃a,Dt r.b i r.l a/\a[k]?=some v) l m:=by
    intro l m hl p
    induction p with
    |nil=>exact .nil
    |@cons x u l m hx _ ih =>
     obtain⟨i1,aa,x1,e1⟩:=hx;have hm:=hl x BC;obtain⟨c1,c2,c3,c4⟩:=ap x (BD _ hm);exact .cons ⟨i1.ext λo e=>k2 _ o c1 (ne x hm) e,aa,x1.ext λo e=>k2 _ o c3 (c4 r BC) e,e1⟩ (ih λy hy=>hl y (BD _ hy))
   exact go (λ_ h=>h) ps
  refine ih vs (j+1) i (kept.set j v) ac nd.2 (λr' w=>?_) z2 t2 (by rw[ANj];exact hk) G λh3 i3 t3 z3 s3 k3=>?_
  .obtain⟨c1,c2,c3,c4⟩:=ap r' (BD _ w);exact⟨c1,c2,c3,λq' hq=>c4 q' (BD _ hq)⟩
  .refine q h3 (λr' w=>?_) t3 z3 (s3.trans s2) λc o c1 c2 e=>?_
   .rcases AY.mp w with e|w
    .subst e;exact i2.ext λo e=>k3 _ o a1 nd.1 e
    .exact i3 r' w
   .simp only[Al,AY,not_or] at c2;exact k3 c o c1 c2.2 (k2 c o c1 c2.1 e)
def ABJ{d:List Src}{vs f:AOu}{R:AO0}(hh:A.handled=none)(hz:IsZip s.heap z TI TO .none)(hi:EK s.heap TI (d.map λr=>.ref r.t))(ht:EK s.heap TO f)(ho:f.length=vs.length)(hk:f.length<=1000)(ne:d≠[])
  (nd:(d.map (·.t)).Nodup) (tz:TO≠z) (iz:TI≠z) (ap:∀r∈d,r.t≠TO/\r.t≠z/\r.l≠TO/\r.l≠z/\∀q∈d,r.l≠q.t) (ac:Paired (λ(r:Src) v=>Ct r.b s.heap r.t r.l k/\∃a,Dt r.b s.heap r.l a/\a[k]?=some v) d vs)
  (q:∀h',IsZip h' z TI TO (rawInt s.heap.objs.size)->EK h' TO vs->(∀r∈d,Ct r.b h' r.t r.l (k+1))->EK h' s.heap.objs.size vs->(∀c o,c≠z->c≠TO->c∉d.map (·.t)->s.heap.get? c=some o->h'.get? c=some o)->R (.ref s.heap.objs.size) {s with heap:=h'}) :
  wpAny (model prog w) A (Builtin.«zip.__next__» ⟨[.ref z],[]⟩) (λfi s2=>∃v,fi=PySem.Fin.done (Flow.ret v)/\R v s2) E s:=by
 refine AH (m:=field (.ref z) 2) (Et (x:=.bool false) hz rfl rfl (AH (m:=field (.ref z) 3) (Et (x:=.ref TI) hz rfl rfl (AH (AOf hi rfl ?_)))));have ai:(d.map λr=>Value.ref r.t).toArray.isEmpty=false:=by cases d with|nil=>exact absurd rfl ne|cons=>rfl
 simp only[ai,ANX,if_false];refine AH (m:=Builtin.SmallTypes.ownedTupleIsFree (.ref z)) (AH (Et (x:=.none) hz rfl rfl (AO ?_)));rw[if_pos rfl];refine AH (AOe (AH (Et (x:=.ref TO) hz rfl rfl (AH (AOr hz (by simp) λh1 z1 b1=>?_)))));have aj:IsZip h1 z TI TO .ellipsis:=z1;refine AH ?_;refine AHi (M:=model prog w) (E:=E) (A:=A) (s:=s) (TI:=TI) (k:=k) ?one tz d vs 0 h1 f ?ps nd (λr hr=>?_) aj (b1.extBut _ _ tz ht) hk _ λh2 i2 t2 z2 s2 k2=>?_
 case one =>
  intro r j v a h3 kept ir xr hv z3 t3 ak r1 r2 G g;refine AH (wpAny_onRaise (AH (m:=Builtin.SmallTypes.nextOf (.ref r.t)) (ADC (s:={s with heap:=h3}) hh ir xr hv λi i4 b4=>AO ?_)));have t4:EK i TO kept:=b4.extBut _ _ (Ne.symm r1) t3;have z4:IsZip i z TI TO .ellipsis:=b4.extBut _ _ (Ne.symm r2) z3;refine AH (AOf t4 rfl (AH (wpAny_updateSeq t4 rfl (AH (wpAny_letGo (AO ?_))) (by rw[sizeLine_eq,Bn];omega) (by rw[sizeLine_eq,Array.size_setIfInBounds,Bn];omega))));have b5:Heap.SameBut TO i (i.update TO (Obj.mapSeq (·.setIfInBounds j v))):=.update ..;refine g _ (i4.ext λo e=>b5.extBut _ _ r1 e) ?_ (b5.extBut _ _ (Ne.symm tz) z4) (b5.1.trans b4.1) λc o c1 c2 e=>b5.extBut _ _ c1 (b4.extBut _ _ c2 e);show Heap.get? _ TO=_;rw[Heap.get?_update_self _ t4 rfl];simp[Obj.mapSeq]
 case ps =>
  have go:∀{l:List Src} {m:AOu},(∀x∈l,x∈d)->Paired (λ(r:Src) v=>Ct r.b s.heap r.t r.l k/\∃a,Dt r.b s.heap r.l a/\a[k]?=some v) l m->Paired (λ(r:Src) v=>Ct r.b h1 r.t r.l k/\∃a,Dt r.b h1 r.l a/\a[k]?=some v) l m:=by
   intro l m hl p
   induction p with
   |nil=>exact .nil
   |@cons x u l m hx _ ih =>
    obtain⟨i1,ag,x1,e1⟩:=hx;obtain⟨c1,c2,c3,c4,c5⟩:=ap x (hl x BC);exact .cons ⟨i1.ext λo e=>b1.extBut _ _ c2 e,ag,x1.ext λo e=>b1.extBut _ _ c4 e,e1⟩ (ih λy hy=>hl y (BD _ hy))
  exact go (λ_ h=>h) ac
 .obtain⟨c1,c2,c3,c4,c5⟩:=ap r hr;exact⟨c1,c2,c3,c5⟩
 .rw[Wr vs f 0 (by rw[ho];omega),List.take_zero,List.nil_append] at t2;refine AH (AOf t2 rfl (AH (wpAny_newTuple ?_)));have sz:h2.objs.size=s.heap.objs.size:=s2.trans b1.1;have ad:z<h2.objs.size:=Heap.lt_size z2;refine AH (m:=Builtin.SmallTypes.ownedTupleHandOut (.ref z) (.ref h2.objs.size)) (AH (AOr (Heap.get?_push_of_some _ z2) (by simp) λh3 z3 b3=>AOr z3 (by simp) λi z4 b4=>?_));have aa:∀c o,c≠z->h2.get? c=some o->i.get? c=some o:=λc o hc e=>b4.extBut _ _ hc (b3.extBut _ _ hc (Heap.get?_push_of_some _ e));refine AO ⟨_,rfl,?_⟩;have ae:IsZip i z TI TO (rawInt h2.objs.size):=z4;have n:EK i h2.objs.size vs:=b4.extBut _ _ (GZ ad) (b3.extBut _ _ (GZ ad) (by show Heap.get? _ _=_;exact Heap.get?_push_size _ rfl));rw[sz] at ae n;rw[sz];exact q i ae (aa _ _ tz t2) (λr hr=>(i2 r hr).ext λo e=>aa _ _ (ap r hr).2.1 e) n λc o c1 c2 c3 e=>aa c o c1 (k2 c o c2 c3 (b1.extBut _ _ c1 e))
def ABI{zs:List Src}{a:Src}{d:Array Value}{Q:PySem.Fin->Shared->Prop}(hh:A.handled=none)(hz:IsZip s.heap z TI TO .none)(hi:EK s.heap TI ((a::zs).map λr=>.ref r.t))(v:a.t≠z)(a2:a.l≠z)
  (ir:Ct a.b s.heap a.t a.l k) (xr:Dt a.b s.heap a.l d) (hv:d[k]?=none)
  (q:∀g e,(∀c o,c≠z->c≠a.t->s.heap.get? c=some o->g.get? c=some o)->(∃o,g.get? e=some o/\o.cls=.type "StopIteration")->E (.ref e) {s with heap:=g}) :
  wpAny (model prog w) A (Builtin.«zip.__next__» ⟨[.ref z],[]⟩) Q E s:=by
 refine AH (m:=field (.ref z) 2) (Et (x:=.bool false) hz rfl rfl (AH (m:=field (.ref z) 3) (Et (x:=.ref TI) hz rfl rfl (AH (AOf hi rfl ?_)))));have f:((a::zs).map λr=>Value.ref r.t).toArray.isEmpty=false:=rfl;simp only[f,ANX,if_false];refine AH (m:=Builtin.SmallTypes.ownedTupleIsFree (.ref z)) (AH (Et (x:=.none) hz rfl rfl (AO ?_)));rw[if_pos rfl];refine AH (AOe (AH (Et (x:=.ref TO) hz rfl rfl (AH (AOr hz (by simp) λp z1 i=>AH ?_)))));rw[Al,List.zipIdx_cons,ANq];have h:IsZip p z TI TO .ellipsis:=z1;refine AH (AH (wpAny_onRaise (AH (m:=Builtin.SmallTypes.nextOf (.ref a.t)) (ADF (s:={s with heap:=p}) hh (ir.ext λo e=>i.extBut _ _ v e) (xr.ext λo e=>i.extBut _ _ a2 e) hv λh2 e k2 n=>?_))));obtain⟨oe,j,ce⟩:=n;have z2:IsZip h2 z TI TO .ellipsis:=k2 _ _ (Ne.symm v) h;have ez:e≠z:=λx=>by subst x;rw[z2] at j;cases j;exact absurd (show Value.type "zip"=Value.type "StopIteration" from ce) (by decide)
 exact AOr z2 (by simp) λh3 _ y=>q h3 e (λc o u c2 x=>y.extBut _ _ u (k2 _ _ c2 (i.extBut _ _ u x))) ⟨oe,y.extBut _ _ ez j,ce⟩
end
abbrev Bt:Nat->List (Bool×Addr)->List Src
 |_,[]=>[]
 |n,p::r=>⟨p.1,n,p.2⟩::Bt (n+1) r
def Nl:∀(a:List (Bool×Addr)) (n:Nat),(Bt n a).length=a.length
 |[],_=>rfl
 |_::r,n=>by simp[Bt,Nl r]
def LB:∀(a:List (Bool×Addr)) (n:Nat),(Bt n a).map (λr=>(r.b,r.l))=a
 |[],_=>rfl
 |_::r,n=>by simp[Bt,LB r]
def LA:∀(c:List (Bool×Addr)) (n:Nat) (r:Src),r∈Bt n c->n<=r.t/\r.t<n+c.length
 |[],_,_,h=>nomatch h
 |p::q,n,r,h=>by
  rcases AY.mp h with e|h
  .subst e;simp
  .obtain⟨a,b⟩:=LA q (n+1) r h;exact⟨Nat.le_of_succ_le a,Nat.lt_of_lt_of_eq b (by rw[Dm,ANd,Nat.add_comm 1])⟩
def WV:∀(b:List (Bool×Addr)) (n:Nat),((Bt n b).map (·.t)).Nodup
 |[],_=>Gx
 |p::q,n=>by
  rw[Bt,Al,Gy];refine⟨λh=>?_,WV q (n+1)⟩;obtain⟨r,a,e⟩:=Ap.mp h;have:=(LA q (n+1) r a).1;rw[show r.t=n from e] at this;exact Nat.not_succ_le_self n this
section
variable {prog:Program}{w:World}{A:Around}{E:AO0}{s:Shared}
def YH:∀(f:List (Bool×Addr)) (d:Array Value) (s:Shared),(∀p∈f,∃a,Dt p.1 s.heap p.2 a)->∀G:Array Value->Shared->Prop,
  (∀h',(∀r∈Bt s.heap.objs.size f,Ct r.b h' r.t r.l 0)->h'.objs.size=s.heap.objs.size+f.length->(∀c o,s.heap.get? c=some o->h'.get? c=some o)->G (d++((Bt s.heap.objs.size f).map λr=>Value.ref r.t).toArray) {s with heap:=h'}) ->
  wpAny (model prog w) A (forIn (f.map λp=>Value.ref p.2) d λx a=>do let __do_lift <-holding a.toList (pyIter x);pure (ForInStep.yield (a.push __do_lift))) G E s
 |[],d,s,_,G,q=>AO (by simpa[Bt] using q s.heap (λ_ h=>nomatch h) rfl λ_ _ e=>e)
 |p::f,d,s,hs,G,q=>by
  obtain⟨a,x⟩:=hs p BC;rw[Al,ANq];refine AH (AH (DW (ADD x λo i=>AO ?_)));refine YH f (d.push (.ref s.heap.objs.size)) {s with heap:=s.heap.push o} (λu y=>?_) G λh' e z k=>?_
  .obtain⟨its',x'⟩:=hs u (BD _ y);exact⟨its',x'.ext λg e=>Heap.get?_push_of_some _ e⟩
  .have sz:(s.heap.push o).objs.size=s.heap.objs.size+1:=Heap.size_push ..;have n:Bt s.heap.objs.size (p::f)=⟨p.1,s.heap.objs.size,p.2⟩::Bt (s.heap.push o).objs.size f:=by rw[sz];rfl
   have:=q h' (λr j=>by
    rw[n] at j;rcases AY.mp j with v|j
    .subst v;exact i.ext λg m=>k _ g m
    .exact e r j) (by rw[z,Dm];show(s.heap.push o).objs.size+_=_;rw[sz];omega) λc g m=>k c g (Heap.get?_push_of_some _ m)
   rw[n] at this;simpa using this
def ABK(xs:AOu):Builtin.SmallTypes.newClass "zip" ⟨.type "zip"::xs,[]⟩=pure (.type "zip",xs):=by unfold Builtin.SmallTypes.newClass;simp only[sub_zip];rfl
def AFo(a:List (Bool×Addr))(y:a.length<=1000):MeetsIn prog w (Builtin.«zip.__new__» ⟨.type "zip"::a.map (λp=>.ref p.2),[]⟩) (λ_ R s=>(∀p∈a,∃g,Dt p.1 s.heap p.2 g) /\
  ∀h',(∀r∈Bt s.heap.objs.size a,Ct r.b h' r.t r.l 0)->EK h' (s.heap.objs.size+a.length) ((Bt s.heap.objs.size a).map λr=>.ref r.t)->EK h' (s.heap.objs.size+a.length+1) ((Bt s.heap.objs.size a).map λ_=>.none) ->
   IsZip h' (s.heap.objs.size+a.length+2) (s.heap.objs.size+a.length) (s.heap.objs.size+a.length+1) .none->(∀c o,s.heap.get? c=some o->h'.get? c=some o)->R (.ok (.ret (.ref (s.heap.objs.size+a.length+2)))) {s with heap:=h'}) :=
 .of_wp λA R s h=>by
  obtain⟨z,q⟩:=h;unfold Builtin.«zip.__new__»;rw[ABK];refine AH (AO ?_);refine AH (m:=Builtin.SmallTypes.iterAll (a.map λp=>.ref p.2)) ?_;unfold Builtin.SmallTypes.iterAll;refine AH (YH a #[] s z _ λd n f u=>AO ?_);have x:((#[]:Array Value)++((Bt s.heap.objs.size a).map λr=>Value.ref r.t).toArray).toList=(Bt s.heap.objs.size a).map λr=>Value.ref r.t:=by simp
  rw[x];have len:(Bt s.heap.objs.size a).length<=1000:=by rw[Nl];exact y
  have i:∀o,(d.push o).objs.size=s.heap.objs.size+a.length+1:=λo=>by rw[Heap.size_push,f]
  have j:∀o k,((d.push o).push k).objs.size=s.heap.objs.size+a.length+2:=λo k=>by rw[Heap.size_push,i]
  refine AH (wpAny_newTuple (s:={s with heap:=d}) ?_ (by rw[AZ,sizeLine_eq];omega));refine AH (wpAny_newTuple ?_ (by rw[AZ,AZ,sizeLine_eq];omega));refine AH ?_;show wpAny _ _ (newObj (.type "zip") (.fields #[.none,.bool false,.bool false,.ref _,.ref _])) _ _ _;refine AOl (AO ⟨_,rfl,?_⟩) (by show 5<=sizeLine+2;rw[sizeLine_eq];decide);show R (.ok (.ret (.ref ((d.push _).push _).objs.size))) _;rw[j];refine q _ (λr v=>(n r v).ext λo e=>Heap.get?_push_of_some _ (Heap.get?_push_of_some _ (Heap.get?_push_of_some _ e))) ?_ ?_ ?_ λc o e=>Heap.get?_push_of_some _ (Heap.get?_push_of_some _ (Heap.get?_push_of_some _ (u c o e)))
  .show Heap.get? _ _=_;rw[<-f];exact Heap.get?_push_of_some _ (Heap.get?_push_of_some _ (Heap.get?_push_size _ rfl))
  .show Heap.get? _ _=_;rw[<-i {cls:=.type "tuple",data:=.seq ((Bt s.heap.objs.size a).map λr=>Value.ref r.t).toArray}];refine Heap.get?_push_of_some _ ?_;rw[show((Bt s.heap.objs.size a).map λ_=>Value.none)=((Bt s.heap.objs.size a).map λr=>Value.ref r.t).map (λ_=>Value.none) by rw[Bx];rfl];exact Heap.get?_push_size _ rfl
  .rw[<-j {cls:=.type "tuple",data:=.seq ((Bt s.heap.objs.size a).map λr=>Value.ref r.t).toArray} {cls:=.type "tuple",data:=.seq (((Bt s.heap.objs.size a).map λr=>Value.ref r.t).map (λ_=>Value.none)).toArray}];have:=Heap.get?_push_size ((d.push {cls:=.type "tuple",data:=.seq ((Bt s.heap.objs.size a).map λr=>Value.ref r.t).toArray}).push {cls:=.type "tuple",data:=.seq (((Bt s.heap.objs.size a).map λr=>Value.ref r.t).map (λ_=>Value.none)).toArray}) (o:={cls:=.type "zip",data:=.fields #[.none,.bool false,.bool false,.ref d.objs.size,.ref (d.push {cls:=.type "tuple",data:=.seq ((Bt s.heap.objs.size a).map λr=>Value.ref r.t).toArray}).objs.size]}) rfl;refine Eq.trans this ?_;rw[i,f]
end
abbrev FX(K:AL)(b:Bool)(H:Hp)(a:Addr)(xs:List V):Prop:=match b with|true=>Be K H a xs|false=>BJ K H a xs
section
variable {X:Cx}{pins:List (Addr×Obj)}{Y:L2.St}{H:Hp}{s:Shared}
def FX.at(I:AI X pins Y H s){b:Bool}{a:Addr}{xs:List V}(h:FX X.K b H a xs):∃c:AOu,Ae xs c/\Dt b s.heap a c.toArray:=by
 cases b with
 |true=>obtain⟨c,d,p,_⟩:=I.tuple h;exact⟨c,d,p⟩
 |false=>obtain⟨c,d,p,_⟩:=I.list h;exact⟨c,d,p.isList⟩
def FX.inj(I:AI X pins Y H s){b:Bool}{a:Addr}{xs c:List V}(h:FX X.K b H a xs)(h':FX X.K b H a c):xs=c:=by
 cases b with
 |true=>exact I.tuple_inj h h'
 |false=>exact I.list_inj h h'
end
def AB2{X:Cx}{a:List (Addr×Obj)}{Y:L2.St}{H:Hp}{s:Shared}{h':Heap}{t':Nat}{fp:AOv}(I:AI X a Y H s)(f:∀b∈fp,Ed X a H b)(k:∀b o,b∉fp->s.heap.get? b=some o->h'.get? b=some o):AI X a Y H {s with heap:=h',toks:=t'}:=by
 have g:∀b u,H b=some u->b∉fp:=λb u e z=>by rw[(f b z).1] at e;cases e
 refine I.step (g':=s.gens) (d':=s.drawn) (ch:=fp) (λb h=>⟨(f b h).2.2.2.1,(f b h).2.1,(f b h).2.2.2.2.1,(f b h).2.2.2.2.2⟩) (λb o _ _ d e _=>k b o d e) (λb o _ _ d e _=>⟨o.slots,k b o d e⟩)
  (λb o _ e n=>n) (λb o d e=>⟨o,k b o d e⟩) (λb i e=>e) (λb o u e=>e)
  (λb ps e=>⟨#[],by rw[e];simp⟩) (λm j=>?_) (λb u e=>?_) I.bare
 .obtain⟨o,es,ep,ho,r⟩:=j;exact⟨o,es,ep,k _ o (λz=>(f _ z).2.1 rfl) ho,r⟩
 .refine(I.hok b u e).stay (λc v d q=>k c v ?_ q) (λc q=>q) λc i q=>q;rcases d with z|z
  .rw[z];exact g b u e
  .exact g c _ z
abbrev Itz(K:AL)(zs:List Src)(n:Nat):It :=
 ⟨λi H=>(∀r∈zs,∃xs,FX K r.b H r.l xs/\n<=xs.length/\(zs.head?=some r->xs.length=n))/\i<n,
  λi H v H'=>∃T vs,H T=none/\v=.ref T/\H'=upd H T (.tup vs)/\Paired (λ(r:Src) x=>∀xs,FX K r.b H r.l xs->xs[i]?=some x) zs vs,
  λi H=>(∀r∈zs,∃xs,FX K r.b H r.l xs/\n<=xs.length/\(zs.head?=some r->xs.length=n))/\n<=i⟩
structure AAN (z TI TO:Addr) (zs:List Src):Prop where
 ne:zs≠[]
 few:zs.length<=1000
 nd:(zs.map (·.t)).Nodup
 tz:TO≠z
 iz:TI≠z
 it:TI≠TO
 ts:∀r∈zs,r.t≠z/\r.t≠TI/\r.t≠TO
 ls:∀r∈zs,r.l≠z/\r.l≠TI/\r.l≠TO/\∀q∈zs,r.l≠q.t
def AB3{P:Program}{w:World}{K:AL}{ad:AOw}{x1:Nat}{tp:Pos}{z TI TO:Addr}{m:List Src}(n:Nat)(f:AAN z TI TO m) :
  HR P w K (.Tuple ad x1 tp) (Itz K m n) (z::TI::TO::m.map (·.t)) z (λi h=>IsZip h z TI TO .none/\EK h TI (m.map λr=>.ref r.t)/\(∃d,EK h TO d/\d.length=m.length)/\(∀r∈m,Ct r.b h r.t r.l i)/\i<=n) where
 mem:=by simp
 obj:=λi h ⟨p,hi,⟨d,ho,_⟩,hs,_⟩ b a=>by
  rcases AY.mp a with rfl|a
  .exact⟨_,p,λv q=>by cases q⟩
  .rcases AY.mp a with rfl|a
   .exact⟨_,hi,λv q=>by cases q⟩
   .rcases AY.mp a with rfl|a
    .exact⟨_,ho,λv q=>by cases q⟩
    .obtain⟨r,j,rfl⟩:=Ap.mp a;exact(hs r j).obj
 keep:=λi h h' ak k=>by obtain⟨p,hi,⟨d,ho,hl⟩,hs,hn⟩:=ak;exact⟨k z (by simp) _ p,k TI (by simp) _ hi,⟨d,k TO (by simp) _ ho,hl⟩,λr j=>(hs r j).ext λo e=>k r.t (by simp only[AY];exact .inr (.inr (.inr (Bw j)))) o e,hn⟩
 item:=by
  rintro X hP hw hK hc i ag s Y H E I hf ⟨p,hi,⟨d,ho,hl⟩,hs,_⟩ ⟨hq,ac⟩;subst hP hw hK
  -- the values
  have ae:∀l:List Src,(∀r∈l,r∈m)->∃us vs,Paired (λ(r:Src) v=>Ct r.b s.heap r.t r.l i/\∃aa,Dt r.b s.heap r.l aa/\aa[i]?=some v) l us/\Ae vs us/\Paired (λ(r:Src) x=>∀xs,FX X.K r.b H r.l xs->xs[i]?=some x) l vs:=by
   intro l
   induction l with
   |nil=>intro _;exact⟨[],[],.nil,.nil,.nil⟩
   |cons r l ih =>
    intro hl;obtain⟨us,vs,p1,p2,p3⟩:=ih λq hq=>hl q (BD _ hq);obtain⟨xs,sv,hn,_⟩:=hq r (hl r BC);obtain⟨aa,rv,so⟩:=sv.at I;obtain⟨x,hx⟩:∃x,xs[i]?=some x:=⟨xs[i]'(by omega),by simp[show i<xs.length by omega]⟩;obtain⟨u,hu,ru⟩:=rv.get hx;exact⟨u::us,x::vs,.cons ⟨hs r (hl r BC),aa.toArray,so,by simpa using hu⟩ p1,.cons ru p2,.cons (λys hy=>by rw[hy.inj I sv];exact hx) p3⟩
  obtain⟨us,vs,p1,p2,p3⟩:=ae m λ_ h=>h;have lu:us.length=m.length:=(Paired.length p1).symm;have lv:vs.length=m.length:=(Paired.length p3).symm;have zl:z<s.heap.objs.size:=Heap.lt_size p;have ty:s.TypeIs (.ref z) "zip":=⟨_,p,rfl⟩
  have a:∀b,b∈z::TI::TO::m.map (·.t)->b<s.heap.objs.size:=λb a=>by
   rcases AY.mp a with rfl|a
   .exact zl
   .rcases AY.mp a with rfl|a
    .exact Heap.lt_size hi
    .rcases AY.mp a with rfl|a
     .exact Heap.lt_size ho
     .obtain⟨r,j,rfl⟩:=Ap.mp a;obtain⟨o,e,_⟩:=(hs r j).obj;exact Heap.lt_size e
  unfold pyNext
  refine AH (wpAny_attempt (AOk (name:=Str.ofString "__next__") ty AOO (GV AOO ty PySem.F.entry_zip_next (ABJ (A:=X.A.in1) (R:=_) (show X.A.in1.handled=none from I.ok.hd hc) p hi ho (by rw[hl,lu]) (by rw[hl];exact f.few) f.ne f.nd f.tz f.iz
   (λr j=>⟨(f.ts r j).2.2,(f.ts r j).1,(f.ls r j).2.2.1,(f.ls r j).1,(f.ls r j).2.2.2⟩) p1 λh1 z1 t1 i1 u1 k1=>?_) (PySem.F.args_zip_next_1 _))))
  refine AO ⟨_,rfl,wpAny_letOwnedTupleGo_zip z1 λh2 z2 b2=>?_⟩;have nz:s.heap.objs.size≠z:=GZ zl;have aj:EK h2 s.heap.objs.size us:=b2.extBut _ _ nz u1
  have new:CJ X.prog X.w (upd H s.heap.objs.size (.tup vs)) h2 s.heap.objs.size (.tup vs) :=
   ⟨by rw[lv,sizeLine_eq];exact Cf f.few (by decide),us,p2,⟨_,aj,rfl,_,rfl⟩⟩
  have y:IsZip h2 z TI TO .none/\EK h2 TI (m.map λr=>.ref r.t)/\(∃d,EK h2 TO d/\d.length=m.length)/\(∀r∈m,Ct r.b h2 r.t r.l (i+1))/\i+1<=n:=by refine⟨z2,b2.extBut _ _ f.iz (k1 _ _ f.iz f.it (λhm=>?_) hi),⟨us,b2.extBut _ _ f.tz t1,lu⟩,λr j=>(i1 r j).ext λo e=>b2.extBut _ _ (f.ts r j).1 e,ac⟩;obtain⟨r,j,e⟩:=Ap.mp hm;exact(f.ts r j).2.1 e
  have I1:=Nh (t':=s.toks) (h':=h2) I hf (λb o a q=>by
    simp only[AY,not_or] at a
    exact b2.extBut _ _ a.1 (k1 b o a.1 a.2.2.1 a.2.2.2 q)) (Ag _) (λq=>absurd (a _ q) (ANF _)) (λb a=>by
    rcases AY.mp a with rfl|a
    .exact⟨_,y.1⟩
    .rcases AY.mp a with rfl|a
     .exact⟨_,y.2.1⟩
     .rcases AY.mp a with rfl|a
      .obtain⟨d,q,_⟩:=y.2.2.1;exact⟨_,q⟩
      .obtain⟨r,j,rfl⟩:=Ap.mp a;obtain⟨o,e,_⟩:=(y.2.2.2.1 r j).obj
       exact⟨o,e⟩) new
  exact⟨.ref s.heap.objs.size,_,I1,rfl,⟨s.heap.objs.size,vs,I.hok.fresh (Ag _),rfl,rfl,p3⟩,y,λb h'=>by rw[BX (Bm (a b h'))];exact(hf b h').1⟩
 done:=by
  rintro X hP hw hK hc i ag s Y H E I hf ⟨p,hi,⟨d,ho,hl⟩,hs,_⟩ ⟨hq,ac⟩;subst hP hw hK;have ty:s.TypeIs (.ref z) "zip":=⟨_,p,rfl⟩
  cases m with
  |nil=>exact absurd rfl f.ne
  |cons r0 m =>
   obtain⟨xs,sv,_,hn⟩:=hq r0 BC;have hn:=hn rfl;obtain⟨aa,rv,so⟩:=sv.at I;have m1:r0.t∈z::TI::TO::(r0::m).map (·.t):=by simp
   unfold pyNext
   refine AH (wpAny_attempt (AOk (name:=Str.ofString "__next__") ty AOO (GV AOO ty PySem.F.entry_zip_next (ABI (A:=X.A.in1) (show X.A.in1.handled=none from I.ok.hd hc) p hi (f.ts r0 BC).1 (f.ls r0 BC).1 (hs r0 BC) so
    (by rw[List.getElem?_toArray,AOY,<-rv.length];omega) λh' e k ⟨o,g,c⟩=>?_) (PySem.F.args_zip_next_1 _))))
   refine AH (wpAny_isInstance (T:="StopIteration") (b:=true) ⟨o,g,c⟩ isSubtype_stop (AO ⟨rfl,?_⟩))
   have I1:=AB2 (t':=s.toks) (h':=h') (fp:=[z,r0.t]) I (λb a=>hf b (by
    rcases AY.mp a with rfl|a
    .simp
    .rw[Dr.mp a];exact m1)) λb o a q=>k b o (λe=>a (by simp[e])) (λe=>a (by simp[e])) q
   exact I1
 self:=λA i s Q E ai h=>by obtain⟨p,_⟩:=ai;exact wpAny_pyIter_zip p h
abbrev seqs:List D->AB->Option (List (List D))
 |[],_=>some []
 |d::r,L=>(Cq d L).bind λys=>(seqs r L).map (ys::·)
abbrev ES(n:Nat)(yss:List (List D)):List D:=(List.range n).map λi=>.tup (yss.map λys=>ys[i]?.getD .non)
abbrev IH(n:Nat)(fa:AF):IF:=λZ L=>(fa Z L).bind λx=>match seqs x.1 x.2 with
 |some (ys::yss)=>if (yss.all λzs=>decide (ys.length<=zs.length))=true/\yss.length<100/\yss.length+1=n then some (⟨ES ys.length (ys::yss),λL'=>decide (seqs x.1 L'=some (ys::yss))⟩,x.2) else none
 |_=>none
abbrev kindD:D->Bool
 |.tup _=>true
 |_=>false
def Wg{K:AL}{H:Hp}{O:AOv}{L:AB}{v:V}{d:D}{xs:List D}(g:Aq K H O L)(h:Is K H O v d)(e:Cq d L=some xs):∃a b,v=.ref a/\FX K (kindD d) H a b/\AT K H O b xs:=by
 cases h with
 |tup c f=>cases e;exact⟨_,_,rfl,c,f⟩
 |fz c f=>cases e;exact⟨_,_,rfl,c.sql,f⟩
 |ref k =>
  simp only[Cq] at e;split at e
  .rename_i ys e2;cases e;obtain⟨b,i,j⟩:=g.ob _ _ _ k e2;exact⟨_,b,rfl,BJ.of i,j⟩
  .cases e
 |_=>cases e
inductive FW (K:AL) (H:Hp) (O:AOv):List D->List (List D)->List (Bool×Addr)->Prop
 |nil:FW K H O [] [] []
 |cons {d:D} {ys:List D} {a:Addr} {vs:List V} {ds yss ls}:Is K H O (.ref a) d->FX K (kindD d) H a vs->AT K H O vs ys->FW K H O ds yss ls->FW K H O (d::ds) (ys::yss) ((kindD d,a)::ls)
def ACo{K:AL}{H:Hp}{O:AOv}{L:AB}(g:Aq K H O L):∀{ds:List D} {b:List (List D)} {vs:List V},AT K H O vs ds->seqs ds L=some b->∃c,FW K H O ds b c/\vs=c.map λp=>.ref p.2:=by
 intro ds b vs h e
 induction ds generalizing b vs with
 |nil=>cases h;cases e;exact⟨[],.nil,rfl⟩
 |cons d ds n =>
  cases h with|cons i r =>
  unfold seqs at e;obtain⟨q,k,f⟩:=ANo.mp e;obtain⟨b,j,rfl⟩:=ANJ.mp f;obtain⟨c,l,rfl⟩:=n r j;obtain⟨a,vs,rfl,m,o⟩:=Wg g i k;exact⟨(kindD d,a)::c,.cons i m o l,rfl⟩
def FW.again{K:AL}{H j:Hp}{O f:AOv}{L':AB}(st:An H O j f)(l:Aq K j f L'){ds:List D}{c b:List (List D)}{g:List (Bool×Addr)}(h:FW K H O ds c g)(e:seqs ds L'=some b):FW K j f ds b g:=by
 induction h generalizing b with
 |nil=>cases e;exact .nil
 |@cons d x a v ds c g i _ _ _ s =>
  unfold seqs at e;obtain⟨w,n,k⟩:=ANo.mp e;obtain⟨q,m,rfl⟩:=ANJ.mp k;obtain⟨u,p,r,o,t⟩:=Wg l (i.mono st) n;cases r;exact .cons (i.mono st) o t (s m)
def FW.len{K:AL}{H:Hp}{O:AOv}{ds:List D}{a:List (List D)}{c:List (Bool×Addr)}(h:FW K H O ds a c):c.length=a.length/\ds.length=a.length:=by
 induction h with
 |nil=>exact⟨rfl,rfl⟩
 |cons _ _ _ _ b=>simp[b.1,b.2]
def FW.seq{K:AL}{H:Hp}{O:AOv}{ds:List D}{b:List (List D)}{j:List (Bool×Addr)}(h:FW K H O ds b j):∀p∈j,∃f g,g∈b/\FX K p.1 H p.2 f/\AT K H O f g:=by
 induction h with
 |nil=>intro p c;cases c
 |@cons d g a f ds b j i l k _ m =>
  intro p c;rcases AY.mp c with e|c
  .subst e;exact⟨f,g,BC,l,k⟩
  .obtain⟨vs',ys',h1,h2⟩:=m p c;exact⟨vs',ys',BD _ h1,h2⟩
def FW.tup{K:AL}{H:Hp}{O:AOv}{ds:List D}{g:List (List D)}{j:List (Bool×Addr)}(h:FW K H O ds g j){i n:Nat}(m:∀c∈g,n<=c.length)(hi:i<n):∀{f:List Src} {vs:List V},f.map (λr=>(r.b,r.l))=j ->
  Paired (λ(r:Src) x=>∀xs,FX K r.b H r.l xs->xs[i]?=some x) f vs->AT K H O vs (g.map λc=>c[i]?.getD .non):=by
 induction h with
 |nil=>intro f vs e p;cases f with|nil=>cases p;exact .nil|cons=>simp at e
 |@cons d c a y ds g j _ s1 q _ ih =>
  intro f vs e p
  cases f with
  |nil=>simp at e
  |cons r f =>
   simp only[Al,List.cons.injEq,Prod.mk.injEq] at e;obtain⟨⟨z,u⟩,s⟩:=e
   cases p with
   |@cons _ x _ vs hx p2 =>
    have hy:n<=c.length:=m c BC;have k:=hx y (by rw[z,u];exact s1);obtain⟨v,o,t⟩:=q.get (i:=i) (d:=c[i]'(by omega)) (by simp[show i<c.length by omega]);rw[k] at o;cases o;rw[Al,show c[i]?.getD .non=c[i]'(by omega) by simp[show i<c.length by omega]];exact .cons t (ih (λf w=>m f (BD _ w)) s p2)
def VO(n:Nat)(a:List (List D))(i:Nat):(ES n a)[i]?=if i<n then some (.tup (a.map λb=>b[i]?.getD .non)) else none:=by
 unfold ES;rw[As]
 by_cases h:i<n
 .rw[if_pos h,ANm h];rfl
 .rw[if_neg h,ANS (by simpa using h)];rfl
structure UB (n:Nat):Prop where
 ty:∀us:AOu,us.length=n->checkTypeCall "zip" ⟨us,[]⟩=pure ()
 new:∀us:AOu,us.length=n->checkBuiltinCall "zip.__new__" ⟨.type "zip"::us,[]⟩=pure ()
 init:∀(o:Value) (us:AOu),us.length=n->argsOk "object.__init__" ⟨o::us,[]⟩
def AJA:UB 2:=⟨λc h=>by obtain⟨a,b,rfl⟩:=JX h;exact PySem.F.typeCall_zip_2 a b,λc h=>by obtain⟨a,b,rfl⟩:=JX h;exact PySem.F.newCall_zip_2 a b,λo c h=>by obtain⟨a,b,rfl⟩:=JX h;exact PySem.F.args_object_init_3 o a b⟩
def AI9:UB 3:=⟨λd h=>by obtain⟨a,b,c,rfl⟩:=IC h;kernel_rfl,λd h=>by obtain⟨a,b,c,rfl⟩:=IC h;kernel_rfl,λo d h=>by
 obtain⟨a,b,c,rfl⟩:=IC h;unfold argsOk;rw[PySem.signature?_of (id:="object.__init__") (n:=['_','_','t','i','n','i','_','_']) (o:=['t','c','e','j','b','o']) (by kernel_rfl) PySem.F.owner_object]
 kernel_rfl⟩
section
variable {X:Cx}{elts:AOw}{x1:Nat}{tp p pos:Pos}{e:Expr}{es:AOw}{fa:AF}
def AKY{n:Nat}(zn:UB n)(hm:X.mg "zip"=none)(ha:Ec X (e::es) fa)(hg:Gl X "zip":=by rfl)(hs:Ej e=true:=by rfl)(aa:es.all Ej=true:=by rfl):EM X (.Tuple elts x1 tp) (.Call (.Name "zip" p) (e::es) [] pos) (IH n fa):=by
 rintro ad s Y H R I ⟨O,Z,L,J,L',r,y,k⟩;refine bI y λq e1 y=>?_;obtain⟨ds,L1⟩:=q;simp only[AX] at y;split at y
 .rename_i ys ai e2;split at y
  .rename_i hall;simp only[Option.some.injEq,Prod.mk.injEq] at y;obtain⟨hJ,hL⟩:=y;subst hL;refine Call_ (Hh I hg hm (u:=.type "zip") (by decide +kernel) (PyProof.Rows.callWith_type1 (Ai (ha pos ad s Y H (λvs H1=>∃O1 c,An H O H1 O1/\Aq X.K H1 O1 L1/\FW X.K H1 O1 ds (ys::ai) c/\vs=c.map λp=>.ref p.2) I ⟨O,Z,L,_,_,r,e1,λvs H1 O1 st rs is=>?_⟩) λus j ⟨vs,H1,I1,r1,O1,c,st,rs,sr,ev⟩=>?_) (Hd hs) (IZ aa)))
   .obtain⟨c,m,h2⟩:=ACo rs is e2;exact⟨O1,c,st,rs,m,h2⟩
   .obtain⟨hall,hfew,hn⟩:=hall
    have eu:us=c.map λp=>Value.ref p.2:=by
     subst ev
     have go:∀{c:List (Bool×Addr)} {us:AOu},Ae (c.map λp=>V.ref p.2) us->us=c.map λp=>Value.ref p.2:=by
      intro c
      induction c with
      |nil=>intro us h;cases h;rfl
      |cons p c ih=>intro us h;cases h with|cons m h2=>cases m;rw[ih h2];rfl
     exact go r1
    have ll:c.length=n:=by rw[sr.len.1,Dm];exact hn
    have ul:us.length=n:=by rw[eu,AZ,ll]
    have ac:∀zs∈ys::ai,ys.length<=zs.length:=λzs hz=>by
     rcases AY.mp hz with e|hz
     .rw[e];exact Ag _
     .exact of_decide_eq_true (CM.mp hall zs hz)
    subst eu;refine callType_newIn PySem.F.called_zip (by decide) (zn.ty _ ul) (zn.new _ ul) (λo=>zn.init o _ ul) PySem.F.entry_zip_new (AFo c (by omega)) ⟨λp hp=>?_,λh' si ti to iz kk=>?_⟩
    .obtain⟨v,aj,_,sv,_⟩:=sr.seq p hp;obtain⟨au,_,so⟩:=sv.at I1;exact⟨_,so⟩
    .refine⟨⟨_,iz,rfl⟩,wpAny_pyIter_zip iz ?_⟩;have I2:AI X ad Y H1 {j with heap:=h'}:=I1.kept (t':=j.toks) kk
     have lt:∀p∈c,p.2<j.heap.objs.size:=λp hp=>by
      obtain⟨v,aj,_,sv,_⟩:=sr.seq p hp;obtain⟨au,_,so⟩:=sv.at I1
      have:∃o,j.heap.get? p.2=some o:=by
       revert so
       cases p.1 with
       |true=>rintro⟨o,g,_⟩;exact⟨o,g⟩
       |false=>rintro⟨o,g,_⟩;exact⟨o,g⟩
      obtain⟨o,g⟩:=this;exact Heap.lt_size g
     have lr:∀r∈Bt j.heap.objs.size c,r.l<j.heap.objs.size:=λr hr=>by
      have:(r.b,r.l)∈c:=by rw[<-LB c j.heap.objs.size];exact Bw (f:=λr:Src=>(r.b,r.l)) hr
      exact lt _ this
     have ap:AAN (j.heap.objs.size+c.length+2) (j.heap.objs.size+c.length) (j.heap.objs.size+c.length+1) (Bt j.heap.objs.size c):=by
      refine⟨λh=>?_,by rw[Nl];omega,WV _ _,by simp,by simp,by simp,λr hr=>?_,λr hr=>?_⟩
      .have:=congrArg List.length h;rw[Nl,sr.len.1] at this;simp at this
      .have m:=(LA _ _ r hr).2;exact⟨Bm (DP m (ANY _ 2)),Bm m,Bm (DP m (ANY _ 1))⟩
      .have m:=lr r hr;refine⟨Bm (DP m (by rw[ANd];exact ANY _ _)),Bm (DP m (ANY _ _)),Bm (DP m (by rw[ANd];exact ANY _ _)),λq hq=>Bm (DP m (LA _ _ q hq).1)⟩
     have big:∀b∈(j.heap.objs.size+c.length+2)::(j.heap.objs.size+c.length)::(j.heap.objs.size+c.length+1)::(Bt j.heap.objs.size c).map (·.t),j.heap.objs.size<=b:=λb w=>by
      rcases AY.mp w with rfl|w
      .rw[ANd];exact ANY _ _
      .rcases AY.mp w with rfl|w
       .exact ANY _ _
       .rcases AY.mp w with rfl|w
        .rw[ANd];exact ANY _ _
        .obtain⟨r,hr,rfl⟩:=Ap.mp w;exact(LA _ _ r hr).1
     refine⟨_,_,_,_,H1,rfl,I2,AB3 ys.length ap,⟨iz,ti,⟨_,to,by rw[AZ]⟩,si,Ef _⟩,λb w=>I1.fpOk (big b w) (I1.hok.fresh (big b w)),k _ H1 O1 st rs λi H2 O2 L2 ar al ok=>?_⟩;rw[<-hJ] at ok ⊢;have ag:=sr.again ar al (of_decide_eq_true ok)
     have ae:∀r∈Bt j.heap.objs.size c,∃xs,FX X.K r.b H2 r.l xs/\ys.length<=xs.length/\((Bt j.heap.objs.size c).head?=some r->xs.length=ys.length):=λr hr=>by
      by_cases h0:(Bt j.heap.objs.size c).head?=some r
      .have m:=congrArg List.head? (LB c j.heap.objs.size);rw[List.head?_map,h0] at m
       cases ag with
       |@cons d ys a v ds ai c i ao am _ =>
        have m:(r.b,r.l)=(kindD d,a):=Option.some.inj m;rw[Prod.mk.injEq] at m;rw[m.1,m.2];exact⟨v,ao,ANG am.length.symm,λ_=>am.length⟩
      have hm:(r.b,r.l)∈c:=by rw[<-LB c j.heap.objs.size];exact Bw (f:=λr:Src=>(r.b,r.l)) hr
      obtain⟨v,aj,hy,sv,il⟩:=ag.seq _ hm;exact⟨v,sv,by rw[il.length];exact ac aj hy,λz=>absurd z h0⟩
     refine⟨λd hd=>?_,λh=>⟨ae,by simpa[ES] using h⟩⟩;simp only at hd;rw[VO] at hd;split at hd
     .rename_i hi;cases hd;refine⟨⟨ae,hi⟩,λx H' aq=>?_⟩;obtain⟨T,v,hT,ex,eH,p3⟩:=aq;subst ex eH;have ak:An H2 O2 (upd H2 T (.tup v)) O2:=⟨.new hT,AV _⟩;exact⟨ak,al.ext λb u q=>by rw[BX (Df q hT)];exact q,.tup (Be.of CT) ((ag.tup ac hi (LB _ _) p3).mono ak)⟩
     .cases hd
  .cases y
 .cases y
end
section
variable {X:Cx}
abbrev OY:GM:=λx xs L=>match x,xs with
 |.str a,[.str b]=>some (.bl (Txt.startswith a b),L)
 |_,_=>none
def AK3:MtD X "str.startswith" OY:=λg s Y H x r v y Q I l n c=>by
 obtain⟨O,L,w,o,d,z,q,p,f,e,k⟩:=c;unfold OY at e;split at e
 .rename_i a b;cases e;cases p
  cases f with|cons m i =>
   cases i;cases m;obtain⟨t,rfl⟩:=(show ∃t,v=Value.str a t from l);obtain⟨u,rfl,j⟩:=Ds n;obtain⟨h,rfl⟩:=(show ∃h,u=Value.str b h from j);exact SC.startswith ⟨.bl (Txt.startswith a b),H,I,rfl,k _ _ _ (.refl _ _) q (.bl _)⟩
 .cases e
def AMt:bootBuiltins "sorted"=some (.builtin "sorted"):=PyProof.Rows.boot_sorted
end
open PySem.W (KasT kas_sort kas_ask kas_rev kas_asc kas_desc kas_tail3 kas_descPart kas_count kas_place kas_bin)
abbrev kEval{U:Type}(c:Nat->Nat->Bool):KasT U->U
 |.ret a=>a
 |.ask i j k=>kEval c (k (c i j))
abbrev Cm{U:Type}(n:Nat)(R:U->Prop):KasT U->Prop
 |.ret a=>R a
 |.ask i j k=>i<n/\j<n/\∀b,Cm n R (k b)
def Cm.eval{U:Type}{n:Nat}{R:U->Prop}(c:Nat->Nat->Bool):∀{t:KasT U},Cm n R t->R (kEval c t)
 |.ret _,h=>h
 |.ask i j k,h=>Cm.eval c (t:=k (c i j)) (h.2.2 (c i j))
def Cm.bind{U β:Type}{n:Nat}{R:U->Prop}{S:β->Prop}{f:U->KasT β}:∀{t:KasT U},Cm n R t->(∀a,R a->Cm n S (f a))->Cm n S (t.bind f)
 |.ret a,h,g=>g a h
 |.ask i j k,h,g=>⟨h.1,h.2.1,λb=>Cm.bind (t:=k b) (h.2.2 b) g⟩
def Cm.wp{U:Type}{n:Nat}{R:U->Prop}{a:Nat->Nat->(Bool->Shared->Prop)->Shared->Prop}{c:Nat->Nat->Bool}{Q:U->Shared->Prop}{s:Shared}
  (b:∀i j C,i<n->j<n->C (c i j) s->a i j C s):∀{t:KasT U},Cm n R t->Q (kEval c t) s->t.kasWp a Q s
 |.ret _,_,q=>q
 |.ask i j k,h,q=>b i j _ h.1 h.2.1 (Cm.wp b (t:=k (c i j)) (h.2.2 (c i j)) q)
abbrev Pm(n:Nat)(p:Array Nat):Prop:=p.toList.Perm (List.range n)
section
variable {n:Nat}{p:Array Nat}
def Pm.lt(h:Pm n p)(h0:0<n)(k:Nat):p.getD k 0<n:=by
 by_cases a:k<p.size
 .have e:p.getD k 0=p[k]:=by simp[Array.getD,a]
  rw[e];exact CK.mp (h.mem_iff.mp (by simp))
 .simp[Array.getD,a];exact h0
def Pm.rev(h:Pm n p)(i j:Nat):Pm n (kas_rev p i j):=(Array.perm_iff_toList_perm.mp (mirror_perm p i j ((j-i) / 2))).trans h
def Pm.bub(h:Pm n p)(i j:Nat):Pm n (bubble p i j):=(Array.perm_iff_toList_perm.mp (bubble_perm p i j)).trans h
def Tt(h:Pm n p)(h0:0<n):∀f m,Cm n (λ_=>True) (kas_asc p f m)
 |0,_=>trivial
 |f+1,m=>⟨h.lt h0 _,h.lt h0 _,λb=>by
  cases b
  .exact Tt h h0 f (m+1)
  .trivial⟩
def Oi(h0:0<n):∀f (p:Array Nat) m q,Pm n p->Cm n (λr=>Pm n r.1) (kas_desc f p m q)
 |0,_,_,_,h=>h
 |f+1,p,m,q,h=>⟨h.lt h0 _,h.lt h0 _,λb=>by
  cases b
  .refine⟨h.lt h0 _,h.lt h0 _,λd=>?_⟩;cases d
   .exact Oi h0 f p (m+1) (q+1) h
   .exact h
  .show Cm n _ (if q>0 then _ else _)
   by_cases a:q>0
   .rw[if_pos a];exact Oi h0 f _ (m+1) 0 (h.rev _ _)
   .rw[if_neg a];exact Oi h0 f p (m+1) 0 h⟩
def Vx(h:Pm n p)(h0:0<n)(a b:Nat):Cm n (λr=>Pm n r.2) (kas_tail3 a b p) :=
 Cm.bind (Tt (h.rev 0 a) h0 _ _) λ_ _=>h.rev 0 a
def XG(h:Pm n p)(h0:0<n)(a b:Nat):Cm n (λr=>Pm n r.2) (kas_descPart a b p) :=
 Cm.bind (Oi h0 _ p _ _ h) λr c=>by
  by_cases d:r.2.2>0
  .rw[if_pos d];exact Vx (c.rev _ _) h0 _ _
  .rw[if_neg d];exact Vx c h0 _ _
def AHv(h:Pm n p)(h0:0<n)(b:Nat):Cm n (λr=>Pm n r.2) (kas_count b p) :=
 Cm.bind (Tt h h0 _ _) λr _=>by
  by_cases d:(r == b)=true
  .rw[if_pos d];exact h
  .rw[if_neg d]
   by_cases a:r>1
   .rw[if_pos a];refine⟨h.lt h0 _,h.lt h0 _,λc=>?_⟩;cases c
    .exact XG (h.rev _ _) h0 _ _
    .exact h
   .rw[if_neg a];exact XG h h0 _ _
def SV(h:Pm n p)(h0:0<n)(k:Nat):∀f l r,Cm n (λ_=>True) (kas_place p k f l r)
 |0,_,_=>trivial
 |f+1,l,r=>by
  unfold kas_place
  by_cases a:l ≥ r
  .rw[if_pos a];trivial
  .rw[if_neg a];refine⟨h.lt h0 _,h.lt h0 _,λc=>?_⟩;cases c
   .exact SV h h0 k f _ _
   .exact SV h h0 k f _ _
def Zq(h0:0<n):∀f (p:Array Nat) k,Pm n p->Cm n (Pm n) (kas_bin f p k)
 |0,_,_,h=>h
 |f+1,p,k,h=>Cm.bind (SV h h0 k _ _ _) λl _=>Zq h0 f _ (k+1) (h.bub _ _)
def Wb(h0:0<n):Cm n (Pm n) (kas_sort n) :=
 Cm.bind (AHv (p:=(List.range n).toArray) (List.Perm.refl _) h0 n) λr a=>by
  by_cases b:r.1<n
  .rw[if_pos b];exact Zq h0 _ _ _ a
  .rw[if_neg b];exact a
end
abbrev Nk(a b:Str):Bool:=decide (a.cps.toList<b.cps.toList)
abbrev Ng:D->Str
 |.str a=>a
 |_=>""
abbrev LS:D->List D
 |.tup xs=>xs
 |_=>[]
abbrev Nu(d:D):Str×Str:=(Ng ((LS d).headD .non),Ng ((LS d).tail.headD .non))
abbrev ltS(p q:Str×Str):Bool:=if p.1=q.1 then (if p.2=q.2 then false else Nk p.2 q.2) else Nk p.1 q.1
abbrev ltP(x y:D):Bool:=ltS (Nu x) (Nu y)
abbrev isPr(d:D):Bool:=decide (d=.tup [.str (Nu d).1,.str (Nu d).2])
def AED{x:D}(h:isPr x=true):∃a b,x=.tup [.str a,.str b]:=⟨_,_,of_decide_eq_true h⟩
abbrev Cw(ds:List D):AOy:=if ds.length<2 then List.range ds.length else (kEval (λi j=>ltP (ds.getD i .non) (ds.getD j .non)) (kas_sort ds.length)).toList
abbrev sortP(ds:List D):List D:=(Cw ds).map λi=>ds.getD i .non
def LL(ds:List D):(Cw ds).Perm (List.range ds.length):=by
 unfold Cw
 by_cases h:ds.length<2
 .rw[if_pos h]
 .rw[if_neg h];exact(Wb (n:=ds.length) (by omega)).eval _
def Wm{U:Type}(x:U)(xs:List U):((List.range xs.length).map λi=>xs.getD i x)=xs:=by
 apply ANz;intro i;rw[As]
 by_cases h:i<xs.length
 .simp[h]
 .simp[h]
abbrev LZ:GL:=λxs L=>match xs with
 |[.ref k]=>(match L[k]? with|some (.lst ds)=>if (ds.all isPr&&decide (ds.length<64))=true then some (.ref L.length,L++[.lst (sortP ds)]) else none|_=>none)
 |_=>none
abbrev Gr(h:Heap)(v:Value)(d:D):Prop:=∃(x:Addr) (a b:Str) (t u:Tok),v=.ref x/\IsTup h x #[.str a t,.str b u]/\d=.tup [.str a,.str b]
section
variable {prog:Program}{w:World}{A:Around}{E:AO0}{s:Shared}
def AEB{v i:Value}{d d':D}{Q:Bool->Shared->Prop}(j:Gr s.heap v d)(m:Gr s.heap i d')(q:Q (ltP d d') s):wpAny (model prog w) A (keyLt' (tuples' true) v i) Q E s:=by
 obtain⟨x,a,b,t,u,rfl,⟨o,e,_,n,k⟩,rfl⟩:=j;obtain⟨y,c,d,z,l,rfl,⟨o',r,_,n',p⟩,rfl⟩:=m;refine PySem.W.kat_lt e k r p ?_;show PySem.W.KatLex prog w A true _ Q [(Value.str a t,Value.str c z),(Value.str b u,Value.str d l)] 0 s
 have h:Q (if a=c then (if b=d then false else Nk b d) else Nk a c) s:=q
 refine PySem.W.kat_cons (wpAny_eqBool_str ?_)
 by_cases g:a=c
 .rw[decide_eq_true g];rw[if_pos g] at h;refine PySem.W.kat_yes (PySem.W.kat_cons (wpAny_eqBool_str ?_))
  by_cases f:b=d
  .rw[decide_eq_true f];rw[if_pos f] at h;exact PySem.W.kat_yes (PySem.W.kat_nil h)
  .rw[decide_eq_false f];rw[if_neg f] at h;exact PySem.W.kat_no (PySem.W.kat_one _ _ (lt_str h))
 .rw[decide_eq_false g];rw[if_neg g] at h;exact PySem.W.kat_no (oneLt_str h)
def Wu{h:Heap}:∀{vs:AOu} {ds:List D},Paired (Gr h) vs ds->∃fs,PySem.W.KatTups h vs fs/\fs.length=vs.length/\∀f∈fs,∃a t,f=Value.str a t
 |_,_,.nil=>⟨[],trivial,rfl,λ_ z=>nomatch z⟩
 |_,_,.cons r t=>by
  obtain⟨x,a,b,j,u,rfl,⟨o,e,c,n,k⟩,rfl⟩:=r;obtain⟨fs,g,i,l⟩:=Wu t;refine⟨Value.str a j::fs,PySem.W.KatTups.cons e c k rfl g,by simp[i],λf d=>?_⟩;rcases AY.mp d with rfl|d
  .exact⟨_,_,rfl⟩
  .exact l f d
def AEC{vs:AOu}{ds:List D}{Q:SortKind->Shared->Prop}(r:Paired (Gr s.heap) vs ds)(h0:0<vs.length)(q:Q (tuples' true) s):wpAny (model prog w) A (keyKind' vs.toArray) Q E s:=by obtain⟨fs,c,e,d⟩:=Wu r;refine PySem.W.kat_kind (T:=Value.type "str") c (by omega) (λv b=>?_) rfl q;obtain⟨a,t,rfl⟩:=d v b;exact .now
def Sd{U β:Type}{R:U->β->Prop}{xs:List U}{c:List β}(r:Paired R xs c)(a:U)(b:β):∀i,i<xs.length->R (xs.getD i a) (c.getD i b):=by
 induction r with
 |nil=>intro i h;cases h
 |cons h t d =>
  intro i e
  cases i with
  |zero=>exact h
  |succ i=>exact d i (by simpa using e)
def Sb{U β:Type}{R:U->β->Prop}{xs:List U}{c:List β}(r:Paired R xs c)(a:U)(b:β):∀{p:AOy},(∀i∈p,i<xs.length)->Paired R (p.map λi=>xs.getD i a) (p.map λi=>c.getD i b)
 |[],_=>.nil
 |i::p,h=>.cons (Sd r a b i (h i BC)) (Sb r a b λj d=>h j (BD _ d))
def ACu{a:Addr}{vs:AOu}{ds:List D}{n:Nat}{P:PySem.Fin->Shared->Prop}(ho:s.heap.get? a=some (seqObj "list" vs.toArray n))(r:Paired (Gr s.heap) vs ds)(ae:vs.length<64)
  (h:P (.done (.ret .none)) {s with heap:=sortedHeap s.heap a vs ((Cw ds).map λi=>vs.getD i Value.none).toArray}):wpAny (model prog w) A (Builtin.«list.sort» ⟨[.ref a],[]⟩) P E s:=by
 have ha:=Heap.lt_size ho;have f:vs.length=ds.length:=Paired.length r;obtain⟨e1,y⟩:∃e1,(s.heap.update a (Obj.mapSeq λ_=>#[])).get? a=some (seqObj "list" #[] e1):=⟨_,get?_update_seq ho λ_=>#[]⟩;generalize hH:((s.heap.update a (Obj.mapSeq λ_=>#[])).push (seqObj "tuple" vs.toArray 0)).push (seqObj "list" #[] 0)=H3
 have kept:∀b o,b≠a->s.heap.get? b=some o->H3.get? b=some o:=λb o hb e=>by
  have ad:=Heap.lt_size e;rw[<-hH,Heap.get?_push_ne _ _ _ (by rw[size_push',Heap.size_update];exact Bm (Nat.lt_succ_of_lt ad)),Heap.get?_push_ne _ _ _ (by rw[Heap.size_update];exact Bm ad),Heap.get?_update_ne _ _ _ _ hb];exact e
 have l:H3.get? a=some (seqObj "list" #[] e1):=by rw[<-hH,Heap.get?_push_ne _ _ _ (by rw[size_push',Heap.size_update];exact Bm (Nat.lt_succ_of_lt ha)),Heap.get?_push_ne _ _ _ (by rw[Heap.size_update];exact Bm ha)];exact y
 have m:∀{v d},Gr s.heap v d->Gr H3 v d:=λ{v d} ⟨x,p,q,t,u,e0,⟨o,e,c,r⟩,z⟩=>⟨x,p,q,t,u,e0,⟨o,kept x o (λhx=>by rw[hx,ho] at e;cases e;have c2:Value.type "list"=Value.type "tuple":=c;exact absurd c2 (by decide)) e,c,r⟩,z⟩
 have r3:Paired (Gr H3) vs ds:=by
  clear h ho f ae hH kept l ha y
  induction r with
  |nil=>exact .nil
  |cons q t ih=>exact .cons (m q) ih
 have ac:H3.update a (Obj.mapSeq λ_=>((Cw ds).map λi=>vs.getD i Value.none).toArray)=sortedHeap s.heap a vs ((Cw ds).map λi=>vs.getD i Value.none).toArray:=by rw[<-hH];rfl
 have ag:(Cw ds).length=vs.length:=by rw[(LL ds).length_eq,AN5,f]
 rw[list_sort_plain];refine AH (listItems_at ho rfl (AH (listUpdate_at ho rfl ?_ (by rw[Bn,sizeLine_eq];omega) (Ef _))));refine AH (seqEpoch_at y rfl (AH (wpAny_newTuple ?_ (by show vs.length<=_;rw[sizeLine_eq];omega))));refine AH (wpAny_newList (DW ?_) (Ef _))
 have aa:∀(st:SortSt),(arrOf st).map (·.2)=((Cw ds).map λi=>vs.getD i Value.none).toArray->failedOf st=none->wpAny (model prog w) A (do
   let k:=(<-seqEpoch a) != e1
   Builtin.List.listUpdate (.ref a) λ_=>(arrOf st).map (·.2)
   if let some e:=failedOf st then rule "list.sort.comparison-raised";throw e
   if k then rule "list.sort.modified";raiseError "ValueError" "list modified during sort"
   ret .none) P E {s with heap:=H3}:=λst ai hf=>by
  rw[ai,hf];refine AH (seqEpoch_at l rfl (AH (listUpdate_at l rfl ?_ (Ef _) (by rw[Bn,AZ,ag,sizeLine_eq];omega))));simp only[bne_self_eq_false,ANX,if_false];rw[ac];exact AO h
 show wpAny (model prog w) A _ P E {s with heap:=((s.heap.update a (Obj.mapSeq λ_=>#[])).push (seqObj "tuple" vs.toArray 0)).push (seqObj "list" #[] 0)};rw[hH]
 by_cases h2:vs.length<2
 .have h2':vs.toArray.size<2:=by simpa using h2
  dsimp only;rw[if_pos h2',if_pos h2'];refine AH (AO ?_);rw[StateT.run_pure];refine AH (AO ?_);refine aa _ ?_ rfl;have e0:Cw ds=List.range vs.length:=by unfold Cw;rw[if_pos (by omega),f]
  rw[e0,Wm];apply Array.toList_inj.mp;show((vs.toArray.zip vs.toArray).map (·.2)).toList=vs;rw[Array.toList_map,Array.toList_zip];exact List.map_snd_zip (Ag _)
 .have h2':¬vs.toArray.size<2:=by simpa using h2
  dsimp only;rw[if_neg h2',if_neg h2'];refine AH (AEC (s:={s with heap:=H3}) r3 (by omega) ?_);have e0:Cw ds=(kEval (λi j=>ltP (ds.getD i .non) (ds.getD j .non)) (kas_sort vs.length)).toList:=by unfold Cw;rw[if_neg (by omega),f]
  refine AH (Dk (PySem.W.kat_run (ks:=vs) (vs:=vs) (κ:=tuples' true) (s:={s with heap:=H3}) (E:=E) (Q:=λg s'=>s'={s with heap:=H3}/\(arrOf g).map (·.2)=((Cw ds).map λi=>vs.getD i Value.none).toArray/\failedOf g=none)
   (G:=λp s'=>s'={s with heap:=H3}/\p=kEval (λi j=>ltP (ds.getD i .non) (ds.getD j .non)) (kas_sort vs.length)) rfl (by omega) ae (λp g s' _ a2 a3 a4=>⟨a4.1,?_,a3⟩) ?_) ?_ λ_ _ z=>z)
  .rw[PySem.W.kat_snds rfl a2,e0,a4.2]
  .refine Cm.wp (c:=λi j=>ltP (ds.getD i .non) (ds.getD j .non)) (n:=vs.length) (R:=Pm vs.length) (λi j C hi hj hC=>?_) (Wb (by omega)) ⟨rfl,rfl⟩;exact AEB (s:={s with heap:=H3}) (Sd r3 Value.none D.non i hi) (Sd r3 Value.none D.non j hj) hC
  .rintro⟨⟨⟩,g⟩ s' ⟨rfl,a2,a3⟩;exact aa g a2 a3
def ACt{l:Addr}{vs:AOu}{ds:List D}{Q:AO0}(k:s.heap.IsList l vs.toArray)(r:Paired (Gr s.heap) vs ds)(g:vs.length<64)
  (h:Q (.ref (s.heap.objs.size+1)) {s with heap:=sortedAll s.heap vs ((Cw ds).map λi=>vs.getD i Value.none).toArray}):wpAny (model prog w) A (call (.builtin "sorted") [.ref l]) Q E s:=by
 have a:((s.heap.push (seqObj "list" #[] 0)).update s.heap.objs.size (Obj.mapSeq (·++vs.toArray))).objs.size=s.heap.objs.size+1:=by rw[Heap.size_update];exact size_push' _ _
 generalize j:((s.heap.push (seqObj "list" #[] 0)).update s.heap.objs.size (Obj.mapSeq (·++vs.toArray))).push (seqObj "list" vs.toArray 0)=H2;have d:H2.get? (s.heap.objs.size+1)=some (seqObj "list" vs.toArray 0):=by rw[<-j,<-a];exact Heap.get?_push_size _ rfl
 have kept:∀b o,s.heap.get? b=some o->H2.get? b=some o:=λb o e=>by
  have f:=Heap.lt_size e;rw[<-j,Heap.get?_push_ne _ _ _ (by rw[a];exact Bm (Nat.lt_succ_of_lt f)),Heap.get?_update_ne _ _ _ _ (Bm f),Heap.get?_push_ne _ _ _ (Bm f)];exact e
 have r2:Paired (Gr H2) vs ds:=by
  clear h k g j d a
  induction r with
  |nil=>exact .nil
  |cons q t y =>
   obtain⟨x,p,q,tk,u,v,⟨o,e,c⟩,z⟩:=q;exact .cons ⟨x,p,q,tk,u,v,⟨o,kept _ _ e,c⟩,z⟩ y
 refine Calls.call_function_entry kind_sorted plain_sorted entry_sorted (args_sorted1 _) ?_;unfold Builtin.«sorted»;refine AH (m:=checkCount "sorted" 1 1 _) (AO (AH (collect_list k ?_ (by rw[sizeLine_eq];omega))));refine AH (wpAny_newList ?_ (by rw[sizeLine_eq];omega));show wpAny _ _ _ _ _ {s with heap:=((s.heap.push (seqObj "list" #[] 0)).update s.heap.objs.size (Obj.mapSeq (·++vs.toArray))).push (seqObj "list" vs.toArray 0)};rw[a,j];refine AH (DW (GV slot_list_sort ⟨_,d,rfl⟩ entry_list_sort (ACu (s:={s with heap:=H2}) d r2 g ⟨_,rfl,AO ⟨_,rfl,?_⟩⟩) (args_list_sort _)));have n:sortedHeap H2 (s.heap.objs.size+1) vs ((Cw ds).map λi=>vs.getD i Value.none).toArray=sortedAll s.heap vs ((Cw ds).map λi=>vs.getD i Value.none).toArray:=by rw[<-j];rfl
 show Q _ {s with heap:=sortedHeap H2 (s.heap.objs.size+1) vs _};rw[n];exact h
end
section
variable {X:Cx}
def YJ{K:AL}{H:Hp}{O:AOv}{ws:List V}{ds:List D}(h:AT K H O ws ds):Paired (Is K H O) ws ds:=by
 induction ds generalizing ws with
 |nil=>cases h;exact .nil
 |cons x ds b=>cases h with|cons a t=>exact .cons a (b t)
def AGc{K:AL}{H:Hp}{O:AOv}{ws:List V}{ds:List D}(h:Paired (Is K H O) ws ds):AT K H O ws ds:=by
 induction h with
 |nil=>exact .nil
 |cons q _ a=>exact .cons q a
def AEA{pins}{s:Shared}{Y}{H:Hp}{O:AOv}(I:AI X pins Y H s):∀{ws:List V} {ds:List D} {vs:AOu},AT X.K H O ws ds->Ae ws vs->ds.all isPr=true->Paired (Gr s.heap) vs ds:=by
 intro ws ds vs f m e
 induction m generalizing ds with
 |nil=>cases f;exact .nil
 |cons r q o =>
  cases f with|cons h t =>
  rw[ANU,Bs] at e;refine .cons ?_ (o t e.2);obtain⟨a,b,rfl⟩:=AED e.1
  .cases h with|tup v d =>
    cases r
    cases d with|cons k d=>cases d with|cons l d =>
     cases d;cases k;cases l;obtain⟨n,c,p,_⟩:=I.tuple v
     cases c with|cons g c=>cases c with|cons u c =>
      cases c;obtain⟨i,rfl⟩:=(show ∃t,_=Value.str a t from g);obtain⟨j,rfl⟩:=(show ∃t,_=Value.str b t from u);exact⟨_,a,b,i,j,rfl,p,rfl⟩
def AMd:Ee X (.builtin "sorted") LZ:=λz s Y H vs us Q I rv v=>by
 obtain⟨O,L,xs,d,L',r,is,e,k⟩:=v;unfold LZ at e;split at e
 .rename_i n;split at e
  .rename_i ds e1;split at e
   .rename_i hall;rw[Bs] at hall;have aa:=of_decide_eq_true hall.2;cases e
    cases is with|cons i1 i2=>cases i2;cases i1 with|@ref _ a hn =>
     obtain⟨u,rfl,ru⟩:=Ds rv;cases ru;obtain⟨g,hw,w⟩:=r.ob n _ _ hn e1;obtain⟨f,h,p,_⟩:=I.list (BJ.of hw);have ac:g.length=f.length:=h.length;have l:g.length=ds.length:=Paired.length (YJ w);refine ACt p.isList (AEA I w h hall.1) (by omega) ?_;have j:∀i∈Cw ds,i<g.length:=λi hi=>by rw[l];exact CK.mp ((LL ds).mem_iff.mp hi)
     have t:(Cw ds).length=ds.length:=by rw[(LL ds).length_eq,AN5]
     obtain⟨c,hc⟩:=sortedAll_at s.heap f ((Cw ds).map λi=>f.getD i Value.none).toArray;have x:H (s.heap.objs.size+1)=none:=I.hok.fresh (ANN _);have y:An H O (upd H (s.heap.objs.size+1) (.lst ((Cw ds).map λi=>g.getD i V.non))) (O++[s.heap.objs.size+1]):=⟨.new x,Ac _ _⟩;have m:AT X.K H O ((Cw ds).map λi=>g.getD i V.non) (sortP ds):=AGc (Sb (YJ w) V.non D.non j)
     exact⟨.ref (s.heap.objs.size+1),upd H (s.heap.objs.size+1) (.lst ((Cw ds).map λi=>g.getD i V.non)),I.laid (o:=.lst ((Cw ds).map λi=>g.getD i V.non)) (t':=s.toks) (λb o q=>sortedAll_old q) (ANN _) ⟨by rw[AZ,t,sizeLine_eq];omega,(Cw ds).map λi=>f.getD i Value.none,c,Sb h V.non Value.none j,hc⟩,rfl,
      k _ _ _ y (r.new x ⟨_,CT,m.mono y⟩) (.ref (by rw[<-r.len];simp))⟩
   .cases e
  .cases e
 .cases e
end
section
variable {X:Cx}
def vv{i:Nat}{x:Str}{pos:Pos}(c:X.N[i]?=some x:=by rfl)(b:Ju X.env.scope x:=by first|exact Or.inl rfl|exact Or.inr (Or.inl rfl)|exact Or.inr (Or.inr rfl))(d:(x == ("__debug__":Str))=false:=by decide)(a:(x == ("__classdict__":Str))=false:=by decide):Ab X (.Name x pos) (AA i):=AHd (pv i c b d a)
def ixq{a b:Expr}{d c:EF}{pos:Pos}(f:Ab X a d)(e:Ab X b c)(g:UF b:=by intro _ _;rfl):Ab X (.Subscript a b pos) (AE AN d c):=AHe ABl f e g
end
abbrev UI(K:AL)(x:Str)(f:Addr):Prop:=CS K mainGlobals x=some (some (.ref f))
abbrev MF(K:AL)(x qual:Str)(st:Stmt)(f:Addr):Prop:=∃fd,Hr K x qual st f fd
def Yt{K:AL}{x a:Str}{st:Stmt}{f:Addr}{h:Value}{m g:Option Addr}{d:Array (Option Value)}{kV e i b j:Value}(l:K.lookup f=some ⟨h,m,.func (ANO x a (Ip st) (Fp st) (Ad st) .none kV e i g b j),d⟩)(c:AOI K b a=true)(k:GY K (.ref f)=true):MF K x a st f:=⟨_,AHH l c k⟩
abbrev Az(P:Program)(w:World)(K:AL)(mg:AOs)(base:Heap)(k:Nat)(N:AOt)(qual:Str)(st:Stmt)(B:SF):Prop :=
 ∀(cdv:Value) (f:Addr) (A:Around) (outer:List Env) (s:Shared) (H:Hp) (E:XK),Room k (A.deeper (envOfC qual (Ad st) s.heap.objs.size f cdv))->FY (Cr CX0 P w K mg base N qual (Ad st) f cdv A outer s H E).nox (Fp st) B
abbrev BiQ(x qual:Str)(st:Stmt)(ps:AOt):Prop:=∀(kV doc pm:Value) (an:Option Addr) (cdv ct:Value) (us:AOu),us.length=ps.length->bindArgs (ANO x qual (Ip st) (Fp st) (Ad st) .none kV doc pm an cdv ct) ⟨us,[]⟩=pure (ps.zip us)
def AHJ{P:Program}{w:World}{K:AL}{l:AOs}{g h:Heap}(X:K.In h)(n:h.Ns mainGlobals l){x c:Str}{st:Stmt}{f:Addr}{N ps:AOt}{k:Nat}{B:SF}(G:GL)(e:G=Aj B N ps.length)
  (a:CS K mainGlobals x=some (some (.ref f))) (q:MF K x c st f) (S:Ar N ps (Ad st)) (d:Az P w K l g k N c st B) (b:BiQ x c st ps):Am P w K l g (k+1) x G:=by
 obtain⟨o,F⟩:=q;subst e;exact Tc F S (λj A i s H E m=>d j f A i s H E m) (F.binds b) (Fc X n a) F.kp
def Am.mn{P:Program}{w:World}{K:AL}{b:AOs}{a:Heap}{j k:Nat}{x:Str}{G:GL}(F:Am P w K b a j x G)(h:j<=k:=by decide):Am P w K b a k x G:=F.mono h
def GU.mn{P:Program}{w:World}{K:AL}{b:AOs}{a:Heap}{j k:Nat}{x:Str}{G:GL}(F:GU P w K b a j x G)(h:j<=k:=by decide):GU P w K b a k x G:=F.mono h
abbrev anyO:List (Option Bool)->Option Bool
 |[]=>some false
 |none::_=>none
 |some b::r=>(anyO r).map (b || ·)
abbrev AG9:G2:=λx y L=>match y with
 |.ref k=>(match L[k]? with|some (.lst ys)=>(anyO (ys.map λz=>Cj 30 L z x)).map λb=>(.bl (!b),L)|_=>none)
 |_=>none
structure FQ (K:AL) (x:Str) (st:Stmt) (f:Addr):Prop where
 a:UI K x f
 b:MF K x x st f
def dk{P:Program}{w:World}{K:AL}{e:AOs}{d:Heap}{k:Nat}{N ps:AOt}{b:Str}{st:Stmt}{B:SF}(S:Ar N ps (Ad st))
  (h:∀(c:Value) (f:Addr) (A:Around) (a:List Env) (s:Shared) (H:Hp) (E:XK),Room k (A.deeper (envOfC b (Ad st) s.heap.objs.size f c))->N.Nodup->FY (Cr CX0 P w K e d N b (Ad st) f c A a s H E).nox (Fp st) B):Az P w K e d k N b st B:=λc f A a s H E g=>h c f A a s H E g S.nd
def AHK{P:Program}{w:World}{K:AL}{g:AOs}{c h:Heap}(X:K.In h)(i:h.Ns mainGlobals g){x:Str}{st:Stmt}{f:Addr}{N ps:AOt}{k:Nat}{B:SF}(G:GL)(q:FQ K x st f)(S:Ar N ps (Ad st))(d:Az P w K g c k N x st B)(e:G=Aj B N ps.length:=by rfl)(b:BiQ x x st ps:=by wtm_at "bi"):Am P w K g c (k+1) x G:=AHJ X i G e q.a q.b S d b
abbrev HM(tg:Expr)(N:AOt)(idx:AOy):AOt :=
 (match tg with
 |.Name x _=>[x]
 |.Tuple es _ _=>es.filterMap λe=>match e with
  |.Name x _=>some x
  |_=>none
 |_=>[])++idx.map λi=>N.getD i Str.empty
section
variable {P:Program}{w:World}{K:AL}{mg:AOs}{base:Heap}{N:AOt}{qual:Str}{sc:Scope}{f:Addr}{cdv:Value}{A:Around}{outer:List Env}{s:Shared}{H:Hp}{E:XK}{C0:Fw}
def Zf{scope:Scope}{b:Expr}{n:Nat}{a:AOy}(c:scope.kind=.function)(d:Ln scope.names sc.names N (HM b N a) n a=true):MG (Cr C0 P w K mg base N qual sc f cdv A outer s H E).nox scope (HM b N a) n a:=AHy c (λ_=>rfl) rfl d
def AMQ{h b j:Expr}{i:AOw}{scope:Scope}{pos:Pos}{q:IF}{n:Nat}{a:AOy}{g:GF}{c:TF}{p:EF}(t:EM (Cr C0 P w K mg base N qual sc f cdv A outer s H E).nox h b q)
  (e:∀l C o m k d,HX (Cs (Cr C0 P w K mg base N qual sc f cdv A outer s H E).nox (HM h N a) scope l C o m k d) h g/\IT (Cs (Cr C0 P w K mg base N qual sc f cdv A outer s H E).nox (HM h N a) scope l C o m k d) i c/\Ab (Cs (Cr C0 P w K mg base N qual sc f cdv A outer s H E).nox (HM h N a) scope l C o m k d) j p)
  (u:scope.kind=.function:=by rfl) (r:Ln scope.names sc.names N (HM h N a) n a=true:=by decide +kernel)
  (v:∀x,foldedSetIterable b (Cr C0 P w K mg base N qual sc f cdv A outer s H E).nox.env x=pure x:=by intro _;rfl):Ab (Cr C0 P w K mg base N qual sc f cdv A outer s H E).nox (.ListComp j [⟨h,b,i,0⟩] scope pos) (Bk q n a g c p):=AHg rfl t (Zf u r) e v
def AKM{i:Nat}{x:Str}{u h:Pos}{e a k:Expr}{l:AOw}{scope:Scope}{pos:Pos}{y:IF}{n:Nat}{b:AOy}{g:GF}{c:TF}{v:EF}(hN:N.Nodup)(hi:EM (Cr C0 P w K mg base N qual sc f cdv A outer s H E).nox e a y)
  (j:∀m C o r q d,HX (Cs (Cr C0 P w K mg base N qual sc f cdv A outer s H E).nox (HM e N b) scope m C o r q d) e g/\IT (Cs (Cr C0 P w K mg base N qual sc f cdv A outer s H E).nox (HM e N b) scope m C o r q d) l c/\Ab (Cs (Cr C0 P w K mg base N qual sc f cdv A outer s H E).nox (HM e N b) scope m C o r q d) k v)
  (h1:scope.kind=.function:=by rfl) (z:Ln scope.names sc.names N (HM e N b) n b=true:=by decide +kernel)
  (p:N[i]?=some x:=by rfl) (hx:HY (Cr C0 P w K mg base N qual sc f cdv A outer s H E).nox.env.scope x:=by first|exact Or.inl rfl|exact Or.inr rfl)
  (t:swapsWith (.ListComp k [⟨e,a,l,0⟩] scope pos) (some (.Name x u)) h.line (Cr C0 P w K mg base N qual sc f cdv A outer s H E).nox.env=pure true:=by rfl)
  (hs:∀x,foldedSetIterable a (Cr C0 P w K mg base N qual sc f cdv A outer s H E).nox.env x=pure x:=by intro _;rfl):Du (Cr C0 P w K mg base N qual sc f cdv A outer s H E).nox (.Assign [.Name x u] (.ListComp k [⟨e,a,l,0⟩] scope pos) h) (AR i (Bk y n b g c v)):=AC5 hN rfl hi (Zf h1 z) j p hx t (.inl rfl) hs
end
def nqC{X:Cx}{a:AOt}{scope:Scope}{cl C s3 H3 fp pins}(h:a.Nodup:=by decide +kernel):(Cs X a scope cl C s3 H3 fp pins).N.Nodup:=h
abbrev keysG(G:GL)(L:AB):List D->Option (List (Int×D))
 |[]=>some []
 |d::ds=>match G [d] L with
  |some (.int z,L')=>if L'=L then (keysG G L ds).map ((z,d)::·) else none
  |_=>none
abbrev bestK:List (Int×D)->Option (Int×D)
 |[]=>none
 |x::xs=>match bestK xs with
  |none=>some x
  |some y=>if y.1<x.1 then some y else some x
abbrev Lc(G:GL):GL:=λxs L=>match xs with
 |[.ref k]=>(match L[k]? with|some (.lst ds)=>(keysG G L ds).map λks=>(((bestK ks).map (·.2)).getD .non,L)|_=>none)
 |_=>none
def AT.rev{K:AL}{H:Hp}{O:AOv}:∀{vs:List V} {ds:List D},AT K H O vs ds->AT K H O vs.reverse ds.reverse
 |_,_,.nil=>.nil
 |_,_,.cons a b=>by
  rw[AOJ,AOJ];exact(AT.rev b).append (.cons a .nil)
def ADV{K:AL}{H:Hp}{O:AOv}{vs:List V}{us:AOu}{n:Nat}(is:AT K H O vs [.ref n])(r:Ae vs us):∃a,O[n]?=some a/\us=[.ref a]:=by
 cases is with|cons e c=>cases c;cases e with|@ref _ a d =>
  obtain⟨u,rfl,b⟩:=Ds r;exact⟨a,d,by rw[show u=Value.ref a from b]⟩
abbrev Jp(b:Int×D):List (Int×D)->Int×D
 |[]=>b
 |y::ys=>Jp (if y.1<b.1 then y else b) ys
def Zu:∀(a:List (Int×D)) (b:Int×D),some (Jp b a)=bestK (b::a)
 |[],b=>rfl
 |y::a,b=>by
  rw[Jp,Zu a]
  show bestK (_::a)=match bestK (y::a) with|none=>some b|some z=>if z.1<b.1 then some z else some b
  simp only[bestK]
  cases bestK a with
  |none=>by_cases h:y.1<b.1 <;> simp[h]
  |some z =>
   by_cases h:y.1<b.1 <;> by_cases c:z.1<y.1 <;> by_cases d:z.1<b.1 <;> simp[h,c,d] <;> omega
def AFl(a v d:Value):argsOk "min" ⟨[a],[(Str.ofString "key",v),(Str.ofString "default",d)]⟩:=by unfold argsOk;kernel_rfl
section
variable {X:Cx}{pins:List (Addr×Obj)}{Y:L2.St}{k n:Nat}{G:GL}{fa a I0 S0:Addr}{fd:FuncData}{ps:AOt}{L:AB}{ds:List D}{O:AOv}
def AFk{H:Hp}{s:Shared}{u:Value}{v:V}{d:D}{z:Int}{m j:Obj}(F:DF X.prog X.w X.K X.mg X.base CX0 k fa fd ps (GB X.K G))(c:Dx X.K fd ps [])(hr:Room (k+1) X.A)(I:AI X pins Y H s)(x:Ed X pins H I0)(f2:Ed X pins H S0)(rs:Aq X.K H O L)
  (gI:s.heap.get? I0=some m) (gS:s.heap.get? S0=some j) (nI:∀v,m.data≠.cell v) (nS:∀v,j.data≠.cell v) (ru:Af v u) (is:Is X.K H O v d) (e:G [d] L=some (.int z,L)) :
  wpAny (model X.prog X.w) X.A.in1 (call (.ref fa) [u]) (λy i=>∃t a,y=.int z t/\AI X pins Y a i/\Ed X pins a I0/\Ed X pins a S0/\An H O a O/\Aq X.K a O L/\i.heap.get? I0=some m/\i.heap.get? S0=some j) (λ_ _=>False) s:=by
 have J:AI X (pins++JS [I0,S0] s.heap) Y H s:=I.pinned (λb c=>by
   rcases AY.mp c with rfl|c
   .exact x
   .obtain rfl:=Dr.mp c;exact f2) λb c=>by
   rcases AY.mp c with rfl|c
   .exact⟨_,gI,nI⟩
   .obtain rfl:=Dr.mp c;exact⟨_,gS,nS⟩
 have q:GB X.K G [v] H (λy a=>y=.int z/\∃g,An H O a g/\Aq X.K a g L) E0 :=
  ⟨O,L,[d],_,L,rs,.cons is .nil,e,λy a g l f iy=>by cases iy;exact⟨rfl,g,l,f⟩⟩
 have hl:([u]++([]:AOu)).length=ps.length:=F.len _ _ _ _ q;refine wpAny_call (codeAny_mono (F.run X.A.in1 X.stack s H ⟨[u],[]⟩ [u] [v] _ E0 hr.in1 J.env0.in1 (c s [u] J.kIn hl) (.cons ru .nil) q) λr i h=>?_)
 cases r with
 |error e=>exact False.elim h
 |ok fl =>
  cases fl with
  |ret y =>
   obtain⟨w,a,n,ry,rfl,g,l,f⟩:=J.after h;obtain⟨t,rfl⟩:=ry
   obtain rfl:g=O:=by
    obtain⟨M,o⟩:=l.2
    have:M.length=0:=by have h1:=rs.len;have h2:=f.len;rw[<-o,CG] at h2;omega
    rw[<-o,ANV.mp this,ANg]
   have p:=n.pin (I0,m) (Eu _ (Eu _ (JU (by simp) gI)));have pS:=n.pin (S0,j) (Eu _ (Eu _ (JU (by simp) gS)));exact⟨t,a,rfl,n.unpinned,⟨p.2.1,x.2⟩,⟨pS.2.1,f2.2⟩,l,f,p.1,pS.1⟩
  |next=>exact False.elim h
  |brk=>exact False.elim h
  |cont=>exact False.elim h
def YB{i:Nat}{ks:List (Int×D)}(c:i<ds.length)(e:keysG G L (ds.drop i)=some ks):∃d z a,ds[i]?=some d/\G [d] L=some (.int z,L)/\keysG G L (ds.drop (i+1))=some a/\ks=(z,d)::a:=by
 rw[AN4 c,keysG] at e;split at e
 .rename_i z L' e1;split at e
  .rename_i h;subst h
   cases b:keysG G L' (ds.drop (i+1)) with
   |none=>rw[b] at e;cases e
   |some a =>
    rw[b] at e;cases e;exact⟨ds[i],z,a,by simp[c],e1,rfl,rfl⟩
  .cases e
 .cases e
abbrev Fu(X:Cx)(pins:List (Addr×Obj))(Y:L2.St)(I0 S0 a:Addr)(L:AB)(O:AOv)(i:Nat)(H:Hp)(s:Shared)(its:Array Value)(c:Nat):Prop :=
 AI X pins Y H s/\Ed X pins H I0/\Ed X pins H S0/\Aq X.K H O L/\s.heap.IsListIter I0 a i/\s.heap.get? S0=some (seqObj "list" its c)
def Fu.draw{i:Nat}{H:Hp}{s:Shared}{e:Array Value}{c:Nat}{d:D}(M:Fu X pins Y I0 S0 a L O i H s e c)(hh:X.A.handled=none)(k:S0≠I0)(hL:L[n]?=some (.lst ds))(hn:O[n]?=some a)(hd:ds[i]?=some d){Q:Option Value->Shared->Prop}{E:AO0}
  (h:∀u v r,Af v u->Is X.K H O v d->Fu X pins Y I0 S0 a L O (i+1) H r e c->Q (some u) r):wpAny (model X.prog X.w) X.A.in1 (pyNext (.ref I0)) Q E s:=by
 obtain⟨ws,hw,il⟩:=M.2.2.2.1.ob n _ _ hn hL;obtain⟨p,rv,pl,hz⟩:=M.1.list (BJ.of hw);obtain⟨x,hx,ix⟩:=il.get hd;obtain⟨u,m,ru⟩:=rv.get hx
 have j:a≠I0:=λz=>by
  obtain⟨o,g,l,_⟩:=pl.isList;obtain⟨o',g',f,_⟩:=M.2.2.2.2.1;rw[z,g'] at g;cases g;rw[f] at l;exact absurd l (by decide)
 obtain⟨q0,q1,q2,q3,q4,q5⟩:=M.2.1;refine(Walks.list (prog:=X.prog) (w:=X.w) (A:=X.A.in1) hh I0 a j p.toArray).item i s Q E (by simpa using (Ax.mp m).1) ⟨M.2.2.2.2.1,pl.isList⟩ λy h' tk hy st t=>?_
 obtain rfl:y=u:=by
  have:p[i]?=some y:=by simpa using hy
  rw[m] at this;exact(Option.some.inj this).symm
 exact h y x _ ru ix ⟨M.1.turned (t':=tk) (λb o hb q=>t b o (by simpa using hb) q) q0 q1 q3 q4 q5,M.2.1,M.2.2.1,M.2.2.2.1,st.1,t S0 _ (by simpa using k) M.2.2.2.2.2⟩
def Fu.last{H:Hp}{s:Shared}{d:Array Value}{c:Nat}(M:Fu X pins Y I0 S0 a L O ds.length H s d c)(hh:X.A.handled=none)(j:S0≠I0)(u:L[n]?=some (.lst ds))(hn:O[n]?=some a){Q:Option Value->Shared->Prop}{E:AO0}
  (h:∀i,AI X pins Y H i->i.heap.get? S0=some (seqObj "list" d c)->Q none i):wpAny (model X.prog X.w) X.A.in1 (pyNext (.ref I0)) Q E s:=by
 obtain⟨ws,hw,il⟩:=M.2.2.2.1.ob n _ _ hn u;obtain⟨l,t,p,hz⟩:=M.1.list (BJ.of hw)
 have f:a≠I0:=λz=>by
  obtain⟨o,g,k,_⟩:=p.isList;obtain⟨o',g',e,_⟩:=M.2.2.2.2.1;rw[z,g'] at g;cases g;rw[e] at k;exact absurd k (by decide)
 obtain⟨v,q1,q2,q3,q4,r⟩:=M.2.1;have x:l.toArray.size=ds.length:=by rw[Bn,<-t.length,il.length]
 refine(Walks.list (prog:=X.prog) (w:=X.w) (A:=X.A.in1) hh I0 a f l.toArray).done s Q E ⟨by rw[x];exact M.2.2.2.2.1,p.isList⟩ λh' tk m=>?_;exact h _ (M.1.turned (t':=tk) (λb o y q=>m b o (by simpa using y) q) v q1 q3 q4 r) (m S0 _ (by simpa using j) M.2.2.2.2.2)
def Fu.put{i:Nat}{H:Hp}{s:Shared}{d its':Array Value}{c:Nat}(M:Fu X pins Y I0 S0 a L O i H s d c)(e:S0≠I0):∃l,Fu X pins Y I0 S0 a L O i H {s with heap:=s.heap.update S0 (Obj.mapSeq λ_=>its')} its' l:=by have f:=Heap.SameBut.update s.heap S0 (Obj.mapSeq λ_=>its');obtain⟨h,n,p,k,m,g⟩:=M.2.2.1;exact⟨_,M.1.turned (t':=s.toks) (λb o j q=>(f.2 b j).trans q) h n k m g,M.2.1,M.2.2.1,M.2.2.2.1,M.2.2.2.2.1.at λo q=>(f.2 I0 (Ne.symm e)).trans q,get?_update_seq M.2.2.2.2.2 λ_=>its'⟩
def Fu.key{i:Nat}{H:Hp}{s:Shared}{b:Array Value}{c:Nat}{u:Value}{v:V}{d:D}{z:Int}(M:Fu X pins Y I0 S0 a L O i H s b c)(F:DF X.prog X.w X.K X.mg X.base CX0 k fa fd ps (GB X.K G))(hb:Dx X.K fd ps [])(hr:Room (k+1) X.A)(x:Af v u)(is:Is X.K H O v d)(e:G [d] L=some (.int z,L)) :
  wpAny (model X.prog X.w) X.A.in1 (call (.ref fa) [u]) (λy j=>∃t f,y=.int z t/\An H O f O/\Fu X pins Y I0 S0 a L O i f j b c) (λ_ _=>False) s:=by
 obtain⟨oI,gI,o,l⟩:=M.2.2.2.2.1;refine Dk (AFk F hb hr M.1 M.2.1 M.2.2.1 M.2.2.2.1 gI M.2.2.2.2.2 (λv q=>by rw[l] at q;cases q) (λv q=>by cases q) x is e) (λy j h=>(by obtain⟨t,f,p,n,m,f2,st,g,r,g2⟩:=h;exact⟨t,f,p,st,n,m,f2,g,⟨oI,r,o,l⟩,g2⟩)) λ_ _ q=>q
end
section
variable {prog:Program}{w:World}{A:Around}{R:Result->Shared->Prop}{s:Shared}{I0 S0 fa:Addr}{c:Nat}
abbrev mlC(I0 fa S0:Addr):Code:=.builtin "min.loop" ⟨[.ref I0,.ref fa,.ref S0],[(Str.ofString "default",.none)]⟩
def OA:(toString "min"++toString ".loop":String) = "min.loop":=by decide
def Xh(g:s.heap.get? S0=some (seqObj "list" #[] c))(h:wpAny (model prog w) A.in1 (pyNext (.ref I0)) (λo b=>(o=none/\R (.ok (.ret .none)) b)\/∃y,o=some y/\wpAny (model prog w) A.in1 (call (.ref fa) [y]) (λk a=>a.heap.get? S0=some (seqObj "list" #[] c) /\
   codeAny (model prog w) A (mlC I0 fa S0) R {a with heap:=a.heap.update S0 (Obj.mapSeq λ_=>#[y,k])}) (λ_ _=>False) b) (λ_ _=>False) s):codeAny (model prog w) A (mlC I0 fa S0) R s:=by
 refine codeAny_builtin PySem.F.entry_min_loop ?_;rw[Around.under_plainId ANv _];refine AH (AOf g rfl (AH (wpAny_tryCatch (Dk h (λo b q=>?_) λ_ _ q=>q.elim))));rcases q with⟨rfl,q⟩|⟨y,rfl,q⟩
 .exact AH (AOe (AO q))
 .refine AH (wpAny_tryCatch (DW (Dk q (λk a q=>AH (wpAny_updateSeq q.1 rfl ?_)) λ_ _ q=>q.elim)));rw[OA];exact AO ⟨plainId_quiet ANv _,q.2⟩
def Xg{u:Value}{a:Int}{e:Tok}(g:s.heap.get? S0=some (seqObj "list" #[u,.int a e] c))(h:wpAny (model prog w) A.in1 (pyNext (.ref I0)) (λo d=>(o=none/\d.heap.get? S0=some (seqObj "list" #[u,.int a e] c)/\R (.ok (.ret u)) {d with heap:=d.heap.update S0 (Obj.mapSeq λ_=>#[])}) \/
   ∃y,o=some y/\wpAny (model prog w) A.in1 (call (.ref fa) [y]) (λk b=>∃z t,k=.int z t/\b.heap.get? S0=some (seqObj "list" #[u,.int a e] c)/\(z<a->codeAny (model prog w) A (mlC I0 fa S0) R {b with heap:=b.heap.update S0 (Obj.mapSeq λ_=>#[y,.int z t])})/\(¬z<a->codeAny (model prog w) A (mlC I0 fa S0) R b)) (λ_ _=>False) d) (λ_ _=>False) s) :
  codeAny (model prog w) A (mlC I0 fa S0) R s:=by
 refine codeAny_builtin PySem.F.entry_min_loop ?_;rw[Around.under_plainId ANv _];refine AH (AOf g rfl (AH (wpAny_tryCatch (Dk h (λo d q=>?_) λ_ _ q=>q.elim))));rcases q with⟨rfl,l,q⟩|⟨y,rfl,q⟩
 .exact AH (wpAny_updateSeq l rfl (AH (wpAny_letGo (AO q))))
 .refine AH (wpAny_tryCatch (DW (Dk q (λk b q=>?_) λ_ _ q=>q.elim)));obtain⟨z,t,rfl,m,p,i⟩:=q
  refine AH (wpAny_tryCatch (DW (AH (CmpOf.ints_lt (prog:=prog) (w:=w) (A:=A.in1) (P:=λj x=>∃n,x=.int (if j=0 then a else z) n) (λj=>if j=0 then a else z) (λ_ _ h=>h) 1 0 _ _ _ _ _ ⟨t,rfl⟩ ⟨e,rfl⟩ ?_))))
  refine AH (DW (AOg (AH (wpAny_letGo (AO ?_)))))
  by_cases f:z<a
  .simp only[Nat.one_ne_zero,if_false,if_true,f,decide_true];refine AH (wpAny_updateSeq m rfl (AH (wpAny_letGo ?_)));rw[OA];exact AO ⟨plainId_quiet ANv _,p f⟩
  .simp only[Nat.one_ne_zero,if_false,if_true,f,decide_false,ANX];refine AH (wpAny_letGo ?_);rw[OA];exact AO ⟨plainId_quiet ANv _,i f⟩
end
section
variable {X:Cx}{pins:List (Addr×Obj)}{Y:L2.St}{k n:Nat}{G:GL}{fa a I0 S0:Addr}{fd:FuncData}{ps:AOt}{L:AB}{ds:List D}{O:AOv}
def AFj{Q:VK}{R:Result->Shared->Prop}(F:DF X.prog X.w X.K X.mg X.base CX0 k fa fd ps (GB X.K G))(hb:Dx X.K fd ps [])(hr:Room (k+1) X.A)(p:S0≠I0)(hL:L[n]?=some (.lst ds))(hn:O[n]?=some a)(hR:∀u s',EP X pins Y Q u s'->R (.ok (.ret u)) s') :
  ∀(r i:Nat) (ks:List (Int×D)) (H:Hp) (s:Shared) (b:Int×D) (u:Value) (v:V) (tb:Tok) (c:Nat),ds.length-i=r->i<=ds.length->keysG G L (ds.drop i)=some ks->Fu X pins Y I0 S0 a L O i H s #[u,.int b.1 tb] c->Af v u->Is X.K H O v b.2 ->
   (∀w h,An H O h O->Aq X.K h O L->Is X.K h O w (Jp b ks).2->Q w h)->codeAny (model X.prog X.w) X.A (mlC I0 fa S0) R s:=by
 intro r
 induction r with
 |zero =>
  intro i ks H s b u v tb c ad hi f M ru is hQ;obtain rfl:i=ds.length:=by omega
  rw[ANt] at f;cases f;refine Xg M.2.2.2.2.2 (M.last hr.hd p hL hn λs' I' g'=>.inl ⟨rfl,g',hR _ _ ?_⟩);obtain⟨q0,q1,q2,q3,q4,q5⟩:=M.2.2.1;exact⟨v,H,I'.turned (t':=s'.toks) (λx o hx q=>((Heap.SameBut.update s'.heap S0 (Obj.mapSeq λ_=>(#[]:Array Value))).2 x hx).trans q) q0 q1 q3 q4 q5,ru,hQ _ _ (.refl _ _) M.2.2.2.1 is⟩
 |succ r ih =>
  intro i ks H s b u v tb c ad hi f M ru is hQ;obtain⟨d,z,ac,hd,e,g,rfl⟩:=YB (by omega) f;have aa:i+1<=ds.length:=(Ax.mp hd).1;refine Xg M.2.2.2.2.2 (M.draw hr.hd p hL hn hd λy w s1 ry iy M1=>.inr ⟨y,rfl,Dk (M1.key F hb hr ry iy e) (λy2 s2 h2=>?_) λ_ _ hF=>hF⟩);obtain⟨t,H2,ey,st,M2⟩:=h2;refine⟨z,t,ey,M2.2.2.2.2.2,λhz=>?_,λhz=>?_⟩
  .obtain⟨c',M3⟩:=M2.put (its':=#[y,.int z t]) p;exact ih (i+1) ac H2 _ (z,d) y w t c' (by omega) aa g M3 ry (iy.mono st) λw' h l m j=>hQ w' h (st.trans l) m (by rw[Jp,if_pos hz];exact j)
  .exact ih (i+1) ac H2 _ b u v tb c (by omega) aa g M2 ru (is.mono st) λw' h l m j=>hQ w' h (st.trans l) m (by rw[Jp,if_neg hz];exact j)
end
section
variable {X:Cx}{k:Nat}{x:Str}{G:GL}{p pk pos pd:Pos}{e:Expr}{f:AF}{kp kd:Pos}{j:Nat}
def AFi{c:List (Addr×Obj)}{Y:L2.St}{H:Hp}{s:Shared}{Q:VK}{j a:Addr}{fd:FuncData}{ps:AOt}{O:AOv}{L:AB}{n:Nat}{ds:List D}{ks:List (Int×D)}(F:DF X.prog X.w X.K X.mg X.base CX0 k j fd ps (GB X.K G))(hb:Dx X.K fd ps [])(r:Room (k+1) X.A)(I:AI X c Y H s)(rs:Aq X.K H O L)(p:O[n]?=some a)
  (m:L[n]?=some (.lst ds)) (l:keysG G L ds=some ks) (hQ:∀w h,An H O h O->Aq X.K h O L->Is X.K h O w (((bestK ks).map (·.2)).getD .non)->Q w h) :
  wpAny (model X.prog X.w) X.A (call (.builtin "min") [.ref a] [(Str.ofString "key",.ref j),(Str.ofString "default",.none)]) (EP X c Y Q) X.xe s:=by
 obtain⟨ws,hw,il⟩:=rs.ob n _ _ p m;obtain⟨vs,rv,pl,hz⟩:=I.list (BJ.of hw);clear il rv hz;refine kmk_tree PySem.F.kind_min PySem.F.plain_min PySem.F.entry_min (AFl _ _ _) ?_;refine AH (wpAny_of_eq (show Builtin.Builtins.bindParams "min" ["key","default"] 0 ⟨[],[(Str.ofString "key",.ref j),(Str.ofString "default",.none)]⟩=pure [some (.ref j),some .none] from rfl) ?_);refine AH (AO (AH (AOi pl.isList (AH (wpAny_newList ?_ (Ef _))))));rw[OA];refine AO ⟨plainId_quiet ANv _,?_⟩;generalize f:({cls:=.type "list_iterator",data:=.fields #[.ref a,.int 0 0]}:Obj)=oI;have hS:(s.heap.push oI).objs.size=s.heap.objs.size+1:=size_push' ..;have gI:=Heap.get?_push_of_some (seqObj "list" #[] 0) (Heap.get?_push_size s.heap (o:=oI) (by rw[<-f];rfl));have gS:=Heap.get?_push_size (s.heap.push oI) (o:=seqObj "list" #[] 0) rfl;have g:(s.heap.push oI).objs.size≠s.heap.objs.size:=by rw[hS];omega
 have M:Fu X c Y s.heap.objs.size (s.heap.push oI).objs.size a L O 0 H {s with heap:=(s.heap.push oI).push (seqObj "list" #[] 0)} #[] 0 :=
  ⟨I.kept (t':=s.toks) λb u q=>Heap.get?_push_of_some _ (Heap.get?_push_of_some _ q),I.fpOk (Ag _) (I.hok.fresh (Ag _)),by rw[hS];exact I.fpOk (ANN _) (I.hok.fresh (ANN _)),rs,⟨_,gI,by rw[<-f],by rw[<-f];rfl⟩,gS⟩
 clear f gI hw;show codeAny _ _ (mlC _ j _) _ _;rcases Nat.eq_zero_or_pos ds.length with v|v
 .obtain rfl:=ANV.mp v;cases l;refine Xh gS (M.last r.hd g m p λs' I' _=>.inl ⟨rfl,?_⟩);exact⟨.non,H,I',rfl,hQ _ _ (.refl _ _) rs .non⟩
 .obtain⟨d,z,ks',hd,e,hks',rfl⟩:=YB (i:=0) v l;refine Xh gS (M.draw r.hd g m p hd λy w s1 ry iy M1=>.inr ⟨y,rfl,Dk (M1.key F hb r ry iy e) (λy2 s2 h2=>?_) λ_ _ hF=>hF⟩);obtain⟨t,H2,rfl,st,M2⟩:=h2;obtain⟨c',M3⟩:=M2.put (its':=#[y,.int z t]) g;exact⟨M2.2.2.2.2.2,AFj F hb r g m p (λ_ _ q=>q) _ 1 ks' H2 _ (z,d) y w t c' rfl v hks' M3 ry (iy.mono st) λw' h aa ac x=>hQ w' h (st.trans aa) ac (by rw[<-Zu];exact x)⟩
def AHC{xs:List D}{L L':AB}{d:D}(e:Lc G xs L=some (d,L')):∃n a b,xs=[.ref n]/\L[n]?=some (.lst a)/\keysG G L a=some b/\d=((bestK b).map (·.2)).getD .non/\L'=L:=by
 unfold Lc at e;split at e
 .split at e
  .rename_i n _ a e1;obtain⟨b,c,f⟩:=ANJ.mp e;cases f;exact⟨n,a,b,rfl,e1,c,rfl,rfl⟩
  .cases e
 .cases e
def AMI(F:Am X.prog X.w X.K X.mg X.base k x G)(hr:Room (k+1) X.A)(hm:X.mg "min"=none)(ha:Ec X [e] f)(y:Gl X "min":=by rfl)(o:Gl X x:=by rfl)(g:(x == ("__debug__":Str))=false:=by decide)
  (q:starEach [e] X.env=[(false,eval e X.env)]:=by rfl):Ab X (.Call (.Name "min" p) [e] [⟨some "key",.Name x pk,kp⟩,⟨some "default",.Constant .none j pd,kd⟩] pos) (AK (Lc G) f):=by
 obtain⟨fa,fd,ps,v,i,kx,bx⟩:=F.ex;intro b s Y H Q I h;refine AOj (Hh I y hm AIH (callWith_kw (Ai (ha pos b s Y H _ I (Ol h)) λus s1 l=>?_) (by rw[q];rfl) (by rw[q];rfl)));obtain⟨vs,H1,r,t,O,L,xs,d,L',rs,is,e,kk⟩:=l;obtain⟨n,ds,ks,rfl,e1,u,rfl,rfl⟩:=AHC e;obtain⟨a,z,rfl⟩:=ADV is t;exact kws_cons (LQ r o i (kws_cons (Constant_none (kws_nil (AFi v bx hr r rs z e1 u λw H' st m c=>kk w H' O st m c)))) g)
end
abbrev W2{U:Type}(o:Option (U×AB))(Q:U->AB->Prop):Prop:=∃a L,o=some (a,L)/\Q a L
abbrev W1{U:Type}(o:Option U)(Q:U->Prop):Prop:=∃a,o=some a/\Q a
abbrev WI(o:Option (ME×AB))(Q:List D->(AB->Bool)->AB->Prop):Prop:=∃a k L,o=some (⟨a,k⟩,L)/\Q a k L
structure UQ where
 nx:Fm->AB->Prop
 rt:APT
 bk:Fm->AB->Prop
 ct:Fm->AB->Prop
abbrev UQ.of(E:UQ):GS->Prop
 |.next Z L=>E.nx Z L
 |.ret d L=>E.rt d L
 |.brk Z L=>E.bk Z L
 |.cont Z L=>E.ct Z L
abbrev WS(o:Option GS)(nx:Fm->AB->Prop)(rt:APT)(bk ct:Fm->AB->Prop):Prop:=∃x,o=some x/\UQ.of ⟨nx,rt,bk,ct⟩ x
abbrev Br(b:Bool)(p q:Prop):Prop:=if b=true then p else q
abbrev Jz(d:D)(Q:Bool->Prop):Prop:=∃b,d=.bl b/\Q b
abbrev UL(d:D)(Q:Int->Prop):Prop:=∃b,d=.int b/\Q b
abbrev UK(n:Nat)(p:Prop):Prop:=n<=16777216/\p
abbrev Ov(T:String)(x:D)(L:AB)(p:Prop):Prop:=JP T x L=true/\p
section
variable {U β:Type}{Z:Fm}{L:AB}{p q:Prop}{b:Bool}{c:Prop}
def AM2(h:p):Br true p q:=h
def AM8(h:q):Br false p q:=h
def AM3(h:Br b q p):Br (!b) p q:=by cases b <;> exact h
def BR[Decidable c](a:c->p)(b:¬c->q):Br (decide c) p q:=by
 by_cases h:c
 .rw[decide_eq_true h];exact a h
 .rw[decide_eq_false h];exact b h
def AM9[Decidable c](h:c)(a:p):Br (decide c) p q:=BR (λ_=>a) (λn=>absurd h n)
def ANA[Decidable c](h:¬c)(a:q):Br (decide c) p q:=BR (λn=>absurd n h) (λ_=>a)
def Tq(e:b=true)(h:p):Br b p q:=by rw[e];exact h
def Jn(e:b=false)(h:q):Br b p q:=by rw[e];exact h
def Fq(a:b=true->p)(c:b=false->q):Br b p q:=by
 cases b
 .exact c rfl
 .exact a rfl
def ALM{Q:Bool->Prop}(h:Q b):Jz (.bl b) Q:=⟨_,rfl,h⟩
def ALL{i:Int}{Q:Int->Prop}(h:Q i):UL (.int i) Q:=⟨_,rfl,h⟩
def AJz{z:Str}(h:p):Ov "str" (.str z) L p:=⟨rfl,h⟩
def Vq{k:Nat}{xs:List D}(e:L[k]?=some (.lst xs))(h:p):Ov "list" (.ref k) L p:=⟨by simp[JP,e],h⟩
def W2.mono{o:Option (U×AB)}{Q Q':U->AB->Prop}(h:W2 o Q)(i:∀a L,Q a L->Q' a L):W2 o Q':=let ⟨a,L,e,q⟩:=h;⟨a,L,e,i a L q⟩
def W2.mk{o:Option (U×AB)}{Q:U->AB->Prop}{a:U}(e:o=some (a,L))(h:Q a L):W2 o Q:=⟨a,L,e,h⟩
def W2.get{o:Option (U×AB)}{a:U}(h:W2 o λb c=>b=a/\c=L):o=some (a,L):=by obtain⟨b,c,e,rfl,rfl⟩:=h;exact e
def W1.mk{o:Option U}{Q:U->Prop}{a:U}(e:o=some a)(h:Q a):W1 o Q:=⟨a,e,h⟩
def WS.mono{o:Option GS}{g b:Fm->AB->Prop}{j f:APT}{bk d i c:Fm->AB->Prop}(h:WS o g j bk i)(m:∀a L,g a L->b a L)(l:∀a L,j a L->f a L)(k:∀a L,bk a L->d a L)(n:∀a L,i a L->c a L):WS o b f d c:=by
 obtain⟨x,e,h⟩:=h;refine⟨x,e,?_⟩;cases x
 .exact m _ _ h
 .exact l _ _ h
 .exact k _ _ h
 .exact n _ _ h
section
variable {Q:APT}{QT:Bool->AB->Prop}{QA:List D->AB->Prop}{QO:Option Int->AB->Prop}{f g h:EF}{t u:TF}{a:AF}
def Vk{d:D}(h:Q d L):W2 (AD d Z L) Q:=⟨d,L,rfl,h⟩
def Rs{i:Nat}{d:D}(e:Z[i]?=some (some d))(h:Q d L):W2 (AA i Z L) Q:=⟨d,L,by unfold AA;rw[e],h⟩
def Vm{o:G2}(h:W2 (f Z L) λx a=>W2 (g Z a) λy b=>W2 (o x y b) Q):W2 (AE o f g Z L) Q:=by obtain⟨x,a,i,y,b,d,z,c,e,q⟩:=h;exact⟨z,c,by unfold AE;rw[i,AX,d,AX];exact e,q⟩
def AJf{o:G1}(h:W2 (f Z L) λx a=>W2 (o x a) Q):W2 (BG o f Z L) Q:=by obtain⟨x,a,d,z,b,c,q⟩:=h;exact⟨z,b,by unfold BG;rw[d,AX];exact c,q⟩
def AJt(h:W2 (f Z L) λd a=>Jz d λb=>QT b a):W2 (AS f Z L) QT:=by obtain⟨x,a,c,b,rfl,q⟩:=h;exact⟨b,a,by unfold AS;rw[c];rfl,q⟩
def AJm(h:W2 (t Z L) λb a=>QT (!b) a):W2 (Da t Z L) QT:=by obtain⟨x,a,c,q⟩:=h;exact⟨_,a,by unfold Da;rw[c];rfl,q⟩
def AJw(h:W2 (t Z L) λb a=>Br b (W2 (u Z a) QT) (QT false a)):W2 (IR t u Z L) QT:=by
 obtain⟨x,a,c,q⟩:=h;cases x
 .exact⟨false,a,by unfold IR;rw[c];rfl,q⟩
 .obtain⟨y,L2,e2,q⟩:=q;exact⟨y,L2,by unfold IR;rw[c];exact e2,q⟩
def AJk(h:W2 (t Z L) λb a=>Br b (QT true a) (W2 (u Z a) QT)):W2 (DI t u Z L) QT:=by
 obtain⟨x,a,c,q⟩:=h;cases x
 .obtain⟨y,L2,e2,q⟩:=q;exact⟨y,L2,by unfold DI;rw[c];exact e2,q⟩
 .exact⟨true,a,by unfold DI;rw[c];rfl,q⟩
def AJh(h:QT true L):W2 (By Z L) QT:=⟨_,_,rfl,h⟩
def AJv(h:W2 (f Z L) λd a=>Jz d λb=>Br b (W2 (g Z a) Q) (Q (.bl false) a)):W2 (Ep f g Z L) Q:=by
 obtain⟨x,a,c,b,rfl,q⟩:=h;cases b
 .exact⟨_,a,by unfold Ep;rw[c];rfl,q⟩
 .obtain⟨y,L2,e2,q⟩:=q;exact⟨y,L2,by unfold Ep;rw[c];exact e2,q⟩
def AJj(h:W2 (f Z L) λd a=>Jz d λb=>Br b (Q (.bl true) a) (W2 (g Z a) Q)):W2 (LM f g Z L) Q:=by
 obtain⟨x,a,c,b,rfl,q⟩:=h;cases b
 .obtain⟨y,L2,e2,q⟩:=q;exact⟨y,L2,by unfold LM;rw[c];exact e2,q⟩
 .exact⟨_,a,by unfold LM;rw[c];rfl,q⟩
def AJl(h:W2 (f Z L) λd a=>Jz d λb=>Q (.bl (!b)) a):W2 (LN f Z L) Q:=by obtain⟨x,a,c,b,rfl,q⟩:=h;exact⟨_,a,by unfold LN;rw[c];rfl,q⟩
def AJq(h:W2 (t Z L) λb a=>Br b (W2 (f Z a) Q) (W2 (g Z a) Q)):W2 (GI t f g Z L) Q:=by
 obtain⟨x,a,c,q⟩:=h;cases x
 .obtain⟨y,L2,e2,q⟩:=q;exact⟨y,L2,by unfold GI;rw[c];exact e2,q⟩
 .obtain⟨y,L2,e2,q⟩:=q;exact⟨y,L2,by unfold GI;rw[c];exact e2,q⟩
def Vj(h:QA [] L):W2 (AG Z L) QA:=⟨_,_,rfl,h⟩
def Vl(h:W2 (f Z L) λd c=>W2 (a Z c) λg b=>QA (d::g) b):W2 (AC f a Z L) QA:=by obtain⟨x,c,i,y,b,e,q⟩:=h;exact⟨_,b,by unfold AC;rw[i,AX,e];rfl,q⟩
def AJg(h:W2 (a Z L) λc b=>UK c.length (Q (.tup c) b)):W2 (Bg a Z L) Q:=by obtain⟨x,b,d,e,q⟩:=h;exact⟨_,b,by unfold Bg;rw[d,AX];simp only;rw[if_pos e],q⟩
def ABv(h:W2 (a Z L) λc b=>UK c.length (Q (.ref b.length) (b++[.lst c]))):W2 (Bh a Z L) Q:=by obtain⟨x,b,d,e,q⟩:=h;exact⟨_,_,by unfold Bh;rw[d,AX];simp only;rw[if_pos e],q⟩
def AJs{o:GL}(h:W2 (a Z L) λd b=>W2 (o d b) Q):W2 (AK o a Z L) Q:=by obtain⟨x,b,e,y,f,c,q⟩:=h;exact⟨_,f,by unfold AK;rw[e,AX];exact c,q⟩
def AJo{T:String}{o:GM}(h:W2 (f Z L) λx b=>Ov T x b (W2 (a Z b) λi c=>W2 (o x i c) Q)):W2 (CC T o f a Z L) Q:=by obtain⟨x,b,j,ty,y,c,e,z,d,g,q⟩:=h;exact⟨_,d,by unfold CC;rw[j,AX];simp only;rw[if_pos ty,e,AX];exact g,q⟩
def AJn(h:QO none L):W2 (FN Z L) QO:=⟨_,_,rfl,h⟩
def AJu(h:W2 (f Z L) λd a=>UL d λi=>QO (some i) a):W2 (CU f Z L) QO:=by obtain⟨x,a,c,b,rfl,q⟩:=h;exact⟨_,a,by unfold CU;rw[c];rfl,q⟩
def AJi{e d:OF}(h:W2 (f Z L) λx a=>W2 (e Z a) λg c=>W2 (d Z c) λn b=>W2 (Jd x g n b) Q):W2 (DY f e d Z L) Q:=by obtain⟨x,a,m,y,c,i,z,b,j,v,l,k,q⟩:=h;exact⟨_,l,by unfold DY;rw[m,AX,i,AX,j,AX];exact k,q⟩
def ABx{i:IF}{n:Nat}{b:AOy}{f:GF}{c:TF}{d:EF}(h:WI (i Z L) λa ok e=>W1 (DK ok f c d e.length a (Hn n b Z) (e++[.lst []])) λg=>Q (.ref e.length) g):W2 (Bk i n b f c d Z L) Q:=by obtain⟨x,k,e,l,g,j,q⟩:=h;exact⟨_,_,by unfold Bk;rw[l,AX];simp only;rw[j];rfl,q⟩
end
section
variable {Q:List D->(AB->Bool)->AB->Prop}{f:EF}{a:AF}
def AJX(h:W2 (f Z L) λd a=>WI ((JZ d a).bind λJ=>some (J,a)) Q):WI (BN f Z L) Q:=by obtain⟨x,a,c,y,k,e,b,q⟩:=h;exact⟨y,k,e,by unfold BN;rw[c,AX];exact b,q⟩
def AJP{xs:List D}(h:Q xs (λ_=>true) L):WI ((JZ (.tup xs) L).bind λJ=>some (J,L)) Q:=⟨_,_,_,rfl,h⟩
def AJS{k:Nat}{xs:List D}(e:L[k]?=some (.lst xs))(h:Q xs (λa=>decide (a[k]?=some (.lst xs))) L):WI ((JZ (.ref k) L).bind λJ=>some (J,L)) Q:=⟨_,_,_,by simp only[JZ,e];rfl,h⟩
def AJR(h:W2 (a Z L) λc b=>∃j:Int,c=[.int j]/\(j<=4611686018427387903/\-4611686018427387904<=j)/\Q (Ey 0 j.toNat) (λ_=>true) b):WI (Gi a Z L) Q:=by obtain⟨x,b,d,j,rfl,e,q⟩:=h;exact⟨_,_,b,by unfold Gi;rw[d,AX];simp only;rw[if_pos e],q⟩
def AJQ(h:W2 (a Z L) λc b=>∃i j:Int,c=[.int i,.int j]/\((i<=4611686018427387903/\-4611686018427387904<=i)/\(j<=4611686018427387903/\-4611686018427387904<=j))/\Q (Ey i (j-i).toNat) (λ_=>true) b):WI (OL a Z L) Q:=by obtain⟨x,b,d,i,j,rfl,e,q⟩:=h;exact⟨_,_,b,by unfold OL;rw[d,AX];simp only;rw[if_pos e],q⟩
def AJW(h:W2 (a Z L) λd b=>∃y:Str,d=[.str y]/\Q (FV (sgs y)) (λ_=>true) b):WI (ON a Z L) Q:=by obtain⟨x,b,c,y,rfl,q⟩:=h;exact⟨_,_,b,by unfold ON;rw[c,AX],q⟩
end
def WS.inx{o:Option GS}{b:Fm->AB->Prop}{c:APT}{bk d:Fm->AB->Prop}{a:Fm}{L':AB}(e:o=some (.next a L'))(q:b a L'):WS o b c bk d:=⟨_,e,q⟩
def WS.irt{o:Option GS}{b:Fm->AB->Prop}{a:APT}{bk c:Fm->AB->Prop}{d:D}{L':AB}(e:o=some (.ret d L'))(q:a d L'):WS o b a bk c:=⟨_,e,q⟩
def WS.ibk{o:Option GS}{c:Fm->AB->Prop}{b:APT}{bk d:Fm->AB->Prop}{a:Fm}{L':AB}(e:o=some (.brk a L'))(q:bk a L'):WS o c b bk d:=⟨_,e,q⟩
def WS.ict{o:Option GS}{d:Fm->AB->Prop}{c:APT}{bk b:Fm->AB->Prop}{a:Fm}{L':AB}(e:o=some (.cont a L'))(q:b a L'):WS o d c bk b:=⟨_,e,q⟩
section
variable {nx:Fm->AB->Prop}{rt:APT}{bk ct:Fm->AB->Prop}{f g:SF}{t:TF}{e:EF}
def AJF(h:nx Z L):WS (Au Z L) nx rt bk ct:=⟨_,rfl,h⟩
def AJK(h:bk Z L):WS (Tp Z L) nx rt bk ct:=⟨_,rfl,h⟩
def Nb(h:WS (f Z L) (λc a=>WS (g c a) nx rt bk ct) rt bk ct):WS (AJ f g Z L) nx rt bk ct:=by
 obtain⟨x,b,q⟩:=h
 cases x with
 |next c a=>obtain⟨y,e,q⟩:=q;exact⟨y,by unfold AJ;rw[b];exact e,q⟩
 |ret d a=>exact WS.irt (by unfold AJ;rw[b];rfl) q
 |brk d a=>exact WS.ibk (by unfold AJ;rw[b];rfl) q
 |cont d a=>exact WS.ict (by unfold AJ;rw[b];rfl) q
def Na{i:Nat}(h:W2 (e Z L) λd b=>nx (Z.set i (some d)) b):WS (AR i e Z L) nx rt bk ct:=by obtain⟨x,c,a,q⟩:=h;exact WS.inx (by unfold AR;rw[a];rfl) q
def AJC(h:W2 (e Z L) rt):WS (AU e Z L) nx rt bk ct:=by obtain⟨x,b,a,q⟩:=h;exact WS.irt (by unfold AU;rw[a];rfl) q
def AJI(h:W2 (e Z L) λ_ b=>nx Z b):WS (Dh e Z L) nx rt bk ct:=by obtain⟨x,c,a,q⟩:=h;exact WS.inx (by unfold Dh;rw[a];rfl) q
def AJG(h:W2 (t Z L) λb c=>Br b (WS (f Z c) nx rt bk ct) (WS (g Z c) nx rt bk ct)):WS (Ao t f g Z L) nx rt bk ct:=by
 obtain⟨x,d,a,q⟩:=h;cases x
 .obtain⟨y,e2,q⟩:=q;exact⟨y,by unfold Ao;rw[a];exact e2,q⟩
 .obtain⟨y,e2,q⟩:=q;exact⟨y,by unfold Ao;rw[a];exact e2,q⟩
def AJH{e:IF}{d:GF}{a:SF}(h:WI (e Z L) λb ok c=>WS (Dn ok d a b Z c) nx rt bk ct):WS (Bi e d a Z L) nx rt bk ct:=by obtain⟨x,k,c,g,y,f,q⟩:=h;exact⟨y,by unfold Bi;rw[g,AX];exact f,q⟩
def ws_loop_nil{ok:AB->Bool}{b:GF}{a:SF}(c:ok L=true)(h:nx Z L):WS (Dn ok b a [] Z L) nx rt bk ct:=WS.inx (by unfold Dn;rw[if_pos c]) h
def Ht{ok:AB->Bool}{f:GF}{a:SF}{x:D}{xs:List D}(i:ok L=true)(h:W1 (f x Z) λk=>WS (a k L) (λc b=>WS (Dn ok f a xs c b) nx rt bk ct) rt nx (λc b=>WS (Dn ok f a xs c b) nx rt bk ct)):WS (Dn ok f a (x::xs) Z L) nx rt bk ct:=by
 obtain⟨k,g,y,e,q⟩:=h
 cases y with
 |next c b=>obtain⟨z,j,q⟩:=q;exact⟨z,by unfold Dn;rw[if_pos i,g,AX,e];exact j,q⟩
 |cont c b=>obtain⟨z,j,q⟩:=q;exact⟨z,by unfold Dn;rw[if_pos i,g,AX,e];exact j,q⟩
 |ret d b=>exact WS.irt (by unfold Dn;rw[if_pos i,g,AX,e];rfl) q
 |brk c b=>exact WS.inx (by unfold Dn;rw[if_pos i,g,AX,e];rfl) q
def BW{f g:SF}(P:(Fm->AB->Prop)->Prop)(b:∀C,P C->WS (f Z L) C rt bk ct)(c:P λa d=>WS (g a d) nx rt bk ct):WS (AJ f g Z L) nx rt bk ct:=Nb (b _ c)
def Do{C:Fm->AB->Prop}{L':AB}(h:C Z L)(e:L'=L):C Z L':=e▸h
def CN{ok:AB->Bool}{e:GF}{b:SF}(I:Nat->(Fm->AB->Prop)->Prop)(a:List D)(j:Nat)(Z:Fm)(L:AB)(h0:∀C:Fm->AB->Prop,I j C->C Z L)
  (st:∀i x,a[i]?=some x->∀C c:Fm->AB->Prop,(∀Z L,ok L=true->W1 (e x Z) (λk=>WS (b k L) C rt nx C)->c Z L)->I (j+i+1) C->I (j+i) c)
  (d:∀c:Fm->AB->Prop,(∀Z L,ok L=true->nx Z L->c Z L)->I (j+a.length) c):WS (Dn ok e b a Z L) nx rt bk ct:=by
 refine h0 (λZ L=>WS (Dn ok e b a Z L) nx rt bk ct) ?_;clear h0
 induction a generalizing j with
 |nil=>exact d _ λZ L f g=>ws_loop_nil f g
 |cons y h l =>
  refine st 0 y rfl _ _ (λZ L f g=>Ht f g) (l (j+1) (λi z m C c=>?_) λc=>?_)
  .have:=st (i+1) z (by simpa using m) C c
   rwa [show j+(i+1)=j+1+i by omega] at this
  .have:=d c
   rwa [Dm,show j+(h.length+1)=j+1+h.length by omega] at this
end
section
variable {Q:Fm->Prop}{gf:GF}{gs:FF}
def Rq{i:Nat}{d:D}(h:Q (Z.set i (some d))):W1 (Aa i d Z) Q:=⟨_,rfl,h⟩
def AJY{n:Nat}{ds:List D}(e:ds.length=n)(h:W1 (gs ds Z) Q):W1 (EX n gs (.tup ds) Z) Q:=by obtain⟨a,b,q⟩:=h;exact⟨a,by unfold EX;simp only;rw[if_pos e];exact b,q⟩
def AJZ(h:Q Z):W1 (EJ [] Z) Q:=⟨_,rfl,h⟩
def AJa{d:D}{ds:List D}(h:W1 (gf d Z) λa=>W1 (gs ds a) Q):W1 (Bc gf gs (d::ds) Z) Q:=by obtain⟨f,e,c,b,q⟩:=h;exact⟨c,by unfold Bc;simp only;rw[e];exact b,q⟩
end
def wc_nil{ok:AB->Bool}{g:GF}{c:TF}{a:EF}{k:Nat}{Q:AB->Prop}(b:ok L=true)(h:Q L):W1 (DK ok g c a k [] Z L) Q:=⟨_,by unfold DK;rw[if_pos b],h⟩
def ABr{ok:AB->Bool}{g:GF}{c:TF}{a:EF}{k:Nat}{x:D}{xs:List D}{Q:AB->Prop}(n:ok L=true)
  (h:W1 (g x Z) λe=>W2 (c e L) λb j=>Br b (W2 (a e j) λd i=>∃f,i[k]?=some (.lst f)/\f.length<16777216/\W1 (DK ok g c a k xs e (i.set k (.lst (f++[d])))) Q) (W1 (DK ok g c a k xs e j) Q)) :
  W1 (DK ok g c a k (x::xs) Z L) Q:=by
 obtain⟨e,m,b,j,l,q⟩:=h;cases b
 .obtain⟨z,e3,q⟩:=q;exact⟨z,by unfold DK;rw[if_pos n,m,AX,l,AX];exact e3,q⟩
 .obtain⟨d,i,e3,f,e4,hz,z,e5,q⟩:=q;refine⟨z,?_,q⟩;unfold DK;rw[if_pos n,m,AX,l,AX];simp only[if_true];rw[e3,AX];simp only;rw[e4];simp only;rw[if_pos hz];exact e5
def Ew{ok:AB->Bool}{g:GF}{c:TF}{f:EF}{k:Nat}{Q:AB->Prop}(I:Nat->(Fm->AB->Prop)->Prop)(a:List D)(j:Nat)(Z:Fm)(L:AB)(h0:∀C:Fm->AB->Prop,I j C->C Z L)
  (st:∀i x,a[i]?=some x->∀C e:Fm->AB->Prop,(∀Z L,ok L=true->(W1 (g x Z) λm=>W2 (c m L) λb q=>Br b (W2 (f m q) λd p=>∃h,p[k]?=some (.lst h)/\h.length<16777216/\C m (p.set k (.lst (h++[d])))) (C m q))->e Z L)->I (j+i+1) C->I (j+i) e)
  (l:∀e:Fm->AB->Prop,(∀Z L,ok L=true->Q L->e Z L)->I (j+a.length) e):W1 (DK ok g c f k a Z L) Q:=by
 refine h0 (λZ L=>W1 (DK ok g c f k a Z L) Q) ?_;clear h0
 induction a generalizing j with
 |nil=>exact l _ λZ L n o=>wc_nil n o
 |cons y h r =>
  refine st 0 y rfl _ _ (λZ L n o=>ABr n o) (r (j+1) (λi z s C e=>?_) λe=>?_)
  .have:=st (i+1) z (by simpa using s) C e
   rwa [show j+(i+1)=j+1+i by omega] at this
  .have:=l e
   rwa [Dm,show j+(h.length+1)=j+1+h.length by omega] at this
def Nc{g:GF}{c:TF}{p:EF}{m:AB}{Q:AB->Prop}(P:Fm->Prop)(f:D->Option D)(a:List D)(Z:Fm)
  (r:P Z) (hz:a.length<=16777216)
  (h:∀x∈a,∀Z,P Z->W1 (g x Z) λn=>P n/\∀l,W2 (c n (m++[.lst l])) λb t=>t=m++[.lst l]/\Br b (W2 (p n (m++[.lst l])) λd s=>s=m++[.lst l]/\f x=some d) (f x=none))
  (q:Q (m++[.lst (a.filterMap f)])):W1 (DK (λ_=>true) g c p m.length a Z (m++[.lst []])) Q:=by
 refine Ew (λj C=>∀Z,P Z->C Z (m++[Ob.lst ((a.take j).filterMap f)])) a 0 Z _ (λC k=>k _ r) ?_ ?_
 .rintro i x e C C' fi kk Z r;refine fi _ _ rfl ?_;have hi:i<a.length:=(Ax.mp e).1;have z:x∈a:=BY e;obtain⟨n,w,o,y⟩:=h x z Z r;obtain⟨b,t,v,rfl,q⟩:=y ((a.take (0+i)).filterMap f);refine⟨n,w,b,_,v,?_⟩
  have u:a.take (0+i+1)=a.take (0+i)++[x]:=by rw[BM,Gw,e];rfl
  cases b
  .have q':f x=none:=q;refine Do (kk _ o) ?_;rw[u,AOP];simp[q']
  .obtain⟨d,s,e3,rfl,q⟩:=q;refine⟨d,_,e3,(a.take (0+i)).filterMap f,by simp,?_,Do (kk _ o) ?_⟩
   .refine Nat.lt_of_le_of_lt (AOZ _ _) ?_;simp;omega
   .rw[u,AOP];simp[q]
 .rintro C' fi Z _;exact fi _ _ rfl (by simpa using q)
section
variable {Q:APT}{B:SF}{N:AOt}{n:Nat}{xs:List D}
noncomputable abbrev RtP(L:AB)(Q:APT):APT:=λd L2=>d.noRef=true/\L <+: L2/\Q d L
noncomputable abbrev NxP(L:AB)(Q:APT):Fm->AB->Prop:=λ_ L2=>L <+: L2/\Q .non L
noncomputable abbrev RtR(Q:APT):APT:=λd L2=>d.noRef=false/\Q d L2
noncomputable abbrev Iy:Fm->AB->Prop:=λ_ _=>False
def BP(c:xs.length=n)(h:WS (B (GA N xs) L) (NxP L Q) (RtP L Q) Iy Iy):W2 (Aj B N n xs L) Q:=by
 obtain⟨x,e,q⟩:=h;have b:∀a:AB,L <+: a->a.take L.length=L:=λa f=>by obtain⟨M,rfl⟩:=f;simp
 cases x with
 |next Z a=>exact⟨_,_,by unfold Aj;rw[if_pos c,e];simp only;rw[if_pos (b _ q.1)],q.2⟩
 |ret d a=>exact⟨_,_,by unfold Aj;rw[if_pos c,e];simp only;rw[if_pos ⟨q.1,b _ q.2.1⟩],q.2.2⟩
 |brk Z a=>exact q.elim
 |cont Z a=>exact q.elim
def Fe(b:xs.length=n)(h:WS (B (GA N xs) L) Iy (RtR Q) Iy Iy):W2 (Aj B N n xs L) Q:=by
 obtain⟨x,e,q⟩:=h
 cases x with
 |next Z a=>exact q.elim
 |ret d a=>exact⟨_,_,by unfold Aj;rw[if_pos b,e];simp only;rw[if_neg (λh=>by rw[q.1] at h;cases h.1)],q.2⟩
 |brk Z a=>exact q.elim
 |cont Z a=>exact q.elim
end
section
variable {Q:APT}{i j:Int}{x y:Str}
def AG7(h:Q (.int (i+j)) L):W2 (BE (.int i) (.int j) L) Q:=⟨_,_,rfl,h⟩
def OX(hz:x.length+y.length<=16777216)(h:Q (.str (x++y)) L):W2 (BE (.str x) (.str y) L) Q:=⟨_,_,by unfold BE;simp only;rw[if_pos hz],h⟩
def TZ{a b:Nat}{xs c:List D}(e:L[a]?=some (.lst xs))(d:L[b]?=some (.lst c))(hz:xs.length+c.length<=16777216)(h:Q (.ref L.length) (L++[.lst (xs++c)])):W2 (BE (.ref a) (.ref b) L) Q:=⟨_,_,by unfold BE;simp only;rw[e,d];simp only;rw[if_pos hz],h⟩
def ALX(h:Q (.int (i-j)) L):W2 (Fk (.int i) (.int j) L) Q:=⟨_,_,rfl,h⟩
def Ca(a:cMul i j=true)(h:Q (.int (i*j)) L):W2 (CI (.int i) (.int j) L) Q:=⟨_,_,by unfold CI;simp only;rw[if_pos a],h⟩
def AGy(a:JT x j=true)(h:Q (.str (Txt.mul x j)) L):W2 (CI (.str x) (.int j) L) Q:=⟨_,_,by unfold CI;simp only;rw[if_pos a],h⟩
def AG4(a:Lp i j=true)(h:Q (.int (i / j)) L):W2 (Cd (.int i) (.int j) L) Q:=⟨_,_,by unfold Cd gI;simp only;rw[if_pos a],h⟩
def AGz(a:Om i j=true)(h:Q (.int (i % j)) L):W2 (BK (.int i) (.int j) L) Q:=⟨_,_,by unfold BK gI;simp only;rw[if_pos a],h⟩
def AGx(a:To i j=true)(h:Q (.int (i ^ j.toNat)) L):W2 (Gj (.int i) (.int j) L) Q:=⟨_,_,by unfold Gj gI;simp only;rw[if_pos a],h⟩
def ALd(h:Q (.int (-i)) L):W2 (HK (.int i) L) Q:=⟨_,_,rfl,h⟩
def ALi(h:Q (.bl (decide (i<j))) L):W2 (gLt (.int i) (.int j) L) Q:=⟨_,_,rfl,h⟩
def ALp(h:Q (.bl (decide (i<=j))) L):W2 (Oc (.int i) (.int j) L) Q:=⟨_,_,rfl,h⟩
def ALv(h:Q (.bl (decide (j<i))) L):W2 (Fl (.int i) (.int j) L) Q:=⟨_,_,rfl,h⟩
def ALw(h:Q (.bl (decide (j<=i))) L):W2 (Oe (.int i) (.int j) L) Q:=⟨_,_,rfl,h⟩
def Iq{p q:Prop}[Decidable p][Decidable q](h:p↔q):decide p=decide q:=by
 by_cases a:p
 .rw[decide_eq_true a,decide_eq_true (h.mp a)]
 .rw[decide_eq_false a,decide_eq_false (λb=>a (h.mpr b))]
def Ta{a b:D}(c:Ex a b=true)(h:Q (.bl (decide (a=b))) L):W2 (Ba a b L) Q:=⟨_,_,by unfold Ba;rw[if_pos c],h⟩
def Yo{a b:D}(c:Ex a b=true)(h:Q (.bl (!decide (a=b))) L):W2 (FR a b L) Q:=⟨_,_,by unfold FR;rw[if_pos c],h⟩
def AL0(h:Q (.bl (decide (i=j))) L):W2 (Ba (.int i) (.int j) L) Q:=Ta rfl (by rw[Iq (show D.int i=D.int j↔i=j by simp)];exact h)
def ALy(h:Q (.bl (decide (x=y))) L):W2 (Ba (.str x) (.str y) L) Q:=Ta rfl (by rw[Iq (show D.str x=D.str y↔x=y by simp)];exact h)
def ALf(h:Q (.bl (!decide (i=j))) L):W2 (FR (.int i) (.int j) L) Q:=Yo rfl (by rw[Iq (show D.int i=D.int j↔i=j by simp)];exact h)
def ALe(h:Q (.bl (!decide (x=y))) L):W2 (FR (.str x) (.str y) L) Q:=Yo rfl (by rw[Iq (show D.str x=D.str y↔x=y by simp)];exact h)
def ALz(h:Q (.bl false) L):W2 (Ba .non (.str y) L) Q:=Ta rfl (by rw[decide_eq_false (by intro z;cases z)];exact h)
def ALs{a:D}(h:Q (.bl (Hi a)) L):W2 (IJ a .non L) Q:=⟨_,_,rfl,h⟩
def ALr{a:D}(h:Q (.bl (!Hi a)) L):W2 (Ij a .non L) Q:=⟨_,_,rfl,h⟩
def ALu(h:Q (.bl (GH x y)) L):W2 (Cc false (.str x) (.str y) L) Q:=⟨_,_,rfl,h⟩
def Od{a:Bool}{d e:D}{b:List D}(h0:∀i j,d=.str i->e=.str j->False)(f:Cq e L=some b)(c:(BA d&&b.all BA)=true)(h:Q (.bl (if a then !DB d b else DB d b)) L):W2 (Cc a d e L) Q:=by
 refine⟨_,_,?_,h⟩;unfold Cc;split
 .exact(h0 _ _ rfl rfl).elim
 .rw[f];simp only;rw[if_pos c]
def LX{d:D}{a:List D}(b:(BA d&&a.all BA)=true)(h:Q (.bl (DB d a)) L):W2 (Cc false d (.tup a) L) Q:=Od (λ_ _ _ z=>by cases z) rfl b h
def OU{d:D}{a:List D}(b:(BA d&&a.all BA)=true)(h:Q (.bl (!DB d a)) L):W2 (Cc true d (.tup a) L) Q:=Od (λ_ _ _ z=>by cases z) rfl b h
def AG3{d:D}{k:Nat}{a:List D}(e:L[k]?=some (.lst a))(b:(BA d&&a.all BA)=true)(h:Q (.bl (DB d a)) L):W2 (Cc false d (.ref k) L) Q:=Od (λ_ _ _ z=>by cases z) (by simp[Cq,e]) b h
def OV{d:D}{k:Nat}{a:List D}(e:L[k]?=some (.lst a))(b:(BA d&&a.all BA)=true)(h:Q (.bl (!DB d a)) L):W2 (Cc true d (.ref k) L) Q:=Od (λ_ _ _ z=>by cases z) (by simp[Cq,e]) b h
def TU{c:Nat}(e:atI x.cps.toList i=some c)(h:Q (.str ⟨#[c]⟩) L):W2 (AN (.str x) (.int i) L) Q:=⟨_,_,by unfold AN;simp only;rw[e],h⟩
def ALq{xs:List D}{d:D}(e:atI xs i=some d)(h:Q d L):W2 (AN (.tup xs) (.int i) L) Q:=⟨_,_,by unfold AN;simp only[Cq];rw[e],h⟩
def Yl{xs:List D}{d:D}(e:atI xs i=some d)(h:Q d L):W2 (AN (.fz xs) (.int i) L) Q:=⟨_,_,by unfold AN;simp only[Cq];rw[e],h⟩
def BZ{k:Nat}{xs:List D}{d:D}(a:L[k]?=some (.lst xs))(e:atI xs i=some d)(h:Q d L):W2 (AN (.ref k) (.int i) L) Q:=⟨_,_,by unfold AN;simp only[Cq,a];rw[e],h⟩
def ALZ{a b:Option Int}(h:Q (.str (Txt.slice x a b)) L):W2 (Jd (.str x) a b L) Q:=⟨_,_,rfl,h⟩
def ALa{a b:Option Int}{k:Nat}{xs:List D}(e:L[k]?=some (.lst xs))(h:Q (.ref L.length) (L++[.lst (cutD xs a b)])):W2 (Jd (.ref k) a b L) Q:=⟨_,_,by unfold Jd;simp only[e],h⟩
def ALl(h:Q (.int (x.length:Int)) L):W2 (BQ [.str x] L) Q:=⟨_,_,rfl,h⟩
def ALk{xs:List D}(h:Q (.int (xs.length:Int)) L):W2 (BQ [.tup xs] L) Q:=⟨_,_,rfl,h⟩
def ALn{xs:List D}(h:Q (.int (xs.length:Int)) L):W2 (BQ [.fz xs] L) Q:=⟨_,_,rfl,h⟩
def ALm{k:Nat}{xs:List D}(e:L[k]?=some (.lst xs))(h:Q (.int (xs.length:Int)) L):W2 (BQ [.ref k] L) Q:=⟨_,_,by simp only[BQ,Cq,e],h⟩
def AL1(h:Q (.int (if i<0 then -i else i)) L):W2 (Jg [.int i] L) Q:=⟨_,_,rfl,h⟩
def ALh(h:Q (.int (if j>i then j else i)) L):W2 (Oa [.int i,.int j] L) Q:=⟨_,_,rfl,h⟩
def ALg(h:Q (.int (if j<i then j else i)) L):W2 (Je [.int i,.int j] L) Q:=⟨_,_,rfl,h⟩
def ALt{b:Bool}(h:Q (.int (if b then 1 else 0)) L):W2 (IK [.bl b] L) Q:=⟨_,_,rfl,h⟩
def ALW{k:Nat}{xs:List D}(e:L[k]?=some (.lst xs))(h:Q (.tup xs) L):W2 (Fj [.ref k] L) Q:=⟨_,_,by simp only[Fj,Cq,e],h⟩
def Ym{d:D}{t T:String}{b:Bool}(c:["int","str","bool","list","tuple","dict"].contains T=true)(e:Ff d L=some t)(a:Jc t T=b)(h:Q (.bl b) L):W2 (DS [d,.ty T] L) Q:=⟨_,_,by simp only[DS];rw[if_pos c,e,<-a];rfl,h⟩
def Yn{k:Nat}{ds:List D}{bs:List Bool}(e:L[k]?=some (.lst ds))(a:blsD ds=some bs)(h:Q (.bl (bs.all id)) L):W2 (Jf [.ref k] L) Q:=⟨_,_,by simp only[Jf,e,a],h⟩
def AG2{k:Nat}{ds:List D}{a:AOt}(e:L[k]?=some (.lst ds))(b:Bp ds=some a)(hz:(a.map (·.length)).sum+a.length*x.length<=16777216)(h:Q (.str (Txt.join x a)) L):W2 (Lg (.str x) [.ref k] L) Q:=⟨_,_,by simp only[Lg,Cq,e,b];rw[if_pos hz],h⟩
def GJ{k:Nat}{ds:List D}{d:D}(e:L[k]?=some (.lst ds))(hz:ds.length<16777216)(h:Q .non (L.set k (.lst (ds++[d])))):W2 (El (.ref k) [d] L) Q:=⟨_,_,by simp only[El,e];rw[if_pos hz],h⟩
def ALb{f:Str->Bool}(h:Q (.bl (f x)) L):W2 (Hm f (.str x) [] L) Q:=⟨_,_,rfl,h⟩
def OS{f:Str->Str}(hz:(f x).length<=16777216)(h:Q (.str (f x)) L):W2 (gS0s f (.str x) [] L) Q:=⟨_,_,by simp only[gS0s];rw[if_pos hz],h⟩
end
end
def AGI{n:Nat}{p:Prop}(h:Nat.ble n 16777216=true)(a:p):UK n p:=⟨Nat.le_of_ble_eq_true h,a⟩
def AW{U:Type}{L:List U}{a:U}:(L++[a])[L.length]?=some a:=by simp
def AQ{U:Type}{L M:List U}{k:Nat}{a:U}(h:L[k]?=some a):(L++M)[k]?=some a:=by rw[FK (Ax.mp h).1];exact h
def Ci{U:Type}{L:List U}{k:Nat}{a b:U}(h:L[k]?=some b):(L.set k a)[k]?=some a:=by rw[ANe (Ax.mp h).1]
def Fh{U:Type}{L:List U}{k j:Nat}{a b:U}(n:j≠k)(h:L[k]?=some b):(L.set j a)[k]?=some b:=by rw[ER n];exact h
def Hz{U:Type}{L b:List U}{k:Nat}{a:U}(h:L <+: b)(c:L.length<=k):L <+: b.set k a:=by obtain⟨M,rfl⟩:=h;rw[List.set_append,if_neg (by omega)];exact Ac _ _
section
variable {Q:APT}{L:AB}
def ALc(h:Q (.int 10000000000000000000000000000000000000000) L):W2 (Gj (.int 10) (.int 40) L) Q:=AGx (by decide) (by have e:(10:Int) ^ (40:Int).toNat=10000000000000000000000000000000000000000:=(by decide);(rw[e];exact h))
end
section
variable {p q:Prop}
def AM6(h:p):Br (Hi .non) p q:=h
def AM7{i:Int}(h:q):Br (Hi (.int i)) p q:=h
def AM4{i:List D}(h:q):Br (Hi (.tup i)) p q:=h
def AM5{i:Nat}(h:q):Br (Hi (.ref i)) p q:=h
end
def TV{Q:APT}{L:AB}{d:D}{t T:String}(b:["int","str","bool","list","tuple","dict"].contains T=true)(e:Ff d L=some t)(a:Jc t T=true)(h:Q (.bl true) L):W2 (DS [d,.ty T] L) Q:=Ym b e a h
def Fi{Q:APT}{L:AB}{d:D}{t T:String}(b:["int","str","bool","list","tuple","dict"].contains T=true)(e:Ff d L=some t)(a:Jc t T=false)(h:Q (.bl false) L):W2 (DS [d,.ty T] L) Q:=Ym b e a h
def ABu{Q:APT}{B:SF}{N:AOt}{n:Nat}{xs:List D}{L:AB}(c:xs.length=n)(h:WS (B (GA N xs) L) (λ_ _=>False) (λd a=>L <+: a/\(d.noRef=true->Q d L)/\(d.noRef=false->Q d a)) (λ_ _=>False) (λ_ _=>False)):W2 (Aj B N n xs L) Q:=by
 obtain⟨x,e,q⟩:=h;have g:∀a:AB,L <+: a->a.take L.length=L:=λa f=>by obtain⟨M,rfl⟩:=f;simp
 cases x with
 |next Z a=>exact q.elim
 |ret d a =>
  cases b:d.noRef with
  |true=>exact⟨_,_,by unfold Aj;rw[if_pos c,e];simp only;rw[if_pos ⟨b,g _ q.1⟩],q.2.1 b⟩
  |false=>exact⟨_,_,by unfold Aj;rw[if_pos c,e];simp only;rw[if_neg (λh=>by rw[b] at h;cases h.1)],q.2.2 b⟩
 |brk Z a=>exact q.elim
 |cont Z a=>exact q.elim
def AKU{a:Int}{Q:Int->Prop}(b:a<=4611686018427387903/\-4611686018427387904<=a)(h:Q a):∃j:Int,[D.int a]=[.int j]/\(j<=4611686018427387903/\-4611686018427387904<=j)/\Q j:=⟨a,rfl,b,h⟩
def AKT{b a:Int}{Q:Int->Int->Prop}(c:(b<=4611686018427387903/\-4611686018427387904<=b)/\(a<=4611686018427387903/\-4611686018427387904<=a))(h:Q b a) :
  ∃i j:Int,[D.int b,.int a]=[.int i,.int j]/\((i<=4611686018427387903/\-4611686018427387904<=i)/\(j<=4611686018427387903/\-4611686018427387904<=j))/\Q i j:=⟨b,a,rfl,c,h⟩
def AL7{a:Str}{Q:Str->Prop}(h:Q a):∃y:Str,[D.str a]=[.str y]/\Q y:=⟨a,rfl,h⟩
abbrev sg(y:Str)(i:Nat):Str:=⟨#[y.cps.getD i 0]⟩
def AHa(y:Str):FV (sgs y)=(List.range y.cps.size).map λ(i:Nat)=>D.tup [.int (i:Int),.str (sg y i)]:=by
 apply ANz;intro i;rw[ZJ,As]
 by_cases h:i<y.cps.size
 .rw[ANm h];simp[sg,h,Array.getD]
 .have h1:y.cps[i]?=none:=by simp;omega
  have a:(List.range y.cps.size)[i]?=none:=by simp;omega
  rw[h1,a];rfl
def Li{U β:Type}{f g:U->Option β}:∀{l:List U},(∀x∈l,f x=g x)->l.filterMap f=l.filterMap g
 |[],_=>rfl
 |x::xs,h=>by
  have a:=Li λy b=>h y (BD x b);rw[ANr,ANr,h x BC,a]
def Zx{U β:Type}(f:U->β)(xs:List U)(i:Int):atI (xs.map f) i=(atI xs i).map f:=by
 unfold atI;rw[AZ]
 cases ixN xs.length i with
 |none=>rfl
 |some j=>simp
def Zv{U:Type}{xs:List U}{i:Int}(h:-(xs.length:Int)<=i/\i<xs.length):∃v,atI xs i=some v:=by
 unfold atI ixN
 by_cases a:0<=i
 .rw[if_pos a,if_pos h.2];have:i.toNat<xs.length:=by omega
  exact⟨xs[i.toNat],by simp[this]⟩
 .rw[if_neg a,if_pos h.1];have:(i+xs.length).toNat<xs.length:=by omega
  exact⟨xs[(i+xs.length).toNat],by simp[this]⟩
def Zw{U:Type}{xs:List U}{i:Int}{v:U}(h:atI xs i=some v):v∈xs:=by obtain⟨j,_,a,_⟩:=Op h;exact BY a
def Oo{U:Type}{xs:List U}{n:Int}(c:Int)(h0:0<n)(h:n<=xs.length):∃v∈xs,atI xs (c % n)=some v:=by have d:=De c (b:=n) (by omega);have e:=Eh c h0;obtain⟨v,a⟩:=Zv (xs:=xs) (i:=c % n) ⟨by omega,by omega⟩;exact⟨v,Zw a,a⟩
def ADU(n:Nat):Ey 0 n=(List.range n).map λ(i:Nat)=>D.int (i:Int):=by simp[Ey]
def Wi{a:Int}{n:Nat}{d:D}(h:d∈Ey a n):∃i:Nat,i<n/\d=.int (a+(i:Int)):=by unfold Ey at h;rw[Ap] at h;obtain⟨i,b,rfl⟩:=h;exact⟨i,CK.mp b,rfl⟩
def LF{a:Int}{n i:Nat}{d:D}(h:(Ey a n)[i]?=some d):i<n/\d=.int (a+(i:Int)):=by
 rw[Wj] at h;split at h
 .rename_i hi;cases h;exact⟨hi,rfl⟩
 .cases h
open Builtin.Int in
def Sj{a b:Int}{m n:Nat}(c:intBits a<=m)(d:intBits b<=n)(h:m+n<=134217728):cMul a b=true:=decide_eq_true (PySem.IntMulOk.of_le c d h)
def Zl{a:Int}{n:Nat}(h:a.natAbs<2 ^ n):Builtin.Int.intBits a<=n:=PySem.intBits_le_iff.mpr h
def FP{a b:Int}(h:-18446744073709551616<a/\a<18446744073709551616):cMul a b=true:=decide_eq_true (.of_left (intBits_le_64 (by omega) (by omega)))
def HG{a b:Int}(h:-18446744073709551616<b/\b<18446744073709551616):cMul a b=true:=decide_eq_true (.of_right (intBits_le_64 (by omega) (by omega)))
def HP{ns:AOz}{k:Int}(h0:0<=k)(b:k<ns.length):∃z∈ns,atI (ns.map D.int) k=some (.int z):=by
 have a:k.toNat<ns.length:=by omega
 refine⟨ns[k.toNat],AOL _,?_⟩;have e:((k.toNat:Nat):Int)=k:=by omega
 have q:=Dc (xs:=ns.map D.int) (j:=k.toNat) (v:=.int ns[k.toNat]) (by simp[a]);rw[e] at q;exact q
abbrev Lo:AOy:=[97,98,99,100,101,102,103,104,105,106,107,108,109,110,111,112,113,114,115,116,117,118,119,120,121,122,65,66,67,68,69,70,71,72,73,74,75,76,77,78,79,80,81,82,83,84,85,86,87,88,89,90,48,49,50,51,52,53,54,55,56,57,32,45,46,44,47]
abbrev Tx:Str:="abcdefghijklmnopqrstuvwxyzABCDEFGHIJKLMNOPQRSTUVWXYZ0123456789 -.,/"
abbrev BH(y:Str):Prop:=∀c∈y.cps.toList,c∈Lo
noncomputable instance (y:Str):Decidable (BH y):=by unfold BH;infer_instance
def BH.at{y:Str}(h:BH y){i:Nat}(a:i<y.cps.size):y.cps.getD i 0∈Lo:=by
 have:y.cps.getD i 0=y.cps[i]:=by simp[Array.getD,a]
 rw[this];exact h _ (by simp)
def BH.one{c:Nat}(h:c∈Lo):BH ⟨#[c]⟩:=λz a=>by
 have:z=c:=by simpa using a
 rw[this];exact h
def Tv(x y:Str):(x++y).cps.toList=x.cps.toList++y.cps.toList:=by show(x.cps++y.cps).toList=_;simp
def AIb(x y:Str):(x++y).cps.size=x.cps.size+y.cps.size:=by show(x.cps++y.cps).size=_;simp
def Ot(x y:Str):(x++y).length=x.length+y.length:=AIb x y
def BH.app{x y:Str}(b:BH x)(d:BH y):BH (x++y):=λc a=>by
 rw[Tv,CF] at a;rcases a with h|h
 .exact b c h
 .exact d c h
def ACx{x:Str}{l u:Option Int}{c:Nat}(h:c∈(Txt.slice x l u).cps.toList):c∈x.cps.toList:=by
 unfold Txt.slice at h;split at h
 .exact h
 .simp only[ANf] at h;obtain⟨j,_,a⟩:=h;have:=AOW.mp a;obtain⟨b,rfl⟩:=this;simp
def BH.slice{x:Str}(h:BH x)(l u:Option Int):BH (Txt.slice x l u):=λc a=>h c (ACx a)
def BH.join:∀{a:AOt},(∀y∈a,BH y)->BH (Txt.join "" a):=λ{a} h=>by
 show BH (Builtin.Str.glued "" a);rw[StrLaws.glued_eq_join]
 induction a with
 |nil=>exact(by decide)
 |cons x r b =>
  cases r with
  |nil=>exact h x BC
  |cons y r =>
   show BH (x++("":Str)++Str.join "" (y::r));exact((h x BC).app (by decide)).app (b λz c=>h z (BD _ c))
def Xi{c:Nat}:∀(l:List (Array Nat)) (a:Array Nat),c∈(l.foldl (·++·) a).toList->c∈a.toList\/∃b∈l,c∈b.toList
 |[],a,h=>.inl h
 |b::r,a,h=>by
  rw[ANE] at h;rcases Xi r _ h with h|⟨d,e,f⟩
  .rw[Array.toList_append,CF] at h;rcases h with h|h
   .exact .inl h
   .exact .inr ⟨b,BC,h⟩
  .exact .inr ⟨d,BD _ e,f⟩
def AFf{x:Str}{n:Int}{c:Nat}(h:c∈(Txt.mul x n).cps.toList):c∈x.cps.toList:=by
 unfold Txt.mul at h;split at h
 .simp[Str.empty] at h
 .split at h
  .exact h
  .rcases Xi _ _ h with h|⟨b,h1,h2⟩
   .simp at h
   .rw[List.eq_of_mem_replicate h1] at h2;exact h2
def BH.mul{x:Str}(h:BH x)(n:Int):BH (Txt.mul x n):=λc a=>h c (AFf a)
def WM:∀{ds:List D},(∀d∈ds,∃s:Str,d=.str s)->∃a,Bp ds=some a/\ds=a.map D.str
 |[],_=>⟨[],rfl,rfl⟩
 |d::ds,h=>by
  obtain⟨s,rfl⟩:=h d BC;obtain⟨a,e,b⟩:=WM λz c=>h z (BD _ c);exact⟨s::a,by simp[Bp,e],by simp[<-b]⟩
def ACi{a:AOt}{n:Nat}(h:∀y∈a,y.length<=n):(a.map (·.length)).sum<=a.length*n:=by
 induction a with
 |nil=>simp
 |cons y r b =>
  have d:=h y BC;have e:=b λz c=>h z (BD _ c);simp only[Al,FJ,Dm,ANK];omega
abbrev Gh:Nat->D->Bool
 |0,_=>false
 |n+1,.tup xs=>xs.all (Gh n)
 |n+1,.fz xs=>xs.all (Gh n)
 |_+1,.ref _=>false
 |_+1,.ty _=>false
 |_+1,_=>true
def AAG:∀{os:List (Option Bool)},(∀o∈os,o=some true)->FC os=some true
 |[],_=>rfl
 |o::r,h=>by
  have a:=h o BC;subst a;rw[FC,AAG λo ho=>h o (BD _ ho)];rfl
def ABH{xs:List D}{z:D×D}(h:z∈xs.zip xs):z.1=z.2/\z.1∈xs:=by
 induction xs with
 |nil=>simp at h
 |cons x r a =>
  rw[List.zip_cons_cons] at h;rcases AY.mp h with rfl|h
  .exact⟨rfl,BC⟩
  .exact⟨(a h).1,BD _ (a h).2⟩
def ZH:∀(n:Nat) (L:AB) (x:D),Gh n x=true->Cj n L x x=some true
 |0,_,_,h=>by cases h
 |n+1,L,x,h=>by
  have seqs:∀xs:List D,xs.all (Gh n)=true->FC ((xs.zip xs).map λz=>Cj n L z.1 z.2)=some true:=λxs d=>by
   refine AAG λo ho=>?_;rw[Ap] at ho;obtain⟨z,e,rfl⟩:=ho;obtain⟨c,a⟩:=ABH e;rw[<-c];exact ZH n L z.1 (CM.mp d _ a)
  rw[Lk]
  cases x with
  |tup xs =>
   simp only[Gh] at h;simp[BA,DH,seqs xs h]
  |fz xs =>
   simp only[Gh] at h;simp[BA,DH,seqs xs h]
  |ref k=>simp[Gh] at h
  |ty k=>simp[Gh] at h
  |non=>simp only[BA,if_true];rw[Lj rfl]
  |bl b=>simp only[BA,if_true];rw[Lj rfl]
  |int b=>simp only[BA,if_true];rw[Lj rfl]
  |str b=>simp only[BA,if_true];rw[Lj rfl]
section
variable {Q:APT}{L:AB}
abbrev Dj(k:Nat)(L L':AB):Prop:=L.length<=L'.length/\∀j,j≠k->j<L.length->L'[j]?=L[j]?
def Dj.refl(k:Nat)(L:AB):Dj k L L:=⟨Ag _,λ_ _ _=>rfl⟩
def Dj.trans{k:Nat}{L c d:AB}(a:Dj k L c)(b:Dj k c d):Dj k L d:=⟨Cf a.1 b.1,λj e f=>by rw[b.2 j e (by have:=a.1;omega),a.2 j e f]⟩
def Dj.app(k:Nat)(L M:AB):Dj k L (L++M):=⟨by simp,λj _ h=>by rw[FK h]⟩
def Dj.set(k:Nat)(L:AB)(o:Ob):Dj k L (L.set k o):=⟨by simp,λj h _=>by rw[ER (Ne.symm h)]⟩
def Dj.get{k j:Nat}{L L':AB}{o:Ob}(h:Dj k L L')(n:j≠k)(e:L[j]?=some o):L'[j]?=some o:=by rw[h.2 j n (Ax.mp e).1];exact e
def Ro{nx:Fm->AB->Prop}{rt:APT}{bk ct:Fm->AB->Prop}{ok:AB->Bool}{gf:GF}{e:SF}(P:Fm->Prop)(k m B:Nat)(f:D->List D){a:List D}{Z:Fm}{c:List D}
  (hk:L[k]?=some (.lst c)) (o:P Z) (hm:∀x∈a,(f x).length<=m) (hB:c.length+a.length*m<=B)
  (p:∀x∈a,∀Z L' b,P Z->Dj k L L'->L'[k]?=some (.lst b)->b.length<=B->ok L'=true/\W1 (gf x Z) λw=>WS (e w L') (λg d=>P g/\Dj k L' d/\d[k]?=some (.lst (b++f x))) rt (λ_ _=>False) (λg d=>P g/\Dj k L' d/\d[k]?=some (.lst (b++f x))))
  (t:∀Z L',P Z->Dj k L L'->L'[k]?=some (.lst (c++a.flatMap f))->ok L'=true/\nx Z L'):WS (Dn ok gf e a Z L) nx rt bk ct:=by
 refine CN (λj C=>∀Z L',P Z->Dj k L L'->L'[k]?=some (.lst (c++(a.take j).flatMap f))->C Z L') a 0 Z L (λC q=>q _ _ o (.refl k L) (by simpa using hk)) ?_ ?_
 .rintro i x s C C' fi kk Z L' o hkp hl;have hi:i<a.length:=(Ax.mp s).1;have u:=BY s;have ht:a.take (0+i+1)=a.take (0+i)++[x]:=by rw[BM,Gw,s];rfl
  have n:(c++(a.take (0+i)).flatMap f).length<=B:=by
   have v:∀(l:List D),(∀x∈l,(f x).length<=m)->(l.flatMap f).length<=l.length*m:=λl=>by
    induction l with
    |nil=>intro _;simp
    |cons y r ih =>
     intro h;have:=ih λz hz=>h z (BD _ hz);have:=h y BC;simp only[EA,CG,Dm,ANK];omega
   have h2:=v (a.take (0+i)) λx s=>hm x (ANp s);have h3:(a.take (0+i)).length*m<=a.length*m:=ANR _ (by simp;omega);rw[CG];omega
  obtain⟨v,w,e1,h2⟩:=p x u Z L' _ o hkp hl n;refine fi _ _ v ⟨w,e1,?_⟩;have go:∀g d,(P g/\Dj k L' d/\d[k]?=some (.lst ((c++(a.take (0+i)).flatMap f)++f x)))->C g d:=λg d h=>kk _ _ h.1 (hkp.trans h.2.1) (by rw[h.2.2,ht];simp);exact h2.mono go (λ_ _ h=>h) (λ_ _ h=>h.elim) go
 .rintro C' fi Z L' o hkp hl;have:=t Z L' o hkp (by simpa using hl);exact fi _ _ this.1 this.2
def AL2{x y:Str}(h:Q (.bl (decide (x=y))) L):W2 (Ek (.str x) (.str y) L) Q:=⟨_,_,by unfold Ek;rw[if_pos (show Ex (D.str x) (D.str y)=true from rfl),Iq (show D.str x=D.str y↔x=y by simp)],h⟩
def AL3{x y:Int}(h:Q (.bl (decide (x=y))) L):W2 (Ek (.int x) (.int y) L) Q:=⟨_,_,by unfold Ek;rw[if_pos (show Ex (D.int x) (D.int y)=true from rfl),Iq (show D.int x=D.int y↔x=y by simp)],h⟩
end
section
variable {Z:Fm}{L:AB}{Q:APT}{nx:Fm->AB->Prop}{rt:APT}{bk ct:Fm->AB->Prop}
abbrev UC(d:D)(L:AB)(n:Nat)(gs:FF)(Z:Fm)(P:Fm->Prop):Prop:=∃ds,Cq d L=some ds/\ds.length=n/\W1 (gs ds Z) P
def AJN{e:EF}{n:Nat}{b:FF}(h:W2 (e Z L) λd c=>UC d c n b Z λa=>nx a c):WS (Jr e n b Z L) nx rt bk ct:=by obtain⟨d,k,j,l,f,g,a,i,q⟩:=h;exact WS.inx (by unfold Jr;rw[j,AX];simp only;rw[f,AX,if_pos g,i];rfl) q
def AJx{ds:List D}{n:Nat}{a:FF}{P:Fm->Prop}(e:ds.length=n)(h:W1 (a ds Z) P):UC (.tup ds) L n a Z P:=⟨ds,rfl,e,h⟩
def AJy{k:Nat}{ds:List D}{n:Nat}{a:FF}{P:Fm->Prop}(b:L[k]?=some (.lst ds))(e:ds.length=n)(h:W1 (a ds Z) P):UC (.ref k) L n a Z P:=⟨ds,by simp[Cq,b],e,h⟩
def AJE{c g f:EF}(h:W2 (f Z L) λv a=>W2 (c Z a) λo e=>W2 (g Z e) λi b=>W1 (La o i v b) λd=>nx Z d):WS (CW c g f Z L) nx rt bk ct:=by obtain⟨v,a,m,o,e,j,i,b,k,d,l,q⟩:=h;exact WS.inx (by unfold CW;rw[m,AX,j,AX,k,AX,l];rfl) q
def OT{k n:Nat}{j:Int}{v:D}{xs:List D}{P:AB->Prop}(e:L[k]?=some (.lst xs))(a:ixN xs.length j=some n)(h:P (L.set k (.lst (xs.set n v)))):W1 (La (.ref k) (.int j) v L) P:=⟨_,by simp only[La,e,a],h⟩
def AJr{g g':G2}{k c m:EF}(h:W2 (k Z L) λx l=>W2 (c Z l) λy i=>W2 (g x y i) λz a=>Jz z λb=>Br b (W2 (m Z a) λw n=>W2 (g' y w n) Q) (Q (.bl false) a)):W2 (Jm g g' k c m Z L) Q:=by
 obtain⟨x,l,j,y,i,e,z,a,f,b,rfl,q⟩:=h
 cases b with
 |false=>exact⟨_,_,by unfold Jm;rw[j,AX,e,AX,f];rfl,q⟩
 |true =>
  obtain⟨w,n,p,d,r,o,q⟩:=q;exact⟨_,_,by unfold Jm;rw[j,AX,e,AX,f,AX];simp only;rw[p];exact o,q⟩
def AG6{xs a:List D}(h0:xs≠[])(hz:xs.length+a.length<=16777216)(h:Q (.tup (xs++a)) L):W2 (BE (.tup xs) (.tup a) L) Q:=⟨_,_,by unfold BE;simp only;rw[if_neg h0,if_pos hz],h⟩
end
section
variable {Q:APT}{Z:Fm}{L:AB}{nx:Fm->AB->Prop}{rt:APT}{bk ct:Fm->AB->Prop}{fo fv fe:EF}{af:AF}{cs:AOt}{f c m:Str}
def ALx{k:Nat}{fs:List (Str×D)}{d:D}(e:L[k]?=some (.ins c fs))(b:cs.contains c=true)(a:fs.lookup f=some d)(h:Q d L):W2 (BO cs f (.ref k) L) Q :=
 ⟨d,L,by simp only[BO,e];rw[if_pos (by simpa using b),a];rfl,h⟩
def AJD(h:W2 (fv Z L) λv a=>W2 (fo Z a) λx c=>W1 (LH cs f x v c) λb=>nx Z b):WS (Gf cs f fo fv Z L) nx rt bk ct:=by obtain⟨v,a,g,x,c,d,b,e,q⟩:=h;exact WS.inx (by unfold Gf;rw[g];simp only[AX];rw[d];simp only[AX];rw[e];rfl) q
def Yk{k:Nat}{fs:List (Str×D)}{v:D}{P:AB->Prop}(e:L[k]?=some (.ins c fs))(b:cs.contains c=true)(a:Nat.blt fs.length 1000=true)(h:P (L.set k (.ins c (EW f v fs)))):W1 (LH cs f (.ref k) v L) P:=by
 have d:fs.length<=999:=by simpa[Nat.blt] using a
 exact⟨_,by simp only[LH,e];rw[if_pos ⟨by simpa using b,by omega⟩],h⟩
def AJp{G:GL}(h:W2 (af Z L) λd a=>W2 (G (.ref a.length::d) (a++[.ins c []])) λz b=>z=.non/\Q (.ref a.length) b):W2 (IB c G af Z L) Q:=by obtain⟨d,a,f,z,b,e,rfl,q⟩:=h;exact⟨_,b,by unfold IB;rw[f];simp only[AX];rw[e];rfl,q⟩
abbrev AAd(cs:AOt)(f:Str)(g:Int->Int->Int)(fv:EF)(Z:Fm)(nx:Fm->AB->Prop)(x:D)(L:AB):Prop:=∃k c fs i,x=.ref k/\L[k]?=some (.ins c fs)/\c∈cs/\fs.lookup f=some (.int i) /\
 W2 (fv Z L) λy L2=>∃j fs',y=.int j/\L2[k]?=some (.ins c fs')/\fs'.length<1000/\nx Z (L2.set k (.ins c (EW f (.int (g i j)) fs')))
def AJL{g:Int->Int->Int}(h:W2 (fo Z L) λx a=>AAd cs f g fv Z nx x a):WS (Lw cs f g fo fv Z L) nx rt bk ct:=by obtain⟨x,a,m,k,c,fs,i,rfl,b,l,e,y,r,p,j,n,rfl,d,o,q⟩:=h;exact WS.inx (by unfold Lw;rw[m];simp only[AX];rw[b];simp only;rw[if_pos l,e];simp only;rw[p];simp only[AX];rw[d];dsimp only;rw[if_pos ⟨rfl,o⟩]) q
def AJM{i:Nat}{g:Int->Int->Int}{a:Int}(e:Z[i]?=some (some (.int a)))(h:W2 (fe Z L) λy c=>UL y λb=>nx (Z.set i (some (.int (g a b)))) c):WS (Jq i g fe Z L) nx rt bk ct:=by obtain⟨y,c,d,b,rfl,q⟩:=h;exact WS.inx (by unfold Jq;rw[e];simp only;rw[d];rfl) q
def ABn{t:TF}{b:SF}{N:Nat}(h:W2 (t Z L) λx f=>Br x (WS (b Z f) (λc a=>WS (Ev t b N c a) nx rt bk ct) rt nx (λc a=>WS (Ev t b N c a) nx rt bk ct)) (nx Z f)):WS (Ev t b (N+1) Z L) nx rt bk ct:=by
 obtain⟨x,f,e,l⟩:=h
 cases x with
 |false=>exact WS.inx (by unfold Ev;rw[e];rfl) l
 |true =>
  obtain⟨k,g,q⟩:=(show WS (b Z f) _ _ _ _ from l)
  cases k with
  |next c a =>
   obtain⟨o,i,j⟩:=q;exact⟨o,by unfold Ev;rw[e];simp only[AX,if_true];rw[g];exact i,j⟩
  |cont c a =>
   obtain⟨o,i,j⟩:=q;exact⟨o,by unfold Ev;rw[e];simp only[AX,if_true];rw[g];exact i,j⟩
  |brk c a=>exact WS.inx (by unfold Ev;rw[e];simp only[AX,if_true];rw[g];rfl) q
  |ret d a=>exact WS.irt (by unfold Ev;rw[e];simp only[AX,if_true];rw[g];rfl) q
def ABm{t:TF}{b:SF}(I:Nat->(Fm->AB->Prop)->Prop){n:Nat}(e:n<1000000)(h0:∀C:Fm->AB->Prop,I n C->C Z L)
  (st:∀n,∀C c:Fm->AB->Prop,(∀Z L,(W2 (t Z L) λx a=>Br x (WS (b Z a) C rt nx C) (nx Z a))->c Z L)->(∀m,m<n->I m C)->I n c):WS (Rp t b Z L) nx rt bk ct:=by
 have key:∀N n,n<N->I n λZ L=>WS (Ev t b N Z L) nx rt bk ct:=λN=>by
  induction N with
  |zero=>exact λn h=>absurd h (Nat.not_lt_zero _)
  |succ N d=>exact λn h=>st n _ _ (λZ L h=>ABn h) λm f=>d m (by omega)
 exact h0 _ (key 1000000 n e)
def Yj{k:Nat}{ds:List D}{ns:AOz}(e:L[k]?=some (.lst ds))(a:Db ds=some ns)(h:Q (.int ns.sum) L):W2 (LY [.ref k] L) Q:=⟨_,_,by unfold LY;rw[Xo e];simp only[AX];rw[a];rfl,h⟩
def AG0{k:Nat}{ds:List D}{ns:AOz}{v:Int}(e:L[k]?=some (.lst ds))(a:Db ds=some ns)(b:ns.min?=some v)(h:Q (.int v) L):W2 (OZ [.ref k] L) Q:=⟨_,_,by unfold OZ;rw[Xo e];simp only[AX];rw[a];simp only[AX];rw[b];rfl,h⟩
noncomputable abbrev RtB(L:AB)(Q:APT):APT:=λd L2=>(L <+: L2->d.noRef=true->Q d L)/\Q d L2
noncomputable abbrev NxB(L:AB)(Q:APT):Fm->AB->Prop:=λ_ L2=>(L <+: L2->Q .non L)/\Q .non L2
def Kx{B:SF}{N:AOt}{n:Nat}{xs:List D}(a:xs.length=n)(h:WS (B (GA N xs) L) (NxB L Q) (RtB L Q) Iy Iy):W2 (Aj B N n xs L) Q:=by
 obtain⟨o,e,q⟩:=h
 cases o with
 |next Z b =>
  by_cases c:b.take L.length=L
  .exact⟨_,_,by unfold Aj;rw[if_pos a,e];simp only;rw[if_pos c],q.1 (Nr c)⟩
  .exact⟨_,_,by unfold Aj;rw[if_pos a,e];simp only;rw[if_neg c],q.2⟩
 |ret d b =>
  by_cases c:d.noRef=true/\b.take L.length=L
  .exact⟨_,_,by unfold Aj;rw[if_pos a,e];simp only;rw[if_pos c],q.1 (Nr c.2) c.1⟩
  .exact⟨_,_,by unfold Aj;rw[if_pos a,e];simp only;rw[if_neg c],q.2⟩
 |brk _ _=>exact q.elim
 |cont _ _=>exact q.elim
end
section
variable {Q:APT}{QI:List D->(AB->Bool)->AB->Prop}{Z:Fm}{L:AB}{nx:Fm->AB->Prop}{rt:APT}{bk ct:Fm->AB->Prop}{fo fi fv f:EF}{a:AF}{k ep:Nat}{kvs:List (NK×D)}{kk:NK}{y d:D}
def ABw(h:Q (.ref L.length) (L++[.dt [] 0])):W2 (IP Z L) Q:=⟨_,_,rfl,h⟩
def AJ0(e:L[k]?=some (.dt kvs ep)){p:Prop}(h:p):Ov "dict" (.ref k) L p:=⟨by simp[JP,e],h⟩
def Hk(e:L[k]?=some (.dt kvs ep))(a:dNK y=some kk)(b:Bo kvs kk=some d)(h:Q d L):W2 (FS (.ref k) y L) Q:=⟨d,L,by simp only[FS,e,a,AX,b,ANW],h⟩
def TW{a:Bool}(e:L[k]?=some (.dt kvs ep))(b:dNK y=some kk)(h:Q (.bl (a != (Bo kvs kk).isSome)) L):W2 (HL a y (.ref k) L) Q:=⟨_,L,by simp only[HL,e,b,ANW],h⟩
def ALo(e:L[k]?=some (.dt kvs ep))(h:Q (.int (kvs.length:Int)) L):W2 (Lf [.ref k] L) Q:=⟨_,L,by simp only[Lf,e],h⟩
def ALj(e:L[k]?=some (.dt kvs ep))(h:Q (.ref L.length) (L++[.lst (GD kvs)])):W2 (Ld [.ref k] L) Q:=⟨_,_,by simp only[Ld,e],h⟩
def AG5(e:L[k]?=some (.dt kvs ep))(a:dNK y=some kk)(h:Q ((Bo kvs kk).getD .non) L):W2 (Lh (.ref k) [y] L) Q:=⟨_,L,by simp only[Lh,e,a,ANW],h⟩
def AGv{v:D}(e:L[k]?=some (.dt kvs ep))(a:dNK y=some kk)(b:Bo kvs kk=some d)(h:Q d L):W2 (Hl (.ref k) [y,v] L) Q:=⟨_,L,by simp only[Hl,e,a,AX,b],h⟩
def AGw{v:D}(e:L[k]?=some (.dt kvs ep))(a:dNK y=some kk)(b:Bo kvs kk=none)(hz:kvs.length<16777216)(h:Q v (L.set k (.dt (DQ kvs kk v) (epN kvs kk ep)))):W2 (Hl (.ref k) [y,v] L) Q:=⟨_,_,by simp only[Hl,e,a,AX,b];rw[if_pos hz],h⟩
def TY{i j:Nat}{as bs:List D}(b:L[i]?=some (.lst as))(a:L[j]?=some (.lst bs))(hz:as.length+bs.length<=16777216)(h:Q .non (L.set i (.lst (as++bs)))):W2 (Ik (.ref i) [.ref j] L) Q:=⟨_,_,by simp only[Ik,b,a];rw[if_pos hz],h⟩
def AJJ(h:W2 (fv Z L) λv a=>W2 (fo Z a) λo d=>W2 (fi Z d) λi b=>W1 (Il o i v b) λc=>nx Z c):WS (Io fo fi fv Z L) nx rt bk ct:=by obtain⟨v,a,j,o,d,e,i,b,f,c,g,q⟩:=h;exact WS.inx (by unfold Io;rw[j,AX,e,AX,f,AX,g];rfl) q
def OW{v:D}{P:AB->Prop}(e:L[k]?=some (.dt kvs ep))(hz:kvs.length<16777216)(a:dNK y=some kk)(h:P (L.set k (.dt (DQ kvs kk v) (epN kvs kk ep)))):W1 (Il (.ref k) y v L) P:=⟨_,by simp only[Il,e];rw[if_pos hz,a];rfl,h⟩
abbrev UR(d:D)(L:AB)(P:Nat->List (NK×D)->Nat->Prop):Prop:=∃k kvs ep,d=.ref k/\L[k]?=some (.dt kvs ep)/\P k kvs ep
def AMa{P:Nat->List (NK×D)->Nat->Prop}(e:L[k]?=some (.dt kvs ep))(h:P k kvs ep):UR (.ref k) L P:=⟨k,kvs,ep,rfl,e,h⟩
def AJU(h:W2 (f Z L) λd a=>UR d a λk kvs ep=>QI (GD kvs) (Hx k kvs ep) a):WI (LW f Z L) QI:=by obtain⟨d,a,c,k,kvs,ep,rfl,b,q⟩:=h;exact⟨_,_,a,by unfold LW;rw[c,AX];simp only[b],q⟩
def AJT(h:W2 (f Z L) λd a=>UR d a λk kvs ep=>QI (FM kvs) (λe=>decide (e[k]?=some (.dt kvs ep))) a):WI (Ii f Z L) QI:=by obtain⟨d,a,c,k,kvs,ep,rfl,b,q⟩:=h;exact⟨_,_,a,by unfold Ii;rw[c,AX];simp only[b],q⟩
abbrev AAU(ds:List D)(L:AB)(P:Nat->List D->Prop):Prop:=∃k xs,ds=[.ref k]/\L[k]?=some (.lst xs)/\P k xs
def ALD{P:Nat->List D->Prop}{xs:List D}(e:L[k]?=some (.lst xs))(h:P k xs):AAU [.ref k] L P:=⟨k,xs,rfl,e,h⟩
def AJV(h:W2 (a Z L) λd b=>AAU d b λk c=>QI (FV c) (λg=>decide (g[k]?=some (.lst c))) b):WI (OM a Z L) QI:=by obtain⟨d,b,f,k,c,rfl,e,q⟩:=h;exact⟨_,_,b,by unfold OM;rw[f,AX];simp only[e],q⟩
abbrev AIp(n:Nat)(ds:List D)(L:AB)(P:List D->List (List D)->Prop):Prop:=∃ys yss,seqs ds L=some (ys::yss)/\((yss.all λzs=>zs.length == ys.length)=true/\yss.length<100/\yss.length+1=n)/\P ys yss
def Vh{n:Nat}(h:W2 (a Z L) λe d=>∃c b,seqs e d=some (c::b)/\((b.all λi=>decide (c.length<=i.length))=true/\b.length<100/\b.length+1=n)/\QI (ES c.length (c::b)) (λk=>decide (seqs e k=some (c::b))) d):WI (IH n a Z L) QI:=by obtain⟨e,d,j,c,b,f,g,q⟩:=h;exact⟨_,_,d,by unfold IH;rw[j,AX];simp only[f];rw[if_pos g],q⟩
def AJO{n:Nat}(h:W2 (a Z L) λe d=>AIp n e d λc b=>QI (ES c.length (c::b)) (λk=>decide (seqs e k=some (c::b))) d):WI (IH n a Z L) QI:=by obtain⟨e,d,j,c,b,g,f,q⟩:=h;exact Vh ⟨e,d,j,c,b,g,⟨CM.mpr λz i=>decide_eq_true (ANG (beq_iff_eq.mp (CM.mp f.1 z i)).symm),f.2⟩,q⟩
def ALY{x z:Str}(h:Q (.bl (Txt.startswith x z)) L):W2 (OY (.str x) [.str z] L) Q:=⟨_,_,rfl,h⟩
def AIT{cs:AOt}{c b:Str}{g:Int->Int->Int}{fs:List (Str×D)}{i:Int}(e:L[k]?=some (.ins c fs))(l:c∈cs)(f:fs.lookup b=some (.int i))
  (h:W2 (fv Z L) λy d=>∃j a,y=.int j/\d[k]?=some (.ins c a)/\a.length<1000/\nx Z (d.set k (.ins c (EW b (.int (g i j)) a)))):AAd cs b g fv Z nx (.ref k) L:=⟨k,c,fs,i,rfl,e,l,f,h⟩
end
abbrev JO:D:=D.tup [D.str "small",D.str "great",D.str "figure",D.str "mark",D.str "any"]
abbrev NP:D:=D.tup [D.tup [D.str "small",D.str "abcdefghijklmnopqrstuvwxyz"],D.tup [D.str "great",D.str "ABCDEFGHIJKLMNOPQRSTUVWXYZ"],D.tup [D.str "figure",D.str "0123456789"],D.tup [D.str "mark",D.str " -.,/"]]
abbrev JN:D:=D.tup [D.int (1),D.int (2),D.int (-1),D.int (-2)]
abbrev JM:D:=D.tup [D.str "ahead",D.str "behind"]
abbrev Ke:D:=D.tup [D.str "copy",D.str "raise",D.str "sink"]
abbrev JL:D:=D.tup [D.int (1),D.int (2),D.int (3)]
abbrev NM:D:=D.int (0)
abbrev Kc:D:=D.int (1)
abbrev NI:AOt:=["_law_cells","_law_k",APK]
abbrev Rg:SF :=
 (AJ (Ao (AS (AE gLt (AA 1) (AK BQ (AC (AA 0) AG)))) (AU (AE BK (AE CI (AE AN (AA 0) (AA 1)) (AD (.int 2718281828459045235360287471352662497757))) (AE Gj (AD (.int 10)) (AD (.int 40))))) Au)
 (AJ (AR 2 (AE BE (AE CI (AE CI (AA 1) (AA 1)) (AD (.int 7919))) (AD (.int 5))))
 (AJ (Ao (AS (AE Fl (AK BQ (AC (AA 0) AG)) (AD (.int 0)))) (AR 2 (AE BE (AA 2) (AE CI (AE BK (AE AN (AA 0) (AE BK (AE CI (AA 1) (AD (.int 7))) (AK BQ (AC (AA 0) AG)))) (AE Gj (AD (.int 10)) (AD (.int 40)))) (AE BE (AD (.int 48271)) (AE CI (AD (.int 2)) (AA 1)))))) Au)
 (AJ (AR 2 (AE BK (AE CI (AA 2) (AA 2)) (AD (.int 2147483629))))
 (AJ (AR 2 (AE BK (AE CI (AE BE (AE BE (AA 2) (AE CI (AE CI (AA 1) (AA 1)) (AA 1))) (AD (.int 16807))) (AE BE (AA 2) (AD (.int 69621)))) (AD (.int 4611686018427387847))))
 (AU (AE BK (AE CI (AA 2) (AD (.int 2718281828459045235360287471352662497757))) (AE Gj (AD (.int 10)) (AD (.int 40))))))))))
abbrev Ka:GL:=Aj Rg NI 2
abbrev NF:AOt:=[APM,"_law_ahead_of","_law_most","_law_cells","_law_told",APL,"_law_k"]
abbrev RZ:SF :=
 (AJ (AR 3 (AK Le (AC (AA 0) AG)))
 (AJ (Ao (AS (AE Fl (AK BQ (AC (AA 3) AG)) (AD (.int 0)))) (AJ (AR 4 (AE BE (AA 1) (AE BK (AE AN (AA 3) (AD (.int 0))) (AE BE (AE Fk (AA 2) (AA 1)) (AD (.int 1))))))
 (AJ (CW (AA 3) (AD (.int 0)) (AE Cd (AE AN (AA 3) (AD (.int 0))) (AE BE (AE Fk (AA 2) (AA 1)) (AD (.int 1)))))
 (AJ (AR 5 (Bh AG))
 (AJ (Bi (Gi (AC (AA 4) AG)) (Aa 6) (AJ (Dh (CC "list" El (AA 5) (AC (AE BK (AE AN (AA 3) (AE BK (AA 6) (AK BQ (AC (AA 3) AG)))) (AE Gj (AD (.int 10)) (AD (.int 40)))) AG)))
 (CW (AA 3) (AE BK (AA 6) (AK BQ (AC (AA 3) AG))) (AE Cd (AE AN (AA 3) (AE BK (AA 6) (AK BQ (AC (AA 3) AG)))) (AE Gj (AD (.int 10)) (AD (.int 40)))))))
 (Ao (AS (AE Fl (AK OZ (AC (AA 3) AG)) (AD (.int 0)))) (AU (AA 5)) Au))))) Au)
 (AU (Bk (Gi (AC (AK Oa (AC (AA 1) (AC (AK Je (AC (AA 2) (AC (AK BQ (AC (AA 0) AG)) AG))) AG))) AG)) 1 [0] (Aa 0) By (AK Ka (AC (AA 1) (AC (AA 0) AG)))))))
abbrev KY:GL:=Aj RZ NF 3
abbrev NB:AOt:=[APD,"_law_most","_law_signs","_law_some","_law_size",APF,"_law_k"]
abbrev RT:SF :=
 (AJ (AR 2 (AD (.str "abcdefghijklmnopqrstuvwxyzABCDEFGHIJKLMNOPQRSTUVWXYZ0123456789 -.,/")))
 (AJ (AR 3 (AE AN (Bh (AC (AD (.str "abAB12 -")) (AC (AD (.str "aB 1")) (AC (AD (.str "aab")) (AC (AA 2) AG))))) (AE BK (AE Cd (AA 0) (AD (.int 32))) (AD (.int 4)))))
 (AJ (AR 4 (AE BK (AA 0) (AE BE (AA 1) (AD (.int 1)))))
 (AJ (AR 0 (AE Cd (AA 0) (AD (.int 128))))
 (AJ (AR 5 (AD (.str "")))
 (AJ (Bi (Gi (AC (AA 4) AG)) (Aa 6) (AJ (AR 5 (AE BE (AA 5) (AE AN (AA 3) (AE BK (AA 0) (AK BQ (AC (AA 3) AG))))))
 (AR 0 (AE Cd (AA 0) (AK BQ (AC (AA 3) AG))))))
 (AU (AA 5))))))))
abbrev zk:GL:=Aj RT NB 2
abbrev My:AOt:=["_law_cells",APE,APK,APD,"_law_word"]
abbrev RN:SF :=
 (AJ (AR 1 (Bh AG))
 (AJ (AR 2 (AE BK (AE AN (AA 0) (AD (.int 0))) (AD (.int 5))))
 (AJ (Ao (AS (AE Ba (AE BK (AE Cd (AE AN (AA 0) (AD (.int 0))) (AD (.int 5))) (AD (.int 4))) (AD (.int 1)))) (AR 2 (AE BE (AD (.int 5)) (AE BK (AE AN (AA 0) (AD (.int 0))) (AD (.int 2))))) Au)
 (AJ (Bi (BN (DY (AA 0) (CU (AD (.int 1))) (CU (AE BE (AD (.int 1)) (AA 2))))) (Aa 3) (AJ (AR 4 (AK zk (AC (AE Cd (AA 3) (AD (.int 4))) (AC (AE AN (Bh (AC (AD (.int 2)) (AC (AD (.int 3)) (AC (AD (.int 3)) (AC (AD (.int 8)) AG))))) (AE BK (AA 3) (AD (.int 4)))) AG))))
 (AJ (Ao (AS (AE Fl (AA 2) (AD (.int 4)))) (AR 4 (DY (AA 4) FN (CU (AD (.int 2))))) Au)
 (AJ (Ao (AS (AE Ba (AA 4) (AD (.str "")))) (AR 4 (AD (.str "-"))) Au)
 (Ao (AS (AE (Cc true) (AA 4) (AA 1))) (Dh (CC "list" El (AA 1) (AC (AA 4) AG))) Au)))))
 (AU (AA 1))))))
abbrev KU:GL:=Aj RN My 1
abbrev Mv:AOt:=[APD,"_law_kind_here"]
abbrev RH:SF :=
 (AJ (AR 1 (AE AN (Bh (AC (AD (.str "small")) (AC (AD (.str "great")) (AC (AD (.str "figure")) (AC (AD (.str "mark")) (AC (AD (.str "any")) AG)))))) (AE BK (AA 0) (AD (.int 5)))))
 (AU (Bg (AC (AA 1) (AC (AE AN (Bh (AC (AD (.int 1)) (AC (AD (.int 2)) (AC (BG HK (AD (.int 1))) (AC (BG HK (AD (.int 2))) AG))))) (AE BK (AE Cd (AA 0) (AD (.int 5))) (AD (.int 4)))) (AC (AE AN (Bh (AC (AD (.str "ahead")) (AC (AD (.str "behind")) AG))) (AE BK (AE Cd (AA 0) (AD (.int 20))) (AD (.int 2)))) AG))))))
abbrev zm:GL:=Aj RH Mv 1
abbrev Ms:AOt:=[APD,APE,"_law_deed"]
abbrev VI:SF :=
 (AJ (Ao (IR (AS (AE Ba (AE BK (AA 0) (AD (.int 7))) (AD (.int 0)))) (AS (AE Fl (AK BQ (AC (AA 1) AG)) (AD (.int 0))))) (AU (Bg (AC (AD (.str "word")) (AC (AE AN (AA 1) (AE BK (AE Cd (AA 0) (AD (.int 7))) (AK BQ (AC (AA 1) AG)))) AG)))) Au)
 (AJ (AR 2 (AE AN (Bh (AC (AD (.str "copy")) (AC (AD (.str "raise")) (AC (AD (.str "sink")) (AC (AD (.str "copy")) AG))))) (AE BK (AE Cd (AA 0) (AD (.int 7))) (AD (.int 4)))))
 (AU (Bg (AC (AA 2) (AC (AK zm (AC (AE Cd (AA 0) (AD (.int 28))) AG)) (AC (AK zm (AC (AE Cd (AA 0) (AD (.int 1120))) AG)) AG)))))))
abbrev KR:GL:=Aj VI Ms 2
abbrev Mp:AOt:=["_law_sign"]
abbrev RB:SF :=
 (AJ (Ao (AS (CC "str" (Hm Txt.islower) (AA 0) AG)) (AU (AD (.str "small"))) Au)
 (AJ (Ao (AS (CC "str" (Hm Txt.isupper) (AA 0) AG)) (AU (AD (.str "great"))) Au)
 (AJ (Ao (AS (CC "str" (Hm Txt.isdigit) (AA 0) AG)) (AU (AD (.str "figure"))) Au)
 (AU (AD (.str "mark"))))))
abbrev KP:GL:=Aj RB Mp 1
abbrev Mm:AOt:=[APN,APF,"_law_kind_here","_law_nth","_law_edge","_law_found"]
abbrev Qv:SF :=
 (AJ (Jr (AA 0) 3 (Bc (Aa 2) (Bc (Aa 3) (Bc (Aa 4) EJ))))
 (AJ (AR 5 (Bk (Gi (AC (AK BQ (AC (AA 1) AG)) AG)) 1 [2,1] (Aa 0) (DI (AS (AE Ba (AA 1) (AD (.str "any")))) (AS (AE Ba (AK KP (AC (AE AN (AA 2) (AA 0)) AG)) (AA 1)))) (AA 0)))
 (AJ (Ao (AS (AE gLt (AK BQ (AC (AA 5) AG)) (AK Jg (AC (AA 3) AG)))) (AU (AD .non)) Au)
 (AJ (Ao (AS (AE Fl (AA 3) (AD (.int 0)))) (AU (AE BE (AE AN (AA 5) (AE Fk (AA 3) (AD (.int 1)))) (AK IK (AC (AE Ba (AA 4) (AD (.str "behind"))) AG)))) Au)
 (AU (AE BE (AE AN (AA 5) (AA 3)) (AK IK (AC (AE Ba (AA 4) (AD (.str "behind"))) AG))))))))
abbrev ze:GL:=Aj Qv Mm 2
abbrev Mi:AOt:=[APJ,APF,"_law_start","_law_end"]
abbrev Mf:SF :=
 (AJ (Ao (AS (AE Ba (AE AN (AA 0) (AD (.int 0))) (AD (.str "word")))) (AU (AE AN (AA 0) (AD (.int 1)))) Au)
 (AJ (AR 2 (AK ze (AC (AE AN (AA 0) (AD (.int 1))) (AC (AA 1) AG))))
 (AJ (AR 3 (AK ze (AC (AE AN (AA 0) (AD (.int 2))) (AC (AA 1) AG))))
 (AJ (Ao (DI (AS (AE IJ (AA 2) (AD .non))) (DI (AS (AE IJ (AA 3) (AD .non))) (AS (AE Oe (AA 2) (AA 3))))) (AU (AD .non)) Au)
 (AJ (Ao (AS (AE Ba (AE AN (AA 0) (AD (.int 0))) (AD (.str "raise")))) (AU (CC "str" (gS0s Txt.upper) (DY (AA 1) (CU (AA 2)) (CU (AA 3))) AG)) Au)
 (AJ (Ao (AS (AE Ba (AE AN (AA 0) (AD (.int 0))) (AD (.str "sink")))) (AU (CC "str" (gS0s Txt.lower) (DY (AA 1) (CU (AA 2)) (CU (AA 3))) AG)) Au)
 (AU (DY (AA 1) (CU (AA 2)) (CU (AA 3))))))))))
abbrev zc:GL:=Aj Mf Mi 2
abbrev Mc:AOt:=[APD,APE,APG,APJ,"_law_whole_here","_law_some"]
abbrev Qq:SF :=
 (AJ (AR 3 (AK KR (AC (AA 0) (AC (AA 1) AG))))
 (AJ (Ao (AS (AE Ba (AE AN (AA 3) (AD (.int 0))) (AD (.str "word")))) (AU (AA 3)) Au)
 (AJ (AR 4 (Bg (AC (AE AN (AA 3) (AD (.int 0))) (AC (Bg (AC (AD (.str "any")) (AC (AD (.int 1)) (AC (AD (.str "ahead")) AG)))) (AC (Bg (AC (AD (.str "any")) (AC (BG HK (AD (.int 1))) (AC (AD (.str "behind")) AG)))) AG)))))
 (AJ (Bi (BN (Bh (AC (AA 3) (AC (Bg (AC (AE AN (AA 3) (AD (.int 0))) (AC (AE AN (AA 3) (AD (.int 2))) (AC (AE AN (AA 3) (AD (.int 1))) AG)))) (AC (AA 4) AG))))) (Aa 5) (Ao (AS (AE (Cc true) (AD .non) (Bk (BN (AA 2)) 1 [5] (Aa 0) By (AK zc (AC (AA 1) (AC (AA 0) AG)))))) (AU (AA 5)) Au))
 (AJ (Ao (AS (AE Ba (AK BQ (AC (AA 1) AG)) (AD (.int 0)))) (AU (AD .non)) Au)
 (AU (Bg (AC (AD (.str "word")) (AC (AE AN (AA 1) (AE BK (AE Cd (AA 0) (AD (.int 28))) (AK BQ (AC (AA 1) AG)))) AG)))))))))
abbrev KN:GL:=Aj Qq Mc 3
abbrev MZ:AOt:=[APD,APE,APG,APH,"_law_part","_law_k",APJ]
abbrev Qk:SF :=
 (AJ (AR 3 (Bh AG))
 (AJ (AR 4 (AE Cd (AA 0) (AD (.int 3))))
 (AJ (Bi (Gi (AC (AE BE (AD (.int 1)) (AE BK (AA 0) (AD (.int 3)))) AG)) (Aa 5) (AJ (AR 6 (AK KN (AC (AA 4) (AC (AA 1) (AC (AA 2) AG)))))
 (AJ (Ao (AS (AE Ij (AA 6) (AD .non))) (Dh (CC "list" El (AA 3) (AC (AA 6) AG))) Au)
 (AR 4 (AE Cd (AA 4) (AD (.int 1000003)))))))
 (AU (AK Fj (AC (AA 3) AG))))))
abbrev KL:GL:=Aj Qk MZ 3
abbrev MX:AOt:=[APH,APF,"_law_found"]
abbrev Qg:SF :=
 (AJ (AR 2 (Bk (BN (AA 0)) 1 [1] (Aa 0) By (AK zc (AC (AA 0) (AC (AA 1) AG)))))
 (AJ (Ao (AS (AE (Cc false) (AD .non) (AA 2))) (AU (AD .non)) Au)
 (AU (CC "str" Lg (AD (.str "")) (AC (AA 2) AG)))))
abbrev JK:GL:=Aj Qg MX 2
abbrev MU:AOt:=[APH,APG,APD,"_law_given","_law_examples","_law_at",APF,"_law_answer","_law_other"]
abbrev Qc:SF :=
 (AJ (AR 4 (Bk (BN (AA 1)) 1 [0] (Aa 0) By (Bg (AC (AA 0) (AC (AK JK (AC (AA 1) (AC (AA 0) AG))) AG)))))
 (AJ (Ao (AS (AE Ba (AE BK (AA 2) (AD (.int 4))) (AD (.int 3)))) (AR 4 (Bk (IH 2 (AC (AA 1) (AC (AA 3) AG))) 2 [] (EX 2 (Bc (Aa 0) (Bc (Aa 1) EJ))) By (Bg (AC (AA 0) (AC (AK zk (AC (AA 1) (AC (AD (.int 12)) AG))) AG))))) Au)
 (AJ (Ao (IR (AS (AE Ba (AE BK (AA 2) (AD (.int 4))) (AD (.int 1)))) (AS (AE Fl (AK BQ (AC (AA 4) AG)) (AD (.int 0))))) (AJ (AR 5 (AE BK (AE Cd (AA 2) (AD (.int 4))) (AK BQ (AC (AA 4) AG))))
 (AJ (Jr (AE AN (AA 4) (AA 5)) 2 (Bc (Aa 6) (Bc (Aa 7) EJ)))
 (AJ (AR 8 (AE AN (Bh (AC (DY (AE BE (AA 7) (AD (.str "a"))) FN (CU (AD (.int 72)))) (AC (DY (AA 7) FN (CU (BG HK (AD (.int 1))))) (AC (AE BE (DY (AA 7) (CU (AD (.int 1))) FN) (DY (AA 7) FN (CU (AD (.int 1))))) (AC (AD (.str "")) AG))))) (AE BK (AE Cd (AA 2) (AD (.int 16))) (AD (.int 4)))))
 (AR 4 (AE BE (AE BE (DY (AA 4) FN (CU (AA 5))) (Bh (AC (Bg (AC (AA 6) (AC (AA 8) AG))) AG))) (DY (AA 4) (CU (AE BE (AA 5) (AD (.int 1)))) FN)))))) Au)
 (AU (AA 4)))))
abbrev KI:GL:=Aj Qc MU 4
abbrev MR:AOt:=[APL,"_law_k",APK]
abbrev QY:SF :=
 (AJ (Ao (AS (AE gLt (AA 1) (AK BQ (AC (AA 0) AG)))) (AU (AE AN (AA 0) (AA 1))) Au)
 (AJ (AR 2 (AE BE (AE BE (AE CI (AE BK (AE AN (AA 0) (AE BK (AE CI (AA 1) (AD (.int 7))) (AK BQ (AC (AA 0) AG)))) (AE Gj (AD (.int 10)) (AD (.int 40)))) (AD (.int 48271))) (AE CI (AE CI (AA 1) (AA 1)) (AD (.int 7919)))) (AD (.int 5))))
 (AU (AE BK (AE CI (AE BK (AE CI (AA 2) (AA 2)) (AD (.int 2147483629))) (AD (.int 2718281828459045235360287471352662497757))) (AE Gj (AD (.int 10)) (AD (.int 40)))))))
abbrev zo:GL:=Aj QY MR 2
abbrev MO:AOt:=[APL,"_law_start","_law_most",APD,APK,"_law_rows","_law_some","_law_k","_law_at","_law_sign",APG,APF]
abbrev QU:SF :=
 (AJ (AR 3 (AK zo (AC (AA 0) (AC (AA 1) AG))))
 (AJ (AR 4 (AE BE (AD (.int 1)) (AE BK (AA 3) (AD (.int 3)))))
 (AJ (Ao (AS (AE Ba (AE BK (AE Cd (AA 3) (AD (.int 24))) (AD (.int 4))) (AD (.int 1)))) (AJ (AR 4 (AE BE (AD (.int 4)) (AE BK (AA 3) (AD (.int 3)))))
 (AR 2 (AK Je (AC (AA 2) (AC (AD (.int 6)) AG))))) Au)
 (AJ (AR 5 (Bk (Gi (AC (AA 4) AG)) 1 [] (Aa 0) By (AD (.str ""))))
 (AJ (AR 6 (AE AN (Bh (AC (AD (.str "aB1 -")) (AC (AD (.str "aab")) (AC (AD (.str "abAB12 -")) (AC (AD (.str "abcXYZ019 -.,/")) AG))))) (AE BK (AE Cd (AA 3) (AD (.int 6))) (AD (.int 4)))))
 (AJ (Ao (AS (AE Ba (AE BK (AE Cd (AA 3) (AD (.int 3))) (AD (.int 2))) (AD (.int 0)))) (AR 5 (Bk (Gi (AC (AA 4) AG)) 1 [2,0,1] (Aa 0) By (AK zk (AC (AK zo (AC (AA 2) (AC (AE BE (AE BE (AA 3) (AD (.int 1))) (AA 0)) AG))) (AC (AA 1) AG))))) (Bi (OL (AC (AE BE (AA 1) (AD (.int 1))) (AC (AK Je (AC (AK BQ (AC (AA 0) AG)) (AC (AE BE (AE BE (AA 1) (AD (.int 1))) (AE CI (AA 2) (AA 4))) AG))) AG))) (Aa 7) (AJ (AR 8 (AE BK (AA 7) (AA 4)))
 (AJ (AR 9 (AE AN (AA 6) (AE BK (AK zo (AC (AA 0) (AC (AA 7) AG))) (AK BQ (AC (AA 6) AG)))))
 (CW (AA 5) (AA 8) (AE BE (AE AN (AA 5) (AA 8)) (AA 9)))))))
 (AJ (Ao (AS (AE Ba (AE BK (AE Cd (AA 3) (AD (.int 96))) (AD (.int 8))) (AD (.int 3)))) (CW (AA 5) (AD (.int 0)) (DY (AE CI (DY (AA 6) FN (CU (AE BE (AD (.int 1)) (AE BK (AE Cd (AA 3) (AD (.int 768))) (AD (.int 2)))))) (AD (.int 24))) FN (CU (AD (.int 24))))) Au)
 (AJ (AR 10 (Bh AG))
 (AJ (Bi (BN (AA 5)) (Aa 11) (Ao (AS (AE (Cc true) (AA 11) (AA 10))) (Dh (CC "list" El (AA 10) (AC (AA 11) AG))) Au))
 (AU (AA 10)))))))))))
abbrev KG:GL:=Aj QU MO 3
abbrev MM:AOt:=[APL,APE,APG,APH]
abbrev QP:SF :=
 (AJ (AR 1 (AK KU (AC (AE BE (Bh (AC (AE AN (AA 0) (AD (.int 0))) AG)) (DY (AA 0) (CU (AD (.int 5))) (CU (AD (.int 11))))) AG)))
 (AJ (AR 2 (Bk (BN (AK KG (AC (AA 0) (AC (AD (.int 17)) (AC (AD (.int 10)) AG))))) 1 [1] (Aa 0) (DI (AS (AE FR (AA 0) (AD (.str "")))) (AS (AE Fl (AK BQ (AC (AA 1) AG)) (AD (.int 0))))) (AA 0)))
 (AJ (AR 3 (AK KL (AC (AE AN (AA 0) (AD (.int 1))) (AC (AA 1) (AC (AA 2) AG)))))
 (AU (Bh (AC (AA 1) (AC (AA 3) (AC (AK KI (AC (AA 3) (AC (AA 2) (AC (AE AN (AA 0) (AD (.int 2))) (AC (DY (AA 0) (CU (AD (.int 11))) (CU (AD (.int 17)))) AG))))) AG))))))))
abbrev KC:GL:=Aj QP MM 1
abbrev MK:AOt:=[AO4,AO9,APC,"pieces",API,"piece"]
abbrev QK:SF :=
 (AJ (AR 1 IP)
 (AJ (Bi (Ii (AA 0)) (EX 2 (Bc (Aa 2) (Bc (Aa 3) EJ))) (Bi (OM (AC (AA 3) AG)) (EX 2 (Bc (Aa 4) (Bc (Aa 5) EJ))) (Io (AA 1) (AA 5) (Bg (AC (AA 2) (AC (AA 4) AG))))))
 (AU (AA 1))))
abbrev JJ:GL:=Aj QK MK 1
abbrev MI:AOt:=["self",AO3]
abbrev QF:SF :=
 (AJ (Gf [AO2] AO3 (AA 0) (AA 1))
 (Gf [AO2] AO6 (AA 0) IP))
abbrev zp:GL:=Aj QF MI 2
abbrev NZ:AOt:=["self",AO7,AO4]
abbrev QB:SF :=
 (AJ (Gf [AO1] AO7 (AA 0) (AA 1))
 (AJ (Gf [AO1] AO4 (AA 0) (AA 2))
 (AJ (Gf [AO1] AO9 (AA 0) (AK JJ (AC (AA 2) AG)))
 (AJ (Gf [AO1] AO5 (AA 0) (Bh (AC (IB AO2 zp (AC (AD (.int 1)) AG)) (AC (IB AO2 zp (AC (AD (.int 0)) AG)) AG))))
 (AJ (Gf [AO1] APA (AA 0) IP)
 (Gf [AO1] APB (AA 0) (Bh AG)))))))
abbrev Kw:GL:=Aj QB NZ 3
abbrev NX:AOt:=["places","kind","nth","edge"]
abbrev Pw:SF :=
 (AJ (AR 0 (Bh AG))
 (AJ (Bi (BN (AD JO)) (Aa 1) (Bi (BN (AD JN)) (Aa 2) (Bi (BN (AD JM)) (Aa 3) (Dh (CC "list" El (AA 0) (AC (Bg (AC (AA 1) (AC (AA 2) (AC (AA 3) AG)))) AG))))))
 (AU (AA 0))))
abbrev Ku:GL:=Aj Pw NX 0
abbrev NV:AOt:=["sign","kind","signs"]
abbrev Ps:SF :=
 (AJ (Bi (BN (AD NP)) (EX 2 (Bc (Aa 1) (Bc (Aa 2) EJ))) (Ao (AS (AE (Cc false) (AA 0) (AA 2))) (AU (AA 1)) Au))
 (AU (AD .non)))
abbrev Ks:GL:=Aj Ps NV 1
abbrev NT:AOt:=["kind","sign"]
abbrev Po:SF :=
 (AU (LM (AE Ba (AA 0) (AD (.str "any"))) (AE Ba (AK Ks (AC (AA 1) AG)) (AA 0))))
abbrev Kq:GL:=Aj Po NT 2
abbrev NR:AOt:=["place","text","kind","nth","numbers",API]
abbrev Pj:SF :=
 (AJ (AR 2 (AE AN (AA 0) (AD (.int 0))))
 (AJ (AR 3 (AE AN (AA 0) (AD (.int 1))))
 (AJ (AR 4 (Bk (ON (AC (AA 1) AG)) 2 [2] (EX 2 (Bc (Aa 0) (Bc (Aa 1) EJ))) (AS (AK Kq (AC (AA 2) (AC (AA 1) AG)))) (AA 0)))
 (AJ (Ao (AS (AE gLt (AK BQ (AC (AA 4) AG)) (AK Jg (AC (AA 3) AG)))) (AU (AD .non)) Au)
 (AJ (AR 5 (GI (AS (AE Fl (AA 3) (AD (.int 0)))) (AE AN (AA 4) (AE Fk (AA 3) (AD (.int 1)))) (AE AN (AA 4) (AA 3))))
 (AU (GI (AS (AE Ba (AE AN (AA 0) (AD (.int 2))) (AD (.str "ahead")))) (AA 5) (AE BE (AA 5) (AD (.int 1))))))))))
abbrev zq:GL:=Aj Pj NR 2
abbrev NO:AOt:=["texts","places","place","spots"]
abbrev Pe:SF :=
 (AJ (AR 1 IP)
 (AJ (Bi (BN (AK Ku AG)) (Aa 2) (AJ (AR 3 (AK Fj (AC (Bk (BN (AA 0)) 1 [2] (Aa 0) By (AK zq (AC (AA 1) (AC (AA 0) AG)))) AG)))
 (Ao (AS (AE (Cc true) (AD .non) (AA 3))) (Dh (CC "list" El (CC "dict" Hl (AA 1) (AC (AA 3) (AC (Bh AG) AG))) (AC (AA 2) AG))) Au)))
 (AU (AA 1))))
abbrev Ko:GL:=Aj Pe NO 1
abbrev NL:AOt:=[APC,"wanted"]
abbrev Pa:SF :=
 (AU (AK Jf (AC (Bk (IH 2 (AC (AA 0) (AC (AA 1) AG))) 2 [] (EX 2 (Bc (Aa 0) (Bc (Aa 1) EJ))) By (AE (Cc false) (AA 0) (AA 1))) AG)))
abbrev Kn:GL:=Aj Pa NL 2
abbrev NH:AOt:=[AO4,"wanted",APC,"pieces"]
abbrev PV:SF :=
 (Ao (AS (AK Kn (AC (AA 2) (AC (AA 1) AG)))) (Dh (CC "list" Ik (CC "dict" Hl (AA 0) (AC (AA 2) (AC (Bh AG) AG))) (AC (AA 3) AG))) Au)
abbrev JI:GL:=Aj PV NH 4
abbrev NE:AOt:=["texts","starts","ends","signs","text","start","end"]
abbrev PN:SF :=
 (AJ (AR 3 (Bh AG))
 (AJ (Bi (IH 3 (AC (AA 0) (AC (AA 1) (AC (AA 2) AG)))) (EX 3 (Bc (Aa 4) (Bc (Aa 5) (Bc (Aa 6) EJ)))) (AJ (Ao (AS (AE Oe (AA 5) (AA 6))) (AU (AD .non)) Au)
 (Dh (CC "list" El (AA 3) (AC (DY (AA 4) (CU (AA 5)) (CU (AA 6))) AG)))))
 (AU (AA 3))))
abbrev Km:GL:=Aj PN NE 3
abbrev NA:AOt:=["deed","starts","ends","pieces","start"]
abbrev Rl:SF :=
 (AJ (AR 3 (Bh AG))
 (AJ (Bi (BN (AA 1)) (Aa 4) (Dh (CC "list" Ik (AA 3) (AC (Bk (BN (AA 2)) 1 [0,4] (Aa 0) By (Bg (AC (AA 1) (AC (AA 2) (AC (AA 0) AG))))) AG))))
 (AU (AA 3))))
abbrev Kl:GL:=Aj Rl NA 3
abbrev Mx:AOt:=["deed","signs"]
abbrev Rf:SF :=
 (AJ (Ao (AS (AE Ba (AA 0) (AD (.str "copy")))) (AU (AA 1)) Au)
 (AU (GI (AS (AE Ba (AA 0) (AD (.str "raise")))) (CC "str" (gS0s Txt.upper) (AA 1) AG) (CC "str" (gS0s Txt.lower) (AA 1) AG))))
abbrev Kk:GL:=Aj Rf Mx 2
abbrev Mu:AOt:=[AO7,"texts","wanted",AO4,"word","places","starts","ends","signs","deed",APC]
abbrev RY:SF :=
 (AJ (AR 3 IP)
 (AJ (Bi (BN (AA 0)) (Aa 4) (Dh (AK JI (AC (AA 3) (AC (AA 2) (AC (AK Fj (AC (Bk (BN (AA 1)) 1 [4] (Aa 0) By (AA 1)) AG)) (AC (Bh (AC (Bg (AC (AD (.str "word")) (AC (AA 4) AG))) AG)) AG)))))))
 (AJ (AR 5 (AK Ko (AC (AA 1) AG)))
 (AJ (Bi (LW (AA 5)) (Aa 6) (Bi (LW (AA 5)) (Aa 7) (AJ (AR 8 (AK Km (AC (AA 1) (AC (AA 6) (AC (AA 7) AG)))))
 (Ao (AS (AE Ij (AA 8) (AD .non))) (Bi (BN (AD Ke)) (Aa 9) (AJ (AR 10 (AK Fj (AC (Bk (BN (AA 8)) 1 [9] (Aa 0) By (AK Kk (AC (AA 1) (AC (AA 0) AG)))) AG)))
 (Dh (AK JI (AC (AA 3) (AC (AA 2) (AC (AA 10) (AC (AK Kl (AC (AA 9) (AC (AE FS (AA 5) (AA 6)) (AC (AE FS (AA 5) (AA 7)) AG)))) AG)))))))) Au))))
 (AU (AA 3))))))
abbrev Kj:GL:=Aj RY Mu 3
abbrev Mr:AOt:=[AO8,"length","rest"]
abbrev RS:SF :=
 (AJ (Ao (AS (AE Ba (AA 1) (AD (.int 1)))) (AU (GI (AS (AE (HL false) (AA 2) (BG (BO [AO1] AO4) (AA 0)))) (Bh (AC (AA 2) AG)) (Bh AG))) Au)
 (AU (AK Ld (AC (BG (BO [AO1] AO4) (AA 0)) AG))))
abbrev Ki:GL:=Aj RS Mr 3
abbrev Mo:AOt:=["rest",APC,"parts","part","answer"]
abbrev RM:SF :=
 (AJ (AR 2 (Bh AG))
 (AJ (Bi (IH 2 (AC (AA 0) (AC (AA 1) AG))) (EX 2 (Bc (Aa 3) (Bc (Aa 4) EJ))) (AJ (Ao (Da (AS (CC "str" OY (AA 3) (AC (AA 4) AG)))) (AU (AD .non)) Au)
 (Dh (CC "list" El (AA 2) (AC (DY (AA 3) (CU (AK BQ (AC (AA 4) AG))) FN) AG)))))
 (AU (AK Fj (AC (AA 2) AG)))))
abbrev Kh:GL:=Aj RM Mo 2
abbrev Ml:AOt:=[AO8,"length","rest","node",APC,"behind",API]
abbrev RG(zf:GL):SF :=
 (AJ (AR 3 (IB AO2 zp (AC (AD (.int 0)) AG)))
 (AJ (Bi (BN (AK Ki (AC (AA 0) (AC (AA 1) (AC (AA 2) AG))))) (Aa 4) (AJ (AR 5 (AK Kh (AC (AA 2) (AC (AA 4) AG))))
 (Ao (AS (AE Ij (AA 5) (AD .non))) (AJ (AR 6 (AK zf (AC (AA 0) (AC (AE Fk (AA 1) (AD (.int 1))) (AC (AA 5) AG)))))
 (Ao (AS (AE FR (AA 6) (AD Kc))) (AJ (Io (BG (BO [AO2] AO6) (AA 3)) (AA 4) (Bg (AC (BG (BO [AO2] AO3) (AA 3)) (AC (AA 6) AG))))
 (Lw [AO2] AO3 (λi j=>i+j) (AA 3) (AE CI (AK BQ (AC (AE FS (BG (BO [AO1] AO4) (AA 0)) (AA 4)) AG)) (BG (BO [AO2] AO3) (AE AN (BG (BO [AO1] AO5) (AA 0)) (AA 6)))))) Au)) Au)))
 (AJ (Ao (AS (AE Ba (BG (BO [AO2] AO3) (AA 3)) (AD (.int 0)))) (AU (AD Kc)) Au)
 (AJ (Dh (CC "list" El (BG (BO [AO1] AO5) (AA 0)) (AC (AA 3) AG)))
 (AU (AE Fk (AK BQ (AC (BG (BO [AO1] AO5) (AA 0)) AG)) (AD (.int 1))))))))
abbrev Mh(zf:GL):GL:=Aj (RG zf) Ml 3
abbrev Me:AOt:=[AO8,"length","rest","key"]
abbrev Mb(zs4:GL):SF :=
 (AJ (Ao (AS (AE Ba (AA 1) (AD (.int 0)))) (AU (AD NM)) Au)
 (AJ (AR 3 (Bg (AC (AA 1) (AC (AA 2) AG))))
 (AJ (Ao (AS (AE (HL true) (AA 3) (BG (BO [AO1] APA) (AA 0)))) (Io (BG (BO [AO1] APA) (AA 0)) (AA 3) (AK zs4 (AC (AA 0) (AC (AA 1) (AC (AA 2) AG))))) Au)
 (AU (AE FS (BG (BO [AO1] APA) (AA 0)) (AA 3))))))
abbrev zh:Nat->GL
 |0=>λ_ _=>none
 |n+1=>Aj (Mb (Mh (zh n))) Me 3
abbrev zf:GL:=zh 5
abbrev MW:AOt:=[AO7,"examples","ordered","texts","wanted",AO8]
abbrev RA:SF :=
 (AJ (AR 2 (AK LZ (AC (AA 1) AG)))
 (AJ (AR 3 (Bk (BN (AA 2)) 1 [] (Aa 0) By (AE AN (AA 0) (AD (.int 0)))))
 (AJ (AR 4 (AK Fj (AC (Bk (BN (AA 2)) 1 [] (Aa 0) By (AE AN (AA 0) (AD (.int 1)))) AG)))
 (AJ (AR 5 (IB AO1 Kw (AC (AK Fj (AC (AA 0) AG)) (AC (AK Kj (AC (AA 0) (AC (AA 3) (AC (AA 4) AG)))) AG))))
 (AJ (Dh (CC "list" Ik (BG (BO [AO1] APB) (AA 5)) (AC (Bk (BN (AD JL)) 1 [5,4] (Aa 0) By (AK zf (AC (AA 1) (AC (AA 0) (AC (AA 2) AG))))) AG)))
 (AU (AA 5)))))))
abbrev Kg:GL:=Aj RA MW 2
abbrev MT:AOt:=[AO8]
abbrev Qu:SF :=
 (AU (AK LY (AC (Bk (BN (BG (BO [AO1] APB) (AA 0))) 1 [0] (Aa 0) By (BG (BO [AO2] AO3) (AE AN (BG (BO [AO1] AO5) (AA 1)) (AA 0)))) AG)))
abbrev Kf:GL:=Aj Qu MT 1
abbrev MQ:AOt:=["find"]
abbrev Qp:SF :=
 (AU (AE AN (AA 0) (AD (.int 0))))
abbrev zr:GL:=Aj Qp MQ 1
abbrev MN:AOt:=["finds"]
abbrev Qj:SF :=
 (AU (AK (Lc zr) (AC (AA 0) AG)))
abbrev zt:GL:=Aj Qj MN 1
abbrev ML:AOt:=["place","nth_price","kind_price"]
abbrev Qf:SF :=
 (AJ (AR 1 (GI (AS (AE Ba (AK Jg (AC (AE AN (AA 0) (AD (.int 1))) AG)) (AD (.int 1)))) (AD (.int 1)) (AD (.int 3))))
 (AJ (AR 2 (GI (AS (AE Ba (AE AN (AA 0) (AD (.int 0))) (AD (.str "any")))) (AD (.int 0)) (AD (.int 1))))
 (AU (AE BE (AA 1) (AA 2)))))
abbrev JH:GL:=Aj Qf ML 1
abbrev MJ:AOt:=["piece","deed","deed_price"]
abbrev Qb:SF :=
 (AJ (AR 1 (AE AN (AA 0) (AD (.int 0))))
 (AJ (Ao (AS (AE Ba (AA 1) (AD (.str "word")))) (AU (AE BE (AD (.int 3)) (AE CI (AD (.int 2)) (AK BQ (AC (AE AN (AA 0) (AD (.int 1))) AG))))) Au)
 (AJ (AR 2 (GI (AS (AE Ba (AA 1) (AD (.str "copy")))) (AD (.int 0)) (AD (.int 2))))
 (AU (AE BE (AE BE (AA 2) (AK JH (AC (AE AN (AA 0) (AD (.int 1))) AG))) (AK JH (AC (AE AN (AA 0) (AD (.int 2))) AG)))))))
abbrev Kd:GL:=Aj Qb MJ 1
abbrev MH:AOt:=["pieces"]
abbrev QX:SF :=
 (AU (AK zt (AC (Bk (BN (AA 0)) 1 [] (Aa 0) By (Bg (AC (AK Kd (AC (AA 0) AG)) (AC (AA 0) AG)))) AG)))
abbrev Kb:GL:=Aj QX MH 1
abbrev NY:AOt:=["find","behind"]
abbrev QS:SF :=
 (AU (Bg (AC (AE BE (AE AN (AA 0) (AD (.int 0))) (AE AN (AA 1) (AD (.int 0)))) (AC (AE BE (Bg (AC (AE AN (AA 0) (AD (.int 1))) AG)) (AE AN (AA 1) (AD (.int 1)))) AG))))
abbrev KZ:GL:=Aj QS NY 2
abbrev NW:AOt:=["node","piece_finds","finds"]
abbrev QN:SF :=
 (AU (AK zt (AC (Bk (Ii (BG (BO [AO2] AO6) (AA 0))) 2 [1,2] (EX 2 (Bc (Aa 0) (Bc (Aa 1) EJ))) By (AK KZ (AC (AE FS (AA 2) (AA 0)) (AC (AE AN (AA 3) (AE AN (AA 1) (AD (.int 1)))) AG)))) AG)))
abbrev KW:GL:=Aj QN NW 3
abbrev NU:AOt:=[AO8,"piece_finds",APC,"pieces","finds","node"]
abbrev QJ:SF :=
 (AJ (AR 1 IP)
 (AJ (Bi (Ii (BG (BO [AO1] AO4) (AA 0))) (EX 2 (Bc (Aa 2) (Bc (Aa 3) EJ))) (Io (AA 1) (AA 2) (AK Kb (AC (AA 3) AG))))
 (AJ (AR 4 (Bh (AC (Bg (AC (AD (.int 0)) (AC (Bg AG) AG))) (AC (AD .non) AG))))
 (AJ (Bi (BN (DY (BG (BO [AO1] AO5) (AA 0)) (CU (AD (.int 2))) FN)) (Aa 5) (Dh (CC "list" El (AA 4) (AC (AK KW (AC (AA 5) (AC (AA 1) (AC (AA 4) AG)))) AG))))
 (AU (AA 4))))))
abbrev KS:GL:=Aj QJ NU 1
abbrev NS:AOt:=[AO8,"finds","found"]
abbrev QE:SF :=
 (AJ (AR 1 (AK KS (AC (AA 0) AG)))
 (AJ (AR 2 (AK zt (AC (Bk (BN (BG (BO [AO1] APB) (AA 0))) 1 [1] (Aa 0) (AS (AE Ij (AE AN (AA 1) (AA 0)) (AD .non))) (AE AN (AA 1) (AA 0))) AG)))
 (AU (GI (AS (AE IJ (AA 2) (AD .non))) (AD .non) (AE AN (AA 2) (AD (.int 1)))))))
abbrev zu:GL:=Aj QE NS 1
abbrev NQ:AOt:=["node",API,"found",APC,"arm"]
abbrev Pz:SF :=
 (AJ (AR 2 (AD .non))
 (AJ (Bi (Ii (BG (BO [AO2] AO6) (AA 0))) (EX 2 (Bc (Aa 3) (Bc (Aa 4) EJ))) (AJ (Ao (AS (AE Fl (AE AN (AA 4) (AD (.int 0))) (AA 1))) Tp Au)
 (AR 2 (AA 3))))
 (AU (AA 2))))
abbrev KQ:GL:=Aj Pz NQ 2
abbrev NN:AOt:=[AO8,"root",API,"pieces","node",APC,"arm","behind","within"]
abbrev Pv:SF :=
 (AJ (AR 3 (Bh AG))
 (AJ (AR 4 (AE AN (BG (BO [AO1] AO5) (AA 0)) (AA 1)))
 (AJ (Rp (AS (AE Fl (AK Lf (AC (BG (BO [AO2] AO6) (AA 4)) AG)) (AD (.int 0)))) (AJ (AR 5 (AK KQ (AC (AA 4) (AC (AA 2) AG))))
 (AJ (AR 6 (AE FS (BG (BO [AO2] AO6) (AA 4)) (AA 5)))
 (AJ (AR 7 (AE AN (BG (BO [AO1] AO5) (AA 0)) (AE AN (AA 6) (AD (.int 1)))))
 (AJ (AR 8 (AE Fk (AA 2) (AE AN (AA 6) (AD (.int 0)))))
 (AJ (Dh (CC "list" El (AA 3) (AC (AE AN (AE FS (BG (BO [AO1] AO4) (AA 0)) (AA 5)) (AE Cd (AA 8) (BG (BO [AO2] AO3) (AA 7)))) AG)))
 (AJ (AR 2 (AE BK (AA 8) (BG (BO [AO2] AO3) (AA 7))))
 (AR 4 (AA 7)))))))))
 (AU (AK Fj (AC (AA 3) AG))))))
abbrev KO:GL:=Aj Pv NN 3
abbrev NJ:AOt:=[AO8,API,"root",AO3]
abbrev Pr:SF :=
 (AJ (Ao (AS (AE gLt (AA 1) (AD (.int 0)))) Si Au)
 (AJ (Bi (BN (BG (BO [AO1] APB) (AA 0))) (Aa 2) (AJ (AR 3 (BG (BO [AO2] AO3) (AE AN (BG (BO [AO1] AO5) (AA 0)) (AA 2))))
 (AJ (Ao (AS (AE gLt (AA 1) (AA 3))) (AU (AK KO (AC (AA 0) (AC (AA 2) (AC (AA 1) AG))))) Au)
 (Jq 1 (λi j=>i-j) (AA 3)))))
 Si))
abbrev KM:GL:=Aj Pr NJ 2
abbrev NG:AOt:=["_law_thing"]
abbrev Pn:SF :=
 (AJ (Ao (DI (Da (AS (AK DS (AC (AA 0) (AC (AD (.ty "tuple")) AG))))) (AS (AE FR (AK BQ (AC (AA 0) AG)) (AD (.int 3))))) (AU (AD (.bl false))) Au)
 (AJ (Ao (DI (Da (AS (AK DS (AC (AE AN (AA 0) (AD (.int 1))) (AC (AD (.ty "int")) AG))))) (DI (AS (AK DS (AC (AE AN (AA 0) (AD (.int 1))) (AC (AD (.ty "bool")) AG)))) (AS (AE (Cc true) (AE AN (AA 0) (AD (.int 1))) (Bg (AC (AD (.int 1)) (AC (AD (.int 2)) (AC (BG HK (AD (.int 1))) (AC (BG HK (AD (.int 2))) AG))))))))) (AU (AD (.bl false))) Au)
 (AJ (Ao (DI (Da (AS (AK DS (AC (AE AN (AA 0) (AD (.int 0))) (AC (AD (.ty "str")) AG))))) (Da (AS (AK DS (AC (AE AN (AA 0) (AD (.int 2))) (AC (AD (.ty "str")) AG)))))) (AU (AD (.bl false))) Au)
 (AU (Ep (AE (Cc false) (AE AN (AA 0) (AD (.int 0))) (Bg (AC (AD (.str "small")) (AC (AD (.str "great")) (AC (AD (.str "figure")) (AC (AD (.str "mark")) (AC (AD (.str "any")) AG))))))) (AE (Cc false) (AE AN (AA 0) (AD (.int 2))) (Bg (AC (AD (.str "ahead")) (AC (AD (.str "behind")) AG)))))))))
abbrev JG:GL:=Aj Pn NG 1
abbrev ND:AOt:=["_law_thing",APE,APJ]
abbrev Ph:SF :=
 (AJ (Ao (DI (Da (AS (AK DS (AC (AA 0) (AC (AD (.ty "tuple")) AG))))) (Da (AS (Jm Oc Oc (AD (.int 1)) (AK BQ (AC (AA 0) AG)) (AD (.int 3)))))) (AU (AD (.bl false))) Au)
 (AJ (Bi (BN (AA 0)) (Aa 2) (AJ (Ao (DI (Da (AS (AK DS (AC (AA 2) (AC (AD (.ty "tuple")) AG))))) (DI (AS (AE gLt (AK BQ (AC (AA 2) AG)) (AD (.int 2)))) (Da (AS (AK DS (AC (AE AN (AA 2) (AD (.int 0))) (AC (AD (.ty "str")) AG))))))) (AU (AD (.bl false))) Au)
 (Ao (AS (AE Ba (AE AN (AA 2) (AD (.int 0))) (AD (.str "word")))) (Ao (DI (AS (AE FR (AK BQ (AC (AA 2) AG)) (AD (.int 2)))) (DI (Da (AS (AK DS (AC (AE AN (AA 2) (AD (.int 1))) (AC (AD (.ty "str")) AG))))) (AS (AE (Cc true) (AE AN (AA 2) (AD (.int 1))) (AA 1))))) (AU (AD (.bl false))) Au) (Ao (DI (AS (AE FR (AK BQ (AC (AA 2) AG)) (AD (.int 3)))) (AS (AE (Cc true) (AE AN (AA 2) (AD (.int 0))) (Bg (AC (AD (.str "copy")) (AC (AD (.str "raise")) (AC (AD (.str "sink")) AG))))))) (AU (AD (.bl false))) (Ao (DI (Da (AS (AK JG (AC (AE AN (AA 2) (AD (.int 1))) AG)))) (Da (AS (AK JG (AC (AE AN (AA 2) (AD (.int 2))) AG))))) (AU (AD (.bl false))) Au)))))
 (AU (AD (.bl true)))))
abbrev KJ:GL:=Aj Ph ND 2
abbrev Mz:AOt:=[APH,APE,"_law_examples",APF,"_law_answer"]
abbrev Pd:SF :=
 (AJ (Ao (Da (AS (AK KJ (AC (AA 0) (AC (AA 1) AG))))) (AU (AD (.bl false))) Au)
 (AJ (Bi (BN (AA 2)) (EX 2 (Bc (Aa 3) (Bc (Aa 4) EJ))) (Ao (AS (AE Lb (AK JK (AC (AA 0) (AC (AA 3) AG))) (AA 4))) (AU (AD (.bl false))) Au))
 (AU (AD (.bl true)))))
abbrev JF:GL:=Aj Pd Mz 3
abbrev Mw:AOt:=["_law_found"]
abbrev PZ:SF :=
 (AU (Ep (AK DS (AC (AA 0) (AC (AD (.ty "int")) AG))) (LN (AK DS (AC (AA 0) (AC (AD (.ty "bool")) AG))))))
abbrev KH:GL:=Aj PZ Mw 1
abbrev Mt:AOt:=["length","thing"]
abbrev PU:SF :=
 (AU (Ep (AK DS (AC (AA 1) (AC (AD (.ty "tuple")) AG))) (AE Ba (AK BQ (AC (AA 1) AG)) (AA 0))))
abbrev JE:GL:=Aj PU Mt 2
abbrev Mq:AOt:=["thing",AO7]
abbrev PM:SF :=
 (AU (Ep (AK DS (AC (AA 0) (AC (AD (.ty "str")) AG))) (AE (Cc false) (AA 0) (AA 1))))
abbrev zg:GL:=Aj PM Mq 2
abbrev Mn:AOt:=["thing"]
abbrev Rk:SF :=
 (AU (Ep (AK DS (AC (AA 0) (AC (AD (.ty "int")) AG))) (Ep (LN (AK DS (AC (AA 0) (AC (AD (.ty "bool")) AG)))) (AE (Cc false) (AA 0) (AD JN)))))
abbrev KF:GL:=Aj Rk Mn 1
abbrev Mj:AOt:=["thing"]
abbrev Re:SF :=
 (AJ (Ao (DI (Da (AS (AK DS (AC (AA 0) (AC (AD (.ty "tuple")) AG))))) (AS (AE FR (AK BQ (AC (AA 0) AG)) (AD (.int 3))))) (AU (AD (.bl false))) Au)
 (AU (Ep (AK zg (AC (AE AN (AA 0) (AD (.int 0))) (AC (AD JO) AG))) (Ep (AK KF (AC (AE AN (AA 0) (AD (.int 1))) AG)) (AK zg (AC (AE AN (AA 0) (AD (.int 2))) (AC (AD JM) AG)))))))
abbrev zw:GL:=Aj Re Mj 1
abbrev Mg:AOt:=["thing"]
abbrev RX:SF :=
 (AU (Ep (AK JE (AC (AD (.int 3)) (AC (AA 0) AG))) (Ep (AK zg (AC (AE AN (AA 0) (AD (.int 0))) (AC (AD Ke) AG))) (Ep (AK zw (AC (AE AN (AA 0) (AD (.int 1))) AG)) (AK zw (AC (AE AN (AA 0) (AD (.int 2))) AG))))))
abbrev KB:GL:=Aj RX Mg 1
abbrev Md:AOt:=[AO8,"piece"]
abbrev RR:SF :=
 (AJ (Ao (AS (AK JE (AC (AD (.int 2)) (AC (AA 1) AG)))) (AU (Ep (AK zg (AC (AE AN (AA 1) (AD (.int 0))) (AC (Bg (AC (AD (.str "word")) AG)) AG))) (AK zg (AC (AE AN (AA 1) (AD (.int 1))) (AC (BG (BO [AO1] AO7) (AA 0)) AG))))) Au)
 (AU (AK KB (AC (AA 1) AG))))
abbrev Kv:GL:=Aj RR Md 2
abbrev Ma:AOt:=[AO8,"row"]
abbrev RL:SF :=
 (AJ (Ao (DI (Da (AS (AK DS (AC (AA 1) (AC (AD (.ty "tuple")) AG))))) (AS (AE (Cc true) (AK BQ (AC (AA 1) AG)) (AD JL)))) (AU (AD (.bl false))) Au)
 (AU (AK Jf (AC (Bk (BN (AA 1)) 1 [0] (Aa 0) By (AK Kv (AC (AA 1) (AC (AA 0) AG)))) AG))))
abbrev Kt:GL:=Aj RL Ma 2
abbrev MY:AOt:=[AO8,"row","shorter",API,"node","piece","member","arm"]
abbrev RF:SF :=
 (AJ (Ao (Da (AS (AK Kt (AC (AA 0) (AC (AA 1) AG))))) (AU (AD .non)) Au)
 (AJ (AR 2 (AE Fk (AK BQ (AC (AA 1) AG)) (AD (.int 1))))
 (AJ (AR 3 (AK LY (AC (Bk (BN (DY (BG (BO [AO1] APB) (AA 0)) FN (CU (AA 2)))) 1 [0] (Aa 0) By (BG (BO [AO2] AO3) (AE AN (BG (BO [AO1] AO5) (AA 1)) (AA 0)))) AG)))
 (AJ (AR 4 (AE AN (BG (BO [AO1] AO5) (AA 0)) (AE AN (BG (BO [AO1] APB) (AA 0)) (AA 2))))
 (AJ (Bi (BN (AA 1)) (Aa 5) (AJ (AR 6 (CC "dict" Lh (BG (BO [AO1] AO9) (AA 0)) (AC (AA 5) AG)))
 (AJ (Ao (DI (AS (AE IJ (AA 6) (AD .non))) (AS (AE (HL true) (AE AN (AA 6) (AD (.int 0))) (BG (BO [AO2] AO6) (AA 4))))) (AU (AD .non)) Au)
 (AJ (AR 7 (AE FS (BG (BO [AO2] AO6) (AA 4)) (AE AN (AA 6) (AD (.int 0)))))
 (AJ (AR 4 (AE AN (BG (BO [AO1] AO5) (AA 0)) (AE AN (AA 7) (AD (.int 1)))))
 (Jq 3 (λi j=>i+j) (AE BE (AE AN (AA 7) (AD (.int 0))) (AE CI (AE AN (AA 6) (AD (.int 1))) (BG (BO [AO2] AO3) (AA 4))))))))))
 (AU (AA 3)))))))
abbrev Kr:GL:=Aj RF MY 2
abbrev MV:AOt:=[APH,"_law_cost",APJ,APN]
abbrev Qz:SF :=
 (AJ (AR 1 (AD (.int 0)))
 (AJ (Bi (BN (AA 0)) (Aa 2) (Ao (AS (AE Ba (AE AN (AA 2) (AD (.int 0))) (AD (.str "word")))) (AR 1 (AE BE (AE BE (AA 1) (AD (.int 3))) (AE CI (AD (.int 2)) (AK BQ (AC (AE AN (AA 2) (AD (.int 1))) AG))))) (AJ (AR 1 (AE BE (AA 1) (AE CI (AD (.int 2)) (AK IK (AC (AE FR (AE AN (AA 2) (AD (.int 0))) (AD (.str "copy"))) AG)))))
 (Bi (BN (Bh (AC (AE AN (AA 2) (AD (.int 1))) (AC (AE AN (AA 2) (AD (.int 2))) AG)))) (Aa 3) (AR 1 (AE BE (AE BE (AA 1) (AE AN (Bh (AC (AD (.int 3)) (AC (AD (.int 1)) AG))) (AK IK (AC (AE (Cc false) (AE AN (AA 3) (AD (.int 1))) (Bg (AC (AD (.int 1)) (AC (BG HK (AD (.int 1))) AG)))) AG)))) (AK IK (AC (AE FR (AE AN (AA 3) (AD (.int 0))) (AD (.str "any"))) AG))))))))
 (AU (AA 1))))
abbrev zi:GL:=Aj Qz MV 1
abbrev MS:AOt:=[APJ,APG,"_law_places",APN,"_law_spots",APK,"_law_other","_law_cost","_law_copied","_law_due"]
abbrev Qt:SF :=
 (AJ (Ao (AS (AE Ek (AE AN (AA 0) (AD (.int 0))) (AD (.str "word")))) (AU (AA 0)) Au)
 (AJ (AR 2 (Bh AG))
 (AJ (Bi (BN (Bh (AC (AE AN (AA 0) (AD (.int 1))) (AC (AE AN (AA 0) (AD (.int 2))) AG)))) (Aa 3) (AJ (AR 4 (Bk (BN (AA 1)) 1 [3] (Aa 0) By (AK ze (AC (AA 1) (AC (AA 0) AG)))))
 (AJ (Bi (Gi (AC (AD (.int 40)) AG)) (Aa 5) (AJ (AR 6 (AK zm (AC (AA 5) AG)))
 (AJ (AR 7 (AK zi (AC (Bg (AC (Bg (AC (AD (.str "copy")) (AC (AA 6) (AC (AA 6) AG)))) AG)) AG)))
 (Ao (AS (AE gLt (AA 7) (AK zi (AC (Bg (AC (Bg (AC (AD (.str "copy")) (AC (AA 3) (AC (AA 3) AG)))) AG)) AG)))) (Ao (AS (AE Ek (Bk (BN (AA 1)) 1 [6] (Aa 0) By (AK ze (AC (AA 1) (AC (AA 0) AG)))) (AA 4))) (AR 3 (AA 6)) Au) Au))))
 (Dh (CC "list" El (AA 2) (AC (AA 3) AG))))))
 (AJ (AR 8 (Bg (AC (AD (.str "copy")) (AC (AE AN (AA 2) (AD (.int 0))) (AC (AE AN (AA 2) (AD (.int 1))) AG)))))
 (AJ (AR 9 (Bk (BN (AA 1)) 1 [0] (Aa 0) By (AK zc (AC (AA 1) (AC (AA 0) AG)))))
 (AJ (Ao (AS (AE Ek (Bk (BN (AA 1)) 1 [8] (Aa 0) By (AK zc (AC (AA 1) (AC (AA 0) AG)))) (AA 9))) (AU (AA 8)) Au)
 (AU (Bg (AC (AE AN (AA 0) (AD (.int 0))) (AC (AE AN (AA 2) (AD (.int 0))) (AC (AE AN (AA 2) (AD (.int 1))) AG)))))))))))
abbrev Kp:GL:=Aj Qt MS 2
abbrev MP:AOt:=[APM,APL,APE,APH,"_law_examples","_law_table","_law_size","_law_found",APG,"_law_told","_law_other"]
abbrev Qo:SF :=
 (AJ (AR 1 (AK KY (AC (AA 0) (AC (AD (.int 24)) (AC (AD (.int 54)) AG)))))
 (AJ (Jr (AK KC (AC (AA 1) AG)) 3 (Bc (Aa 2) (Bc (Aa 3) (Bc (Aa 4) EJ))))
 (AJ (AR 5 (AK Kg (AC (AA 2) (AC (AA 4) AG))))
 (AJ (AR 6 (AK Kf (AC (AA 5) AG)))
 (AJ (AR 7 (AK zu (AC (AA 5) AG)))
 (AJ (Ao (AS (AE Ek (AA 6) (AD (.int 0)))) (AU (AE IJ (AA 7) (AD .non))) Au)
 (AJ (Ao (DI (Da (AS (AK JF (AC (AA 7) (AC (AA 2) (AC (AA 4) AG)))))) (Da (AS (AK KH (AC (AK Kr (AC (AA 5) (AC (AA 7) AG))) AG))))) (AU (AD (.bl false))) Au)
 (AJ (AR 8 (Bk (BN (AA 4)) 2 [] (EX 2 (Bc (Aa 0) (Bc (Aa 1) EJ))) By (AA 0)))
 (AJ (AR 9 (AK KM (AC (AA 5) (AC (AE BK (AE AN (AA 1) (AD (.int 3))) (AA 6)) AG))))
 (AJ (Bi (BN (Bh (AC (AA 3) (AC (AK Fj (AC (Bk (BN (AA 3)) 1 [8] (Aa 0) By (AK Kp (AC (AA 0) (AC (AA 1) AG)))) AG)) (AC (AA 9) AG))))) (Aa 10) (Ao (IR (AS (AK JF (AC (AA 10) (AC (AA 2) (AC (AA 4) AG))))) (AS (AE gLt (AK zi (AC (AA 10) AG)) (AK zi (AC (AA 7) AG))))) (AU (AD (.bl false))) Au))
 (AU (AE Ek (AK zu (AC (AA 5) AG)) (AA 7)))))))))))))
abbrev JD:GL:=Aj Qo MP 1
end L3
local macro_rules | `(tactic| wtm_at "z_lk") => `(tactic| first | (with_reducible assumption) | (with_reducible exact L3.AW) | ((with_reducible refine L3.AQ ?_); wtm_at "z_lk") | ((with_reducible refine L3.Ci ?_); wtm_at "z_lk") | fail)
local macro_rules | `(tactic| wtm_at "z_pf") => `(tactic| first | exact AV _ | assumption | ((with_reducible refine List.IsPrefix.trans ?_ (Ac _ _)); wtm_at "z_pf") | ((with_reducible refine L3.Hz ?_ ?_); (focus wtm_at "z_pf"); (focus (first | exact Ag _ | simp))) | fail)
local macro_rules | `(tactic| rfl') => `(tactic| wtm_at "z")
local macro_rules | `(tactic| wtm_at "z") => do let k1 := Lean.mkIdent `k1; let k2 := Lean.mkIdent `k2; let k3 := Lean.mkIdent `k3; let f := fun (s : String) (ks : Array Lean.Ident) (xs : List (Lean.TSyntax `tactic)) => (do let ks ← ks.mapM fun k => `(?$k:ident); let ys ← (s.splitOn " ").toArray.mapM fun n => `(tactic| refine' $(Lean.mkCIdent (.str `L3 n)) $ks* ?_); let y ← `(tactic| with_reducible first $[| $ys:tactic]* | fail); xs.foldlM (fun y x => `(tactic| ($y:tactic; $x:tactic))) y : Lean.MacroM (Lean.TSyntax `tactic)); let x0 := fun (k : Lean.Ident) => `(tactic| (case $k:ident => with_unfolding_all rfl)); let x1 := fun (k : Lean.Ident) => `(tactic| (case $k:ident => first | rfl | (unfold L3.Om; refine decide_eq_true ?_; omega))); let x2 := fun (k : Lean.Ident) => `(tactic| (case $k:ident => first | rfl | (unfold L3.Lp; rw [Bs]; constructor <;> refine decide_eq_true ?_ <;> omega))); let x3 := fun (k : Lean.Ident) => `(tactic| (case $k:ident => wtm_at "z_lk")); let x4 := fun (k : Lean.Ident) => `(tactic| (case $k:ident => (first | with_unfolding_all rfl | (refine L3.ty_of_lst (xs := ?y1) ?y2; (case y2 => wtm_at "z_lk")) | (refine L3.ty_of_dk (xs := ?y1) ?y2; (case y2 => wtm_at "z_lk"))))); let x5 := fun (k : Lean.Ident) => `(tactic| (case $k:ident => first | decide | omega)); let x6 := fun (k : Lean.Ident) => `(tactic| (case $k:ident => first | rfl | assumption | decide | omega | (simp only [Dm, List.length_nil]; omega))); let s ← `(tactic| first | $(← f "Nb Na AJC AJG AJF AJH AJI AJK AJE AJN AJD AJL AJJ" #[] []):tactic | $(← f "AJM" #[k1] [(← x0 k1)]):tactic | fail); let e ← `(tactic| first | $(← f "Rs ALq TU" #[k1] [(← x0 k1)]):tactic | $(← f "Vl Vk Vm Vj AJs AJt AJf AJu AJk ABv AJo AJm AJg AG7 AJw AJh AJq AJv AJj AJl AJi AJn ABx ALX ALd ALi ALp ALv ALw AL0 ALy ALf ALe ALz ALs ALr ALu ALZ ALl ALk ALn AL1 ALh ALg ALt ALb ALc AJr AJp ABw ALY AL2 AL3" #[] []):tactic | $(← f "AGz" #[k1] [(← x1 k1)]):tactic | $(← f "AG4" #[k1] [(← x2 k1)]):tactic | $(← f "ALm ALW ALa" #[k1] [(← x3 k1)]):tactic | $(← f "TV" #[k1, k2, k3] [(← x0 k1), (← x4 k2), (← x0 k3)]):tactic | $(← f "Fi" #[k1, k2, k3] [(← x0 k1), (← x4 k2), (← x0 k3)]):tactic | $(← f "ALx" #[k1, k2, k3] [(← x3 k1), (← x0 k2), (← x0 k3)]):tactic | $(← f "ALo ALj" #[k1] [(← x3 k1)]):tactic | $(← f "TW AG5" #[k1, k2] [(← x3 k1), (← x0 k2)]):tactic | $(← f "" #[k1, k2, k3] [(← x3 k1), (← x3 k2), (← x0 k3)]):tactic | fail); let t ← `(tactic| first | $(← f "ALM AM3 AM2 AM8 ALL Rq AJa AJZ AJX AJP AJR AJQ AJW AL7 AM6 AM7 AM4 AM5 AJz AJU AJT AJV AJO" #[] []):tactic | $(← f "AGI AJY AJx" #[k1] [(← x0 k1)]):tactic | $(← f "Vq AJS ALD" #[k1] [(← x3 k1)]):tactic | $(← f "AJy" #[k1, k2] [(← x3 k1), (← x0 k2)]):tactic | $(← f "Yk" #[k1, k2, k3] [(← x3 k1), (← x0 k2), (← x0 k3)]):tactic | $(← f "AMa AJ0" #[k1] [(← x3 k1)]):tactic | $(← f "AKU AKT" #[k1] [(← x5 k1)]):tactic | $(← f "AM9" #[k1] [(← x6 k1)]):tactic | $(← f "ANA" #[k1] [(← x6 k1)]):tactic | fail); `(tactic| repeat' (first | ((with_reducible refine (?_ : L3.WS _ _ _ _ _)); $s:tactic) | ((with_reducible refine (?_ : L3.W2 _ _)); $e:tactic) | ((fail_if_success (with_reducible refine (?_ : L3.W2 _ _))); $t:tactic) | fail))
namespace L3
open PySem PySem.Spec PyProof.Rows L2
abbrev MB(n:Int):Prop:=n=1\/n=2\/n=-1\/n=-2
abbrev CQ(d:D):Prop:=∃(kind:Str) (nth:Int) (edge:Str),d=.tup [.str kind,.int nth,.str edge]/\MB nth/\(edge = "ahead"\/edge = "behind")/\kind∈([("small":Str),"great","figure","mark","any"]:AOt)
def Tn{Q:APT}{L:AB}{ns:AOz}{f:Nat}(d:L[f]?=some (.lst (ns.map .int)))(j:∀v∈ns,0<=v)(s:0<ns.length)(r:ns.length<=63){k:Int}(h0:0<=k)(n:k<1000)(q:∀v:Int,0<=v->Q (.int v) L):W2 (zo [.ref f,.int k] L) Q:=by
 have a:((ns.map D.int).length:Int)=ns.length:=by simp
 unfold zo;refine BP rfl ?_;unfold QY;rfl';refine BR (λi=>?_) (λi=>?_)
 .obtain⟨z,h,c⟩:=HP h0 (a▸i);rfl';refine BZ d c ?_;exact⟨rfl,AV _,q _ (j z h)⟩
 .have hkk:0<=k*k/\k*k<=1000000:=by
   have o:k*k<=1000*1000:=AN6 (by omega) (by omega) h0 (by omega);exact⟨AN7 h0 h0,by omega⟩
  rfl';refine Ca (HG (by omega)) ?_;rfl';obtain⟨z,h,c⟩:=HP (ns:=ns) (k:=k*7 % ((ns.map D.int).length:Int)) (De _ (by omega)) (by have:=Eh (k*7) (b:=((ns.map D.int).length:Int)) (by omega);omega);refine BZ d c ?_;rfl';have l:=De z (b:=10000000000000000000000000000000000000000) (by decide);have p:=Eh z (b:=10000000000000000000000000000000000000000) (by decide);refine Ca (HG (by omega)) ?_;rfl';refine Ca (FP (by omega)) ?_;rfl';refine Ca (HG (by omega)) ?_;rfl';generalize m:z % 10000000000000000000000000000000000000000*48271+k*k*7919+5=u
  have g:Builtin.Int.intBits u<=160:=Zl (by
   have:(u.natAbs:Int)<((2 ^ 160:Nat):Int):=by
    have e:((2 ^ 160:Nat):Int)=1461501637330902918203684832716283019655932542976:=by decide
    rw[e];omega
   exact Int.ofNat_lt.mp this)
  refine Ca (Sj g g (by decide)) ?_;rfl';refine Ca (FP ?_) ?_
  .have:=De (u*u) (b:=2147483629) (by decide);have:=Eh (u*u) (b:=2147483629) (by decide);omega
  rfl';exact⟨rfl,AV _,q _ (De _ (by decide))⟩
def HH{L:AB}{Q:APT}{k:Nat}{xs:List D}{n:Int}(c:Int)(e:L[k]?=some (.lst xs))(h0:0<n)(h:n<=xs.length)(q:∀d∈xs,Q d L):W2 (AN (.ref k) (.int (c % n)) L) Q:=by obtain⟨d,b,a⟩:=Oo (xs:=xs) c h0 h;exact BZ e a (q d b)
def Sm{Q:APT}{L:AB}(c:Int)(q:∀p,CQ p->Q p L):W2 (zm [.int c] L) Q:=by
 unfold zm;refine BP rfl ?_;unfold RH;rfl';refine HH c AW (by decide) (by decide) λd j=>?_;rfl';refine HH (c / 5) AW (by decide) (by decide) λk f=>?_;rfl';refine HH (c / 20) AW (by decide) (by decide) λl b=>?_;rfl';simp only[AY,Dq,or_false] at j f b
 have i:∃a:Str,d=.str a/\a∈([("small":Str),"great","figure","mark","any"]:AOt):=by
  rcases j with rfl|rfl|rfl|rfl|rfl
  .exact⟨_,rfl,by decide⟩
  .exact⟨_,rfl,by decide⟩
  .exact⟨_,rfl,by decide⟩
  .exact⟨_,rfl,by decide⟩
  .exact⟨_,rfl,by decide⟩
 have g:∃n:Int,k=.int n/\MB n:=by
  rcases f with rfl|rfl|rfl|rfl
  .exact⟨_,rfl,.inl rfl⟩
  .exact⟨_,rfl,.inr (.inl rfl)⟩
  .exact⟨_,rfl,.inr (.inr (.inl rfl))⟩
  .exact⟨_,rfl,.inr (.inr (.inr rfl))⟩
 have h:∃e:Str,l=.str e/\(e = "ahead"\/e = "behind"):=by
  rcases b with rfl|rfl
  .exact⟨_,rfl,.inl rfl⟩
  .exact⟨_,rfl,.inr rfl⟩
 obtain⟨a,rfl,i⟩:=i;obtain⟨n,rfl,g⟩:=g;obtain⟨e,rfl,h⟩:=h;exact⟨rfl,by wtm_at "z_pf",q _ ⟨a,n,e,rfl,g,h,i⟩⟩
def Sl{Q:APT}{L:AB}(c b:Int)(h0:0<=b)(h1:b<=100)(q:∀t:Str,BH t->(t.length:Int)<=b->Q (.str t) L):W2 (zk [.int c,.int b] L) Q:=by
 unfold zk;refine BP rfl ?_;unfold RT;have z:("abcdefghijklmnopqrstuvwxyzABCDEFGHIJKLMNOPQRSTUVWXYZ0123456789 -.,/":Str)=Tx:=rfl;rw[z];have y:0<=c % (b+1):=De _ (by omega);have aa:c % (b+1)<b+1:=Eh _ (by omega);rfl';refine HH _ AW (by decide) (by decide) λd u=>?_
 have r:∃m:Str,d=.str m/\BH m/\0<m.length/\m.length<=67:=by simp only[AY,Dq,or_false] at u;rcases u with rfl|rfl|rfl|rfl <;> exact⟨_,rfl,by decide +kernel,by decide +kernel,by decide +kernel⟩
 obtain⟨m,rfl,s,w,v⟩:=r;rfl';generalize hL:L++[Ob.lst [D.str "abAB12 -",D.str "aB 1",D.str "aab",D.str Tx]]=L1;have g:L <+: L1:=by rw[<-hL];exact Ac _ _
 refine CN (λj o=>∀(h:Int) (t:Str) (a:Option D),BH t->t.length<=j->o [some (.int h),some (.int b),some (.str Tx),some (.str m),some (.int (c % (b+1))),some (.str t),a] L1) _ 0 _ _ (λo f=>f _ _ _ (by decide) (by decide)) ?_ ?_
 .rintro i x hx o Cy fz1 f h t a ht1 ht2;obtain⟨hi,rfl⟩:=LF hx;refine fz1 _ _ rfl ?_;rfl';obtain⟨k,l,p⟩:=Oo (xs:=m.cps.toList) (n:=(m.length:Int)) h (by omega) (by simp[Str.length]);refine TU p ?_;have e:(⟨#[k]⟩:Str).length=1:=rfl;refine OX (by rw[e];omega) ?_;rfl';refine f _ _ _ (ht1.app (.one (s _ l))) ?_;rw[Ot,e];omega
 .rintro Cy fz1 h t a ht1 ht2;refine fz1 _ _ rfl ?_;rfl';rw[Ge] at ht2;exact⟨rfl,g,q t ht1 (by omega)⟩
abbrev Dd(ws:AOt):Prop:=ws.Nodup/\(∀w∈ws,BH w/\0<w.length/\w.length<=8)/\ws.length<=6
def LV(w:Str):∀ws:AOt,DB (.str w) (ws.map D.str)=decide (w∈ws)
 |[]=>by simp[DB]
 |x::xs=>by
  have a:=LV w xs;unfold DB at a ⊢;rw[Al,ANQ,a]
  have e:Im (.str x) (.str w)=decide (w=x):=by
   show(x == w)=decide (w=x)
   by_cases h:w=x
   .subst h;simp
   .have:¬x=w:=λz=>h z.symm;simp[h,this]
  rw[e]
  by_cases h:w=x <;> simp[h]
def Of(ws:AOt):(ws.map D.str).all BA=true:=by rw[List.all_map,CM];exact λ_ _=>rfl
def WT{t:Str}(h:t≠""):0<t.length:=by
 rcases Nat.eq_zero_or_pos t.length with b|b
 .exfalso;apply h;obtain⟨a⟩:=t;have:a=#[]:=Array.eq_empty_of_size_eq_zero b;subst this;rfl
 .exact b
def YC{L L':AB}{o:Ob}(h:Dj L.length (L++[o]) L'):L <+: L':=by rw[List.prefix_iff_getElem?];intro j a;rw[h.2 j (by omega) (by simp;omega),FK a];simp[a]
def AHt{cs:AOz}{a b:Option Int}{x:D}(h:x∈cutD (cs.map D.int) a b):∃v∈cs,x=.int v:=by unfold cutD at h;obtain⟨v,c,rfl⟩:=Ap.mp (AOa (ANp h));exact⟨v,c,rfl⟩
def AHs(xs:List D)(n:Nat):(cutD xs (some 1) (some (1+(n:Int)))).length<=n:=by unfold cutD;rw[show(1:Int)=((1:Nat):Int) from rfl,show((1:Nat):Int)+(n:Int)=((1+n:Nat):Int) by omega,HT.AKS,HT.AKS,Eg,ANi];omega
def AFy{Q:APT}{L:AB}{cs:AOz}{p:Nat}(hc:L[p]?=some (.lst (cs.map .int)))(hp:0<cs.length)(q:∀l o,Dd l->L <+: o->o[L.length]?=some (.lst (l.map D.str))->Q (.ref L.length) o):W2 (KU [.ref p] L) Q:=by
 obtain⟨c,r,rfl⟩:∃c r,cs=c::r:=by cases cs with|nil=>exact absurd hp (by decide)|cons c r=>exact⟨c,r,rfl⟩
 have ax:=(Ax.mp hc).1;unfold KU;refine Fe rfl ?_;unfold RN;have m5:=De c (b:=5) (by decide);have a6:=Eh c (b:=5) (by decide);have m2:=De c (b:=2) (by decide);have aw:=Eh c (b:=2) (by decide);have e0:atI ((c::r).map D.int) 0=some (.int c):=Dc (j:=0) rfl;refine Nb (Na (ABv (Vj (AGI rfl ?_))));have ac:(L++[Ob.lst []])[p]?=some (.lst ((c::r).map D.int)):=AQ hc;refine BW (λf=>f [some (.ref p),some (.ref L.length),some (.int (c % 5)),none,none] (L++[Ob.lst []])) (λf aj=>?_) ?_
 .rfl';refine BZ ac e0 ?_;rfl';exact aj
 skip
 refine BW (λf=>∀(n:Nat) (i:Int),i=n->n<=6->f [some (.ref p),some (.ref L.length),some (.int i),none,none] (L++[Ob.lst []])) (λf ad=>?_) ?_
 .rfl';refine BZ ac e0 ?_;rfl';refine BR (λh=>?_) (λh=>?_)
  .rfl';refine BZ ac e0 ?_;rfl';exact ad (5+c % 2).toNat _ (by omega) (by omega)
  .rfl';exact ad (c % 5).toNat _ (by omega) (by omega)
 rintro n _ rfl av;rfl';have hI:(L++[Ob.lst []]).length=L.length+1:=by simp
 have ao:=AHs ((c::r).map D.int) n;have ai:∀x∈cutD ((c::r).map D.int) (some 1) (some (1+(n:Int))),∃v:Int,x=.int v:=λx hx=>let ⟨v,_,e⟩:=AHt hx;⟨v,e⟩;generalize cutD ((c::r).map D.int) (some 1) (some (1+(n:Int)))=its at ao ai ⊢;refine CN (λj f=>∀o:AB,∀(l:AOt) (a b:Option D),Dj L.length (L++[Ob.lst []]) o->o[L.length]?=some (.lst (l.map D.str))->o[(L++[Ob.lst []]).length]?=some (.lst its)->l.Nodup->(∀w∈l,BH w/\0<w.length/\w.length<=8)->l.length<=j->f [some (.ref p),some (.ref L.length),some (.int (n:Int)),a,b] o) _ 0 _ _ (λf u=>u _ [] none none (.app _ _ _) (AQ AW) AW Gx (λ_ h=>(nomatch h)) (Ag _)) ?_ ?_
 .rintro i x hx f Cy fz3 u o l a b hkp hg hgi hnd hw hl;have hi:i<its.length:=(Ax.mp hx).1;obtain⟨v,rfl⟩:=ai x (BY hx);refine fz3 _ _ (decide_eq_true hgi) (Rq ?_);refine BW (λf=>∀L2:AB,Dj L.length (L++[Ob.lst []]) L2->L2[L.length]?=some (.lst (l.map D.str))->L2[(L++[Ob.lst []]).length]?=some (.lst its)->∀(t:Str),BH t->t.length<=8->f [some (.ref p),some (.ref L.length),some (.int (n:Int)),some (.int v),some (.str t)] L2) (λf aq=>?_) ?_
  .rfl';refine HH _ AW (by decide) (by decide) λd hd=>?_
   have ar:∃m:Int,d=.int m/\0<=m/\m<=8:=by simp only[AY,Dq,or_false] at hd;rcases hd with rfl|rfl|rfl|rfl <;> exact⟨_,rfl,by decide,by decide⟩
   obtain⟨m,rfl,al,ay⟩:=ar;rfl';refine Sl _ _ al (by omega) λt g k=>?_;exact aq _ (hkp.trans (.app _ _ _)) (AQ hg) (AQ hgi) t g (by omega)
  rintro L2 z s aa t g k;refine BW (λf=>∀(t:Str),BH t->t.length<=8->f [some (.ref p),some (.ref L.length),some (.int (n:Int)),some (.int v),some (.str t)] L2) (λf ae=>?_) ?_
  .rfl';refine BR (λh=>?_) (λh=>?_)
   .rfl';exact ae _ (g.slice _ _) (Cf (Txt.slice_le _ _ _) k)
   .rfl';exact ae t g k
  clear g k t;rintro t g k;refine BW (λf=>∀(t:Str),BH t->t.length<=8->0<t.length->f [some (.ref p),some (.ref L.length),some (.int (n:Int)),some (.int v),some (.str t)] L2) (λf ag=>?_) ?_
  .rfl';refine BR (λh=>?_) (λh=>?_)
   .rfl';exact ag ("-") (by decide +kernel) (by decide) (by decide)
   .rfl';exact ag t g k (WT h)
  clear g k t;rintro w au am ak;rfl';refine OV s (by rw[Of];rfl) ?_;rw[LV];rfl';refine BR (λhm=>?_) (λhm=>?_)
  .rfl';exact u _ l _ _ z s aa hnd hw (by omega)
  .rfl';refine GJ s (by simp;omega) ?_;refine u _ (l++[w]) _ _ (z.trans (.set _ _ _)) ?_ (Fh (by rw[hI];omega) aa) ?_ (λy hy=>?_) (by simp;omega)
   .rw[Ci s];simp
   .rw[Gz];refine⟨hnd,by simp,λa ha b hb=>?_⟩;have:b=w:=by simpa using hb
    rw[this];rintro rfl;exact hm ha
   .rcases CF.mp hy with h|h
    .exact hw y h
    .have:y=w:=by simpa using h
     rw[this];exact⟨au,ak,am⟩
 .rintro Cy fz3 o l a b hkp hg hgi hnd hw hl;refine fz3 _ _ (decide_eq_true hgi) ?_;rfl';refine⟨rfl,q l o ⟨hnd,hw,by omega⟩ (YC hkp) hg⟩
abbrev IE(s:Str):D:=if GH s "abcdefghijklmnopqrstuvwxyz"=true then .str "small" else if GH s "ABCDEFGHIJKLMNOPQRSTUVWXYZ"=true then .str "great" else if GH s "0123456789"=true then .str "figure" else if GH s " -.,/"=true then .str "mark" else .non
def AGM{Q:APT}{L:AB}(s:Str)(h:Q (IE s) L):W2 (Ks [.str s] L) Q:=by
 unfold Ks;refine BP rfl ?_;unfold IE at h;simp only[Ps,NP];rfl';refine Ht rfl ?_;rfl';refine Fq (λa=>?_) (λa=>?_)
 .rw[if_pos a] at h;rfl';exact⟨rfl,AV _,h⟩
 rw[if_neg (by simp[a])] at h;rfl';refine Ht rfl ?_;rfl';refine Fq (λa=>?_) (λa=>?_)
 .rw[if_pos a] at h;rfl';exact⟨rfl,AV _,h⟩
 rw[if_neg (by simp[a])] at h;rfl';refine Ht rfl ?_;rfl';refine Fq (λa=>?_) (λa=>?_)
 .rw[if_pos a] at h;rfl';exact⟨rfl,AV _,h⟩
 rw[if_neg (by simp[a])] at h;rfl';refine Ht rfl ?_;rfl';refine Fq (λa=>?_) (λa=>?_)
 .rw[if_pos a] at h;rfl';exact⟨rfl,AV _,h⟩
 rw[if_neg (by simp[a])] at h;rfl';refine ws_loop_nil rfl ?_;rfl';exact⟨rfl,AV _,h⟩
abbrev Fg(kind s:Str):Bool:=decide (kind = "any") || decide (IE s=.str kind)
def AGO(s:Str):IE s=.non\/∃k,IE s=.str k:=by
 unfold IE
 repeat' split
 all_goals first|exact .inl rfl|exact .inr ⟨_,rfl⟩
def AGd{Q:APT}{L:AB}(a s:Str)(h:Q (.bl (Fg a s)) L):W2 (Kq [.str a,.str s] L) Q:=by
 unfold Kq;refine BP rfl ?_;unfold Po;rfl';refine BR (λb=>?_) (λb=>?_)
 .have e:Fg a s=true:=by simp[Fg,b]
  rw[e] at h;exact⟨rfl,AV _,h⟩
 .rfl';refine AGM _ ?_;have e:Fg a s=decide (IE s=.str a):=by simp[Fg,b]
  rw[e] at h;rcases AGO s with e|⟨k,e⟩
  .rw[e] at h ⊢;rfl';rw[decide_eq_false (by intro z;cases z)] at h;exact⟨rfl,AV _,h⟩
  .rw[e] at h ⊢;rfl';rw[Iq (show D.str k=D.str a↔k=a by simp)] at h;exact⟨rfl,AV _,h⟩
abbrev nums(p:Nat->Bool)(n:Nat):AOz:=(List.range n).filterMap λ(i:Nat)=>if p i=true then some (i:Int) else none
def AFV{p q:Nat->Bool}{n:Nat}(h:∀i,i<n->p i=q i):nums p n=nums q n:=by unfold nums;apply Li;intro i a;rw[h i (CK.mp a)]
def AFU{p:Nat->Bool}{n:Nat}{z:Int}(h:z∈nums p n):0<=z/\z<n:=by
 unfold nums at h;rw[ANf] at h;obtain⟨i,a,h⟩:=h;have:=CK.mp a;split at h
 .cases h;omega
 .cases h
abbrev HE(ns:AOz)(nth:Int)(b:Bool):Option D:=if (ns.length:Int)<(if nth<0 then -nth else nth) then some .non else (atI ns (if nth>0 then nth-1 else nth)).map λi=>.int (if b then i+1 else i)
def WW{Q:APT}{L:AB}{c g y:Str}{f:Int}{d:D}(p:y.length<=1000)(e:HE (nums (λi=>Fg c (sg y i)) y.cps.size) f (!decide (g = "ahead"))=some d)(h:Q d L):W2 (zq [.tup [.str c,.int f,.str g],.str y] L) Q:=by
 unfold zq;refine BP rfl ?_;unfold Pj;rfl';have n:y.cps.size<=1000:=p;rw[AHa]
 refine Nc (λZ=>∃a b,Z=[a,b,some (.str c)]) (λx=>match x with|.tup [.int i,.str s]=>if Fg c s=true then some (.int i) else none|_=>none) _ _ ⟨none,none,rfl⟩ (by simp;omega) ?_ ?_
 .rintro x hx Z ⟨a,b,rfl⟩;rw[Ap] at hx;obtain⟨i,_,rfl⟩:=hx;rfl';refine⟨⟨_,_,rfl⟩,λt=>?_⟩;rfl';refine AGd _ _ ?_;rfl';refine⟨rfl,Fq (λh=>?_) (λh=>?_)⟩
  .rfl';exact⟨rfl,if_pos h⟩
  .exact if_neg (by rw[h];exact HB)
 have o:ANw (λx=>match x with|D.tup [.int i,.str s]=>if Fg c s=true then some (D.int i) else none|_=>none) ((List.range y.cps.size).map λ(i:Nat)=>D.tup [.int (i:Int),.str (sg y i)])=(nums (λi=>Fg c (sg y i)) y.cps.size).map D.int:=by rw[List.filterMap_map];unfold nums;rw[List.map_filterMap];apply Li;intro i _;simp only[Function.comp];split <;> simp
 rw[o];generalize nums (λi=>Fg c (sg y i)) y.cps.size=ns at e ⊢;have r:((ns.map D.int).length:Int)=ns.length:=by simp
 unfold HE at e;rfl';rw[r];refine BR (λk=>?_) (λk=>?_)
 .rw[if_pos k] at e;cases e;rfl';exact⟨rfl,Ac _ _,h⟩
 .rw[if_neg k] at e;rfl'
  cases q:atI ns (if f>0 then f-1 else f) with
  |none=>rw[q] at e;cases e
  |some i =>
   rw[q] at e;cases e
   have l:atI (ns.map D.int) (if f>0 then f-1 else f)=some (.int i):=by rw[Zx,q];rfl
   refine BR (λm=>?_) (λm=>?_)
   .rw[if_pos m] at l;rfl';refine BZ AW l ?_;rfl';refine BR (λj=>?_) (λj=>?_)
    .rfl';rw[decide_eq_true j] at h;exact⟨rfl,Ac _ _,h⟩
    .rfl';rw[decide_eq_false j] at h;exact⟨rfl,Ac _ _,h⟩
   .rw[if_neg m] at l;rfl';refine BZ AW l ?_;rfl';refine BR (λj=>?_) (λj=>?_)
    .rfl';rw[decide_eq_true j] at h;exact⟨rfl,Ac _ _,h⟩
    .rfl';rw[decide_eq_false j] at h;exact⟨rfl,Ac _ _,h⟩
abbrev OI(s:Str):Str:=if Txt.islower s=true then "small" else if Txt.isupper s=true then "great" else if Txt.isdigit s=true then "figure" else "mark"
def AF4{Q:APT}{L:AB}(s:Str)(h:Q (.str (OI s)) L):W2 (KP [.str s] L) Q:=by
 unfold KP;refine BP rfl ?_;unfold RB;unfold OI at h;rfl';refine Fq (λa=>?_) (λa=>?_)
 .rw[if_pos a] at h;rfl';exact⟨rfl,AV _,h⟩
 rw[if_neg (by simp[a])] at h;rfl';refine Fq (λa=>?_) (λa=>?_)
 .rw[if_pos a] at h;rfl';exact⟨rfl,AV _,h⟩
 rw[if_neg (by simp[a])] at h;rfl';refine Fq (λa=>?_) (λa=>?_)
 .rw[if_pos a] at h;rfl';exact⟨rfl,AV _,h⟩
 rw[if_neg (by simp[a])] at h;rfl';exact⟨rfl,AV _,h⟩
def AGL:∀c∈Lo,IE ⟨#[c]⟩=.str (OI ⟨#[c]⟩):=by decide +kernel
abbrev EH(kind s:Str):Bool:=decide (kind = "any") || decide (OI s=kind)
def XX{y:Str}(h:BH y)(a:Str):nums (λi=>Fg a (sg y i)) y.cps.size=nums (λi=>EH a (sg y i)) y.cps.size:=by apply AFV;intro i b;unfold Fg EH sg;rw[AGL _ (h.at b)];simp
def AC4{y:Str}{i:Nat}(a:i<y.cps.size):atI y.cps.toList (i:Int)=some (y.cps.getD i 0):=by apply Dc;simp[a,Array.getD]
def Xk{Q:APT}{L:AB}{b f y:Str}{c:Int}{d:D}(u:y.length<=1000)(e:HE (nums (λi=>EH b (sg y i)) y.cps.size) c (decide (f = "behind"))=some d)(h:Q d L):W2 (ze [.tup [.str b,.int c,.str f],.str y] L) Q:=by
 unfold ze;refine BP rfl ?_;unfold Qv;have s:y.cps.size<=1000:=u;have r:(y.length:Int)=(y.cps.size:Int):=rfl;rfl';rw[r,ANP,ADU]
 refine Nc (λZ=>∃a,Z=[a,some (.str b),some (.str y)]) (λx=>match x with|.int i=>if EH b (sg y i.toNat)=true then some (.int i) else none|_=>none) _ _ ⟨none,rfl⟩ (by simp;omega) ?_ ?_
 .rintro x hx Z ⟨a,rfl⟩;rw[Ap] at hx;obtain⟨i,v,rfl⟩:=hx;have o:=CK.mp v;have n:atI y.cps.toList (i:Int)=some (y.cps.getD i 0):=AC4 o;rfl';refine⟨⟨_,rfl⟩,λz=>?_⟩;rfl';refine BR (λl=>?_) (λl=>?_)
  .rfl';refine⟨rfl,?_⟩;rfl';exact⟨rfl,if_pos (by rw[ANP];simp[EH,l])⟩
  .rfl';refine TU n ?_;rfl';refine AF4 _ ?_;rfl';refine⟨rfl,BR (λm=>?_) (λm=>?_)⟩
   .rfl';exact⟨rfl,if_pos (by rw[ANP];unfold EH sg;rw[decide_eq_true m];simp)⟩
   .exact if_neg (by rw[ANP];unfold EH sg;rw[decide_eq_false m,decide_eq_false l];simp)
 have t:ANw (λx=>match x with|D.int i=>if EH b (sg y i.toNat)=true then some (D.int i) else none|_=>none) ((List.range y.cps.size).map λ(i:Nat)=>D.int (i:Int))=(nums (λi=>EH b (sg y i)) y.cps.size).map D.int:=by rw[List.filterMap_map];unfold nums;rw[List.map_filterMap];apply Li;intro i _;simp only[Function.comp,ANP];split <;> simp
 rw[t];generalize nums (λi=>EH b (sg y i)) y.cps.size=ns at e ⊢;have w:((ns.map D.int).length:Int)=ns.length:=by simp
 unfold HE at e;rfl';rw[w];refine BR (λg=>?_) (λg=>?_)
 .rw[if_pos g] at e;cases e;rfl';exact⟨rfl,Ac _ _,h⟩
 .rw[if_neg g] at e;rfl'
  cases q:atI ns (if c>0 then c-1 else c) with
  |none=>rw[q] at e;cases e
  |some i =>
   rw[q] at e;cases e
   have k:atI (ns.map D.int) (if c>0 then c-1 else c)=some (.int i):=by rw[Zx,q];rfl
   have j:(D.int (i+if decide (f = "behind")=true then 1 else 0))=.int (if decide (f = "behind")=true then i+1 else i):=by split <;> simp
   refine BR (λp=>?_) (λp=>?_)
   .rw[if_pos p] at k;rfl';refine BZ AW k ?_;rfl';rw[j];exact⟨rfl,Ac _ _,h⟩
   .rw[if_neg p] at k;rfl';refine BZ AW k ?_;rfl';rw[j];exact⟨rfl,Ac _ _,h⟩
def Nm(p:Nat->Bool)(m:Nat){n:Int}(e:MB n)(b:Bool):∃d,HE (nums p m) n b=some d/\(d=.non\/∃i:Int,d=.int i/\0<=i/\i<=m):=by
 unfold HE
 by_cases a:((nums p m).length:Int)<(if n<0 then -n else n)
 .rw[if_pos a];exact⟨_,rfl,.inl rfl⟩
 .rw[if_neg a]
  obtain⟨v,c⟩:∃v,atI (nums p m) (if n>0 then n-1 else n)=some v:=Zv (by
   rcases e with rfl|rfl|rfl|rfl <;> simp at a ⊢ <;> omega)
  rw[c];have:=AFU (Zw c);refine⟨_,rfl,.inr ⟨_,rfl,?_⟩⟩;cases b <;> simp <;> omega
def AKA{y:Str}{p:D}(c:y.length<=1000)(n:BH y)(g:CQ p):∃d,(d=.non\/∃i:Int,d=.int i/\0<=i/\i<=y.cps.size)/\(∀{Q:APT} {L:AB},Q d L->W2 (zq [p,.str y] L) Q)/\(∀{Q:APT} {L:AB},Q d L->W2 (ze [p,.str y] L) Q):=by
 obtain⟨b,j,a,rfl,m,k,_⟩:=g;obtain⟨d,f,l⟩:=Nm (λi=>Fg b (sg y i)) y.cps.size m (!decide (a = "ahead"));refine⟨d,l,λ{Q L} h=>WW c f h,λ{Q L} h=>Xk c ?_ h⟩;rw[<-XX n];have e:(decide (a = "behind"))=!decide (a = "ahead"):=by rcases k with rfl|rfl <;> decide
 rw[e];exact f
abbrev Iz(s:Str):Prop:=s = "copy"\/s = "raise"\/s = "sink"
abbrev Dv(d:D):Prop:=(∃w:Str,d=.tup [.str "word",.str w]/\BH w/\w.length<=8/\0<w.length)\/(∃(deed:Str) (p q:D),d=.tup [.str deed,p,q]/\Iz deed/\CQ p/\CQ q)
def CQ.noRef{p:D}(h:CQ p):p.noRef=true:=by obtain⟨_,_,_,rfl,_⟩:=h;rfl
def Dv.noRef{p:D}(h:Dv p):p.noRef=true:=by
 rcases h with⟨w,rfl,_⟩|⟨a,p,q,rfl,_,b,c⟩
 .rfl
 .simp[D.noRef,D.noRefL,b.noRef,c.noRef]
def AHz:∀c∈Lo,c<128:=by decide
def BH.ascii{x:Str}(h:BH x):∀c∈x.cps.toList,c<128:=λc a=>AHz c (h c a)
def Rw{x:Str}(h:BH x):(Txt.upper x).length=x.length:=by rw[upper_ascii h.ascii];show(x.cps.map _).size=x.cps.size;simp
def So{x:Str}(h:BH x):(Txt.lower x).length=x.length:=by rw[lower_ascii h.ascii];show(x.cps.map _).size=x.cps.size;simp
def WO:∀{xs:List D} {b:AOt},Bp xs=some b->b.length=xs.length
 |[],b,h=>by cases h;rfl
 |x::xs,b,h=>by
  cases x with
  |str s =>
   simp only[Bp] at h
   cases e:Bp xs with
   |none=>rw[e] at h;cases h
   |some a=>rw[e] at h;cases h;simp[WO e]
  |_=>simp[Bp] at h
def WP:∀{xs:List D} {c:AOt} {P:Str->Prop},Bp xs=some c->(∀s,D.str s∈xs->P s)->∀y∈c,P y
 |[],c,P,h,_=>by cases h;exact λ_ b=>(nomatch b)
 |x::xs,c,P,h,hP=>by
  cases x with
  |str s =>
   simp only[Bp] at h
   cases e:Bp xs with
   |none=>rw[e] at h;cases h
   |some a =>
    rw[e] at h;cases h;intro y b;rcases AY.mp b with rfl|b
    .exact hP y BC
    .exact WP e (λs d=>hP s (BD _ d)) y b
  |_=>simp[Bp] at h
def WN:∀{xs:List D} {b:AOt},Bp xs=some b->xs=b.map D.str
 |[],b,h=>by cases h;rfl
 |x::xs,b,h=>by
  cases x with
  |str s =>
   simp only[Bp] at h
   cases e:Bp xs with
   |none=>rw[e] at h;cases h
   |some a=>rw[e] at h;cases h;simp[<-WN e]
  |_=>simp[Bp] at h
def TJ:∀{xs:List D},(∀d∈xs,d=.non\/∃t,d=.str t)->DB .non xs=(Bp xs).isNone
 |[],_=>rfl
 |x::xs,h=>by
  have a:=TJ λd b=>h d (BD _ b);rcases h x BC with rfl|⟨t,rfl⟩
  .rfl
  .have:DB .non (.str t::xs)=DB .non xs:=rfl;rw[this,a];simp only[Bp];cases Bp xs <;> rfl
abbrev DG(p:D)(y:Str):D:=match p with
 |.tup [.str kind,.int nth,.str edge]=>(HE (nums (λi=>EH kind (sg y i)) y.cps.size) nth (decide (edge = "behind"))).getD .non
 |_=>.non
def LC{b a y:Str}{c:Int}:DG (.tup [.str b,.int c,.str a]) y=(HE (nums (λi=>EH b (sg y i)) y.cps.size) c (decide (a = "behind"))).getD .non:=rfl
def Hw{p:D}(c:CQ p)(y:Str):DG p y=.non\/∃i:Int,DG p y=.int i/\0<=i/\i<=y.length:=by obtain⟨a,e,b,rfl,g,j,_⟩:=c;obtain⟨d,f,h⟩:=Nm (λi=>EH a (sg y i)) y.cps.size g (decide (b = "behind"));simp only[LC,f,AOQ];exact h
def OD{Q:APT}{L:AB}{p:D}{y:Str}(g:y.length<=1000)(e:CQ p)(h:Q (DG p y) L):W2 (ze [p,.str y] L) Q:=by obtain⟨a,f,b,rfl,j,k,_⟩:=e;obtain⟨d,c,l⟩:=Nm (λi=>EH a (sg y i)) y.cps.size j (decide (b = "behind"));simp only[LC,c,AOQ] at h;exact Xk g c h
abbrev EZ(deed:Str)(t:Str):Str:=if deed = "raise" then Txt.upper t else if deed = "sink" then Txt.lower t else t
abbrev CB(y:Str)(pc:D):D:=match pc with
 |.tup [_,q]=>(match q with|.str w=>.str w|_=>.non)
 |.tup [a,p,q]=>(match a with|.str deed=>(match DG p y,DG q y with|.int i,.int j=>if j<=i then .non else .str (EZ deed (Txt.slice y (some i) (some j)))|_,_=>.non)|_=>.non)
 |_=>.non
def LJ{y a:Str}{p q:D}:CB y (.tup [.str a,p,q])=(match DG p y,DG q y with|.int i,.int j=>if j<=i then .non else .str (EZ a (Txt.slice y (some i) (some j)))|_,_=>.non):=rfl
def AHm{a t:Str}(h:BH t):(EZ a t).length=t.length:=by
 unfold EZ;split
 .exact Rw h
 .split
  .exact So h
  .rfl
def LK{y:Str}{b:D}(g:y.length<=1000)(h:BH y)(c:Dv b):CB y b=.non\/∃t:Str,CB y b=.str t/\t.length<=1000:=by
 rcases c with⟨w,rfl,m,o,_⟩|⟨f,p,q,rfl,l,c,d⟩
 .exact .inr ⟨w,rfl,by omega⟩
 .obtain⟨k,n,e,rfl,_⟩:=id d;rw[LJ];rcases Hw c y with a|⟨i,a,_⟩
  .rw[a];exact .inl rfl
  .rcases Hw d y with e2|⟨j,e2,_⟩
   .rw[a,e2];exact .inl rfl
   .rw[a,e2];simp only;split
    .exact .inl rfl
    .exact .inr ⟨_,rfl,by rw[AHm (h.slice _ _)];exact Cf (Txt.slice_le _ _ _) g⟩
def Sn{Q:APT}{L:AB}{y:Str}{m:D}(r:y.length<=1000)(v:BH y)(l:Dv m)(h:Q (CB y m) L):W2 (zc [m,.str y] L) Q:=by
 rcases l with⟨w,rfl,f,g,_⟩|⟨b,p,q,rfl,t,l,s⟩
 .unfold zc;refine BP rfl ?_;unfold Mf;rfl';exact⟨rfl,AV _,h⟩
 .have hnw:b≠"word":=by rcases t with rfl|rfl|rfl <;> decide
  obtain⟨k,n,e,rfl,_⟩:=id s;rw[LJ] at h;unfold zc;refine BP rfl ?_;unfold Mf;rfl';refine OD r l ?_;rfl';refine OD r s ?_;rcases Hw l y with d|⟨i,d,x⟩
  .rw[d] at h ⊢;rfl';exact⟨rfl,AV _,h⟩
  rcases Hw s y with o|⟨j,o,z⟩
  .rw[d,o] at h ⊢;rfl';exact⟨rfl,AV _,h⟩
  rw[d,o] at h ⊢;simp only at h
  by_cases c:j<=i
  .rw[if_pos c] at h;rfl';exact⟨rfl,AV _,h⟩
  rw[if_neg c] at h;have a:=v.slice (some i) (some j);have u:(Txt.slice y (some i) (some j)).length<=1000:=Cf (Txt.slice_le _ _ _) r;unfold EZ at h;rfl';refine BR (λf=>?_) (λf=>?_)
  .rw[if_pos f] at h;rfl';refine OS (by rw[Rw a];omega) ?_;exact⟨rfl,AV _,h⟩
  rw[if_neg f] at h;rfl';refine BR (λg=>?_) (λg=>?_)
  .rw[if_pos g] at h;rfl';refine OS (by rw[So a];omega) ?_;exact⟨rfl,AV _,h⟩
  .rw[if_neg g] at h;rfl';exact⟨rfl,AV _,h⟩
abbrev FL(y:Str)(ps:List D):D:=match Bp (ps.map (CB y)) with|some ys=>.str (Txt.join "" ys)|none=>.non
def ADQ{y:Str}{ps:List D}:FL y ps=.non\/∃t,FL y ps=.str t:=by
 unfold FL;split
 .exact .inr ⟨_,rfl⟩
 .exact .inl rfl
def WG{y:Str}{ps:List D}{d:AOt}(i:y.length<=1000)(k:BH y)(f:∀p∈ps,Dv p)(e:Bp (ps.map (CB y))=some d):(d.map (·.length)).sum<=ps.length*1000:=by
 have c:=WO e;rw[AZ] at c;rw[<-c];refine ACi λz g=>WP (P:=λz=>z.length<=1000) e (λs a=>?_) z g;rw[Ap] at a;obtain⟨p,b,e⟩:=a;rcases LK i k (f p b) with h|⟨t,h,j⟩
 .rw[h] at e;cases e
 .rw[h] at e;cases e;exact j
def Xl{Q:APT}{L:AB}{y:Str}{ps:List D}(f:y.length<=1000)(j:BH y)(i:∀p∈ps,Dv p)(q:ps.length<=1000)(h:Q (FL y ps) L):W2 (JK [.tup ps,.str y] L) Q:=by
 unfold JK;refine BP rfl ?_;unfold Qg;rfl';refine Nc (λZ=>∃a,Z=[a,some (.str y)]) (λx=>some (CB y x)) _ _ ⟨none,rfl⟩ (by omega) ?_ ?_
 .rintro x hx Z ⟨a,rfl⟩;rfl';refine⟨⟨_,rfl⟩,λo=>?_⟩;rfl';refine⟨rfl,?_⟩;rfl';refine Sn f j (i x hx) ?_;exact⟨rfl,rfl⟩
 have m:ANw (λx=>some (CB y x)) ps=ps.map (CB y):=by rw[<-List.filterMap_eq_map];rfl
 rw[m]
 have l:∀d∈ps.map (CB y),d=.non\/∃t,d=.str t:=λd b=>by
  rw[Ap] at b;obtain⟨p,g,rfl⟩:=b;rcases LK f j (i p g) with e|⟨t,e,_⟩
  .exact .inl e
  .exact .inr ⟨t,e⟩
 have c:(BA .non&&(ps.map (CB y)).all BA)=true:=by rw[Bs,CM];refine⟨rfl,λd b=>?_⟩;rcases l d b with rfl|⟨t,rfl⟩ <;> rfl
 rfl';refine AG3 AW c ?_;rw[TJ l];unfold FL at h
 cases e:Bp (ps.map (CB y)) with
 |none =>
  rw[e] at h;rfl';refine Tq rfl ?_;rfl';exact⟨rfl,Ac _ _,h⟩
 |some r =>
  rw[e] at h;rfl';refine Jn rfl ?_;rfl';have k:=WG f j i e;have n:(Str.ofString "").length=0:=rfl;refine AG2 AW e (by rw[n];omega) ?_;exact⟨rfl,Ac _ _,h⟩
abbrev EL(ws:AOt)(d:D):Prop:=(∃w∈ws,d=.tup [.str "word",.str w])\/(∃(deed:Str) (p q:D),d=.tup [.str deed,p,q]/\Iz deed/\CQ p/\CQ q)
def EL.piece{ws:AOt}{d:D}(hw:Dd ws)(h:EL ws d):Dv d:=by
 rcases h with⟨w,a,rfl⟩|h
 .exact .inl ⟨w,rfl,(hw.2.1 w a).1,(hw.2.1 w a).2.2,(hw.2.1 w a).2.1⟩
 .exact .inr h
def AF1{Q:APT}{L:AB}{k:Nat}{ws:AOt}(c:Int)(n:L[k]?=some (.lst (ws.map D.str)))(q:∀p,EL ws p->Q p L):W2 (KR [.int c,.ref k] L) Q:=by
 unfold KR;refine BP rfl ?_;refine BW (λj=>j [some (.int c),some (.ref k),none] L) (λj b=>?_) ?_
 .rfl';refine BR (λl=>?_) (λl=>?_)
  .rfl';refine BR (λr=>?_) (λr=>?_)
   .rfl';refine HH _ n (by omega) (Int.le_refl _) λd a=>?_;rw[Ap] at a;obtain⟨w,g,rfl⟩:=a;rfl';exact⟨rfl,AV _,q _ (.inl ⟨w,g,rfl⟩)⟩
   .rfl';exact b
  .rfl';exact b
 skip
 rfl';refine HH _ AW (by decide) (by decide) λd a=>?_
 have h:∃m:Str,d=.str m/\Iz m:=by
  simp only[AY,Dq,or_false] at a;rcases a with rfl|rfl|rfl|rfl
  .exact⟨_,rfl,.inl rfl⟩
  .exact⟨_,rfl,.inr (.inl rfl)⟩
  .exact⟨_,rfl,.inr (.inr rfl)⟩
  .exact⟨_,rfl,.inl rfl⟩
 obtain⟨m,rfl,g⟩:=h;rfl';refine Sm _ λp1 e=>?_;rfl';refine Sm _ λi f=>?_;rfl';have o:EL ws (.tup [.str m,p1,i]):=.inr ⟨m,p1,i,rfl,g,e,f⟩;exact⟨Dv.noRef (.inr ⟨m,p1,i,rfl,g,e,f⟩),by wtm_at "z_pf",q _ o⟩
abbrev Gq(ts:AOt):Prop:=∀y∈ts,BH y/\y.length<=100
abbrev IW(ts:AOt)(d:D):Prop:=∀y∈ts,∃t,CB y d=.str t
abbrev Hu(deed:Str):D:=.tup [.str deed,.tup [.str "any",.int 1,.str "ahead"],.tup [.str "any",.int (-1),.str "behind"]]
def AId:CQ (.tup [.str "any",.int 1,.str "ahead"]):=⟨"any",1,"ahead",rfl,.inl rfl,.inl rfl,by decide⟩
def AIc:CQ (.tup [.str "any",.int (-1),.str "behind"]):=⟨"any",-1,"behind",rfl,.inr (.inr (.inl rfl)),.inr rfl,by decide⟩
def XW(y:Str):nums (λi=>EH "any" (sg y i)) y.cps.size=(List.range y.cps.size).map λ(i:Nat)=>(i:Int):=by
 unfold nums;rw[<-List.filterMap_eq_map];apply Li;intro i _;have:EH "any" (sg y i)=true:=by simp[EH]
 simp only[this,if_true];rfl
def ABq{a y:Str}(g:Iz a)(d:y≠""):∃t,CB y (Hu a)=.str t:=by
 have b:0<y.cps.size:=WT d
 have e:DG (.tup [.str "any",.int 1,.str "ahead"]) y=.int 0:=by
  simp only[LC,XW];unfold HE;rw[if_neg (by simp;omega)]
  have:atI ((List.range y.cps.size).map λ(i:Nat)=>(i:Int)) (if (1:Int)>0 then 1-1 else 1)=some 0:=by have:=Dc (xs:=(List.range y.cps.size).map λ(i:Nat)=>(i:Int)) (j:=0) (v:=0) (by simp[ANm,b]);simpa using this
  rw[this];have:decide (("ahead":Str) = "behind")=false:=by decide
  simp[this]
 have c:DG (.tup [.str "any",.int (-1),.str "behind"]) y=.int (y.cps.size:Int):=by
  simp only[LC,XW];unfold HE;rw[if_neg (by simp;omega)]
  have:atI ((List.range y.cps.size).map λ(i:Nat)=>(i:Int)) (if (-1:Int)>0 then -1-1 else -1)=some ((y.cps.size:Int)-1):=by
   have f:y.cps.size=(y.cps.size-1)+1:=by omega
   rw[f,ANZ,Cg];have:=AIY ((List.range (y.cps.size-1)).map λ(i:Nat)=>(i:Int)) (((y.cps.size-1:Nat):Int));simp only[Al,ANk];rw[if_neg (by decide),this]
   congr 1
   omega
  rw[this];have:decide (("behind":Str) = "behind")=true:=by decide
  simp
 unfold Hu;simp only[LJ,e,c];exact⟨_,by rw[if_neg (by omega)]⟩
def AAE{ts:AOt}{d:D}(c:Gq ts)(g:Dv d):(Bp (ts.map λy=>CB y d)).isNone=false↔IW ts d:=by
 induction ts with
 |nil=>simp[Bp,IW]
 |cons y r b =>
  have b:=b λz a=>c z (BD _ a);have f:=c y BC;rw[Al];rcases LK (by omega) f.1 g with e|⟨t,e,_⟩
  .rw[e];simp only[Bp,Option.isNone_none,Bool.true_eq_false,false_iff];intro h;obtain⟨t,h⟩:=h y BC;rw[e] at h;cases h
  .rw[e];simp only[Bp,Option.isNone_map,b];constructor
   .intro h z a;rcases AY.mp a with rfl|a
    .exact⟨t,e⟩
    .exact h z a
   .exact λh z a=>h z (BD _ a)
def AF6{Q:APT}{L:AB}{k t:Nat}{ws ts:AOt}(c:Int)(hk:L[k]?=some (.lst (ws.map D.str)))(am:L[t]?=some (.lst (ts.map D.str)))(hw:Dd ws)(ht:Gq ts)(hl:ts.length<=1000)
  (aw:ws≠[]\/∀y∈ts,y≠"") (q:∀p,EL ws p->IW ts p->Q p L):W2 (KN [.int c,.ref k,.ref t] L) Q:=by
 unfold KN;refine BP rfl ?_;unfold Qq;have f:∀w:Str,IW ts (.tup [.str "word",.str w]):=λw y _=>⟨w,rfl⟩;rfl';refine AF1 _ hk λp hp=>?_;rcases hp with⟨w,hm,rfl⟩|⟨b,p1,p2,rfl,g,ac,ad⟩
 .rfl';exact⟨rfl,AV _,q _ (.inl ⟨w,hm,rfl⟩) (f w)⟩
 have a8:b≠"word":=by rcases g with rfl|rfl|rfl <;> decide
 rfl';have hW:(D.tup [D.str b,D.tup [D.str "any",D.int 1,D.str "ahead"],D.tup [D.str "any",D.int (-1),D.str "behind"]])=Hu b:=rfl
 have ai:∀x∈[D.tup [.str b,p1,p2],.tup [.str b,p2,p1],Hu b],EL ws x:=λx hx=>by
  simp only[AY,Dq,or_false] at hx;rcases hx with rfl|rfl|rfl
  .exact .inr ⟨b,p1,p2,rfl,g,ac,ad⟩
  .exact .inr ⟨b,p2,p1,rfl,g,ad,ac⟩
  .exact .inr ⟨b,_,_,rfl,g,AId,AIc⟩
 rw[hW];generalize ak:[D.tup [.str b,p1,p2],.tup [.str b,p2,p1],Hu b]=xs at ai ⊢;have v:xs[2]?=some (Hu b):=by rw[<-ak];rfl
 have ax:xs.length=3:=by rw[<-ak];rfl
 refine CN (λj r=>∀o:AB,L++[Ob.lst xs] <+: o->(3<=j->∃y∈ts,y = "")->∀(a:Option D),r [some (.int c),some (.ref k),some (.ref t),some (.tup [.str b,p1,p2]),some (Hu b),a] o) _ 0 _ _ (λr s=>s _ (AV _) (λh=>by omega) none) ?_ ?_
 .rintro i x hx r Cy fz1 s o hpre _ a;have ae:=ai x (BY hx);have m:=ae.piece hw;have n:=CP hpre (AQ (M:=[Ob.lst xs]) am);refine fz1 _ _ (decide_eq_true (CP hpre AW)) ?_;rfl';have ay:∀p:Prop,p->p:=λ_ h=>h
  have aj:W1 (DK (λav=>decide (av[t]?=some (Ob.lst (ts.map D.str)))) (Aa 0) By (AK zc (AC (AA 1) (AC (AA 0) AG))) o.length (ts.map D.str) [none,some x] (o++[Ob.lst []])) (λL2=>L2=o++[Ob.lst (ts.map λy=>CB y x)]):=by
   refine Ew (λj r=>∀a,r [a,some x] (o++[Ob.lst ((ts.take j).map λy=>CB y x)])) _ 0 _ _ (λr u=>u none) ?_ ?_
   .rintro i2 z hz r Cy fw1 u a;rw[As] at hz
    cases l:ts[i2]? with
    |none=>rw[l] at hz;cases hz
    |some y =>
     rw[l] at hz;cases hz;have al:=ht y (BY l);have a7:i2<ts.length:=(Ax.mp l).1;have ao:ts.take (0+i2+1)=ts.take (0+i2)++[y]:=by rw[BM,Gw,l];rfl
     refine fw1 _ _ (decide_eq_true (AQ n)) ?_;rfl';refine Sn (by omega) al.1 m ?_;refine⟨_,AW,by simp;omega,Do (u _) ?_⟩;rw[ao];simp
   .rintro Cy fw1 _;refine fw1 _ _ (decide_eq_true (AQ n)) ?_;simp
  obtain⟨L2,ec,rfl⟩:=aj;refine⟨_,ec,?_⟩
  have ag:∀d∈ts.map (λy=>CB y x),d=.non\/∃t,d=.str t:=λd g=>by
   rw[Ap] at g;obtain⟨y,l,rfl⟩:=g;rcases LK (by have:=ht y l;omega) (ht y l).1 m with e|⟨t,e,_⟩
   .exact .inl e
   .exact .inr ⟨t,e⟩
  have ar:(BA .non&&(ts.map (λy=>CB y x)).all BA)=true:=by rw[Bs,CM];refine⟨rfl,λd g=>?_⟩;rcases ag d g with rfl|⟨t,rfl⟩ <;> rfl
  refine OV AW ar ?_;rw[TJ ag];rfl';refine Fq (λh=>?_) (λh=>?_)
  .rfl';refine s _ (hpre.trans (Ac _ _)) (λh3=>?_) _;have:i=2:=by have:=(Ax.mp hx).1;omega
   subst this;rw[v] at hx;cases hx;refine Classical.byContradiction λaq=>?_;have:IW ts (Hu b):=λy l=>ABq g λe=>aq ⟨y,l,e⟩;rw[(AAE ht m).mpr this] at h;cases h
  .rfl';exact⟨m.noRef,(Ac _ _).trans (hpre.trans (Ac _ _)),q _ ae ((AAE ht m).mp h)⟩
 .rintro Cy fz1 o hpre h3 a;have au:=CP hpre (AQ (M:=[Ob.lst xs]) hk);refine fz1 _ _ (decide_eq_true (CP hpre AW)) ?_
  have aa:ws≠[]:=by
   rcases aw with h|h
   .exact h
   .obtain⟨y,l,e⟩:=h3 (by omega);exact absurd e (h y l)
  have a9:0<ws.length:=List.length_pos_iff.mpr aa;have a6:(((ws.map D.str).length:Nat):Int)=ws.length:=by simp
  rfl';refine HH _ au (by omega) (Int.le_refl _) λd g=>?_;rw[Ap] at g;obtain⟨w,hm,rfl⟩:=g;rfl';exact⟨rfl,(Ac _ _).trans hpre,q _ (.inl ⟨w,hm,rfl⟩) (f w)⟩
abbrev UE(ws ts:AOt)(ps:List D):Prop:=(∀p∈ps,EL ws p)/\(∀p∈ps,IW ts p)/\0<ps.length/\ps.length<=3
def Sg:∀{ps:List D},(∀p∈ps,p.noRef=true)->D.noRefL ps=true
 |[],_=>rfl
 |p::ps,h=>by rw[D.noRefL,h p BC,Sg λq a=>h q (BD _ a)];rfl
def AF0{Q:APT}{L:AB}{k t:Nat}{ws ts:AOt}(c:Int)(u:L[k]?=some (.lst (ws.map D.str)))(f:L[t]?=some (.lst (ts.map D.str)))(hw:Dd ws)(ht:Gq ts)(z:ts.length<=1000)
  (s:ws≠[]\/∀y∈ts,y≠"") (q:∀ps,UE ws ts ps->Q (.tup ps) L):W2 (KL [.int c,.ref k,.ref t] L) Q:=by
 unfold KL;refine BP rfl ?_;unfold Qk;have hm:=De c (b:=3) (by decide);have ac:=Eh c (b:=3) (by decide);have ad:k<L.length:=(Ax.mp u).1;have aa:t<L.length:=(Ax.mp f).1;rfl';refine CN (λj l=>∀L':AB,∀(ps:List D) (p:Int) (a b:Option D),L'=L++[Ob.lst ps]->(∀p∈ps,EL ws p)->(∀p∈ps,IW ts p)->ps.length=j->l [some (.int c),some (.ref k),some (.ref t),some (.ref L.length),some (.int p),a,b] L') _ 0 _ _ (λl e=>e _ [] _ none none rfl (λ_ h=>(nomatch h)) (λ_ h=>(nomatch h)) rfl) ?_ ?_
 .rintro i x hx l Cy fz1 e L' ps p a b rfl h1 h2 h3;obtain⟨hi,rfl⟩:=LF hx;refine fz1 _ _ rfl ?_;rfl';refine AF6 _ (AQ u) (AQ f) hw ht z s λd g m=>?_
  have n:Hi d=false:=by rcases g with⟨w,_,rfl⟩|⟨_,_,_,rfl,_⟩ <;> rfl
  rfl';refine Jn n ?_;rfl';refine GJ AW (by omega) ?_;rfl';refine e _ (ps++[d]) _ _ _ (by simp) (λr o=>?_) (λr o=>?_) (by simp;omega)
  .rcases CF.mp o with h|h
   .exact h1 r h
   .have:r=d:=by simpa using h
    rw[this];exact g
  .rcases CF.mp o with h|h
   .exact h2 r h
   .have:r=d:=by simpa using h
    rw[this];exact m
 .rintro Cy fz1 L' ps p a b rfl h1 h2 h3;refine fz1 _ _ rfl ?_;rw[Ge] at h3;rfl';have v:UE ws ts ps:=⟨h1,h2,by omega,by omega⟩;refine⟨?_,Ac _ _,q ps v⟩;rw[D.noRef];exact Sg λp hp=>((h1 p hp).piece hw).noRef
def ACw(x:Str)(n:Int)(h:0<=n):((Txt.slice x none (some n)).length:Int)<=n:=by
 have c:∀k:Nat,(Builtin.Str.strSliceIndices none (some (k:Int)) 1 x.length).length<=k:=λk=>by
  unfold Builtin.Str.strSliceIndices sliceRange;simp only[show(1:Int)>0 by decide,if_true,AZ,AN5]
  split <;> (try split) <;> (try simp only[Int.ediv_one]) <;> omega
 have b:((n.toNat:Nat):Int)=n:=by omega
 rw[<-b];have:=c n.toNat;unfold Txt.slice;split
 .rename_i h;simp only[Bs,beq_iff_eq] at h;omega
 .show(((ANw _ (Builtin.Str.strSliceIndices none (some (n.toNat:Int)) 1 x.length)).toArray.size:Nat):Int)<=_;rw[Bn];have:=AOZ (λa=>x.cps[a]?) (Builtin.Str.strSliceIndices none (some (n.toNat:Int)) 1 x.length);omega
def Rr{g:GF}{c:EF}{b:AB}{Q:AB->Prop}(P:Fm->Prop)(E:D->Prop){a:List D}{Z:Fm}(n:P Z)(hz:a.length<=16777216)
  (h:∀x∈a,∀Z,P Z->W1 (g x Z) λl=>P l/\∀f,W2 (c l (b++[.lst f])) λd o=>o=b++[.lst f]/\E d)
  (q:∀ds:List D,ds.length=a.length->(∀d∈ds,E d)->Q (b++[.lst ds])):W1 (DK (λ_=>true) g By c b.length a Z (b++[.lst []])) Q:=by
 refine Ew (λj C=>∀Z,P Z->∀ds:List D,ds.length=j->(∀d∈ds,E d)->C Z (b++[Ob.lst ds])) a 0 Z _ (λC k=>k _ n [] rfl λd p=>(nomatch p)) ?_ ?_
 .rintro i x e C C' fi kk Z n ds hl hE;refine fi _ _ rfl ?_;have u:i<a.length:=(Ax.mp e).1;obtain⟨l,s,m,t⟩:=h x (BY e) Z n;obtain⟨d,o,r,rfl,q⟩:=t ds;refine⟨l,s,true,_,rfl,d,_,r,ds,by simp,by omega,Do (kk _ m (ds++[d]) (by simp;omega) λz hz=>?_) (by simp)⟩;rcases CF.mp hz with h|h
  .exact hE z h
  .have:z=d:=by simpa using h
   rw[this];exact q
 .rintro C' fi Z _ ds hl hE;exact fi _ _ rfl (q ds (by omega) hE)
def AFz{Q:APT}{L:AB}{ns:AOz}{kd:Nat}(hd:L[kd]?=some (.lst (ns.map .int)))(hv:∀v∈ns,0<=v)(hp:0<ns.length)(hn:ns.length<=63)(st aa:Int)(h0:0<=st)(h1:st<=20)(h2:0<=aa)(h3:aa<=24)
  (q:∀u L',u.Nodup->Gq u->0<u.length->u.length<=6->∀k,L <+: L'->L'[k]?=some (.lst (u.map D.str))->Q (.ref k) L'):W2 (KG [.ref kd,.int st,.int aa] L) Q:=by
 unfold KG;refine Fe rfl ?_;unfold QU;have bo:((ns.map D.int).length:Int)=ns.length:=by simp
 refine BW (λo=>∀(c:Int),0<=c->o [some (.ref kd),some (.int st),some (.int aa),some (.int c),none,none,none,none,none,none,none,none] L) (λo ax=>?_) ?_
 .rfl';exact Tn hd hv hp hn h0 (by omega) λc aq=>ax c aq
 rintro c aq;have c3:=De c (b:=3) (by decide);have bv:=Eh c (b:=3) (by decide);refine Nb (Na (Vm (Vk (Vm (Rs rfl (Vk (AGz rfl (AG7 ?_))))))));refine BW (λo=>∀(m n:Int),0<=m->m<=24->1<=n->n<=6->o [some (.ref kd),some (.int st),some (.int m),some (.int c),some (.int n),none,none,none,none,none,none,none] L) (λo am=>?_) ?_
 .rfl';refine BR (λh=>?_) (λh=>?_)
  .rfl';exact am _ _ (by split <;> omega) (by split <;> omega) (by omega) (by omega)
  .rfl';exact am _ _ h2 h3 (by omega) (by omega)
 rintro m n ai a6 bu bm;refine BW (λo=>o [some (.ref kd),some (.int st),some (.int m),some (.int c),some (.int n),some (.ref L.length),none,none,none,none,none,none] (L++[Ob.lst (ANH n.toNat (D.str ""))])) (λo bn=>?_) ?_
 .rfl';refine Nc (λZ=>∃a,Z=[a]) (λ_=>some (D.str "")) _ _ ⟨none,rfl⟩ (by rw[Ge];omega) ?_ ?_
  .rintro x hx Z ⟨a,rfl⟩;rfl';refine⟨⟨_,rfl⟩,λbd=>?_⟩;rfl';refine⟨rfl,?_⟩;rfl';exact⟨rfl,rfl⟩
  .have e:ANw (λ_=>some (D.str "")) (Ey 0 n.toNat)=ANH n.toNat (D.str ""):=by
    have:∀l:List D,ANw (λ_=>some (D.str "")) l=ANH l.length (D.str ""):=λl=>by
     induction l with
     |nil=>rfl
     |cons x r ih=>rw[ANr,ih];rfl
    rw[this,Ge]
   rw[e];exact bn
 skip
 refine BW (λo=>∀L1:AB,L <+: L1->∀(sm:Str) (f:AOt),BH sm->0<sm.length->sm.length<=20->L1[L.length]?=some (.lst (f.map D.str))->f.length=n.toNat->(∀y∈f,y = "")->o [some (.ref kd),some (.int st),some (.int m),some (.int c),some (.int n),some (.ref L.length),some (.str sm),none,none,none,none,none] L1) (λo a8=>?_) ?_
 .rfl';refine HH _ AW (by decide) (by decide) λd hd=>?_
  have a9:∃s:Str,d=.str s/\BH s/\0<s.length/\s.length<=20:=by simp only[AY,Dq,or_false] at hd;rcases hd with rfl|rfl|rfl|rfl <;> exact⟨_,rfl,by decide +kernel,by decide +kernel,by decide +kernel⟩
  obtain⟨sm,rfl,e1,e2,e3⟩:=a9;refine a8 _ (by wtm_at "z_pf") sm (ANH n.toNat "") e1 e2 e3 ?_ (by simp) (λy hy=>List.eq_of_mem_replicate hy);rw[List.map_replicate];exact AQ AW
 rintro L1 g sm f ak b8 b7 hg p al;have ba:=CP g hd
 -- the f,filled
 refine BW (λo=>∀L2:AB,L <+: L2->∀(r:Nat) (f:AOt) (a b e:Option D),L2[r]?=some (.lst (f.map D.str))->f.length=n.toNat->Gq f->L.length<=r->o [some (.ref kd),some (.int st),some (.int m),some (.int c),some (.int n),some (.ref r),some (.str sm),a,b,e,none,none] L2) (λo aj=>?_) ?_
 .rfl';refine BR (λh=>?_) (λh=>?_)
  .rfl';refine Rr (λZ=>∃a,Z=[a,some (.int m),some (.ref kd),some (.int st)]) (λd=>∃s:Str,d=.str s/\BH s/\s.length<=100) ⟨none,rfl⟩ (by rw[Ge];omega) ?_ ?_
   .rintro x hx Z ⟨a,rfl⟩;obtain⟨i,hi,rfl⟩:=Wi hx;rfl';refine⟨⟨_,rfl⟩,λbd=>?_⟩;rfl';refine Tn (AQ ba) hv hp hn (by omega) (by omega) λv aw=>?_;rfl';refine Sl _ _ ai (by omega) λt bj bt=>?_;exact⟨rfl,t,rfl,bj,by omega⟩
   .intro ds hd hE;rw[Ge] at hd;obtain⟨ys,_,e3⟩:=WM λd hd=>let ⟨s,a,_⟩:=hE d hd;⟨s,a⟩;refine aj _ (g.trans (Ac _ _)) L1.length ys none none none (by rw[<-e3];exact AW) (by rw[<-hd,e3];simp) (λy hy=>?_) g.length_le;obtain⟨s,a,b,c⟩:=hE (.str y) (by rw[e3];exact Bw hy);cases a;exact⟨b,c⟩
  .rfl';refine Ca (FP (by omega)) ?_;have bc:0<=m*n/\m*n<=24*6:=⟨AN7 ai (by omega),AN6 a6 bm (by omega) (by omega)⟩;rfl'
   generalize hN:((if st+1+m*n<((List.map D.int ns).length:Int) then st+1+m*n else ((List.map D.int ns).length:Int))-(st+1)).toNat=Bl
   have bp:Bl<=63:=by rw[<-hN];split <;> omega
   clear hN bc;refine CN (λj o=>∀L2:AB,L <+: L2->∀(f:AOt) (a b e:Option D),L2[L.length]?=some (.lst (f.map D.str))->f.length=n.toNat->(∀y∈f,BH y/\y.length<=j)->o [some (.ref kd),some (.int st),some (.int m),some (.int c),some (.int n),some (.ref L.length),some (.str sm),a,b,e,none,none] L2) _ 0 _ _ (λo ag=>ag _ g f none none none hg p (λy hy=>by rw[al y hy];exact⟨by decide,by decide⟩)) ?_ ?_
   .rintro i x hx o Cy fz6 ag L2 hpre2 f a b e hg2 hrl2 hr2;obtain⟨hi,rfl⟩:=LF hx;refine fz6 _ _ rfl ?_;rfl';refine Tn (CP hpre2 hd) hv hp hn (by omega) (by omega) λv aw=>?_;rfl';obtain⟨ar,au,a7⟩:=Oo (xs:=sm.cps.toList) (n:=(sm.length:Int)) v (by omega) (by simp[Str.length]);refine TU a7 ?_;rfl';obtain⟨d,hd,ed⟩:=Oo (xs:=f.map D.str) (n:=n) (st+1+(i:Int)) (by omega) (by simp;omega);rw[Ap] at hd;obtain⟨y,hy,rfl⟩:=hd;refine BZ hg2 ed ?_;rfl';have ad:(⟨#[ar]⟩:Str).length=1:=rfl;have ay:=hr2 y hy;refine OX (by rw[ad];omega) ?_;rfl';have a0:=De (st+1+(i:Int)) (b:=n) (by omega);have a1:=Eh (st+1+(i:Int)) (b:=n) (by omega)
    have ae:ixN (f.map D.str).length ((st+1+(i:Int)) % n)=some ((st+1+(i:Int)) % n).toNat:=by unfold ixN;rw[if_pos a0,if_pos (by simp;omega)]
    refine OT hg2 ae ?_;refine ag _ (Hz hpre2 (Ag _)) (f.set ((st+1+(i:Int)) % n).toNat (y++⟨#[ar]⟩)) _ _ _ ?_ (by simp[hrl2]) (λz hz=>?_)
    .rw[Ci hg2,List.map_set]
    .rcases List.mem_or_eq_of_mem_set hz with h|h
     .have:=hr2 z h;exact⟨this.1,by omega⟩
     .rw[h];exact⟨ay.1.app (.one (ak _ au)),by rw[Ot,ad];omega⟩
   .rintro Cy fz6 L2 hpre2 f a b e hg2 hrl2 hr2;rw[Ge] at hr2;refine fz6 _ _ rfl (aj _ hpre2 _ f _ _ _ hg2 hrl2 (λy hy=>?_) (Ag _));have:=hr2 y hy;exact⟨this.1,by omega⟩
 clear hg p al g f;rintro L2 g r f a b e hg p hr av;refine BW (λo=>∀L3:AB,L <+: L3->∀(f:AOt),L3[r]?=some (.lst (f.map D.str))->f.length=n.toNat->Gq f->o [some (.ref kd),some (.int st),some (.int m),some (.int c),some (.int n),some (.ref r),some (.str sm),a,b,e,none,none] L3) (λo ao=>?_) ?_
 .rfl';refine BR (λh=>?_) (λh=>?_)
  .rfl';have bz:=Txt.slice_le sm none (some (1+c / 768 % 2));refine AGy ?_ ?_
   .unfold JT;simp only[Bs,decide_eq_true_eq];have bh:(24:Int).toNat=24:=rfl;rw[bh];refine⟨⟨by decide,by decide⟩,?_⟩;omega
   rfl'
   have ae:ixN (f.map D.str).length 0=some 0:=by unfold ixN;rw[if_pos (by decide),if_pos (by simp;omega)];rfl
   refine OT hg ae ?_;refine ao _ (Hz g av) (f.set 0 (Txt.slice (Txt.mul (Txt.slice sm none (some (1+c / 768 % 2))) 24) none (some 24))) ?_ (by simp[p]) (λz hz=>?_)
   .rw[Ci hg,List.map_set]
   .rcases List.mem_or_eq_of_mem_set hz with h|h
    .exact hr z h
    .rw[h];refine⟨((ak.slice _ _).mul _).slice _ _,?_⟩;have:=ACw (Txt.mul (Txt.slice sm none (some (1+c / 768 % 2))) 24) 24 (by decide);omega
  .rfl';exact ao _ g f hg p hr
 clear hg p hr g f;rintro L3 g f hg p hr;rfl';have br:r<L3.length:=(Ax.mp hg).1;refine CN (λj o=>∀L4:AB,∀(u:AOt) (z:Option D),L4=L3++[Ob.lst (u.map D.str)]->u.Nodup->Gq u->u.length<=j->(0<j->0<u.length)->o [some (.ref kd),some (.int st),some (.int m),some (.int c),some (.int n),some (.ref r),some (.str sm),a,b,e,some (.ref L3.length),z] L4) _ 0 _ _ (λo ac=>ac _ [] none rfl Gx (λ_ h=>(nomatch h)) (Ag _) (λh=>absurd h (by decide))) ?_ ?_
 .rintro i x hx o Cy fz8 ac L4 u z rfl hnd hts hl hp;rw[As] at hx
  cases hy:f[i]? with
  |none=>rw[hy] at hx;cases hx
  |some y =>
   rw[hy] at hx;cases hx;have bf:=hr y (BY hy);have bw:=(Ax.mp hy).1;refine fz8 _ _ (decide_eq_true (AQ hg)) ?_;rfl';refine OV AW (by rw[Of];rfl) ?_;rw[LV];rfl';refine BR (λhm=>?_) (λhm=>?_)
   .rfl';exact ac _ u _ rfl hnd hts (by omega) (λ_=>List.length_pos_of_mem hm)
   .rfl';refine GJ AW (by simp;omega) ?_;refine ac _ (u++[y]) _ (by simp) ?_ (λw hw=>?_) (by simp;omega) (λ_=>by simp)
    .rw[Gz];refine⟨hnd,by simp,λa ha b hb=>?_⟩;have:b=y:=by simpa using hb
     rw[this];rintro rfl;exact hm ha
    .rcases CF.mp hw with h|h
     .exact hts w h
     .have:w=y:=by simpa using h
      rw[this];exact bf
 .rintro Cy fz8 L4 u z rfl hnd hts hl hp;refine fz8 _ _ (decide_eq_true (AQ hg)) ?_;rw[AZ,p] at hl hp;rfl';exact⟨rfl,q u _ hnd hts (hp (by omega)) (by omega) _ (g.trans (Ac _ _)) AW⟩
def Xm{Q:APT}{L:AB}{p:D}(e:CQ p)(h:Q (.bl true) L):W2 (JG [p] L) Q:=by
 obtain⟨a,c,b,rfl,i,k,d⟩:=e;unfold JG;refine BP rfl ?_;unfold Pn;rfl';refine OU rfl ?_;have j:DB (.int c) [.int 1,.int 2,.int (-1),.int (-2)]=true:=by rcases i with rfl|rfl|rfl|rfl <;> decide +kernel
 rw[j];rfl';refine LX rfl ?_
 have f:DB (.str a) [.str "small",.str "great",.str "figure",.str "mark",.str "any"]=true:=by simp only[AY,Dq,or_false] at d;rcases d with rfl|rfl|rfl|rfl|rfl <;> decide +kernel
 rw[f];rfl';refine LX rfl ?_;have g:DB (.str b) [.str "ahead",.str "behind"]=true:=by rcases k with rfl|rfl <;> decide +kernel
 rw[g];exact⟨rfl,AV _,h⟩
abbrev GR(ws:AOt)(ps:List D):Prop:=(∀p∈ps,EL ws p)/\0<ps.length/\ps.length<=3
def AF5{Q:APT}{L:AB}{ws:AOt}{ps:List D}{k:Nat}(g:L[k]?=some (.lst (ws.map D.str)))(e:GR ws ps)(h:Q (.bl true) L):W2 (KJ [.tup ps,.ref k] L) Q:=by
 unfold KJ;refine BP rfl ?_;unfold Ph;have m:(1:Int)<=(ps.length:Int):=by have:=e.2.1;omega
 have l:(ps.length:Int)<=3:=by have:=e.2.2;omega
 rfl';refine CN (λj d=>∀a,d [some (.tup ps),some (.ref k),a] L) _ 0 _ _ (λd b=>b none) ?_ ?_
 .rintro i x hx d Cy fz1 b a;refine fz1 _ _ rfl ?_;rcases e.1 x (BY hx) with⟨w,s,rfl⟩|⟨c,p,q,rfl,f,r,o⟩
  .rfl';refine OV g (by rw[Of];rfl) ?_;rw[LV,decide_eq_true s];rfl';exact b _
  .have hnw:c≠"word":=by rcases f with rfl|rfl|rfl <;> decide
   rfl';refine OU rfl ?_;have n:DB (.str c) [.str "copy",.str "raise",.str "sink"]=true:=by rcases f with rfl|rfl|rfl <;> decide +kernel
   rw[n];rfl';refine Xm r ?_;rfl';refine Xm o ?_;rfl';exact b _
 .rintro Cy fz1 a;refine fz1 _ _ rfl ?_;rfl';exact⟨rfl,AV _,h⟩
noncomputable abbrev Es:=List (Str×Str)
abbrev Bj(e:Str×Str):D:=.tup [.str e.1,.str e.2]
abbrev JA(exs:Es):Prop:=∀e∈exs,BH e.1/\e.1.length<=100/\e.2.length<=10000
abbrev IM(ps:List D)(exs:Es):Bool:=exs.all λe=>decide (FL e.1 ps=.str e.2)
def AHB{Q:APT}{L:AB}{a b:D}(c:Ex a b=true)(h:Q (.bl (!decide (a=b))) L):W2 (Lb a b L) Q:=⟨_,_,by unfold Lb;rw[if_pos c],h⟩
def Xn{Q:APT}{L:AB}{ws:AOt}{ps:List D}{exs:Es}{k e:Nat}(r:L[k]?=some (.lst (ws.map D.str)))(q:L[e]?=some (.lst (exs.map Bj)))(hw:Dd ws)(m:GR ws ps)(s:JA exs)(h:Q (.bl (IM ps exs)) L):W2 (JF [.tup ps,.ref k,.ref e] L) Q:=by
 unfold JF;refine BP rfl ?_;unfold Pd;rfl';refine AF5 r m ?_;rfl';refine CN (λj g=>IM ps (exs.take j)=true->∀a b,g [some (.tup ps),some (.ref k),some (.ref e),a,b] L) _ 0 _ _ (λg c=>c rfl none none) ?_ ?_
 .rintro i x hxi g Cy fz1 c hf a b;rw[As] at hxi
  cases d:exs[i]? with
  |none=>rw[d] at hxi;cases hxi
  |some f =>
   rw[d] at hxi;cases hxi;have o:=s f (BY d);have n:exs.take (0+i+1)=exs.take (0+i)++[f]:=by rw[BM,Gw,d];rfl
   refine fz1 _ _ (decide_eq_true q) ?_;unfold Bj;rfl';refine Xl (by omega) o.1 (λp u=>(m.1 p u).piece hw) (by have:=m.2.2;omega) ?_;rfl';refine AHB ?_ ?_
   .rcases ADQ (y:=f.1) (ps:=ps) with e|⟨t,e⟩ <;> rw[e] <;> rfl
   rfl';refine BR (λl=>?_) (λl=>?_)
   .rfl';refine c ?_ _ _;rw[n];unfold IM at hf ⊢;rw[List.all_append,hf];simp[l]
   .rfl';refine⟨rfl,AV _,?_⟩
    have:IM ps exs=false:=by unfold IM;rw[List.all_eq_false];exact⟨f,BY d,by simp[l]⟩
    rw[this] at h;exact h
 .rintro Cy fz1 hf a b;refine fz1 _ _ (decide_eq_true q) ?_;rw[BM,AZ,Dy] at hf;rfl';rw[hf] at h;exact⟨rfl,AV _,h⟩
def WQ:∀{xs:List D},(∀x∈xs,∃t,x=D.str t)->∃a,Bp xs=some a
 |[],_=>⟨[],rfl⟩
 |x::xs,h=>by
  obtain⟨t,rfl⟩:=h x BC;obtain⟨a,e⟩:=WQ λz b=>h z (BD _ b);exact⟨t::a,by simp[Bp,e]⟩
def ADP{y:Str}{ps:List D}(i:y.length<=1000)(k:BH y)(l:∀p∈ps,Dv p)(j:∀p∈ps,∃t,CB y p=.str t)(g:ps.length<=3):∃a:Str,FL y ps=.str a/\a.length<=3000:=by
 obtain⟨c,e⟩:=WQ (xs:=ps.map (CB y)) λx f=>by
  rw[Ap] at f;obtain⟨p,b,rfl⟩:=f;exact j p b
 have d:=WG i k l e;refine⟨Txt.join "" c,by unfold FL;rw[e],?_⟩;have:=join_len "" c;have h:(Str.ofString "").length=0:=rfl;rw[h] at this;have:ps.length*1000<=3*1000:=ANR _ g;omega
abbrev IQ(ps:List D)(y:Str):Str:=match FL y ps with|.str a=>a|_=>""
def ZW(xs:List D)(k:Nat):cutD xs none (some (k:Int))=xs.take k:=by
 unfold cutD;have e:HT.sIx xs.length 0 none=0:=rfl;rw[e,ANn,Nat.sub_zero,HT.AKS]
 by_cases h:k<=xs.length
 .rw[Nat.min_eq_left h]
 .rw[Nat.min_eq_right (by omega),Dy,ANu (by omega)]
def ZY(xs:List D)(k:Nat):cutD xs (some (k:Int)) none=xs.drop k:=by
 unfold cutD;have e:HT.sIx xs.length xs.length none=xs.length:=rfl;rw[e,HT.AKS]
 by_cases h:k<=xs.length
 .rw[Nat.min_eq_left h,ANu (by simp)]
 .rw[Nat.min_eq_right (by omega),ANt,List.drop_of_length_le (by omega)];simp
def ABM{xs c:List D}{i:Nat}{x:D}(h:(ES xs.length [xs,c])[i]?=some x):∃a b,xs[i]?=some a/\x=.tup [a,b]/\b=c[i]?.getD .non:=by
 rw[VO] at h;split at h
 .rename_i hi;cases h;exact⟨xs[i],_,by simp[hi],by simp[hi],rfl⟩
 .cases h
def AF7{Q:APT}{L:AB}{ts:AOt}{ps:List D}{t g:Nat}{gs:AOz}(c:Int)(ak:L[t]?=some (.lst (ts.map D.str)))(bn:L[g]?=some (.lst (gs.map D.int)))(bm:ts.length<=gs.length)(ht:Gq ts)(hl:ts.length<=1000)(hp:∀p∈ps,Dv p)(ha:∀p∈ps,IW ts p)(a9:ps.length<=3)
  (q:∀i:Es,i.map Prod.fst=ts->JA i->∀k L',L <+: L'->L'[k]?=some (.lst (i.map Bj))->Q (.ref k) L'):W2 (KI [.tup ps,.ref t,.int c,.ref g] L) Q:=by
 have aj:∀y∈ts,FL y ps=.str (IQ ps y)/\(IQ ps y).length<=3000:=λy l=>by
  obtain⟨a,e,hl⟩:=ADP (by have:=ht y l;omega) (ht y l).1 hp (λp hp=>ha p hp y l) a9;have:IQ ps y=a:=by unfold IQ;rw[e]
  rw[this];exact⟨e,hl⟩
 unfold KI;refine Fe rfl ?_;unfold Qc;refine BW (λm=>m [some (.tup ps),some (.ref t),some (.int c),some (.ref g),some (.ref L.length),none,none,none,none] (L++[Ob.lst ((ts.map λy=>(y,IQ ps y)).map Bj)])) (λm a7=>?_) ?_
 .rfl';refine Ew (λj m=>∀a,m [a,some (.tup ps)] (L++[Ob.lst (((ts.take j).map λy=>(y,IQ ps y)).map Bj)])) _ 0 _ _ (λm al=>al none) ?_ ?_
  .rintro i2 z hz m Cy fw1 al a;rw[As] at hz
   cases l:ts[i2]? with
   |none=>rw[l] at hz;cases hz
   |some y =>
    rw[l] at hz;cases hz;have aw:=BY l;have ay:=ht y aw;have bj:i2<ts.length:=(Ax.mp l).1;have bh:ts.take (0+i2+1)=ts.take (0+i2)++[y]:=by rw[BM,Gw,l];rfl
    refine fw1 _ _ (decide_eq_true (AQ ak)) ?_;rfl';refine Xl (by omega) ay.1 hp (by omega) ?_;rfl';refine⟨_,AW,by simp;omega,Do (al _) ?_⟩;rw[bh,(aj y aw).1];simp[Bj]
  .rintro Cy fw1 _;refine fw1 _ _ (decide_eq_true (AQ ak)) ?_;rw[BM,AZ,Dy];exact a7
 skip
 refine BW (λm=>∀L2:AB,∀(k:Nat) (i:Es),L <+: L2->L2[k]?=some (.lst (i.map Bj))->i.map Prod.fst=ts->(∀e∈i,BH e.1/\e.1.length<=100/\e.2.length<=3000)->m [some (.tup ps),some (.ref t),some (.int c),some (.ref g),some (.ref k),none,none,none,none] L2) (λm av=>?_) ?_
 .have keepIt:=av _ L.length (ts.map λy=>(y,IQ ps y)) (Ac _ _) AW (by rw[Bx];exact AN8 ts) (λe he=>by
    obtain⟨y,l,rfl⟩:=Ap.mp he
    exact⟨(ht y l).1,(ht y l).2,(aj y l).2⟩)
  rfl';refine BR (λh1=>?_) (λh1=>?_)
  .generalize hL0:L++[Ob.lst ((ts.map λy=>(y,IQ ps y)).map Bj)]=L0;have p0:L <+: L0:=by rw[<-hL0];exact Ac _ _
   have w:=CP p0 ak;have ac:=CP p0 bn;clear keepIt hL0;have am:∀L':AB,L'[t]?=some (.lst (ts.map D.str))->L'[g]?=some (.lst (gs.map D.int))->seqs [.ref t,.ref g] L'=some [ts.map D.str,gs.map D.int]:=λL' e1 e2=>by simp[seqs,Cq,e1,e2]
   refine Na (ABx (Vh (Vl (Rs rfl (Vl (Rs rfl (Vj ⟨_,_,am _ w ac,⟨by simpa using bm,Nat.lt_of_sub_eq_succ rfl,rfl⟩,?_⟩)))))));have bf:(ES (ts.map D.str).length [ts.map D.str,gs.map D.int]).length=ts.length:=by unfold ES;simp
   refine Ew (λj m=>∀a b,∀(as:AOt),as.length=j->(∀a∈as,a.length<=3000)->m [a,b] (L0++[Ob.lst (((ts.take j).zip as).map Bj)])) _ 0 _ _ (λm ao=>ao none none [] rfl (λ_ h=>(nomatch h))) ?_ ?_
   .rintro i2 z hz m Cy fw2 ao a b as hal has;obtain⟨y,v,l,rfl,hv⟩:=ABM hz;rw[As] at l
    cases ag:ts[i2]? with
    |none=>rw[ag] at l;cases l
    |some y' =>
     rw[ag] at l;cases l;have bj:i2<ts.length:=(Ax.mp ag).1;have bc:v=.int gs[i2]:=by rw[hv];simp[show i2<gs.length by omega]
     subst bc;refine fw2 _ _ (decide_eq_true (am _ (AQ w) (AQ ac))) ?_;rfl';refine Sl _ _ (by decide) (by decide) λa aq bt=>?_;rfl';refine⟨_,AW,by simp;omega,Do (ao _ _ (as++[a]) (by simp[hal]) (λx hx=>?_)) ?_⟩
     .rcases CF.mp hx with h|h
      .exact has x h
      .rw[Dr.mp h];omega
     .have e1:ts.take (0+i2+1)=ts.take (0+i2)++[y']:=by rw[BM,Gw,ag];rfl
      rw[e1,List.zip_append (by rw[Eg];omega)];simp[Bj]
   .rintro Cy fw2 _ _ as hal has;refine fw2 _ _ (decide_eq_true (am _ (AQ w) (AQ ac))) ?_;rw[bf,BM] at hal ⊢;rw[Dy];refine av _ L0.length (ts.zip as) (p0.trans (Ac _ _)) AW (List.map_fst_zip (by omega)) (λe he=>?_);obtain⟨y,a⟩:=e;have h1:=ht y (ANh he).1;exact⟨h1.1,h1.2,has a (ANh he).2⟩
  .rfl';exact keepIt
 rintro L1 k1 i aa ar u ai;have ad:JA i:=λe he=>⟨(ai e he).1,(ai e he).2.1,by have:=(ai e he).2.2;omega⟩;have br:i.length<=1000:=by have:=congrArg List.length u;simp at this;omega
 refine BW (λm=>∀L2:AB,∀(k:Nat) (i:Es) (a b e f:Option D),L <+: L2->L2[k]?=some (.lst (i.map Bj))->i.map Prod.fst=ts->JA i->m [some (.tup ps),some (.ref t),some (.int c),some (.ref g),some (.ref k),a,b,e,f] L2) (λm ax=>?_) ?_
 .have keepIt:=ax _ k1 i none none none none aa ar u ad;rfl';refine BR (λh1=>?_) (λh1=>?_)
  .rfl';refine BR (λh2=>?_) (λh2=>?_)
   .have h2':0<i.length:=by simpa using h2
    have bo:(((i.map Bj).length:Nat):Int)=i.length:=by simp
    rfl';have a0:=De (c / 4) (b:=((i.map Bj).length:Int)) (by omega);have a1:=Eh (c / 4) (b:=((i.map Bj).length:Int)) (by omega);generalize bp:(c / 4 % ((i.map Bj).length:Int))=at0 at a0 a1 ⊢;obtain⟨n,rfl⟩:∃n:Nat,at0=(n:Int):=⟨at0.toNat,by omega⟩;have a8:n<i.length:=by omega
    obtain⟨r,s⟩:∃r,i[n]?=some r:=⟨i[n],by simp[a8]⟩
    have ae:i=i.take n++r::i.drop (n+1):=by obtain⟨h1,h2⟩:=Ax.mp s;rw[<-h2,List.getElem_cons_drop,AOM]
    have a6:atI (i.map Bj) (n:Int)=some (Bj r):=Dc (by rw[As,s];rfl);have au:=ai r (BY s);refine BZ ar a6 ?_;rw[show Bj r=D.tup [.str r.1,.str r.2] from rfl];rfl';have aq:(Str.ofString "a").length=1:=by decide
    have s1:=Txt.slice_le (r.2++"a") none (some 72);have s2:=Txt.slice_le r.2 none (some (-1));have s3:=Txt.slice_le r.2 (some 1) none;have s4:=Txt.slice_le r.2 none (some 1);rw[Ot,aq] at s1;refine OX (by rw[aq];omega) ?_;rfl';refine OX (by omega) ?_;rfl';refine HH _ AW (by decide) (by simp) λd hd=>?_
    have bd:∃o:Str,d=.str o/\o.length<=10000:=by
     simp only[AY,Dq,or_false] at hd;rcases hd with rfl|rfl|rfl|rfl
     .exact⟨_,rfl,by omega⟩
     .exact⟨_,rfl,by omega⟩
     .exact⟨_,rfl,by rw[Ot];omega⟩
     .exact⟨_,rfl,by decide⟩
    obtain⟨o,rfl,ho⟩:=bd;rfl';rw[ZW];refine TZ (by wtm_at "z_lk") AW (by simp;omega) ?_;rfl';have ba:((n:Int)+1)=((n+1:Nat):Int):=by omega
    rw[ba,ZY];refine TZ (by wtm_at "z_lk") AW (by simp;omega) ?_;refine ax _ _ (i.take n++(r.1,o)::i.drop (n+1)) _ _ _ _ (aa.trans (by wtm_at "z_pf")) ?_ ?_ (λe he=>?_)
    .rw[AW];simp[Bj,List.map_take,List.map_drop]
    .rw[<-u]
     conv=>rhs;rw[ae]
     simp
    .rcases CF.mp he with h|h
     .exact ad e (ANp h)
     .rcases AY.mp h with rfl|h
      .exact⟨au.1,au.2.1,ho⟩
      .exact ad e (AOa h)
   .rfl';exact keepIt
  .rfl';exact keepIt
 .rintro L2 k i a b e f hpre hg h1 h2;rfl';exact⟨rfl,q i h1 h2 k L2 hpre hg⟩
def AG1{Q:APT}{L:AB}{xs:List D}(h:Q (.ref L.length) (L++[.lst xs])):W2 (Le [.fz xs] L) Q:=⟨_,_,rfl,h⟩
def YO:∀{ds:List D},(∀d∈ds,∃v:Int,d=.int v/\0<=v)->∃b:AOz,ds=b.map .int/\∀v∈b,0<=v
 |[],_=>⟨[],rfl,λ_ h=>(nomatch h)⟩
 |d::ds,h=>by
  obtain⟨v,rfl,e⟩:=h d BC;obtain⟨b,rfl,c⟩:=YO λx a=>h x (BD _ a);refine⟨v::b,rfl,λx a=>?_⟩;rcases AY.mp a with rfl|a
  .exact e
  .exact c x a
def YF{n j:Nat}(h:j<n):ixN n (j:Int)=some j:=by simp[ixN];omega
def AF2{Q:APT}{L:AB}{ns:AOz}(hb:∀z∈ns,Builtin.Int.intBits z<=1048576)(hn:ns.length<=63){k:Int}(h0:0<=k)(h1:k<1000)(q:∀v:Int,0<=v->Q (.int v) L):W2 (Ka [.fz (ns.map .int),.int k] L) Q:=by
 have hC:Builtin.Int.intBits 2718281828459045235360287471352662497757<=132:=by decide
 have c:((ns.map D.int).length:Int)=ns.length:=by simp
 unfold Ka;refine BP rfl ?_;unfold Rg;rfl';refine BR (λt=>?_) (λt=>?_)
 .obtain⟨z,o,f⟩:=HP h0 (c▸t);rfl';refine Yl f ?_;rfl';refine Ca (Sj (hb z o) hC (by decide)) ?_;rfl';exact⟨rfl,AV _,q _ (De _ (by decide))⟩
 .rfl'
  have i:0<=k*k/\k*k<=1000000:=by have d:k*k<=1000*1000:=AN6 (by omega) (by omega) h0 (by omega);exact⟨AN7 h0 h0,by omega⟩
  have ac:0<=k*k*k/\k*k*k<=1000000000:=by have d:k*k*k<=1000000*1000:=AN6 (by omega) (by omega) h0 (by omega);exact⟨AN7 i.1 h0,by omega⟩
  refine Ca (FP (by omega)) ?_;rfl';refine Ca (HG (by omega)) ?_;rfl'
  have l:∀v:Int,0<=v->v<100000000000000000000000000000000000000000000000->cMul v v=true:=λv a b=>by
   have n:Builtin.Int.intBits v<=160:=Zl (by
    have:(v.natAbs:Int)<((2 ^ 160:Nat):Int):=by
     have e:((2 ^ 160:Nat):Int)=1461501637330902918203684832716283019655932542976:=by decide
     rw[e];omega
    exact Int.ofNat_lt.mp this)
   exact Sj n n (by decide)
  have j:=λx:Int=>De x (b:=2147483629) (by decide);have r:=λx:Int=>Eh x (b:=2147483629) (by decide);have s:=λx:Int=>De x (b:=4611686018427387847) (by decide);have m:=λx:Int=>Eh x (b:=4611686018427387847) (by decide);refine BR (λhl=>?_) (λhl=>?_)
  .rfl';refine Ca (HG (by omega)) ?_;rfl';obtain⟨z,o,f⟩:=HP (ns:=ns) (k:=k*7 % ((ns.map D.int).length:Int)) (De _ (by omega)) (by have:=Eh (k*7) (b:=((ns.map D.int).length:Int)) (by omega);omega);refine Yl f ?_;rfl';refine Ca (FP (by omega)) ?_;rfl';have g:=De z (b:=10000000000000000000000000000000000000000) (by decide);have aa:=Eh z (b:=10000000000000000000000000000000000000000) (by decide);refine Ca (HG (by omega)) ?_;rfl'
   have hp:0<=z % 10000000000000000000000000000000000000000*(48271+2*k)/\z % 10000000000000000000000000000000000000000*(48271+2*k)<=10000000000000000000000000000000000000000*60000 :=
    ⟨AN7 g (by omega),AN6 (by omega) (by omega) (by omega) (by omega)⟩
   generalize z % 10000000000000000000000000000000000000000*(48271+2*k)=y at hp ⊢;refine Ca (l _ (by omega) (by omega)) ?_;rfl';generalize (k*k*7919+5+y)*(k*k*7919+5+y)=u;have d:=j u;have h:=r u;generalize u % 2147483629=p at d h ⊢;refine Ca (FP (by omega)) ?_;rfl';refine Ca (HG (by omega)) ?_;rfl';refine Ca (HG (by omega)) ?_;rfl';refine Ca (FP ?_) ?_
   .have b1:=s ((p+k*k*k+16807)*(p+69621));have w:=m ((p+k*k*k+16807)*(p+69621));omega
   rfl';exact⟨rfl,AV _,q _ (De _ (by decide))⟩
  .rfl';refine Ca (l _ (by omega) (by omega)) ?_;rfl';generalize (k*k*7919+5)*(k*k*7919+5)=u;have d:=j u;have h:=r u;generalize u % 2147483629=p at d h ⊢;refine Ca (FP (by omega)) ?_;rfl';refine Ca (HG (by omega)) ?_;rfl';refine Ca (HG (by omega)) ?_;rfl';refine Ca (FP ?_) ?_
   .have b1:=s ((p+k*k*k+16807)*(p+69621));have w:=m ((p+k*k*k+16807)*(p+69621));omega
   rfl';exact⟨rfl,AV _,q _ (De _ (by decide))⟩
def AF8{Q:APT}{L:AB}{ns:AOz}(hb:∀z∈ns,Builtin.Int.intBits z<=1048576)(hn:ns.length<=63)(e f:Int)(h0:0<e)(h1:e<=f)(h2:f<=100)
  (q:∀(vs:AOz) (k:Nat) (L2:AB),L <+: L2->L2[k]?=some (.lst (vs.map .int))->(∀v∈vs,0<=v)->e<=vs.length->(vs.length:Int)<=f->Q (.ref k) L2):W2 (KY [.fz (ns.map .int),.int e,.int f] L) Q:=by
 have l:∀ms:AOz,((ms.map D.int).length:Int)=ms.length:=λ_=>by simp
 unfold KY;refine Fe rfl ?_;unfold RZ;refine BW (λp=>p [some (.fz (ns.map .int)),some (.int e),some (.int f),some (.ref L.length),none,none,none] (L++[Ob.lst (ns.map .int)])) (λp ag=>?_) ?_
 .rfl';refine AG1 ?_;exact ag
 skip
 refine BW (λp=>∀L':AB,∀a b c d,L <+: L'->p [some (.fz (ns.map .int)),some (.int e),some (.int f),a,b,c,d] L') (λp ae=>?_) ?_
 .rfl';refine BR (λhl=>?_) (λhl=>?_)
  .rw[l] at hl;obtain⟨z,hz,ez⟩:=HP (ns:=ns) (k:=0) (by decide) hl;have au:=De z (b:=f-e+1) (by omega);have aw:=Eh z (b:=f-e+1) (by omega);rfl';refine BZ AW ez ?_;rfl';refine BZ AW ez ?_;rfl';refine OT AW (n:=0) (YF (j:=0) (by simp;omega)) ?_;rfl';generalize u:(L++[Ob.lst (ns.map D.int)]).set L.length (Ob.lst ((ns.map D.int).set 0 (.int (z / (f-e+1)))))=L1;have t:L <+: L1:=by rw[<-u];exact Hz (Ac _ _) (Ag _)
   have ak:L1.length=L.length+1:=by rw[<-u];simp
   have aq:L1[L.length]?=some (.lst ((ns.set 0 (z / (f-e+1))).map .int)):=by rw[<-u,Ci AW,List.map_set]
   generalize hT:(e+z % (f-e+1)).toNat=n;have ai:e<=(n:Int)/\(n:Int)<=f:=by omega
   refine CN (λj p=>∀L':AB,∀(cs o:AOz) (a:Option D),L <+: L'->L'[L.length]?=some (.lst (cs.map .int))->cs.length=ns.length->L'[L1.length]?=some (.lst (o.map .int))->o.length=j->(∀v∈o,0<=v)->p [some (.fz (ns.map .int)),some (.int e),some (.int f),some (.ref L.length),some (.int (e+z % (f-e+1))),some (.ref L1.length),a] L') _ 0 _ _ (λp w=>w _ _ [] none (t.trans (Ac _ _)) (AQ aq) (by simp) AW rfl (λ_ h=>(nomatch h))) ?_ ?_
   .rintro i x hx p Cy fz3 w L' cs o a hp hgc hcl hgd hdl hd0;obtain⟨hi,rfl⟩:=LF hx;refine fz3 _ _ rfl ?_;have ar:((cs.map D.int).length:Int)=ns.length:=by rw[l,hcl]
    have ad:0<((cs.map D.int).length:Int):=by omega
    have aa:=De (0+(i:Int)) (b:=((cs.map D.int).length:Int)) (by omega);have al:=Eh (0+(i:Int)) (b:=((cs.map D.int).length:Int)) ad;obtain⟨y,hy,ey⟩:=HP (ns:=cs) (k:=(0+(i:Int)) % ((cs.map D.int).length:Int)) aa (by rw[<-l];exact al);rfl';refine BZ hgc ey ?_;rfl';refine GJ hgd (by rw[AZ];omega) ?_;have g:(L'.set L1.length (Ob.lst (o.map D.int++[D.int (y % 10000000000000000000000000000000000000000)])))[L.length]?=some (.lst (cs.map .int)):=Fh (by omega) hgc;have s:=Ci (a:=Ob.lst (o.map D.int++[D.int (y % 10000000000000000000000000000000000000000)])) hgd;have ac:L <+: L'.set L1.length (Ob.lst (o.map D.int++[D.int (y % 10000000000000000000000000000000000000000)])):=Hz hp (by omega);generalize L'.set L1.length (Ob.lst (o.map D.int++[D.int (y % 10000000000000000000000000000000000000000)]))=L2 at g s ac ⊢;rfl';refine BZ g ey ?_;rfl';obtain⟨r,hr⟩:∃r:Nat,(0+(i:Int)) % ((cs.map D.int).length:Int)=r:=⟨_,(Int.toNat_of_nonneg aa).symm⟩;rw[hr];refine OT g (n:=r) (YF (by omega)) ?_;refine w _ (cs.set r (y / 10000000000000000000000000000000000000000)) (o++[y % 10000000000000000000000000000000000000000]) _ (Hz ac (by omega)) ?_ (by simp[hcl]) ?_ (by simp;omega) (λv hv=>?_)
    .rw[Ci g,List.map_set]
    .rw[Cg];exact Fh (by omega) s
    .rcases CF.mp hv with h|h
     .exact hd0 v h
     .have:v=y % 10000000000000000000000000000000000000000:=by simpa using h
      rw[this];exact De _ (by decide)
   .rintro Cy fz3 L' cs o a hp hgc hcl hgd hdl hd0;rw[Ge] at hdl;refine fz3 _ _ rfl ?_
    have am:cs.min?≠none:=λh=>by
     rw[List.min?_eq_none_iff] at h;subst h;simp at hcl;omega
    obtain⟨m,hm⟩:=Option.ne_none_iff_exists'.mp am;rfl';refine AG0 hgc (AGf cs) hm ?_;rfl';refine BR (λ_=>?_) (λ_=>?_)
    .rfl';exact⟨rfl,q o _ L' hp hgd hd0 (by omega) (by omega)⟩
    .rfl';exact ae _ _ _ _ _ hp
  .rfl';exact ae _ _ _ _ _ (Ac _ _)
 .rintro L' a b c d hp;have ao:=l ns;rfl'
  generalize hN:(if (if ((List.map D.int ns).length:Int)<f then ((List.map D.int ns).length:Int) else f)>e then (if ((List.map D.int ns).length:Int)<f then ((List.map D.int ns).length:Int) else f) else e)=n
  have ai:e<=n/\n<=f:=by
   rw[<-hN]
   split <;> (try split) <;> omega
  refine Rr (λZ=>∃a,Z=[a,some (.fz (ns.map .int))]) (λd=>∃v:Int,d=.int v/\0<=v) ⟨none,rfl⟩ ?_ ?_ ?_
  .rw[Ge];omega
  .rintro x hx Z ⟨a,rfl⟩;obtain⟨i,hi,rfl⟩:=Wi hx;rfl';refine⟨⟨_,rfl⟩,λav=>?_⟩;rfl';refine AF2 hb hn (by omega) (by omega) λv hv=>?_;exact⟨rfl,v,rfl,hv⟩
  intro o hd hE;rw[Ge] at hd;obtain⟨vs,rfl,aj⟩:=YO hE;rw[AZ] at hd;exact⟨rfl,q vs _ _ (hp.trans (Ac _ _)) AW aj (by omega) (by omega)⟩
def ZX(ns:AOz)(a b:Option Int):∃cs:AOz,cutD (ns.map D.int) a b=cs.map D.int/\∀v∈cs,v∈ns:=by unfold cutD;rw[<-List.map_drop,<-List.map_take];exact⟨_,rfl,λv c=>AOa (ANp c)⟩
def AHq(ns:AOz)(h:24<=ns.length):∃cs:AOz,cutD (ns.map D.int) (some 11) (some 17)=cs.map D.int/\6<=cs.length:=by obtain⟨cs,e,_⟩:=ZX ns (some 11) (some 17);refine⟨cs,e,?_⟩;have:=congrArg List.length e;unfold cutD at this;rw[show(11:Int)=((11:Nat):Int) from rfl,show(17:Int)=((17:Nat):Int) from rfl,HT.AKS,HT.AKS,Eg,ANi,AZ,AZ] at this;omega
def AF3{Q:APT}{L:AB}{ns:AOz}{kd:Nat}(hd:L[kd]?=some (.lst (ns.map .int)))(hv:∀v∈ns,0<=v)(ax:24<=ns.length)(hn:ns.length<=63)
  (q:∀(ws:AOt) (ps:List D) (exs:Es) e l ke kk,Dd ws->GR ws ps->JA exs->(exs.map Prod.fst).Nodup->exs.length<=6->L <+: e->e[l]?=some (.lst (ws.map D.str))->e[ke]?=some (.lst (exs.map Bj))->e[kk]?=some (.lst [.ref l,.tup ps,.ref ke])->Q (.ref kk) e) :
  W2 (KC [.ref kd] L) Q:=by
 obtain⟨z0,_,e0⟩:=HP (ns:=ns) (k:=0) (by decide) (by omega);obtain⟨z1,_,e1⟩:=HP (ns:=ns) (k:=1) (by decide) (by omega);obtain⟨z2,_,e2⟩:=HP (ns:=ns) (k:=2) (by decide) (by omega);obtain⟨cs,ag,_⟩:=ZX ns (some 5) (some 11);obtain⟨gs,ay,a7⟩:=AHq ns ax
 have a9:cs.length<=63:=by have:=congrArg List.length ag;unfold cutD at this;rw[Eg,ANi,AZ,AZ] at this;omega
 unfold KC;refine Fe rfl ?_;unfold QP;refine BW (λf=>∀e:AB,∀ws l,Dd ws->L <+: e->e[l]?=some (.lst (ws.map D.str))->f [some (.ref kd),some (.ref l),none,none] e) (λf ao=>?_) ?_
 .rfl';refine BZ hd e0 ?_;rfl';rw[ag];refine TZ (by wtm_at "z_lk") AW (by simp;omega) ?_;rfl';refine AFy (cs:=z0::cs) AW (by simp) λws e h1 h2 h3=>ao _ ws _ h1 ?_ h3;exact(((Ac _ _).trans (Ac _ _)).trans (Ac _ _)).trans h2
 rintro L1 ws l s h aj;have ad:=CP h hd;have a8:(((ws.map D.str).length:Nat):Int)=ws.length:=by simp
 refine BW (λf=>∀e:AB,∀(b:AOt) (kt:Nat),Gq b->b.Nodup->b.length<=6->(ws≠[]\/∀y∈b,y≠"")->L1 <+: e->e[kt]?=some (.lst (b.map D.str))->f [some (.ref kd),some (.ref l),some (.ref kt),none] e) (λf av=>?_) ?_
 .rfl';refine AFz ad hv (by omega) hn 17 10 (by decide) (by decide) (by decide) (by decide) λb L2 aa m a6 ae k o hg=>?_;have i:=CP o aj;rfl';refine Ew (λj f=>∀a,f [a,some (.ref l)] (L2++[Ob.lst (((b.take j).filter λ(y:Str)=>decide (y≠("":Str)) || decide (ws≠[])).map D.str)])) _ 0 _ _ (λf g=>g none) ?_ ?_
  .rintro i2 z hz f Cy fw3 g a;rw[As] at hz
   cases n:b[i2]? with
   |none=>rw[n] at hz;cases hz
   |some y =>
    rw[n] at hz;cases hz;have ba:i2<b.length:=(Ax.mp n).1;have w:b.take (0+i2+1)=b.take (0+i2)++[y]:=by rw[BM,Gw,n];rfl
    refine fw3 _ _ (decide_eq_true (AQ hg)) ?_;have am:((b.take (0+i2)).filter λ(y:Str)=>decide (y≠("":Str)) || decide (ws≠[])).length<16777216:=Nat.lt_of_le_of_lt (List.length_filter_le _ _) (by simp;omega);rfl';refine BR (λh1=>?_) (λh1=>?_)
    .rfl';refine BR (λh2=>?_) (λh2=>?_)
     .rfl';refine⟨_,AW,by simpa using am,Do (g _) ?_⟩;have u:ws≠[]:=by rintro rfl;simp at h2
      rw[w,List.filter_append];simp[u]
     .rfl';refine Do (g _) ?_
      have u:ws=[]:=by
       rcases ws with _|⟨x,r⟩
       .rfl
       .exfalso;apply h2;simp
      rw[w,List.filter_append];simp[u,h1]
    .rfl';refine⟨_,AW,by simpa using am,Do (g _) ?_⟩;rw[w,List.filter_append];simp[h1]
  .rintro Cy fw3 _;refine fw3 _ _ (decide_eq_true (AQ hg)) ?_;rw[BM,AZ,Dy];refine av _ (b.filter λ(y:Str)=>decide (y≠("":Str)) || decide (ws≠[])) L2.length (λy n=>m y (AOC.mp n).1) (aa.filter _) (Cf (List.length_filter_le _ _) ae) ?_ (o.trans (Ac _ _)) AW
   by_cases hw:ws=[]
   .refine .inr λy n=>?_;have:=(AOC.mp n).2;simpa[hw] using this
   .exact .inl hw
 rintro L2 b kt m aa ae ar d ac;have i:=CP d aj;have ai:=CP d ad;refine BW (λf=>∀ps,UE ws b ps->f [some (.ref kd),some (.ref l),some (.ref kt),some (.tup ps)] L2) (λf aq=>?_) ?_
 .rfl';refine BZ ai e1 ?_;rfl';exact AF0 _ i ac s m (by omega) ar λps c=>aq ps c
 rintro ps c;rfl';refine BZ ai e2 ?_;rfl';rw[ay];refine AF7 _ (AQ ac) AW (by omega) m (by omega) (λp hp=>(c.1 p hp).piece s) c.2.1 c.2.2.2 λexs ak aw ke L4 t au=>?_;have al:=(Ac _ _).trans t;rfl';refine⟨rfl,q ws ps exs _ l ke _ s ⟨c.1,c.2.2⟩ aw (by rw[ak];exact aa) ?_ ((h.trans d).trans (al.trans (Ac _ _))) (AQ (CP al i)) (AQ au) AW⟩;have:=congrArg List.length ak;simp at this;omega
abbrev Ss:List D:=[.str "small",.str "great",.str "figure",.str "mark",.str "any"]
abbrev Oh:List D:=[.str "ahead",.str "behind"]
abbrev p1(k:D):List D:=[D.int 1,.int 2,.int (-1),.int (-2)].flatMap λn=>Oh.flatMap λe=>[D.tup [k,n,e]]
abbrev Cv:List D:=Ss.flatMap p1
def SU:∀p∈Cv,CQ p:=by
 intro p f;simp only[Cv,p1,Ss,Oh,Dz,AY,Dq,or_false] at f;obtain⟨k,g,n,d,e,j,rfl⟩:=f
 have b:∃s:Str,k=.str s/\s∈([("small":Str),"great","figure","mark","any"]:AOt):=by rcases g with rfl|rfl|rfl|rfl|rfl <;> exact⟨_,rfl,by decide +kernel⟩
 have c:∃i:Int,n=.int i/\MB i:=by
  rcases d with rfl|rfl|rfl|rfl
  .exact⟨_,rfl,.inl rfl⟩
  .exact⟨_,rfl,.inr (.inl rfl)⟩
  .exact⟨_,rfl,.inr (.inr (.inl rfl))⟩
  .exact⟨_,rfl,.inr (.inr (.inr rfl))⟩
 have l:∃s:Str,e=.str s/\(s = "ahead"\/s = "behind"):=by
  clear g d b c;rcases j with rfl|rfl
  .exact⟨_,rfl,.inl rfl⟩
  .exact⟨_,rfl,.inr rfl⟩
 obtain⟨s,rfl,m⟩:=b;obtain⟨i,rfl,h⟩:=c;obtain⟨e,rfl,a⟩:=l;exact⟨s,i,e,rfl,h,a,m⟩
def SS:Cv.length=40:=by decide +kernel
def AIf{Q:APT}{L:AB}(h:∀d,d[L.length]?=some (.lst Cv)->L <+: d->Q (.ref L.length) d):W2 (Ku [] L) Q:=by
 unfold Ku;refine Fe rfl ?_;simp only[Pw,JO,JN,JM];rfl';refine Ro (λZ=>∃a b c,Z=[some (.ref L.length),a,b,c]) L.length 8 40 p1 AW ⟨none,none,none,rfl⟩ (λx _=>Ag _) (by decide) ?_ ?_
 .rintro x hx Z L1 acc1 ⟨a,b,c,rfl⟩ hkp hl hB;refine⟨rfl,?_⟩;rfl';refine Ro (λZ=>∃b c,Z=[some (.ref L.length),some x,b,c]) L.length 2 48 (λn=>Oh.flatMap λe=>[D.tup [x,n,e]]) hl ⟨_,_,rfl⟩ (λx _=>Ag _) (by show acc1.length+8<=48;omega) ?_ ?_
  .rintro n hn Z L2 acc2 ⟨b,c,rfl⟩ hkp2 hl2 hB2;refine⟨rfl,?_⟩;rfl';refine Ro (λZ=>∃c,Z=[some (.ref L.length),some x,some n,c]) L.length 1 50 (λe=>[D.tup [x,n,e]]) hl2 ⟨_,rfl⟩ (λx _=>Ag _) (by show acc2.length+2<=50;omega) ?_ ?_
   .rintro e he Z L3 acc3 ⟨c,rfl⟩ hkp3 hl3 hB3;refine⟨rfl,?_⟩;rfl';refine GJ hl3 (by omega) ?_;exact⟨⟨_,rfl⟩,.set _ _ _,Ci hl3⟩
   .rintro Z L3 ⟨c,rfl⟩ hkp3 hl3;exact⟨rfl,⟨_,_,rfl⟩,hkp3,hl3⟩
  .rintro Z L2 ⟨b,c,rfl⟩ hkp2 hl2;exact⟨rfl,⟨_,_,_,rfl⟩,hkp2,hl2⟩
 .rintro Z L1 ⟨a,b,c,rfl⟩ hkp hl;refine⟨rfl,?_⟩;rfl';exact⟨rfl,h _ hl (YC hkp)⟩
abbrev Ay(S:AOy)(L L':AB):Prop:=L.length<=L'.length/\∀j,j<L.length->j∉S->L'[j]?=L[j]?
def Ay.refl(S:AOy)(L:AB):Ay S L L:=⟨Ag _,λ_ _ _=>rfl⟩
def Ay.trans{S:AOy}{L c d:AB}(a:Ay S L c)(b:Ay S c d):Ay S L d:=⟨Cf a.1 b.1,λj e f=>by rw[b.2 j (DP e a.1) f,a.2 j e f]⟩
def Ay.app(S:AOy)(L M:AB):Ay S L (L++M):=⟨by simp,λj h _=>by rw[FK h]⟩
def Ay.set{S:AOy}{L a:AB}{k:Nat}{o:Ob}(h:Ay S L a)(d:k∈S\/L.length<=k):Ay S L (a.set k o):=⟨by rw[ANj];exact h.1,λj c b=>by
 rw[ER (λe=>by subst e;rcases d with z|z;exact b z;omega),h.2 j c b]⟩
def Ay.step{S d:AOy}{L c e:AB}(a:Ay S L c)(b:Ay d c e)(i:∀j∈d,j∈S\/L.length<=j):Ay S L e:=⟨Cf a.1 b.1,λj f g=>by
 rw[b.2 j (DP f a.1) (λz=>by rcases i j z with q|q;exact g q;omega),a.2 j f g]⟩
def Ay.get{S:AOy}{L L':AB}{j:Nat}{o:Ob}(h:Ay S L L')(n:j∉S)(e:L[j]?=some o):L'[j]?=some o:=by rw[h.2 j (Ax.mp e).1 n];exact e
def Ay.pre{L L':AB}(h:Ay [] L L'):L <+: L':=by rw[List.prefix_iff_getElem?];intro j a;rw[h.2 j a (by simp)];simp[a]
def Ay.of_pre{S:AOy}{L L':AB}(h:L <+: L'):Ay S L L':=by obtain⟨M,rfl⟩:=h;exact .app _ _ _
def Ay.mono{S a:AOy}{L L':AB}(h:Ay S L L')(i:∀j∈S,j∈a\/L.length<=j):Ay a L L':=⟨h.1,λj b c=>h.2 j b λz=>by rcases i j z with q|q;exact c q;omega⟩
def CY{L L':AB}{j:Nat}{o:Ob}(h:L <+: L')(e:L[j]?=some o):L'[j]?=some o:=by obtain⟨M,rfl⟩:=h;exact AQ e
def OQ{L:AB}{j k:Nat}{a o o':Ob}(d:L[j]?=some o)(b:L[k]?=some o')(c:o≠o'):(L.set j a)[k]?=some o':=by rw[ER (λe=>by subst e;rw[d] at b;exact c (Option.some.inj b))];exact b
def DR{L:AB}{j:Nat}{o:Ob}(h:L[j]?=some o):j<L.length:=(Ax.mp h).1
def Hv{ok:AB->Bool}{g:GF}{m:EF}{c:AB}{Q:AB->Prop}(P:Fm->Prop)(f:D->D){a:List D}{Z:Fm}(l:∀b,ok (c++[.lst b])=true)(p:P Z)(hz:a.length<=16777216)
  (h:∀x∈a,∀Z,P Z->W1 (g x Z) λn=>P n/\∀b,W2 (m n (c++[.lst b])) λd r=>r=c++[.lst b]/\d=f x)
  (q:Q (c++[.lst (a.map f)])):W1 (DK ok g By m c.length a Z (c++[.lst []])) Q:=by
 refine Ew (λj C=>∀Z,P Z->C Z (c++[Ob.lst ((a.take j).map f)])) a 0 Z _ (λC k=>k _ p) ?_ ?_
 .rintro i x e C C' fi kk Z p;refine fi _ _ (l _) ?_;have w:i<a.length:=(Ax.mp e).1;obtain⟨n,t,o,u⟩:=h x (BY e) Z p;obtain⟨d,r,s,rfl,rfl⟩:=u ((a.take (0+i)).map f);refine⟨n,t,true,_,rfl,f x,_,s,(a.take (0+i)).map f,by simp,by simp;omega,Do (kk _ o) ?_⟩;have v:a.take (0+i+1)=a.take (0+i)++[x]:=by rw[BM,Gw,e];rfl
  rw[v,Cg];simp
 .rintro C' fi Z _;exact fi _ _ (l _) (by simpa using q)
def Fz{U:Type}{xs:List U}{i:Nat}{x:U}(h:xs[i]?=some x):xs.take (0+i+1)=xs.take (0+i)++[x]:=by rw[BM,Gw,h];rfl
abbrev Eb(d:Str)(xs ys:List D):List D:=xs.flatMap λx=>ys.map λy=>.tup [.str d,x,y]
def Iw(d:Str)(xs a:List D):(Eb d xs a).length=xs.length*a.length:=by
 unfold Eb
 induction xs with
 |nil=>simp
 |cons x xs b=>rw[EA,CG,b,AZ,Dm,ANK];omega
def AIJ{Q:APT}{L:AB}{d:Str}{a b:Nat}{xs f:List D}(k:L[a]?=some (.lst xs))(o:L[b]?=some (.lst f))(hz:xs.length*f.length<=10000000)(p:f.length<=1000000)
  (h:∀l,L <+: l->l[L.length]?=some (.lst (Eb d xs f))->Q (.ref L.length) l):W2 (Kl [.str d,.ref a,.ref b] L) Q:=by
 unfold Kl;refine Fe rfl ?_;unfold Rl;have q:=DR k;have s:=DR o;rfl';refine CN (λj g=>∀L':AB,L <+: L'->L'[L.length]?=some (.lst (Eb d (xs.take j) f))->∀e,g [some (.str d),some (.ref a),some (.ref b),some (.ref L.length),e] L') _ 0 _ _ (λg c=>c _ (Ac _ _) AW none) ?_ ?_
 .rintro i x hx g Cy fz1 c L' hp hl e;refine fz1 _ _ (decide_eq_true (CY hp k)) ?_;have m:=CY hp o;have t:i<xs.length:=(Ax.mp hx).1;rfl';refine Hv (λZ=>∃e,Z=[e,some (.str d),some x]) (λy=>.tup [.str d,x,y]) (λn=>decide_eq_true (AQ m)) ⟨_,rfl⟩ (by omega) ?_ ?_
  .rintro y p Z ⟨e,rfl⟩;rfl';refine⟨⟨_,rfl⟩,λn=>?_⟩;rfl';exact⟨rfl,rfl⟩
  .rfl';have r:=DR hl;refine TY (AQ hl) AW ?_ ?_
   .rw[Iw,AZ,Eg];have u:min (0+i) xs.length*f.length<=xs.length*f.length:=ANa (Nat.min_le_right _ _) (Ag _);omega
   .rfl';refine c _ (Hz (hp.trans (Ac _ _)) (Ag _)) ?_ _;rw[Ci (AQ hl),Fz hx];unfold Eb;rw[ANb];simp
 .rintro Cy fz1 L' hp hl e;refine fz1 _ _ (decide_eq_true (CY hp k)) ?_;rfl';refine⟨rfl,h _ hp ?_⟩;simpa using hl
abbrev HC(w:Str):D:=.tup [.str "word",.str w]
abbrev Di:AOt:=["copy","raise","sink"]
def Nq{kvs:List (NK×D)}{k:NK}{d:D}{ep:Nat}(h:k∉kvs.map (·.1)):DQ kvs k d=kvs++[(k,d)]/\epN kvs k ep=ep+1:=by
 have:(kvs.any λa=>decide (a.1=k))=false:=by rw[AOB];intro b;obtain⟨x,c,e⟩:=List.any_eq_true.mp b;exact h (by rw[<-of_decide_eq_true e];exact Bw c)
 unfold DQ epN;rw[this];exact⟨rfl,rfl⟩
def AGC{kvs:List (NK×D)}{k:NK}(h:k∉kvs.map (·.1)):Bo kvs k=none:=by
 unfold Bo;rw[AON.mpr]
 .rfl
 .intro x hx hd;exact h (by rw[<-of_decide_eq_true hd];exact Bw hx)
def OH{kvs:List (NK×D)}{i:Nat}{k:NK}{d:D}(a:(kvs.map (·.1)).Nodup)(h:kvs[i]?=some (k,d)):Bo kvs k=some d:=by
 induction kvs generalizing i with
 |nil=>simp at h
 |cons x g j =>
  rw[Al,Gy] at a;unfold Bo
  cases i with
  |zero =>
   simp at h;subst h;simp
  |succ i =>
   have c:g[i]?=some (k,d):=by simpa using h
   have b:x.1≠k:=λe=>a.1 (by rw[e];exact Bw (f:=λz:NK×D=>z.1) (BY c));rw[Fd,decide_eq_false b];exact j a.2 c
abbrev EN(L:AB)(r:Nat)(w:Int)(a:Nat)(kvs:List (NK×D))(ep:Nat):Prop:=L[r]?=some (.ins AO2 [(AO3,.int w),(AO6,.ref a)])/\L[a]?=some (.dt kvs ep)
def Se{Q:APT}{L:AB}{k:Nat}{w:Int}(c:L[k]?=some (.ins AO2 []))(h:∀b,EN b k w L.length [] 0->b.length=L.length+1->Ay [k] L b->Q .non b):W2 (zp [.ref k,.int w] L) Q:=by
 unfold zp;refine Kx rfl ?_;unfold QF;have g:=DR c;rfl';have e:(L.set k (.ins AO2 (EW AO3 (.int w) [])))[k]?=some (.ins AO2 [(AO3,.int w)]):=Ci c;refine Yk (AQ e) rfl rfl ?_;rfl'
 have d:(((L.set k (.ins AO2 (EW AO3 (.int w) [])))++[Ob.dt [] 0]).set k (.ins AO2 (EW AO6 (.ref (L.set k (.ins AO2 (EW AO3 (.int w) []))).length) [(AO3,.int w)])))[k]?=some (.ins AO2 [(AO3,.int w),(AO6,.ref L.length)]):=by rw[Ci (AQ e),ANj];rfl
 refine⟨λf=>?_,h _ ⟨d,?_⟩ (by simp) ?_⟩
 .have:=CY f c;rw[d] at this;cases this
 .rw[ER (by omega)];have:=AW (L:=L.set k (.ins AO2 (EW AO3 (.int w) []))) (a:=Ob.dt [] 0)
  rwa [ANj] at this
 .exact((((Ay.refl _ _).set (.inl (by simp))).trans (.app _ _ _)).set (.inl (by simp)))
abbrev Nj(W:D)(g m nd nn rt:Nat):List (Str×D):=[(AO7,W),(AO4,.ref g),(AO9,.ref m),(AO5,.ref nd),(APA,.ref nn),(APB,.ref rt)]
abbrev Av(d:D):NK:=(dNK d).getD []
def LR{d:D}(h:(dNK d).isSome=true):dNK d=some (Av d):=by
 unfold Av
 cases e:dNK d with
 |none=>rw[e] at h;cases h
 |some k=>rfl
def Ia{U β:Type}{f:U->β}:∀{l:List U},(l.map f).Nodup->∀{a b},a∈l->b∈l->f a=f b->a=b
 |[],_,_,_,h,_,_=>nomatch h
 |x::l,h,a,b,ha,hb,e=>by
  rw[Al,Gy] at h;rcases AY.mp ha with c|c
  .rcases AY.mp hb with hb'|hb'
   .rw[c,hb']
   .exact absurd (by rw[<-c,e];exact Bw hb') h.1
  .rcases AY.mp hb with hb'|hb'
   .exact absurd (by rw[<-hb',<-e];exact Bw c) h.1
   .exact Ia h.2 c hb' e
structure KD {κ:Type} (kd:κ->D):Prop where
 key:∀a,dNK (kd a)=some (Av (kd a))
 inj:∀a b,kd a=kd b->a=b
def KD.kf{κ:Type}{c:κ->D}(K:KD c){a b:κ}(h:Av (c a)=Av (c b)):a=b :=
 K.inj a b ((Jk (K.key a)).trans (by rw[h];exact(Jk (K.key b)).symm))
def KD.nk{κ:Type}{b:κ->D}(K:KD b)(a:κ):EG (Av (b a))=b a:=(Jk (K.key a)).symm
abbrev Ak(xs:AOt):D:=.tup (xs.map D.str)
abbrev ET(xs:AOz):D:=.tup (xs.map D.int)
def OC{U β:Type}{f:U->β}(d:∀a b,f a=f b->a=b):∀{xs c:List U},xs.map f=c.map f->xs=c
 |[],[],_=>rfl
 |[],_::_,h=>by cases h
 |_::_,[],h=>by cases h
 |x::xs,y::c,h=>by
  rw[Al,Al] at h;have e:=List.cons.inj h;rw[d _ _ e.1,OC d e.2]
def DJ:KD Ak:=⟨λa=>LR (by
  unfold Ak;show(GP (a.map D.str)).isSome=true
  induction a with
  |nil=>rfl
  |cons x a c =>
   rw[Al];show((Jl (.str x)).bind λk=>(GP (a.map D.str)).map (k::·)).isSome=true
   cases e:GP (a.map D.str) with
   |none=>rw[e] at c;cases c
   |some y=>rfl),λa b h=>OC (λ_ _ e=>D.str.inj e) (D.tup.inj h)⟩
def Ig:KD ET:=⟨λa=>LR (by
  unfold ET;show(GP (a.map D.int)).isSome=true
  induction a with
  |nil=>rfl
  |cons x a c =>
   rw[Al];show((Jl (.int x)).bind λk=>(GP (a.map D.int)).map (k::·)).isSome=true
   cases e:GP (a.map D.int) with
   |none=>rw[e] at c;cases c
   |some y=>rfl),λa b h=>OC (λ_ _ e=>D.int.inj e) (D.tup.inj h)⟩
abbrev BU{κ:Type}[DecidableEq κ](c:List (κ×List D))(k:κ)(ds:List D):List (κ×List D):=if k∈c.map (·.1) then c.map (λe=>if e.1=k then (e.1,e.2++ds) else e) else c++[(k,ds)]
abbrev DC{κ:Type}[DecidableEq κ](c:List (κ×List D))(k:κ):Option (List D):=(c.find? λe=>decide (e.1=k)).map (·.2)
abbrev cont{κ:Type}(es:List (κ×Nat×List D)):List (κ×List D):=es.map λe=>(e.1,e.2.2)
abbrev BV{κ:Type}(es:List (κ×Nat×List D)):AOy:=es.map (·.2.1)
abbrev CV{κ:Type}(kd:κ->D)(es:List (κ×Nat×List D)):List (NK×D):=es.map λe=>(Av (kd e.1),D.ref e.2.1)
structure DL {κ:Type} (kd:κ->D) (L:AB) (g:Nat) (es:List (κ×Nat×List D)):Prop where
 at_:∃ep,L[g]?=some (.dt (CV kd es) ep)
 it:∀e∈es,L[e.2.1]?=some (.lst e.2.2)
 nd:(BV es).Nodup
 kn:(es.map (·.1)).Nodup
section
variable {κ:Type}[DecidableEq κ]{kd:κ->D}{L L':AB}{g:Nat}{es:List (κ×Nat×List D)}
def Lm(es:List (κ×Nat×List D)):(cont es).map (·.1)=es.map (·.1):=by unfold cont;rw[Bx];rfl
def Gp{e:κ×Nat×List D}(h:e∈es):e.2.1∈BV es:=Bw h
def DL.same(h:DL kd L g es)(c:L'[g]?=L[g]?)(b:∀q∈BV es,L'[q]?=L[q]?):DL kd L' g es :=
 ⟨let ⟨ep,e⟩:=h.at_;⟨ep,c.trans e⟩,λe a=>(b _ (Gp a)).trans (h.it e a),h.nd,h.kn⟩
def DL.lt(h:DL kd L g es){q:Nat}(b:q∈BV es):q<L.length:=by obtain⟨e,a,rfl⟩:=Ap.mp b;exact DR (h.it e a)
def DL.glt(h:DL kd L g es):g<L.length:=by obtain⟨a,e⟩:=h.at_;exact DR e
def DL.keep{S:AOy}(h:DL kd L g es)(k:Ay S L L')(c:g∉S)(b:∀q∈BV es,q∉S):DL kd L' g es:=h.same (k.2 g h.glt c) λq a=>k.2 q (h.lt a) (b q a)
def DL.pre(h:DL kd L g es)(p:L <+: L'):DL kd L' g es:=h.keep (S:=[]) (.of_pre p) (by simp) (by simp)
def Wk(K:KD kd):∀{es a:List (κ×Nat×List D)},CV kd es=CV kd a->(∀e∈es,L[e.2.1]?=some (.lst e.2.2))->(∀e∈a,L[e.2.1]?=some (.lst e.2.2))->es=a
 |[],[],_,_,_=>rfl
 |[],_::_,h,_,_=>by cases h
 |_::_,[],h,_,_=>by cases h
 |(k,q,ds)::es,(k',q',ds')::a,h,h1,h2=>by
  unfold CV at h;rw[Al,Al] at h;have b:=List.cons.inj h;have j:=K.kf (congrArg Prod.fst b.1);have i:q=q':=by have:=congrArg Prod.snd b.1;exact D.ref.inj this
  have f:=h1 _ BC;have d:=h2 _ BC;subst j i;rw[f] at d;have g:ds=ds':=Ob.lst.inj (Option.some.inj d);subst g;rw[Wk K b.2 (λe c=>h1 e (BD _ c)) λe c=>h2 e (BD _ c)]
def DL.uniq(K:KD kd){a:List (κ×Nat×List D)}(h:DL kd L g es)(h':DL kd L g a):es=a:=by obtain⟨d,e⟩:=h.at_;obtain⟨c,b⟩:=h'.at_;rw[e] at b;exact Wk K (Ob.dt.inj (Option.some.inj b)).1 h.it h'.it
def FA{β:Type}{es:List (κ×β)}{k:κ}(h:k∈es.map (·.1)):∃e,es.find? (λe=>decide (e.1=k))=some e/\e∈es/\e.1=k:=by
 cases a:es.find? (λe=>decide (e.1=k)) with
 |none =>
  obtain⟨e,b,rfl⟩:=Ap.mp h;have:=AON.mp a e b;simp at this
 |some e=>exact⟨e,rfl,AOb a,by have:=List.find?_some a;simpa using this⟩
def AHS{β:Type}{es:List (κ×β)}{k:κ}(h:k∉es.map (·.1)):es.find? (λe=>decide (e.1=k))=none:=by rw[AON];intro e a b;exact h (by rw[<-of_decide_eq_true b];exact Bw a)
def OG(K:KD kd)(es:List (κ×Nat×List D))(k:κ):Bo (CV kd es) (Av (kd k))=(es.find? λe=>decide (e.1=k)).map λe=>D.ref e.2.1:=by
 unfold Bo CV
 induction es with
 |nil=>rfl
 |cons e es a =>
  rw[Al,Fd,Fd]
  by_cases h:e.1=k
  .subst h;simp
  .rw[decide_eq_false h,decide_eq_false (λz=>h (K.kf z))];exact a
def AHw(es:List (κ×Nat×List D))(k:κ):(cont es).find? (λe=>decide (e.1=k))=(es.find? λe=>decide (e.1=k)).map λe=>(e.1,e.2.2):=by unfold cont;rw[List.find?_map];rfl
def DL.get(K:KD kd)(h:DL kd L g es){k:κ}{ds:List D}(e:DC (cont es) k=some ds):∃q,Bo (CV kd es) (Av (kd k))=some (.ref q)/\L[q]?=some (.lst ds):=by
 unfold DC at e;rw[AHw] at e;rw[OG K]
 cases a:es.find? (λe=>decide (e.1=k)) with
 |none=>rw[a] at e;cases e
 |some x =>
  rw[a] at e;have b:x.2.2=ds:=Option.some.inj e;exact⟨x.2.1,rfl,by rw[<-b];exact h.it x (AOb a)⟩
def AGD(K:KD kd)(es:List (κ×Nat×List D))(k:κ):(Bo (CV kd es) (Av (kd k))).isSome=decide (k∈(cont es).map (·.1)):=by
 rw[OG K,Lm]
 by_cases h:k∈es.map (·.1)
 .obtain⟨e,he,_⟩:=FA h;rw[he,decide_eq_true h];rfl
 .rw[AHS h,decide_eq_false h];rfl
def AAJ(c:List (κ×List D)){k:κ}(h:k∈c.map (·.1)):BU c k []=c:=by
 unfold BU;rw[if_pos h]
 conv=>rhs;rw[<-AN8 c]
 apply Ga;intro e _
 by_cases z:e.1=k
 .rw[if_pos z];simp
 .rw[if_neg z];rfl
def AAK(c:List (κ×List D))(k:κ)(ds:List D):BU (BU c k []) k ds=BU c k ds:=by
 by_cases h:k∈c.map (·.1)
 .rw[AAJ c h]
 .have e1:BU c k []=c++[(k,[])]:=by unfold BU;rw[if_neg h]
  have b:BU c k ds=c++[(k,ds)]:=by unfold BU;rw[if_neg h]
  rw[e1,b];unfold BU;rw[if_pos (by simp),Cg]
  congr 1
  .conv=>rhs;rw[<-AN8 c]
   apply Ga;intro e a;rw[if_neg (λz=>h (by rw[<-z];exact Bw a))];rfl
  .simp
def UA(c:List (κ×List D))(k:κ)(ds:List D):(BU c k ds).map (·.1)=if k∈c.map (·.1) then c.map (·.1) else c.map (·.1)++[k]:=by
 unfold BU
 by_cases h:k∈c.map (·.1)
 .rw[if_pos h,if_pos h,Bx];apply Ga;intro e _
  show(if e.1=k then (e.1,e.2++ds) else e).1=e.1
  split <;> rfl
 .rw[if_neg h,if_neg h,Cg];rfl
def Lz{c:List (κ×List D)}{k:κ}{ds:List D}(h:(c.map (·.1)).Nodup):((BU c k ds).map (·.1)).Nodup:=by
 rw[UA]
 by_cases z:k∈c.map (·.1)
 .rw[if_pos z];exact h
 .rw[if_neg z,Gz]
  exact⟨h,by simp,λa f b d e=>z (by   have:b=k:=by simpa using d
                                      rw[<-this,<-e];exact f)⟩
def Ix{c:List (κ×List D)}{k a:κ}{ds ps:List D}(h:(a,ps)∈BU c k ds):(a,ps)∈c\/a=k/\((ps=ds)\/∃b,(k,b)∈c/\ps=b++ds):=by
 unfold BU at h
 by_cases z:k∈c.map (·.1)
 .rw[if_pos z] at h;obtain⟨e,d,h⟩:=Ap.mp h
  by_cases y:e.1=k
  .rw[if_pos y] at h;have f:=congrArg Prod.fst h;have g:=congrArg Prod.snd h;simp only at f g;refine .inr ⟨by rw[<-f,y],.inr ⟨e.2,?_,g.symm⟩⟩;rw[<-y];exact d
  .rw[if_neg y] at h;rw[<-h];exact .inl d
 .rw[if_neg z] at h;rcases CF.mp h with h|h
  .exact .inl h
  .have h':(a,ps)=(k,ds):=by simpa using h
   cases h';exact .inr ⟨rfl,.inl rfl⟩
abbrev Dw(c:List (κ×List D))(n b:Nat):Prop:=c.length<=n/\∀e∈c,e.2.length<=b
def Dw.add{c:List (κ×List D)}{n b m:Nat}{k:κ}{ds:List D}(h:Dw c n b)(e:ds.length<=m):Dw (BU c k ds) (n+1) (b+m):=by
 refine⟨?_,λ⟨d,ps⟩ a=>?_⟩
 .have:=congrArg List.length (UA c k ds);rw[AZ] at this;rw[this];have f:=h.1;split
  .rw[AZ];omega
  .rw[CG,AZ];simp;omega
 .rcases Ix a with h'|⟨_,h'|⟨qs,h',h2⟩⟩
  .have:=h.2 _ h';simp only at this ⊢;omega
  .simp only;rw[h'];omega
  .have:=h.2 _ h';simp only at this ⊢;rw[h2,CG];omega
def Dw.mono{c:List (κ×List D)}{n b a d:Nat}(h:Dw c n b)(g:n<=a)(i:b<=d):Dw c a d:=⟨Cf h.1 g,λe f=>Cf (h.2 e f) i⟩
def Iv(es:List (κ×Nat×List D)):(cont es).length=es.length:=by unfold cont;rw[AZ]
def ZP{Q:APT}(K:KD kd){k:κ}{q:Nat}(h:DL kd L g es)(hz:es.length<16777216)(w:L[q]?=some (.lst []))(r:q∉BV es)
  (p:∀n v j s,DL kd n g j->(k,v,s)∈j->cont j=BU (cont es) k []->(∀x∈BV j,x∈BV es\/x=q)->Ay [g] L n->n.length=L.length->Q (.ref v) n):W2 (Hl (.ref g) [kd k,.ref q] L) Q:=by
 obtain⟨o,c⟩:=h.at_
 by_cases m:k∈es.map (·.1)
 .obtain⟨e,hf,f,hek⟩:=FA m;refine AGv c (K.key _) (d:=.ref e.2.1) (by rw[OG K,hf];rfl) ?_;refine p L e.2.1 es e.2.2 h (by rw[<-hek];exact f) ?_ (λx i=>.inl i) (.refl _ _) rfl;rw[AAJ _ (by rw[Lm];exact m)]
 .have hnk:Av (kd k)∉(CV kd es).map (·.1):=λz=>by
   unfold CV at z;rw[Bx] at z;obtain⟨e,f,y⟩:=Ap.mp z;exact m (by rw[<-K.kf y];exact Bw f)
  refine AGw c (K.key _) (AGC hnk) (by unfold CV;rw[AZ];exact hz) ?_;have l:=λd o=>Nq (d:=d) (ep:=o) hnk;rw[(l _ 0).1,(l .non _).2];have t:g≠q:=λz=>by rw[z,w] at c;cases c
  have er:CV kd es++[(Av (kd k),D.ref q)]=CV kd (es++[(k,q,[])]):=by unfold CV;rw[Cg];rfl
  rw[er];refine p _ q (es++[(k,q,[])]) [] ⟨⟨_,Ci c⟩,λe f=>?_,?_,?_⟩ (by simp) ?_ (λx i=>?_) ((Ay.refl _ _).set (.inl (by simp))) (by simp)
  .rcases CF.mp f with f|f
   .exact OQ c (h.it e f) (by simp)
   .have:e=(k,q,[]):=by simpa using f
    subst this;exact Fh t w
  .unfold BV;rw[Cg,Gz]
   exact⟨h.nd,by simp,λa c b u z=>r (by     have:b=q:=by simpa using u
                                            rw[<-this,<-z];exact c)⟩
  .rw[Cg,Gz]
   exact⟨h.kn,by simp,λa c b u z=>m (by    have:b=k:=by simpa using u
                                           rw[<-this,<-z];exact c)⟩
  .unfold BU;rw[Lm,if_neg m];unfold cont;rw[Cg];rfl
  .unfold BV at i;rw[Cg] at i;rcases CF.mp i with i|i
   .exact .inl i
   .exact .inr (by simpa using i)
def DL.grow{k:κ}{q:Nat}{a ds:List D}(h:DL kd L g es)(i:(k,q,a)∈es):∃c,DL kd (L.set q (.lst (a++ds))) g c/\cont c=BU (cont es) k ds/\BV c=BV es:=by
 obtain⟨n,m⟩:=h.at_;have j:q≠g:=λz=>by have:=h.it _ i;simp only at this;rw[z,m] at this;cases this
 have d:CV kd (es.map λe=>if e.1=k then (e.1,e.2.1,e.2.2++ds) else e)=CV kd es:=by
  unfold CV;rw[Bx];apply Ga;intro e _
  show(Av (kd (if e.1=k then (e.1,e.2.1,e.2.2++ds) else e).1),D.ref (if e.1=k then (e.1,e.2.1,e.2.2++ds) else e).2.1)=_
  split <;> rfl
 have b:BV (es.map λe=>if e.1=k then (e.1,e.2.1,e.2.2++ds) else e)=BV es:=by
  unfold BV;rw[Bx];apply Ga;intro e _
  show(if e.1=k then (e.1,e.2.1,e.2.2++ds) else e).2.1=_
  split <;> rfl
 refine⟨es.map λe=>if e.1=k then (e.1,e.2.1,e.2.2++ds) else e,⟨⟨n,by rw[d];exact Fh j m⟩,λe o=>?_,by rw[b];exact h.nd,?_⟩,?_,b⟩
 .obtain⟨e0,he0,rfl⟩:=Ap.mp o
  by_cases z:e0.1=k
  .rw[if_pos z];have:e0=(k,q,a):=Ia (f:=λe=>e.1) h.kn he0 i z;subst this;exact Ci (h.it _ i)
  .rw[if_neg z];refine Fh (λy=>z ?_) (h.it e0 he0);have:(k,q,a)=e0:=Ia (l:=es) (f:=λe:κ×Nat×List D=>e.2.1) (show(es.map λe=>e.2.1).Nodup from h.nd) i he0 y;rw[<-this]
 .rw[Bx]
  have:((λe:κ×Nat×List D=>e.1)∘λe=>if e.1=k then (e.1,e.2.1,e.2.2++ds) else e)=λe=>e.1:=by
   funext e
   show(if e.1=k then (e.1,e.2.1,e.2.2++ds) else e).1=e.1
   split <;> rfl
  rw[this];exact h.kn
 .unfold BU;rw[if_pos (by rw[Lm];exact Bw (f:=λe:κ×Nat×List D=>e.1) i)];unfold cont;rw[Bx,Bx];apply Ga;intro e _
  show((if e.1=k then (e.1,e.2.1,e.2.2++ds) else e).1,(if e.1=k then (e.1,e.2.1,e.2.2++ds) else e).2.2)=if e.1=k then (e.1,e.2.2++ds) else (e.1,e.2.2)
  split <;> rfl
end
def LP{U β:Type}(f:U->β)(xs:List U)(i:Nat)(a:U)(b:β)(h:i<xs.length):(xs.map f)[i]?.getD b=f (xs.getD i a):=by simp[h]
def Qm{xs a:AOt}{i:Nat}{x:D}(d:a.length=xs.length)(h:(ES (xs.map D.str).length [xs.map D.str,a.map D.str])[i]?=some x):i<xs.length/\x=.tup [.str (xs.getD i ""),.str (a.getD i "")]:=by
 unfold ES at h;rw[As,AZ] at h
 by_cases b:i<xs.length
 .rw[ANm b] at h;refine⟨b,?_⟩;have c:=Option.some.inj h;rw[<-c];simp only[Al,ANk];rw[LP D.str xs i "" .non b,LP D.str a i "" .non (by omega)]
 .rw[ANS (by simp;omega)] at h;cases h
def NC(n:Nat)(a:List (List D)):(ES n a).length=n:=by unfold ES;simp
abbrev IG(as w:AOt):Bool:=(List.range as.length).all λi=>GH (as.getD i "") (w.getD i "")
def ABo{Q:APT}{L:AB}{as w:AOt}(f:w.length=as.length)(hz:as.length<=1000)(h:Q (.bl (IG as w)) L):W2 (Kn [Ak as,Ak w] L) Q:=by
 unfold Kn;refine BP rfl ?_;unfold Pa Ak;rfl';refine⟨as.map D.str,[w.map D.str],rfl,⟨by simp[f],by simp,rfl⟩,?_⟩
 refine Hv (λZ=>∃j e,Z=[j,e]) (λx=>match x with|.tup [.str a,.str b]=>.bl (GH a b)|_=>.non) (λg=>decide_eq_true rfl) ⟨none,none,rfl⟩ (by rw[NC,AZ];omega) ?_ ?_
 .rintro x c Z ⟨j,e,rfl⟩;obtain⟨i,k,c⟩:=AN3 c;obtain⟨d,rfl⟩:=Qm f (x:=x) (i:=i) (by rw[List.getElem?_eq_getElem k,c]);rfl';refine⟨⟨_,_,rfl⟩,λg=>?_⟩;rfl';exact⟨rfl,rfl⟩
 .rfl'
  have m:(ES (as.map D.str).length [as.map D.str,w.map D.str]).map (λx=>match x with|.tup [.str a,.str b]=>D.bl (GH a b)|_=>.non)=((List.range as.length).map λi=>GH (as.getD i "") (w.getD i "")).map D.bl:=by
   apply ANz;intro i;rw[As,As,As]
   cases c:(ES (as.map D.str).length [as.map D.str,w.map D.str])[i]? with
   |none =>
    have:as.length<=i:=by have:=AOY.mp c;rw[NC,AZ] at this;exact this
    rw[ANS (by simp;exact this)];rfl
   |some x =>
    obtain⟨d,rfl⟩:=Qm f c;rw[ANm d];rfl
  rw[m]
  have e:∀l:List Bool,blsD (l.map D.bl)=some l:=λl=>by
   induction l with
   |nil=>rfl
   |cons x l n=>rw[Al];simp[blsD,n]
  refine Yn AW (e _) ?_;refine⟨rfl,Ac _ _,?_⟩;rw[List.all_map];exact h
abbrev Bb(w:AOt)(c:List (AOt×List D))(a:AOt×List D):List (AOt×List D):=if IG a.1 w=true then BU c a.1 a.2 else c
def AAL{Q:APT}{L:AB}{g p:Nat}{es:List (AOt×Nat×List D)}{as w:AOt}{ds:List D}(c:DL Ak L g es)(v:L[p]?=some (.lst ds))(ac:p∉BV es)(hl:w.length=as.length)(hn:as.length<=1000)
  (hz:es.length<16777216) (hb:∀e∈cont es,e.2.length+ds.length<=16777216) (hd:ds.length<=16777216)
  (h:∀i a,DL Ak i g a->cont a=Bb w (cont es) (as,ds)->(∀x∈BV a,x∈BV es\/L.length<=x)->Ay (g::BV es) L i->Q .non i):W2 (JI [.ref g,Ak w,Ak as,.ref p] L) Q:=by
 unfold JI;refine Kx rfl ?_;unfold PV;obtain⟨ad,ag⟩:=c.at_;rfl';refine ABo hl hn ?_
 by_cases hw:IG as w=true
 .rw[hw];rfl';refine ZP (q:=L.length) DJ (c.pre (Ac _ _)) hz AW (λz=>ANF _ (c.lt z)) λi q2 a s t l hc ha hk aa=>?_;have ae:=DR v
  have u:i[p]?=some (.lst ds):=hk.get (λz=>by
   have:p=g:=by simpa using z
   obtain⟨ep,e⟩:=c.at_
   rw[<-this,v] at e;cases e) (AQ v)
  refine Vq (t.it _ l) ?_;rfl';refine TY (t.it _ l) u ?_ ?_
  .have:(as,s)∈cont a:=Bw (f:=λe:AOt×Nat×List D=>(e.1,e.2.2)) l;rw[hc] at this;rcases Ix this with k|⟨_,k|⟨qs,k,o⟩⟩
   .exact hb _ k
   .rw[k];simpa using hd
   .rw[o];simpa using hb _ k
  .rfl';obtain⟨m,o,r,y⟩:=t.grow (ds:=ds) l
   have b:cont m=Bb w (cont es) (as,ds):=by rw[r,hc,AAK];unfold Bb;rw[if_pos hw]
   refine⟨λn=>?_,h _ m o b (λx d=>?_) ?_⟩
   .have e:=DL.uniq DJ (c.pre n) o;refine h L es c ?_ (λx d=>.inl d) (.refl _ _);rw[<-b,<-e]
   .rw[y] at d;rcases ha x d with z|z
    .exact .inl z
    .exact .inr (ANG z.symm)
   .have k1:Ay (g::BV es) L i:=(Ay.app _ _ _).step hk λj hj=>.inl (by simp at hj;simp[hj]);refine k1.set ?_;rcases ha q2 (Gp l) with z|z
    .exact .inl (BD _ z)
    .exact .inr (ANG z.symm)
 .rw[Bool.not_eq_true] at hw;rw[hw];rfl';have b:cont es=Bb w (cont es) (as,ds):=by unfold Bb;rw[if_neg (by simp[hw])]
  exact⟨λ_=>h L es c b (λx d=>.inl d) (.refl _ _),h L es c b (λx d=>.inl d) (.refl _ _)⟩
def ACq{Q:APT}{L:AB}{p:D}{y:Str}(j:y.length<=1000)(m:BH y)(f:CQ p)(h:Q (DG p y) L):W2 (zq [p,.str y] L) Q:=by
 obtain⟨b,g,a,rfl,l,k,_⟩:=f;obtain⟨d,c,n⟩:=Nm (λi=>EH b (sg y i)) y.cps.size l (decide (a = "behind"));simp only[LC,c,AOQ] at h;refine WW j ?_ h;rw[XX m];have e:(!decide (a = "ahead"))=decide (a = "behind"):=by rcases k with rfl|rfl <;> decide
 rw[e];exact c
abbrev Ow(ts:AOt):Prop:=(∀y∈ts,BH y/\y.length<=100)/\ts.length<=100
abbrev EU(ts:AOt)(p:D):Option (AOz):=Db (ts.map λy=>DG p y)
def LU:∀{xs:List D} {b:AOz},Db xs=some b->xs=b.map D.int
 |[],b,h=>by cases h;rfl
 |x::xs,b,h=>by
  cases x with
  |int s =>
   simp only[Db] at h
   cases e:Db xs with
   |none=>rw[e] at h;cases h
   |some a=>rw[e] at h;cases h;simp[<-LU e]
  |_=>simp[Db] at h
def YS:∀{xs:List D},(∀d∈xs,d=.non\/∃t,d=.int t)->DB .non xs=(Db xs).isNone
 |[],_=>rfl
 |x::xs,h=>by
  have a:=YS λd b=>h d (BD _ b);rcases h x BC with rfl|⟨t,rfl⟩
  .rfl
  .have:DB .non (.int t::xs)=DB .non xs:=rfl;rw[this,a];simp only[Db];cases Db xs <;> rfl
abbrev CA(ts:AOt)(c:List (AOz×List D))(p:D):List (AOz×List D):=match EU ts p with|some ks=>BU c ks [p]|none=>c
abbrev Bq(ts:AOt):List (AOz×List D):=Cv.foldl (CA ts) []
def SZ{ts:AOt}:∀(ps:List D) {c:List (AOz×List D)} {n b:Nat},Dw c n b->Dw (ps.foldl (CA ts) c) (n+ps.length) (b+ps.length)
 |[],c,n,b,h=>h
 |p::ps,c,n,b,h=>by
  have a:Dw (CA ts c p) (n+1) (b+1):=by
   unfold CA;split
   .exact h.add (by simp)
   .exact h.mono (by omega) (by omega)
  exact(SZ ps a).mono (by simp;omega) (by simp;omega)
def Lq{κ:Type}[DecidableEq κ]:Dw ([]:List (κ×List D)) 0 0:=⟨Ag _,(λ_ h=>(nomatch h))⟩
def Tb{U β:Type}{f:β->U->β}{xs:List U}{i:Nat}{x:U}{b:β}(h:xs[i]?=some x):(xs.take (0+i+1)).foldl f b=f ((xs.take (0+i)).foldl f b) x:=by rw[Fz h,AOR];rfl
def AIG{Q:APT}{L:AB}{tx:Nat}{ts:AOt}(ht:L[tx]?=some (.lst (ts.map D.str)))(ok:Ow ts)
  (h:∀o es,L <+: o->DL ET o L.length es->cont es=Bq ts->(∀x∈BV es,L.length<x)->Q (.ref L.length) o):W2 (Ko [.ref tx] L) Q:=by
 unfold Ko;refine Fe rfl ?_;unfold Pe;rfl';refine AIf λL1 h1 l=>?_;rfl';have ak:=DR h1;have al:L1[L.length]?=some (.dt [] 0):=CY l AW;have e0:(L++[Ob.dt [] 0]).length=L.length+1:=by simp
 have aq:=DR ht;refine CN (λj Cz=>∀L':AB,Ay [L.length] L1 L'->∀e1 e2,∀es,DL ET L' L.length es->cont es=(Cv.take j).foldl (CA ts) []->(∀x∈BV es,L1.length<=x)->Cz [some (.ref tx),some (.ref L.length),e1,e2] L') _ 0 _ _ (λCz c=>c _ (.refl _ _) none none [] ⟨⟨0,al⟩,(λ_ h=>(nomatch h)),Gx,Gx⟩ rfl (λ_ h=>(nomatch h))) ?_ ?_
 .rintro i x hx Cz Cy fz1 c L' hk e1 e2 es a hc ha;refine fz1 _ _ (decide_eq_true (hk.get (by simp) h1)) ?_;have ag:L'[tx]?=some (.lst (ts.map D.str)):=hk.get (by simp;omega) (CY l (AQ ht));have u:=SU x (BY hx);have hi:i<40:=by have:=(Ax.mp hx).1;rw[SS] at this;exact this
  have hb:Dw (cont es) 40 40:=by
   rw[hc];have:=SZ (ts:=ts) (Cv.take (0+i)) Lq;have hl:(Cv.take (0+i)).length<=40:=by rw[Eg,SS];omega
   exact this.mono (by omega) (by omega)
  rfl'
  refine Hv (λZ=>∃e,Z=[e,some x]) (λy=>match y with|.str s=>DG x s|_=>.non) (λam=>decide_eq_true (AQ ag)) ⟨_,rfl⟩ (by rw[AZ];have:=ok.2;omega) ?_ ?_
  .rintro y hy Z ⟨e,rfl⟩;obtain⟨s,hs,rfl⟩:=Ap.mp hy;rfl';refine⟨⟨_,rfl⟩,λam=>?_⟩;rfl';refine ACq (by have:=(ok.1 s hs).2;omega) (ok.1 s hs).1 u ?_;exact⟨rfl,rfl⟩
  .have em:(ts.map D.str).map (λy=>match y with|.str s=>DG x s|_=>.non)=ts.map λy=>DG x y:=by rw[Bx];rfl
   rw[em]
   have w:∀d∈ts.map (λy=>DG x y),d=.non\/∃t,d=.int t:=λd a=>by
    obtain⟨y,_,rfl⟩:=Ap.mp a;rcases Hw u y with e|⟨t,e,_⟩
    .exact .inl e
    .exact .inr ⟨t,e⟩
   rfl'
   refine OU (by
    rw[Bs,CM];refine⟨rfl,λd a=>?_⟩
    rcases w d a with rfl|⟨t,rfl⟩ <;> rfl) ?_
   rw[YS w];have hf:=Tb (f:=CA ts) (b:=[]) hx
   cases e3:Db (ts.map λy=>DG x y) with
   |none =>
    have e4:CA ts ((Cv.take (0+i)).foldl (CA ts) []) x=(Cv.take (0+i)).foldl (CA ts) []:=by unfold CA EU;rw[e3]
    rw[show(none:Option (AOz)).isNone=true from rfl];rfl';exact c _ (hk.trans (.app _ _ _)) _ _ es (a.pre (Ac _ _)) (by rw[hf,e4];exact hc) ha
   |some n =>
    have e4:CA ts ((Cv.take (0+i)).foldl (CA ts) []) x=BU ((Cv.take (0+i)).foldl (CA ts) []) n [x]:=by unfold CA EU;rw[e3]
    rw[show(some n).isNone=false from rfl,LU e3];obtain⟨av,ar⟩:=a.at_;rfl';have au:=hk.1;refine ZP (k:=n) (q:=(L'++[Ob.lst (n.map D.int)]).length) Ig ((a.pre (Ac _ [Ob.lst (n.map D.int)])).pre (Ac _ _)) (by have:=hb.1;rw[Iv] at this;omega) AW (λz=>by have:=a.lt z;simp at this;omega) λo q2 ad g h2 r v p ae ao=>?_;refine Vq (h2.it _ r) ?_;rfl';refine GJ (h2.it _ r) ?_ ?_
    .have:(n,g)∈cont ad:=Bw (f:=λe:AOz×Nat×List D=>(e.1,e.2.2)) r;rw[v] at this;have h9:g.length<=40+0:=(hb.add (m:=0) (ds:=[]) (k:=n) (Ag _)).2 _ this;show g.length<16777216;omega
    .rfl';obtain⟨ai,h3,aa,aj⟩:=h2.grow (ds:=[x]) r;have kk:Ay [L.length] L1 o:=((hk.trans (.app _ _ _)).trans (.app _ _ _)).trans ae
     have ac:L1.length<=q2:=by
      rcases p q2 (Gp r) with z|z
      .exact ha q2 z
      .rw[z];simp;omega
     refine c _ (kk.set (.inr ac)) _ _ ai h3 ?_ (λy hy=>?_)
     .rw[aa,v,AAK,hf,e4,hc]
     .rw[aj] at hy;rcases p y hy with z|z
      .exact ha y z
      .rw[z];simp;omega
 .rintro Cy fz1 L' hk e1 e2 es a hc ha;refine fz1 _ _ (decide_eq_true (hk.get (by simp) h1)) ?_;rfl';refine⟨rfl,h _ es ?_ a ?_ λx hx=>?_⟩
  .have:Ay [L.length] (L++[Ob.dt [] 0]) L':=(Ay.of_pre l).trans hk;exact Ay.pre (((Ay.app _ _ _).trans this).mono λj hj=>.inr (by simp at hj;omega))
  .rw[hc,BM,Dy];rfl
  .have:=ha x hx;omega
abbrev FD(ts:AOt)(ss ee:AOz):Bool:=(List.range ts.length).all λi=>decide (ss.getD i 0<ee.getD i 0)
abbrev Ea(ts:AOt)(ss ee:AOz)(n:Nat):AOt:=(List.range n).map λi=>Txt.slice (ts.getD i "") (some (ss.getD i 0)) (some (ee.getD i 0))
def ABL{ts:AOt}{a b:AOz}{i:Nat}{x:D}(e:a.length=ts.length)(f:b.length=ts.length)(h:(ES (ts.map D.str).length [ts.map D.str,a.map D.int,b.map D.int])[i]?=some x):i<ts.length/\x=.tup [.str (ts.getD i ""),.int (a.getD i 0),.int (b.getD i 0)]:=by
 unfold ES at h;rw[As,AZ] at h
 by_cases c:i<ts.length
 .rw[ANm c] at h;refine⟨c,?_⟩;have d:=Option.some.inj h;rw[<-d];simp only[Al,ANk];rw[LP D.str ts i "" .non c,LP D.int a i 0 .non (by omega),LP D.int b i 0 .non (by omega)]
 .rw[ANS (by simp;omega)] at h;cases h
def ACl{Q:APT}{L:AB}{f:Nat}{ts:AOt}{a b:AOz}(q:L[f]?=some (.lst (ts.map D.str)))(hz:ts.length<=1000)(r:a.length=ts.length)(s:b.length=ts.length)
  (v:FD ts a b=false->Q .non L) (t:FD ts a b=true->Q (.ref L.length) (L++[.lst ((Ea ts a b ts.length).map D.str)])):W2 (Km [.ref f,ET a,ET b] L) Q:=by
 unfold Km;refine ABu rfl ?_;unfold PN ET;rfl';have o:∀M:AB,M[f]?=some (.lst (ts.map D.str))->seqs [.ref f,.tup (a.map D.int),.tup (b.map D.int)] M=some [ts.map D.str,a.map D.int,b.map D.int]:=λM u=>by simp[seqs,Cq,u]
 refine⟨ts.map D.str,[a.map D.int,b.map D.int],o _ (AQ q),⟨by simp[r,s],by simp,rfl⟩,?_⟩;refine CN (λj h=>∀L':AB,L'=L++[Ob.lst ((Ea ts a b j).map D.str)]->(∀i,i<j->i<ts.length->a.getD i 0<b.getD i 0)->∀m g l,h [some (.ref f),some (.tup (a.map D.int)),some (.tup (b.map D.int)),some (.ref L.length),m,g,l] L') _ 0 _ _ (λh d=>d _ rfl (λi e=>(by omega)) none none none) ?_ ?_
 .rintro i x hx h Cy fz1 d L' rfl hlt m g l;refine fz1 _ _ (decide_eq_true (o _ (AQ q))) ?_;obtain⟨e,rfl⟩:=ABL r s hx;rfl';refine BR (λp=>?_) (λp=>?_)
  .rfl';refine⟨Ac _ _,λ_=>v ?_,λz=>by cases z⟩;rw[AOB];intro c;unfold FD at c;have:=CM.mp c i (CK.mpr e);have:=of_decide_eq_true this;omega
  .rfl';refine GJ AW (by unfold Ea;simp;omega) ?_;rfl';refine d _ ?_ (λk w n=>?_) _ _ _
   .have:Ea ts a b (0+i+1)=Ea ts a b (0+i)++[Txt.slice (ts.getD i "") (some (a.getD i 0)) (some (b.getD i 0))]:=by
     unfold Ea;rw[ANZ,Cg,BM];rfl
    rw[this,Cg];simp
   .by_cases z:k=i
    .subst z;omega
    .exact hlt k (by omega) n
 .rintro Cy fz1 L' rfl hlt m g l;refine fz1 _ _ (decide_eq_true (o _ (AQ q))) ?_;rw[NC,AZ,BM] at *;rfl';refine⟨Ac _ _,(λz=>by cases z),λ_=>t ?_⟩;unfold FD;rw[CM];exact λi e=>decide_eq_true (hlt i (CK.mp e) (CK.mp e))
def AHj{Q:APT}{L:AB}{d y:Str}(a:d∈Di)(b:BH y)(c:y.length<=1000)(h:Q (.str (EZ d y)) L):W2 (Kk [.str d,.str y] L) Q:=by
 unfold Kk;refine BP rfl ?_;unfold Rf;unfold EZ at h;simp only[Di,AY,Dq,or_false] at a;rcases a with rfl|rfl|rfl
 .rw[if_neg (by decide),if_neg (by decide)] at h;rfl';exact⟨rfl,AV _,h⟩
 .rw[if_pos rfl] at h;rfl';refine OS (by rw[Rw b];omega) ?_;exact⟨rfl,AV _,h⟩
 .rw[if_neg (by decide),if_pos rfl] at h;rfl';refine OS (by rw[So b];omega) ?_;exact⟨rfl,AV _,h⟩
abbrev Ce(ws ts:AOt):List (AOt×List D):=ws.map λw=>(ts.map (λ_=>w),[HC w])
abbrev GO(ts:AOt)(s e:AOz×List D)(d:Str):AOt×List D:=((Ea ts s.1 e.1 ts.length).map (EZ d),Eb d s.2 e.2)
abbrev CZ(ts:AOt)(s e:AOz×List D):List (AOt×List D):=if FD ts s.1 e.1=true then Di.map (GO ts s e) else []
abbrev Er(ts:AOt)(P:List (AOz×List D)):List (AOt×List D):=P.flatMap λs=>P.flatMap λe=>CZ ts s e
abbrev Ch(ws ts w:AOt):List (AOt×List D):=(Ce ws ts++Er ts (Bq ts)).foldl (Bb w) []
def OO{w:AOt}:∀(A:List (AOt×List D)) {c:List (AOt×List D)} {n b:Nat},Dw c n b->(∀a∈A,a.2.length<=1600)->Dw (A.foldl (Bb w) c) (n+A.length) (b+1600*A.length)
 |[],c,n,b,h,_=>h
 |a::A,c,n,b,h,hA=>by
  have d:Dw (Bb w c a) (n+1) (b+1600):=by
   unfold Bb;split
   .exact h.add (hA a BC)
   .exact h.mono (by omega) (by omega)
  exact(OO A d λx e=>hA x (BD _ e)).mono (by simp;omega) (by simp;omega)
def Nw(ts:AOt):Dw (Bq ts) 40 40:=by have:=SZ (ts:=ts) Cv Lq;rw[SS] at this;exact this.mono (by omega) (by omega)
def XA{ts:AOt}:∀(ps:List D) {c:List (AOz×List D)},(∀e∈c,e.1.length=ts.length)->∀e∈ps.foldl (CA ts) c,e.1.length=ts.length
 |[],c,h=>h
 |p::ps,c,h=>by
  refine XA ps ?_;unfold CA
  cases b:EU ts p with
  |none=>exact h
  |some f =>
   rintro⟨k,g⟩ d;rcases Ix d with a|⟨rfl,_⟩
   .exact h _ a
   .have:=congrArg List.length (LU b);simpa using this.symm
def Nv{ts:AOt}{e:AOz×List D}(h:e∈Bq ts):e.1.length=ts.length:=XA Cv (by simp) e h
def XO{ts:AOt}(s e:AOz×List D):(CZ ts s e).length<=3:=by
 unfold CZ;split
 .simp[Di]
 .simp
def Og{U β:Type}{f:U->List β}{m:Nat}:∀(l:List U),(∀x∈l,(f x).length<=m)->(l.flatMap f).length<=l.length*m
 |[],_=>by simp
 |x::l,h=>by
  rw[EA,CG,Dm,ANK];have b:=h x BC;have c:=Og l λy a=>h y (BD _ a);omega
def XN{ts:AOt}{P:List (AOz×List D)}(c:Dw P 40 40){s e:AOz×List D}(g:s∈P)(f:e∈P):∀a∈CZ ts s e,a.2.length<=1600:=by
 intro a b;unfold CZ at b;split at b
 .obtain⟨d,_,rfl⟩:=Ap.mp b;show(Eb d s.2 e.2).length<=1600;rw[Iw];exact ANa (c.2 s g) (c.2 e f)
 .cases b
def Su{κ:Type}{a:κ->D}(K:KD a)(es:List (κ×Nat×List D)):GD (CV a es)=es.map λe=>a e.1:=by unfold GD CV;rw[Bx];apply Ga;intro e _;exact K.nk e.1
def DL.look_mem{κ:Type}[DecidableEq κ]{a:κ->D}(K:KD a){L:AB}{g:Nat}{es:List (κ×Nat×List D)}(h:DL a L g es){e:κ×Nat×List D}(c:e∈es):Bo (CV a es) (Av (a e.1))=some (.ref e.2.1):=by rw[OG K];obtain⟨d,i,b,j⟩:=FA (Bw (f:=λe:κ×Nat×List D=>e.1) c);rw[i];have:d=e:=Ia (f:=λe=>e.1) h.kn b c j;rw[this];rfl
def AHr{ts:AOt}(ok:Ow ts)(b g:AOz){n:Nat}{y:Str}(h:y∈Ea ts b g n):BH y/\y.length<=100:=by
 unfold Ea at h;obtain⟨i,_,rfl⟩:=Ap.mp h
 by_cases a:i<ts.length
 .have hm:ts.getD i ""∈ts:=by simp[a]
  exact⟨(ok.1 _ hm).1.slice _ _,Cf (Txt.slice_le _ _ _) (ok.1 _ hm).2⟩
 .have e:ts.getD i "" = "":=by simp[Nat.le_of_not_lt a]
  rw[e];have d:BH "":=λc f=>by cases f
  exact⟨d.slice _ _,Cf (Txt.slice_le _ _ _) (by decide)⟩
def Ti(ts:AOt)(a b:AOz)(n:Nat):(Ea ts a b n).length=n:=by unfold Ea;simp
def AGs{Q:APT}{L:AB}{w tx:Nat}{ws ts wd:AOt}(hw:L[w]?=some (.lst (ws.map D.str)))(hl:ws.length<=6)(ht:L[tx]?=some (.lst (ts.map D.str)))(ok:Ow ts)(cw:wd.length=ts.length)
  (h:∀L2 l,L <+: L2->DL Ak L2 L.length l->cont l=Ch ws ts wd->(∀x∈BV l,L.length<x)->Q (.ref L.length) L2):W2 (Kj [.ref w,.ref tx,Ak wd] L) Q:=by
 unfold Kj;refine Fe rfl ?_;unfold RY;simp only[Ke];have f7:=DR hw;have f9:=DR ht;have fu:=ok.2;refine Nb (Na (ABw ?_));generalize av:L++[Ob.dt [] 0]=L1;have ff:L1.length=L.length+1:=by rw[<-av];simp
 have dh:L1[L.length]?=some (.dt [] 0):=by rw[<-av];exact AW
 have cu:L1[w]?=some (.lst (ws.map D.str)):=by rw[<-av];exact AQ hw
 have cq:L1[tx]?=some (.lst (ts.map D.str)):=by rw[<-av];exact AQ ht
 have b8:∀a∈Ce ws ts,a.2.length<=1600:=λa c=>by
  obtain⟨x,_,rfl⟩:=Ap.mp c;simp
 have f8:(Ce ws ts).length<=6:=by unfold Ce;rw[AZ];exact hl
 refine BW (λu=>∀n:AB,∀l,DL Ak n L.length l->cont l=(Ce ws ts).foldl (Bb wd) []->(∀x∈BV l,L1.length<=x)->Ay [L.length] L1 n->∀e,u [some (.ref w),some (.ref tx),some (Ak wd),some (.ref L.length),e,none,none,none,none,none,none] n) (λu dm=>?_) ?_
 .rfl';refine CN (λj u=>∀n:AB,∀l,DL Ak n L.length l->cont l=((Ce ws ts).take j).foldl (Bb wd) []->(∀x∈BV l,L1.length<=x)->Ay [L.length] L1 n->∀e,u [some (.ref w),some (.ref tx),some (Ak wd),some (.ref L.length),e,none,none,none,none,none,none] n) _ 0 _ _ (λu bh=>bh _ [] ⟨⟨0,dh⟩,(λ_ h=>(nomatch h)),Gx,Gx⟩ rfl (λ_ h=>(nomatch h)) (.refl _ _) none) ?_ ?_
  .rintro i x p u Cy fz2 bh n l v hc c r e;refine fz2 _ _ (decide_eq_true (r.get (by simp;omega) cu)) ?_;have bp:n[tx]?=some (.lst (ts.map D.str)):=r.get (by simp;omega) cq;rw[As] at p
   cases bj:ws[i]? with
   |none=>rw[bj] at p;cases p
   |some aa =>
    rw[bj] at p;cases p
    have hb:Dw (cont l) 6 9600:=by
     rw[hc];have:=OO (w:=wd) ((Ce ws ts).take (0+i)) Lq λa c=>b8 a (ANp c);have hl:((Ce ws ts).take (0+i)).length<=6:=by rw[Eg];omega
     exact this.mono (by omega) (by omega)
    rfl';refine Hv (λZ=>∃e,Z=[e,some (.str aa)]) (λ_=>.str aa) (λbt=>decide_eq_true (AQ bp)) ⟨_,rfl⟩ (by rw[AZ];omega) ?_ ?_
    .rintro y hy Z ⟨e,rfl⟩;rfl';refine⟨⟨_,rfl⟩,λbt=>?_⟩;rfl';exact⟨rfl,rfl⟩
    .have em:(ts.map D.str).map (λ_=>D.str aa)=(ts.map λ_=>aa).map D.str:=by rw[Bx,Bx];rfl
     rw[em];rfl';have eh:=r.1;refine AAL (as:=ts.map λ_=>aa) (w:=wd) (ds:=[.tup [.str "word",.str aa]]) ((v.pre (Ac _ _)).pre (Ac _ _)) AW (λz=>by have:=v.lt z;simp at this;omega) (by simp[cw]) (by simp;omega) (by have:=hb.1;rw[Iv] at this;omega) (λe he=>by have:=hb.2 e he;simp;omega) (by simp) λL2 d7 h2 cz dc dw=>?_;rfl';refine bh _ d7 h2 ?_ (λy hy=>?_) ?_ _
     .have hxa:(Ce ws ts)[i]?=some (ts.map (λ_=>aa),[HC aa]):=by unfold Ce;rw[As,bj];rfl
      rw[Tb hxa,<-hc];exact cz
     .rcases dc y hy with z|z
      .exact c y z
      .simp at z;omega
     .exact((r.trans (.app _ _ _)).trans (.app _ _ _)).step dw (λj hj=>by
       rcases AY.mp hj with e1|e1
       .exact .inl (by simp[e1])
       .exact .inr (c j e1))
  .rintro Cy fz2 n l v hc c r e;refine fz2 _ _ (decide_eq_true (r.get (by simp;omega) cu)) ?_;refine dm _ l v ?_ c r _;rw[hc,AZ,BM];have:(Ce ws ts).length=ws.length:=by unfold Ce;simp
   rw[<-this,Dy]
 rintro L2 ak bo d9 bw a8 e;have bz:L2[tx]?=some (.lst (ts.map D.str)):=a8.get (by simp;omega) cq;have ej:=a8.1;rfl';refine AIG bz ok λL3 b bu ad ax ai=>?_;have f6:L2.length<L3.length:=ad.glt;have df:=bo.pre bu;have dj:L3[tx]?=some (.lst (ts.map D.str)):=CY bu bz;obtain⟨ao,ay⟩:=ad.at_;have ac:Dw (cont b) 40 40:=by rw[ax];exact Nw ts
 have ga:(cont b).length<=40:=ac.1
 have free:∀j,j≠L.length->(j<L1.length\/L2.length<=j)->j∉L.length::BV ak:=λj h1 h2 hj=>by
  rcases AY.mp hj with e1|e1
  .exact h1 e1
  .have:=bo.lt e1;have:=bw j e1;omega
 rfl';rw[Su Ig]
 refine CN (λi u=>∀n:AB,∀l,DL Ak n L.length l->cont l=(Ce ws ts++((cont b).take i).flatMap λs=>(cont b).flatMap λe=>CZ ts s e).foldl (Bb wd) []->(∀x∈BV l,x∈BV ak\/L3.length<=x)->Ay (L.length::BV ak) L3 n ->
   ∀e1 e2 e3 e4 e5,u [some (.ref w),some (.ref tx),some (Ak wd),some (.ref L.length),e,some (.ref L2.length),e1,e2,e3,e4,e5] n) _ 0 _ _ (λu bm=>bm _ ak df (by simpa using d9) (λx p=>.inl p) (.refl _ _) none none none none none) ?_ ?_
 .rintro i x p u Cy fz3 bm n l v hc c r e1 e2 e3 e4 e5;have t:n[L2.length]?=some (.dt (CV ET b) ao):=r.get (free _ (by omega) (by omega)) ay;refine fz3 _ _ (by simp[Hx,t]) ?_;rw[As] at p
  cases aw:b[i]? with
  |none=>rw[aw] at p;cases p
  |some g =>
  rw[aw] at p;cases p;have al:=BY aw;have cm:(cont b)[i]?=some (g.1,g.2.2):=by unfold cont;rw[As,aw];rfl
  have ag:=BY cm;rfl';rw[Su Ig];generalize bv:(Ce ws ts++((cont b).take (0+i)).flatMap λs=>(cont b).flatMap λe=>CZ ts s e)=A1 at hc
  have ci:∀a∈A1,a.2.length<=1600:=λa c=>by
   rw[<-bv] at c;rcases CF.mp c with c|c
   .exact b8 a c
   .obtain⟨s,hs,c⟩:=Dz.mp c;obtain⟨e,he,c⟩:=Dz.mp c;exact XN ac (ANp hs) he a c
  have fj:A1.length<=6+4800:=by
   rw[<-bv,CG]
   have h1:=Og (m:=120) ((cont b).take (0+i)) (f:=λs=>(cont b).flatMap λe=>CZ ts s e) λs _=>by
    have:=Og (m:=3) (cont b) (f:=λe=>CZ ts s e) λe _=>XO s e;omega
   have h2:((cont b).take (0+i)).length<=40:=by rw[Eg];omega
   have h3:=ANR 120 h2;omega
  refine CN (λj u=>∀n:AB,∀l,DL Ak n L.length l->cont l=(A1++((cont b).take j).flatMap λe=>CZ ts (g.1,g.2.2) e).foldl (Bb wd) []->(∀x∈BV l,x∈BV ak\/L3.length<=x)->Ay (L.length::BV ak) L3 n ->
   ∀e2 e3 e4 e5,u [some (.ref w),some (.ref tx),some (Ak wd),some (.ref L.length),e,some (.ref L2.length),some (ET g.1),e2,e3,e4,e5] n) _ 0 _ _ (λu aj=>aj _ l v (by simpa using hc) c r _ _ _ _) ?_ ?_
  .clear t r c hc v l;rintro j x p u Cy bd aj n l v hc c r e2 e3 e4 e5;have t:n[L2.length]?=some (.dt (CV ET b) ao):=r.get (free _ (by omega) (by omega)) ay;have bp:n[tx]?=some (.lst (ts.map D.str)):=r.get (free _ (by omega) (by omega)) dj;refine bd _ _ (by simp[Hx,t]) ?_;rw[As] at p
   cases a6:b[j]? with
   |none=>rw[a6] at p;cases p
   |some o =>
   rw[a6] at p;cases p;have am:=BY a6;have cg:(cont b)[j]?=some (o.1,o.2.2):=by unfold cont;rw[As,a6];rfl
   have ae:=BY cg;have eh:=r.1
   have ba:((cont b).take (0+j+1)).flatMap (λe=>CZ ts (g.1,g.2.2) e)=((cont b).take (0+j)).flatMap (λe=>CZ ts (g.1,g.2.2) e)++CZ ts (g.1,g.2.2) (o.1,o.2.2):=by rw[Fz cg,ANb];simp
   generalize br:(A1++((cont b).take (0+j)).flatMap λe=>CZ ts (g.1,g.2.2) e)=A2 at hc
   have b9:∀a∈A2,a.2.length<=1600:=λa c=>by
    rw[<-br] at c;rcases CF.mp c with c|c
    .exact ci a c
    .obtain⟨e,he,c⟩:=Dz.mp c;exact XN ac ag (ANp he) a c
   have fk:A2.length<=6+4800+120:=by
    rw[<-br,CG];have h1:=Og (m:=3) ((cont b).take (0+j)) (f:=λe=>CZ ts (g.1,g.2.2) e) λe _=>XO _ e;have h2:((cont b).take (0+j)).length<=40:=by rw[Eg];omega
    omega
   rw[show A1++((cont b).take (0+j+1)).flatMap (λe=>CZ ts (g.1,g.2.2) e)=A2++CZ ts (g.1,g.2.2) (o.1,o.2.2) by rw[ba,<-br,HA]] at aj;rfl';refine ACl bp (by omega) (Nv (e:=(g.1,g.2.2)) (by rw[<-ax];exact ag)) (Nv (e:=(o.1,o.2.2)) (by rw[<-ax];exact ae)) (λdq=>?_) (λcj=>?_)
   .rfl';refine aj _ l v ?_ c r _ _ _ _;rw[hc];unfold CZ;rw[if_neg (by rw[dq];simp),ANg]
   .rfl';have db:CZ ts (g.1,g.2.2) (o.1,o.2.2)=Di.map (GO ts (g.1,g.2.2) (o.1,o.2.2)):=by unfold CZ;rw[if_pos cj]
    rw[db] at aj;generalize au:Ea ts g.1 o.1 ts.length=sgs;have bf:sgs.length=ts.length:=by rw[<-au,Ti]
    generalize a9:n++[Ob.lst (sgs.map D.str)]=L4;have ar:n <+: L4:=by rw[<-a9];exact Ac _ _
    have fg:L4.length=n.length+1:=by rw[<-a9];simp
    have dg:L4[n.length]?=some (.lst (sgs.map D.str)):=by rw[<-a9];exact AW
    have d5:=v.pre ar;have di:=CY ar t;have ei:L4[g.2.1]?=some (.lst g.2.2):=CY ar (r.get (free _ (by have:=ai _ (Gp al);omega) (by have:=ai _ (Gp al);omega)) (ad.it g al));have dr:L4[o.2.1]?=some (.lst o.2.2):=CY ar (r.get (free _ (by have:=ai _ (Gp am);omega) (by have:=ai _ (Gp am);omega)) (ad.it o am))
    have aq:∀q,L2.length<=q->q<L3.length->q∉L.length::BV l:=λq h1 h2 hj=>by
     rcases AY.mp hj with z|z
     .omega
     .rcases c q z with y|y
      .have:=bo.lt y;omega
      .omega
    have cp:n.length∉L.length::BV l:=λhj=>by
     rcases AY.mp hj with z|z
     .omega
     .have:=v.lt z;omega
    have dz:=ad.lt (Gp al);have c9:=ad.lt (Gp am);have ft:=ai _ (Gp al);have fr:=ai _ (Gp am)
    refine CN (λk u=>∀L9:AB,∀bc,DL Ak L9 L.length bc->cont bc=(A2++(Di.take k).map (GO ts (g.1,g.2.2) (o.1,o.2.2))).foldl (Bb wd) []->(∀x∈BV bc,x∈BV l\/L4.length<=x)->Ay (L.length::BV l) L4 L9 ->
     ∀e4 e5,u [some (.ref w),some (.ref tx),some (Ak wd),some (.ref L.length),e,some (.ref L2.length),some (ET g.1),some (ET o.1),some (.ref n.length),e4,e5] L9) _ 0 _ _ (λu bn=>bn _ l d5 (by simpa using hc) (λx p=>.inl p) (.refl _ _) _ _) ?_ ?_
    .rintro k x p u Cy fz5 bn L5 es5 hd5 hc5 ha5 hk5 e4 e5
     have cy:∃d,Di[k]?=some d/\x=.str d:=by
      have:(Di.map D.str)[k]?=some x:=p;rw[As] at this
      cases v:Di[k]? with
      |none=>rw[v] at this;cases this
      |some d=>rw[v] at this;exact⟨d,rfl,(Option.some.inj this).symm⟩
     obtain⟨d,ca,rfl⟩:=cy;have d8:=BY ca;refine fz5 _ _ rfl ?_;have c7:L5[n.length]?=some (.lst (sgs.map D.str)):=hk5.get cp dg;have cr:L5[L2.length]?=some (.dt (CV ET b) ao):=hk5.get (aq _ (by omega) (by omega)) di;have ck:L5[g.2.1]?=some (.lst g.2.2):=hk5.get (aq _ (by omega) dz) ei;have b7:L5[o.2.1]?=some (.lst o.2.2):=hk5.get (aq _ (by omega) c9) dr;have fm:=hk5.1
     have cb:Dw (cont es5) 10000 12000000:=by
      rw[hc5]
      have h3:((Di.take (0+k)).map (GO ts (g.1,g.2.2) (o.1,o.2.2))).length<=3:=by rw[AZ,Eg];have:Di.length=3:=rfl;omega
      have:=OO (w:=wd) (A2++(Di.take (0+k)).map (GO ts (g.1,g.2.2) (o.1,o.2.2))) Lq λa c=>by
       rcases CF.mp c with c|c
       .exact b9 a c
       .obtain⟨d',_,rfl⟩:=Ap.mp c;show(Eb d' g.2.2 o.2.2).length<=1600;rw[Iw];exact ANa (ac.2 _ ag) (ac.2 _ ae)
      rw[CG] at this;exact this.mono (by omega) (by omega)
     have c6:(Eb d g.2.2 o.2.2).length<=1600:=by rw[Iw];exact ANa (ac.2 _ ag) (ac.2 _ ae)
     rfl'
     refine Hv (λZ=>∃e,Z=[e,some (.str d)]) (λy=>match y with|.str s=>.str (EZ d s)|_=>.non) (λbt=>decide_eq_true (AQ c7)) ⟨_,rfl⟩ (by rw[AZ,bf];omega) ?_ ?_
     .rintro y hy Z ⟨e,rfl⟩;obtain⟨s,hs,rfl⟩:=Ap.mp hy;rw[<-au] at hs;have dn:=AHr ok _ _ hs;rfl';refine⟨⟨_,rfl⟩,λbt=>?_⟩;rfl';refine AHj d8 dn.1 (by omega) ?_;exact⟨rfl,rfl⟩
     .have em:(sgs.map D.str).map (λy=>match y with|.str s=>D.str (EZ d s)|_=>.non)=(sgs.map (EZ d)).map D.str:=by rw[Bx,Bx];rfl
      rw[em];rfl';refine Hk (kk:=Av (ET g.1)) (AQ cr) (Ig.key _) (ad.look_mem Ig al) ?_;rfl';refine Hk (kk:=Av (ET o.1)) (AQ cr) (Ig.key _) (ad.look_mem Ig am) ?_;rfl';refine AIJ (AQ ck) (AQ b7) (by have:=c6;rw[Iw] at this;omega) (by have:=ac.2 _ ae;simp only at this;omega) λL6 cn d4=>?_;have a7:L5 <+: L6:=(Ac _ _).trans cn;have cf:=cn.length_le;simp only[CG,Dm,List.length_nil] at cf;rfl';refine AAL (as:=sgs.map (EZ d)) (w:=wd) (hd5.pre a7) d4 (λz=>by have:=hd5.lt z;simp at this;omega) (by simp[cw,bf]) (by simp[bf];omega) (by have:=cb.1;rw[Iv] at this;omega) (λe he=>by have:=cb.2 e he;omega) (by omega) λL7 cx h7 da c8 d6=>?_;rfl';refine bn _ cx h7 ?_ (λy hy=>?_) ?_ _ _
      .rw[Fz ca,Cg,<-HA,AOR,<-hc5,da];show _=Bb wd (cont es5) (GO ts (g.1,g.2.2) (o.1,o.2.2) d);unfold GO;rw[au]
      .rcases c8 y hy with z|z
       .exact ha5 y z
       .exact .inr (by omega)
      .refine(hk5.trans (.of_pre a7)).step d6 λj hj=>?_;rcases AY.mp hj with z|z
       .exact .inl (by simp[z])
       .rcases ha5 j z with y|y
        .exact .inl (BD _ y)
        .exact .inr y
    .rintro Cy fz5 L5 es5 hd5 hc5 ha5 hk5 e4 e5;refine fz5 _ _ rfl (aj _ es5 hd5 ?_ (λy hy=>?_) ?_ _ _ _ _)
     .rw[hc5]
      congr 2
     .rcases ha5 y hy with z|z
      .exact c y z
      .exact .inr (by omega)
     .refine(r.trans (.of_pre ar)).step hk5 λj hj=>?_;rcases AY.mp hj with z|z
      .exact .inl (by simp[z])
      .rcases c j z with y|y
       .exact .inl (BD _ y)
       .exact .inr y
  .rintro Cy bd n l v hc c r e2 e3 e4 e5;have t:n[L2.length]?=some (.dt (CV ET b) ao):=r.get (free _ (by omega) (by omega)) ay;refine bd _ _ (by simp[Hx,t]) (bm _ l v ?_ c r _ _ _ _ _);rw[hc,AZ,BM];have:b.length=(cont b).length:=(Iv b).symm;rw[this,Dy,Fz cm,ANb,<-bv,HA];simp
 .rintro Cy fz3 n l v hc c r e1 e2 e3 e4 e5;have t:n[L2.length]?=some (.dt (CV ET b) ao):=r.get (free _ (by omega) (by omega)) ay;refine fz3 _ _ (by simp[Hx,t]) ?_;rfl';refine⟨rfl,h n l ?_ v ?_ λx p=>?_⟩
  .have k1:Ay [L.length] L n:=by
    have a1:Ay [L.length] L L1:=by rw[<-av];exact .app _ _ _
    have a2:=(a1.trans a8).trans (Ay.of_pre bu);refine a2.step r λj hj=>?_;rcases AY.mp hj with e8|e8
    .exact .inl (by simp[e8])
    .exact .inr (by have:=bw j e8;omega)
   exact(k1.mono λj hj=>.inr (by simp at hj;omega)).pre
  .rw[hc,AZ,BM];have:b.length=(cont b).length:=(Iv b).symm;rw[this,Dy,ax];rfl
  .rcases c x p with z|z
   .have:=bw x z;omega
   .omega
abbrev EY(a:AOt)(ps:List D):List (NK×D):=ps.zipIdx.map λq=>(Av q.1,D.tup [Ak a,.int (q.2:Int)])
def AHY{a:AOt}{ps:List D}{i:Nat}{x:D}(h:ps[i]?=some x):EY a (ps.take (0+i+1))=EY a (ps.take (0+i))++[(Av x,.tup [Ak a,.int (i:Int)])]:=by have b:i<ps.length:=(Ax.mp h).1;rw[Fz h];unfold EY;rw[List.zipIdx_append,Cg];simp[Nat.min_eq_left (AN0 b)]
abbrev DT(G:List (AOt×List D)):List (NK×D):=G.flatMap λe=>EY e.1 e.2
abbrev Bz(xs:List (NK×D)):List (NK×D):=xs.foldl (λm x=>DQ m x.1 x.2) []
def ADm(m:List (NK×D))(k:NK)(d:D):(DQ m k d).length<=m.length+1:=by
 unfold DQ;split
 .rw[AZ];omega
 .simp
def Wt(xs:List (NK×D)):(Bz xs).length<=xs.length:=by
 have:∀(xs:List (NK×D)) (m:List (NK×D)),(xs.foldl (λm x=>DQ m x.1 x.2) m).length<=m.length+xs.length:=by
  intro xs
  induction xs with
  |nil=>intro m;simp
  |cons x xs a =>
   intro m;rw[ANE,Dm];have c:=a (DQ m x.1 x.2);have b:=ADm m x.1 x.2;omega
 have h:=this xs [];simpa[Bz] using h
abbrev Ei{κ:Type}(c:List (κ×List D)):Nat:=(c.map λe=>e.2.length).sum
def AHP(G:List (AOt×List D)):(DT G).length=Ei G:=by
 unfold DT Ei
 induction G with
 |nil=>rfl
 |cons e G a =>
  rw[EA,CG,a,Al,FJ];unfold EY;simp
def ACD{κ:Type}[DecidableEq κ]{c:List (κ×List D)}{k:κ}{ds:List D}(b:(c.map (·.1)).Nodup):Ei (BU c k ds)=Ei c+ds.length:=by
 by_cases h:k∈c.map (·.1)
 .have e:BU c k ds=c.map (λe=>if e.1=k then (e.1,e.2++ds) else e):=by unfold BU;rw[if_pos h]
  rw[e];clear e
  induction c with
  |nil=>cases h
  |cons x c g =>
   rw[Al,Gy] at b;rw[Al];unfold Ei;rw[Al,FJ,Al,FJ]
   by_cases a:x.1=k
   .rw[if_pos a]
    have f:c.map (λe=>if e.1=k then (e.1,e.2++ds) else e)=c:=by
     conv=>rhs;rw[<-AN8 c]
     apply Ga;intro e i;rw[if_neg (λz=>b.1 (by rw[a,<-z];exact Bw i))];rfl
    rw[f];simp only[CG];omega
   .rw[if_neg a]
    have d:k∈c.map (·.1):=by
     rw[Al] at h;rcases AY.mp h with z|z
     .exact absurd z.symm a
     .exact z
    have:=g b.2 d;unfold Ei at this;omega
 .have e:BU c k ds=c++[(k,ds)]:=by unfold BU;rw[if_neg h]
  rw[e];unfold Ei;simp
def YZ{w:AOt}:∀(A:List (AOt×List D)) {c:List (AOt×List D)},(c.map (·.1)).Nodup->((A.foldl (Bb w) c).map (·.1)).Nodup
 |[],_,h=>h
 |a::A,c,h=>YZ A (by unfold Bb;split;exact Lz h;exact h)
def YW{w:AOt}{m:Nat}:∀(A:List (AOt×List D)) {c:List (AOt×List D)},(c.map (·.1)).Nodup->(∀a∈A,a.2.length<=m)->Ei (A.foldl (Bb w) c)<=Ei c+A.length*m
 |[],c,_,_=>by simp
 |a::A,c,h,hA=>by
  have d:Ei (Bb w c a)<=Ei c+m:=by
   unfold Bb;split
   .rw[ACD h];have:=hA a BC;omega
   .omega
  have e:=YW (w:=w) A (c:=Bb w c a) (by unfold Bb;split;exact Lz h;exact h) λx b=>hA x (BD _ b);rw[ANE,Dm,ANK];omega
def XH{κ:Type}{a:κ->D}(K:KD a)(es:List (κ×Nat×List D)):FM (CV a es)=es.map λe=>.tup [a e.1,.ref e.2.1]:=by unfold FM CV;rw[Bx];apply Ga;intro e _;show D.tup [EG (Av (a e.1)),.ref e.2.1]=_;rw[K.nk e.1]
def AHO{G:List (AOt×List D)}{i:Nat}{e:AOt×List D}(h:G[i]?=some e):DT (G.take (0+i+1))=DT (G.take (0+i))++EY e.1 e.2:=by unfold DT;rw[Fz h,ANb];simp
def AHN(G:List (AOt×List D))(i:Nat):(DT (G.take i)).length<=Ei G:=by
 rw[<-AHP G]
 conv=>rhs;rw[<-AOM i G]
 unfold DT;rw[ANb,CG];omega
def AFm{Q:APT}{L:AB}{g:Nat}{es:List (AOt×Nat×List D)}(v:DL Ak L g es)(y:∀e∈cont es,∀p∈e.2,dNK p=some (Av p))(hz:Ei (cont es)<=8000000)(hb:∀e∈cont es,e.2.length<=8000000)
  (h:∀a,Q (.ref L.length) (L++[.dt (Bz (DT (cont es))) a])):W2 (JJ [.ref g] L) Q:=by
 unfold JJ;refine Fe rfl ?_;unfold QK;obtain⟨w,o⟩:=v.at_;rfl';rw[XH DJ];refine CN (λj f=>∀L':AB,(∃a,L'=L++[Ob.dt (Bz (DT ((cont es).take j))) a])->∀t s k m,f [some (.ref g),some (.ref L.length),t,s,k,m] L') _ 0 _ _ (λf l=>l _ ⟨0,rfl⟩ none none none none) ?_ ?_
 .rintro i x hx f Cy fz1 l L' ⟨a,rfl⟩ t s k m;refine fz1 _ _ (decide_eq_true (AQ o)) ?_;rw[As] at hx
  cases b:es[i]? with
  |none=>rw[b] at hx;cases hx
  |some e =>
  rw[b] at hx;cases hx;have r:=BY b;have u:=v.it e r;have n:(cont es)[i]?=some (e.1,e.2.2):=by unfold cont;rw[As,b];rfl
  have d:=BY n;rfl';refine CN (λj f=>∀L':AB,(∃a,L'=L++[Ob.dt (Bz (DT ((cont es).take (0+i))++EY e.1 (e.2.2.take j))) a])->∀k m,f [some (.ref g),some (.ref L.length),some (Ak e.1),some (.ref e.2.1),k,m] L') _ 0 _ _ (λf c=>c _ ⟨a,by simp[EY]⟩ _ _) ?_ ?_
  .rintro j x hx f Cy fz2 c L' ⟨a,rfl⟩ k m;refine fz2 _ _ (decide_eq_true (AQ u)) ?_;rw[ZK] at hx
   cases q:e.2.2[j]? with
   |none=>rw[q] at hx;cases hx
   |some p =>
    rw[q] at hx;cases hx;rfl';refine OW (kk:=Av p) AW ?_ (y _ d p (BY q)) ?_
    .have h1:=Wt (DT ((cont es).take (0+i))++EY e.1 (e.2.2.take (0+j)));have h2:=AHN (cont es) (0+i)
     have h3:(EY e.1 (e.2.2.take (0+j))).length<=8000000:=by unfold EY;rw[AZ,List.length_zipIdx,Eg];have:=hb _ d;simp only at this;omega
     rw[CG] at h1;omega
    .have e5:Bz (DT ((cont es).take (0+i))++EY e.1 (e.2.2.take (0+j+1)))=DQ (Bz (DT ((cont es).take (0+i))++EY e.1 (e.2.2.take (0+j)))) (Av p) (.tup [Ak e.1,.int (j:Int)]):=by
      rw[AHY q,<-HA];unfold Bz;rw[AOR];rfl
     rfl';rw[e5] at c;refine c _ ⟨epN (Bz (DT ((cont es).take (0+i))++EY e.1 (e.2.2.take (0+j)))) (Av p) a,?_⟩ _ _;simp
  .rintro Cy fz2 L' ⟨a,rfl⟩ k m;refine fz2 _ _ (decide_eq_true (AQ u)) (l _ ⟨a,?_⟩ _ _ _ _);have z:(FV e.2.2).length=e.2.2.length:=by simp[FV]
   rw[z,BM e.2.2.length,Dy,AHO n]
 .rintro Cy fz1 L' ⟨a,rfl⟩ t s k m;refine fz1 _ _ (decide_eq_true (AQ o)) ?_;rfl';refine⟨rfl,?_⟩;rw[AZ,BM];have:es.length=(cont es).length:=(Iv es).symm;rw[this,Dy];exact h a
def ACF{Q:APT}{L:AB}{k g:Nat}{W:D}{M:List (NK×D)}(v:L[k]?=some (.ins AO1 []))(ai:g<L.length)(hm:∀(L':AB) (Q':APT),Ay [k] L L'->L'.length=L.length->(∀c,Q' (.ref L'.length) (L'++[.dt M c]))->W2 (JJ [.ref g] L') Q')
  (h:∀f,f.length=L.length+8->Ay [k] L f->f[k]?=some (.ins AO1 (Nj W g L.length (L.length+5) (L.length+6) (L.length+7)))->(∃c,f[L.length]?=some (.dt M c)) ->
   f[L.length+5]?=some (.lst [.ref (L.length+1),.ref (L.length+3)])->EN f (L.length+1) 1 (L.length+2) [] 0->EN f (L.length+3) 0 (L.length+4) [] 0->f[L.length+6]?=some (.dt [] 0)->f[L.length+7]?=some (.lst [])->Q .non f) :
  W2 (Kw [.ref k,W,.ref g] L) Q:=by
 unfold Kw;refine Kx rfl ?_;unfold QB;have aj:=DR v;refine BW (λd=>∀L':AB,L'.length=L.length->Ay [k] L L'->L'[k]?=some (.ins AO1 [(AO7,W)])->d [some (.ref k),some W,some (.ref g)] L') (λd aa=>?_) ?_
 .rfl';exact aa _ (by simp) ((Ay.refl _ _).set (.inl (by simp))) (Ci v)
 rintro L1 l1 k1 t1;refine BW (λd=>∀L':AB,L'.length=L.length->Ay [k] L L'->L'[k]?=some (.ins AO1 [(AO7,W),(AO4,.ref g)])->d [some (.ref k),some W,some (.ref g)] L') (λd ae=>?_) ?_
 .rfl';exact ae _ (by simp[l1]) (k1.set (.inl (by simp))) (Ci t1)
 rintro f l2 k2 t2;refine BW (λd=>∀L' c,L'.length=L.length+1->Ay [k] L L'->L'[k]?=some (.ins AO1 [(AO7,W),(AO4,.ref g),(AO9,.ref L.length)])->L'[L.length]?=some (.dt M c)->d [some (.ref k),some W,some (.ref g)] L') (λd ag=>?_) ?_
 .rfl';refine hm _ _ k2 l2 λc=>?_;rfl';refine ag _ c (by simp[l2]) ((k2.trans (.app _ _ _)).set (.inl (by simp))) ?_ ?_
  .rw[Ci (AQ t2),l2];rfl
  .rw[<-l2,ER (by omega)];exact AW
 rintro L3 c l3 k3 t3 m3;have ad:∀{a l:AB} {j:Nat} {o:Ob},Ay [j] a l->a.length<=j->∀i,i<a.length->a[i]?=some o->l[i]?=some o:=λ{a l j o} v x i n e=>v.get (by simp;omega) e;refine BW (λd=>∀L':AB,L'.length=L.length+6->Ay [k] L L'->L'[k]?=some (.ins AO1 [(AO7,W),(AO4,.ref g),(AO9,.ref L.length),(AO5,.ref (L.length+5))])->(∃c,L'[L.length]?=some (.dt M c))->L'[L.length+5]?=some (.lst [.ref (L.length+1),.ref (L.length+3)])->EN L' (L.length+1) 1 (L.length+2) [] 0->EN L' (L.length+3) 0 (L.length+4) [] 0->d [some (.ref k),some W,some (.ref g)] L') (λd ac=>?_) ?_
 .rfl';refine Se AW λa s p z=>?_;have u:a.length=L.length+3:=by rw[p];simp;omega
  have p4:∀i o,i<L3.length->L3[i]?=some o->a[i]?=some o:=λi o n e=>z.get (by simp;omega) (AQ e);refine⟨rfl,?_⟩;rfl';refine Se AW λl n5 l5 k5=>?_;have q:l.length=L.length+5:=by rw[l5];simp;omega
  have y:∀i o,i<a.length->a[i]?=some o->l[i]?=some o:=λi o n e=>k5.get (by simp;omega) (AQ e);refine⟨rfl,?_⟩;have w:=y _ _ (by omega) (p4 _ _ (by omega) t3);have m5:=y _ _ (by omega) (p4 _ _ (by omega) m3);have a5:=y _ _ (by omega) s.1;have b5:=y _ _ (by simp at *;omega) s.2;rfl';have e1:L3.length=L.length+1:=l3;have e2:(L3++[Ob.ins AO2 []]).length=L.length+2:=by simp[l3]
  have e3:a.length=L.length+3:=u;have e4:(a++[Ob.ins AO2 []]).length=L.length+4:=by simp[u]
  rw[e1] at s a5;rw[e2] at s b5 a5;rw[e3,e4] at n5;have b:∀(i:Nat) (o m:Ob) (M:AB),i≠k->l[i]?=some o->((l++M).set k m)[i]?=some o:=λi o m M n e=>by rw[ER (Ne.symm n)];exact AQ e
  refine ac _ (by simp[q]) ?_ ?_ ⟨c,b _ _ _ _ (by omega) m5⟩ ?_ ⟨b _ _ _ _ (by omega) a5,b _ _ _ _ (by omega) b5⟩ ⟨b _ _ _ _ (by omega) n5.1,b _ _ _ _ (by omega) n5.2⟩
  .have q1:Ay [k] L a:=(k3.trans (.app _ _ _)).step z λj x=>.inr (by simp at x;omega);have q2:Ay [k] L l:=(q1.trans (.app _ _ _)).step k5 λj x=>.inr (by simp at x;omega);exact(q2.trans (.app _ _ _)).set (.inl (by simp))
  .rw[Ci (AQ w),q];rfl
  .rw[ER (by omega),<-q,e1,e3];exact AW
 rintro a p z t4 ⟨c,m4⟩ s a4 b4;rfl';have b:∀(i:Nat) (o m:Ob) (N M:AB),i≠k->N[i]?=some o->((N++M).set k m)[i]?=some o:=λi o m N M n e=>by rw[ER (Ne.symm n)];exact AQ e
 have t:∀(i:Nat) (o m r:Ob) (M M':AB),i≠k->a[i]?=some o->((((a++M).set k m)++M').set k r)[i]?=some o:=λi o m r M M' n e=>b i o r _ _ n (b i o m _ _ n e)
 have w:((a++[Ob.dt [] 0]).set k (.ins AO1 (EW APA (.ref a.length) [(AO7,W),(AO4,.ref g),(AO9,.ref L.length),(AO5,.ref (L.length+5))])))[k]?=some (.ins AO1 [(AO7,W),(AO4,.ref g),(AO9,.ref L.length),(AO5,.ref (L.length+5)),(APA,.ref (L.length+6))]):=by rw[Ci (AQ t4),p];rfl
 refine Yk (AQ w) rfl rfl ?_;rfl';refine⟨λhp=>?_,h _ (by simp[p]) ?_ ?_ ⟨c,t _ _ _ _ _ _ (by omega) m4⟩ (t _ _ _ _ _ _ (by omega) s) ⟨t _ _ _ _ _ _ (by omega) a4.1,t _ _ _ _ _ _ (by omega) a4.2⟩ ⟨t _ _ _ _ _ _ (by omega) b4.1,t _ _ _ _ _ _ (by omega) b4.2⟩ (b _ _ _ _ _ (by omega) ?_) ?_⟩
 .have:=CY hp v;rw[Ci (AQ w)] at this;cases this
 .exact(((z.trans (.app _ _ _)).set (.inl (by simp))).trans (.app _ _ _)).set (.inl (by simp))
 .rw[Ci (AQ w),ANj,CG,p];rfl
 .rw[ER (by omega),<-p];exact AW
 .rw[ER (by omega)];have e6:((a++[Ob.dt [] 0]).set k (.ins AO1 (EW APA (.ref a.length) [(AO7,W),(AO4,.ref g),(AO9,.ref L.length),(AO5,.ref (L.length+5))]))).length=L.length+7:=by simp[p]
  rw[<-e6];exact AW
noncomputable abbrev Ah:=List (AOt×List D)
abbrev CO(G:Ah)(a:AOt):Nat:=((DC G a).getD []).length
abbrev Nt(rest a:AOt):Bool:=(List.range rest.length).all λi=>Txt.startswith (rest.getD i "") (a.getD i "")
abbrev Fo(rest a:AOt)(n:Nat):AOt:=(List.range n).map λi=>Txt.slice (rest.getD i "") (some ((a.getD i "").length:Int)) none
abbrev DV(rest a:AOt):Option (AOt):=if Nt rest a=true then some (Fo rest a rest.length) else none
def Ts{rest a b:AOt}(h:DV rest a=some b):b.length=rest.length:=by
 unfold DV at h;split at h
 .cases h;unfold Fo;simp
 .cases h
def WL(xs:AOt):(Ak xs).noRef=true:=by
 unfold Ak;show D.noRefL (xs.map D.str)=true
 induction xs with
 |nil=>rfl
 |cons x xs a=>rw[Al,D.noRefL,a];rfl
def AIO{Q:APT}{L:AB}{rest a:AOt}(n:a.length=rest.length)(hz:rest.length<=1000)(q:DV rest a=none->Q .non L)(p:∀b,DV rest a=some b->Q (Ak b) L):W2 (Kh [Ak rest,Ak a] L) Q:=by
 unfold Kh;refine BP rfl ?_;unfold RM;have o:∀xs:AOt,Ak xs=.tup (xs.map D.str):=λ_=>rfl;rw[o rest,o a];rfl';refine⟨rest.map D.str,[a.map D.str],rfl,⟨by simp[n],by simp,rfl⟩,?_⟩;refine CN (λj g=>∀L':AB,L'=L++[Ob.lst ((Fo rest a j).map D.str)]->(∀i,i<j->i<rest.length->Txt.startswith (rest.getD i "") (a.getD i "")=true)->∀h f,g [some (.tup (rest.map D.str)),some (.tup (a.map D.str)),some (.ref L.length),h,f] L') _ 0 _ _ (λg d=>d _ rfl (λi e=>(by omega)) none none) ?_ ?_
 .rintro i x hx g Cy fz1 d L' rfl hlt h f;refine fz1 _ _ (decide_eq_true rfl) ?_;obtain⟨e,rfl⟩:=Qm n hx;rfl';refine Fq (λm=>?_) (λm=>?_)
  .rfl';refine GJ AW (by unfold Fo;simp;omega) ?_;rfl';refine d _ ?_ (λk r l=>?_) _ _
   .have:Fo rest a (0+i+1)=Fo rest a (0+i)++[Txt.slice (rest.getD i "") (some ((a.getD i "").length:Int)) none]:=by
     unfold Fo;rw[ANZ,Cg,BM];rfl
    rw[this,Cg];simp
   .by_cases z:k=i
    .subst z;exact m
    .exact hlt k (by omega) l
  .rfl';refine⟨rfl,Ac _ _,q ?_⟩;unfold DV;rw[if_neg];intro c;unfold Nt at c;have:=CM.mp c i (CK.mpr e);rw[m] at this;cases this
 .rintro Cy fz1 L' rfl hlt h f;refine fz1 _ _ (decide_eq_true rfl) ?_;rw[NC,AZ,BM] at *;rfl';refine⟨WL _,Ac _ _,p _ ?_⟩;unfold DV;rw[if_pos];unfold Nt;rw[CM];exact λi e=>hlt i (CK.mp e) (CK.mp e)
abbrev BI(G:Ah)(l:Nat)(rest:AOt):List (AOt):=if l=1 then (if rest∈G.map (·.1) then [rest] else []) else G.map (·.1)
abbrev AM(G:Ah):Nat->AOt->Nat
 |0,_=>1
 |l+1,rest=>((BI G (l+1) rest).map λa=>match DV rest a with|some b=>CO G a*AM G l b|none=>0).sum
abbrev DN(G:Ah)(l:Nat)(rest:AOt)(st:List (AOt×Nat×AOt)×Nat)(a:AOt):List (AOt×Nat×AOt)×Nat:=match DV rest a with
 |none=>st
 |some b=>if AM G l b=0 then st else (st.1++[(a,st.2,b)],st.2+CO G a*AM G l b)
abbrev DM(G:Ah)(l:Nat)(rest:AOt)(xs:List (AOt)):List (AOt×Nat×AOt)×Nat:=xs.foldl (DN G l rest) ([],0)
abbrev Bv(G:Ah)(l:Nat)(rest:AOt):List (AOt×Nat×AOt):=(DM G l rest (BI G (l+1) rest)).1
def AAA{G:Ah}{l:Nat}{rest:AOt}:∀(xs:List (AOt)) (st:List (AOt×Nat×AOt)×Nat),(xs.foldl (DN G l rest) st).2=st.2+(xs.map λa=>match DV rest a with|some b=>CO G a*AM G l b|none=>0).sum
 |[],st=>by simp
 |x::xs,st=>by
  rw[ANE,AAA xs,Al,FJ];unfold DN
  cases e:DV rest x with
  |none=>simp
  |some b =>
   simp only
   by_cases z:AM G l b=0
   .rw[if_pos z,z];simp
   .rw[if_neg z];simp only;omega
def Zy(G:Ah)(l:Nat)(rest:AOt):(DM G l rest (BI G (l+1) rest)).2=AM G (l+1) rest:=by unfold DM;rw[AAA];simp[AM]
def AAB{G:Ah}{l:Nat}{rest:AOt}:∀(xs:List (AOt)) (st:List (AOt×Nat×AOt)×Nat),∃a,a.Sublist xs/\((xs.foldl (DN G l rest) st).1).map (·.1)=st.1.map (·.1)++a
 |[],st=>⟨[],List.Sublist.refl _,by simp⟩
 |x::xs,st=>by
  rw[ANE]
  have key:(DN G l rest st x).1.map (·.1)=st.1.map (·.1)\/(DN G l rest st x).1.map (·.1)=st.1.map (·.1)++[x]:=by
   unfold DN
   cases e:DV rest x with
   |none=>exact .inl rfl
   |some b =>
    simp only
    by_cases z:AM G l b=0
    .rw[if_pos z];exact .inl rfl
    .rw[if_neg z];exact .inr (by simp)
  obtain⟨a,c,d⟩:=AAB xs (DN G l rest st x);rcases key with k|k
  .exact⟨a,c.cons x,by rw[d,k]⟩
  .exact⟨x::a,c.cons₂ x,by rw[d,k];simp⟩
def Lx(G:Ah)(l:Nat)(rest:AOt)(xs:List (AOt)):((DM G l rest xs).1.map (·.1)).Sublist xs:=by obtain⟨c,a,b⟩:=AAB (G:=G) (l:=l) (rest:=rest) xs ([],0);unfold DM;rw[b];simpa using a
def Ry{G:Ah}(h:(G.map (·.1)).Nodup)(l:Nat)(rest:AOt):(BI G l rest).Nodup:=by
 unfold BI;split
 .split
  .simp
  .exact .nil
 .exact h
def Gc{G:Ah}{l:Nat}{rest a:AOt}(h:a∈BI G l rest):a∈G.map (·.1):=by
 unfold BI at h;split at h
 .split at h
  .have:a=rest:=by simpa using h
   subst this;assumption
  .cases h
 .exact h
def Rz{G:Ah}{l:Nat}{rest:AOt}:(BI G l rest).length<=G.length:=by
 unfold BI;split
 .split
  .rename_i h
   cases G with
   |nil=>cases h
   |cons=>simp
  .simp
 .simp
abbrev DZ(G:Ah)(sp:List (Nat×AOt))(k:Nat):Nat->AOt->Prop
 |0,_=>k=0
 |l+1,rest=>(AM G (l+1) rest=0/\k=1)\/(AM G (l+1) rest≠0/\∃j,k=j+2/\sp[j]?=some (l,rest))
def DZ.mono{G:Ah}{b a:List (Nat×AOt)}{k l:Nat}{rest:AOt}(h:DZ G b k l rest)(p:b <+: a):DZ G a k l rest:=by
 cases l with
 |zero=>exact h
 |succ l =>
  rcases h with h|⟨c,j,d,e⟩
  .exact .inl h
  .exact .inr ⟨c,j,d,CP p e⟩
def DZ.one{G:Ah}{c:List (Nat×AOt)}{k l:Nat}{rest:AOt}(h:DZ G c k l rest):k=1↔AM G l rest=0:=by
 cases l with
 |zero =>
  have:k=0:=h;subst this;simp[AM]
 |succ l =>
  rcases h with⟨a,b⟩|⟨a,j,b,d⟩
  .simp[a,b]
  .constructor
   .intro z;omega
   .intro z;exact absurd z a
abbrev Fb(G:Ah)(sp:List (Nat×AOt))(l:Nat)(x:AOt×Nat×AOt)(y:NK×D):Prop:=∃num:Nat,y=(Av (Ak x.1),.tup [.int (x.2.1:Int),.int (num:Int)])/\DZ G sp num l x.2.2
def Sc{U β:Type}{R S:U->β->Prop}{xs:List U}{c:List β}(h:Paired R xs c)(i:∀a b,R a b->S a b):Paired S xs c:=by
 induction h with
 |nil=>exact .nil
 |cons r _ d=>exact .cons (i _ _ r) d
def AE4{U β:Type}{R:U->β->Prop}{xs:List U}{a:List β}{x:U}{y:β}(h:Paired R xs a)(r:R x y):Paired R (xs++[x]) (a++[y]):=by
 induction h with
 |nil=>exact .cons r .nil
 |cons q _ b=>exact .cons q b
def Fb.mono{G:Ah}{b a:List (Nat×AOt)}{l:Nat}{x:AOt×Nat×AOt}{y:NK×D}(p:b <+: a)(h:Fb G b l x y):Fb G a l x y:=let ⟨n,e,k⟩:=h;⟨n,e,k.mono p⟩
def Js{G:Ah}{c:List (Nat×AOt)}{l:Nat}{xs:List (AOt×Nat×AOt)}{a:List (NK×D)}(h:Paired (Fb G c l) xs a):a.map (·.1)=xs.map λx=>Av (Ak x.1):=by
 induction h with
 |nil=>rfl
 |cons r _ b=>obtain⟨n,rfl,_⟩:=r;rw[Al,Al,b]
abbrev EI(k:Nat×AOt):D:=.tup [.int (k.1:Int),Ak k.2]
def Ie:KD EI:=⟨λa=>LR (by
  have h:(Ir (a.2.map D.str)).isSome=true:=by
   induction a.2 with
   |nil=>rfl
   |cons x a c =>
    rw[Al]
    cases e:Ir (a.map D.str) with
    |none=>rw[e] at c;cases c
    |some y=>simp[Ir,Ll,e]
  obtain⟨y,g⟩:=AOG.mp h;show(GP [.int (a.1:Int),.tup (a.2.map D.str)]).isSome=true
  simp[GP,Jl,Ll,g]),λa b h=>by
  have j:=D.tup.inj h;have d:=List.cons.inj j;have k:=List.cons.inj d.2;have i:a.1=b.1:=by have:=D.int.inj d.1;omega
  have f:=DJ.inj _ _ k.1
  exact Prod.ext i f⟩
abbrev ED(mk:List ((Nat×AOt)×Nat)):List (NK×D):=mk.map λe=>(Av (EI e.1),D.int (e.2:Int))
def Xr(mk:List ((Nat×AOt)×Nat))(k:Nat×AOt):Bo (ED mk) (Av (EI k))=(mk.find? λe=>decide (e.1=k)).map λe=>D.int (e.2:Int):=by
 unfold Bo ED
 induction mk with
 |nil=>rfl
 |cons e b a =>
  rw[Al,Fd,Fd]
  by_cases h:e.1=k
  .subst h;simp
  .rw[decide_eq_false h,decide_eq_false (λz=>h (Ie.kf z))];exact a
abbrev Jy(G:Ah)(sp:List (Nat×AOt))(L:AB)(r a:Nat):Nat->Prop
 |0=>∃ep,EN L r 1 a [] ep
 |1=>∃ep,EN L r 0 a [] ep
 |i+2=>∃l rest kvs ep,sp[i]?=some (l,rest)/\EN L r (AM G (l+1) rest:Int) a kvs ep/\l<=1000/\Paired (Fb G (sp.take i) l) (Bv G l rest) kvs
def Jy.mono{G:Ah}{f b:List (Nat×AOt)}{L L':AB}{r a i:Nat}(h:Jy G f L r a i)(p:f <+: b)(c:L'[r]?=L[r]?)(d:L'[a]?=L[a]?):Jy G b L' r a i:=by
 match i,h with
 |0,⟨ep,n⟩=>exact⟨ep,c.trans n.1,d.trans n.2⟩
 |1,⟨ep,n⟩=>exact⟨ep,c.trans n.1,d.trans n.2⟩
 |i+2,⟨l,rest,kvs,ep,e,n,hl,k⟩ =>
  refine⟨l,rest,kvs,ep,CP p e,⟨c.trans n.1,d.trans n.2⟩,hl,?_⟩;obtain⟨q,rfl⟩:=p;rw[List.take_append_of_le_length (AN0 (Ax.mp e).1)];exact k
def Jy.node{G:Ah}{d:List (Nat×AOt)}{L:AB}{r a i:Nat}(h:Jy G d L r a i):∃w c b,EN L r w a c b:=by
 match i,h with
 |0,⟨b,n⟩=>exact⟨_,_,b,n⟩
 |1,⟨b,n⟩=>exact⟨_,_,b,n⟩
 |i+2,⟨l,rest,c,b,e,n,_,k⟩=>exact⟨_,_,b,n⟩
structure Bd (G:Ah) (X:AOy) (L:AB) (t g m nd nn rt:Nat) (W:D) (es:List (AOt×Nat×List D)) (sp:List (Nat×AOt)) (rs:List (Nat×Nat)) (mk:List ((Nat×AOt)×Nat)):Prop where
 t_:L[t]?=some (.ins AO1 (Nj W g m nd nn rt))
 g_:DL Ak L g es
 gc:cont es=G
 nd_:L[nd]?=some (.lst (rs.map λp=>D.ref p.1))
 nn_:∃ep,L[nn]?=some (.dt (ED mk) ep)
 mk_:∀e∈mk,DZ G sp e.2 e.1.1 e.1.2
 len:rs.length=sp.length+2
 rsl:rs.length<=16000000
 nod:∀i r a,rs[i]?=some (r,a)->Jy G sp L r a i
 ndg:nd∉BV es
 nng:nn≠g
 nnr:∀p∈rs,nn≠p.2
 out:∀x∈X,x≠t/\x≠g/\x∉BV es/\x≠nd/\x≠nn/\∀p∈rs,x≠p.1/\x≠p.2
section
variable {G:Ah}{X:AOy}{L L':AB}{t g m nd nn rt:Nat}{W:D}{es:List (AOt×Nat×List D)}{sp:List (Nat×AOt)}{rs:List (Nat×Nat)}{mk:List ((Nat×AOt)×Nat)}
def Bd.same(T:Bd G X L t g m nd nn rt W es sp rs mk)(h:∀j,(j=t\/j=g\/j∈BV es\/j=nd\/j=nn\/∃p∈rs,j=p.1\/j=p.2)->L'[j]?=L[j]?):Bd G X L' t g m nd nn rt W es sp rs mk :=
 ⟨(h t (.inl rfl)).trans T.t_,T.g_.same (h g (.inr (.inl rfl))) λq b=>h q (.inr (.inr (.inl b))),T.gc,(h nd (.inr (.inr (.inr (.inl rfl))))).trans T.nd_,let ⟨ep,e⟩:=T.nn_;⟨ep,(h nn (.inr (.inr (.inr (.inr (.inl rfl)))))).trans e⟩,T.mk_,T.len,T.rsl,
   λi r a e=>(T.nod i r a e).mono (AV _) (h r (.inr (.inr (.inr (.inr (.inr ⟨_,BY e,.inl rfl⟩)))))) (h a (.inr (.inr (.inr (.inr (.inr ⟨_,BY e,.inr rfl⟩)))))),T.ndg,T.nng,T.nnr,T.out⟩
def Bd.lt(T:Bd G X L t g m nd nn rt W es sp rs mk){j:Nat}(h:j=t\/j=g\/j∈BV es\/j=nd\/j=nn\/∃p∈rs,j=p.1\/j=p.2):j<L.length:=by
 rcases h with rfl|rfl|h|rfl|rfl|⟨p,c,h⟩
 .exact DR T.t_
 .exact T.g_.glt
 .exact T.g_.lt h
 .exact DR T.nd_
 .obtain⟨a,e⟩:=T.nn_;exact DR e
 .obtain⟨i,hi⟩:=ANc c;obtain⟨w,b,a,n⟩:=(T.nod i p.1 p.2 hi).node;rcases h with rfl|rfl
  .exact DR n.1
  .exact DR n.2
def Bd.pre(T:Bd G X L t g m nd nn rt W es sp rs mk)(p:L <+: L'):Bd G X L' t g m nd nn rt W es sp rs mk:=T.same λj a=>by
 have:=T.lt a;obtain⟨M,rfl⟩:=p;rw[FK this]
def Bd.setX(T:Bd G X L t g m nd nn rt W es sp rs mk){x:Nat}(k:x∈X)(o:Ob):Bd G X (L.set x o) t g m nd nn rt W es sp rs mk:=T.same λj i=>by
 have a:x≠j:=λz=>by
  obtain⟨e,f,l,d,n,b⟩:=T.out x k;rcases i with rfl|rfl|h|rfl|rfl|⟨p,c,h⟩
  .exact e z
  .exact f z
  .exact l (z▸h)
  .exact d z
  .exact n z
  .rcases h with rfl|rfl
   .exact(b p c).1 z
   .exact(b p c).2 z
 rw[ER a]
def Bd.more(T:Bd G X L t g m nd nn rt W es sp rs mk){b:AOy}(h:∀y∈b,y∈X\/L.length<=y):Bd G b L t g m nd nn rt W es sp rs mk :=
 ⟨T.t_,T.g_,T.gc,T.nd_,T.nn_,T.mk_,T.len,T.rsl,T.nod,T.ndg,T.nng,T.nnr,λy c=>by
  rcases h y c with z|z
  .exact T.out y z
  .have lt:∀j,(j=t\/j=g\/j∈BV es\/j=nd\/j=nn\/∃p∈rs,j=p.1\/j=p.2)->y≠j:=λj d e=>by have:=T.lt d;omega
   exact⟨lt _ (.inl rfl),lt _ (.inr (.inl rfl)),λf=>lt y (.inr (.inr (.inl f))) rfl,lt _ (.inr (.inr (.inr (.inl rfl)))),lt _ (.inr (.inr (.inr (.inr (.inl rfl))))),λp a=>⟨lt _ (.inr (.inr (.inr (.inr (.inr ⟨p,a,.inl rfl⟩))))),lt _ (.inr (.inr (.inr (.inr (.inr ⟨p,a,.inr rfl⟩)))))⟩⟩⟩
def Bd.node(T:Bd G X L t g m nd nn rt W es sp rs mk){k l:Nat}{rest:AOt}(h:DZ G sp k l rest)(q:k≠1):∃r a b f,rs[k]?=some (r,a)/\EN L r (AM G l rest:Int) a b f/\(l=0->b=[])/\∀d,l=d+1->Paired (Fb G sp d) (Bv G d rest) b:=by
 cases l with
 |zero =>
  have s:k=0:=h;subst s;have c:0<rs.length:=by rw[T.len];omega
  obtain⟨f,n⟩:=T.nod 0 rs[0].1 rs[0].2 (by simp[c]);exact⟨_,_,[],f,by simp[c],n,λ_=>rfl,λd e=>by omega⟩
 |succ l =>
  rcases h with⟨_,o⟩|⟨o,j,rfl,p⟩
  .exact absurd o q
  .have hj:j<sp.length:=(Ax.mp p).1;have c:j+2<rs.length:=by rw[T.len];omega
   obtain⟨d,i,b,f,e,n,_,k⟩:=T.nod (j+2) rs[j+2].1 rs[j+2].2 (by simp[c]);rw[p] at e;cases e;exact⟨_,_,b,f,by simp[c],n,λz=>by omega,λd e=>by cases e;exact Sc k λ_ _=>Fb.mono (List.take_prefix _ _)⟩
def Yi{k:AOt}(h:k∈G.map (·.1)):∃a,DC G k=some a/\CO G k=a.length:=by
 obtain⟨e,b,_⟩:=FA h;have:DC G k=some e.2:=by unfold DC;rw[b];rfl
 exact⟨e.2,this,by unfold CO;rw[this];rfl⟩
end
abbrev Bl(g:Nat):Nat->Nat
 |0=>0
 |l+1=>1+g*Bl g l
section
variable {G:Ah}{X:AOy}{L:AB}{t g m nd nn rt:Nat}{W:D}{es:List (AOt×Nat×List D)}{sp:List (Nat×AOt)}{rs:List (Nat×Nat)}{mk:List ((Nat×AOt)×Nat)}{Q:APT}
def ACC(T:Bd G X L t g m nd nn rt W es sp rs mk)(l:Nat)(rest:AOt)(h:Q (.ref L.length) (L++[.lst ((BI G l rest).map Ak)])):W2 (Ki [.ref t,.int (l:Int),Ak rest] L) Q:=by
 unfold Ki;refine Fe rfl ?_;unfold RS;have j:=T.t_;obtain⟨i,d⟩:=T.g_.at_;unfold BI at h;rfl';refine BR (λc=>?_) (λc=>?_)
 .rw[if_pos (by omega)] at h;rfl';refine TW d (DJ.key rest) ?_;have f:(Bo (CV Ak es) (Av (Ak rest))).isSome=decide (rest∈G.map (·.1)):=by rw[AGD DJ,T.gc];exact decide_eq_decide.mpr Iff.rfl
  rw[f]
  by_cases a:rest∈G.map (·.1)
  .rw[if_pos a] at h;rw[decide_eq_true a];rfl';refine Tq rfl ?_;rfl';exact⟨rfl,h⟩
  .rw[if_neg a] at h;rw[decide_eq_false a];rfl';refine Jn rfl ?_;rfl';exact⟨rfl,h⟩
 .rw[if_neg (by omega)] at h;rfl';rw[Su DJ];refine⟨rfl,?_⟩;have b:es.map (λe=>Ak e.1)=(G.map (·.1)).map Ak:=by rw[<-T.gc,Lm,Bx];rfl
  rw[b];exact h
end
abbrev UH(G:Ah)(n l:Nat)(f:Nat):Prop:=∀{X:AOy} {L:AB} {t g m nd nn rt:Nat} {W:D} {es:List (AOt×Nat×List D)} {sp:List (Nat×AOt)} {rs:List (Nat×Nat)} {mk:List ((Nat×AOt)×Nat)} {Q:APT} {rest:AOt},
 Bd G X L t g m nd nn rt W es sp rs mk->(∀x∈X,x<L.length)->rest.length=n->mk.length+Bl G.length l<=16000000->rs.length+Bl G.length l<=16000000 ->
 (∀L2 sp' rs' mk' k,Bd G X L2 t g m nd nn rt W es sp' rs' mk'->sp <+: sp'->mk'.length<=mk.length+Bl G.length l->rs'.length<=rs.length+Bl G.length l->DZ G sp' k l rest->Ay [nd,nn] L L2->Q (.int (k:Int)) L2) ->
 W2 (zh f [.ref t,.int (l:Int),Ak rest] L) Q
def WY{G:Ah}{X o:AOy}{L f:AB}{t g m e i k:Nat}{W:D}{es:List (AOt×Nat×List D)}{c a:List (Nat×AOt)}{l d:List (Nat×Nat)}{mk b:List ((Nat×AOt)×Nat)}(T:Bd G X L t g m e i k W es c l mk)(j:Bd G o f t g m e i k W es a d b)(p:c <+: a)(q:L <+: f):a=c:=by have h:=CY q T.nd_;rw[j.nd_] at h;have n:=congrArg List.length (Ob.lst.inj (Option.some.inj h));rw[AZ,AZ,T.len,j.len] at n;exact(p.eq_of_length (by omega)).symm
def AFc{G:Ah}{n l f:Nat}(cq:l<=1000)(ih:UH G n l f)(hG:(G.map (·.1)).Nodup)(cf:∀a∈G.map (·.1),a.length=n)(hn:n<=1000)(dn:G.length<=16000000)(cx:∀a∈G.map (·.1),CO G a<=16777216)
  {X:AOy} {L:AB} {t g m v nn rt:Nat} {W:D} {es:List (AOt×Nat×List D)} {sp:List (Nat×AOt)} {rs:List (Nat×Nat)} {mk:List ((Nat×AOt)×Nat)} {Q:APT} {rest:AOt}
  (T:Bd G X L t g m v nn rt W es sp rs mk) (hX:∀x∈X,x<L.length) (hr:rest.length=n) (hz:mk.length+Bl G.length (l+1)<=16000000) (di:rs.length+Bl G.length (l+1)<=16000000)
  (h:∀L2 c o u k,Bd G X L2 t g m v nn rt W es c o u->sp <+: c->u.length<=mk.length+G.length*Bl G.length l->o.length<=rs.length+Bl G.length (l+1)->DZ G c k (l+1) rest->Ay [v,nn] L L2->Q (.int (k:Int)) L2) :
  W2 (Mh (zh f) [.ref t,.int ((l+1:Nat):Int),Ak rest] L) Q:=by
 unfold Mh;refine Kx rfl ?_;unfold RG;simp only[Kc];refine BW (λC=>∀L1,EN L1 L.length 0 (L.length+1) [] 0->L1.length=L.length+2->L <+: L1->C [some (.ref t),some (.int ((l+1:Nat):Int)),some (Ak rest),some (.ref L.length),none,none,none] L1) (λC kk=>?_) ?_
 .rfl';refine Se AW λL1 n1 l1 k1=>⟨rfl,?_⟩;have e1:(L++[Ob.ins AO2 []]).length=L.length+1:=by simp
  rw[e1] at n1 l1;have p1:L <+: L1:=(((Ay.app [L.length] L [Ob.ins AO2 []]).trans k1).mono λj hj=>.inr (by simp at hj;omega)).pre;rfl';exact kk _ n1 (by omega) p1
 intro L1 n1 l1 p1;have T1:=T.pre p1;have c6:=Rz (G:=G) (l:=l+1) (rest:=rest)
 have ac:∀x,L.length<=x->x∉[v,nn]:=λx hx hm=>by
  have h1:=DR T.nd_;obtain⟨ep,h2⟩:=T.nn_;have h2:=DR h2;simp only[AY,Dq,or_false] at hm;omega
 refine BW (λC=>∀L' c o u s ep,Bd G (L.length::(L.length+1)::(L.length+2)::X) L' t g m v nn rt W es c o u->sp <+: c->u.length<=mk.length+G.length*Bl G.length l->o.length<=rs.length+G.length*Bl G.length l ->
  EN L' L.length (AM G (l+1) rest:Int) (L.length+1) s ep->Paired (Fb G c l) (Bv G l rest) s->Ay [v,nn] L L'->∀e4 e5 e6,C [some (.ref t),some (.int ((l+1:Nat):Int)),some (Ak rest),some (.ref L.length),e4,e5,e6] L') (λC kk=>?_) ?_
 .have ht1:=T1.t_;rfl';refine ACC T1 (l+1) rest ?_;rfl';generalize bc:L1++[Ob.lst ((BI G (l+1) rest).map Ak)]=L2;have p2:L1 <+: L2:=by rw[<-bc];exact Ac _ _
  have l2:L2.length=L.length+3:=by rw[<-bc];simp[l1]
  have a2:L2[L1.length]?=some (.lst ((BI G (l+1) rest).map Ak)):=by rw[<-bc];exact AW
  have n2:EN L2 L.length 0 (L.length+1) [] 0:=⟨CY p2 n1.1,CY p2 n1.2⟩
  have T2:Bd G (L.length::(L.length+1)::(L.length+2)::X) L2 t g m v nn rt W es sp rs mk:=by
   refine(T.more λy hy=>?_).pre (p1.trans p2);simp only[AY] at hy;rcases hy with rfl|rfl|rfl|hy
   .exact .inr (by omega)
   .exact .inr (by omega)
   .exact .inr (by omega)
   .exact .inl hy
  rw[l1] at a2 ⊢
  refine CN (λj C=>∀L' c o u s ep,Bd G (L.length::(L.length+1)::(L.length+2)::X) L' t g m v nn rt W es c o u->sp <+: c->u.length<=mk.length+j*Bl G.length l->o.length<=rs.length+j*Bl G.length l ->
   EN L' L.length ((DM G l rest ((BI G (l+1) rest).take j)).2:Int) (L.length+1) s ep->Paired (Fb G c l) (DM G l rest ((BI G (l+1) rest).take j)).1 s->L'[L.length+2]?=some (.lst ((BI G (l+1) rest).map Ak))->Ay [v,nn] L L' ->
   ∀e4 e5 e6,C [some (.ref t),some (.int ((l+1:Nat):Int)),some (Ak rest),some (.ref L.length),e4,e5,e6] L') _ 0 _ _ (λC kk=>kk _ sp rs mk [] 0 T2 (AV _) (by omega) (by omega) n2 .nil a2 (.of_pre (p1.trans p2)) none none none) ?_ ?_
  .intro i x hx C C' fi kk L' c o u s ep T' aa ag ai nA pA hL' hk e4 e5 e6;refine fi _ _ (decide_eq_true hL') ?_;rw[As] at hx
   cases ad:(BI G (l+1) rest)[i]? with
   |none=>rw[ad] at hx;cases hx
   |some a =>
   rw[ad] at hx;cases hx;have hi:i<(BI G (l+1) rest).length:=(Ax.mp ad).1;have ba:=Gc (BY ad)
   have bd:DM G l rest ((BI G (l+1) rest).take (0+i+1))=DN G l rest (DM G l rest ((BI G (l+1) rest).take (0+i))) a:=by unfold DM;rw[Tb ad]
   have bn:(i+1)*Bl G.length l<=G.length*Bl G.length l:=ANR _ (by omega);have a9:Bl G.length (l+1)=1+G.length*Bl G.length l:=rfl;rw[ANK,Nat.one_mul] at bn;have cb:(0+i+1)*Bl G.length l=(0+i)*Bl G.length l+Bl G.length l:=by rw[ANK (0+i) 1,Nat.one_mul]
   have dq:(0+i)*Bl G.length l=i*Bl G.length l:=by rw[BM]
   have bm:u.length+Bl G.length l<=16000000:=by omega
   have bt:o.length+Bl G.length l<=16000000:=by omega
   rfl';refine AIO (by rw[cf a ba,hr]) (by omega) (λhb=>?_) (λb hb=>?_)
   .have e7:DN G l rest (DM G l rest ((BI G (l+1) rest).take (0+i))) a=DM G l rest ((BI G (l+1) rest).take (0+i)):=by unfold DN;rw[hb]
    rw[bd,e7] at kk;rfl';exact kk _ c o u s ep T' aa (by omega) (by omega) nA pA hL' hk _ _ _
   .rfl';refine Jn rfl ?_;have ec:((l+1:Nat):Int)-1=(l:Int):=by omega
    rfl';rw[ec];refine ih T' (λy hy=>?_) (by rw[Ts hb,hr]) bm bt λL3 ar ax a7 k3 T3 aj cj da ay ae=>?_
    .have hkl:=hk.1;have dj:=DR hL';simp only[AY] at hy;rcases hy with rfl|rfl|rfl|hy
     .omega
     .omega
     .omega
     .have:=hX y hy;omega
    have al:EN L3 L.length ((DM G l rest ((BI G (l+1) rest).take (0+i))).2:Int) (L.length+1) s ep:=⟨ae.get (ac _ (Ag _)) nA.1,ae.get (ac _ (by omega)) nA.2⟩;have bv:L3[L.length+2]?=some (.lst ((BI G (l+1) rest).map Ak)):=ae.get (ac _ (by omega)) hL';have ao:Paired (Fb G ar l) (DM G l rest ((BI G (l+1) rest).take (0+i))).1 s:=Sc pA λ_ _=>Fb.mono aj;have aw:=ay.one;rfl';refine BR (λcu=>?_) (λcu=>?_)
    .have hk1:k3=1:=by omega
     have am:=aw.mp hk1;have e7:DN G l rest (DM G l rest ((BI G (l+1) rest).take (0+i))) a=DM G l rest ((BI G (l+1) rest).take (0+i)):=by unfold DN;rw[hb];simp only;rw[if_pos am]
     rw[bd,e7] at kk;rfl';exact kk _ ar ax a7 s ep T3 (aa.trans aj) (by omega) (by omega) al ao bv (hk.trans ae) _ _ _
    .have hk1:k3≠1:=by omega
     have am:AM G l b≠0:=λz=>hk1 (aw.mpr z)
     have e7:DN G l rest (DM G l rest ((BI G (l+1) rest).take (0+i))) a=((DM G l rest ((BI G (l+1) rest).take (0+i))).1++[(a,(DM G l rest ((BI G (l+1) rest).take (0+i))).2,b)],(DM G l rest ((BI G (l+1) rest).take (0+i))).2+CO G a*AM G l b):=by unfold DN;rw[hb];simp only;rw[if_neg am]
     rw[bd,e7] at kk
     have a8:Av (Ak a)∉s.map (·.1):=by rw[Js ao];intro hm;obtain⟨y,hy,ca⟩:=Ap.mp hm;have cn:=DJ.kf ca;have bz:=(Lx G l rest ((BI G (l+1) rest).take (0+i))).subset (Bw (f:=λx:AOt×Nat×AOt=>x.1) hy);have bo:((BI G (l+1) rest).take (0+i+1)).Nodup:=List.Sublist.nodup (List.take_sublist _ _) (Ry hG _ _);rw[Fz ad,Gz] at bo;exact bo.2.2 _ bz a (by simp) cn
     have db:s.length<=i:=by have h1:=congrArg List.length (Js ao);rw[AZ,AZ] at h1;have h2:=(Lx G l rest ((BI G (l+1) rest).take (0+i))).length_le;rw[AZ,Eg] at h2;omega
     generalize df:(DM G l rest ((BI G (l+1) rest).take (0+i))).2=wz at *;generalize dg:(DM G l rest ((BI G (l+1) rest).take (0+i))).1=az at *;have cw:=al.1;rfl';refine OW (kk:=Av (Ak a)) al.2 (by omega) (DJ.key a) ?_;have av:=λd ep=>Nq (d:=d) (ep:=ep) a8;rw[(av _ 0).1,(av .non _).2];generalize aq:L3.set (L.length+1) (.dt (s++[(Av (Ak a),.tup [.int (wz:Int),.int (k3:Int)])]) (ep+1))=L4;have T4:Bd G (L.length::(L.length+1)::(L.length+2)::X) L4 t g m v nn rt W es ar ax a7:=by rw[<-aq];exact T3.setX (by simp) _
     have a6:EN L4 L.length (wz:Int) (L.length+1) (s++[(Av (Ak a),.tup [.int (wz:Int),.int (k3:Int)])]) (ep+1):=by rw[<-aq];exact⟨Fh (by omega) al.1,Ci al.2⟩
     have bh:L4[L.length+2]?=some (.lst ((BI G (l+1) rest).map Ak)):=by rw[<-aq];exact Fh (by omega) bv
     have cg:Ay [v,nn] L L4:=by rw[<-aq];exact(hk.trans ae).set (.inr (by omega))
     have dh:=T4.t_;obtain⟨cy,b8⟩:=T4.g_.at_;have bu:=T4.nd_;obtain⟨ds,b9,bf⟩:=Yi ba;obtain⟨q,cr,dc⟩:=T4.g_.get DJ (k:=a) (ds:=ds) (by rw[T4.gc];exact b9);obtain⟨r0,a0,cz,bp,ci,m0,_⟩:=T4.node ay hk1;have bw:=a6.1;have dm:=m0.1;rfl';refine AIT a6.1 (by simp) rfl ?_;rfl';refine Hk (kk:=Av (Ak a)) b8 (DJ.key a) cr ?_;rfl';refine BZ (d:=.ref r0) bu (Dc (by rw[As,ci];rfl)) ?_;rfl';refine Ca (FP (by have:=cx a ba;rw[bf] at this;omega)) ?_;refine⟨_,_,rfl,bw,by show 2<1000;decide,?_⟩;refine kk _ ar ax a7 _ (ep+1) (T4.setX (by simp) _) (aa.trans aj) (by omega) (by omega) ⟨?_,Fh (by omega) a6.2⟩ (AE4 ao ⟨k3,rfl,ay⟩) (Fh (by omega) bh) (cg.set (.inr (Ag _))) _ _ _;rw[Ci bw,bf];push_cast;rfl
  .intro C' fi L' c o u s ep T' aa ag ai nA pA hL' hk e4 e5 e6;rw[AZ,BM] at ag ai;have c7:=ANR (Bl G.length l) c6;refine fi _ _ (decide_eq_true hL') (kk _ c o u s ep T' aa (by omega) (by omega) ?_ ?_ hk _ _ _)
   .rw[AZ,BM,Dy,Zy] at nA;exact nA
   .rw[AZ,BM,Dy] at pA;exact pA
 intro L3 c o u s ep T' aa ag ai nA pA hk e4 e5 e6;have TX:Bd G X L3 t g m v nn rt W es c o u:=T'.more λy hy=>.inl (by simp[hy]);have cw:=nA.1;have cm:=TX.t_;have w:=TX.nd_;rfl';refine BR (λam=>?_) (λam=>?_)
 .have hw:AM G (l+1) rest=0:=by omega
  rfl';have a9:Bl G.length (l+1)=1+G.length*Bl G.length l:=rfl;refine⟨λhp _=>?_,h L3 c o u 1 TX aa ag (by omega) (.inl ⟨hw,rfl⟩) hk⟩;exact h L sp rs mk 1 T (AV _) (by omega) (by omega) (.inl ⟨hw,rfl⟩) (.refl _ _)
 .have hw:AM G (l+1) rest≠0:=by omega
  have c7:=hz;have a9:Bl G.length (l+1)=1+G.length*Bl G.length l:=rfl;rfl';refine GJ w (by rw[AZ];omega) ?_;have b7:(L3.set v (.lst (o.map (λp=>D.ref p.1)++[.ref L.length])))[v]?=some (.lst (o.map (λp=>D.ref p.1)++[.ref L.length])):=Ci w;have cp:(L3.set v (.lst (o.map (λp=>D.ref p.1)++[.ref L.length])))[t]?=some (.ins AO1 (Nj W g m v nn rt)):=OQ w cm (by simp);rfl';have el:(((o.map (λp=>D.ref p.1)++[D.ref L.length]).length:Nat):Int)-1=((c.length+2:Nat):Int):=by rw[CG,AZ,T'.len];simp
  rw[el];have au:v≠L.length/\v≠L.length+1:=by have:=DR T.nd_;omega
  have pq:c <+: c++[(l,rest)]:=Ac _ _
  have T5:Bd G X (L3.set v (.lst (o.map (λp=>D.ref p.1)++[.ref L.length]))) t g m v nn rt W es (c++[(l,rest)]) (o++[(L.length,L.length+1)]) u:=by
   have stay:∀j,j≠v->(L3.set v (.lst (o.map (λp=>D.ref p.1)++[.ref L.length])))[j]?=L3[j]?:=λj hj=>ER (Ne.symm hj);obtain⟨cy,bj⟩:=TX.g_.at_;obtain⟨c8,ak⟩:=TX.nn_;have ck:g≠v:=λz=>by rw[z,w] at bj;cases bj
   have c9:nn≠v:=λz=>by rw[z,w] at ak;cases ak
   refine⟨cp,TX.g_.same (stay g ck) λq hq=>stay q λz=>TX.ndg (z▸hq),TX.gc,by rw[b7];simp,⟨c8,(stay nn c9).trans ak⟩,λe he=>(TX.mk_ e he).mono pq,by rw[CG,CG,TX.len];simp,?rsl,λi r a hi=>?_,TX.ndg,TX.nng,λp hp=>?_,λx hx=>?_⟩
   case rsl =>
    have a9:Bl G.length (l+1)=1+G.length*Bl G.length l:=rfl;rw[CG];simp only[List.length_singleton];omega
   .by_cases hlt:i<o.length
    .rw[FK hlt] at hi;have hN:=TX.nod i r a hi;obtain⟨w0,cz,bp,m0⟩:=hN.node;refine hN.mono pq (stay r λz=>?_) (stay a λz=>?_)
     .have:=m0.1;rw[z,w] at this;cases this
     .have:=m0.2;rw[z,w] at this;cases this
    .have hi':i=c.length+2:=by
      have:=(Ax.mp hi).1;rw[CG,TX.len] at this;rw[TX.len] at hlt;simp at this;omega
     subst hi';rw[ANI (by rw[TX.len];exact Ag _),TX.len,Nat.sub_self] at hi;cases hi;exact⟨l,rest,s,ep,by simp,⟨(stay _ (Ne.symm au.1)).trans nA.1,(stay _ (Ne.symm au.2)).trans nA.2⟩,cq,Sc pA λ_ _=>Fb.mono (by rw[List.take_left];exact AV _)⟩
   .rcases CF.mp hp with hp|hp
    .exact TX.nnr p hp
    .have:p=(L.length,L.length+1):=by simpa using hp
     subst this;obtain⟨bp,h0⟩:=T.nn_;have:=DR h0;show nn≠L.length+1;omega
   .obtain⟨h1,h2,h3,h4,h5,h6⟩:=TX.out x hx;refine⟨h1,h2,h3,h4,h5,λp hp=>?_⟩;rcases CF.mp hp with hp|hp
    .exact h6 p hp
    .have:p=(L.length,L.length+1):=by simpa using hp
     subst this;have:=hX x hx;exact⟨by show x≠L.length;omega,by show x≠L.length+1;omega⟩
  refine⟨λhp _=>?_,h _ (c++[(l,rest)]) (o++[(L.length,L.length+1)]) u (c.length+2) T5 (aa.trans pq) ag (by simp;omega) (.inr ⟨hw,c.length,rfl,by simp⟩) (hk.set (.inl (by simp)))⟩;have br:=WY T T5 (aa.trans pq) hp;have:=congrArg List.length br;have hl:=aa.length_le;rw[CG] at this;simp at this;omega
abbrev EV(mk:List ((Nat×AOt)×Nat))(k:Nat×AOt)(v:Nat):List ((Nat×AOt)×Nat):=if k∈mk.map (·.1) then mk.map (λe=>if e.1=k then (e.1,v) else e) else mk++[(k,v)]
def ADp(mk:List ((Nat×AOt)×Nat))(k:Nat×AOt)(v:Nat):(EV mk k v).length<=mk.length+1:=by
 unfold EV;split
 .rw[AZ];omega
 .simp
def ADo{mk:List ((Nat×AOt)×Nat)}{k:Nat×AOt}{v:Nat}{e:(Nat×AOt)×Nat}(h:e∈EV mk k v):e∈mk\/e=(k,v):=by
 unfold EV at h;split at h
 .obtain⟨x,hx,rfl⟩:=Ap.mp h
  by_cases z:x.1=k
  .rw[if_pos z];exact .inr (by rw[z])
  .rw[if_neg z];exact .inl hx
 .rcases CF.mp h with h|h
  .exact .inl h
  .exact .inr (by simpa using h)
def ADW(mk:List ((Nat×AOt)×Nat))(k:Nat×AOt)(v:Nat):ED (EV mk k v)=DQ (ED mk) (Av (EI k)) (.int (v:Int)):=by
 by_cases h:k∈mk.map (·.1)
 .have b:((ED mk).any λd=>decide (d.1=Av (EI k)))=true:=by
   obtain⟨e,a,rfl⟩:=Ap.mp h;rw[List.any_eq_true];exact⟨(Av (EI e.1),.int (e.2:Int)),Bw (f:=λe:(Nat×AOt)×Nat=>(Av (EI e.1),D.int (e.2:Int))) a,by simp⟩
  unfold DQ;rw[if_pos b];unfold EV;rw[if_pos h];unfold ED;rw[Bx,Bx];apply Ga;intro e _
  show(Av (EI (if e.1=k then (e.1,v) else e).1),D.int ((if e.1=k then (e.1,v) else e).2:Int))=if Av (EI e.1)=Av (EI k) then (Av (EI e.1),D.int (v:Int)) else (Av (EI e.1),D.int (e.2:Int))
  by_cases z:e.1=k
  .rw[if_pos z,if_pos (by rw[z])]
  .rw[if_neg z,if_neg (λy=>z (Ie.kf y))]
 .have hn:Av (EI k)∉(ED mk).map (·.1):=λc=>by
   unfold ED at c;rw[Bx] at c;obtain⟨e,a,b⟩:=Ap.mp c;exact h (by rw[<-Ie.kf b];exact Bw a)
  rw[(Nq (ep:=0) hn).1];unfold EV;rw[if_neg h];unfold ED;rw[Cg];rfl
def AGB(mk:List ((Nat×AOt)×Nat))(k:Nat×AOt)(v:Nat):Bo (ED (EV mk k v)) (Av (EI k))=some (.int (v:Int)):=by
 rw[Xr]
 have c:k∈(EV mk k v).map (·.1):=by
  unfold EV
  by_cases h:k∈mk.map (·.1)
  .rw[if_pos h,Bx];obtain⟨e,a,b⟩:=Ap.mp h;refine Ap.mpr ⟨e,a,?_⟩
   show(if e.1=k then (e.1,v) else e).1=k
   rw[if_pos b];exact b
  .rw[if_neg h];simp
 obtain⟨e,f,a,d⟩:=FA c;rw[f];unfold EV at a
 by_cases h:k∈mk.map (·.1)
 .rw[if_pos h] at a;obtain⟨x,_,rfl⟩:=Ap.mp a
  by_cases z:x.1=k
  .rw[if_pos z];rfl
  .rw[if_neg z] at d;exact absurd d z
 .rw[if_neg h] at a;rcases CF.mp a with a|a
  .exact absurd (by rw[<-d];exact Bw a) h
  .have:e=(k,v):=by simpa using a
   rw[this];rfl
def Xb{G:Ah}{n:Nat}(hG:(G.map (·.1)).Nodup)(ag:∀a∈G.map (·.1),a.length=n)(hn:n<=1000)(ac:G.length<=16000000)(ai:∀a∈G.map (·.1),CO G a<=16777216):∀(l f:Nat),l<f->f<=1000->UH G n l f
 |0,0,s,_=>absurd s (by omega)
 |0,f+1,s,hf1=>by
  intro T hX hr hz al h;rename_i X L t g m y u rt W es sp rs mk Q rest;unfold zh;refine BP rfl ?_;unfold Mb;simp only[NM];rfl';exact⟨rfl,AV _,h L sp rs mk 0 T (AV _) (by omega) (by omega) rfl (.refl _ _)⟩
 |l+1,0,s,_=>absurd s (by omega)
 |l+1,f+1,s,hf1=>by
  intro T hX hr hz al h;rename_i X L t g m y u rt W es sp rs mk Q rest;have ih:UH G n l f:=Xb hG ag hn ac ai l f (by omega) (by omega);unfold zh;refine Kx rfl ?_;unfold Mb;have ht:=T.t_;obtain⟨bc,aa⟩:=T.nn_;have bd:Bl G.length (l+1)=1+G.length*Bl G.length l:=rfl;rfl';refine TW aa (Ie.key (l+1,rest)) ?_;have p:=Xr mk (l+1,rest)
  cases s:mk.find? (λe=>decide (e.1=(l+1,rest))) with
  |some e =>
   rw[s] at p;have aw:=AOb s;have av:e.1=(l+1,rest):=by have:=List.find?_some s;simpa using this
   have k:=T.mk_ e aw;rw[av] at k;rw[p];rfl';refine Jn rfl ?_;rfl';refine Hk (kk:=Av (EI (l+1,rest))) aa (Ie.key (l+1,rest)) p ?_;refine⟨λ_ _=>h L sp rs mk e.2 T (AV _) (by omega) (by omega) k (.refl _ _),h L sp rs mk e.2 T (AV _) (by omega) (by omega) k (.refl _ _)⟩
  |none =>
   rw[s] at p;rw[p];rfl';refine Tq rfl ?_;rfl';refine AFc (by omega) ih hG ag hn ac ai T hX hr hz al λL2 ae ad b o d w ay a6 v au=>?_;have ar:=d.t_;obtain⟨ax,c⟩:=d.nn_;rfl';refine OW (kk:=Av (EI (l+1,rest))) c (by unfold ED;rw[AZ];omega) (Ie.key (l+1,rest)) ?_;have aj:=ADW b (l+1,rest) o;rw[<-aj];have ak:=AGB b (l+1,rest) o;have am:u≠y:=λz=>by have:=d.nd_;rw[<-z,c] at this;cases this
   generalize ba:epN (ED b) (Av (EI (l+1,rest))) ax=ep3;have x:(L2.set u (.dt (ED (EV b (l+1,rest) o)) ep3))[u]?=some (.dt (ED (EV b (l+1,rest) o)) ep3):=Ci c;have stay:∀j,j≠u->(L2.set u (.dt (ED (EV b (l+1,rest) o)) ep3))[j]?=L2[j]?:=λj hj=>ER (Ne.symm hj);have aq:(L2.set u (.dt (ED (EV b (l+1,rest) o)) ep3))[t]?=some (.ins AO1 (Nj W g m y u rt)):=OQ c ar (by simp)
   have T3:Bd G X (L2.set u (.dt (ED (EV b (l+1,rest) o)) ep3)) t g m y u rt W es ae ad (EV b (l+1,rest) o):=by
    refine⟨aq,d.g_.same (stay g (Ne.symm d.nng)) λq hq=>stay q λz=>?_,d.gc,(stay y (Ne.symm am)).trans d.nd_,⟨ep3,x⟩,λe he=>?_,d.len,d.rsl,λi r a hi=>?_,d.ndg,d.nng,d.nnr,d.out⟩
    .obtain⟨e,he,rfl⟩:=Ap.mp hq;have:=d.g_.it e he;rw[z,c] at this;cases this
    .rcases ADo he with h'|rfl
     .exact d.mk_ e h'
     .exact v
    .have hN:=d.nod i r a hi;obtain⟨w0,a8,a9,m0⟩:=hN.node;refine hN.mono (AV _) (stay r λz=>?_) (stay a λz=>?_)
     .have:=m0.1;rw[z,c] at this;cases this
     .exact d.nnr _ (BY hi) z.symm
   have a7:=ADp b (l+1,rest) o;rfl';refine Hk (kk:=Av (EI (l+1,rest))) x (Ie.key (l+1,rest)) ak ?_;refine⟨λhp _=>?_,h _ ae ad _ o T3 w (by omega) (by omega) v (au.set (.inl (by simp)))⟩;have ao:=WY T T3 w hp;rw[ao] at v;exact h L sp rs mk o T (AV _) (by omega) (by omega) v (.refl _ _)
def Ya{w:AOt}:∀(A:List (AOt×List D)) {c:List (AOt×List D)} {a:AOt} {ps:List D},(a,ps)∈A.foldl (Bb w) c->∀p∈ps,(∃e,(a,e)∈c/\p∈e)\/∃x∈A,x.1=a/\p∈x.2
 |[],c,a,ps,h,p,hp=>.inl ⟨ps,h,hp⟩
 |x::A,c,a,ps,h,p,hp=>by
  rcases Ya A (c:=Bb w c x) h p hp with⟨e,d,b⟩|⟨y,f,d,b⟩
  .unfold Bb at d;split at d
   .rcases Ix d with h'|⟨h3,h'|⟨zs,h',h4⟩⟩
    .exact .inl ⟨e,h',b⟩
    .exact .inr ⟨x,BC,h3.symm,by rw[<-h'];exact b⟩
    .rw[h4] at b;rcases CF.mp b with b|b
     .exact .inl ⟨zs,by rw[h3];exact h',b⟩
     .exact .inr ⟨x,BC,h3.symm,b⟩
   .exact .inl ⟨e,d,b⟩
  .exact .inr ⟨y,BD _ f,d,b⟩
def Wz{ts:AOt}:∀(A:List D) {c:List (AOz×List D)} {a:AOz} {ps:List D},(a,ps)∈A.foldl (CA ts) c->∀p∈ps,(∃g,(a,g)∈c/\p∈g)\/(p∈A/\EU ts p=some a)
 |[],c,a,ps,h,p,i=>.inl ⟨ps,h,i⟩
 |x::A,c,a,ps,h,p,i=>by
  rcases Wz A (c:=CA ts c x) h p i with⟨g,d,b⟩|⟨d,b⟩
  .unfold CA at d
   cases e:EU ts x with
   |none=>rw[e] at d;exact .inl ⟨g,d,b⟩
   |some m =>
    rw[e] at d
    have k:∀p,p∈[x]->(p∈x::A/\EU ts p=some m):=λp i=>by
     have:p=x:=by simpa using i
     subst this;exact⟨BC,e⟩
    rcases Ix d with f|⟨j,f|⟨n,f,l⟩⟩
    .exact .inl ⟨g,f,b⟩
    .rw[f] at b;rw[j];exact .inr (k p b)
    .rw[l] at b;rcases CF.mp b with b|b
     .exact .inl ⟨n,by rw[j];exact f,b⟩
     .rw[j];exact .inr (k p b)
  .exact .inr ⟨BD _ d,b⟩
def Ww{ts:AOt}{ks:AOz}{ps:List D}(h:(ks,ps)∈Bq ts){p:D}(b:p∈ps):p∈Cv/\EU ts p=some ks:=by
 rcases Wz Cv h p b with⟨_,a,_⟩|a
 .cases a
 .exact a
def Yb{w:AOt}:∀(A:List (AOt×List D)) {c:List (AOt×List D)} {a:AOt},a∈(A.foldl (Bb w) c).map (·.1)->a∈c.map (·.1)\/∃x∈A,x.1=a
 |[],c,a,h=>.inl h
 |x::A,c,a,h=>by
  rcases Yb A (c:=Bb w c x) h with b|⟨y,d,b⟩
  .unfold Bb at b;split at b
   .rw[UA] at b;split at b
    .exact .inl b
    .rcases CF.mp b with b|b
     .exact .inl b
     .have h5:a=x.1:=by simpa using b
      exact .inr ⟨x,BC,h5.symm⟩
   .exact .inl b
  .exact .inr ⟨y,BD _ d,b⟩
def Ou{ws ts:AOt}{x:AOt×List D}(h:x∈Ce ws ts++Er ts (Bq ts)):(∃w∈ws,x=(ts.map (λ_=>w),[HC w]))\/∃s∈Bq ts,∃e∈Bq ts,∃d∈Di,FD ts s.1 e.1=true/\x=GO ts s e d:=by
 rcases CF.mp h with h|h
 .obtain⟨w,hw,rfl⟩:=Ap.mp h;exact .inl ⟨w,hw,rfl⟩
 .obtain⟨s,hs,h⟩:=Dz.mp h;obtain⟨e,a,h⟩:=Dz.mp h;unfold CZ at h;split at h
  .obtain⟨d,hd,rfl⟩:=Ap.mp h;exact .inr ⟨s,hs,e,a,d,hd,by assumption,rfl⟩
  .cases h
def Yf{ws ts w:AOt}{a:AOt}(h:a∈(Ch ws ts w).map (·.1)):a.length=ts.length:=by
 rcases Yb _ h with h|⟨x,b,rfl⟩
 .cases h
 .rcases Ou b with⟨w,_,rfl⟩|⟨s,_,e,_,d,_,_,rfl⟩
  .simp
  .unfold GO;simp[Ti]
def Ye(ws ts w:AOt):((Ch ws ts w).map (·.1)).Nodup:=YZ _ .nil
abbrev Oz(ws ts:AOt)(a:AOt)(p:D):Prop:=EL ws p/\dNK p=some (Av p)/\∀i,i<ts.length->CB (ts.getD i "") p=.str (a.getD i "")
def TC{ts:AOt}{p:D}{ks:AOz}(h:EU ts p=some ks){i:Nat}(b:i<ts.length):DG p (ts.getD i "")=.int (ks.getD i 0):=by
 have e:=LU h;have c:ks.length=ts.length:=by have:=congrArg List.length e;simpa using this.symm
 have a:=congrArg (λl=>l[i]?) e;simp only[As] at a;have f:ts[i]?=some (ts.getD i ""):=by simp[b]
 have d:ks[i]?=some (ks.getD i 0):=by simp[c,b]
 rw[f,d] at a;exact Option.some.inj a
def Yd{ws ts w:AOt}{a:AOt}{ps:List D}(h:(a,ps)∈Ch ws ts w){p:D}(hp:p∈ps):Oz ws ts a p:=by
 rcases Ya _ h p hp with⟨_,z,_⟩|⟨x,l,rfl,c⟩
 .cases z
 .rcases Ou l with⟨w,hw,rfl⟩|⟨s,hs,e,he,d,hd,hlt,rfl⟩
  .have:p=HC w:=by simpa using c
   subst this;refine⟨.inl ⟨w,hw,rfl⟩,LR rfl,λi b=>?_⟩;have:(ts.map λ_=>w).getD i ""=w:=by simp[b]
   rw[this];rfl
  .unfold GO Eb at c;simp only[Dz,Ap] at c;obtain⟨x,l,y,u,rfl⟩:=c;obtain⟨j,f⟩:=Ww (ks:=s.1) (ps:=s.2) hs l;obtain⟨q,m⟩:=Ww (ks:=e.1) (ps:=e.2) he u;have r:=SU x j;have o:=SU y q
   have g:Iz d:=by simp only[Di,AY,Dq,or_false] at hd;exact hd
   refine⟨.inr ⟨d,x,y,rfl,g,r,o⟩,?_,λi b=>?_⟩
   .obtain⟨k,n,e,rfl,_⟩:=r;obtain⟨k',t,e',rfl,_⟩:=o;exact LR rfl
   .have i1:=TC f b;have v:=TC m b;have hl:=of_decide_eq_true (CM.mp hlt i (CK.mpr b))
    have ec:((Ea ts s.1 e.1 ts.length).map (EZ d)).getD i ""=EZ d (Txt.slice (ts.getD i "") (some (s.1.getD i 0)) (some (e.1.getD i 0))):=by unfold Ea;simp[b]
    show CB (ts.getD i "") (.tup [.str d,x,y])=.str (((Ea ts s.1 e.1 ts.length).map (EZ d)).getD i "");rw[ec];obtain⟨k',t,e',rfl,_⟩:=o;rw[LJ];rw[i1,v];simp only;rw[if_neg (by omega)]
def Zc{U:Type}{p q:U->Bool}(h:∀x,p x=true->q x=false):∀l:List U,l.countP p+l.countP q<=l.length
 |[]=>by simp
 |x::l=>by
  have b:=Zc h l;rw[ANx,ANx,Dm]
  cases a:p x with
  |false=>cases c:q x <;> simp <;> omega
  |true=>rw[h x a];simp;omega
abbrev Gg{U:Type}(r:U->U->Bool)(l m:List U):Nat:=(l.map λx=>m.countP (r x)).sum
def AE5{U:Type}(r:U->U->Bool)(x:U)(l m:List U):Gg r l (x::m)=Gg r l m+l.countP (λy=>r y x):=by
 unfold Gg
 induction l with
 |nil=>rfl
 |cons y l a =>
  rw[Al,Al,FJ,FJ,a,ANx,ANx];omega
def XQ{U:Type}{r:U->U->Bool}(h:∀x y,r x y=true->r y x=false):∀l:List U,2*Gg r l l<=l.length*l.length
 |[]=>by simp[Gg]
 |x::l=>by
  have d:=XQ h l
  have c:r x x=false:=by
   cases e:r x x with
   |false=>rfl
   |true=>rw[h x x e] at e;cases e
  have b:Gg r (x::l) (x::l)=(x::l).countP (r x)+Gg r l (x::l):=by unfold Gg;rw[Al,FJ]
  rw[b,AE5,ANx,c];have g:=Zc (p:=r x) (q:=λy=>r y x) (λy a=>h x y a) l;simp only[ANX,if_false,Dm]
  have f:(l.length+1)*(l.length+1)=l.length*l.length+2*l.length+1:=by rw[ANK,Nat.mul_add];omega
  omega
def Yw{U β:Type}(f:U->List β)(n:U->Nat)(h:∀x,(f x).length=n x):∀l:List U,(l.flatMap f).length=(l.map n).sum
 |[]=>rfl
 |x::l=>by rw[EA,CG,h,Yw f n h l,Al,FJ]
def XS(ts:AOt)(s:AOz×List D):∀P:List (AOz×List D),(P.flatMap λe=>CZ ts s e).length=3*P.countP λe=>FD ts s.1 e.1
 |[]=>rfl
 |e::P=>by
  rw[EA,CG,XS ts s P,ANx];unfold CZ
  by_cases h:FD ts s.1 e.1=true
  .rw[if_pos h,if_pos h];simp[Di];omega
  .rw[if_neg h,if_neg h];simp
def WH{U:Type}(f:U->Nat):∀l:List U,(l.map λx=>3*f x).sum=3*(l.map f).sum
 |[]=>rfl
 |x::l=>by rw[Al,FJ,WH f l,Al,FJ];omega
def AIm(ts:AOt):(Er ts (Bq ts)).length<=2400:=by
 have m:=Nw ts
 have n:(Er ts (Bq ts)).length=3*Gg (λs e=>FD ts s.1 e.1) (Bq ts) (Bq ts):=by unfold Er;rw[Yw _ (λs=>3*(Bq ts).countP λe=>FD ts s.1 e.1) (λs=>XS ts s _),WH];rfl
 rw[n]
 cases ts with
 |nil =>
  have d:(Bq []).length<=1:=by
   have f:((Bq []).map (·.1)).Nodup:=by
    have:∀(A:List D) (c:List (AOz×List D)),(c.map (·.1)).Nodup->((A.foldl (CA []) c).map (·.1)).Nodup:=by
     intro A
     induction A with
     |nil=>intro c h;exact h
     |cons x A o =>
      intro c h;refine o _ ?_;unfold CA;split
      .exact Lz h
      .exact h
    exact this Cv [] .nil
   match h:Bq [] with
   |[]=>simp
   |[_]=>simp
   |a::b::r =>
    rw[h] at f;have k:a.1=[]:=ANV.mp (Nv (ts:=[]) (by rw[h];simp));have i:b.1=[]:=ANV.mp (Nv (ts:=[]) (by rw[h];simp));rw[Al,Al,Gy] at f;exact absurd (by rw[k,i];simp) f.1
  have i:Gg (λs e:AOz×List D=>FD [] s.1 e.1) (Bq []) (Bq [])<=1:=by
   unfold Gg
   match h:Bq [] with
   |[]=>simp
   |[a] =>
    simp only[Al,ANk,FJ,List.sum_nil];have:=List.countP_le_length (p:=λe:AOz×List D=>FD [] a.1 e.1) (l:=[a]);simp at this ⊢;omega
   |a::b::r=>rw[h] at d;simp at d
  omega
 |cons t ts =>
  have h:=XQ (r:=λs e:AOz×List D=>FD (t::ts) s.1 e.1) (λs e g=>by
   rw[AOB];intro j;have k:=of_decide_eq_true (CM.mp g 0 (CK.mpr (by simp)));have i:=of_decide_eq_true (CM.mp j 0 (CK.mpr (by simp)))
   omega) (Bq (t::ts))
  have q:(Bq (t::ts)).length*(Bq (t::ts)).length<=40*40:=ANa m.1 m.1;omega
def AAI{ws ts:AOt}{x:AOt×List D}(h:x∈Ce ws ts++Er ts (Bq ts)):x.2.length<=1600:=by
 rcases Ou h with⟨w,_,rfl⟩|⟨s,b,e,a,d,_,_,rfl⟩
 .simp
 .show(Eb d s.2 e.2).length<=1600;rw[Iw];exact ANa ((Nw ts).2 s b) ((Nw ts).2 e a)
def TR{ws:AOt}(hw:ws.length<=6)(ts w:AOt):(Ch ws ts w).length<=2406/\Ei (Ch ws ts w)<=4000000/\∀e∈Ch ws ts w,e.2.length<=4000000:=by
 have f:(Ce ws ts++Er ts (Bq ts)).length<=2406:=by
  rw[CG];have:=AIm ts;have:(Ce ws ts).length=ws.length:=by unfold Ce;simp
  omega
 have d:=OO (w:=w) (Ce ws ts++Er ts (Bq ts)) Lq λa b=>AAI b;have i:=YW (w:=w) (m:=1600) (Ce ws ts++Er ts (Bq ts)) (c:=[]) .nil λa b=>AAI b;have j:=ANR 1600 f;have h:Ei ([]:List (AOt×List D))=0:=rfl;refine⟨?_,?_,λe g=>?_⟩
 .have:=d.1;unfold Ch;omega
 .unfold Ch;omega
 .have:=d.2 e g;omega
def WF{ws:AOt}(hw:ws.length<=6)(ts w:AOt){a:AOt}(h:a∈(Ch ws ts w).map (·.1)):CO (Ch ws ts w) a<=4000000:=by
 obtain⟨e,b,c,_⟩:=FA h;have:CO (Ch ws ts w) a=e.2.length:=by unfold CO DC;rw[b];rfl
 rw[this];exact(TR hw ts w).2.2 e c
abbrev BS(exs:Es):Es:=(Cw (exs.map Bj)).map λi=>exs.getD i ("","")
def ACv(exs:Es):sortP (exs.map Bj)=(BS exs).map Bj:=by unfold sortP BS;rw[Bx];apply Ga;intro i b;have a:=CK.mp ((LL (exs.map Bj)).mem_iff.mp b);rw[AZ] at a;show(exs.map Bj).getD i D.non=Bj (exs.getD i ("",""));simp[a]
def Nn(exs:Es):(BS exs).Perm exs:=by have h:=(LL (exs.map Bj)).map λi=>exs.getD i (("",""):Str×Str);rw[AZ,Wm] at h;exact h
def AIe(exs:Es):(exs.map Bj).all isPr=true:=by rw[CM];intro d a;obtain⟨e,_,rfl⟩:=Ap.mp a;exact decide_eq_true rfl
def AGu{Q:APT}{L:AB}{k:Nat}{exs:Es}(e:L[k]?=some (.lst (exs.map Bj)))(hz:exs.length<64)(h:Q (.ref L.length) (L++[.lst ((BS exs).map Bj)])):W2 (LZ [.ref k] L) Q:=by refine⟨_,_,?_,h⟩;unfold LZ;simp only[e];rw[if_pos (by rw[AIe,AZ];simp[hz]),ACv]
abbrev cs(g:Nat):Nat->Nat
 |0=>0
 |j+1=>cs g j+Bl g (j+1)
abbrev HS(L:AB)(t:Nat)(ws:AOt)(G:Ah)(wd:AOt):Prop:=∀P:Prop,(∀g m nd nn rt es sp rs mk (ks:AOy),Bd G [] L t g m nd nn rt (Ak ws) es sp rs mk->(∃ep,L[m]?=some (.dt (Bz (DT G)) ep))->L[rt]?=some (.lst (ks.map λ(k:Nat)=>D.int (k:Int)))->ks.length=3->(∀i k,ks[i]?=some k->DZ G sp k (i+1) wd)->P)->P
def HS.pre{L L':AB}{t:Nat}{ws:AOt}{G:Ah}{wd:AOt}(T:HS L t ws G wd)(p:L <+: L'):HS L' t ws G wd:=by refine T _ λg m b i c o l e mk k T a j h n=>?_;obtain⟨f,a⟩:=a;exact λP d=>d g m b i c o l e mk k (T.pre p) ⟨f,CY p a⟩ (CY p j) h n
abbrev HU(b:Nat)(L:AB)(t:Nat)(ws:AOt)(G:Ah)(wd:AOt):Prop:=∀P:Prop,(∀g m nd nn rt es sp rs mk (ks:AOy),Bd G (List.range b) L t g m nd nn rt (Ak ws) es sp rs mk->(b<=m/\b<=rt)->(∃ep,L[m]?=some (.dt (Bz (DT G)) ep))->L[rt]?=some (.lst (ks.map λ(k:Nat)=>D.int (k:Int)))->ks.length=3->(∀i k,ks[i]?=some k->DZ G sp k (i+1) wd)->P)->P
def HU.tab{b:Nat}{L:AB}{t:Nat}{ws:AOt}{G:Ah}{wd:AOt}(T:HU b L t ws G wd):HS L t ws G wd:=by refine T _ λg m a j p o l d mk k T _ h i n f=>?_;exact λP c=>c g m a j p o l d mk k (T.more (λ_ e=>(nomatch e))) h i n f
def HU.pre{b:Nat}{L L':AB}{t:Nat}{ws:AOt}{G:Ah}{wd:AOt}(T:HU b L t ws G wd)(p:L <+: L'):HU b L' t ws G wd:=by refine T _ λg m c j d r o f mk n T l a k i q=>?_;obtain⟨h,a⟩:=a;exact λP e=>e g m c j d r o f mk n (T.pre p) l ⟨h,CY p a⟩ (CY p k) i q
def HU.set{b:Nat}{L:AB}{t k:Nat}{ws:AOt}{G:Ah}{wd:AOt}(T:HU b L t ws G wd)(h:k<b)(o:Ob):HU b (L.set k o) t ws G wd:=by refine T _ λg m c l d u r f mk q T p a n j s=>?_;obtain⟨i,a⟩:=a;exact λP e=>e g m c l d u r f mk q (T.setX (CK.mpr h) o) p ⟨i,Fh (by omega) a⟩ (Fh (by omega) n) j s
def AHT{x l N g:Nat}(h:x<l\/x=N+1+7\/x=N+1+8)(b:g=l+3)(a:g<N)(n:Nat)(c:n<=7):x≠N+n:=by omega
def AHV{x l N g:Nat}(h:x<l\/x=N+1+7\/x=N+1+8)(b:g=l+3)(a:g<N):x≠g:=by omega
def AHU{x l N g:Nat}(h:x<l\/x=N+1+7\/x=N+1+8)(a:g=l+3)(b:x<N)(c:g<x):False:=by omega
def ACG{Q:APT}{L:AB}{w ex:Nat}{ws:AOt}{exs:Es}(hw:L[w]?=some (.lst (ws.map D.str)))(hl:ws.length<=6)(he:L[ex]?=some (.lst (exs.map Bj)))(c:JA exs)(bu:exs.length<60)
  (h:∀m t,L <+: m->HU L.length m t ws (Ch ws ((BS exs).map (·.1)) ((BS exs).map (·.2))) ((BS exs).map (·.2))->Q (.ref t) m):W2 (Kg [.ref w,.ref ex] L) Q:=by
 unfold Kg;refine Fe rfl ?_;unfold RA;simp only[JL];have ax:(BS exs).length=exs.length:=(Nn exs).length_eq;generalize s:(BS exs).map (·.1)=ts at h;generalize ak:(BS exs).map (·.2)=wd at h;have bw:ts.length=exs.length:=by rw[<-s,AZ,ax]
 have av:wd.length=ts.length:=by rw[<-s,<-ak,AZ,AZ]
 have ok:Ow ts:=⟨λy o=>by
  rw[<-s] at o;obtain⟨e,he,rfl⟩:=Ap.mp o;have:=c e ((Nn exs).mem_iff.mp he)
  exact⟨this.1,this.2.1⟩,by omega⟩
 generalize hS:BS exs=S at s ak ax;rfl';refine AGu he (by omega) ?_;rw[hS];rfl'
 refine Hv (λZ=>∃e,Z=[e]) (λx=>match x with|.tup [.str a,.str b]=>.str a|_=>.non) (λag=>decide_eq_true (AQ AW)) ⟨_,rfl⟩ (by rw[AZ];omega) ?_ ?_
 .rintro x c Z ⟨e,rfl⟩;obtain⟨y,_,rfl⟩:=Ap.mp c;unfold Bj;rfl';refine⟨⟨_,rfl⟩,λag=>?_⟩;rfl';exact⟨rfl,rfl⟩
 have bm:(S.map Bj).map (λx=>match x with|.tup [.str a,.str b]=>D.str a|_=>.non)=ts.map D.str:=by rw[<-s,Bx,Bx];rfl
 rw[bm];rfl'
 refine Hv (λZ=>∃e,Z=[e]) (λx=>match x with|.tup [.str a,.str b]=>.str b|_=>.non) (λag=>decide_eq_true (AQ (AQ AW))) ⟨_,rfl⟩ (by rw[AZ];omega) ?_ ?_
 .rintro x c Z ⟨e,rfl⟩;obtain⟨y,_,rfl⟩:=Ap.mp c;unfold Bj;rfl';refine⟨⟨_,rfl⟩,λag=>?_⟩;rfl';exact⟨rfl,rfl⟩
 have a7:(S.map Bj).map (λx=>match x with|.tup [.str a,.str b]=>D.str b|_=>.non)=wd.map D.str:=by rw[<-ak,Bx,Bx];rfl
 rw[a7];rfl';refine AGs (AQ (AQ (AQ hw))) hl (AQ AW) ok av λL1 es p1 g1 c1 a1=>?_;generalize l:Ch ws ts wd=G at c1 h;have ay:G.length<=2406/\Ei G<=4000000/\∀e∈G,e.2.length<=4000000:=by rw[<-l];exact TR hl ts wd
 have au:(G.map (·.1)).Nodup:=by rw[<-l];exact Ye ws ts wd
 have ba:∀a∈G.map (·.1),a.length=ts.length:=λa ha=>by rw[<-l] at ha;exact Yf ha
 have bf:∀a∈G.map (·.1),CO G a<=16777216:=λa ha=>by
  rw[<-l] at ha ⊢;have:=WF hl ts wd ha;omega
 have bd:∀e∈G,∀p∈e.2,dNK p=some (Av p):=λe he p hp=>by
  rw[<-l] at he;exact(Yd (a:=e.1) (ps:=e.2) he hp).2.1
 generalize hG:(L++[Ob.lst (S.map Bj)]++[Ob.lst (ts.map D.str)]++[Ob.lst (wd.map D.str)]).length=g at g1 a1 ⊢;have aj:g=L.length+3:=by rw[<-hG];simp
 have a6:L <+: L1:=((Ac _ _).trans ((Ac _ _).trans (Ac _ _))).trans p1;have br:=a6.length_le;have gl:=g1.glt;rfl';have ai:DL Ak (L1++[Ob.ins AO1 []]) g es:=g1.pre (Ac _ _);refine ACF (M:=Bz (DT G)) AW ai.glt (λv Q' kL lL q=>?_) λm l2 k2 t2 m2 n2 a2 b2 al ao=>⟨rfl,?_⟩
 .have hLn:L1.length∉g::BV es:=λhm=>by
   rcases AY.mp hm with z|z
   .omega
   .have:=g1.lt z;omega
  have gL:DL Ak v g es:=ai.keep kL (by simp;omega) λq hq z=>by
   have z':q=L1.length:=by simpa using z
   exact hLn (BD _ (by rw[<-z'];exact hq))
  refine AFm gL (by rw[c1];exact bd) (by rw[c1];omega) (by rw[c1];exact λe he=>by have:=ay.2.2 e he;omega) λep=>?_;rw[c1];exact q ep
 have e1:(L1++[Ob.ins AO1 []]).length=L1.length+1:=by simp
 rw[e1] at t2 m2 n2 a2 b2 al ao l2;clear e1;generalize hN:L1.length=N at *;have ac:∀q∈BV es,q<N:=λq hq=>by rw[<-hN];exact g1.lt hq
 have g2:DL Ak m g es:=ai.keep k2 (by simp;omega) λq hq z=>by
  have:q=N:=by simpa using z
  have:=ac q hq;omega
 have T2:Bd G (List.range L.length++[N+1+7,m.length]) m N g (N+1) (N+1+5) (N+1+6) (N+1+7) (Ak ws) es [] [(N+1+1,N+1+2),(N+1+3,N+1+4)] []:=by
  refine⟨t2,g2,c1,n2,⟨0,al⟩,(λ_ hm=>(nomatch hm)),rfl,(by show 2<=16000000;decide),λi r a hr=>?_,λhm=>?_,by omega,λp hp=>?_,λx c=>?_⟩
  .match i,hr with
   |0,hr=>cases hr;exact⟨_,a2⟩
   |1,hr=>cases hr;exact⟨_,b2⟩
   |i+2,hr=>simp at hr
  .have:=ac _ hm;omega
  .simp only[AY,Dq,or_false] at hp;rcases hp with rfl|rfl
   .exact λh=>absurd (Nat.add_left_cancel h) (by decide)
   .exact λh=>absurd (Nat.add_left_cancel h) (by decide)
  .have hx2:x<L.length\/x=N+1+7\/x=N+1+8:=by
    rcases CF.mp c with c|c
    .exact .inl (CK.mp c)
    .simp only[AY,Dq,or_false] at c;rcases c with rfl|rfl
     .exact .inr (.inl rfl)
     .exact .inr (.inr (by omega))
   have d:∀n,n<=7->x≠N+n:=AHT hx2 aj gl;refine⟨d 0 (Ef _),AHV hx2 aj gl,λhm=>AHU hx2 aj (ac _ hm) (a1 _ hm),d 6 (by decide),d 7 (by decide),λp hp=>?_⟩;simp only[AY,Dq,or_false] at hp;rcases hp with rfl|rfl
   .exact⟨d 2 (by decide),d 3 (by decide)⟩
   .exact⟨d 4 (by decide),d 5 (by decide)⟩
 have p2:L <+: m:=by have:Ay [N] L1 m:=(Ay.app _ _ _).trans k2;exact a6.trans (this.mono λj f=>.inr (by simp at f;omega)).pre
 have bp:=T2.t_;rfl';generalize hM:m.length=M at *
 have a8:∀j,j<=3->cs G.length j<=6000000:=λj f=>by
  have hg:=ay.1
  have e3:cs G.length 3=3+2*G.length+G.length*G.length:=by simp only[cs,Bl];simp only[Nat.mul_zero,Nat.add_zero,Nat.mul_one,Nat.mul_add];omega
  have h4:G.length*G.length<=2406*2406:=ANa hg hg
  have:cs G.length j<=cs G.length 3:=by
   match j,f with
   |0,_=>exact Ef _
   |1,_=>simp only[cs];omega
   |2,_=>simp only[cs];omega
   |3,_=>exact Ag _
  omega
 refine Ew (λj Cz=>∀v:AB,∀e,∀sp rs mk,∀(u:AOy),Bd G (List.range L.length++[N+1+7,M]) v N g (N+1) (N+1+5) (N+1+6) (N+1+7) (Ak ws) es sp rs mk->mk.length<=cs G.length j->rs.length<=2+cs G.length j->u.length=j->(∀i k,u[i]?=some k->DZ G sp k (i+1) wd)->Ay [N+1+5,N+1+6] m v->v[M]?=some (.lst (u.map λ(k:Nat)=>D.int (k:Int)))->Cz [e,some (.ref N),some (Ak wd)] v) _ 0 _ _ (λCz ae=>ae _ _ [] _ [] [] (T2.pre (Ac _ _)) (Ag _) (Ag _) rfl (λi k hk=>by simp at hk) (.app _ _ _) (by rw[<-hM];exact AW)) ?_ ?_
 .rintro i x c Cz Cy fw1 ae v e sp rs mk u T hmk hrs hks hkn k' hM';refine fw1 _ _ rfl ?_
  have hi:i<3/\x=.int ((i+1:Nat):Int):=by
   match i,c with
   |0,c=>cases c;exact⟨by decide,rfl⟩
   |1,c=>cases c;exact⟨by decide,rfl⟩
   |2,c=>cases c;exact⟨by decide,rfl⟩
   |i+3,c=>simp at c
  obtain⟨hi,rfl⟩:=hi;have hc:=a8 (0+i+1) (by omega);have bt:cs G.length (0+i+1)=cs G.length (0+i)+Bl G.length (i+1):=by rw[BM];rfl
  rfl';refine Xb au ba (by omega) (by omega) bf (i+1) 5 (by omega) (by omega) T (λy o=>?_) av (by omega) (by omega) λL3 bh a9 bj k3 T3 aw bo bn bc am=>?_
  .have hM2:=DR hM';rcases CF.mp o with o|o
   .have:=CK.mp o;have:=p2.length_le;omega
   .simp only[AY,Dq,or_false] at o;rcases o with rfl|rfl <;> omega
  have ar:L3[M]?=some (.lst (u.map λ(k:Nat)=>D.int (k:Int))):=am.get (by simp;omega) hM';refine⟨_,ar,by rw[AZ,hks];omega,ae _ _ bh a9 bj (u++[k3]) (T3.setX (by simp) _) (by omega) (by omega) (by simp[hks]) (λj k f=>?_) ((k'.trans am).set (.inr (by omega))) ?_⟩
  .by_cases hlt:j<u.length
   .rw[FK hlt] at f;exact(hkn j k f).mono aw
   .have hj':j=u.length:=by
     have:=(Ax.mp f).1;simp at this;omega
    subst hj';rw[ANI (Ag _),Nat.sub_self] at f;cases f;rw[hks,BM];exact bc
  .rw[Ci ar];simp
 .rintro Cy fw1 v e sp rs mk u T hmk hrs hks hkn k' hM';refine fw1 _ _ rfl ?_;have aa:u.length=3:=hks;have ad:v[N+1+7]?=some (.lst []):=k'.get (by simp) ao;obtain⟨aq,m2⟩:=m2;have m':v[N+1]?=some (.dt (Bz (DT G)) aq):=k'.get (by simp) m2;have bv:=T.t_;rfl';refine TY ad hM' (by simp[aa]) ?_;rfl';refine⟨rfl,h _ N ?_ λP kp=>kp g (N+1) (N+1+5) (N+1+6) (N+1+7) es sp rs mk u ((T.setX (by simp) _).more (λy o=>.inl (ANL _ o))) ⟨by omega,by omega⟩ ⟨aq,OQ ad m' (by simp)⟩ ?_ aa hkn⟩
  .exact(((Ay.of_pre p2).step k' λj f=>.inr (by simp at f;omega)).set (.inr (by omega))).pre
  .rw[Ci ad];simp
noncomputable abbrev Cu:=AOt×Nat×AOt
abbrev En(z:Nat):Option Cu->List Cu->Option Cu
 |o,[]=>o
 |o,x::r=>if z<x.2.1 then o else En z (some x) r
abbrev CH(G:Ah):Nat->AOt->Nat->List D
 |0,_,_=>[]
 |l+1,rest,z=>match En z none (Bv G l rest) with
  |none=>[]
  |some x=>(((DC G x.1).getD [])[(z-x.2.1) / AM G l x.2.2]?.getD .non)::CH G l x.2.2 ((z-x.2.1) % AM G l x.2.2)
abbrev Gb(G:Ah)(l:Nat)(x:Cu):Nat:=CO G x.1*AM G l x.2.2
abbrev Gm(G:Ah)(l:Nat):Nat->List Cu->Nat->Prop
 |s,[],e=>s=e
 |s,x::r,e=>x.2.1=s/\0<Gb G l x/\Gm G l (s+Gb G l x) r e
def Zi{G:Ah}{l:Nat}{x:Cu}:∀{r:List Cu} {s e:Nat},Gm G l s r e->x.2.1=e->0<Gb G l x->Gm G l s (r++[x]) (e+Gb G l x)
 |[],s,e,h,h1,h2=>⟨h1.trans (Eq.symm h),h2,by show _=_;rw[show s=e from h]⟩
 |y::r,s,e,h,h1,h2=>⟨h.1,h.2.1,Zi h.2.2 h1 h2⟩
def Oq{G:Ah}{l:Nat}{rest:AOt}(g:∀a∈G.map (·.1),0<CO G a):Gm G l 0 (Bv G l rest) (AM G (l+1) rest):=by
 rw[<-Zy];unfold Bv DM
 have:∀(xs:List (AOt)) (st:List Cu×Nat),(∀a∈xs,a∈G.map (·.1))->Gm G l 0 st.1 st.2->Gm G l 0 (xs.foldl (DN G l rest) st).1 (xs.foldl (DN G l rest) st).2:=by
  intro xs
  induction xs with
  |nil=>intro st _ h;exact h
  |cons x xs f =>
   intro st d h;refine f _ (λa c=>d a (BD _ c)) ?_;unfold DN
   cases e:DV rest x with
   |none=>exact h
   |some b =>
    simp only
    by_cases z:AM G l b=0
    .rw[if_pos z];exact h
    .rw[if_neg z];exact Zi h rfl (Nat.mul_pos (g x (d x BC)) (Nat.pos_of_ne_zero z))
 exact this _ ([],0) (λa c=>Gc c) rfl
def ZB{G:Ah}{l z:Nat}{x:Cu}:∀{r:List Cu} {s e:Nat},Gm G l s r e->z<s->En z (some x) r=some x
 |[],s,e,_,_=>rfl
 |y::r,s,e,h,hz=>by
  unfold En;rw[if_pos (by rw[h.1];exact hz)]
def ZC{G:Ah}{l z:Nat}:∀{r:List Cu} {s e:Nat} {o:Option Cu},Gm G l s r e->s<=z->z<e->∃x∈r,En z o r=some x/\x.2.1<=z/\z<x.2.1+Gb G l x
 |[],s,e,o,h,h1,h2=>by have:s=e:=h;omega
 |y::r,s,e,o,h,h1,h2=>by
  unfold En;rw[if_neg (by rw[h.1];omega)]
  by_cases a:z<s+Gb G l y
  .exact⟨y,BC,ZB h.2.2 a,by rw[h.1];exact h1,by rw[h.1];exact a⟩
  .obtain⟨x,hx,h3⟩:=ZC (o:=some y) h.2.2 (by omega) h2;exact⟨x,BD _ hx,h3⟩
def HQ{G:Ah}{l:Nat}{rest:AOt}{x:Cu}(h:x∈Bv G l rest):x.1∈BI G (l+1) rest/\DV rest x.1=some x.2.2/\AM G l x.2.2≠0:=by
 unfold Bv DM at h
 have:∀(xs:List (AOt)) (st:List Cu×Nat),x∈(xs.foldl (DN G l rest) st).1->x∈st.1\/(x.1∈xs/\DV rest x.1=some x.2.2/\AM G l x.2.2≠0):=by
  intro xs
  induction xs with
  |nil=>intro st h;exact .inl h
  |cons y xs c =>
   intro st h;rcases c _ h with a|⟨a,d⟩
   .unfold DN at a
    cases e:DV rest y with
    |none=>rw[e] at a;exact .inl a
    |some b =>
     rw[e] at a;simp only at a
     by_cases z:AM G l b=0
     .rw[if_pos z] at a;exact .inl a
     .rw[if_neg z] at a;rcases CF.mp a with a|a
      .exact .inl a
      .have h1':x=(y,st.2,b):=by simpa using a
       subst h1';exact .inr ⟨BC,e,z⟩
   .exact .inr ⟨BD _ a,d⟩
 rcases this _ _ h with a|a
 .cases a
 .exact a
def WJ{U:Type}{f:U->Nat}{m:Nat}:∀(l:List U),(∀x∈l,f x<=m)->(l.map f).sum<=l.length*m
 |[],_=>by simp
 |x::l,h=>by
  rw[Al,FJ,Dm,ANK];have b:=h x BC;have c:=WJ l λy a=>h y (BD _ a);omega
structure Cn (ws ts:AOt) (G:Ah):Prop where
 nd:(G.map (·.1)).Nodup
 ln:G.length<=2406
 sz:∀a∈G.map (·.1),CO G a<=4000000
 pos:∀a∈G.map (·.1),0<CO G a
 snd:∀e∈G,∀p∈e.2,Oz ws ts e.1 p
 len:∀a∈G.map (·.1),a.length=ts.length
def SW{ts:AOt}:∀(A:List D) {c:List (AOz×List D)},(∀e∈c,e.2≠[])->∀e∈A.foldl (CA ts) c,e.2≠[]
 |[],c,h=>h
 |x::A,c,h=>by
  refine SW A ?_;unfold CA
  cases e:EU ts x with
  |none=>exact h
  |some f =>
   rintro⟨k,g⟩ d;rcases Ix d with a|⟨_,a|⟨i,a,b⟩⟩
   .exact h _ a
   .simp only;rw[a];simp
   .simp only;rw[b];simp
def YY{w:AOt}:∀(A:List (AOt×List D)) {c:List (AOt×List D)},(∀a∈A,a.2≠[])->(∀e∈c,e.2≠[])->∀e∈A.foldl (Bb w) c,e.2≠[]
 |[],c,_,h=>h
 |x::A,c,hA,h=>by
  refine YY A (λa g=>hA a (BD _ g)) ?_;unfold Bb;split
  .rintro⟨k,qs⟩ he;have d:=hA x BC;rcases Ix he with b|⟨_,b|⟨i,b,f⟩⟩
   .exact h _ b
   .simp only;rw[b];exact d
   .simp only;rw[f];simp[d]
  .exact h
def TQ{ws:AOt}(hw:ws.length<=6)(ts w:AOt):Cn ws ts (Ch ws ts w):=by
 refine⟨Ye ws ts w,(TR hw ts w).1,λa b=>WF hw ts w b,λa b=>?_,λe f p k=>Yd (a:=e.1) (ps:=e.2) f k,λa b=>Yf b⟩;obtain⟨e,j,f,_⟩:=FA b;have:CO (Ch ws ts w) a=e.2.length:=by unfold CO DC;rw[j];rfl
 rw[this];refine List.length_pos_iff.mpr (YY (w:=w) (Ce ws ts++Er ts (Bq ts)) (c:=[]) (λx i=>?_) (by simp) e f);rcases Ou i with⟨w,_,rfl⟩|⟨s,l,e,f,d,_,_,rfl⟩
 .simp
 .have h1:=SW (ts:=ts) Cv (c:=[]) (by simp) s l;have h:=SW (ts:=ts) Cv (c:=[]) (by simp) e f;intro z;have g:(Eb d s.2 e.2).length=0:=congrArg List.length z;rw[Iw] at g;rcases Nat.mul_eq_zero.mp g with q|q
  .exact h1 (ANV.mp q)
  .exact h (ANV.mp q)
def Vi{ws ts:AOt}{G:Ah}(K:Cn ws ts G):∀(l:Nat) (rest:AOt),AM G l rest<=10000000000 ^ l
 |0,_=>by simp[AM]
 |l+1,rest=>by
  have h:=WJ (m:=4000000*10000000000 ^ l) (f:=λa=>match DV rest a with|some b=>CO G a*AM G l b|none=>0) (BI G (l+1) rest) λa c=>by
   cases e:DV rest a with
   |none=>exact Ef _
   |some b=>exact ANa (K.sz a (Gc c)) (Vi K l b)
  have d:(BI G (l+1) rest).length<=2406:=Cf Rz K.ln;have g:=ANR (4000000*10000000000 ^ l) d;rw[Nat.pow_succ]
  show((BI G (l+1) rest).map λa=>match DV rest a with|some b=>CO G a*AM G l b|none=>0).sum<=_
  generalize 10000000000 ^ l=B at *;omega
def ABs{ws ts:AOt}{G:Ah}(K:Cn ws ts G){l:Nat}(a:l<=3)(rest:AOt):AM G l rest<=1000000000000000000000000000000:=by refine Cf (Vi K l rest) (Cf (Nat.pow_le_pow_right (by decide) a) (by decide))
def SL{G:Ah}(c:∀a∈G.map (·.1),0<CO G a){l z:Nat}{rest:AOt}(hz:z<AM G (l+1) rest):∃x∈Bv G l rest,En z none (Bv G l rest)=some x/\x.2.1<=z/\(z-x.2.1) / AM G l x.2.2<CO G x.1/\(z-x.2.1) % AM G l x.2.2<AM G l x.2.2:=by obtain⟨x,b,d,e,f⟩:=ZC (o:=none) (Oq (l:=l) (rest:=rest) c) (Ef z) hz;have hw:=(HQ b).2.2;refine⟨x,b,d,e,Nat.div_lt_of_lt_mul ?_,Nat.mod_lt _ (Nat.pos_of_ne_zero hw)⟩;unfold Gb at f;rw[Nat.mul_comm];omega
def LD{ws ts:AOt}{G:Ah}(K:Cn ws ts G):∀{l z:Nat} {rest:AOt},z<AM G l rest->(CH G l rest z).length=l/\∀p∈CH G l rest z,EL ws p
 |0,z,rest,_=>⟨rfl,(λ_ h=>(nomatch h))⟩
 |l+1,z,rest,hz=>by
  obtain⟨x,j,i,k,c,g⟩:=SL K.pos hz;have d:=LD K g;unfold CH;rw[i];refine⟨by simp[d.1],λp a=>?_⟩;rcases AY.mp a with a|a
  .obtain⟨e,hf,he,hek⟩:=FA (Gc (HQ j).1);have f:DC G x.1=some e.2:=by unfold DC;rw[hf];rfl
   have b:(z-x.2.1) / AM G l x.2.2<e.2.length:=by unfold CO at c;rw[f] at c;exact c
   rw[f] at a;have:p∈e.2:=by rw[a];simp[b]
   exact(K.snd e he p this).1
  .exact d.2 p a
def WR{a b:Str}(h:a.cps.toList=b.cps.toList):a=b:=by obtain⟨x⟩:=a;obtain⟨y⟩:=b;have:x=y:=Array.toList_inj.mp h;rw[this]
def Wc{a:Str}{n:Nat}(h:n<=a.length):(Txt.slice a (some (n:Int)) none).cps.toList=a.cps.toList.drop n:=by
 have c:Builtin.Str.strSliceIndices (some (n:Int)) none 1 a.length=Builtin.Str.strSliceIndices (some (n:Int)) (some (a.length:Int)) 1 a.length:=by
  unfold Builtin.Str.strSliceIndices;simp only[show((1:Int)>0)=True from by simp,if_true];rw[if_neg (by omega)]
  congr 1
  omega
 have b:=StrLaws.sliced_plain a h (Ag _);have d:(a.cps.toList.drop n).take (a.length-n)=a.cps.toList.drop n:=ANu (by rw[ANi];exact Ag _);rw[d,<-c] at b;unfold Txt.slice;split
 .rename_i hc;rw[Bs] at hc;have e:=eq_of_beq hc.2;rw[c,StrLaws.strSliceIndices_plain h (Ag _),AZ,AN5] at e
  by_cases f:a.length=0
  .have:a.cps.toList=[]:=ANV.mp f;rw[this];simp
  .have:n=0:=by omega
   rw[this];rfl
 .exact b
def ACm{a b:Str}(h:Txt.startswith a b=true):a.cps.toList=b.cps.toList++(Txt.slice a (some (b.length:Int)) none).cps.toList:=by
 unfold Txt.startswith at h;rw[Bs] at h;have e:b.length<=a.length:=by have:=of_decide_eq_true h.1;omega
 have c:=h.2;rw[StrLaws.subAt_eq] at c;have d:=eq_of_beq c;rw[ANn] at d;rw[Wc e]
 conv=>lhs;rw[<-AOM b.length a.cps.toList]
 rw[d]
def YD:∀(a:AOt),(Txt.join "" a).cps.toList=a.flatMap λy=>y.cps.toList:=by
 intro a;rw[show Txt.join "" a=Str.join "" a from StrLaws.glued_eq_join "" a]
 induction a with
 |nil=>rfl
 |cons y a b =>
  cases a with
  |nil=>simp[Str.join]
  |cons z a =>
   have e:Str.join "" (y::z::a)=y++""++Str.join "" (z::a):=rfl;rw[e,Tv,Tv,b,EA];have:(Str.ofString "").cps.toList=[]:=rfl;simp[this]
def ADL{ws ts:AOt}{G:Ah}(K:Cn ws ts G):∀{l z:Nat} {rest:AOt},z<AM G (l+1) rest->rest.length=ts.length->∃g:List (AOt),g.length=l+1/\(∀(j:Nat) (p:D),(CH G (l+1) rest z)[j]?=some p->∃a:AOt,g[j]?=some a/\Oz ws ts a p)/\∀i,i<ts.length->(g.flatMap λa=>(a.getD i "").cps.toList)=(rest.getD i "").cps.toList:=by
 have one:∀{l z:Nat} {rest:AOt},z<AM G (l+1) rest->∃x∈Bv G l rest,En z none (Bv G l rest)=some x/\(z-x.2.1) % AM G l x.2.2<AM G l x.2.2/\∃p,CH G (l+1) rest z=p::CH G l x.2.2 ((z-x.2.1) % AM G l x.2.2)/\Oz ws ts x.1 p:=by
  intro l z rest f;obtain⟨x,d,n,h2,h3,m⟩:=SL K.pos f;obtain⟨e,hf,he,w⟩:=FA (Gc (HQ d).1);have hg:DC G x.1=some e.2:=by unfold DC;rw[hf];rfl
  have t:(z-x.2.1) / AM G l x.2.2<e.2.length:=by unfold CO at h3;rw[hg] at h3;exact h3
  have o:CH G (l+1) rest z=(((DC G x.1).getD [])[(z-x.2.1) / AM G l x.2.2]?.getD .non)::CH G l x.2.2 ((z-x.2.1) % AM G l x.2.2):=by
   conv=>lhs;unfold CH
   rw[n]
  refine⟨x,d,n,m,_,o,?_⟩;rw[hg];have c:(((some e.2).getD [])[(z-x.2.1) / AM G l x.2.2]?).getD .non∈e.2:=by simp[t]
  have:=K.snd e he _ c;rw[w] at this;exact this
 intro l
 induction l with
 |zero =>
  intro z rest f o;obtain⟨x,d,n,m,p,u,h⟩:=one f;have c:=HQ d
  have r:x.1=rest:=by
   have:=c.1;unfold BI at this;rw[if_pos rfl] at this;split at this
   .simpa using this
   .cases this
  refine⟨[x.1],rfl,λj q b=>?_,λi hi=>?_⟩
  .rw[u] at b
   cases j with
   |zero =>
    have e:p=q:=by simpa using b
    exact⟨x.1,rfl,e▸h⟩
   |succ j=>simp[CH] at b
  .rw[r];simp
 |succ l ih =>
  intro z rest f o;obtain⟨x,d,n,m,p,u,h⟩:=one f;have c:=HQ d;have y:=Ts c.2.1;obtain⟨g,v,s,aa⟩:=ih m (y.trans o);refine⟨x.1::g,by simp[v],λj q b=>?_,λi hi=>?_⟩
  .rw[u] at b
   cases j with
   |zero =>
    have e:p=q:=by simpa using b
    exact⟨x.1,rfl,e▸h⟩
   |succ j =>
    obtain⟨a,h5,h6⟩:=s j q (by simpa using b);exact⟨a,by simpa using h5,h6⟩
  .rw[EA,aa i hi];have k:=c.2.1;unfold DV at k;split at k
   .rename_i hall;have h:=CM.mp hall i (CK.mpr (by omega));have ac:=Option.some.inj k;rw[<-ac]
    have e5:(Fo rest x.1 rest.length).getD i ""=Txt.slice (rest.getD i "") (some ((x.1.getD i "").length:Int)) none:=by unfold Fo;simp[show i<rest.length by omega]
    rw[e5];exact(ACm h).symm
   .cases k
def ADN{ws ts wd:AOt}{G:Ah}(K:Cn ws ts G){l z:Nat}(hz:z<AM G (l+1) wd)(hw:wd.length=ts.length){i:Nat}(e:i<ts.length):FL (ts.getD i "") (CH G (l+1) wd z)=.str (wd.getD i ""):=by
 obtain⟨g,m,d,c⟩:=ADL K hz hw;have f:=(LD K hz).1
 have n:(CH G (l+1) wd z).map (CB (ts.getD i ""))=(g.map λa=>a.getD i "").map D.str:=by
  apply ANz;intro j;rw[As,As,As]
  cases h:(CH G (l+1) wd z)[j]? with
  |none =>
   have:g[j]?=none:=by rw[AOY] at h ⊢;omega
   rw[this];rfl
  |some p =>
   obtain⟨a,o,q⟩:=d j p h;rw[o];simp only[ANW];rw[q.2.2 i e]
 have k:∀b:AOt,Bp (b.map D.str)=some b:=λb=>by
  induction b with
  |nil=>rfl
  |cons y b r=>rw[Al];simp only[Bp,r];rfl
 unfold FL;rw[n,k];simp only
 congr 1
 apply WR;rw[YD,<-c i e,AN9]
section
variable {G:Ah}{X:AOy}{L:AB}{t g m nd nn rt:Nat}{W:D}{es:List (AOt×Nat×List D)}{sp:List (Nat×AOt)}{rs:List (Nat×Nat)}{mk:List ((Nat×AOt)×Nat)}{Q:APT}
def Bd.ways(T:Bd G X L t g m nd nn rt W es sp rs mk){k l:Nat}{rest:AOt}(h:DZ G sp k (l+1) rest):∃r a,rs[k]?=some (r,a)/\L[r]?=some (.ins AO2 [(AO3,.int (AM G (l+1) rest:Int)),(AO6,.ref a)]):=by
 by_cases c:k=1
 .subst c;have hw:=h.one.mp rfl;have b:1<rs.length:=by rw[T.len];omega
  obtain⟨d,n⟩:=T.nod 1 rs[1].1 rs[1].2 (by simp[b]);exact⟨rs[1].1,rs[1].2,by simp[b],by rw[hw];exact n.1⟩
 .obtain⟨r,a,kvs,d,e,n,_⟩:=T.node h c;exact⟨r,a,e,n.1⟩
def XM{U β:Type}{R:U->β->Prop}{xs:List U}{a:List β}(h:Paired R xs a):∀{i:Nat} {y:β},a[i]?=some y->∃x,xs[i]?=some x/\R x y:=by
 induction h with
 |nil=>intro i y e;simp at e
 |cons r _ b =>
  intro i y e
  cases i with
  |zero=>simp at e;subst e;exact⟨_,rfl,r⟩
  |succ i=>obtain⟨x,c,d⟩:=b (i:=i) (y:=y) (by simpa using e);exact⟨x,by simpa using c,d⟩
def XJ{U β:Type}{R:U->β->Prop}{xs:List U}{a:List β}(h:Paired R xs a):∀{i:Nat} {x:U},xs[i]?=some x->∃y,a[i]?=some y/\R x y:=by
 induction h with
 |nil=>intro i y e;simp at e
 |cons r _ b =>
  intro i y e
  cases i with
  |zero=>simp at e;subst e;exact⟨_,rfl,r⟩
  |succ i=>obtain⟨x,c,d⟩:=b (i:=i) (x:=y) (by simpa using e);exact⟨x,by simpa using c,d⟩
abbrev Os:Option Cu->D
 |none=>.non
 |some x=>Ak x.1
def AAD(o:Option Cu):(Os o).noRef=true:=by
 cases o with
 |none=>rfl
 |some x=>exact WL _
def AIa{r a ep l z:Nat}{w:Int}{kvs:List (NK×D)}{b:List Cu}(u:EN L r w a kvs ep)(t:Paired (Fb G sp l) b kvs)(h:Q (Os (En z none b)) L):W2 (KQ [.ref r,.int (z:Int)] L) Q:=by
 unfold KQ;refine BP rfl ?_;unfold Pz;have n1:=u.1;have s:=u.2;rfl';refine CN (λj f=>∀o k n,En z o (b.drop j)=En z none b->f [some (.ref r),some (.int (z:Int)),some (Os o),k,n] L) _ 0 _ _ (λf d=>d none none none (by rw[ANn])) ?_ ?_
 .rintro i x hx f Cy fz1 d o k n ho;refine fz1 _ _ (decide_eq_true s) ?_;unfold FM at hx;rw[As] at hx
  cases c:kvs[i]? with
  |none=>rw[c] at hx;cases hx
  |some kv =>
  rw[c] at hx;cases hx;obtain⟨y,q,v,rfl,_⟩:=XM t c;dsimp only;rw[DJ.nk]
  have m:b.drop (0+i)=y::b.drop (0+i+1):=by rw[BM];exact(List.getElem_cons_drop (h:=(Ax.mp q).1)).symm.trans (by rw[(Ax.mp q).2])
  have e:En z o (y::b.drop (0+i+1))=if z<y.2.1 then o else En z (some y) (b.drop (0+i+1)):=rfl
  rw[m,e] at ho;rfl';refine BR (λg=>?_) (λg=>?_)
  .rw[if_pos (by omega)] at ho;rfl';rw[ho];exact⟨AAD _,AV _,h⟩
  .rw[if_neg (by omega)] at ho;rfl';exact d (some y) _ _ ho
 .rintro Cy fz1 o k n ho;refine fz1 _ _ (decide_eq_true s) ?_
  have hl:kvs.length=b.length:=by have:=congrArg List.length (Js t);rw[AZ,AZ] at this;exact this
  have e5:(FM kvs).length=b.length:=by unfold FM;rw[AZ,hl]
  rw[e5,BM,ANt] at ho;have p:o=En z none b:=ho;rfl';rw[p];exact⟨AAD _,AV _,h⟩
def SM{ws ts:AOt}(K:Cn ws ts G)(T:Bd G X L t g m nd nn rt W es sp rs mk){k l z:Nat}{rest:AOt}(hk:DZ G sp k l rest)(ao:l<=3)(hz:z<AM G l rest)(ag:(D.tup (CH G l rest z)).noRef=true)(h:Q (.tup (CH G l rest z)) L):W2 (KO [.ref t,.int (k:Int),.int (z:Int)] L) Q:=by
 unfold KO;refine BP rfl ?_;unfold Pv;have ht:=T.t_;have al:=T.nd_;obtain⟨b7,hg⟩:=T.g_.at_
 have c:∀{w l' f:Nat} {a:AOt},DZ G sp w l' a->f<AM G l' a->w≠1:=λh1 h2 e=>by
  have:=h1.one.mp e;omega
 rfl';obtain⟨r1,a1,bo,bz,aq,n1,_,_⟩:=T.node hk (c hk hz);refine BZ (d:=.ref r1) (AQ al) (Dc (by rw[As,aq];rfl)) ?_;rfl';refine ABm (λj Cz=>j<=3->∀(b:List D) (f w r:Nat) (a:AOt) (a':Nat) (e1 e2 e3 e4:Option D),DZ G sp w j a->rs[w]?=some (r,a')->f<AM G j a->b++CH G j a f=CH G l rest z->b.length+j<=3->Cz [some (.ref t),some (.int (k:Int)),some (.int (f:Int)),some (.ref L.length),some (.ref r),e1,e2,e3,e4] (L++[Ob.lst b])) (n:=l) (by omega) (λCz kz=>kz ao [] z k r1 rest a1 none none none none hk aq hz rfl (by simpa using ao)) ?_;rintro j Cz Cy fz kz cb b f w r a a' e1 e2 e3 e4 ak a7 ac s bn;refine fz _ _ ?_;obtain⟨r',bw,ad,bc,v,n',bd,av⟩:=T.node ak (c ak ac);rw[a7] at v;obtain rfl:=(ACr v).symm;obtain rfl:=(WZ v).symm;have a9:(L++[Ob.lst b])[r]?=_:=AQ n'.1;have p:(L++[Ob.lst b])[a']?=_:=AQ n'.2;have bp:(L++[Ob.lst b])[t]?=_:=AQ ht
 cases j with
 |zero =>
  rw[bd rfl] at p;have br:(L++[Ob.lst b])[a']?=some (.dt [] bc):=p;rfl';have ea:b=CH G l rest z:=by simpa[CH] using s
  rw[ea];exact⟨ag,Ac _ _,h⟩
 |succ j =>
  have pA:=av j rfl;obtain⟨x,hx,hf,bm,ar,ai⟩:=SL K.pos ac;have am:=HQ hx;obtain⟨i,hi⟩:=ANc hx;obtain⟨y,hy,ax,rfl,o⟩:=XJ pA hi;have bj:0<ad.length:=by have:=(Ax.mp hy).1;omega
  have aj:(ad.map (·.1)).Nodup:=by rw[Js pA];have h1:((Bv G j a).map (·.1)).Nodup:=List.Sublist.nodup (Lx G j a (BI G (j+1) a)) (Ry K.nd _ _);unfold List.Nodup at h1 ⊢;rw[ANy] at h1 ⊢;exact h1.imp λa6 e=>a6 (DJ.kf e)
  have bf:=OH aj hy;rfl';refine AIa (z:=f) ⟨a9,p⟩ pA ?_;rw[hf];show WS _ _ _ _ _;have eD:Os (some x)=Ak x.1:=rfl;rw[eD];rfl';refine Hk (kk:=Av (Ak x.1)) p (DJ.key _) bf ?_;rfl';obtain⟨r2,a2,ca,bv,ae,n2,_,_⟩:=T.node o (c o ai);have b9:(L++[Ob.lst b])[r2]?=_:=AQ n2.1;refine BZ (d:=.ref r2) (AQ al) (Dc (by rw[As,ae];rfl)) ?_;rfl';obtain⟨u,aa,aw⟩:=Yi (Gc am.1);obtain⟨q,ay,ba⟩:=T.g_.get DJ (k:=x.1) (ds:=u) (by rw[T.gc];exact aa);refine Hk (kk:=Av (Ak x.1)) (AQ hg) (DJ.key _) ay ?_;rfl';have b8:=ABs K (l:=j) (by omega) x.2.2;have bu:0<AM G j x.2.2:=Nat.pos_of_ne_zero am.2.2;generalize hN:AM G j x.2.2=N at *;refine AG4 (by unfold Lp;rw[Bs];exact⟨decide_eq_true (by omega),decide_eq_true (by omega)⟩) ?_;have au:(f:Int)-(x.2.1:Int)=((f-x.2.1:Nat):Int):=by omega
  have e0:((f-x.2.1:Nat):Int) / (N:Int)=(((f-x.2.1) / N:Nat):Int):=by push_cast;rfl
  have bh:((f-x.2.1:Nat):Int) % (N:Int)=(((f-x.2.1) % N:Nat):Int):=by push_cast;rfl
  rw[au,e0];rw[aw] at ar;refine BZ (d:=u[(f-x.2.1) / N]?.getD .non) (AQ ba) (Dc (by simp[ar])) ?_;rfl';refine GJ AW (by omega) ?_;have a8:(L++[Ob.lst b]).set L.length (.lst (b++[u[(f-x.2.1) / N]?.getD .non]))=L++[Ob.lst (b++[u[(f-x.2.1) / N]?.getD .non])]:=by simp
  rw[a8];have bt:(L++[Ob.lst (b++[u[(f-x.2.1) / N]?.getD .non])])[r2]?=some (.ins AO2 [(AO3,.int (N:Int)),(AO6,.ref a2)]):=AQ n2.1;rfl';rw[bh];refine kz j (by omega) (by omega) (b++[u[(f-x.2.1) / N]?.getD .non]) ((f-x.2.1) % N) ax r2 x.2.2 a2 _ _ _ _ o ae (by rw[hN];exact ai) ?_ (by simp;omega);rw[<-s,HA]
  congr 1
  conv=>rhs;unfold CH
  rw[hf];simp only;rw[aa,hN];rfl
end
abbrev DA(G:Ah)(wd:AOt):Nat:=AM G 1 wd+AM G 2 wd+AM G 3 wd
abbrev Np(G:Ah)(wd:AOt)(z:Nat):List D:=if z<AM G 1 wd then CH G 1 wd z else if z-AM G 1 wd<AM G 2 wd then CH G 2 wd (z-AM G 1 wd) else CH G 3 wd (z-AM G 1 wd-AM G 2 wd)
section
variable {L:AB}{t:Nat}{ws ts wd:AOt}{G:Ah}{Q:APT}
def AFt(T:HS L t ws G wd)(h:Q (.int (DA G wd:Int)) L):W2 (Kf [.ref t] L) Q:=by
 refine T _ λg m nd nn rt es sp rs mk p T hm o f n=>?_;unfold Kf;refine BP rfl ?_;unfold Qu;have ht:=T.t_;rfl';refine Ew (λj l=>∀e,l [e,some (.ref t)] (L++[Ob.lst ((List.range j).map λi=>D.int (AM G (i+1) wd:Int))])) _ 0 _ _ (λl c=>c _) ?_ ?_
 .rintro i x hx l Cy fw1 c e;refine fw1 _ _ (decide_eq_true (AQ o)) ?_;rw[As] at hx
  cases b:p[i]? with
  |none=>rw[b] at hx;cases hx
  |some k =>
  rw[b] at hx;cases hx;have hi:i<3:=by rw[<-f];exact(Ax.mp b).1
  obtain⟨r,a,y,q⟩:=T.ways (n i k b);have z:(L++[Ob.lst ((List.range (0+i)).map λi=>D.int (AM G (i+1) wd:Int))])[t]?=_:=AQ ht;have w:(L++[Ob.lst ((List.range (0+i)).map λi=>D.int (AM G (i+1) wd:Int))])[r]?=_:=AQ q;rfl';refine BZ (d:=.ref r) (AQ T.nd_) (Dc (by rw[As,y];rfl)) ?_;rfl';refine⟨_,AW,by simp;omega,Do (c _) ?_⟩;rw[ANZ,Cg,BM];simp
 .rintro Cy fw1 e;refine fw1 _ _ (decide_eq_true (AQ o)) ?_;have v:(0+(p.map λ(k:Nat)=>D.int (k:Int)).length)=3:=by rw[AZ,f]
  rw[v];have s:((List.range 3).map λi=>D.int (AM G (i+1) wd:Int))=[.int (AM G 1 wd:Int),.int (AM G 2 wd:Int),.int (AM G 3 wd:Int)]:=rfl;rw[s];rfl';refine Yj AW rfl ?_;refine⟨rfl,Ac _ _,?_⟩
  have u:([(AM G 1 wd:Int),(AM G 2 wd:Int),(AM G 3 wd:Int)]:AOz).sum=(DA G wd:Int):=by unfold DA;simp only[FJ,List.sum_nil];omega
  rw[u];exact h
def JQ(K:Cn ws ts G)(hw:Dd ws){l z:Nat}{rest:AOt}(hz:z<AM G l rest):(D.tup (CH G l rest z)).noRef=true:=Sg λp a=>(((LD K hz).2 p a).piece hw).noRef
def ADT(K:Cn ws ts G)(hw:Dd ws)(T:HS L t ws G wd){z:Nat}(hz:z<DA G wd)(h:Q (.tup (Np G wd z)) L):W2 (KM [.ref t,.int (z:Int)] L) Q:=by
 refine T _ λg m nd nn rt es sp rs mk ks T hm hr i e=>?_
 match ks,i with
 |[k1,k2,k3],_ =>
 have b:L[rt]?=some (.lst [.int (k1:Int),.int (k2:Int),.int (k3:Int)]):=hr;have v:=e 0 k1 rfl;have q:=e 1 k2 rfl;have r:=e 2 k3 rfl;obtain⟨p,y,n,j⟩:=T.ways v;have w1:L[p]?=some (.ins AO2 [(AO3,.int (AM G 1 wd:Int)),(AO6,.ref y)]):=j;obtain⟨s,a2,k,o⟩:=T.ways q;have w2:L[s]?=some (.ins AO2 [(AO3,.int (AM G 2 wd:Int)),(AO6,.ref a2)]):=o;obtain⟨u,a3,f,l⟩:=T.ways r;have w3:L[u]?=some (.ins AO2 [(AO3,.int (AM G 3 wd:Int)),(AO6,.ref a3)]):=l;unfold KM;refine BP rfl ?_;unfold Pr;have ht:=T.t_;have a:=T.nd_;unfold DA at hz;unfold Np at h;rfl';refine Ht (decide_eq_true b) ?_;rfl';refine BZ (d:=.ref p) a (Dc (by rw[As,n];rfl)) ?_;rfl';refine BR (λh1=>?_) (λh1=>?_)
 .have h1':z<AM G 1 wd:=by omega
  rw[if_pos h1'] at h;rfl';refine SM K T v (by decide) h1' (JQ K hw h1') ?_;exact⟨JQ K hw h1',AV _,h⟩
 .have h1':¬z<AM G 1 wd:=by omega
  rw[if_neg h1'] at h;have e1:(z:Int)-(AM G 1 wd:Int)=((z-AM G 1 wd:Nat):Int):=by omega
  rfl';refine Ht (decide_eq_true b) ?_;rfl';refine BZ (d:=.ref s) a (Dc (by rw[As,k];rfl)) ?_;rfl';rw[e1];refine BR (λx=>?_) (λx=>?_)
  .have h2':z-AM G 1 wd<AM G 2 wd:=by omega
   rw[if_pos h2'] at h;rfl';refine SM K T q (by decide) h2' (JQ K hw h2') ?_;exact⟨JQ K hw h2',AV _,h⟩
  .have h2':¬z-AM G 1 wd<AM G 2 wd:=by omega
   have c:z-AM G 1 wd-AM G 2 wd<AM G 3 wd:=by omega
   rw[if_neg h2'] at h;have w:((z-AM G 1 wd:Nat):Int)-(AM G 2 wd:Int)=((z-AM G 1 wd-AM G 2 wd:Nat):Int):=by omega
   rfl';refine Ht (decide_eq_true b) ?_;rfl';refine BZ (d:=.ref u) a (Dc (by rw[As,f];rfl)) ?_;rfl';rw[w];refine SM K T r (by decide) c (JQ K hw c) ?_;exact⟨JQ K hw c,AV _,h⟩
end
def ZA{κ:Type}[DecidableEq κ]{c:List (κ×List D)}{k:κ}{ds:List D}(b:(c.map (·.1)).Nodup):((BU c k ds).flatMap (·.2)).Perm (c.flatMap (·.2)++ds):=by
 by_cases h:k∈c.map (·.1)
 .have e:BU c k ds=c.map (λe=>if e.1=k then (e.1,e.2++ds) else e):=by unfold BU;rw[if_pos h]
  rw[e];clear e
  induction c with
  |nil=>cases h
  |cons x c g =>
   rw[Al,Gy] at b;rw[Al,EA,EA]
   by_cases a:x.1=k
   .rw[if_pos a]
    have f:c.map (λe=>if e.1=k then (e.1,e.2++ds) else e)=c:=by
     conv=>rhs;rw[<-AN8 c]
     apply Ga;intro e i;rw[if_neg (λz=>b.1 (by rw[a,<-z];exact Bw i))];rfl
    rw[f];simp only[HA];exact(List.perm_append_comm (l₁:=ds) (l₂:=c.flatMap (·.2))).append_left x.2
   .rw[if_neg a,HA]
    have d:k∈c.map (·.1):=by
     rw[Al] at h;rcases AY.mp h with z|z
     .exact absurd z.symm a
     .exact z
    exact(g b.2 d).append_left x.2
 .have e:BU c k ds=c++[(k,ds)]:=by unfold BU;rw[if_neg h]
  rw[e,ANb];simp
def TM{w:AOt}:∀(A:List (AOt×List D)) {c:List (AOt×List D)},(c.map (·.1)).Nodup->((A.foldl (Bb w) c).flatMap (·.2)).Perm (c.flatMap (·.2)++(A.filter λa=>IG a.1 w).flatMap (·.2))
 |[],c,_=>by simp
 |a::A,c,nd=>by
  rw[ANE]
  by_cases h:IG a.1 w=true
  .have e:Bb w c a=BU c a.1 a.2:=by unfold Bb;rw[if_pos h]
   rw[e,ANl,if_pos h,EA,<-HA];exact(TM A (Lz nd)).trans ((ZA nd).append_right _)
  .have e:Bb w c a=c:=by unfold Bb;rw[if_neg h]
   rw[e,ANl,if_neg h];exact TM A nd
def SX{ts:AOt}:∀(A:List D) {c:List (AOz×List D)},(c.map (·.1)).Nodup->((A.foldl (CA ts) c).flatMap (·.2)).Perm (c.flatMap (·.2)++A.filter λp=>(EU ts p).isSome)
 |[],c,_=>by simp
 |x::A,c,nd=>by
  rw[ANE]
  cases e:EU ts x with
  |none =>
   have a:CA ts c x=c:=by unfold CA;rw[e]
   rw[a,ANl,if_neg (by rw[e];simp)];exact SX A nd
  |some b =>
   have a:CA ts c x=BU c b [x]:=by unfold CA;rw[e]
   rw[a,ANl,if_pos (by rw[e];rfl)];have h:=(SX (ts:=ts) A (c:=BU c b [x]) (Lz nd)).trans ((ZA nd).append_right _);rw[HA] at h;exact h
def AEG:Cv.Nodup:=by decide +kernel
def AEI(ts:AOt):((Bq ts).flatMap (·.2)).Nodup:=by have h:=SX (ts:=ts) Cv (c:=[]) Gx;refine h.nodup_iff.mpr ?_;simpa using List.Sublist.nodup List.filter_sublist AEG
def On{d:Str}{xs a:List D}{p:D}:p∈Eb d xs a↔∃x∈xs,∃y∈a,p=.tup [.str d,x,y]:=by
 unfold Eb;simp only[Dz,Ap];constructor
 .rintro⟨x,hx,y,hy,rfl⟩;exact⟨x,hx,y,hy,rfl⟩
 .rintro⟨x,hx,y,hy,rfl⟩;exact⟨x,hx,y,hy,rfl⟩
def AIK{d:Str}{xs c:List D}(j:xs.Nodup)(i:c.Nodup):(Eb d xs c).Nodup:=by
 unfold Eb List.Nodup;rw[AOA];refine⟨λx _=>?_,j.imp λ{a b} h u g v f e=>?_⟩
 .rw[ANy];exact i.imp λh e=>h (by simpa using e)
 .obtain⟨y,_,rfl⟩:=Ap.mp g;obtain⟨z,_,rfl⟩:=Ap.mp f;exact h (by simp at e;exact e.1)
def Yz{κ:Type}{c:List (κ×List D)}(a:(c.flatMap (·.2)).Nodup){e:κ×List D}(h:e∈c):e.2.Nodup:=by unfold List.Nodup at a;rw[AOA] at a;exact a.1 e h
def XR(ts:AOt)(s e:AOz×List D):∃l:AOt,l.Nodup/\(∀d∈l,d∈Di)/\(CZ ts s e).flatMap (·.2)=l.flatMap λd=>Eb d s.2 e.2:=by
 unfold CZ;split
 .refine⟨Di,by decide +kernel,λd h=>h,?_⟩;rw[AN9];rfl
 .exact⟨[],Gx,λd h=>(nomatch h),rfl⟩
def AE1{κ:Type}{c:List (κ×List D)}(d:(c.flatMap (·.2)).Nodup):c.Pairwise λa b=>∀p∈a.2,p∉b.2:=by
 induction c with
 |nil=>exact .nil
 |cons x c g =>
  rw[EA,Gz] at d;exact .cons (λb f p h e=>d.2.2 p h p (Dz.mpr ⟨b,f,e⟩) rfl) (g d.2.1)
def AIl{ws:AOt}(hw:ws.Nodup)(ts:AOt):((Ce ws ts++Er ts (Bq ts)).flatMap (·.2)).Nodup:=by
 have hP:=AEI ts;have pw:=AE1 hP;rw[ANb,Gz]
 have z:(Ce ws ts).flatMap (·.2)=ws.map HC:=by
  unfold Ce;rw[AN9];show ws.flatMap (λw=>[HC w])=_
  induction ws with
  |nil=>rfl
  |cons w ws ih=>rw[EA,ih (Gy.mp hw).2];rfl
 have q:(Er ts (Bq ts)).flatMap (·.2)=(Bq ts).flatMap λs=>(Bq ts).flatMap λe=>(CZ ts s e).flatMap (·.2):=by unfold Er;simp only[List.flatMap_assoc]
 have c:∀{s e:AOz×List D} {p:D},p∈(CZ ts s e).flatMap (·.2)->∃d∈Di,∃x∈s.2,∃y∈e.2,p=.tup [.str d,x,y]:=λ{s e p} h=>by
  obtain⟨l,_,t,he⟩:=XR ts s e;rw[he] at h;obtain⟨d,hd,h⟩:=Dz.mp h;obtain⟨x,n,y,m,rfl⟩:=On.mp h;exact⟨d,t d hd,x,n,y,m,rfl⟩
 refine⟨?_,?_,?_⟩
 .rw[z];unfold List.Nodup;rw[ANy];exact hw.imp λh e=>h (by simpa[HC] using e)
 .rw[q];unfold List.Nodup;rw[AOA];refine⟨λs hs=>?_,pw.imp λ{a b} h u f v g e=>?_⟩
  .rw[AOA];refine⟨λe he=>?_,pw.imp λ{a b} h u f v g e=>?_⟩
   .obtain⟨l,t,_,hh⟩:=XR ts s e;rw[hh,AOA];refine⟨λd _=>AIK (Yz hP hs) (Yz hP he),t.imp λ{a b} h u f v g e=>?_⟩;obtain⟨x,_,y,_,rfl⟩:=On.mp f;obtain⟨o,_,r,_,rfl⟩:=On.mp g;exact h (by simp at e;exact e.1)
   .obtain⟨d,_,x,n,y,m,rfl⟩:=c f;obtain⟨d',_,o,k,r,i,rfl⟩:=c g;have:y=r:=by simp at e;exact e.2.2
    subst this;exact h y m i
  .obtain⟨z,_,f⟩:=Dz.mp f;obtain⟨q,_,g⟩:=Dz.mp g;obtain⟨d,_,x,n,y,m,rfl⟩:=c f;obtain⟨d',_,o,k,r,i,rfl⟩:=c g;have:x=o:=by simp at e;exact e.2.1
   subst this;exact h x n k
 .rw[z,q];intro a ha b j e;obtain⟨w,_,rfl⟩:=Ap.mp ha;obtain⟨s,_,j⟩:=Dz.mp j;obtain⟨e',_,j⟩:=Dz.mp j;obtain⟨d,_,x,_,y,_,rfl⟩:=c j;simp[HC] at e
def AGr{ws:AOt}(hw:ws.Nodup)(ts w:AOt):((Ch ws ts w).flatMap (·.2)).Nodup:=by
 refine(TM (w:=w) (Ce ws ts++Er ts (Bq ts)) (c:=[]) Gx).nodup_iff.mpr ?_;rw[List.flatMap_nil,List.nil_append];have h:=AIl hw ts;generalize Ce ws ts++Er ts (Bq ts)=A at h;refine List.Sublist.nodup (?_:(List.Sublist _ _)) h
 induction A with
 |nil=>exact List.Sublist.refl _
 |cons a A b =>
  rw[EA,Gz] at h;rw[ANl,EA];split
  .rw[EA];exact List.Sublist.append (List.Sublist.refl _) (b h.2.1)
  .exact(b h.2.1).trans (List.sublist_append_right _ _)
def YX{w:AOt}:∀(A:List (AOt×List D)) {c:List (AOt×List D)} {a:AOt} {p:D},(∃ps,(a,ps)∈c/\p∈ps)->∃ps,(a,ps)∈A.foldl (Bb w) c/\p∈ps
 |[],_,_,_,h=>h
 |x::A,c,a,p,⟨ps,h1,h2⟩=>by
  refine YX A ?_;unfold Bb;split
  .by_cases z:x.1∈c.map (·.1)
   .unfold BU;rw[if_pos z]
    by_cases y:a=x.1
    .exact⟨ps++x.2,Ap.mpr ⟨(a,ps),h1,by rw[if_pos y]⟩,ANL _ h2⟩
    .exact⟨ps,Ap.mpr ⟨(a,ps),h1,by rw[if_neg y]⟩,h2⟩
   .unfold BU;rw[if_neg z];exact⟨ps,ANL _ h1,h2⟩
  .exact⟨ps,h1,h2⟩
def AIn{c:List (AOt×List D)}{k:AOt}{ds:List D}{p:D}(h:p∈ds):∃ps,(k,ps)∈BU c k ds/\p∈ps:=by
 unfold BU
 by_cases z:k∈c.map (·.1)
 .rw[if_pos z];obtain⟨e,a,rfl⟩:=Ap.mp z;refine⟨e.2++ds,Ap.mpr ⟨e,a,by rw[if_pos rfl]⟩,Eu _ h⟩
 .rw[if_neg z];exact⟨ds,by simp,h⟩
def TN{w:AOt}:∀(A:List (AOt×List D)) {c:List (AOt×List D)} {x:AOt×List D} {p:D},x∈A->IG x.1 w=true->p∈x.2->∃ps,(x.1,ps)∈A.foldl (Bb w) c/\p∈ps
 |[],_,_,_,h,_,_=>(nomatch h)
 |y::A,c,x,p,h,hi,hp=>by
  rw[ANE];rcases AY.mp h with e|h
  .subst e;refine YX A ?_;unfold Bb;rw[if_pos hi];exact AIn hp
  .exact TN A h hi hp
def Wy{ts:AOt}:∀(A:List D) {c:List (AOz×List D)} {a:AOz} {p:D},(∃ps,(a,ps)∈c/\p∈ps)->∃ps,(a,ps)∈A.foldl (CA ts) c/\p∈ps
 |[],_,_,_,h=>h
 |x::A,c,a,p,⟨ps,h1,h2⟩=>by
  refine Wy A ?_;unfold CA
  cases EU ts x with
  |none=>exact⟨ps,h1,h2⟩
  |some b =>
   show ∃d,(a,d)∈BU c b [x]/\p∈d
   by_cases z:b∈c.map (·.1)
   .unfold BU;rw[if_pos z]
    by_cases y:a=b
    .exact⟨ps++[x],Ap.mpr ⟨(a,ps),h1,by rw[if_pos y]⟩,ANL _ h2⟩
    .exact⟨ps,Ap.mpr ⟨(a,ps),h1,by rw[if_neg y]⟩,h2⟩
   .unfold BU;rw[if_neg z];exact⟨ps,ANL _ h1,h2⟩
def SY{ts:AOt}:∀(A:List D) {c:List (AOz×List D)} {x:D} {ks:AOz},x∈A->EU ts x=some ks->∃ps,(ks,ps)∈A.foldl (CA ts) c/\x∈ps
 |[],_,_,_,h,_=>(nomatch h)
 |y::A,c,x,ks,h,hs=>by
  rw[ANE];rcases AY.mp h with e|h
  .subst e;refine Wy A ?_;unfold CA;rw[hs];show ∃ps,(ks,ps)∈BU c ks [x]/\x∈ps;unfold BU
   by_cases z:ks∈c.map (·.1)
   .rw[if_pos z];obtain⟨e,a,rfl⟩:=Ap.mp z;exact⟨e.2++[x],Ap.mpr ⟨e,a,by rw[if_pos rfl]⟩,by simp⟩
   .rw[if_neg z];exact⟨[x],by simp,by simp⟩
  .exact SY A h hs
def Wx{p:D}(h:CQ p):p∈Cv:=by
 obtain⟨k,n,e,rfl,a,b,c⟩:=h;simp only[Cv,p1,Ss,Oh,Dz,AY,Dq,or_false];refine⟨.str k,?_,.int n,?_,.str e,?_,rfl⟩
 .simpa using c
 .rcases a with rfl|rfl|rfl|rfl <;> simp
 .rcases b with rfl|rfl <;> simp
def YN{ts:AOt}{p:D}(h:∀i,i<ts.length->∃z,DG p (ts.getD i "")=.int z):∃a,EU ts p=some a/\a.length=ts.length/\∀i,i<ts.length->DG p (ts.getD i "")=.int (a.getD i 0):=by
 have:∃a,EU ts p=some a:=by
  unfold EU
  induction ts with
  |nil=>exact⟨[],rfl⟩
  |cons t ts e =>
   obtain⟨z,f⟩:=h 0 (by simp);obtain⟨a,b⟩:=e λi d=>by simpa using h (i+1) (by simpa using d)
   have c:DG p t=.int z:=by simpa using f
   exact⟨z::a,by rw[Al,c];simp only[Db,b];rfl⟩
 obtain⟨a,b⟩:=this;exact⟨a,b,by have:=congrArg List.length (LU b);simpa using this.symm,λi d=>TC b d⟩
def SD{a b:AOt}(d:a.length=b.length)(h:∀i,i<a.length->a.getD i ""=b.getD i ""):a=b:=by apply List.ext_getElem d;intro i c e;have:=h i c;simpa[c,e] using this
def AEN{ws ts wd:AOt}{p:D}{a:AOt}(hp:EL ws p)(hl:a.length=ts.length)(ha:∀i,i<ts.length->CB (ts.getD i "") p=.str (a.getD i ""))(hi:IG a wd=true):∃ps,(a,ps)∈Ch ws ts wd/\p∈ps:=by
 unfold Ch;rcases hp with⟨w,hw,rfl⟩|⟨d,x,y,rfl,hd,hx,v⟩
 .have e:a=ts.map λ_=>w:=by
   apply SD (by simp[hl]);intro i g;have:=ha i (by omega);have f:(ts.map λ_=>w).getD i ""=w:=by simp[show i<ts.length by omega]
   rw[f];exact(D.str.inj this).symm
  subst e;exact TN _ (x:=(ts.map (λ_=>w),[HC w])) (ANL _ (Bw hw)) hi (by simp[HC])
 .have key:∀i,i<ts.length->∃z j,DG x (ts.getD i "")=.int z/\DG y (ts.getD i "")=.int j/\z<j/\a.getD i ""=EZ d (Txt.slice (ts.getD i "") (some z) (some j)):=λi h=>by
   have g:=ha i h;obtain⟨k',n',e',rfl,_⟩:=id v;rw[LJ] at g;rcases Hw hx (ts.getD i "") with b|⟨z,b,_⟩
   .rw[b] at g;cases g
   .rcases Hw v (ts.getD i "") with f|⟨j,f,_⟩
    .rw[b,f] at g;cases g
    .rw[b,f] at g;simp only at g;split at g
     .cases g
     .exact⟨z,j,b,f,by omega,(D.str.inj g).symm⟩
  obtain⟨n,q,ag,l⟩:=YN (p:=x) λi h=>by obtain⟨z,j,b,_⟩:=key i h;exact⟨z,b⟩
  obtain⟨k,ac,ae,m⟩:=YN (p:=y) λi h=>by obtain⟨z,j,_,b,_⟩:=key i h;exact⟨j,b⟩
  obtain⟨o,ad,u⟩:=SY (ts:=ts) Cv (c:=[]) (Wx hx) q;obtain⟨ys,t,aa⟩:=SY (ts:=ts) Cv (c:=[]) (Wx v) ac
  have s:FD ts n k=true:=by unfold FD;rw[CM];intro i h;have h:=CK.mp h;obtain⟨z,j,b,f,h3,_⟩:=key i h;rw[l i h] at b;rw[m i h] at f;have:=D.int.inj b;have:=D.int.inj f;exact decide_eq_true (by omega)
  have e:a=(Ea ts n k ts.length).map (EZ d):=by
   apply SD (by simp[hl,Ti]);intro i g;have h:=show i<ts.length by omega
   obtain⟨z,j,b,f,_,h4⟩:=key i h;rw[l i h] at b;rw[m i h] at f;rw[h4,<-D.int.inj b,<-D.int.inj f];unfold Ea;simp[h]
  have r:d∈Di:=by rcases hd with rfl|rfl|rfl <;> decide +kernel
  have hm:GO ts (n,o) (k,ys) d∈Ce ws ts++Er ts (Bq ts):=by refine Eu _ (Dz.mpr ⟨(n,o),ad,Dz.mpr ⟨(k,ys),t,?_⟩⟩);unfold CZ;rw[if_pos s];exact Bw r
  subst e;exact TN _ (x:=GO ts (n,o) (k,ys) d) hm hi (On.mpr ⟨x,u,y,aa,rfl⟩)
def AGh{x y:Str}{u v:AOy}(h:y.cps.toList=u++x.cps.toList++v):GH x y=true:=by
 unfold GH;rw[StrLaws.found_iff]
 have a:y.length=u.length+x.length+v.length:=by have:=congrArg List.length h;rw[CG,CG] at this;exact this
 refine⟨u.length,by omega,?_⟩;rw[StrLaws.subAt_eq,h,HA,List.drop_left];have:(x.cps.toList++v).take x.length=x.cps.toList:=List.take_left' rfl;rw[this];simp
def ACn{a b:Str}{v:AOy}(h:a.cps.toList=b.cps.toList++v):Txt.startswith a b=true/\(Txt.slice a (some (b.length:Int)) none).cps.toList=v:=by
 have c:b.length<=a.length:=by have:=congrArg List.length h;rw[CG] at this;show b.cps.toList.length<=a.cps.toList.length;omega
 refine⟨?_,?_⟩
 .unfold Txt.startswith
  rw[Bs];refine⟨decide_eq_true (by omega),?_⟩;rw[StrLaws.subAt_eq,h,ANn];have:(b.cps.toList++v).take b.length=b.cps.toList:=List.take_left' rfl;rw[this];simp
 .rw[Wc c,h];exact List.drop_left' rfl
abbrev HJ(d:D)(ws:List D):Bool:=match d with|.str _=>DB d ws|_=>false
abbrev Nz(d:D):Bool:=match d with|.int i=>DB (.int i) [.int 1,.int 2,.int (-1),.int (-2)]|_=>false
abbrev OJ:List D:=[.str "small",.str "great",.str "figure",.str "mark",.str "any"]
abbrev Tg:List D:=[.str "ahead",.str "behind"]
def Tw{Q:APT}{L:AB}{d:D}{ws:List D}{t:String}(a:Ff d L=some t)(hw:ws.all BA=true)(h:Q (.bl (HJ d ws)) L):W2 (zg [d,.tup ws] L) Q:=by
 unfold zg;refine BP rfl ?_;unfold PM;rfl'
 cases d with
 |str s =>
  refine TV rfl rfl rfl ?_;rfl';refine LX (by rw[hw];rfl) ?_;exact⟨rfl,AV _,h⟩
 |non=>refine Fi rfl rfl rfl ?_;rfl';exact⟨rfl,AV _,h⟩
 |bl b=>refine Fi rfl rfl rfl ?_;rfl';exact⟨rfl,AV _,h⟩
 |int b=>refine Fi rfl rfl rfl ?_;rfl';exact⟨rfl,AV _,h⟩
 |tup b=>refine Fi rfl rfl rfl ?_;rfl';exact⟨rfl,AV _,h⟩
 |fz b=>refine Fi rfl rfl rfl ?_;rfl';exact⟨rfl,AV _,h⟩
 |ty b=>cases a
 |ref k =>
  have:t = "list"\/t = "dict":=by
   simp only[Ff] at a;split at a
   .cases a;exact .inl rfl
   .cases a;exact .inr rfl
   .cases a
  rcases this with rfl|rfl
  .refine Fi rfl a rfl ?_;rfl';exact⟨rfl,AV _,h⟩
  .refine Fi rfl a rfl ?_;rfl';exact⟨rfl,AV _,h⟩
def AFX{Q:APT}{L:AB}{d:D}{t:String}(a:Ff d L=some t)(h:Q (.bl (Nz d)) L):W2 (KF [d] L) Q:=by
 unfold KF;refine BP rfl ?_;simp only[Rk,JN];rfl'
 cases d with
 |int i =>
  refine TV rfl rfl rfl ?_;rfl';refine LX rfl ?_;exact⟨rfl,AV _,h⟩
 |non=>refine Fi rfl rfl rfl ?_;rfl';exact⟨rfl,AV _,h⟩
 |bl b=>refine TV rfl rfl rfl ?_;rfl';exact⟨rfl,AV _,h⟩
 |str b=>refine Fi rfl rfl rfl ?_;rfl';exact⟨rfl,AV _,h⟩
 |tup b=>refine Fi rfl rfl rfl ?_;rfl';exact⟨rfl,AV _,h⟩
 |fz b=>refine Fi rfl rfl rfl ?_;rfl';exact⟨rfl,AV _,h⟩
 |ty b=>cases a
 |ref k =>
  have:t = "list"\/t = "dict":=by
   simp only[Ff] at a;split at a
   .cases a;exact .inl rfl
   .cases a;exact .inr rfl
   .cases a
  rcases this with rfl|rfl
  .refine Fi rfl a rfl ?_;rfl';exact⟨rfl,AV _,h⟩
  .refine Fi rfl a rfl ?_;rfl';exact⟨rfl,AV _,h⟩
def AEJ{Q:APT}{L:AB}{a b c:D}{m j f:String}(i:Ff a L=some m)(l:Ff b L=some j)(g:Ff c L=some f)(h:Q (.bl (HJ a OJ&&(Nz b&&HJ c Tg))) L):W2 (zw [.tup [a,b,c]] L) Q:=by
 unfold zw;refine BP rfl ?_;simp only[Re,JO,JM];rfl';refine Tw i rfl ?_;rfl';have n:HJ a [.str "small",.str "great",.str "figure",.str "mark",.str "any"]=HJ a OJ:=rfl;have k:HJ c [.str "ahead",.str "behind"]=HJ c Tg:=rfl;rw[n]
 cases d:HJ a OJ with
 |false=>rw[d] at h;rfl';exact⟨rfl,AV _,h⟩
 |true =>
  rw[d,Bool.true_and] at h;rfl';refine AFX l ?_;rfl'
  cases e:Nz b with
  |false=>rw[e] at h;rfl';exact⟨rfl,AV _,h⟩
  |true =>
   rw[e,Bool.true_and] at h;rfl';refine Tw g rfl ?_;rw[k];exact⟨rfl,AV _,h⟩
def AGN{a:Str}(h:a∈([("small":Str),"great","figure","mark","any"]:AOt)):HJ (.str a) OJ=true:=by simp only[AY,Dq,or_false] at h;rcases h with rfl|rfl|rfl|rfl|rfl <;> decide +kernel
def AHh{a:Str}(h:a = "ahead"\/a = "behind"):HJ (.str a) Tg=true:=by rcases h with rfl|rfl <;> decide +kernel
def AFY{n:Int}(h:MB n):Nz (.int n)=true:=by rcases h with rfl|rfl|rfl|rfl <;> decide +kernel
def YI{Q:APT}{L:AB}{p:D}(c:CQ p)(h:Q (.bl true) L):W2 (zw [p] L) Q:=by obtain⟨a,d,b,rfl,e,f,g⟩:=c;refine AEJ rfl rfl rfl ?_;rw[AGN g,AFY e,AHh f];exact h
def ADk{xs:List (NK×D)}:∀{m:List (NK×D)},((m++xs).map (·.1)).Nodup->xs.foldl (λm x=>DQ m x.1 x.2) m=m++xs:=by
 induction xs with
 |nil=>intro m _;simp
 |cons x xs a =>
  intro m h;rw[ANE]
  have b:x.1∉m.map (·.1):=λz=>by
   rw[Cg,Gz] at h;exact h.2.2 _ z x.1 (by simp) rfl
  rw[(Nq (ep:=0) b).1,a (by simpa using h)];simp
def Ws{xs:List (NK×D)}(h:(xs.map (·.1)).Nodup):Bz xs=xs:=by unfold Bz;rw[ADk (m:=[]) (by simpa using h)];rfl
def AHZ(a:AOt)(ps:List D):(EY a ps).map (·.1)=ps.map Av:=by
 unfold EY;rw[Bx];have e:((ps.zipIdx.map λq=>Av q.1):List NK)=(ps.zipIdx.map Prod.fst).map Av:=by rw[Bx];rfl
 rw[List.zipIdx_map_fst] at e;exact e
def AHQ(G:Ah):(DT G).map (·.1)=(G.flatMap (·.2)).map Av:=by
 unfold DT
 induction G with
 |nil=>rfl
 |cons e G a=>rw[EA,EA,Cg,Cg,a,AHZ]
def AFn{ws ts:AOt}{G:Ah}(K:Cn ws ts G)(g:(G.flatMap (·.2)).Nodup){a:AOt}{ps:List D}{i:Nat}{p:D}(h:(a,ps)∈G)(s:ps[i]?=some p):Bo (Bz (DT G)) (Av p)=some (.tup [Ak a,.int (i:Int)]):=by
 have j:((DT G).map (·.1)).Nodup:=by rw[AHQ];unfold List.Nodup at g ⊢;rw[ANy];refine List.Pairwise.imp_of_mem ?_ g;intro x y d c b e;obtain⟨m,n,d⟩:=Dz.mp d;obtain⟨l,o,c⟩:=Dz.mp c;have q:=Jk (K.snd m n x d).2.1;have r:=Jk (K.snd l o y c).2.1;exact b (by rw[q,r,e])
 rw[Ws j]
 have t:(Av p,D.tup [Ak a,.int (i:Int)])∈DT G:=by refine Dz.mpr ⟨(a,ps),h,?_⟩;unfold EY;exact Ap.mpr ⟨(p,i),List.mk_mem_zipIdx_iff_getElem?.mpr s,rfl⟩
 obtain⟨k,f⟩:=ANc t;exact OH j f
abbrev GC(G:Ah):Nat->AOt->List D->Nat->Prop
 |0,_,[],n=>n=0
 |l+1,rest,p::row,n=>∃(a:AOt) (ps:List D) (i f:Nat) (b:AOt) (n':Nat),(a,ps)∈G/\ps[i]?=some p/\(a,f,b)∈Bv G l rest/\GC G l b row n'/\n=f+i*AM G l b+n'
 |_,_,_,_=>False
def Tk{G:Ah}{l:Nat}:∀{r:List Cu} {s e:Nat},Gm G l s r e->s<=e
 |[],s,e,h=>ANG h
 |x::r,s,e,h=>by have:=Tk h.2.2;omega
def Zz{G:Ah}(c:∀a∈G.map (·.1),0<CO G a){l:Nat}{rest:AOt}{x:Cu}(b:x∈Bv G l rest):AM G (l+1) rest≠0:=by
 have h:=Oq (l:=l) (rest:=rest) c
 cases e:Bv G l rest with
 |nil=>rw[e] at b;cases b
 |cons y r =>
  rw[e] at h;have d:=h.2.1;have:=Tk h.2.2;omega
def XZ{ws ts:AOt}{G:Ah}(K:Cn ws ts G){l n:Nat}{rest:AOt}{c:List D}(h:GC G l rest c n):AM G l rest≠0:=by
 cases l with
 |zero=>simp[AM]
 |succ l =>
  cases c with
  |nil=>exact h.elim
  |cons p c =>
   obtain⟨a,ps,i,f,b,e,_,_,d,_⟩:=h;exact Zz K.pos d
section
variable {L:AB}{t:Nat}{ws ts wd:AOt}{G:Ah}{Q:APT}
def Rx{n:Int}{xs:List D}(h:Q (.bl (decide ((xs.length:Int)=n))) L):W2 (JE [.int n,.tup xs] L) Q:=by unfold JE;refine BP rfl ?_;unfold PU;rfl';exact⟨rfl,AV _,h⟩
def Sy{w:Str}{ws:AOt}(h:Q (.bl (decide (w∈ws))) L):W2 (zg [.str w,.tup (ws.map D.str)] L) Q:=by refine Tw (t:="str") rfl (Of ws) ?_;show Q (.bl (DB (.str w) (ws.map D.str))) L;rw[LV];exact h
def ACk{d:Str}{x y:D}(c:d∈Di)(a:CQ x)(b:CQ y)(h:Q (.bl true) L):W2 (KB [.tup [.str d,x,y]] L) Q:=by unfold KB;refine BP rfl ?_;unfold RX;rfl';refine Rx ?_;rfl';refine Sy (ws:=Di) ?_;rw[decide_eq_true c];rfl';refine YI a ?_;rfl';refine YI b ?_;exact⟨rfl,AV _,h⟩
def ABy{p:D}(T:HS L t ws G wd)(i:EL ws p)(h:Q (.bl true) L):W2 (Kv [.ref t,p] L) Q:=by
 refine T _ λg m j n k u r l mk q T v o c f=>?_;have s:=T.t_;unfold Kv;refine BP rfl ?_;unfold RR;rcases i with⟨w,hw,rfl⟩|⟨d,x,y,rfl,b,e,a⟩
 .rfl';refine Rx ?_;rfl';refine Sy (ws:=["word"]) ?_;rfl';refine Sy ?_;rw[decide_eq_true hw];exact⟨rfl,AV _,h⟩
 .rfl';refine Rx ?_;rfl';refine ACk (by rcases b with rfl|rfl|rfl <;> decide +kernel) e a ?_;exact⟨rfl,AV _,h⟩
def ADO{ps:List D}(T:HS L t ws G wd)(a:GR ws ps)(h:Q (.bl true) L):W2 (Kt [.ref t,.tup ps] L) Q:=by
 unfold Kt;refine BP rfl ?_;unfold RL;simp only[JL];rfl';refine OU rfl ?_;have i:=a.2.1;have g:=a.2.2
 have f:DB (.int (ps.length:Int)) [.int 1,.int 2,.int 3]=true:=by
  match ps,i,g with
  |[_],_,_=>rfl
  |[_,_],_,_=>rfl
  |[_,_,_],_,_=>rfl
 rw[f];rfl';refine Hv (λZ=>∃e,Z=[e,some (.ref t)]) (λp=>.bl true) (λb=>rfl) ⟨_,rfl⟩ (by omega) ?_ ?_
 .rintro x hx Z ⟨e,rfl⟩;rfl';refine⟨⟨_,rfl⟩,λb=>?_⟩;rfl';exact ABy (T.pre (Ac _ _)) (a.1 x hx) ⟨rfl,rfl⟩
 .rfl'
  have c:∀l:List D,blsD (l.map λ_=>.bl true)=some (l.map λ_=>true):=λl=>by
   induction l with
   |nil=>rfl
   |cons x l d=>simp[blsD,d]
  refine Yn AW (c ps) ?_;refine⟨rfl,Ac _ _,?_⟩;have:((ps.map λ_=>true).all id)=true:=by simp
  rw[this];exact h
abbrev Go(G:Ah)(wd:AOt)(l:Nat):Nat:=((List.range l).map λi=>AM G (i+1) wd).sum
def WK{U:Type}(f:U->Nat):∀xs:List U,(xs.map λi=>((f i:Nat):Int)).sum=(((xs.map f).sum:Nat):Int)
 |[]=>rfl
 |x::xs=>by rw[Al,Al,FJ,FJ,WK f xs];omega
def YQ{U:Type}(f:U->Int):∀xs:List U,Db (xs.map λi=>D.int (f i))=some (xs.map f)
 |[]=>rfl
 |x::xs=>by rw[Al];simp only[Db,YQ f xs];rfl
def AFW(K:Cn ws ts G)(fl:(G.flatMap (·.2)).Nodup)(T:HS L t ws G wd){o:List D}{l n:Nat}(hr:GR ws o)(hl:o.length=l+1)(hn:GC G (l+1) wd o n)(h:Q (.int ((Go G wd l+n:Nat):Int)) L):W2 (Kr [.ref t,.tup o] L) Q:=by
 have bo:l<3:=by have:=hr.2.2;omega
 have T':=T;refine T _ λg m nd nn rt es sp rs mk ks T hm bn a7 ax=>?_;obtain⟨bw,hm⟩:=hm;unfold Kr;refine BP rfl ?_;unfold RF;rfl';refine ADO T' hr ?_;have ht:=T.t_;have a6:(o.length:Int)-1=((l:Nat):Int):=by omega
 rfl';rw[a6,ZW];have bh:(ks.map λ(k:Nat)=>D.int (k:Int)).take l=(ks.take l).map λ(k:Nat)=>D.int (k:Int):=by rw[List.map_take]
 rw[bh];generalize ao:L++[Ob.lst ((ks.take l).map λ(k:Nat)=>D.int (k:Int))]=L1;have p1:L <+: L1:=by rw[<-ao];exact Ac _ _
 have aq:L1[L.length]?=some (.lst ((ks.take l).map λ(k:Nat)=>D.int (k:Int))):=by rw[<-ao];exact AW
 have T1:=T.pre p1;have bj:=T1.t_;refine Ew (λj Cz=>∀e,Cz [e,some (.ref t)] (L1++[Ob.lst ((List.range j).map λi=>D.int ((AM G (i+1) wd:Nat):Int))])) _ 0 _ _ (λCz aa=>aa _) ?_ ?_
 .rintro i x hx Cz Cy fw1 aa e;refine fw1 _ _ (decide_eq_true (AQ aq)) ?_;rw[As] at hx
  cases u:(ks.take l)[i]? with
  |none=>rw[u] at hx;cases hx
  |some k =>
  rw[u] at hx;cases hx;have hi:i<l:=by have:=(Ax.mp u).1;rw[Eg] at this;omega
  rw[List.getElem?_take_of_lt hi] at u;obtain⟨r,a,w,h2⟩:=T1.ways (ax i k u);have ca:(L1++[Ob.lst ((List.range (0+i)).map λi=>D.int ((AM G (i+1) wd:Nat):Int))])[t]?=_:=AQ bj;have b9:(L1++[Ob.lst ((List.range (0+i)).map λi=>D.int ((AM G (i+1) wd:Nat):Int))])[r]?=_:=AQ h2;rfl';refine BZ (d:=.ref r) (AQ T1.nd_) (Dc (by rw[As,w];rfl)) ?_;rfl';refine⟨_,AW,by simp;omega,Do (aa _) ?_⟩;rw[ANZ,Cg,BM];simp
 .rintro Cy fw1 e;refine fw1 _ _ (decide_eq_true (AQ aq)) ?_;have e3:(0+((ks.take l).map λ(k:Nat)=>D.int (k:Int)).length)=l:=by rw[AZ,Eg];omega
  rw[e3];rfl';refine Yj AW (YQ _ _) ?_;rw[WK];have e4:((List.range l).map λi=>AM G (i+1) wd).sum=Go G wd l:=rfl;rw[e4];generalize bm:L1++[Ob.lst ((List.range l).map λi=>D.int ((AM G (i+1) wd:Nat):Int))]=L0;have p0:L <+: L0:=by rw[<-bm];exact p1.trans (Ac _ _)
  have T0:=T.pre p0;have bt:=T0.t_;have bp:=CY p0 bn;have a8:=CY p0 hm;obtain⟨k0,ak⟩:∃k0,ks[l]?=some k0:=⟨ks[l]'(by omega),by simp[a7,bo]⟩;have ac:=ax l k0 ak;have p:∀{k' q n':Nat} {c:AOt} {aj:List D},DZ G sp k' q c->GC G q c aj n'->k'≠1:=λw h2 e=>XZ K h2 (w.one.mp e);obtain⟨r1,a1,b7,cg,ar,n1,_⟩:=T0.node ac (p ac hn);rfl';refine BZ (d:=.int (k0:Int)) bp (Dc (by rw[As,ak];rfl)) ?_;rfl';refine BZ (d:=.ref r1) T0.nd_ (Dc (by rw[As,ar];rfl)) ?_;rfl';refine CN (λj Cz=>∀(r a k z n':Nat) (c:AOt) (e1 e2 e3:Option D),DZ G sp k (l+1-j) c->rs[k]?=some (r,a)->GC G (l+1-j) c (o.drop j) n'->z+n'=Go G wd l+n->Cz [some (.ref t),some (.tup o),some (.int ((l:Nat):Int)),some (.int (z:Int)),some (.ref r),e1,e2,e3] L0) _ 0 _ _ (λCz ad=>ad r1 a1 k0 (Go G wd l) n wd none none none ac ar hn rfl) ?_ ?_
  .rintro j x hx Cz Cy fz2 ad r a k z n' c e1 e2 e3 hnk hrk hnr hz;refine fz2 _ _ rfl ?_;rw[BM] at hnk hnr;have hj:j<o.length:=(Ax.mp hx).1;obtain⟨q,au⟩:∃q,l+1-j=q+1:=⟨l-j,by omega⟩
   have hd:o.drop j=x::o.drop (j+1):=by
    rw[AN4 hj]
    congr 1
    exact(Ax.mp hx).2
   rw[au] at hnk;rw[au,hd] at hnr;have a9:=p hnk hnr;obtain⟨a',ps,i,f,b,n2,hG,ae,ag,v,b8⟩:=hnr;obtain⟨r',a2,ba,cf,aw,nA,_,hS⟩:=T0.node hnk a9;rw[hrk] at aw;cases aw;have pA:=hS q rfl;obtain⟨ia,ay⟩:=ANc ag;obtain⟨y,hy,bc,rfl,s⟩:=XJ pA ay
   have al:(ba.map (·.1)).Nodup:=by rw[Js pA];have w:((Bv G q c).map (·.1)).Nodup:=List.Sublist.nodup (Lx G q c (BI G (q+1) c)) (Ry K.nd _ _);unfold List.Nodup at w ⊢;rw[ANy] at w ⊢;exact w.imp λbf e=>bf (DJ.kf e)
   have am:=OH al hy;have bu:=nA.1;have av:=nA.2;obtain⟨r2,a3,cj,cb,ai,nB,_⟩:=T0.node s (p s v);have bz:=nB.1;rfl';refine AG5 (kk:=Av x) a8 (K.snd _ hG x (BY ae)).2.1 ?_;rw[AFn K fl hG ae];simp only[AOQ];rfl';refine TW av (DJ.key a') ?_;rw[am];rfl';refine Jn rfl ?_;rfl';refine Hk (kk:=Av (Ak a')) av (DJ.key a') am ?_;rfl';refine BZ (d:=.ref r2) T0.nd_ (Dc (by rw[As,ai];rfl)) ?_;rfl'
   have bv:i<16777216:=by have w:=(Ax.mp ae).1;obtain⟨e,hf,he,bd⟩:=FA (Bw (f:=λe:AOt×List D=>e.1) hG);have:e=(a',ps):=Ia (f:=λe:AOt×List D=>e.1) K.nd he hG bd;have hs:=K.sz a' (Bw (f:=λe:AOt×List D=>e.1) hG);unfold CO DC at hs;rw[hf,this] at hs;have:ps.length<=4000000:=hs;omega
   refine Ca (FP (by omega)) ?_;rfl';have eN:(z:Int)+((f:Int)+(i:Int)*((AM G q b:Nat):Int))=((z+(f+i*AM G q b):Nat):Int):=by push_cast;rfl
   rw[eN];refine ad r2 a3 bc (z+(f+i*AM G q b)) n2 b _ _ _ ?_ ai ?_ (by omega)
   .rw[BM,show l+1-(j+1)=q by omega];exact s
   .rw[BM,show l+1-(j+1)=q by omega];exact v
  .rintro Cy fz2 r a k z n' c e1 e2 e3 hnk hrk hnr hz;refine fz2 _ _ rfl ?_;rw[BM,hl,Nat.sub_self] at hnr;have br:o.drop (l+1)=[]:=by rw[<-hl,ANt]
   rw[br] at hnr;have ci:n'=0:=hnr;rfl';refine⟨rfl,p0,?_⟩;have:z=Go G wd l+n:=by omega
   rw[this];exact h
end
abbrev Hg(d:D):Int:=match d with
 |.tup [.str k,.int n,_]=>(if n=1\/n=-1 then 1 else 3)+(if k = "any" then 0 else 1)
 |_=>0
abbrev AEP(x y:D):List D->Int
 |[]=>3+2*((Ng y).length:Int)
 |q::_=>(if Ng x = "copy" then 0 else 2)+Hg y+Hg q
abbrev EE(d:D):Int:=AEP ((LS d).headD .non) ((LS d).tail.headD .non) (LS d).tail.tail
def XC(x:D)(w:Str):EE (.tup [x,.str w])=3+2*(w.length:Int):=rfl
def XD(d:Str)(p q:D):EE (.tup [.str d,p,q])=(if d = "copy" then 0 else 2)+Hg p+Hg q:=rfl
def JR{Q:APT}{L:AB}{d:D}(h:CQ d)(q:Q (.int (Hg d)) L):W2 (JH [d] L) Q:=by
 obtain⟨k,n,e,rfl,f,g,a⟩:=h;unfold JH;refine BP rfl ?_;unfold Qf;unfold Hg at q;simp only at q
 have c:(if n<0 then -n else n)=1↔(n=1\/n=-1):=by rcases f with rfl|rfl|rfl|rfl <;> decide
 rfl';refine BR (λb=>?_) (λb=>?_)
 .rw[if_pos (c.mp b)] at q;rfl';refine BR (λa=>?_) (λa=>?_)
  .rw[if_pos a] at q;rfl';exact⟨rfl,AV _,by simpa using q⟩
  .rw[if_neg a] at q;rfl';exact⟨rfl,AV _,by simpa using q⟩
 .rw[if_neg λz=>b (c.mpr z)] at q;rfl';refine BR (λa=>?_) (λa=>?_)
  .rw[if_pos a] at q;rfl';exact⟨rfl,AV _,by simpa using q⟩
  .rw[if_neg a] at q;rfl';exact⟨rfl,AV _,by simpa using q⟩
def AEM{Q:APT}{L:AB}{d:D}(h:Dv d)(q:Q (.int (EE d)) L):W2 (Kd [d] L) Q:=by
 unfold Kd;refine BP rfl ?_;unfold Qb;rcases h with⟨w,rfl,_,f,_⟩|⟨c,p1,g,rfl,e,a,b⟩
 .rw[XC] at q;rfl';refine Ca (FP (by omega)) ?_;rfl';exact⟨rfl,AV _,q⟩
 .rw[XD] at q;rcases e with rfl|rfl|rfl
  .rw[if_pos rfl] at q;rfl';refine JR a ?_;rfl';refine JR b ?_;rfl';exact⟨rfl,AV _,q⟩
  .rw[if_neg (by decide)] at q;rfl';refine JR a ?_;rfl';refine JR b ?_;rfl';exact⟨rfl,AV _,q⟩
  .rw[if_neg (by decide)] at q;rfl';refine JR a ?_;rfl';refine JR b ?_;rfl';exact⟨rfl,AV _,q⟩
abbrev Dg(f:Int×D):D:=.tup [.int f.1,f.2]
abbrev fD:Option (Int×D)->D
 |some f=>Dg f
 |none=>.non
def Te{o:Option (Int×D)}(h:∀f,o=some f->f.2.noRef=true):(fD o).noRef=true:=by
 cases o with
 |none=>rfl
 |some f =>
  show D.noRefL [.int f.1,f.2]=true;simp[D.noRefL,D.noRef,h f rfl]
def AD8{Q:APT}{L:AB}{f:Int×D}(h:Q (.int f.1) L):W2 (zr [Dg f] L) Q:=by unfold zr;refine BP rfl ?_;unfold Qp Dg;rfl';exact⟨rfl,AV _,h⟩
def AD9(f:Int×D)(L:AB):zr [Dg f] L=some (.int f.1,L):=by obtain⟨d,a,e,rfl,rfl⟩:=AD8 (f:=f) (L:=L) (Q:=λd a=>d=.int f.1/\a=L) ⟨rfl,rfl⟩;exact e
def YA(L:AB):∀fs:List (Int×D),keysG zr L (fs.map Dg)=some (fs.map λf=>(f.1,Dg f))
 |[]=>rfl
 |f::fs=>by
  rw[Al,Al];unfold keysG;rw[AD9 f L];simp only[if_true];rw[YA L fs];rfl
def Zt(g:Int×D->D):∀fs:List (Int×D),bestK (fs.map λf=>(f.1,g f))=(bestK fs).map λf=>(f.1,g f)
 |[]=>rfl
 |f::fs=>by
  rw[Al];unfold bestK;rw[Zt g fs]
  cases bestK fs with
  |none=>rfl
  |some y =>
   simp only[ANW];split <;> rfl
def HN:∀{fs:List (Int×D)} {f:Int×D},bestK fs=some f->f∈fs
 |[],f,h=>by cases h
 |x::fs,f,h=>by
  unfold bestK at h
  cases e:bestK fs with
  |none=>rw[e] at h;cases h;exact BC
  |some y =>
   rw[e] at h;simp only at h;split at h
   .cases h;exact BD _ (HN e)
   .cases h;exact BC
def Lu{fs:List (Int×D)}(h:fs≠[]):∃f,bestK fs=some f:=by
 cases fs with
 |nil=>exact absurd rfl h
 |cons x fs =>
  unfold bestK
  cases bestK fs with
  |none=>exact⟨_,rfl⟩
  |some y=>simp only;split <;> exact⟨_,rfl⟩
def Tj{Q:APT}{L:AB}{k:Nat}{fs:List (Int×D)}(e:L[k]?=some (.lst (fs.map Dg)))(a:∀f∈fs,f.2.noRef=true)(h:Q (fD (bestK fs)) L):W2 (zt [.ref k] L) Q:=by unfold zt;refine BP rfl ?_;unfold Qj;rfl';refine⟨fD (bestK fs),L,?_,Te λf b=>a f (HN b),AV _,h⟩;unfold Lc;simp only[e,YA,Zt,ANW];cases bestK fs <;> rfl
abbrev Iu(ps:List D):Option (Int×D):=bestK (ps.map λp=>(EE p,p))
def AH2{Q:APT}{L:AB}{k:Nat}{ps:List D}(e:L[k]?=some (.lst ps))(m:∀p∈ps,Dv p)(hz:ps.length<=4000000)(h:Q (fD (Iu ps)) L):W2 (Kb [.ref k] L) Q:=by
 have c:∀p∈ps,p.noRef=true:=λp h=>(m p h).noRef;unfold Kb;refine BP rfl ?_;unfold QX;rfl';refine Ew (λj g=>∀e,g [e] (L++[Ob.lst ((ps.take j).map λp=>Dg (EE p,p))])) _ 0 _ _ (λg b=>b _) ?_ ?_
 .rintro i x hx g Cy fw1 b e1;refine fw1 _ _ (decide_eq_true (AQ e)) ?_;have d:=BY hx;have n:=(Ax.mp hx).1;rfl';refine AEM (m x d) ?_;rfl';refine⟨_,AW,by simp;omega,Do (b _) ?_⟩;rw[Fz hx,Cg];simp[Dg]
 .rintro Cy fw1 e1;refine fw1 _ _ (decide_eq_true (AQ e)) ?_;rw[BM,Dy];rfl';refine Tj (fs:=ps.map λp=>(EE p,p)) (by rw[Bx];exact AW) (λf l=>?_) ?_
  .obtain⟨p,a,rfl⟩:=Ap.mp l;exact c p a
  .rfl';exact⟨Te λf l=>by obtain⟨p,a,rfl⟩:=Ap.mp (HN l);exact c p a,Ac _ _,h⟩
abbrev behF(f g:Int×D):Int×D:=(f.1+g.1,match g.2 with|.tup r=>.tup (f.2::r)|d=>d)
def AIN{Q:APT}{L:AB}{z y:Int}{p:D}{r:List D}(b:p.noRef=true)(a:(D.tup r).noRef=true)(hz:r.length<=1000)(h:Q (Dg (z+y,.tup (p::r))) L):W2 (KZ [Dg (z,p),Dg (y,.tup r)] L) Q:=by unfold KZ;refine BP rfl ?_;unfold QS Dg;rfl';show W2 (BE (.tup [p]) (.tup r) L) _;refine AG6 (by simp) (by simp;omega) ?_;rfl';refine⟨?_,AV _,h⟩;have c:D.noRefL r=true:=a;show D.noRefL [.int (z+y),.tup (p::r)]=true;simp[D.noRefL,D.noRef,b,c]
def Yc{ws ts:AOt}{G:Ah}(K:Cn ws ts G)(hw:Dd ws){a:AOt}(c:a∈G.map (·.1)):∃ps,DC G a=some ps/\ps≠[]/\ps.length<=4000000/\∀p∈ps,Dv p:=by
 obtain⟨e,h,g,j⟩:=FA c;have f:DC G a=some e.2:=by unfold DC;rw[h];rfl
 have b:=K.pos a c;have d:=K.sz a c;unfold CO at b d;rw[f] at b d;exact⟨e.2,f,λz=>by rw[z] at b;simp at b,d,λp i=>(K.snd e g p i).1.piece hw⟩
abbrev Eo(G:Ah)(a:AOt):Option (Int×D):=Iu ((DC G a).getD [])
def Oj{ws ts:AOt}{G:Ah}(K:Cn ws ts G)(hw:Dd ws){a:AOt}(e:a∈G.map (·.1)):∃z p,Eo G a=some (z,p)/\p.noRef=true:=by obtain⟨ps,g,h,_,d⟩:=Yc K hw e;unfold Eo Iu;rw[g];obtain⟨f,b⟩:=Lu (fs:=ps.map λp=>(EE p,p)) (by simpa using h);refine⟨f.1,f.2,b,?_⟩;obtain⟨p,c,rfl⟩:=Ap.mp (HN b);exact(d p c).noRef
abbrev Hq(o q:Option (Int×D)):Int×D:=match o,q with
 |some f,some g=>behF f g
 |_,_=>(0,.non)
abbrev Bu(G:Ah):Nat->AOt->Option (Int×D)
 |0,_=>some (0,.tup [])
 |l+1,rest=>bestK ((Bv G l rest).map λx=>Hq (Eo G x.1) (Bu G l x.2.2))
def Jo{ws ts:AOt}{G:Ah}(K:Cn ws ts G)(hw:Dd ws):∀{l:Nat} {rest:AOt},AM G l rest≠0->∃z r,Bu G l rest=some (z,.tup r)/\r.length=l/\(D.tup r).noRef=true
 |0,_,_=>⟨0,[],rfl,rfl,rfl⟩
 |l+1,rest,h=>by
  have b:Bv G l rest≠[]:=λe=>by
   have c:=Oq (l:=l) (rest:=rest) K.pos;rw[e] at c;exact h c.symm
  obtain⟨f,d⟩:=Lu (fs:=(Bv G l rest).map λx=>Hq (Eo G x.1) (Bu G l x.2.2)) (by simpa using b);obtain⟨x,k,e⟩:=Ap.mp (HN d);obtain⟨j,_,o⟩:=HQ k;obtain⟨z,p,i,n⟩:=Oj K hw (Gc j);obtain⟨y,r,g,m,a⟩:=Jo K hw o;rw[i,g] at e;subst e;refine⟨z+y,p::r,d,by simp[m],?_⟩;have a:D.noRefL r=true:=a;show D.noRefL (p::r)=true;simp[D.noRefL,n,a]
section
variable {L:AB}{ws ts:AOt}{G:Ah}{sp:List (Nat×AOt)}{Q:APT}
def AH3(K:Cn ws ts G)(hw:Dd ws){r a ep l pf fl:Nat}{w:Int}{rest:AOt}{kvs kp:List (NK×D)}{ad:Nat}{Fs:List D}(ag:l<=1000)(hn:EN L r w a kvs ep)(pA:Paired (Fb G sp l) (Bv G l rest) kvs)
  (hp:L[pf]?=some (.dt kp ad)) (aa:∀x∈G.map (·.1),Bo kp (Av (Ak x))=some (fD (Eo G x))) (q:L[fl]?=some (.lst Fs)) (hF:∀(c:Nat) (b:AOt),DZ G sp c l b->Fs[c]?=some (fD (Bu G l b)))
  (h:Q (fD (Bu G (l+1) rest)) L):W2 (KW [.ref r,.ref pf,.ref fl] L) Q:=by
 have n1:=hn.1;have n2:=hn.2
 have n:kvs.length=(Bv G l rest).length:=by have:=congrArg List.length (Js pA);rw[AZ,AZ] at this;exact this
 have ae:(Bv G l rest).length<=2406:=by have h1:=(Lx G l rest (BI G (l+1) rest)).length_le;rw[AZ] at h1;have h2:=Rz (G:=G) (l:=l+1) (rest:=rest);have h3:=K.ln;unfold Bv;omega
 unfold KW;refine BP rfl ?_;unfold QN;rfl';refine Ew (λj Cz=>∀e1 e2,Cz [e1,e2,some (.ref pf),some (.ref fl)] (L++[Ob.lst (((Bv G l rest).take j).map λx=>Dg (Hq (Eo G x.1) (Bu G l x.2.2)))])) _ 0 _ _ (λCz g=>g _ _) ?_ ?_
 .rintro i x e Cz Cy fw1 g e1 e2;refine fw1 _ _ (decide_eq_true (AQ n2)) ?_;unfold FM at e;rw[As] at e
  cases k:kvs[i]? with
  |none=>rw[k] at e;cases e
  |some kv =>
  rw[k] at e;cases e;obtain⟨y,hy,c,rfl,m⟩:=XM pA k;dsimp only;rw[DJ.nk];have ac:=BY hy;obtain⟨m1,_,m3⟩:=HQ ac;obtain⟨z,p,c1,c2⟩:=Oj K hw (Gc m1);obtain⟨u,rr,b1,b2,o⟩:=Jo K hw m3;have v:=aa y.1 (Gc m1);have s:=hF c y.2.2 m;rw[c1] at v;rw[b1] at s;rfl';refine Hk (kk:=Av (Ak y.1)) (AQ hp) (DJ.key y.1) v ?_;rfl';refine BZ (d:=Dg (u,.tup rr)) (AQ q) (Dc s) ?_;rfl';refine AIN c2 o (by omega) ?_;rfl';have hi:=(Ax.mp hy).1;refine⟨_,AW,by simp;omega,Do (g _ _) ?_⟩;rw[Fz hy,Cg];simp[c1,b1,Hq,behF]
 .rintro Cy fw1 e1 e2;refine fw1 _ _ (decide_eq_true (AQ n2)) ?_;have e5:(FM kvs).length=(Bv G l rest).length:=by unfold FM;rw[AZ,n]
  rw[e5,BM,Dy]
  have t:∀f∈(Bv G l rest).map (λx=>Hq (Eo G x.1) (Bu G l x.2.2)),f.2.noRef=true:=λf q=>by
   obtain⟨x,e,rfl⟩:=Ap.mp q;obtain⟨m1,_,m3⟩:=HQ e;obtain⟨z,p,c1,c2⟩:=Oj K hw (Gc m1);obtain⟨u,rr,b1,b2,o⟩:=Jo K hw m3;rw[c1,b1];have o:D.noRefL rr=true:=o;show D.noRefL (p::rr)=true;simp[D.noRefL,c2,o]
  rfl';refine Tj (fs:=(Bv G l rest).map λx=>Hq (Eo G x.1) (Bu G l x.2.2)) (by rw[Bx];exact AW) t ?_;rfl';exact⟨Te λf q=>t f (HN q),Ac _ _,h⟩
end
abbrev DU(c:Ah):List (NK×D):=c.map λe=>(Av (Ak e.1),fD (Iu e.2))
def Zb(c:Ah)(h:(c.map (·.1)).Nodup):((DU c).map (·.1)).Nodup:=by unfold DU;rw[Bx];unfold List.Nodup at h ⊢;rw[ANy] at h ⊢;exact h.imp λa e=>a (DJ.kf e)
def AHu{G:Ah}(h:(G.map (·.1)).Nodup){x:AOt}(g:x∈G.map (·.1)):Bo (Bz (DU G)) (Av (Ak x))=some (fD (Eo G x)):=by
 rw[Ws (Zb G h)];obtain⟨e,a,c,rfl⟩:=FA g;have d:DC G e.1=some e.2:=by unfold DC;rw[a];rfl
 obtain⟨i,b⟩:=ANc c;have f:(DU G)[i]?=some (Av (Ak e.1),fD (Iu e.2)):=by unfold DU;rw[As,b];rfl
 rw[OH (Zb G h) f];unfold Eo;rw[d];rfl
def Ls{G:Ah}(b:∀a∈G.map (·.1),0<CO G a){l:Nat}{rest:AOt}(h:AM G (l+1) rest=0):Bu G (l+1) rest=none:=by
 have:Bv G l rest=[]:=by
  cases e:Bv G l rest with
  |nil=>rfl
  |cons x r=>exact absurd h (Zz b (x:=x) (by rw[e];exact BC))
 unfold Bu;rw[this];rfl
abbrev GK(G:Ah)(sp:List (Nat×AOt)):List D:=[Dg (0,.tup []),.non]++sp.map λq=>fD (Bu G (q.1+1) q.2)
def Ys{G:Ah}(d:∀a∈G.map (·.1),0<CO G a){b:List (Nat×AOt)}{k l:Nat}{rest:AOt}(h:DZ G b k l rest):(GK G b)[k]?=some (fD (Bu G l rest)):=by
 cases l with
 |zero =>
  have f:k=0:=h;subst f;rfl
 |succ l =>
  rcases h with⟨c,rfl⟩|⟨c,j,rfl,e⟩
  .rw[Ls d c];rfl
  .show(b.map λq=>fD (Bu G (q.1+1) q.2))[j]?=_;rw[As,e];rfl
def AC6(L:AB)(a b c d:Ob):(L++[a,b,c]).set (L.length+1) d=L++[a,d,c]:=by rw[List.set_append_right _ _ (by omega)];simp
def Yh(L:AB)(a b c:Ob):(L++[a,b,c])[L.length]?=some a/\(L++[a,b,c])[L.length+1]?=some b/\(L++[a,b,c])[L.length+2]?=some c:=by refine⟨by simp,by rw[ANI (by omega)];simp,by rw[ANI (by omega)];simp⟩
section
variable {G:Ah}{X:AOy}{L:AB}{t g m nd nn rt:Nat}{W:D}{es:List (AOt×Nat×List D)}{sp:List (Nat×AOt)}{rs:List (Nat×Nat)}{mk:List ((Nat×AOt)×Nat)}{Q:APT}{ws ts:AOt}
def AFa(K:Cn ws ts G)(hw:Dd ws)(T:Bd G X L t g m nd nn rt W es sp rs mk)(aw:rs.length<=16000000)(h:∀L2,L <+: L2->L2[L.length+1]?=some (.lst (GK G sp))->Q (.ref (L.length+1)) L2):W2 (KS [.ref t] L) Q:=by
 have ht:=T.t_;obtain⟨a6,aa⟩:=T.g_.at_;unfold KS;refine Fe rfl ?_;unfold QJ;rfl';rw[XH DJ];refine CN (λj n=>∀L':AB,(∃d,L'=L++[.dt (Bz (DU ((cont es).take j))) d])->∀e1 e2,n [some (.ref t),some (.ref L.length),e1,e2,none,none] L') _ 0 _ _ (λn o=>o _ ⟨0,rfl⟩ none none) ?_ ?_
 .rintro i x c n Cy fz1 o L' ⟨d,rfl⟩ e1 e2;refine fz1 _ _ (decide_eq_true (AQ aa)) ?_;rw[As] at c
  cases a:es[i]? with
  |none=>rw[a] at c;cases c
  |some e =>
  rw[a] at c;cases c;have ad:=BY a;have hq:=T.g_.it e ad;have z:(cont es)[i]?=some (e.1,e.2.2):=by unfold cont;rw[As,a];rfl
  have y:=BY z;have u:(e.1,e.2.2)∈G:=by rw[<-T.gc];exact y
  obtain⟨ps,r,ax,au,ag⟩:=Yc K hw (Bw (f:=λe:AOt×List D=>e.1) u)
  have ao:ps=e.2.2:=by obtain⟨e',hf,ai,al⟩:=FA (Bw (f:=λe:AOt×List D=>e.1) u);have:e'=(e.1,e.2.2):=Ia (f:=λe:AOt×List D=>e.1) K.nd ai u al;unfold DC at r;rw[hf,this] at r;exact(Option.some.inj r).symm
  subst ao
  have a9:(Bz (DU ((cont es).take (0+i)))).length<=2406:=by
   have h1:=Wt (DU ((cont es).take (0+i)));have h2:(DU ((cont es).take (0+i))).length<=G.length:=by unfold DU;rw[AZ,Eg,T.gc];omega
   have:=K.ln;omega
  rfl';refine AH2 (AQ hq) ag au ?_;rfl';refine OW (kk:=Av (Ak e.1)) AW (by omega) (DJ.key e.1) ?_;rfl';refine o _ ⟨epN (Bz (DU ((cont es).take (0+i)))) (Av (Ak e.1)) d,?_⟩ _ _
  have e5:Bz (DU ((cont es).take (0+i+1)))=DQ (Bz (DU ((cont es).take (0+i)))) (Av (Ak e.1)) (fD (Iu e.2.2)):=by rw[Fz z];unfold DU;rw[Cg];unfold Bz;rw[AOR];rfl
  rw[e5];simp
 .rintro Cy fz1 L' ⟨d,rfl⟩ e1 e2;refine fz1 _ _ (decide_eq_true (AQ aa)) ?_;rw[AZ,BM];have aj:es.length=(cont es).length:=(Iv es).symm;rw[aj,Dy,T.gc];have av:=T.nd_;rfl';have ec:cutD (rs.map λp=>D.ref p.1) (some 2) none=(rs.drop 2).map λp=>D.ref p.1:=by rw[show cutD (rs.map λp=>D.ref p.1) (some 2) none=(rs.map λp=>D.ref p.1).drop 2 from ZY _ 2,List.map_drop]
  rw[ec];have ak:∀x∈G.map (·.1),Bo (Bz (DU G)) (Av (Ak x))=some (fD (Eo G x)):=λx c=>AHu K.nd c;have ar:L++[Ob.dt (Bz (DU G)) d]++[Ob.lst [D.tup [D.int 0,D.tup []],D.non]]++[Ob.lst ((rs.drop 2).map λp=>D.ref p.1)]=L++[Ob.dt (Bz (DU G)) d,Ob.lst (GK G []),Ob.lst ((rs.drop 2).map λp=>D.ref p.1)]:=by simp[GK,Dg]
  have ae:(L++[Ob.dt (Bz (DU G)) d]++[Ob.lst [D.tup [D.int 0,D.tup []],D.non]]).length=L.length+2:=by simp
  have v:(L++[Ob.dt (Bz (DU G)) d]).length=L.length+1:=by simp
  rw[ae,v];refine CN (λj n=>∀e,n [some (.ref t),some (.ref L.length),e1,e2,some (.ref (L.length+1)),e] (L++[Ob.dt (Bz (DU G)) d,Ob.lst (GK G (sp.take j)),Ob.lst ((rs.drop 2).map λp=>D.ref p.1)])) _ 0 _ _ (λn s=>Do (s none) (by rw[List.take_zero];exact ar)) ?_ ?_
  .rintro i x c n Cy fz2 s e;have k:=Yh L (Ob.dt (Bz (DU G)) d) (Ob.lst (GK G (sp.take (0+i)))) (Ob.lst ((rs.drop 2).map λp=>D.ref p.1));have g0:=k.1;have g1:=k.2.1;refine fz2 _ _ (decide_eq_true k.2.2) ?_;rw[As,List.getElem?_drop] at c
   cases a:rs[2+i]? with
   |none=>rw[a] at c;cases c
   |some q =>
   rw[a] at c;cases c;have T1:=T.pre (L':=L++[Ob.dt (Bz (DU G)) d,Ob.lst (GK G (sp.take (0+i))),Ob.lst ((rs.drop 2).map λp=>D.ref p.1)]) (Ac _ _);rw[Nat.add_comm] at a;obtain⟨l,rest,ay,a8,ac,nA,am,pA⟩:=T1.nod (i+2) q.1 q.2 a;have hi:=(Ax.mp a).1;rfl';refine AH3 K hw am nA pA k.1 ak k.2.1 (λa7 b aq=>by rw[BM];exact Ys K.pos aq) ?_;rfl';refine GJ k.2.1 (by unfold GK;simp;omega) ?_;rfl';refine Do (s _) ?_;rw[AC6]
   have e7:GK G (sp.take (0+i+1))=GK G (sp.take (0+i))++[fD (Bu G (l+1) rest)]:=by unfold GK;rw[Fz ac,Cg,HA];rfl
   rw[e7]
  .rintro Cy fz2 e;have w:((rs.drop 2).map λp=>D.ref p.1).length=sp.length:=by rw[AZ,ANi,T.len];omega
   rw[w,BM,Dy];have k:=Yh L (Ob.dt (Bz (DU G)) d) (Ob.lst (GK G sp)) (Ob.lst ((rs.drop 2).map λp=>D.ref p.1));refine fz2 _ _ (decide_eq_true k.2.2) ?_;rfl';refine⟨rfl,?_⟩;exact h _ (Ac _ _) k.2.1
end
abbrev Ho(G:Ah)(wd:AOt):D:=match bestK ((List.range 3).filterMap λi=>Bu G (i+1) wd) with
 |some f=>f.2
 |none=>.non
section
variable {G:Ah}{X:AOy}{L:AB}{t g m nd nn rt:Nat}{W:D}{es:List (AOt×Nat×List D)}{sp:List (Nat×AOt)}{rs:List (Nat×Nat)}{mk:List ((Nat×AOt)×Nat)}{Q:APT}{ws ts wd:AOt}{ks:AOy}
def AH1(K:Cn ws ts G)(hw:Dd ws)(T:Bd G X L t g m nd nn rt W es sp rs mk)(w:rs.length<=16000000)(y:L[rt]?=some (.lst (ks.map λ(k:Nat)=>D.int (k:Int))))(v:ks.length=3)(ad:∀i k,ks[i]?=some k->DZ G sp k (i+1) wd)
  (h:Q (Ho G wd) L):W2 (zu [.ref t] L) Q:=by
 unfold zu;refine BP rfl ?_;unfold QE;rfl';refine AFa K hw T w λL2 s q=>?_;have ae:=(T.pre s).t_;have p:=CY s y;rfl'
 have aa:∀(i:Nat) (f:Int×D),Bu G (i+1) wd=some f->∃r,f.2=.tup r/\f.2.noRef=true:=λi f c=>by
  have ac:AM G (i+1) wd≠0:=λz=>by rw[Ls K.pos z] at c;cases c
  obtain⟨z,r,e,_,n⟩:=Jo K hw ac;rw[e] at c;cases c;exact⟨r,rfl,n⟩
 refine Ew (λj u=>∀e,u [e,some (.ref (L.length+1))] (L2++[Ob.lst (((List.range j).filterMap λi=>Bu G (i+1) wd).map Dg)])) _ 0 _ _ (λu b=>b _) ?_ ?_
 .rintro i x hx u Cy fw1 b e;refine fw1 _ _ (decide_eq_true (AQ p)) ?_;rw[As] at hx
  cases a:ks[i]? with
  |none=>rw[a] at hx;cases hx
  |some k =>
  rw[a] at hx;cases hx;have hi:i<3:=by have:=(Ax.mp a).1;omega
  have l:=Ys K.pos (ad i k a)
  have ag:((List.range (0+i)).filterMap λi=>Bu G (i+1) wd).length<=3:=by have:=AOZ (λi=>Bu G (i+1) wd) (List.range (0+i));rw[AN5] at this;omega
  rfl';refine BZ (d:=fD (Bu G (i+1) wd)) (AQ q) (Dc l) ?_
  cases o:Bu G (i+1) wd with
  |none =>
   show W2 (_) _;rfl';refine Do (b _) ?_;rw[ANZ,AOP];simp[o]
  |some f =>
   rw[o] at l;show W2 (_) _;unfold fD Dg;rfl';refine BZ (d:=Dg f) (AQ q) (Dc l) ?_;rfl';refine⟨_,AW,by rw[AZ];omega,Do (b _) ?_⟩;rw[ANZ,AOP,Cg];simp[o];exact λ_ _ _ _ _=>rfl
 .rintro Cy fw1 e;refine fw1 _ _ (decide_eq_true (AQ p)) ?_;rw[AZ,v,BM]
  have hm:∀f∈(List.range 3).filterMap (λi=>Bu G (i+1) wd),∃r,f.2=.tup r/\f.2.noRef=true:=λf c=>by
   obtain⟨i,_,hi⟩:=ANf.mp c;exact aa i f hi
  rfl';refine Tj AW (λf c=>by obtain⟨r,_,n⟩:=hm f c;exact n) ?_;unfold Ho at h
  cases o:bestK ((List.range 3).filterMap λi=>Bu G (i+1) wd) with
  |none =>
   rw[o] at h;unfold fD;rfl';exact⟨rfl,s.trans (Ac _ _),h⟩
  |some f =>
   rw[o] at h;obtain⟨r,e1,n1⟩:=hm f (HN o);unfold fD Dg;rfl';exact⟨n1,s.trans (Ac _ _),h⟩
def Zh(K:Cn ws ts G)(hw:Dd ws)(T:HS L t ws G wd)(h:Q (Ho G wd) L):W2 (zu [.ref t] L) Q:=by refine T _ λg m nd nn rt es sp rs mk ks T _ a c b=>?_;exact AH1 K hw T T.rsl a c b h
end
def Tl{G:Ah}{l:Nat}:∀{r:List Cu} {s e:Nat},Gm G l s r e->∀x∈r,s<=x.2.1/\x.2.1+Gb G l x<=e
 |[],_,_,_,x,h=>(nomatch h)
 |y::r,s,e,h,x,a=>by
  have c:=Tk h.2.2;have b:=h.1;rcases AY.mp a with rfl|a
  .omega
  .have:=Tl h.2.2 x a;omega
def ZD{G:Ah}{l z:Nat}{x:Cu}:∀{r:List Cu} {s e:Nat} {o:Option Cu},Gm G l s r e->x∈r->x.2.1<=z->z<x.2.1+Gb G l x->En z o r=some x
 |[],_,_,_,_,h,_,_=>(nomatch h)
 |y::r,s,e,o,h,a,h1,h2=>by
  have b:=h.1;unfold En;rcases AY.mp a with rfl|a
  .rw[if_neg (by omega)];exact ZB h.2.2 (by omega)
  .have:=Tl h.2.2 x a;rw[if_neg (by omega)];exact ZD h.2.2 a h1 h2
def OR{ws ts:AOt}{G:Ah}(K:Cn ws ts G){a:AOt}{ps:List D}(h:(a,ps)∈G):DC G a=some ps:=by obtain⟨e,b,c,d⟩:=FA (Bw (f:=λe:AOt×List D=>e.1) h);have:e=(a,ps):=Ia (f:=λe:AOt×List D=>e.1) K.nd c h d;unfold DC;rw[b,this];rfl
def XY{ws ts:AOt}{G:Ah}(K:Cn ws ts G):∀{l n:Nat} {rest:AOt} {c:List D},GC G l rest c n->n<AM G l rest/\CH G l rest n=c
 |0,n,rest,[],h=>by
  have h:n=0:=h;subst h;exact⟨by simp[AM],rfl⟩
 |0,n,rest,_::_,h=>by cases h
 |l+1,n,rest,[],h=>by cases h
 |l+1,n,rest,p::c,h=>by
  obtain⟨a,ps,i,f,b,e,v,r,m,w,rfl⟩:=h;obtain⟨k,u⟩:=XY K w;have q:=OR K v;have s:i<ps.length:=(Ax.mp r).1;have j:=Oq (l:=l) (rest:=rest) K.pos;have d:Gb G l (a,f,b)=ps.length*AM G l b:=by unfold Gb CO;rw[q];rfl
  have y:i*AM G l b+e<ps.length*AM G l b:=by have:=ANR (AM G l b) (show i+1<=ps.length from s);rw[ANK] at this;omega
  have g:=Tl j (a,f,b) m;rw[d] at g;have x:=ZD (o:=none) (z:=f+i*AM G l b+e) j m (by show f<=_;omega) (by rw[d];show _<f+_;omega);have t:f+i*AM G l b+e-f=e+AM G l b*i:=by rw[Nat.mul_comm i];omega
  refine⟨by have:=g.2;show _<AM G (l+1) rest;have h5:f+ps.length*AM G l b<=AM G (l+1) rest:=this;omega,?_⟩;unfold CH;rw[x];show(((DC G a).getD [])[(f+i*AM G l b+e-f) / AM G l b]?.getD .non)::CH G l b ((f+i*AM G l b+e-f) % AM G l b)=_;rw[q,t,Nat.add_mul_div_left _ _ (by omega),Nat.div_eq_of_lt k,Nat.add_mul_mod_self_left,Nat.mod_eq_of_lt k,u,BM];show(ps[i]?.getD .non)::c=_;rw[r];rfl
def AAC{G:Ah}{l:Nat}{rest a b:AOt}(e:a∈BI G (l+1) rest)(g:DV rest a=some b)(i:AM G l b≠0):∃f,(a,f,b)∈Bv G l rest:=by
 have stay:∀(xs:List (AOt)) (st:List Cu×Nat) (x:Cu),x∈st.1->x∈(xs.foldl (DN G l rest) st).1:=by
  intro xs
  induction xs with
  |nil=>intro st x h;exact h
  |cons y xs c =>
   intro st x h;refine c _ x ?_;unfold DN
   cases DV rest y with
   |none=>exact h
   |some b =>
    simp only;split
    .exact h
    .exact ANL _ h
 have d:∀(xs:List (AOt)) (st:List Cu×Nat),a∈xs->∃f,(a,f,b)∈(xs.foldl (DN G l rest) st).1:=by
  intro xs
  induction xs with
  |nil=>intro st h;cases h
  |cons y xs c =>
   intro st h;rcases AY.mp h with rfl|h
   .refine⟨st.2,stay xs _ _ ?_⟩;unfold DN;rw[g];simp only;rw[if_neg i];exact Eu _ (Dr.mpr rfl)
   .exact c _ h
 exact d _ _ e
def Xa{ws ts:AOt}{G:Ah}(K:Cn ws ts G):∀(a:List (D×AOt)) (rest:AOt),rest.length=ts.length->(∀q∈a,∃ps,(q.2,ps)∈G/\q.1∈ps)->(∀i,i<ts.length->(a.flatMap λq=>(q.2.getD i "").cps.toList)=(rest.getD i "").cps.toList)->a≠[]->∃n,GC G a.length rest (a.map (·.1)) n
 |[],_,_,_,_,h=>absurd rfl h
 |q::a,rest,hr,hm,hc,_=>by
  obtain⟨ps,g,y⟩:=hm q BC;obtain⟨i,r⟩:=ANc y;have b:q.2∈G.map (·.1):=Bw (f:=λe:AOt×List D=>e.1) g;have v:=K.len q.2 b;have c:∀i,i<ts.length->Txt.startswith (rest.getD i "") (q.2.getD i "")=true/\(Txt.slice (rest.getD i "") (some ((q.2.getD i "").length:Int)) none).cps.toList=a.flatMap λq=>(q.2.getD i "").cps.toList:=λi h=>ACn (by rw[<-hc i h,EA])
  have j:DV rest q.2=some (Fo rest q.2 rest.length):=by unfold DV;rw[if_pos];unfold Nt;rw[CM];exact λi h=>(c i (by have:=CK.mp h;omega)).1
  have k:=Ts j
  have m:∀i,i<ts.length->(a.flatMap λq=>(q.2.getD i "").cps.toList)=((Fo rest q.2 rest.length).getD i "").cps.toList:=λi h=>by
   have u:(Fo rest q.2 rest.length).getD i ""=Txt.slice (rest.getD i "") (some ((q.2.getD i "").length:Int)) none:=by unfold Fo;simp[show i<rest.length by omega]
   rw[u,(c i h).2]
  cases a with
  |nil =>
   have e:q.2=rest:=by apply SD (by omega);intro i h;have:=hc i (by omega);apply WR;simpa using this
   have p:q.2∈BI G (0+1) rest:=by unfold BI;rw[if_pos rfl,if_pos (e▸b)];simp[e]
   obtain⟨f,o⟩:=AAC (l:=0) p j (by simp[AM]);exact⟨_,q.2,ps,i,f,_,0,g,r,o,rfl,rfl⟩
  |cons d a =>
   obtain⟨t,s⟩:=Xa K (d::a) _ (k.trans hr) (λx w=>hm x (BD _ w)) m (by simp)
   have p:q.2∈BI G ((d::a).length+1) rest:=by unfold BI;rw[if_neg (by simp)];exact b
   obtain⟨f,o⟩:=AAC (l:=(d::a).length) p j (XZ K s);exact⟨_,q.2,ps,i,f,_,t,g,r,o,s,rfl⟩
abbrev EC(r:List D):Int:=(r.map EE).sum
def Lv:∀{fs:List (Int×D)} {f:Int×D},bestK fs=some f->∀g∈fs,f.1<=g.1
 |[],_,h,_,_=>by cases h
 |x::fs,f,h,g,a=>by
  unfold bestK at h
  cases e:bestK fs with
  |none =>
   rw[e] at h;cases h;rcases AY.mp a with rfl|a
   .exact Int.le_refl _
   .obtain⟨y,hy⟩:=Lu (fs:=fs) (λz=>by rw[z] at a;cases a);rw[e] at hy;cases hy
  |some y =>
   rw[e] at h;simp only at h;split at h
   .cases h;rcases AY.mp a with rfl|a
    .omega
    .exact Lv e g a
   .cases h;rcases AY.mp a with rfl|a
    .exact Int.le_refl _
    .have:=Lv e g a;omega
section
variable {ws ts wd:AOt}{G:Ah}
def Za(K:Cn ws ts G)(hw:Dd ws){a:AOt}(c:a∈G.map (·.1)):∃(ps:List D) (i:Nat) (p:D),(a,ps)∈G/\ps[i]?=some p/\Eo G a=some (EE p,p)/\∀q∈ps,EE p<=EE q:=by obtain⟨e,m,d,rfl⟩:=FA c;have j:=OR K (a:=e.1) (ps:=e.2) d;obtain⟨z,p,f,_⟩:=Oj K hw c;have b:=f;unfold Eo Iu at b;rw[j] at b;obtain⟨q,k,g⟩:=Ap.mp (HN b);cases g;obtain⟨i,h⟩:=ANc k;exact⟨e.2,i,_,d,h,f,λr l=>Lv b (EE r,r) (Ap.mpr ⟨r,l,rfl⟩)⟩
def Zs(K:Cn ws ts G)(hw:Dd ws):∀{l:Nat} {rest:AOt} {f:Int×D},Bu G l rest=some f->∃r n,f.2=.tup r/\GC G l rest r n/\f.1=EC r
 |0,_,f,h=>by cases h;exact⟨[],0,rfl,rfl,rfl⟩
 |l+1,rest,f,h=>by
  obtain⟨x,c,e⟩:=Ap.mp (HN h);obtain⟨m,_,q⟩:=HQ c;obtain⟨ps,i,p,o,k,j,_⟩:=Za K hw (Gc m);obtain⟨y,r,b,_,_⟩:=Jo K hw q;obtain⟨s,n,d,g,a⟩:=Zs K hw b;cases d;rw[j,b] at e;subst e;refine⟨p::r,_,rfl,⟨x.1,ps,i,x.2.1,x.2.2,n,o,k,c,g,rfl⟩,?_⟩;have a:y=EC r:=a;show EE p+y=EC (p::r);rw[a];simp[EC]
def Zr(K:Cn ws ts G)(hw:Dd ws):∀{l n:Nat} {rest:AOt} {c:List D},GC G l rest c n->∃f,Bu G l rest=some f/\f.1<=EC c
 |0,n,rest,[],h=>⟨(0,.tup []),rfl,Int.le_refl _⟩
 |0,n,rest,_::_,h=>by cases h
 |l+1,n,rest,[],h=>by cases h
 |l+1,n,rest,p::c,h=>by
  obtain⟨a,ps,i,f,b,n',u,hp,hx,hn,rfl⟩:=h;obtain⟨g,w,v⟩:=Zr K hw hn;obtain⟨s,j,p',o,_,e1,k⟩:=Za K hw (Bw (f:=λe:AOt×List D=>e.1) u)
  have r:s=ps:=by have m:=OR K u;have q:=OR K o;rw[m] at q;exact(Option.some.inj q).symm
  subst r;have d:Hq (Eo G a) (Bu G l b)∈(Bv G l rest).map λx=>Hq (Eo G x.1) (Bu G l x.2.2):=Ap.mpr ⟨(a,f,b),hx,rfl⟩;obtain⟨y,t⟩:=Lu (fs:=(Bv G l rest).map λx=>Hq (Eo G x.1) (Bu G l x.2.2)) (λz=>by rw[z] at d;cases d);refine⟨y,t,?_⟩;have m:=Lv t _ d;rw[e1,w] at m;have q:y.1<=EE p'+g.1:=m;have h3:=k p (BY hp);have h4:EC (p::c)=EE p+EC c:=by simp[EC]
  omega
def AIM(K:Cn ws ts G)(hw:Dd ws)(h:DA G wd≠0):∃r l n,l<3/\Ho G wd=.tup r/\GC G (l+1) wd r n/\∀j m k,j<3->GC G (j+1) wd k m->EC r<=EC k:=by
 have a:∀j,j<3->∀f,Bu G (j+1) wd=some f->f∈(List.range 3).filterMap λi=>Bu G (i+1) wd:=λj c f b=>ANf.mpr ⟨j,CK.mpr c,b⟩
 have o:(List.range 3).filterMap (λi=>Bu G (i+1) wd)≠[]:=λz=>by
  have:∀j,j<3->AM G (j+1) wd=0:=λj c=>by
   by_cases p:AM G (j+1) wd=0
   .exact p
   .obtain⟨u,r,e,_⟩:=Jo K hw p;have:=a j c _ e;rw[z] at this;cases this
  have x:AM G 1 wd=0:=this 0 (by decide);have y:AM G 2 wd=0:=this 1 (by decide);have a2:AM G 3 wd=0:=this 2 (by decide);apply h;unfold DA;omega
 obtain⟨f,b⟩:=Lu o;obtain⟨l,t,d⟩:=ANf.mp (HN b);obtain⟨r,n,s,q,w⟩:=Zs K hw d;refine⟨r,l,n,CK.mp t,?_,q,λj m k c v=>?_⟩
 .unfold Ho;rw[b];exact s
 .obtain⟨g,hg,hle⟩:=Zr K hw v;have:=Lv b g (a j c g hg);omega
end
def ADR(ps:List D)(p:D):EC (ps++[p])=EC ps+EE p:=by simp[EC]
def OE{Q:APT}{L:AB}{ps:List D}(hp:∀p∈ps,Dv p)(q:Q (.int (EC ps)) L):W2 (zi [.tup ps] L) Q:=by
 unfold zi;refine BP rfl ?_;unfold Qz;rfl';refine CN (λj l=>∀L':AB,L <+: L'->∀a b,l [some (.tup ps),some (.int (EC (ps.take j))),a,b] L') _ 0 _ _ (λl f=>f _ (AV _) none none) ?_ ?_
 .rintro i x hx l Cy fz1 f L' hpre a b;refine fz1 _ _ rfl ?_;have t:ps.take (0+i+1)=ps.take (0+i)++[x]:=by rw[BM,Gw,hx];rfl
  rw[t,ADR] at f;generalize EC (ps.take (0+i))=c at f ⊢;rcases hp x (BY hx) with⟨w,rfl,_,h2,_⟩|⟨d,p1,m,rfl,hd,h1,h2⟩
  .rfl';refine Ca (FP (by omega)) ?_;rfl';rw[show c+EE (.tup [.str "word",.str w])=c+3+2*(w.length:Int) by rw[XC];omega] at f;exact f _ hpre _ _
  .have hnw:d≠"word":=by rcases hd with rfl|rfl|rfl <;> decide
   have s:=XD d p1 m
   have hz:(2:Int)*(if (!decide (d = "copy"))=true then 1 else 0)=if d = "copy" then 0 else 2:=by by_cases h:d = "copy" <;> simp[h]
   rfl';refine Ca (FP (by omega)) ?_;rw[hz];rfl'
   refine CN (λj l=>∀(r:AB) b,L <+: r->r[L'.length]?=some (.lst [p1,m])->∀z:Int,z=c+(if d = "copy" then 0 else 2)+(([p1,m].take j).map Hg).sum->l [some (.tup ps),some (.int z),some (.tup [.str d,p1,m]),b] r) _ 0 _ _ (λl g=>g _ b (hpre.trans (Ac _ _)) AW _ (by simp)) ?_ ?_
   .rintro i2 y hy l Cy fz2 g r b1 hpre1 hg1 z hz1;refine fz2 _ _ (decide_eq_true hg1) ?_;have o:[p1,m].take (0+i2+1)=[p1,m].take (0+i2)++[y]:=by rw[BM,Gw,hy];rfl
    rw[o,Cg,List.sum_append,<-Int.add_assoc,<-hz1] at g
    have aa:CQ y:=by
     rcases AY.mp (BY hy) with rfl|h
     .exact h1
     .rw[Dr.mp h];exact h2
    obtain⟨k,n,e,rfl,hn,he,hk⟩:=aa
    have u:Hg (.tup [.str k,.int n,.str e])=(if n=1\/n=-1 then 1 else 3)+(if k = "any" then 0 else 1):=rfl
    have v:(if (!decide (k = "any"))=true then (1:Int) else 0)=if k = "any" then 0 else 1:=by by_cases h:k = "any" <;> simp[h]
    have e3:z+(if n=1\/n=-1 then (1:Int) else 3)+(if (!decide (k = "any"))=true then (1:Int) else 0)=z+(List.map Hg [.tup [.str k,.int n,.str e]]).sum:=by rw[Al,ANk,u,v];simp[Int.add_assoc]
    obtain⟨b,hb,hv⟩:∃b,DB (.int n) [.int 1,.int (-1)]=b/\(if n=1\/n=-1 then (1:Int) else 3)=(if b=true then 1 else 3):=by rcases hn with rfl|rfl|rfl|rfl <;> exact⟨_,rfl,by decide +kernel⟩
    rw[hv] at e3;rfl';refine LX rfl ?_;rw[hb];cases b
    all_goals
     rfl';refine BZ AW rfl ?_;rfl';exact g _ _ (hpre1.trans (Ac _ _)) (AQ hg1) _ e3
   .rintro Cy fz2 r b1 hpre1 hg1 z hz1;refine fz2 _ _ (decide_eq_true hg1) ?_;rw[show z=c+EE (.tup [.str d,p1,m]) by rw[hz1,s];simp[Int.add_assoc]];exact f _ hpre1 _ b1
 .rintro Cy fz1 L' hpre a b;refine fz1 _ _ rfl ?_;rw[BM,Dy];rfl';exact⟨rfl,hpre,q⟩
def AAH:∀{os:List (Option Bool)},(∀o∈os,∃b,o=some b)->∃b,FC os=some b
 |[],_=>⟨true,rfl⟩
 |o::os,h=>by
  obtain⟨b,rfl⟩:=h o BC;obtain⟨c,e⟩:=AAH (os:=os) λx a=>h x (BD _ a);exact⟨b&&c,by rw[FC,e];rfl⟩
def ZE{Q:APT}{L:AB}{a b:Nat}{xs d:List D}(n:L[a]?=some (.lst xs))(i:L[b]?=some (.lst d))(p:∀x∈xs,BA x=true)(m:∀y∈d,BA y=true)(q:∀c,Q (.bl c) L):W2 (Ek (.ref a) (.ref b) L) Q:=by
 have g:DH (.ref a) L=some (false,xs):=by simp[DH,n]
 have f:DH (.ref b) L=some (false,d):=by simp[DH,i]
 obtain⟨c,j⟩:=AAH (os:=(xs.zip d).map λz=>Cj 29 L z.1 z.2) λo ho=>by
  obtain⟨z,h,rfl⟩:=Ap.mp ho;have k:=p z.1 (ANh h).1;have l:=m z.2 (ANh h).2;exact⟨Im z.1 z.2,by rw[Lk,if_pos k,if_pos l]⟩
 have e:Cj 30 L (.ref a) (.ref b)=some (c&&xs.length == d.length):=by rw[Lk,g,f];show(FC ((xs.zip d).map λz=>Cj 29 L z.1 z.2)).map _=_;rw[j];rfl
 refine⟨_,_,?_,q (c&&xs.length == d.length)⟩;unfold Ek;rw[if_neg (by simp[Ex,BA]),if_pos (by simp[He,g,f]),e];rfl
def Zd{p:D}(h:CQ p):Dv (.tup [.str "copy",p,p]):=.inr ⟨"copy",p,p,rfl,.inl rfl,h,h⟩
def Nd{L:AB}{c:EF}{Q:AB->Prop}{ts:AOt}{t:Nat}{x:Option D}(b:L[t]?=some (.lst (ts.map D.str)))(s:ts.length<=1000)(h:∀y∈ts,∀M,W2 (c [some (.str y),x] M) λd m=>m=M/\BA d=true)
  (q:∀ds,(∀d∈ds,BA d=true)->Q (L++[.lst ds])):W1 (DK (λo=>decide (o[t]?=some (.lst (ts.map D.str)))) (Aa 0) By c L.length (ts.map D.str) [none,x] (L++[.lst []])) Q:=by
 refine Ew (λj f=>∀a (ds:List D),ds.length=j->(∀d∈ds,BA d=true)->f [a,x] (L++[Ob.lst ds])) _ 0 _ _ (λf g=>g none [] rfl λ_ h=>(nomatch h)) ?_ ?_
 .rintro i z hz f Cy fw g a ds hds hf;have r:i<ts.length:=by simpa using (Ax.mp hz).1
  obtain⟨y,l,rfl⟩:=Ap.mp (BY hz);refine fw _ _ (decide_eq_true (AQ b)) ?_;rfl';obtain⟨d,p,e,rfl,k⟩:=h y l (L++[.lst ds]);refine⟨d,_,e,ds,AW,by omega,Do (g _ (ds++[d]) (by simp;omega) λx n=>?_) (by simp)⟩;rcases CF.mp n with h|h
  .exact hf x h
  .rw[Dr.mp h];exact k
 .rintro Cy fw _ ds hds hf;exact fw _ _ (decide_eq_true (AQ b)) (q ds hf)
def WX{p:D}(h:CQ p)(y:Str):BA (DG p y)=true:=by rcases Hw h y with e|⟨i,e,_⟩ <;> rw[e] <;> rfl
def AF9{Q:APT}{L:AB}{ws ts:AOt}{t:Nat}{p:D}(hw:Dd ws)(hp:EL ws p)(ad:L[t]?=some (.lst (ts.map D.str)))(ht:Gq ts)(hl:ts.length<=1000)(q:∀p',EL ws p'->Q p' L):W2 (Kp [p,.ref t] L) Q:=by
 unfold Kp;refine BP rfl ?_;unfold Qt;rcases hp with⟨w,hm,rfl⟩|⟨g,p1,p2,rfl,hd,h1,h2⟩
 .rfl';exact⟨rfl,AV _,q _ (.inl ⟨w,hm,rfl⟩)⟩
 have a7:g≠"word":=by rcases hd with rfl|rfl|rfl <;> decide
 refine BW (λl=>l [some (.tup [.str g,p1,p2]),some (.ref t),none,none,none,none,none,none,none,none] L) (λl aq=>?_) ?_
 .rfl';exact aq
 skip
 refine BW (λl=>l [some (.tup [.str g,p1,p2]),some (.ref t),some (.ref L.length),none,none,none,none,none,none,none] (L++[Ob.lst []])) (λl aw=>?_) ?_
 .rfl';exact aw
 skip
 refine BW (λl=>∀v:AB,L <+: v->(∃x y,CQ x/\CQ y/\v[L.length]?=some (.lst [x,y]))->∀a b c d e,l [some (.tup [.str g,p1,p2]),some (.ref t),some (.ref L.length),a,b,c,d,e,none,none] v) (λl ay=>?_) ?_
 .rfl';have hI:(L++[Ob.lst []]).length=L.length+1:=by simp
  have tl:=(Ax.mp ad).1;refine CN (λj l=>∀v:AB,L <+: v->(∃xs,xs.length=j/\(∀x∈xs,CQ x)/\v[L.length]?=some (.lst xs))->v[(L++[Ob.lst []]).length]?=some (.lst [p1,p2])->∀a b c d e,l [some (.tup [.str g,p1,p2]),some (.ref t),some (.ref L.length),a,b,c,d,e,none,none] v) _ 0 _ _ (λl ai=>ai _ ((Ac _ _).trans (Ac _ _)) ⟨[],rfl,λ_ h=>(nomatch h),AQ AW⟩ AW none none none none none) ?_ ?_
  .rintro i x hx l Cy fz4 ai v k ⟨xs,hxl,hxs,hg⟩ hg2 a b c d e;have hi:i<2:=(Ax.mp hx).1
   have m:CQ x:=by
    rcases AY.mp (BY hx) with rfl|h
    .exact h1
    .rw[Dr.mp h];exact h2
   refine fz4 _ _ (decide_eq_true hg2) (Rq ?_);have aa:=CP k ad;refine BW (λl=>∀L4:AB,L <+: L4->L4[L.length]?=some (.lst xs)->L4[(L++[Ob.lst []]).length]?=some (.lst [p1,p2])->(∃sp,(∀d∈sp,BA d=true)/\L4[v.length]?=some (.lst sp))->l [some (.tup [.str g,p1,p2]),some (.ref t),some (.ref L.length),some x,some (.ref v.length),c,d,e,none,none] L4) (λl au=>?_) ?_
   .rfl';refine Nd aa hl (λy u M=>?_) λsp ae=>?_
    .rfl';exact OD (by have:=ht y u;omega) m ⟨rfl,WX m y⟩
    .exact au _ (k.trans (Ac _ _)) (AQ hg) (AQ hg2) ⟨sp,ae,AW⟩
   rintro L4 ag ao al ⟨sp,ae,a6⟩;refine BW (λl=>∀L5:AB,L <+: L5->L5[L.length]?=some (.lst xs)->L5[(L++[Ob.lst []]).length]?=some (.lst [p1,p2])->∀x b c d e,CQ x->l [some (.tup [.str g,p1,p2]),some (.ref t),some (.ref L.length),some x,b,c,d,e,none,none] L5) (λl av=>?_) ?_
   .rfl';refine CN (λj l=>∀L5:AB,L <+: L5->L5[L.length]?=some (.lst xs)->L5[(L++[Ob.lst []]).length]?=some (.lst [p1,p2])->L5[v.length]?=some (.lst sp)->∀x c d e,CQ x->l [some (.tup [.str g,p1,p2]),some (.ref t),some (.ref L.length),some x,some (.ref v.length),c,d,e,none,none] L5) _ 0 _ _ (λl ac=>ac _ ag ao al a6 x _ _ _ m) ?_ ?_
    .rintro i2 z hz l Cy fz7 ac L5 f s n hgs5 x c d e m;obtain⟨ba,rfl⟩:=LF hz;have ak:=CP f ad;refine fz7 _ _ rfl (Rq ?_);refine BW (λl=>∀o,CQ o->l [some (.tup [.str g,p1,p2]),some (.ref t),some (.ref L.length),some x,some (.ref v.length),some (.int (0+(i2:Int))),some o,e,none,none] L5) (λl ax=>?_) ?_
     .rfl';exact Sm _ λo ho=>ax o ho
     rintro o ho;rfl';refine OE (λr hr=>by rw[Dr.mp hr];exact Zd ho) ?_;rfl';refine OE (λr hr=>by rw[Dr.mp hr];exact Zd m) ?_;rfl';refine BR (λ_=>?_) (λ_=>?_)
     .rfl';refine Nd ak hl (λy u M=>?_) λa9 am=>?_
      .rfl';exact OD (by have:=ht y u;omega) ho ⟨rfl,WX ho y⟩
      rfl';refine ZE AW (AQ hgs5) am ae λb=>?_;rfl';refine Fq (λ_=>?_) (λ_=>?_)
      .rfl';exact ac _ (f.trans (Ac _ _)) (AQ s) (AQ n) (AQ hgs5) o _ _ _ ho
      .rfl';exact ac _ (f.trans (Ac _ _)) (AQ s) (AQ n) (AQ hgs5) x _ _ _ m
     .rfl';exact ac _ f s n hgs5 x _ _ _ m
    .rintro Cy fz7 L5 f s n hgs5 x c d e m;exact fz7 _ _ rfl (av _ f s n x _ _ _ _ m)
   rintro L5 f s n x b c d e m;rfl';refine GJ s (by omega) ?_;refine ai _ (Hz f (Ag _)) ⟨xs++[x],by simp;omega,λy u=>?_,Ci s⟩ (Fh (by rw[hI];omega) n) _ _ _ _ _;rcases CF.mp u with h|h
   .exact hxs y h
   .rw[Dr.mp h];exact m
  .rintro Cy fz4 v k ⟨xs,hxl,hxs,hg⟩ hg2 a b c d e;refine fz4 _ _ (decide_eq_true hg2) (ay _ k ?_ a b c d e)
   match xs,hxl,hxs,hg with
   |[x,y],_,hxs,hg=>exact⟨x,y,hxs x (by simp),hxs y (by simp),hg⟩
 rintro v k ⟨x,y,hx,u,hg⟩ a b c d e;have aa:=CP k ad;have e0:atI [x,y] 0=some x:=Dc (j:=0) rfl;have e1:atI [x,y] 1=some y:=Dc (j:=1) rfl;have pc:∀{dd:Str},Iz dd->Dv (.tup [.str dd,x,y])/\EL ws (.tup [.str dd,x,y]):=λh=>⟨.inr ⟨_,x,y,rfl,h,hx,u⟩,.inr ⟨_,x,y,rfl,h,hx,u⟩⟩
 have pf:∀{p:D},Dv p->∀y∈ts,∀M,W2 (zc [p,.str y] M) λd L2=>L2=M/\BA d=true:=λhp y u M=>Sn (by have:=ht y u;omega) (ht y u).1 hp ⟨rfl,by
  rcases LK (by have:=ht y u;omega) (ht y u).1 hp with e|⟨t,e,_⟩ <;> rw[e] <;> rfl⟩
 rfl';refine BZ hg e0 ?_;rfl';refine BZ hg e1 ?_;rfl';refine Nd aa hl (λy u M=>?_) λdu ar=>?_
 .rfl';exact pf (.inr ⟨g,p1,p2,rfl,hd,h1,h2⟩) y u M
 rfl';refine Nd (AQ aa) hl (λy u M=>?_) λa8 aj=>?_
 .rfl';exact pf (pc (.inl rfl)).1 y u M
 rfl';refine ZE AW (AQ AW) aj ar λb=>?_;have nr:∀{dd:Str},Iz dd->(D.tup [.str dd,x,y]).noRef=true:=λh=>(pc h).1.noRef;rfl';refine Fq (λ_=>?_) (λ_=>?_)
 .rfl';exact⟨nr (.inl rfl),k.trans ((Ac _ _).trans (Ac _ _)),q _ (pc (.inl rfl)).2⟩
 .rfl';refine BZ (AQ (AQ hg)) e0 ?_;rfl';refine BZ (AQ (AQ hg)) e1 ?_;rfl';exact⟨nr hd,k.trans ((Ac _ _).trans (Ac _ _)),q _ (pc hd).2⟩
def AHW{Q:APT}{L:AB}{xs:List D}(h:Gh 30 (.tup xs)=true)(q:Q (.bl true) L):W2 (Ek (.tup xs) (.tup xs) L) Q:=by refine⟨_,_,?_,q⟩;unfold Ek;rw[if_neg (by simp[Ex,BA]),if_pos (by simp[He,DH]),ZH 30 L _ h];rfl
def AEO{ws:AOt}{p:D}(h:EL ws p):Gh 29 p=true:=by
 rcases h with⟨w,_,rfl⟩|⟨d,x,y,rfl,_,b,a⟩
 .rfl
 .obtain⟨k,n,e,rfl,_⟩:=b;obtain⟨f,c,g,rfl,_⟩:=a;rfl
def AIL{ws ts:AOt}{G:Ah}(K:Cn ws ts G){wd:AOt}(h:DA G wd=0):Ho G wd=.non:=by
 unfold DA at h;have a:=Ls (rest:=wd) K.pos (show AM G (0+1) wd=0 by show AM G 1 wd=0;omega);have b:=Ls (rest:=wd) K.pos (show AM G (1+1) wd=0 by show AM G 2 wd=0;omega);have c:=Ls (rest:=wd) K.pos (show AM G (2+1) wd=0 by show AM G 3 wd=0;omega);unfold Ho
 have:(List.range 3).filterMap (λi=>Bu G (i+1) wd)=[]:=by show[0,1,2].filterMap (λi=>Bu G (i+1) wd)=[];simp[a,b,c]
 rw[this];rfl
def ABp{Q:APT}{L:AB}{i:Int}(h:Q (.bl true) L):W2 (KH [.int i] L) Q:=by unfold KH;refine BP rfl ?_;unfold PZ;rfl';exact⟨rfl,AV _,h⟩
def ADS{G:Ah}{wd:AOt}{z:Nat}(hz:z<DA G wd):∃l a,l<3/\a<AM G (l+1) wd/\Np G wd z=CH G (l+1) wd a/\z=Go G wd l+a:=by
 unfold DA at hz;unfold Np;have f:Go G wd 0=0:=rfl;have e:Go G wd 1=AM G 1 wd:=by simp[Go]
 have d:Go G wd 2=AM G 1 wd+AM G 2 wd:=by simp[Go,ANZ]
 by_cases b:z<AM G 1 wd
 .rw[if_pos b];exact⟨0,z,by decide,b,rfl,by omega⟩
 .rw[if_neg b]
  by_cases c:z-AM G 1 wd<AM G 2 wd
  .rw[if_pos c];exact⟨1,_,by decide,c,rfl,by omega⟩
  .rw[if_neg c];exact⟨2,z-AM G 1 wd-AM G 2 wd,by decide,by show _<AM G 3 wd;omega,rfl,by omega⟩
def ADM{ws:AOt}{exs:Es}(m:ws.length<=6){l z:Nat}(h:l<3)(hz:z<AM (Ch ws ((BS exs).map (·.1)) ((BS exs).map (·.2))) (l+1) ((BS exs).map (·.2))) :
  GR ws (CH (Ch ws ((BS exs).map (·.1)) ((BS exs).map (·.2))) (l+1) ((BS exs).map (·.2)) z)/\IM (CH (Ch ws ((BS exs).map (·.1)) ((BS exs).map (·.2))) (l+1) ((BS exs).map (·.2)) z) exs=true:=by
 generalize a:(BS exs).map (·.1)=ts at *;generalize c:(BS exs).map (·.2)=wd at *;have K:=TQ m ts wd;generalize Ch ws ts wd=G at *;have b:wd.length=ts.length:=by rw[<-a,<-c,AZ,AZ]
 have f:=LD K hz;refine⟨⟨f.2,by rw[f.1];omega,by rw[f.1];omega⟩,?_⟩;unfold IM;rw[CM];intro x k;obtain⟨i,d⟩:=ANc ((Nn exs).mem_iff.mpr k);have e:i<(BS exs).length:=(Ax.mp d).1;have j:ts.getD i ""=x.1:=by rw[<-a];simp[d]
 have g:wd.getD i ""=x.2:=by rw[<-c];simp[d]
 have:=ADN K hz b (i:=i) (by rw[<-a,AZ];exact e);rw[j,g] at this;exact decide_eq_true this
def AHR{ws:AOt}{exs:Es}{ps:List D}(w:ws.length<=6)(r:GR ws ps)(hf:IM ps exs=true):∃n,GC (Ch ws ((BS exs).map (·.1)) ((BS exs).map (·.2))) ps.length ((BS exs).map (·.2)) ps n:=by
 have hS:∀i,i<(BS exs).length->FL (((BS exs).map (·.1)).getD i "") ps=.str (((BS exs).map (·.2)).getD i ""):=λi c=>by
  have hm:(BS exs)[i]∈exs:=(Nn exs).mem_iff.mp (AOL c);have:=of_decide_eq_true (CM.mp hf _ hm);simpa[c] using this
 have x:((BS exs).map (·.1)).length=(BS exs).length:=by rw[AZ]
 have aa:((BS exs).map (·.2)).length=(BS exs).length:=by rw[AZ]
 generalize ac:(BS exs).map (·.1)=ts at *;generalize ad:(BS exs).map (·.2)=wd at *;have K:=TQ w ts wd
 let b:Str->D->Str:=λy p=>match CB y p with|.str s=>s|_=>""
 have d:∀i,i<ts.length->(∀p∈ps,CB (ts.getD i "") p=.str (b (ts.getD i "") p))/\(ps.flatMap λp=>(b (ts.getD i "") p).cps.toList)=(wd.getD i "").cps.toList:=λi c=>by
  have h:=hS i (by omega);unfold FL at h
  cases e:Bp (ps.map (CB (ts.getD i ""))) with
  |none=>rw[e] at h;cases h
  |some g =>
   rw[e] at h;have hj:Txt.join "" g=wd.getD i "":=D.str.inj h;have o:=WN e
   have f:∀p∈ps,CB (ts.getD i "") p=.str (b (ts.getD i "") p):=λp f=>by
    have:CB (ts.getD i "") p∈g.map D.str:=by rw[<-o];exact Bw f
    obtain⟨s,_,hs⟩:=Ap.mp this
    show CB (ts.getD i "") p=.str (match CB (ts.getD i "") p with|.str s=>s|_=>"")
    rw[<-hs]
   refine⟨f,?_⟩
   have hy:g=ps.map λp=>b (ts.getD i "") p:=by
    have:g.map D.str=(ps.map λp=>b (ts.getD i "") p).map D.str:=by rw[<-o,Bx];exact Ga λp h=>f p h
    exact OC (λ_ _ e=>D.str.inj e) this
   rw[<-hj,YD,hy,AN9]
 have j:∀p∈ps,∃k,((List.range ts.length).map (λi=>b (ts.getD i "") p),k)∈Ch ws ts wd/\p∈k:=λp f=>by
  have m:∀i,i<ts.length->((List.range ts.length).map λi=>b (ts.getD i "") p).getD i ""=b (ts.getD i "") p:=λi c=>by simp[c]
  refine AEN (ws:=ws) (ts:=ts) (wd:=wd) (a:=(List.range ts.length).map λi=>b (ts.getD i "") p) (r.1 p f) (by simp) (λi c=>by rw[m i c];exact(d i c).1 p f) ?_;unfold IG;rw[CM];intro i c;have c:i<ts.length:=by simpa using CK.mp c
  rw[m i c];obtain⟨as,bs,rfl⟩:=List.append_of_mem f;refine AGh (u:=as.flatMap λp=>(b (ts.getD i "") p).cps.toList) (v:=bs.flatMap λp=>(b (ts.getD i "") p).cps.toList) ?_;rw[<-(d i c).2,ANb,EA,HA]
 have t:=r.2.1
 obtain⟨n,l⟩:=Xa K (ps.map λp=>(p,(List.range ts.length).map λi=>b (ts.getD i "") p)) wd (by omega) (λq hq=>by
   obtain⟨p,f,rfl⟩:=Ap.mp hq
   exact j p f) (λi c=>by
   rw[AN9,<-(d i c).2]
   congr 1
   funext p
   simp[c]) (λz=>by rw[List.map_eq_nil_iff] at z;rw[z] at t;exact absurd t (by decide))
 rw[AZ,Bx] at l;exact⟨n,by simpa[Function.comp_def] using l⟩
def AGJ(ns:AOz)(hn:ns.length<=63)(hb:∀z∈ns,Builtin.Int.intBits z<=1048576):W2 (JD [.fz (ns.map .int)] []) λd _=>d=.bl true:=by
 unfold JD;refine BP rfl ?_;unfold Qo;refine BW (λf=>∀L':AB,∀(vs:AOz) (kd:Nat),L'[kd]?=some (.lst (vs.map .int))->(∀v∈vs,0<=v)->24<=vs.length->vs.length<=54->f [some (.fz (ns.map .int)),some (.ref kd),none,none,none,none,none,none,none,none,none] L') (λf bu=>?_) ?_
 .rfl';exact AF8 hb hn 24 54 (by decide) (by decide) (by decide) λvs k L2 _ h2 h3 h4 h5=>bu _ vs k h2 h3 (by omega) (by omega)
 rintro L0 vs kd au hv a8 ci;refine BW (λf=>∀L':AB,∀o c ps s ke,Dd o->JA c->GR o ps->c.length<=6->L0 <+: L'->L'[s]?=some (.lst (o.map D.str))->L'[ke]?=some (.lst (c.map Bj))->f [some (.fz (ns.map .int)),some (.ref kd),some (.ref s),some (.tup ps),some (.ref ke),none,none,none,none,none,none] L') (λf bn=>?_) ?_
 .rfl';refine AF3 au hv a8 (by omega) λo ps c L' s ke kk h1 h2 h3 h4 h5 h6 h7 h8 h9=>?_;rfl';exact bn _ o c ps s ke h1 h3 h2 h5 h6 h7 h8
 rintro L1 o c ps s ke hw hx q bm p1 ag ai;have b9:=CY p1 au;refine BW (λf=>∀L':AB,∀t,L1 <+: L'->HU L1.length L' t o (Ch o ((BS c).map (·.1)) ((BS c).map (·.2))) ((BS c).map (·.2))->f [some (.fz (ns.map .int)),some (.ref kd),some (.ref s),some (.tup ps),some (.ref ke),some (.ref t),none,none,none,none,none] L') (λf br=>?_) ?_
 .rfl';refine ACG ag hw.2.2 ai hx (by omega) λL3 t hp T=>?_;exact br _ t hp T
 rintro L2 t p2 bw;have T2:=bw.tab;have bj:=CY p2 b9;have ae:=CY p2 ag;have u:=CY p2 ai;have K:=TQ hw.2.2 ((BS c).map (·.1)) ((BS c).map (·.2));have fl:=AGr hw.1 ((BS c).map (·.1)) ((BS c).map (·.2));have fn:=λ{ps:List D} hr hf=>AHR (ws:=o) (exs:=c) (ps:=ps) hw.2.2 hr hf;have rk:=λ{l z:Nat} ao hz=>ADM (ws:=o) (exs:=c) hw.2.2 (l:=l) (z:=z) ao hz;generalize (BS c).map (·.1)=ts at *;generalize (BS c).map (·.2)=wd at *;generalize Ch o ts wd=G at *;refine BW (λf=>f [some (.fz (ns.map .int)),some (.ref kd),some (.ref s),some (.tup ps),some (.ref ke),some (.ref t),some (.int (DA G wd:Int)),none,none,none,none] L2) (λf bh=>?_) ?_
 .rfl';refine AFt T2 ?_;exact bh
 skip
 refine BW (λf=>f [some (.fz (ns.map .int)),some (.ref kd),some (.ref s),some (.tup ps),some (.ref ke),some (.ref t),some (.int (DA G wd:Int)),some (Ho G wd),none,none,none] L2) (λf b7=>?_) ?_
 .rfl';refine Zh K hw T2 ?_;exact b7
 skip
 refine BW (λf=>DA G wd≠0->f [some (.fz (ns.map .int)),some (.ref kd),some (.ref s),some (.tup ps),some (.ref ke),some (.ref t),some (.int (DA G wd:Int)),some (Ho G wd),none,none,none] L2) (λf ca=>?_) ?_
 .rfl';refine BR (λhz=>?_) (λhz=>?_)
  .have al:DA G wd=0:=by omega
   rw[AIL K al];rfl';exact⟨rfl,List.nil_prefix,rfl⟩
  .rfl';exact ca (by omega)
 rintro bv;obtain⟨r,l,n,ao,ba,ad,a6⟩:=AIM K hw bv;obtain⟨aq,am⟩:=XY K ad;obtain⟨aa,ar⟩:=rk ao aq;have ax:=(LD K aq).1;rw[am] at aa ar ax;rw[ba];have piece:∀{qs:List D},GR o qs->∀p∈qs,Dv p:=λh p hp=>(h.1 p hp).piece hw;refine BW (λf=>f [some (.fz (ns.map .int)),some (.ref kd),some (.ref s),some (.tup ps),some (.ref ke),some (.ref t),some (.int (DA G wd:Int)),some (.tup r),none,none,none] L2) (λf bp=>?_) ?_
 .rfl';refine Xn ae u hw aa hx ?_;rw[ar];rfl';refine AFW K fl T2 aa ax ad ?_;rfl';refine ABp ?_;rfl';exact bp
 skip
 refine BW (λf=>∀L':AB,L2 <+: L'->(∃ac:AOt,Gq ac/\ac.length<=6/\L'[L2.length]?=some (.lst (ac.map D.str)))->f [some (.fz (ns.map .int)),some (.ref kd),some (.ref s),some (.tup ps),some (.ref ke),some (.ref t),some (.int (DA G wd:Int)),some (.tup r),some (.ref L2.length),none,none] L') (λf bo=>?_) ?_
 .rfl';refine Ew (λj f=>∀a b,f [a,b] (L2++[Ob.lst (((c.take j).map Prod.fst).map D.str)])) _ 0 _ _ (λf ak=>ak none none) ?_ ?_
  .rintro i x hxi f Cy fw9 ak a b;rw[As] at hxi
   cases hy:c[i]? with
   |none=>rw[hy] at hxi;cases hxi
   |some ex =>
    rw[hy] at hxi;cases hxi;have hi:=(Ax.mp hy).1;have cf:c.take (0+i+1)=c.take (0+i)++[ex]:=by rw[BM,Gw,hy];rfl
    refine fw9 _ _ (decide_eq_true (AQ u)) ?_;unfold Bj;rfl';refine⟨_,AW,by simp;omega,Do (ak _ _) ?_⟩;rw[cf];simp
  .rintro Cy fw9 _ _;refine fw9 _ _ (decide_eq_true (AQ u)) (bo _ (Ac _ _) ⟨c.map Prod.fst,λy hy=>?_,by rw[AZ];exact bm,?_⟩)
   .obtain⟨e,he,rfl⟩:=Ap.mp hy;exact⟨(hx e he).1,(hx e he).2.1⟩
   .rw[BM,AZ,Dy];exact AW
 rintro L7 p7 ⟨ac,a9,cm,bc⟩;have T7:=T2.pre p7;have bz:=CY p7 bj;have ay:=CY p7 ae;have bd:=CY p7 u;refine BW (λf=>∀g,GR o g->f [some (.fz (ns.map .int)),some (.ref kd),some (.ref s),some (.tup ps),some (.ref ke),some (.ref t),some (.int (DA G wd:Int)),some (.tup r),some (.ref L2.length),some (.tup g),none] L7) (λf a7=>?_) ?_
 .obtain⟨z3,_,e3⟩:=HP (ns:=vs) (k:=3) (by decide) (by omega);rfl';refine BZ bz e3 ?_;rfl';have m1:=De z3 (b:=(DA G wd:Int)) (by omega);have m2:=Eh z3 (b:=(DA G wd:Int)) (by omega);obtain⟨z,hz⟩:∃z:Nat,z3 % (DA G wd:Int)=z:=⟨_,(Int.toNat_of_nonneg m1).symm⟩;rw[hz];have av:z<DA G wd:=by omega
  refine ADT K hw T7 av ?_;obtain⟨l',z',cg,al,e,_⟩:=ADS av;exact a7 _ (by rw[e];exact(rk cg al).1)
 rintro g aj;refine BW (λf=>∀L':AB,L7 <+: L'->∀a,f [some (.fz (ns.map .int)),some (.ref kd),some (.ref s),some (.tup ps),some (.ref ke),some (.ref t),some (.int (DA G wd:Int)),some (.tup r),some (.ref L2.length),some (.tup g),a] L') (λf bf=>?_) ?_
 .rfl';refine Rr (λZ=>∃a,Z=[a,some (.ref L2.length)]) (λd=>EL o d) ⟨none,rfl⟩ (by have:=q.2.2;omega) ?_ ?_
  .rintro x hxm Z ⟨a,rfl⟩;rfl';refine⟨⟨_,rfl⟩,λck=>?_⟩;rfl';exact AF9 hw (q.1 x hxm) (AQ bc) a9 (by omega) λp' bt=>⟨rfl,bt⟩
  intro cs aw cb;have b8:GR o cs:=⟨cb,by rw[aw];exact q.2.1,by rw[aw];exact q.2.2⟩;rfl';refine CN (λj f=>∀a,f [some (.fz (ns.map .int)),some (.ref kd),some (.ref s),some (.tup ps),some (.ref ke),some (.ref t),some (.int (DA G wd:Int)),some (.tup r),some (.ref L2.length),some (.tup g),a] (L7++[Ob.lst cs]++[Ob.lst [.tup ps,.tup cs,.tup g]])) _ 0 _ _ (λf w=>w none) ?_ ?_
  .rintro i x hxi f Cy fz12 w a;refine fz12 _ _ (decide_eq_true AW) ?_
   obtain⟨qs,rfl,hq⟩:∃qs,x=.tup qs/\GR o qs:=by
    have:=BY hxi;simp only[AY,Dq,or_false] at this;rcases this with rfl|rfl|rfl
    .exact⟨_,rfl,q⟩
    .exact⟨_,rfl,b8⟩
    .exact⟨_,rfl,aj⟩
   rfl';refine Xn (AQ (AQ ay)) (AQ (AQ bd)) hw hq hx ?_;rfl';refine Fq (λhf=>?_) (λ_=>?_)
   .rfl';refine OE (piece hq) ?_;rfl';refine OE (piece aa) ?_
    have cj:EC r<=EC qs:=by obtain⟨m,hm⟩:=fn hq hf;have q1:=hq.2.1;have q3:=hq.2.2;refine a6 (qs.length-1) m qs (by omega) ?_;rw[show qs.length-1+1=qs.length by omega];exact hm
    rfl';exact w _
   .rfl';exact w _
  .rintro Cy fz12 a;exact fz12 _ _ (decide_eq_true AW) (bf _ ((Ac _ _).trans (Ac _ _)) a)
 rintro L9 p9 a;have T9:=T7.pre p9;rfl';refine Zh K hw T9 ?_;rw[ba];rfl';refine AHW ?_ ?_
 .show List.all _ (Gh 29)=true;rw[CM];exact λp hp=>AEO (aa.1 p hp)
 exact⟨rfl,List.nil_prefix,rfl⟩
def law_true(ns:AOz)(b:ns.length<=63)(c:∀z∈ns,Builtin.Int.intBits z<=1048576):∃a,JD [.fz (ns.map .int)] []=some (.bl true,a):=by obtain⟨d,a,e,rfl⟩:=AGJ ns b c;exact⟨a,e⟩
local macro_rules | `(tactic| wtm_at "sc") => `(tactic| exact ⟨rfl, rfl, rfl, by decide +kernel, rfl, by decide +kernel, by decide +kernel⟩)
local macro_rules | `(tactic| wtm_at "b0") => `(tactic| (intro _ _ _ _ _ _ us hl; obtain e := L3.AGH hl; subst e; rfl))
local macro_rules | `(tactic| wtm_at "b1") => `(tactic| (intro _ _ _ _ _ _ us hl; obtain ⟨_, e⟩ := L3.Xu hl; subst e; rfl))
local macro_rules | `(tactic| wtm_at "b2") => `(tactic| (intro _ _ _ _ _ _ us hl; obtain ⟨_, _, e⟩ := L3.JX hl; subst e; rfl))
local macro_rules | `(tactic| wtm_at "b3") => `(tactic| (intro _ _ _ _ _ _ us hl; obtain ⟨_, _, _, e⟩ := L3.IC hl; subst e; rfl))
local macro_rules | `(tactic| wtm_at "b4") => `(tactic| (intro _ _ _ _ _ _ us hl; obtain ⟨_, _, _, _, e⟩ := L3.AGG hl; subst e; rfl))
local macro_rules | `(tactic| wtm_at "bi") => `(tactic| first | wtm_at "b0" | wtm_at "b1" | wtm_at "b2" | wtm_at "b3" | wtm_at "b4")
noncomputable abbrev pW:=PySem.Challenge.pw_byexample_k36_whole_cheapest
seal Ab FE IS Ec Du FY HX Jw EM IT MA Ck Ee PD MtD
seal AA AD AE BG AC AG AK CC Bg Bh AJ AR Ao Bi AU Dh Au AS IR DI Da BN Bk Aa AN FS Ba Ek Cc HL AG9 BQ Le BE CI BK Cd Fk
local macro_rules | `(tactic| wtm_at $s:str) => do let w := s.getString.toList; (if w.take 2 == ['d', ' '] then pure () else Lean.Macro.throwUnsupported); let T := "vv.a AND.ea.b ANC.c AML.d AJ9.sS.e AJ7.s.f AMD.Oee.g ixq.ee.h AKE.e.i AKD.ne.j AMV.FFa.k ALT.n.l AJ4.Oeer.m AKI.tSS.n AMA.o AMT.Omba.p AJ8.q AL6.Fl.r AL5.s AK1.t AKp.u AMO.el.v AKf.e.w AMw.x AMk.y ALR.gG.z AMK.a.A AL9.a.B AKJ.prigS.C AK0.D AKg.e.E AKW.F AMG.G AJ2.e.H AKy.I AKo.J AMQ.iB.K AMB.eoo.L AJb.tw.M AJ3.t.N AJ1.w.O AMx.P AMm.Q AL8.mb.R AKK.e.S AMY.T AMS.Omba.U ALQ.V AMq.W AMR.Oeer.X AJc.t.Y AMN.F.Z ALS.rG.0 AMZ.ee.1 AMX.fOea:list_append.2 ALC.3 AKh.4 AKw.5 AKM.niB.6 AMb.7 AME.e.8 AKq.9 AMy.! AMM.tee.# AHe.Oeex.$ AKv.& AKn.( AKl.) AKi.* AKa.ma.+ AKF.eel., AJB.u.; AMH.e.< AKj.= AMP.> AMs.? AMl.^ AKz.u._ AKt.{ AIH.| AMJ.FFa.} AKs.~ AKb.e.' AKY.zma.À AKV.t.Á AKL.ueee.Â AKG.eee.Ã AM1.Ä AMz.Å AMo.Æ AMf.r.Ç AMX.fOea:list_extend.È ALA.É AKQ.reG.Ê AJe.tw.Ë AJd.t.Ì AJA.Í AM0.Î AMv.Ï AMr.Ð AMn.r.Ñ AMc.r.Ò AMX.fOea:dict_setdefault.Ó AMW.fOe:str_lower.Ô AMW.fOe:str_upper.Õ AMF.e.Ö AK5.× AK4.u.Ø AK2.Ù AKx.Ú AKr.Û AKk.u.Ü AKc.e.Ý AKP.neP.Þ AKH.ß AMu.à AMt.á AMj.â AMi.ã AMh.r.ä AMg.r.å AMe.r.æ AMd.ç AMX.fOea:dict_get.è AMX.fOea:str_join.é AMX.fOea:str_startswith.ê AMW.fOe:str_isdigit.ë AMW.fOe:str_islower.ì AMW.fOe:str_isupper.í AMU.FF.î AMI.FFma.ï AMC.ee.ð ALP.ñ ALO.ò ALN.ó ALB.u.ô AK9.õ AK8.ö AK7.÷ AK6.ø AK3.ù AKu.u.ú AKm.u.û AKe.ma.ü AKd.ma.ý AKZ.ma.þ AKO.eelP.ÿ AKN.Ā AKC.ptS.ā AJ5.OOeee.Ă AI9.ă".splitOn " "; let st ← (w.drop 2).foldrM (fun n st => do let v := (((T.find? (·.back == n)).getD "").dropEnd 2).toString.splitOn ":"; let m := (v.headD "").splitOn "."; let q ← (m.getD 1 "").toList.foldlM (fun (q : Array Lean.Term × List Lean.Term) k => do let p ← (match k with | 'F' => return #[← `(by assumption)] | 'r' => return #[← `(rfl)] | 'p' => return #[← `(PassesOwn.never)] | 'u' => return #[← `(Room.units (by assumption))] | 'm' => return #[← `(BlOk.get (by assumption) _)] | 'x' => return #[← `(fun _ _ => rfl)] | 'n' => return #[← `(by first | assumption | exact nqC)] | 'f' => return (let u := v.getD 1 ""; #["plainAttrs_" ++ (u.splitOn "_").headD "", "slot_" ++ u, "type_" ++ u].map fun u => ⟨Lean.mkIdent (.str `PySem.F u)⟩) | _ => return #[]); let a := q.2; (match k, a with | 'B', x :: y :: z :: a => return (q.1.push (← `(fun _ _ _ _ _ _ => ⟨$x, $y, $z⟩)), a) | _, x :: b => return (if p.isEmpty then (q.1.push x, b) else (q.1 ++ p, a)) | _, [] => return (q.1 ++ p, a))) (#[], st); let c := Lean.mkIdent (.mkSimple (m.headD "")); return (← (if q.1.isEmpty then `($c) else `($c $(q.1)*))) :: q.2) ([] : List Lean.Term); let t := st.headD ⟨.missing⟩; `(tactic| exact fun _ _ _ _ _ _ _ _ _ => $t)
abbrev UJ:AOt:=["abs","all","bool","enumerate","int","isinstance","len","list","max","min","range","sorted","str","sum","tuple","zip"]
section
variable {P:Program}{w:World}{K:AL}{mg:AOs}{base:Heap}{k:Nat}(hb:BlOk mg UJ)
 (zj8:EQ K mg "DEEDS" Ke)
 (zk8:EQ K mg "EDGES" JM)
 (zm11:EQ K mg "END" NM)
 (zl8:EQ K mg "KINDS" JO)
 (zn11:EQ K mg "NOWHERE" Kc)
 (zm8:EQ K mg "NTHS" JN)
 (zn8:EQ K mg "ROW_LENGTHS" JL)
 (zo11:EQ K mg "SIGNS_BY_KIND" NP)
 (zx:DO K AO2 AO6)
 (zy:DO K AO2 AO3)
 (zm1:DO K AO1 AO4)
 (zo8:DO K AO1 AO9)
 (zp8:DO K AO1 APA)
 (zj:DO K AO1 AO5)
 (zz:DO K AO1 APB)
 (zq8:DO K AO1 AO7)
 (zp11:Am P w K mg base k "_law_mixed" Ka)
 (zq11:Am P w K mg base k "_law_draws" KY)
 (zw5:Am P w K mg base k "_law_text" zk)
 (zr11:Am P w K mg base k "_law_words" KU)
 (zr8:Am P w K mg base k "_law_place" zm)
 (zs11:Am P w K mg base k "_law_piece" KR)
 (zt11:Am P w K mg base k "_law_kind" KP)
 (zs8:Am P w K mg base k "_law_spot" ze)
 (zx5:Am P w K mg base k APO zc)
 (zu11:Am P w K mg base k "_law_fitting" KN)
 (zv11:Am P w K mg base k "_law_row" KL)
 (zt8:Am P w K mg base k APP JK)
 (zw11:Am P w K mg base k APQ KI)
 (zx11:Am P w K mg base k "_law_cell" zo)
 (zy11:Am P w K mg base k APR KG)
 (zz11:Am P w K mg base k "_law_made" KC)
 (za12:Am P w K mg base k "members_of" JJ)
 (zu8:GU P w K mg base k AO2 zp)
 (zb12:GU P w K mg base k AO1 Kw)
 (zc12:Am P w K mg base k "all_places" Ku)
 (zd12:Am P w K mg base k "kind_of" Ks)
 (ze12:Am P w K mg base k "is_of" Kq)
 (zf12:Am P w K mg base k "spot" zq)
 (zg12:Am P w K mg base k "places_by_spots" Ko)
 (zh12:Am P w K mg base k "stand_within" Kn)
 (zi12:Am P w K mg base k "add_to_group" JI)
 (zj12:Am P w K mg base k "stretches" Km)
 (zk12:Am P w K mg base k "pieces_between" Kl)
 (zl12:Am P w K mg base k "done_to" Kk)
 (zm12:Am P w K mg base k "groups_of" Kj)
 (zn12:Am P w K mg base k "answers_to_try" Ki)
 (zo12:Am P w K mg base k "rest_behind" Kh)
 (zv8:Am P w K mg base k "node_number" zf)
 (zp12:Am P w K mg base k "table_of" Kg)
 (zq12:Am P w K mg base k "many" Kf)
 (zr12:Am P w K mg base k "price_found" zr)
 (zy5:Am P w K mg base k "cheapest_of" zt)
 (zs12:Am P w K mg base k "place_price" JH)
 (zt12:Am P w K mg base k "piece_price" Kd)
 (zu12:Am P w K mg base k "cheapest_piece" Kb)
 (zv12:Am P w K mg base k "find_behind" KZ)
 (zw12:Am P w K mg base k "cheapest_in" KW)
 (zx12:Am P w K mg base k "node_finds" KS)
 (zy12:Am P w K mg base k "cheapest" zu)
 (zz12:Am P w K mg base k "arm_answers" KQ)
 (za13:Am P w K mg base k "row_from" KO)
 (zb13:Am P w K mg base k "row_at" KM)
 (zc13:Am P w K mg base k "_law_is_place" JG)
 (zd13:Am P w K mg base k "_law_is_row" KJ)
 (ze13:Am P w K mg base k "_law_row_fits" JF)
 (zf13:Am P w K mg base k "_law_whole" KH)
 (zw8:Am P w K mg base k "is_tuple_of" JE)
 (zz5:Am P w K mg base k "is_word_among" zg)
 (zg13:Am P w K mg base k "is_nth" KF)
 (zh13:Am P w K mg base k "is_place" zw)
 (zi13:Am P w K mg base k "is_stretch" KB)
 (zj13:Am P w K mg base k "may_be_used" Kv)
 (zk13:Am P w K mg base k "is_row_of_its_pieces" Kt)
 (zl13:Am P w K mg base k "row_number" Kr)
 (zx8:Am P w K mg base k APS zi)
 (zm13:Am P w K mg base k "_law_cheaper" Kp)
 {ze3:Addr}
 (zc16:AAZ K "NoNumber" ze3)
noncomputable abbrev PR:Stmt:=BB pW 59
def VD:Ar NI (NI.take 2) (Ad PR):=by wtm_at "sc"
abbrev ABe:Az P w K mg base k NI "_law_mixed" PR Rg:=dk VD (by wtm_at "d enm9apyxbacfigugJhaadg=ddqejgtgJgJaaddenm5pyxbacdfjgtagJguhagugJadpyxbacg=ddgtdgJdaqejgugJaadejgugJgtgtagJgJaaadgtaddfigugJadg=dd")
noncomputable abbrev PL:Stmt:=BB pW 60
def VA:Ar NF (NF.take 3) (Ad PL):=by wtm_at "sc"
abbrev ABb:Az P w K mg base k NF "_law_draws" PL RZ:=dk VA (by wtm_at "d ejUãÏbacenm5pyxbacdejgtaguhadgtg*aadeÃadgIhadgtg*aadejAceC+bacleS23abguhaguapyxbacg=ddcfÃaguapyxbacgIhaguapyxbacg=ddfnm5pæ|bacdfiaqqfiK+bpåàbabpÇ|babpyxbacccclFkbabac")
noncomputable abbrev Rj:Stmt:=BB pW 62
def Ux:Ar NB (NB.take 2) (Ad Rj):=by wtm_at "sc"
abbrev ABY:Az P w K mg base k NB "_law_text" Rj RT:=dk Ux (by wtm_at "d ejoejhAbobobobacgugIaddejguagtadejgIadejoeC+baclejgtahaguapyxbacfjgIapyxbacfia")
noncomputable abbrev Rc:Stmt:=BB pW 63
def Uu:Ar My (My.take 1) (Ad Rc):=by wtm_at "sc"
abbrev ABV:Az P w K mg base k My "_law_words" Rc RN:=dk Uu (by wtm_at "d ejAcejguhaddenmDgugIhaddddfjgtdguhaddqeCwLaEdEgtdalejkbgIadbhAbdbdbdbdcguadcenm5adfjLa4EdqenmDaofjoqfnm)aafS23abacqfia")
noncomputable abbrev RW:Stmt:=BB pW 64
def Ur:Ar Mv (Mv.take 1) (Ad RW):=by wtm_at "sc"
abbrev ABS:Az P w K mg base k Mv "_law_place" RW RH:=dk Ur (by wtm_at "d ejhAbobobobobocguadfiBbabhAbdbdb<db<dcgugIaddbhAbobocgugIaddc")
noncomputable abbrev RQ:Stmt:=BB pW 65
def Uo:Ar Ms (Ms.take 2) (Ad RQ):=by wtm_at "sc"
abbrev ABP:Az P w K mg base k Ms "_law_piece" RQ VI:=dk Uo (by wtm_at "d enOËmDguaddÌm5pyxbacdfiBbobhagugIadpyxbaccqejhAbobobobocgugIaddfiBbabkbgIadcbkbgIadcc")
noncomputable abbrev RK:Stmt:=BB pW 66
def Uk:Ar Mp (Mp.take 1) (Ad RK):=by wtm_at "sc"
abbrev ABG:Az P w K mg base k Mp "_law_kind" RK RB:=dk Uk (by wtm_at "d enHìöafioqenHí÷afioqenHëõafioqfio")
noncomputable abbrev RE:Stmt:=BB pW 67
def Uh:Ar Mm (Mm.take 2) (Ad RE):=by wtm_at "sc"
abbrev ABD:Az P w K mg base k Mm "_law_spot" RE Qv:=dk Uh (by wtm_at "d eÊazlzlzlVe6+bpyxbacclÁOMmDaoYmDkbhaacaaenm9pyxbacpÆÄbacfiGqenm5adfigthag*adU^!bXDaocqfigthaaU^!bXDaoc")
noncomputable abbrev Qy:Stmt:=BB pW 68
def Ue:Ar Mi (Mi.take 2) (Ad Qy):=by wtm_at "sc"
abbrev ABA:Az P w K mg base k Mi APO Qy Mf:=dk Ue (by wtm_at "d enmDhadofihadqejkbhadbacejkbhadbacenOMm{aGMm{aGYmÚaafiGqenmDhadofiÕÙLaEaEaqenmDhadofiÔ×LaEaEaqfiLaEaEa")
noncomputable abbrev Qs:Stmt:=BB pW 70
def Ub:Ar Mc (Mc.take 3) (Ad Qs):=by wtm_at "sc"
abbrev AA7:Az P w K mg base k Mc "_law_fitting" Qs Qq:=dk Ub (by wtm_at "d ejkbabacenmDhadofiaqejBbhadbBbobdbocbBbob<dbocceCwAbabBbhadbhadbhadcbaclfnm)GKwalFkbabacfiaqenmDpyxbacdfiGqfiBbobhagugIadpyxbacc")
noncomputable abbrev Qn:Stmt:=BB pW 71
def UY:Ar MZ (MZ.take 3) (Ad Qn):=by wtm_at "sc"
abbrev AA4:Az P w K mg base k MZ "_law_row" Qn Qk:=dk UY (by wtm_at "d ejAcejgIadeC+bgtdguadclejkbababacenm~aGfS23abacqfjgIadfiU7Wbac")
noncomputable abbrev Qi:Stmt:=BB pW 69
def UV:Ar MX (MX.take 2) (Ad Qi):=by wtm_at "sc"
abbrev AA1:Az P w K mg base k MX APP Qi Qg:=dk UV (by wtm_at "d e6walFkbabacenm&GafiGqfiéøobac")
noncomputable abbrev Qe:Stmt:=BB pW 73
def UT:Ar MU (MU.take 4) (Ad Qe):=by wtm_at "sc"
abbrev AAz:Az P w K mg base k MU APQ Qe Qc:=dk UT (by wtm_at "d e6walFBbabkbabaccenmDguaddf6ÀÍbabac0zlzlVFBbabkbabdccqenOËmDguaddÌm5pyxbacdejgugIadpyxbaceÊhaazlzlVejhAbLgtao4EdbLa4E<dbgtLaEd4La4EdbocgugIaddfjgtgtLa4EaAbBbabaccLaEgtad4qfia")
noncomputable abbrev Qa:Stmt:=BB pW 61
def Vg:Ar MR (MR.take 2) (Ad Qa):=by wtm_at "sc"
abbrev AAx:Az P w K mg base k MR "_law_cell" Qa QY:=dk Vg (by wtm_at "d enm9apyxbacfihaaqejgtgtgJguhagugJadpyxbacg=dddgJgJaaddfigugJgugJaaddg=dd")
noncomputable abbrev QW:Stmt:=BB pW 72
def Ve:Ar MO (MO.take 3) (Ad QW):=by wtm_at "sc"
abbrev AAv:Az P w K mg base k MO APR QW QU:=dk Ve (by wtm_at "d ejkbabacejgtdguadenmDgugIadddejgtdguadfjpÇ|babdcqe6+baclFoejhAbobobobocgugIaddenmDgugIadddf6+baclFkbkbabgtgtadacbacfCþbgtadbpÇ|bpyxbacbgtgtadgJaacclejguaaejhagukbabacpyxbacfÃaagthaaaenmDgugIadddfÃadLgJLa4EgtdgugIaddd4EdqejAceCwalfnm)aafS23abacqfia")
noncomputable abbrev QR:Stmt:=BB pW 79
def Vc:Ar MM (MM.take 1) (Ad QR):=by wtm_at "sc"
abbrev AAt:Az P w K mg base k MM "_law_made" QR QP:=dk Vc (by wtm_at "d ejkbgtAbhadcLaEdEdce6wkbabdbdclÁOMm(aoYm5pyxbacdaejkbhadbabacfiAbababkbababhadbLaEdEdcc")
noncomputable abbrev QM:Stmt:=BB pW 46
def Va:Ar MK (MK.take 1) (Ad QM):=by wtm_at "sc"
abbrev AAr:Az P w K mg base k MK "members_of" QM QK:=dk Va (by wtm_at "d ej>eC'a0zlzlVfCübac0zlzlVfÂaaBbabacfia")
noncomputable abbrev QH:Stmt:=YT pW 44 0
def VY:Ar MI (MI.take 2) (Ad QH):=by wtm_at "sc"
abbrev AAp:Az P w K mg base k MI "Node.__init__" QH QF:=dk VY (by wtm_at "d e,aarsf,a>rs")
noncomputable abbrev QD:Stmt:=YT pW 45 0
def VW:Ar NZ (NZ.take 3) (Ad QD):=by wtm_at "sc"
abbrev AAn:Az P w K mg base k NZ "Table.__init__" QD QB:=dk VW (by wtm_at "d e,aarse,aarse,akbacrse,aAb}bdcb}bdccrse,a>rsf,aAcrs")
noncomputable abbrev Py:Stmt:=BB pW 8
def VU:Ar NX (NX.take 0) (Ad Py):=by wtm_at "sc"
abbrev AAl:Az P w K mg base k NX "all_places" Py Pw:=dk VU (by wtm_at "d ejAceCwZlfCwZlfCwZlfS23abBbababaccfia")
noncomputable abbrev Pu:Stmt:=BB pW 3
def VS:Ar NV (NV.take 1) (Ad Pu):=by wtm_at "sc"
abbrev AAj:Az P w K mg base k NV "kind_of" Pu Ps:=dk VS (by wtm_at "d eCwZ0zlzlVfnm&aafiaqfiG")
noncomputable abbrev Pq:Stmt:=BB pW 4
def VQ:Ar NT (NT.take 2) (Ad Pq):=by wtm_at "sc"
abbrev AAh:Az P w K mg base k NT "is_of" Pq Po:=dk VQ (by wtm_at "d fiðXDao8XDkbaca")
noncomputable abbrev Pl:Stmt:=BB pW 12
def VN:Ar NR (NR.take 2) (Ad Pl):=by wtm_at "sc"
abbrev AAf:Az P w K mg base k NR "spot" Pl Pj:=dk VN (by wtm_at "d ejhadejhade6ýbac0zlzlVÁHkbabacaenm9pyxbacpÆÄbacfiGqej#m5adhag*adhaafi#mDhadoagtad")
noncomputable abbrev Pg:Stmt:=BB pW 47
def VL:Ar NO (NO.take 1) (Ad Pg):=by wtm_at "sc"
abbrev ABk:Az P w K mg base k NO "places_by_spots" Pg Pe:=dk VL (by wtm_at "d ej>eCwîlejU7WbKwalFkbabaccfnm)GafS23ÓØababAccbacqfia")
noncomputable abbrev Pc:Stmt:=BB pW 49
def VH:Ar NL (NL.take 2) (Ad Pc):=by wtm_at "sc"
abbrev ABi:Az P w K mg base k NL "stand_within" Pc Pa:=dk VH (by wtm_at "d fipÑÎbKÀÍbabac0zlzlVFX&aac")
noncomputable abbrev PY:Stmt:=BB pW 50
def VF:Ar NH (NH.take 4) (Ad PY):=by wtm_at "sc"
abbrev ABg:Az P w K mg base k NH "add_to_group" PY PV:=dk VF (by wtm_at "d fnHkbabacfSÈÉÓØababAccbacq")
noncomputable abbrev PQ:Stmt:=BB pW 48
def VC:Ar NE (NE.take 3) (Ad PQ):=by wtm_at "sc"
abbrev ABd:Az P w K mg base k NE "stretches" PQ PN:=dk VC (by wtm_at "d ejAceCÀăbababac0zlzlzlVenmÚaafiGqfS23abLaEaEacfia")
noncomputable abbrev PK:Stmt:=BB pW 51
def Uz:Ar NA (NA.take 3) (Ad PK):=by wtm_at "sc"
abbrev ABa:Az P w K mg base k NA "pieces_between" PK Rl:=dk Uz (by wtm_at "d ejAceCwalfSÈÉabKwalFBbababaccfia")
noncomputable abbrev Rn:Stmt:=BB pW 15
def Uw:Ar Mx (Mx.take 2) (Ad Rn):=by wtm_at "sc"
abbrev ABX:Az P w K mg base k Mx "done_to" Rn Rf:=dk Uw (by wtm_at "d enmDaofiaqfi#mDaoÕÙaÔ×a")
noncomputable abbrev Ri:Stmt:=BB pW 52
def Ut:Ar Mu (Mu.take 3) (Ad Ri):=by wtm_at "sc"
abbrev ABU:Az P w K mg base k Mu "groups_of" Ri RY:=dk Ut (by wtm_at "d ej>eCwalfSkbababU7WbKwalFacbAbBbobacccejkbaceCÝalfCÝalejkbababacfnm~aGfCwZlejU7WbKwalFkbabaccfSkbabababkbab$;aab$;aaccqfia")
noncomputable abbrev Rb:Stmt:=BB pW 54
def Uq:Ar Mr (Mr.take 3) (Ad Rb):=by wtm_at "sc"
abbrev ABR:Az P w K mg base k Mr "answers_to_try" Rb RS:=dk Uq (by wtm_at "d enmDadfi#múavarsAbacAcqfiUäÏbvarsc")
noncomputable abbrev RV:Stmt:=BB pW 53
def Um:Ar Mo (Mo.take 2) (Ad RV):=by wtm_at "sc"
abbrev ABO:Az P w K mg base k Mo "rest_behind" RV RM:=dk Um (by wtm_at "d ejAceCÀÍbabac0zlzlVenNHêùabacfiGqfS23abLaEpyxbac4cfiU7Wbac")
noncomputable abbrev RP:Stmt:=BB pW 55
def Uj:Ar Ml (Ml.take 3) (Ad RP):=by wtm_at "sc"
abbrev ABF{zf:GL}(zv8:Am P w K mg base k "node_number" zf):Az P w K mg base k Ml "new_node" RP (RG zf):=dk Uj (by wtm_at "d ej}bdceCwkbababaclejkbabacfnm~aGejkbabg*adbacfnm(aZeÂvarsaBbvarsbacfÿagJpyxb$;varsacvhvarsarsrsñqqenmDvarsdfiZqeS23varsbacfig*pyxbvarscd")
noncomputable abbrev RJ:Stmt:=BB pW 56
def Ug:Ar Me (Me.take 3) (Ad RJ):=by wtm_at "sc"
abbrev ABC{zs4:GL}(zh21:Am P w K mg base k "new_node" zs4):Az P w K mg base k Me "node_number" RJ (Mb zs4):=dk Ug (by wtm_at "d enmDadfiZqejBbabacenmÜavarsfÂvarsakbababacqfi$;varsa")
noncomputable abbrev RD:Stmt:=BB pW 57
def Ud:Ar MW (MW.take 2) (Ad RD):=by wtm_at "sc"
abbrev AA9:Az P w K mg base k MW "table_of" RD RA:=dk Ud (by wtm_at "d ejpçábace6walFhadejU7WbKwalFhadcej}bU7WbacbkbababacceSÈÉvarsbKwZlFkbababaccfia")
noncomputable abbrev Qx:Stmt:=BB pW 34
def Ua:Ar MT (MT.take 1) (Ad Qx):=by wtm_at "sc"
abbrev AA6:Az P w K mg base k MT "many" Qx Qu:=dk Ua (by wtm_at "d fipÒÐbKwvarslFvhvarsarsc")
noncomputable abbrev Qr:Stmt:=BB pW 19
def UX:Ar MQ (MQ.take 1) (Ad Qr):=by wtm_at "sc"
abbrev AA3:Az P w K mg base k MQ "price_found" Qr Qp:=dk UX (by wtm_at "d fihad")
noncomputable abbrev Ql:Stmt:=BB pW 20
def UU:Ar MN (MN.take 1) (Ad Ql):=by wtm_at "sc"
abbrev AA0:Az P w K mg base (k+1) MN "cheapest_of" Ql Qj:=dk UU (by wtm_at "d fiïbac")
noncomputable abbrev Qh:Stmt:=BB pW 16
def US:Ar ML (ML.take 1) (Ad Qh):=by wtm_at "sc"
abbrev AAy:Az P w K mg base k ML "place_price" Qh Qf:=dk US (by wtm_at "d ej#mDpÆÄbhadcdddej#mDhadoddfigtaa")
noncomputable abbrev Qd:Stmt:=BB pW 17
def Vf:Ar MJ (MJ.take 1) (Ad Qd):=by wtm_at "sc"
abbrev AAw:Az P w K mg base k MJ "piece_price" Qd Qb:=dk Vf (by wtm_at "d ejhadenmDaofigtdgJdpyxbhadcqej#mDaoddfigtgtakbhadckbhadc")
noncomputable abbrev QZ:Stmt:=BB pW 21
def Vd:Ar MH (MH.take 1) (Ad QZ):=by wtm_at "sc"
abbrev AAu:Az P w K mg base k MH "cheapest_piece" QZ QX:=dk Vd (by wtm_at "d fikbKwalFBbkbacbacc")
noncomputable abbrev QV:Stmt:=BB pW 22
def Vb:Ar NY (NY.take 2) (Ad QV):=by wtm_at "sc"
abbrev AAs:Az P w K mg base k NY "find_behind" QV QS:=dk Vb (by wtm_at "d fiBbgthadhadbgtBbhadchadc")
noncomputable abbrev QQ:Stmt:=BB pW 23
def VZ:Ar NW (NW.take 3) (Ad QQ):=by wtm_at "sc"
abbrev AAq:Az P w K mg base k NW "cheapest_in" QQ QN:=dk VZ (by wtm_at "d fikbK'vars0zlzlVFkb$;aabhahadcc")
noncomputable abbrev QL:Stmt:=BB pW 24
def VX:Ar NU (NU.take 1) (Ad QL):=by wtm_at "sc"
abbrev AAo:Az P w K mg base k NU "node_finds" QL QJ:=dk VX (by wtm_at "d ej>eC'vars0zlzlVfÂaakbacejAbBbdbBccbGceCwLvarsEd4lfS23abkbababaccfia")
noncomputable abbrev QG:Stmt:=BB pW 25
def VV:Ar NS (NS.take 1) (Ad QG):=by wtm_at "sc"
abbrev AAm:Az P w K mg base k NS "cheapest" QG QE:=dk VV (by wtm_at "d ejkbacejkbKwvarslÁm~haaGhaacfi#m{aGGhad")
noncomputable abbrev QC:Stmt:=BB pW 35
def VT:Ar NQ (NQ.take 2) (Ad QC):=by wtm_at "sc"
abbrev AAk:Az P w K mg base k NQ "arm_answers" QC Pz:=dk VT (by wtm_at "d ejGeC'vars0zlzlVenm5hadafĀqfjafia")
noncomputable abbrev Px:Stmt:=BB pW 36
def VR:Ar NN (NN.take 3) (Ad Px):=by wtm_at "sc"
abbrev AAi:Az P w K mg base k NN "row_from" Px Pv:=dk VR (by wtm_at "d ejAcejhvarsaeām5pâxbvarscdejkbabacej$;varsaejhvarshadejg*ahadeS23abh$;varsagIavarscejguavarsfjafiU7Wbac")
noncomputable abbrev Pt:Stmt:=BB pW 37
def VP:Ar NJ (NJ.take 2) (Ad Pt):=by wtm_at "sc"
abbrev AAg:Az P w K mg base k NJ "row_at" Pt Pr:=dk VP (by wtm_at "d enm9adfßqeCwvarslejvhvarsarsenm9aafikbababacqfÞaófß")
noncomputable abbrev Pp:Stmt:=BB pW 74
def VM:Ar NG (NG.take 1) (Ad Pp):=by wtm_at "sc"
abbrev AAe:Az P w K mg base k NG "_law_is_place" Pp Pn:=dk VM (by wtm_at "d enOMNHpQPbabRWcYm(pyxbacdfiTqenOMNHpQPbhadbR!cMHpQPbhadbRÅcYm)hadBbdbdb<db<dcfiTqenOMNHpQPbhadbR?cYNHpQPbhadbR?cfiTqfi1X&hadBboboboboboc8X&hadBboboc")
noncomputable abbrev Pk:Stmt:=BB pW 75
def VJ:Ar ND (ND.take 2) (Ad Pk):=by wtm_at "sc"
abbrev ABj:Az P w K mg base k ND "_law_is_row" Pk Ph:=dk VJ (by wtm_at "d enOMNHpQPbabRWcYNĂÛÛdpyxbacdfiTqeCwalenOMNHpQPbabRWcMm9pyxbacdYNHpQPbhadbR?cfiTqfnmDhadofnOMm(pyxbacdMNHpQPbhadbR?cYm)hadafiTqfnOMm(pyxbacdYm)hadBbobobocfiTfnOMNHkbhadcYNHkbhadcfiTqfiT")
noncomputable abbrev Pf:Stmt:=BB pW 76
def VG:Ar Mz (Mz.take 3) (Ad Pf):=by wtm_at "sc"
abbrev ABh:Az P w K mg base k Mz "_law_row_fits" Pf Pd:=dk VG (by wtm_at "d enNHkbabacfiTqeCwa0zlzlVfnmûkbabacafiTqfiT")
noncomputable abbrev Pb:Stmt:=BB pW 78
def VE:Ar Mw (Mw.take 1) (Ad Pb):=by wtm_at "sc"
abbrev ABf:Az P w K mg base k Mw "_law_whole" Pb PZ:=dk VE (by wtm_at "d fi1pQPbabR!c8ÖpQPbabRÅc")
noncomputable abbrev PX:Stmt:=BB pW 31
def VB:Ar Mt (Mt.take 2) (Ad PX):=by wtm_at "sc"
abbrev ABc:Az P w K mg base k Mt "is_tuple_of" PX PU:=dk VB (by wtm_at "d fi1pQPbabRWc8XDpyxbaca")
noncomputable abbrev PP:Stmt:=BB pW 9
def Uy:Ar Mq (Mq.take 2) (Ad PP):=by wtm_at "sc"
abbrev ABZ:Az P w K mg base k Mq "is_word_among" PP PM:=dk Uy (by wtm_at "d fi1pQPbabR?c8X&aa")
noncomputable abbrev Rm:Stmt:=BB pW 10
def Uv:Ar Mn (Mn.take 1) (Ad Rm):=by wtm_at "sc"
abbrev ABW:Az P w K mg base k Mn "is_nth" Rm Rk:=dk Uv (by wtm_at "d fi1pQPbabR!c1ÖpQPbabRÅc8X&aZ")
noncomputable abbrev Rh:Stmt:=BB pW 11
def Us:Ar Mj (Mj.take 1) (Ad Rh):=by wtm_at "sc"
abbrev ABT:Az P w K mg base k Mj "is_place" Rh Re:=dk Us (by wtm_at "d enOMNHpQPbabRWcYm(pyxbacdfiTqfi1kbhadbZc1kbhadc8kbhadbZc")
noncomputable abbrev Ra:Stmt:=BB pW 32
def Up:Ar Mg (Mg.take 1) (Ad Ra):=by wtm_at "sc"
abbrev ABQ:Az P w K mg base k Mg "is_stretch" Ra RX:=dk Up (by wtm_at "d fi1kbdbac1kbhadbZc1kbhadc8kbhadc")
noncomputable abbrev RU:Stmt:=BB pW 38
def Ul:Ar Md (Md.take 2) (Ad RU):=by wtm_at "sc"
abbrev ABN:Az P w K mg base k Md "may_be_used" RU RR:=dk Ul (by wtm_at "d enHkbdbacfi1kbhadbBbocc8kbhadbvarscqfikbac")
noncomputable abbrev RO:Stmt:=BB pW 39
def Ui:Ar Ma (Ma.take 2) (Ad RO):=by wtm_at "sc"
abbrev ABE:Az P w K mg base k Ma "is_row_of_its_pieces" RO RL:=dk Ui (by wtm_at "d enOMNHpQPbabRWcYm)pyxbacZfiTqfipÑÎbKwalFkbabacc")
noncomputable abbrev RI:Stmt:=BB pW 40
def Uf:Ar MY (MY.take 2) (Ad RI):=by wtm_at "sc"
abbrev ABB:Az P w K mg base k MY "row_number" RI RF:=dk Uf (by wtm_at "d enNHkbabacfiGqejg*pyxbacdejpÒÐbKwLvars4EalFvhvarsarscejhvarshvarsaeCwalejèôvarsbacenOMm{aGYmÜhadvarsfiGqej$;varshadejhvarshadfÞgthadgJhadvarsòfia")
noncomputable abbrev RC:Stmt:=BB pW 77
def Uc:Ar MV (MV.take 1) (Ad RC):=by wtm_at "sc"
abbrev AA8:Az P w K mg base k MV APS RC Qz:=dk Uc (by wtm_at "d ejdeCwalfnmDhadofjgtgtadgJdpyxbhadcejgtagJdU^!bX(hadocfCwAbhadbhadclfjgtgtahAbdbdcU^!bX&hadBbdb<dccU^!bX(hadocfia")
noncomputable abbrev Qw:Stmt:=BB pW 80
def UZ:Ar MS (MS.take 2) (Ad Qw):=by wtm_at "sc"
abbrev AA5:Az P w K mg base k MS "_law_cheaper" Qw Qt:=dk UZ (by wtm_at "d enm_hadofiaqejAceCwAbhadbhadcle6walFkbabaceC+bdclejkbacejkbBbBbobabacccfnm9akbBbBbobabacccfnm_KwalFkbabacafjaqqfS23abacejBbobhadbhadce6walFkbabacenm_KwalFkbabacafiaqfiBbhadbhadbhadc")
noncomputable abbrev JC:Stmt:=BB pW 81
def UW:Ar MP (MP.take 1) (Ad JC):=by wtm_at "sc"
abbrev AA2:Az P w K mg base k MP "law" JC Qo:=dk UW (by wtm_at "d ejkbabdbdceÊkbaczlzlzlVejkbabacejkbacejkbacenm_adfiX{aGqenOMNHkbababacYNHkbkbabaccfiTqejKwa0zlzlVFaejkbabguhadaceCwAbabU7WbKwalFkbabaccbaclfnOËHkbababacÌm9kbackbacfiTqfiX_kbaca")
end
def AIg{l:PySem.W.OpenLaw}{w:World}{K:AL}{h:Heap}{o:AOs}{fa:Addr}(X:K.In h)(G:h.Ns mainGlobals o)(sj:o "law"=some (.ref fa)){r1 r7 mw cw ml cb ji dn gr gh r q al ku na l8 aw mq jo f7 cy mx my db ju cx j9 jk dh ib t z m7 lc kg mh j3 ki ay fr a8 f6 gn mt cq ej ij d4 jr di br l0 fj jg jb c6 iq me j6 l6 nb kh mv ko b7 kj jy dg jt dw cf jp ck i8 m9 f8:Addr}{o1 o7 ou ug ql qe o3 uc qv qc:Option Addr}{n1 n7 qb t6 qx tq ph pz s0 sw:Nat}{l1 l7 pb rn o6 qg qh r6 sk rl:Array (Option Value)}{t2 t3 t4 t8 t9 sf qt n9 oj r9 nv qa su qp qm re tf pr oi qw ny uh tm ox qj np oq:Tok}(q6:CS K mainGlobals "DEEDS"=some (some (.ref r1)))(q5:K.lookup r1=some ⟨.type "tuple",o1,.seq ([.str "copy" t2,.str "raise" t3,.str "sink" t4]:AOu).toArray n1,l1⟩)(ni:CS K mainGlobals "EDGES"=some (some (.ref r7)))(ua:K.lookup r7=some ⟨.type "tuple",o7,.seq ([.str "ahead" t8,.str "behind" t9]:AOu).toArray n7,l7⟩)(o0:CS K mainGlobals "END"=some (some (.int (0) sf)))(qf:CS K mainGlobals "KINDS"=some (some (.ref mw)))(o5:K.lookup mw=some ⟨.type "tuple",ou,.seq ([.str "small" qt,.str "great" n9,.str "figure" oj,.str "mark" r9,.str "any" nv]:AOu).toArray qb,pb⟩)(ud:CS K mainGlobals "NOWHERE"=some (some (.int (1) qa)))(o4:CS K mainGlobals "NTHS"=some (some (.ref cw)))(qz:K.lookup cw=some ⟨.type "tuple",ug,.seq ([.int (1) su,.int (2) qp,.int (-1) qm,.int (-2) re]:AOu).toArray t6,rn⟩)(rj:CS K mainGlobals "ROW_LENGTHS"=some (some (.ref ml)))(rq:K.lookup ml=some ⟨.type "tuple",ql,.seq ([.int (1) tf,.int (2) pr,.int (3) oi]:AOu).toArray qx,o6⟩)(ow:CS K mainGlobals "SIGNS_BY_KIND"=some (some (.ref cb)))(qk:K.lookup cb=some ⟨.type "tuple",qe,.seq ([.ref ji,.ref dn,.ref gr,.ref gh]:AOu).toArray tq,qg⟩)(tu:K.lookup ji=some ⟨.type "tuple",o3,.seq ([.str "small" qw,.str "abcdefghijklmnopqrstuvwxyz" ny]:AOu).toArray ph,qh⟩)(tt:K.lookup dn=some ⟨.type "tuple",uc,.seq ([.str "great" uh,.str "ABCDEFGHIJKLMNOPQRSTUVWXYZ" tm]:AOu).toArray pz,r6⟩)(on:K.lookup gr=some ⟨.type "tuple",qv,.seq ([.str "figure" ox,.str "0123456789" qj]:AOu).toArray s0,sk⟩)(td:K.lookup gh=some ⟨.type "tuple",qc,.seq ([.str "mark" np,.str " -.,/" oq]:AOu).toArray sw,rl⟩)(t7:CS K mainGlobals "abs"=some none)(nt:CS K mainGlobals "all"=some none)(qi:CS K mainGlobals "bool"=some none)(rh:CS K mainGlobals "enumerate"=some none)(ub:CS K mainGlobals "int"=some none)(o8:CS K mainGlobals "isinstance"=some none)(qd:CS K mainGlobals "len"=some none)(rg:CS K mainGlobals "list"=some none)(sh:CS K mainGlobals "max"=some none)(qu:CS K mainGlobals "min"=some none)(nq:CS K mainGlobals "range"=some none)(oz:CS K mainGlobals "sorted"=some none)(n8:CS K mainGlobals "str"=some none)(rm:CS K mainGlobals "sum"=some none)(pi:CS K mainGlobals "tuple"=some none)(sn:CS K mainGlobals "zip"=some none)(jm:CS K mainGlobals AO2=some (some (.ref r)))(og:AN1 K r Str.empty=true)(pp:AN2 K r=true)(oa:AOE K r=true)(tw:Dl K (.ref r) "__setattr__"=some (some (.builtin "object.__setattr__")))(nu:AOF K r=true)(nw:GY K (.ref r)=true)(gu:CS K mainGlobals AO1=some (some (.ref q)))(oy:AN1 K q Str.empty=true)(nj:AN2 K q=true)(uf:AOE K q=true)(qo:Dl K (.ref q) "__setattr__"=some (some (.builtin "object.__setattr__")))(o9:AOF K q=true)(rb:GY K (.ref q)=true)(n0:Dl K (.ref r) AO6=some none)(q8:Dl K (.ref r) AO3=some none)(rf:Dl K (.ref q) AO4=some none)(ra:Dl K (.ref q) AO9=some none)(qr:Dl K (.ref q) APA=some none)(pj:Dl K (.ref q) AO5=some none)(om:Dl K (.ref q) APB=some none)(p8:Dl K (.ref q) AO7=some none)(t0:CS K mainGlobals "NoNumber"=some (some (.ref al)))(oh:PySem.W.excIn K al Zk "ValueError.__new__"=true)(n6:FQ K "_law_mixed" PR ku)(p6:FQ K "_law_draws" PL na)(qy:FQ K "_law_text" Rj l8)(sd:FQ K "_law_words" Rc aw)(dr:FQ K "_law_place" RW mq)(d6:FQ K "_law_piece" RQ jo)(g7:FQ K "_law_kind" RK f7)(cp:FQ K "_law_spot" RE cy)(cu:FQ K APO Qy mx)(jv:FQ K "_law_fitting" Qs my)(f9:FQ K "_law_row" Qn db)(lq:FQ K APP Qi ju)(l9:FQ K APQ Qe cx)(lz:FQ K "_law_cell" Qa j9)(c7:FQ K APR QW jk)(dz:FQ K "_law_made" QR dh)(b9:FQ K "members_of" QM ib)(ng:Dl K (.ref r) "__init__"=some (some (.ref t)))(bp:PySem.W.isFn K (.ref t)=true)(jn:MF K "__init__" "Node.__init__" QH t)(ky:Dl K (.ref q) "__init__"=some (some (.ref z)))(dc:PySem.W.isFn K (.ref z)=true)(au:MF K "__init__" "Table.__init__" QD z)(ff:FQ K "all_places" Py m7)(gq:FQ K "kind_of" Pu lc)(ic:FQ K "is_of" Pq kg)(bf:FQ K "spot" Pl mh)(d5:FQ K "places_by_spots" Pg j3)(lp:FQ K "stand_within" Pc ki)(df:FQ K "add_to_group" PY ay)(j5:FQ K "stretches" PQ fr)(mm:FQ K "pieces_between" PK a8)(bn:FQ K "done_to" Rn f6)(jd:FQ K "groups_of" Ri gn)(gk:FQ K "answers_to_try" Rb mt)(nh:FQ K "rest_behind" RV cq)(aj:FQ K "new_node" RP ej)(y:FQ K "node_number" RJ ij)(jc:FQ K "table_of" RD d4)(i5:FQ K "many" Qx jr)(cj:FQ K "price_found" Qr di)(bz:FQ K "cheapest_of" Ql br)(ma:FQ K "place_price" Qh l0)(lg:FQ K "piece_price" Qd fj)(d9:FQ K "cheapest_piece" QZ jg)(cg:FQ K "find_behind" QV jb)(im:FQ K "cheapest_in" QQ c6)(kl:FQ K "node_finds" QL iq)(lj:FQ K "cheapest" QG me)(gw:FQ K "arm_answers" QC j6)(mz:FQ K "row_from" Px l6)(bt:FQ K "row_at" Pt nb)(fk:FQ K "_law_is_place" Pp kh)(bv:FQ K "_law_is_row" Pk mv)(mr:FQ K "_law_row_fits" Pf ko)(li:FQ K "_law_whole" Pb b7)(lh:FQ K "is_tuple_of" PX kj)(lw:FQ K "is_word_among" PP jy)(gy:FQ K "is_nth" Rm dg)(k7:FQ K "is_place" Rh jt)(jl:FQ K "is_stretch" Ra dw)(mf:FQ K "may_be_used" RU cf)(ja:FQ K "is_row_of_its_pieces" RO jp)(ci:FQ K "row_number" RI ck)(m8:FQ K APS RC i8)(av:FQ K "_law_cheaper" Qw m9)
  (ag:FQ K "law" JC f8) :
  ∃fd:FuncData,(∀(s:Shared) (v:Value),BindsTo s fd ⟨[v],[]⟩ [(APM,v)])/\∀i:Heap,K.In i->i.Ns mainGlobals o->DF l.prog w K o i CX0 14 fa fd [APM] (GB K JD):=by
 have i6:EQ K o "DEEDS" Ke:=II (Fc X G q6) (HD q5 (by show 3<=sizeLine;decide) (.cons (EB (by decide)) (.cons (EB (by decide)) (.cons (EB (by decide)) .nil))));have j7:EQ K o "EDGES" JM:=II (Fc X G ni) (HD ua (by show 2<=sizeLine;decide) (.cons (EB (by decide)) (.cons (EB (by decide)) .nil)));have jx:EQ K o "END" NM:=II (Fc X G o0) Hc;have gp:EQ K o "KINDS" JO:=II (Fc X G qf) (HD o5 (by show 5<=sizeLine;decide) (.cons (EB (by decide)) (.cons (EB (by decide)) (.cons (EB (by decide)) (.cons (EB (by decide)) (.cons (EB (by decide)) .nil))))));have ie:EQ K o "NOWHERE" Kc:=II (Fc X G ud) Hc;have gg:EQ K o "NTHS" JN:=II (Fc X G o4) (HD qz (by show 4<=sizeLine;decide) (.cons Hc (.cons Hc (.cons Hc (.cons Hc .nil)))));have d7:EQ K o "ROW_LENGTHS" JL:=II (Fc X G rj) (HD rq (by show 3<=sizeLine;decide) (.cons Hc (.cons Hc (.cons Hc .nil))));have c9:EQ K o "SIGNS_BY_KIND" NP:=II (Fc X G ow) (HD qk (by show 4<=sizeLine;decide) (.cons (HD tu (by show 2<=sizeLine;decide) (.cons (EB (by decide)) (.cons (EB (by decide)) .nil))) (.cons (HD tt (by show 2<=sizeLine;decide) (.cons (EB (by decide)) (.cons (EB (by decide)) .nil))) (.cons (HD on (by show 2<=sizeLine;decide) (.cons (EB (by decide)) (.cons (EB (by decide)) .nil))) (.cons (HD td (by show 2<=sizeLine;decide) (.cons (EB (by decide)) (.cons (EB (by decide)) .nil))) .nil)))))
 have g:BlOk o UJ:=by
  intro x hx;simp only[UJ,AY,Dq,or_false] at hx;rcases hx with rfl|rfl|rfl|rfl|rfl|rfl|rfl|rfl|rfl|rfl|rfl|rfl|rfl|rfl|rfl|rfl
  .exact FH X G t7
  .exact FH X G nt
  .exact FH X G qi
  .exact FH X G rh
  .exact FH X G ub
  .exact FH X G o8
  .exact FH X G qd
  .exact FH X G rg
  .exact FH X G sh
  .exact FH X G qu
  .exact FH X G nq
  .exact FH X G oz
  .exact FH X G n8
  .exact FH X G rm
  .exact FH X G pi
  .exact FH X G sn
 have j:Fv K AO2 r:=jm;have p:Cls K r:=⟨og,pp,oa,tw⟩;have d:Fv K AO1 q:=gu;have e:Cls K q:=⟨oy,nj,uf,qo⟩;have zx:DO K AO2 AO6:=IL j p n0;have zy:DO K AO2 AO3:=IL j p q8;have u:DO K AO1 AO4:=IL d e rf;have ft:DO K AO1 AO9:=IL d e ra;have bm:DO K AO1 APA:=IL d e qr;have zj:DO K AO1 AO5:=IL d e pj;have zz:DO K AO1 APB:=IL d e om;have bh:DO K AO1 AO7:=IL d e p8;have ui:AAZ K "NoNumber" al:=⟨t0,oh⟩;obtain⟨up,ai⟩:=jn;have a7:=ai.binds (ps:=["self",AO3]) λ_ _ _ _ _ _ us hl=>by obtain⟨_,_,rfl⟩:=JX hl;rfl
 obtain⟨uo,ad⟩:=au;have je:=ad.binds (ps:=["self",AO7,AO4]) λ_ _ _ _ _ _ us hl=>by obtain⟨_,_,_,rfl⟩:=IC hl;rfl
 obtain⟨um,aa⟩:=aj.b;have cm:=aa.binds (ps:=[AO8,"length","rest"]) λ_ _ _ _ _ _ us hl=>by obtain⟨_,_,_,rfl⟩:=IC hl;rfl
 obtain⟨uk,ac⟩:=y.b;have ak:=ac.binds (ps:=[AO8,"length","rest"]) λ_ _ _ _ _ _ us hl=>by obtain⟨_,_,_,rfl⟩:=IC hl;rfl
 obtain⟨uj,ae⟩:=ag.b;obtain⟨_,_,m6,gj,cn,jf,mj,ig,_,rfl,_,_⟩:=id ae.ex;have e0:=sj.symm.trans (Fc X G ag.a);cases e0;refine⟨ANO "law" "law" (Ip JC) (Fp JC) (Ad JC) .none m6 gj cn jf mj ig,λs v=>.of_eq rfl,λi _ _=>?_⟩;have c:=@AHK l.prog w K o i h X G;have kq:=c Ka n6 VD (ABe (k:=0) g);have jw:=c KY p6 VA (ABb (k:=1) g kq.mn);have ar:=c zk qy Ux (ABY (k:=0) g);have kb:=c KU sd Uu (ABV (k:=1) ar.mn);have bu:=c zm dr Ur (ABS (k:=0));have fg:=c KR d6 Uo (ABP (k:=1) g bu.mn);have km:=c KP g7 Uk (ABG (k:=0));have cr:=c ze cp Uh (ABD (k:=1) g km.mn);have aq:=c zc cu Ue (ABA (k:=2) cr.mn);have d8:=c KN jv Ub (AA7 (k:=3) g fg.mn aq.mn);have g9:=c KL f9 UY (AA4 (k:=4) g d8.mn);have ba:=c JK lq UV (AA1 (k:=3) aq.mn);have ip:=c KI l9 UT (AAz (k:=4) g ar.mn ba.mn);have cz:=c zo lz Vg (AAx (k:=0) g);have c8:=c KG c7 Ve (AAv (k:=1) g ar.mn cz.mn);have gz:=c KC dz Vc (AAt (k:=5) g kb.mn g9.mn ip.mn c8.mn);have dm:=c JJ b9 Va (AAr (k:=0) g);have a6:GU l.prog w K o i 2 AO2 zp:=Yu ai VY (λm A f s H E hr=>AAp zx zy m _ A f s H E hr) a7 (Fc X G jm) j ⟨nu,ng,bp,nw⟩;have js:GU l.prog w K o i 4 AO1 Kw:=Yu ad VW (λm A f s H E hr=>AAn u ft bm zj zz bh (dm.mono (by decide:1<=2)) (a6.mono (by decide:2<=2)) m _ A f s H E hr) je (Fc X G gu) d ⟨o9,ky,dc,rb⟩;have a9:=c Ku ff VU (AAl (k:=0) j7 gp gg);have g8:=c Ks gq VS (AAj (k:=0) c9);have fu:=c Kq ic VQ (AAh (k:=1) g8.mn);have jq:=c zq bf VN (AAf (k:=2) g fu.mn);have dq:=c Ko d5 VL (ABk (k:=3) g a9.mn jq.mn);have k6:=c Kn lp VH (ABi (k:=0) g);have ca:=c JI df VF (ABg (k:=1) k6.mn);have bw:=c Km j5 VC (ABd (k:=0) g);have mi:=c Kl mm Uz (ABa (k:=0));have kr:=c Kk bn Uw (ABX (k:=0));have ax:=c Kj jd Ut (ABU (k:=4) g i6 dq.mn ca.mn bw.mn mi.mn kr.mn);have jh:=c Ki gk Uq (ABR (k:=0) g u);have fm:=c Kh nh Um (ABO (k:=0) g)
 have bc:∀n,Am l.prog w K o i (2+2*n) "node_number" (zh n):=λn=>by
  induction n with
  |zero=>exact fnd_none ak (Fc X G y.a) ac.kp
  |succ n ih =>
   have FI:Am l.prog w K o i (2+2*n+1) "new_node" (Mh (zh n)):=Tc aa Uj (λm A f s H E hr=>ABF g ie zx zy u zj (a6.mono (by omega:2<=2+2*n)) (jh.mono (by omega:1<=2+2*n)) (fm.mono (by omega:1<=2+2*n)) ih m _ A f s H E hr) cm (Fc X G aj.a) aa.kp;exact Tc ac Ug (λm A f s H E hr=>ABC jx bm FI m _ A f s H E hr) ak (Fc X G y.a) ac.kp
 have qq:Am l.prog w K o i 12 "node_number" zf:=bc 5;have lm:=c Kg jc Ud (AA9 (k:=12) g d7 zz js.mn ax.mn qq.mn);have b8:=c Kf i5 Ua (AA6 (k:=0) g zy zj zz);have bj:=c zr cj UX (AA3 (k:=0));have am:=c zt bz UU (AA0 (k:=1) g bj.mn);have gx:=c JH ma US (AAy (k:=0) g);have lf:=c Kd lg Vf (AAw (k:=1) g gx.mn);have ga:=c Kb d9 Vd (AAu (k:=3) am.mn lf.mn);have j4:=c KZ cg Vb (AAs (k:=0));have bo:=c KW im VZ (AAq (k:=3) zx am.mn j4.mn);have jz:=c KS kl VX (AAo (k:=4) u zj ga.mn bo.mn);have i9:=c zu lj VV (AAm (k:=5) zz am.mn jz.mn);have k8:=c KQ gw VT (AAk (k:=0) zx);have gb:=c KO mz VR (AAi (k:=1) g zx zy u zj k8.mn);have la:=c KM bt VP (AAg (k:=2) zy zj zz gb.mn);have j8:=c JG fk VM (AAe (k:=0) g);have k9:=c KJ bv VJ (ABj (k:=1) g j8.mn);have dj:=c JF mr VG (ABh (k:=4) ba.mn k9.mn);have bd:=c KH li VE (ABf (k:=0) g);have eh:=c JE lh VB (ABc (k:=0) g);have ao:=c zg lw Uy (ABZ (k:=0) g);have da:=c KF gy Uv (ABW (k:=0) g gg);have nc:=c zw k7 Us (ABT (k:=1) g j7 gp ao.mn da.mn);have i7:=c KB jl Up (ABQ (k:=2) i6 eh.mn ao.mn nc.mn);have md:=c Kv mf Ul (ABN (k:=3) bh eh.mn ao.mn i7.mn);have le:=c Kt ja Ui (ABE (k:=4) g d7 md.mn);have ei:=c Kr ci Uf (ABB (k:=5) g zx zy ft zj zz le.mn);have iu:=c zi m8 Uc (AA8 (k:=0) g);have gi:=c Kp av UZ (AA5 (k:=3) g bu.mn cr.mn aq.mn iu.mn);exact Td ae UW JD _ (λ_ _ _ h=>SK h) (λm A f s H E hr=>AA2 g (jw.mono (by decide:2<=13)) (gz.mono (by decide:6<=13)) (lm.mono (by decide:13<=13)) (b8.mono (by decide:1<=13)) (i9.mono (by decide:6<=13)) (la.mono (by decide:3<=13)) (dj.mono (by decide:5<=13)) (bd.mono (by decide:1<=13)) (ei.mono (by decide:6<=13)) (iu.mono (by decide:1<=13)) (gi.mono (by decide:4<=13)) m _ A f s H E hr) (λ_ _ _ _ h=>SJ h)
end L3
open PySem PySem.W PyProof.Rows
namespace PySem.Challenge.cw_byexample_k36_whole_cheapest_holds
#check "doh1.]*&]~VZu8NHaR$<!cllicgz*0cz{~+{$Q>ac!QWmC31iPF*F{^)3FrnWRGpwviWIx.KFbVZ}TUnn]Z~$hw_G_bqL,*{;b<]dZJ;]+C$kVn3Rm)s]^nAlhBiNwqT&*VVK1L<gGB9dS$dbo1HTM$}_BW~oDkXm:PTB)ld7%Qdwq9NZH<0yQz*pIqjW.KRy9c)OT4VXrvF)ryv^!He{Jfdp2ocx{x2pMD|HGgYp2RP2dv<O+yZ0<2rxA7Jc*Cw9RYMu,Vv=J}jTkB6Icz[[uO0CHAI1{noa+!n3r1RemOF.8ErzQH8~8d)wQ8OuDoauPNVj*e]G<!,AqIe[C?;0F)aWKywEA!T.GKXOL,&1{X%cEkWzcA!Jpb2{rAioOqU3];O$yp}>.Wi;>0$EEvgk6;LyE*]CIcA9kf4%5EE[Ao6;(kB^S~1R0WKk,irScEr9?Q5=WDW.>9wu~f2a0pB,*6*:*Lx5uIeXYy4[Z&nHn3MV_CmW5RSBBl;|DY_nFO%h>+euM|a3ryC+ibiSuhpNFX}_UXrl;}eO9YqE2<jlwZzGi,NNNake|9!FCb,]l_^Uv0Ebko8d(qX_p<7[9:mPS[LAmUI4&zK,q1N2,Jw9KQUY)j&(kufY_2c2$U8EJ*xE,HF*VTr.Olr?;^4hF+bM3.1(MF]}<Xiv&db)u&+lG+oB*SoR54.S[W;wEYbrP!,,G,i[u;ljg5_J<H!Z)^%H>Oyw?z9mG:8)S{N2)z:e39rzDFmkQretVO~.DC>eT6*,]CCUOubSx^psO{Tm,QHBV8mylU=EsXtf0.%j!.(O}s0<ZQ1Au>|ZtjV*D6E43+2C^Hld_q}*d(2madua{1PwRVW;>Kj244p2z&7?;U>8Y_1?R4rcxn873Y.3EV+Rk|[QHg6BBQMtpegf.S(ZskeOjW6e.*2z%]a5C1vM3*Ez:B|IV^0?*t!*eG,>Ts_z~O2nNe,|v*C;yt$ypt*cAF;FcgUl$2yAqI&dz|dUQ8muNLcZ$N<%V0hNqsu~Wan8t~_].!;TBfYI(c2zkO}ztm|9HTc+5B<FobksXQd:(E%p.xaf~Y_5Pl*KDwmDQ$e]v9c}a:[VHvK)xK%jldiEbg|dJ6_wM.PTG$P65|)C+Mue{X)F*y%z7h*7?[mTgyZX(J|PaPhZM5Pp8,_?Cj%nX%okN,30QGHa[r{u(nQFxYat*FO3r3nYX.pOc?znLz?Q|IDNtWwa6qvw*b{Ms<O+*,5|+|08?&kh)Qv7iOqyD=|OxeyrL$i8%n&hsov8]Xa+yG8aZ_{FyXxCdDmUOPs5*loVYd!?Ev+b$UD|Yb;^Y8C&$H9Mskr$>R*(R,*JCU33XR~i,D~)stZ=_]0cnkf02GXz0(t;v8aT[4lSTjJ3AFxmn}X|B%fLy6mnSS3juAoLl)QEZ0PXZ08!74YbkY}_jg+<MVfYM=,T]+F!}t<uNHCGtJaq9s.c4pRWFOTSH~rRJk$|Eet.VXq&CknC(][]Sf^^X+Y_;=uUC)vEA_;5m7~By.Web4gLO65YJkp3|cUf(lG}c<|t0LS)lXWm~s(X=2MZV5vs%61!WGN[cor9Q0OrsB1j~3t0!]:]Tr.}c^pb:z2GEt5JxmMfdSmD3Ur5c}0.E8!jNMg]&Ryo^ws&T(+wepy<J<DWjcJjpP)rWf~P_v7zEXJlc&q,(ms1+P:A2S*1Hy7J(:uV1$g9XsjNs>JXY%16%a1XuQ!^>mbt3^17Q0oaoy63N(j;s|.OFQOnw5Uj|L$GcY~kRh$n3|5;(?Gi,C(qj_}V<P1:I^K}Y9L8[VK}{kp~e|!xTdg%VB^C1H=.z^H2Z)<q0hH(~Q9a&ALy,yl6vccBgd5ess1)35jJsVf|X.]q}oP+UB,gsCM,Os>52kPm^C%FfA%AC3ZqVuxN(pUp|sw,7BA$wqg*lK(cR$$Vszaf<.PKbP7F5mBYn|,<nlVhA+PL7:M:XEUfV^UGWim}%nuE<+BqtC;IbGl*01f(g+$8ycnrNjQ32%0ki&%UQ=kL5.IQQTkxYoIKt5rXsZ|RCAOwpTGnxD]IiR!CIxorkO0+st:S_EN&>([pEO;PtDnrYB45]sNKH)w5.uizoT=k6i>4~u61kkWWJ[v$YB%oY?83)Uz5!,<vibSB9K07kD+>Q{~79gSAR[xnf%!9O>7o~yM2PJc6?k$7[ESXge]bf58cZm+e7NrI3Y~im{?[DFa2zO9z_^f?cSK2BoPmVx8R]Yrb;u:d(+5Vt?qJy8fm>gb}V3:QNXY]7L]Qr>N!51qbq}jw&VUB1+s0ga{GIMs;YhH~UmuY5v5_I;YlQWT{?t{]7<EEj>?=ux:HZ4T1$__5q7oLeu{{lCCv2OCg+|,jMH;?Xk5PUZhv~Wzg2+d{hQv^vboW]i+pJl%,^mB[TCvrKDa%JQa0h6(V?].7qa+wL{hwzvj20L5Uea0K.7c|3VlrR_Bzs%A(hL}R)%Hd<%jvXq[GF}V|YNf9+gfWu61M%X(NDwL9T5_~+8i_S9}ssob6L+I5YxN_7&DxIf^PfB&G^N$1C2nlDzZMu<*hxRP9rzDd._&*:9ygW]YOMY?*,;KUFbnCKJKN:o$[%Nz%PQUDIWrP?x8w<L;hv8jLmmyu)ST?DS.5lu]z0_^v1z>w!!)Sn;QETeI!P_y9$xeuM+jjqI{f_K$3Q:p$8S)8^Rx4Ou%YH2K<Jirc[GI:oFF9SBO%3Cx65&{yHZ+)GM>v)XGKgkm[V~$6.=,^bUX2%F}iqS9uhtVrt~cVUA:d>iy&DS_=YG=2n.D]_]3_1l{F:~>zyn)Sv8UXg6[EXBeoKq.&k>4SY)zV9SB9OV,F<s]JkX~5acc%~JXO%Ch^x>7&=qPWsE0fwpQTjm2XCa]61a%D|hHFFHqd{eyhgf5TC<!kE8+U[3Bmi4_nj22=)$9ui}]N<Ok=8d2OQ!KzzsfF^n1nU*Yxmmxj{?O5bzKll~d6Cn{.l&TY<DmxE}eOkPw)a<4^eHYnI%kc[.RLk)}Hlkh>tuRyyt*,Nx>;mh_e:kj,0d1=1f>.JX)%oF84&)a2RlSIP6jnHyjigGAYMFe~~l!UJm{b3{:y^1{(A$xq90pko~OTGz~j]74]m69ukNnLDZC{1K1mHq,J1_%j)MY,cIgMKuK3[ThosaAtau&t|7OX3(eZhZQAr7kbWr~?G!)vLa<yA9k:f8{ZWOlJ|bTo?=GY<X59cekKsQ]T9=DqCP=Z5JJZ(DvkbVxmZ]1x+sK:*&$ze$61%yqElqRz}g!qC%O+8xCyQ!_UD,3=SK$3WUdWz+jng2!+j7wTL16TYti}S0:$}.j[]Y,sW,GGf11)IQe2:6|GsVi(&U}Vc~,s*ir??mezA5fP7)4Mz78Qouc(dc7<)M?Q;yHP|b7E$_W]U$F3?TJRRp&xsRmVK~pr~c.0]_b*OMFeq{)4EfT1h+g:o|Td[82P~g_b*zkDX*N>$I,*xbm0xV,AdVZD.X4+1Uo=$F^GF.N0JbA=!bbX,wL8PEKB[cRMAYM{l!Da1jy)5TfQ+4]ImP$[WrLvc3e2PAQFvg^v)(o?tb}^jL4W|b:G.fGnoXVc6M%]j5P8;R<8_gf{A]8fTUuc>45f,a]Pbxp=}jH=gn2r3<fD|8xXw^>CA52dGgFnd=n8[BFDR]W^ianl5C4V6T19{D6MRQ!^+8]tuTEhZ*WQv.lZ!OXOI)EY:gqXH*9]G.98E}]nzX9XrCRh<LhegizG3N_LQoQ[HSd)QGMY)62Y%aWb_u%c>D<>)hb|yCzbF=u=[+d1ZKTdVSUF,:Oq,nGIu*(Gl4qC(<lE3npBKm,p^2ya?Fs4]89&0gr%uU>%Y{K}KaCH;6BP$%uJ5cMl+U}FKbB_?+.C[:)bYbKl54k$2w~sAEz:dY0L:X;$zM)Rk%g}]j;Zg|exV:F4o{]~oE<5cZmqhC9Xmn:z,hCLZZ)+!5l$n|;*){pP)Qk7_l[J;&WukHeS.7Gd>|%tPMT*ulagz*(*0WTqrA+[&P<akS8lRQ^HUB4.XmP?4&~(6Z[|?F(SdS>J!k)|ceoYKs>C,5V4Mi{XC3J;1!0Uwc%W=TTN.bDaSju[]60,emM+;i(iwIpv{djX>dgqW=1Ps;%6M)w$Y.m$.8[D;?=E+Gj:E%!aj1:oqpQTO0OJj(G*X7d,$dCkKbk(8z%0qhREAH>>:JV;fH.&KT%sG8{i:,BOwx%uYI~]v!EJ%YlWM6XpAaeSu+0={;U.nN7GxX22k;<jnqnX*aYJSvYi}ZvB.!M($2]8}0)}|=Hkw{P_.pxtOR3JPTGSSB0bm>4Pjs?P^&uJ;bQ7,9)5R.Z!_Aad$xK$$;^?74pAP.Tc}RUaPL+=>ktH^5|S0[4>RH,?p"
end PySem.Challenge.cw_byexample_k36_whole_cheapest_holds
set_option Elab.async true in
set_option maxRecDepth 100000 in
set_option maxHeartbeats 0 in
theorem PySem.Challenge.cw_byexample_k36_whole_cheapest_holds : PySem.Challenge.rw_byexample_k36_whole_cheapest.Holds := by
 w_on;o_law;k_head;(case hw=>w_witness2)
 k_fill
 refine L3.walk_f (l:=PySem.Challenge.rw_byexample_k36_whole_cheapest) (n:=63) (k:=14) (x:="_law_script") (G:=L3.JD) rfl (by decide) rfl ⟨rfl,by decide,by decide⟩ (λw h Y_=>PySem.W.kIn_of Y_) ?F L3.law_true
 case F =>
  intro w mg fa h KX G hmg
  refine' L3.AIg KX G hmg ?_ ?_ ?_ ?_ ?_ ?_ ?_ ?_ ?_ ?_ ?_ ?_ ?_ ?_ ?_ ?_ ?_ ?_ ?_ ?_ ?_ ?_ ?_ ?_ ?_ ?_ ?_ ?_ ?_ ?_ ?_ ?_ ?_ ?_ ?_ ?_ ?_ ?_ ?_ ?_ ?_ ?_ ?_ ?_ ?_ ?_ ?_ ?_ ?_ ?_ ?_ ?_ ?_ ?_ ?_ ?_ ?_ ?_ ?_ ?_ ?_ ?_ ?_ ?_ ?_ ?_ ?_ ?_ ?_ ?_ ?_ ?_ ?_ ?_ ?_ ?_ ?_ ?_ ?_ ?_ ?_ ?_ ?_ ?_ ?_ ?_ ?_ ?_ ?_ ?_ ?_ ?_ ?_ ?_ ?_ ?_ ?_ ?_ ?_ ?_ ?_ ?_ ?_ ?_ ?_ ?_ ?_ ?_ ?_ ?_ ?_ ?_ ?_ ?_ ?_ ?_ ?_ ?_ ?_ ?_ ?_ ?_ ?_ ?_ ?_
  all_goals first|k_is|(unfold L3.UI;k_is)|(refine' ⟨?a,L3.Yt ?l ?c ?k⟩;(case a=>unfold L3.UI;k_is);(case l=>k_is);(case c=>k_is);(case k=>k_is))|(refine' L3.Yt ?l ?c ?k;(case l=>k_is);(case c=>k_is);(case k=>k_is))|k_exc|kernel_rfl|rfl|decide|skip
