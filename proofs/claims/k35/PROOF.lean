import PyProof.Rows.All
import KE.IntBitsLaws
import KE.KDictList
import KE.KIsAll
import KE.KMinKey
import KE.KRevIter
import KE.KSortTup
import PySem.Challenge.RW_byexample_k35_order_of_examples
set_option compiler.extract_closed false
local macro_rules | `(command| #check $s:str) => do return Lean.mkNullNode (← (s.getString.splitOn " ").toArray.mapM fun n => do return (← `(command| abbrev $(Lean.mkIdent (.mkSimple ("tw" ++ n))):ident := ())).raw)
local macro_rules | `(command| def $i:declId $b:bracketedBinder* : $t:term $v:declVal) => do return (← `(command| theorem $i:declId $b:bracketedBinder* : $t:term $v:declVal)).raw.rewriteBottomUp fun s => s.setInfo .none
local macro_rules | `(command| abbrev $i:declId $s:optDeclSig $v:declVal) => do return (← `(command| noncomputable def $i:declId $s:optDeclSig $v:declVal)).raw.rewriteBottomUp fun s => s.setInfo .none
local macro_rules | `(tactic| omega) => do let f := fun (s : String) (t : Lean.TSyntax `tactic) (g : Lean.Ident → Lean.MacroM (Lean.TSyntax `term)) => (s.splitOn " ").foldr (fun n t => do let t ← t; let a ← g (Lean.mkCIdent (.str `Nat n)); `(tactic| first | exact $a | $t:tactic)) (pure t); let t ← `(tactic| fail); let t ← f "le_trans lt_of_le_of_lt" t fun c => `($c (m := OfNat.ofNat _) (by assumption) (by decide)); let t ← f "le_of_lt ne_of_lt ne_of_gt le_of_eq lt_succ_of_le succ_le_of_lt" t fun c => `($c (by assumption)); let t ← f "le_refl le_add_right le_add_left zero_le succ_pos" t fun c => `($c ..); `(tactic| first | with_reducible (first | assumption | $t:tactic) | omega +splitMinMax)
set_option Elab.async false
set_option linter.all false
set_option maxRecDepth 100000
open PySem.W renaming Frag → AK, nsIn → Bs, findIn → DP, mg_none_of → Ea, mg_of → Ey, keepIn → Fz, kia_one → Fy, emptyDict → ALX, fnOf → ALY, instObj → ALh, plainGet → AL7, hasDictIn → AL8, plainOver → AML, makesIn → AMM, codeIn → AMP
open List renaming prefix_refl → AR, mem_cons → Aa, length_map → Ah, map_cons → Ak, prefix_append → Am, getElem?_map → Ar, mem_cons_self → Aw, mem_cons_of_mem → Ax, getElem?_eq_some_iff → Ay, mem_map → BA, size_toArray → BZ, mem_of_getElem? → Bj, map_map → Bt, mem_append → Bx, length_append → By, all_eq_true → CF, mem_range → CM, mem_map_of_mem → CN, map_append → Cd, length_cons → DQ, getElem?_set_ne → Dx, not_mem_nil → Dw, getElem?_append_left → Ee, take_length → Ec, sum_cons → Ed, find?_cons → Ez, mem_append_right → FX, lookup → FY, length_take → FZ, mem_singleton → FW, map_congr_left → GV, nodup_cons → ALR, replicate → ALU, getElem?_append_right → ALV, any_cons → ALZ, nodup_append → ALa, nodup_nil → ALb, range_succ → ALe, mem_flatMap → ALf, getElem?_eq_none → ALg, all_cons → ALi, countP_cons → ALn, getElem?_set_self → ALp, append_nil → ALq, length_set → ALr, getElem?_range → ALs, foldl_cons → ALt, length_eq_zero_iff → ALu, take_add_one → ALw, forIn_cons → ALx, filterMap_cons → ALy, mem_filterMap → ALz, map_nil → AL1, flatMap_cons → AL3, filterMap → AL4, append_assoc → AL5, getElem_of_mem → AL9, drop_eq_getElem_cons → AMA, drop_length → AMB, drop_zero → AMC, take_of_length_le → AMD, mem_of_mem_take → AME, flatMap_append → AMF, pairwise_map → AMG, ext_getElem? → AMI, mem_filter → AMJ, getElem?_replicate → AMO, reverse_cons → AMQ, lookup_cons → AMR, take_append_drop → AMS, find?_eq_none → AMT, length_range → AMV, filterMap_append → AMW, mem_of_find?_eq_some → AMY, foldl_append → AMZ, mem_append_left → AMa, length_replicate → AMb, length_filterMap_le → AMh, getElem?_of_mem → AMi, perm_append_comm → AMj
open Option renaming bind_some → AS, map_eq_some_iff → GU, bind_eq_some_iff → ALj, map_some → ALv, isSome_iff_exists → AMN, getD_some → AMX
open Nat renaming le_refl → Ae, ne_of_lt → BQ, zero_add → BW, le_trans → CD, lt_of_lt_of_le → Cm, zero_le → Dg, ne_of_gt → Eb, le_succ → ALQ, lt_irrefl → ALS, le_of_eq → ALT, add_mul → ALd, mul_le_mul_right → ALk, le_add_right → ALl, mul_le_mul → ALm, add_assoc → ALo, le_of_lt → AL6
open Bool renaming and_eq_true → Bn, false_ne_true → Bz, noConfusion → GA, false_eq_true → ALc, eq_iff_iff → AL0, eq_false_iff → AMH
open Int renaming emod_nonneg → GW, emod_lt_of_pos → GY, toNat_natCast → ALW
open PySem.F renaming plain_min_loop → AL2, slot_zip_next → AMU, slot_tuple_add → AMc, entry_tuple_add → AMd, args_tuple_add_2 → AMe, slot_dict_itemiterator_iter → AMk, slot_tuple_iterator_next → AMl
open Array renaming length_toList → AMK, getElem?_eq_some_iff → AMf, getElem?_eq_none → AMg
open PySem renaming wpAny_bind → AG, wpAny_pure → AM, wpAny_rule → AMm, wpAny_specialOf → AMn, wpAny_call_entry → Fx, wpAny_isInstance → AMo, wpAny_seqItems → AMp, wpAny_mono → DI, wpAny_truthy_bool → AMq, wpAny_holding → Ck, wpAny_passesOwn → AMr, wpAny_pyIter_list → AMs, wpAny_Call_Name_kw → AMt, wpAny_field → EN, wpAny_callSpecial?_slot → AMu, wpAny_newObj_type → AMv, wpAny_getItem_str_slice → AMw, wpAny_notOrdered_dict → AMx, wpAny_dictEntries → AMy, wpAny_typeNameOfWhole_keyiter → AMz, wpAny_typeNameOfWhole_itemiter → AM0, wpAny_setField_rec → AM1, wpAny_letGo → AM2
noncomputable abbrev AM3:=PySem.Str->Option PySem.Value
noncomputable abbrev AM4:=List PySem.Str
noncomputable abbrev AM5:=List PySem.Value
noncomputable abbrev AM6:=List PySem.Addr
noncomputable abbrev AM7:=List PySem.Expr
noncomputable abbrev AM8:=List PySem.Stmt
noncomputable abbrev AM9:=List Nat
noncomputable abbrev ANA:=List Int
noncomputable abbrev ANB:=PySem.Value->PySem.Shared->Prop
noncomputable section
namespace L2
open PySem PySem.Spec PyProof.Rows
noncomputable abbrev Key:=Sum Int Str
abbrev II:Key->Value->Bool
 |.inl k,v=>Value.isInt k v
 |.inr x,v=>Value.isStrOf x v
abbrev JL(w:World):Key->Int
 |.inl k=>hashInt k
 |.inr x=>hashStr w x
def ER:∀{k:Key} {v:Value},II k v=true->(∃i t,k=Sum.inl i/\v=Value.int i t)\/(∃x t,k=Sum.inr x/\v=Value.str x t)
 |.inl i,v,h=>by
  obtain⟨t,e⟩:=Value.isInt_shape (k:=i) (v:=v) h;exact .inl ⟨i,t,rfl,e⟩
 |.inr x,v,h=>by
  obtain⟨t,e⟩:=Value.isStrOf_shape (x:=x) (v:=v) h;exact .inr ⟨x,t,rfl,e⟩
def AFC(i:Int)(t:Tok):II (.inl i) (.int i t)=true:=by simp[II,Value.isInt]
def AFB(x:Str)(t:Tok):II (.inr x) (.str x t)=true:=by simp[II,Value.isStrOf]
def AFA(a b:Int):decide ((Sum.inl a:Key)=Sum.inl b)=(a == b):=by
 by_cases e:a=b
 .subst e;simp
 .have h:¬(Sum.inl a:Key)=Sum.inl b:=λq=>e (Sum.inl.inj q);rw[decide_eq_false h];exact(beq_eq_false_iff_ne.mpr e).symm
def AE7(a b:Str):decide ((Sum.inr a:Key)=Sum.inr b)=decide (a=b):=by
 by_cases e:a=b
 .subst e;simp
 .have h:¬(Sum.inr a:Key)=Sum.inr b:=λq=>e (Sum.inr.inj q);rw[decide_eq_false h,decide_eq_false e]
def AE9(a:Int)(b:Str):decide ((Sum.inl a:Key)=Sum.inr b)=false:=decide_eq_false (λq=>nomatch q)
def AE8(a:Str)(b:Int):decide ((Sum.inr a:Key)=Sum.inl b)=false:=decide_eq_false (λq=>nomatch q)
abbrev NV(prog:Program)(w:World):PySem.KeyKind prog w Key where
 is:=II
 hash:=JL w
 inj:=λv a b ha hb=>by
  rcases ER ha with⟨i,t,rfl,rfl⟩|⟨x,t,rfl,rfl⟩
  .rcases ER hb with⟨j,u,rfl,e⟩|⟨y,u,rfl,e⟩
   .injection e with e1 _;rw[e1]
   .exact nomatch e
  .rcases ER hb with⟨j,u,rfl,e⟩|⟨y,u,rfl,e⟩
   .exact nomatch e
   .injection e with e1 _;rw[e1]
 byValue:=λk v h=>by
  rcases ER h with⟨i,t,rfl,rfl⟩|⟨x,t,rfl,rfl⟩ <;> rfl
 pyHash:=λhv h=>by
  rcases ER hv with⟨i,t,rfl,rfl⟩|⟨x,t,rfl,rfl⟩
  .exact wpAny_pyHash_int h
  .exact wpAny_pyHash_str h
 eqBool:=λhu hv h=>by
  rcases ER hu with⟨i,t,rfl,rfl⟩|⟨x,t,rfl,rfl⟩
  .rcases ER hv with⟨j,u,rfl,rfl⟩|⟨y,u,rfl,rfl⟩
   .rw[AFA] at h;exact wpAny_eqBool_int h
   .rw[AE9] at h;exact SeqAt.EqAt.int_str i t y u _ _ _ _ h
  .rcases ER hv with⟨j,u,rfl,rfl⟩|⟨y,u,rfl,rfl⟩
   .rw[AE8] at h;exact SeqAt.EqAt.str_int x t j u _ _ _ _ h
   .rw[AE7] at h;exact wpAny_eqBool_str h
 «strs»:=λk x t v h=>by
  rcases ER h with⟨i,u,rfl,e⟩|⟨y,u,rfl,e⟩
  .exact nomatch e
  .injection e with e1 _
   subst e1;cases v <;> rfl
inductive V where
 |non|bl (b:Bool)|int (i:Int)|str (x:Str)|byt (b:Array UInt8)|flt (b:UInt64)|ref (a:Addr)|ty (n:String)
 deriving DecidableEq
abbrev AY:V->Value->Prop
 |.non,u=>u=Value.none
 |.bl b,u=>u=Value.bool b
 |.int i,u=>∃t,u=Value.int i t
 |.str x,u=>∃t,u=Value.str x t
 |.byt b,u=>∃t,u=Value.bytes b t
 |.flt b,u=>∃t,u=Value.float b t
 |.ref a,u=>u=Value.ref a
 |.ty n,u=>u=Value.type n
noncomputable abbrev AX:List V->AM5->Prop:=Paired AY
def AX.length{xs:List V}{us:AM5}(r:AX xs us):xs.length=us.length:=Paired.length r
def AX.get:∀{xs:List V} {us:AM5} {i:Nat} {x:V},AX xs us->xs[i]?=some x->∃u,us[i]?=some u/\AY x u
 |_,_,_,_,.nil,e=>by simp at e
 |_,_,0,_,.cons r _,e=>by simp at e;subst e;exact⟨_,rfl,r⟩
 |_,_,i+1,x,.cons _ t,e=>by
  obtain⟨u,h1,h2⟩:=AX.get (i:=i) (x:=x) t (by simpa using e);exact⟨u,by simpa using h1,h2⟩
def AX.set{x:V}{u:Value}(r:AY x u):∀{xs:List V} {us:AM5} (i:Nat),AX xs us->AX (xs.set i x) (us.set i u)
 |_,_,_,.nil=>.nil
 |_,_,0,.cons _ t=>.cons r t
 |_,_,i+1,.cons q t=>.cons q (AX.set r i t)
def AX.append:∀{xs ys:List V} {us ws:AM5},AX xs us->AX ys ws->AX (xs++ys) (us++ws)
 |_,_,_,_,.nil,s=>s
 |_,_,_,_,.cons r t,s=>.cons r (AX.append t s)
def AX.take:∀{xs:List V} {us:AM5} (n:Nat),AX xs us->AX (xs.take n) (us.take n)
 |_,_,0,_=>.nil
 |_,_,_+1,.nil=>.nil
 |_,_,n+1,.cons r t=>.cons r (AX.take n t)
def AX.drop:∀{xs:List V} {us:AM5} (n:Nat),AX xs us->AX (xs.drop n) (us.drop n)
 |_,_,0,r=>r
 |_,_,_+1,.nil=>.nil
 |_,_,n+1,.cons _ t=>AX.drop n t
abbrev FP:Option V->Option Value->Prop
 |some v,some u=>AY v u
 |none,none=>True
 |_,_=>False
abbrev KV{κ:Type}:List (κ×V)->List (κ×Value)->Prop:=Paired λ(p:κ×V) (q:κ×Value)=>p.1=q.1/\AY p.2 q.2
abbrev kV:Key->V
 |.inl i=>.int i
 |.inr x=>.str x
abbrev Jl(M:Model)(A:Around)(h:Heap)(v:Value)(q:Int×Nat):Prop:=∀(E:ANB) (s:Shared) (Q:Int->Shared->Prop),s.heap=h->Q q.1 {s with toks:=s.toks+q.2}->wpAny M A (pyHash v) Q E s
section
variable {prog:Program}{w:World}{A:Around}{E:ANB}{s:Shared}
def Ub{a:Addr}{its:AM5}{qs:List (Int×Nat)}(hu:A.units<cLine)(t:s.heap.IsTuple a its.toArray)(each:Paired (Jl (model prog w) A.in1 s.heap) its qs) :
  Jl (model prog w) A s.heap (.ref a) (reduceHash (Builtin.Tuple.tupleHashOf (qs.map (·.1))),(qs.map (·.2)).sum+1):=λE s' Q e0 fin=>by
 have ty:s'.TypeIs (.ref a) "tuple":=by obtain⟨o,g,c,_⟩:=t;exact⟨o,by rw[e0];exact g,c⟩
 have own:∀{R:ANB} {F:ANB},R (.int (Builtin.Tuple.tupleHashOf (qs.map (·.1))) (s'.toks+(qs.map (·.2)).sum)) {s' with toks:=s'.toks+(qs.map (·.2)).sum+1}->wpAny (model prog w) A.in1 (Builtin.«tuple.__hash__» ⟨[.ref a],[]⟩) (λfi s2=>∃v,fi=PySem.Fin.done (Flow.ret v)/\R v s2) F s':=λ{R F} k=>by
  obtain⟨o,g,_,n,dat⟩:=t;show wpAny _ _ (Builtin.Tuple.tupleItemsOf (.ref a) >>= _) _ F s';refine AG (wpAny_tupleItemsOf (by rw[e0];exact g) dat (AG ?_))
  have walk:∀{l:AM5} {m:List (Int×Nat)} (p:Paired (Jl (model prog w) A.in1 s.heap) l m) (acc:Array Int) (u:Nat) {G:Array Int->Shared->Prop},
    G (acc++(m.map (·.1)).toArray) {s' with toks:=u+(m.map (·.2)).sum}->wpAny (model prog w) A.in1 (forIn l acc λx hs=>do let __do_lift <-pyHash x;pure (ForInStep.yield (hs.push __do_lift))) G F {s' with toks:=u}:=by
   intro l m p
   induction p with
   |nil=>intro acc u G hG;exact AM (by simpa using hG)
   |@cons x q l m hx _ ih =>
    intro acc u G hG;rw[ALx];refine AG (AG (hx F {s' with toks:=u} _ e0 (AM ?_)));refine ih (acc.push q.1) (u+q.2) ?_;simpa[ALo] using hG
  have go:=walk each #[] s'.toks (G:=λb s2=>wpAny (model prog w) A.in1 (retInt (Builtin.Tuple.tupleHashOf b.toList)) (λfi s2=>∃v,fi=PySem.Fin.done (Flow.ret v)/\R v s2) F s2) (by
   have e9:((#[]:Array Int)++(qs.map (·.1)).toArray).toList=qs.map (·.1):=by simp
   rw[e9];refine wpAny_ret_mkInt ?_
   exact k)
  simpa using go
 have turn:∀{i:Int} {u:Nat},Q (reduceHash i) {s' with toks:=u}->wpAny (model prog w) A (pyHashByItsType.reduced i) Q E {s' with toks:=u}:=λ{i u} hQ=>by
  unfold reduceHash at hQ
  show wpAny _ _ (if (decide (-(2:Int) ^ 63<=i)&&decide (i<2 ^ 63))=true then _ else _) Q E _
  split at hQ
  .rename_i c;rw[if_pos c];exact AM hQ
  .rename_i c;rw[if_neg c];exact AG (AMm (AM hQ))
 have look:=PySem.F.slot_tuple_hash;unfold pyHash pyHashByItsType;refine AG (wpAny_cRoomFor_or (.inr hu) (AG (AMn ty look.lookup ?_)));refine iteN (AG (AMn ty look.lookup (AG (wpAny_callSpecialIfBoundUnlessNone?_slot ty look (Fx look ty PySem.F.entry_tuple_hash (own (turn (by simpa[ALo] using fin))) (PySem.F.args_tuple_hash_1 _))))))
where
 iteN {α:Type} {M:Model} {A:Around} {x y:Sem α} {Q:α->Shared->Prop} {E:ANB} {s:Shared} {id:String} (h:wpAny M A y Q E s):wpAny M A (if (some (Value.builtin id) == some Value.none)=true then x else y) Q E s:=by rw[if_neg (by rw[beq_builtin_none];simp)];exact h
def AHH{α:Type}[DecidableEq α](x y:List α):((List.range (min x.length y.length)).all (λj=>decide (x[j]?=y[j]?))&&x.length == y.length)=decide (x=y):=by
 by_cases h:x=y
 .subst h;simp
 .rw[decide_eq_false h]
  by_cases hl:x.length=y.length
  .rw[Bool.and_eq_false_iff];left;rw[AMH];intro ha;refine h (AMI λj=>?_)
   by_cases hj:j<x.length
   .exact of_decide_eq_true (CF.mp ha j (CM.mpr (by omega)))
   .rw[ALg (by omega),ALg (by omega)]
  .simp[hl]
def Paired.both{α β:Type}{R:α->β->Prop}:∀{l:List α} {m:List β} {j:Nat} (h:j<m.length),Paired R l m->∃a,l[j]?=some a/\R a m[j]
 |_,_,0,_,.cons r _=>⟨_,rfl,r⟩
 |_,_,j+1,h,.cons _ t=>by
  obtain⟨a,e,r⟩:=Paired.both (j:=j) (by simpa using h) t;exact⟨a,by simpa using e,by simpa using r⟩
def Paired.one{α β:Type}{R:α->β->Prop}(inj:∀a a' b,R a b->R a' b->a=a'):∀{l l':List α} {m:List β},Paired R l m->Paired R l' m->l=l'
 |_,_,_,.nil,p=>by cases p;rfl
 |_,_,_,.cons r t,p=>by
  cases p with
  |cons r' t'=>rw[inj _ _ _ r r',Paired.one inj t t']
def UZ{α:Type}[DecidableEq α]{R:α->Value->Prop}{a b:Addr}{x y:List α}{us vs:AM5}(hu:A.units<cLine)(inj:∀k k' u,R k u->R k' u->k=k')(each:∀k k' u v,R k u->R k' v->SeqAt.EqAt A.in1 s u v (decide (k=k')))
  (ta:s.heap.IsTuple a us.toArray) (tb:s.heap.IsTuple b vs.toArray) (px:Paired R x us) (py:Paired R y vs):SeqAt.EqAt A s (.ref a) (.ref b) (decide (x=y)):=by
 by_cases ab:a=b
 .subst ab;obtain⟨o,g,_,n,dd⟩:=ta;obtain⟨o',g',_,n',dd'⟩:=tb;rw[g] at g';cases g';rw[dd] at dd';cases dd';rw[Paired.one inj px py,decide_eq_true rfl];exact .same _
 .refine .of_refs ab ?_
  have rc:=SeqAt.RcAt.tuples (e:=λj=>decide (x[j]?=y[j]?)) ta tb hu λj h1 h2=>by
   obtain⟨k,ek,rk⟩:=Paired.both (j:=j) (by simpa using h1) px;obtain⟨k',ek',rk'⟩:=Paired.both (j:=j) (by simpa using h2) py;rw[ek,ek',show decide (some k=some k')=decide (k=k') from decide_eq_decide.mpr (by simp)];exact each k k' _ _ (by simpa using rk) (by simpa using rk')
  rw[BZ,BZ,<-Paired.length px,<-Paired.length py,AHH] at rc;exact rc
def Ua{M:Model}{n:Nat}{a:Addr}{its:AM5}{Q:Bool->Shared->Prop}(t:s.heap.IsTuple a its.toArray)(each:∀v∈its,∀(G:Bool->Shared->Prop),G true s->wpAny M A (eqIsQuiet n v) G E s)(h:Q true s):wpAny M A (eqIsQuiet (n+1) (.ref a)) Q E s:=by
 obtain⟨o,g,c,m,dd⟩:=t;have ty:s.TypeIs (.ref a) "tuple":=⟨o,g,c⟩
 have walk:∀l:AM5,(∀v∈l,v∈its)->wpAny M A (forIn l ((none:Option Bool),PUnit.unit) λy _=>do let __do_lift <-eqIsQuiet n y;if (!__do_lift)=true then pure (ForInStep.done (some false,PUnit.unit)) else pure (ForInStep.yield (none,PUnit.unit)))
   (λr s2=>r.1=none/\s2=s) E s:=by
  intro l
  induction l with
  |nil=>intro _;exact AM ⟨rfl,rfl⟩
  |cons v l ih =>
   intro hl;rw[ALx];refine AG (AG (each v (hl v (by simp)) _ (iteF (by decide) (AM (ih λz hz=>hl z (by simp[hz]))))))
 unfold eqIsQuiet;refine AG (AMn ty PySem.F.slot_tuple_eq.lookup ?_);show wpAny M A (isInstance (.ref a) (.type "tuple") >>= _) Q E s;refine AG (AMo ty isSubtype_tuple_tuple (iteF (by decide) (AG (AMp g dd (AG ?_)))));have w0:=walk its λ_ z=>z;show wpAny M A (forIn its.toArray _ _) _ E s;rw[List.forIn_toArray];refine DI w0 (λr s2 z2_=>?_) λ_ _ z=>z;obtain⟨e1,e2⟩:=z2_;rw[e2];simp only[e1];exact AM h
where
 iteF {α:Type} {M:Model} {A:Around} {x y:Sem α} {Q:α->Shared->Prop} {E:ANB} {s:Shared} {c:Prop} [Decidable c] (hc:¬c) (h:wpAny M A y Q E s):wpAny M A (if c then x else y) Q E s:=by rw[if_neg hc];exact h
end
noncomputable abbrev NK:=List (Key ⊕ List Key)
abbrev Dt(k:Key)(v:Value):Prop:=II k v=true
abbrev GS(h:Heap):Key ⊕ List Key->Value->Prop
 |.inl k,v=>Dt k v
 |.inr ks,v=>∃b its,v=.ref b/\h.IsTuple b its.toArray/\Paired Dt ks its
abbrev AHQ(h:Heap)(k:NK)(a:Addr):Prop:=∃its,h.IsTuple a its.toArray/\Paired (GS h) k its
abbrev Rt(w:World):Key ⊕ List Key->Int×Nat
 |.inl k=>(JL w k,1)
 |.inr ks=>(reduceHash (Builtin.Tuple.tupleHashOf ((ks.map λk=>(JL w k,1)).map (·.1))),((ks.map λk=>(JL w k,1)).map (·.2)).sum+1)
section
variable {prog:Program}{w:World}{A:Around}{E:ANB}{s:Shared}{h:Heap}
def Dt.inj{k k':Key}{u:Value}(x:Dt k u)(y:Dt k' u):k=k':=by rcases ER x with⟨_,_,rfl,rfl⟩|⟨_,_,rfl,rfl⟩ <;> rcases ER y with⟨_,_,rfl,e⟩|⟨_,_,rfl,e⟩ <;> cases e <;> rfl
def IsTuple.same{a:Addr}{us vs:AM5}(x:h.IsTuple a us.toArray)(y:h.IsTuple a vs.toArray):us=vs:=by obtain⟨o,g,_,n,dd⟩:=x;obtain⟨o',g',_,n',dd'⟩:=y;rw[g] at g';cases g';rw[dd] at dd';cases dd';rfl
def Dt.noRef{k:Key}{a:Addr}(x:Dt k (.ref a)):False:=by rcases ER x with⟨_,_,_,e⟩|⟨_,_,_,e⟩ <;> cases e
def GS.inj{k k':Key ⊕ List Key}{u:Value}(x:GS h k u)(y:GS h k' u):k=k':=by
 cases k with
 |inl k =>
  cases k' with
  |inl k'=>rw[Dt.inj x y]
  |inr ks=>obtain⟨b,_,rfl,_⟩:=y;exact x.noRef.elim
 |inr ks =>
  obtain⟨b,its,rfl,t,p⟩:=x
  cases k' with
  |inl k'=>exact(Dt.noRef y).elim
  |inr ks' =>
   obtain⟨b',its',e,t',p'⟩:=y;cases e;rw[IsTuple.same t t'] at p;rw[Paired.one (R:=Dt) (λ_ _ _ a b=>a.inj b) p p']
def Wf{k k':Key}{u v:Value}(x:Dt k u)(y:Dt k' v):SeqAt.EqAt A s u v (decide (k=k')):=λprog w E Q hQ=>(NV prog w).eqBool x y hQ
def AFI{k k':Key ⊕ List Key}{u v:Value}(hu:A.units<cLine)(x:GS s.heap k u)(y:GS s.heap k' v):SeqAt.EqAt A s u v (decide (k=k')):=by
 cases k with
 |inl k =>
  cases k' with
  |inl k' =>
   rw[show decide ((Sum.inl k:Key ⊕ List Key)=Sum.inl k')=decide (k=k') from decide_eq_decide.mpr (by simp)];exact Wf x y
  |inr ks =>
   obtain⟨b,its,rfl,t,p⟩:=y;rw[decide_eq_false (by simp)];rcases ER x with⟨i,t',rfl,rfl⟩|⟨z,t',rfl,rfl⟩
   .exact .int_tuple i t' t hu
   .exact .str_tuple z t' t hu
 |inr ks =>
  obtain⟨a,its,rfl,t,p⟩:=x
  cases k' with
  |inl k' =>
   rw[decide_eq_false (by simp)];rcases ER y with⟨i,t',rfl,rfl⟩|⟨z,t',rfl,rfl⟩
   .exact .tuple_int i t' t hu
   .exact .tuple_str z t' t hu
  |inr ks' =>
   obtain⟨b,its',rfl,t',p'⟩:=y;rw[show decide ((Sum.inr ks:Key ⊕ List Key)=Sum.inr ks')=decide (ks=ks') from decide_eq_decide.mpr (by simp)];exact UZ (R:=Dt) hu (λ_ _ _ a b=>a.inj b) (λ_ _ _ _ a b=>Wf a b) t t' p p'
def We{k:Key}{v:Value}(x:Dt k v):Jl (model prog w) A h v (JL w k,1):=λE s Q _ hQ=>(NV prog w).pyHash x hQ
def Wd:∀{ks:List Key} {vs:AM5},Paired Dt ks vs->Paired (Jl (model prog w) A h) vs (ks.map λk=>(JL w k,1))
 |_,_,.nil=>.nil
 |_,_,.cons x t=>.cons (We x) (Wd t)
def Rj(hu:A.units<cLine):∀{ks:NK} {vs:AM5},Paired (GS s.heap) ks vs->Paired (Jl (model prog w) A s.heap) vs (ks.map (Rt w))
 |_,_,.nil=>.nil
 |.inl k::_,_,.cons x t=>.cons (We x) (Rj hu t)
 |.inr ks::_,_,.cons x t=>by
  obtain⟨b,its,rfl,tb,p⟩:=x;exact .cons (Ub hu tb (Wd p)) (Rj hu t)
def Wc{M:Model}{n:Nat}{ks:List Key}{vs:AM5}(p:Paired Dt ks vs):∀v∈vs,∀(G:Bool->Shared->Prop),G true s->wpAny M A (eqIsQuiet n v) G E s:=by
 induction p with
 |nil=>intro v hv;cases hv
 |cons x _ ih =>
  intro v hv G hG;rcases Aa.mp hv with e|hv
  .subst e;have:eqIsQuiet n v=pure true:=by rcases ER x with⟨_,_,_,rfl⟩|⟨_,_,_,rfl⟩ <;> (unfold eqIsQuiet;rfl)
   rw[this];exact AM hG
  .exact ih v hv G hG
def AFH{M:Model}{n:Nat}{ks:NK}{vs:AM5}(p:Paired (GS s.heap) ks vs):∀v∈vs,∀(G:Bool->Shared->Prop),G true s->wpAny M A (eqIsQuiet (n+1) v) G E s:=by
 induction p with
 |nil=>intro v hv;cases hv
 |@cons k u _ _ x _ ih =>
  intro v hv G hG;rcases Aa.mp hv with e|hv
  .subst e
   cases k with
   |inl k=>exact Wc (ks:=[k]) (vs:=[v]) (.cons x .nil) v (by simp) G hG
   |inr ks =>
    obtain⟨b,its,rfl,tb,p⟩:=x;exact Ua tb (Wc p) hG
  .exact ih v hv G hG
def IsTuple.other{h':Heap}{a d:Addr}{its:Array Value}{o:Obj}{es:Array DictEntry}{ep:Nat}(x:h.IsTuple a its)(ho:h.get? d=some o)(hd:o.data=.dict es ep)(hs:Heap.SameBut d h h'):h'.IsTuple a its:=by
 obtain⟨o',g,c,n,dd⟩:=x;have ne:a≠d:=λe=>by subst e;rw[g] at ho;cases ho;rw[dd] at hd;cases hd
 exact⟨o',(hs.2 a ne).trans g,c,n,dd⟩
def Paired.to{α β:Type}{F G:α->β->Prop}:∀{l₁:List α} {l₂:List β},Paired F l₁ l₂->(∀a b,F a b->G a b)->Paired G l₁ l₂
 |_,_,.nil,_=>.nil
 |_,_,.cons r t,f=>.cons (f _ _ r) (Paired.to t f)
end
abbrev Ge(prog:Program)(w:World):HeapKind prog w NK where
 is:=AHQ
 hash:=λk=>reduceHash (Builtin.Tuple.tupleHashOf ((k.map (Rt w)).map (·.1)))
 draws:=λk=>((k.map (Rt w)).map (·.2)).sum+1
 room:=λA=>A.units+1<cLine
 inj:=λz0_ z1_=>by
  obtain⟨_,t,p⟩:=z0_;obtain⟨_,t',p'⟩:=z1_;rw[IsTuple.same t t'] at p;exact Paired.one (R:=GS _) (λ_ _ _ a b=>a.inj b) p p'
 keeps:=λ⟨its,t,p⟩ ho hd hs=>⟨its,IsTuple.other t ho hd hs,Paired.to p λk v x=>by
  cases k with
  |inl k=>exact x
  |inr ks=>obtain⟨b,l,e,tb,q⟩:=x;exact⟨b,l,e,IsTuple.other tb ho hd hs,q⟩⟩
 pyHash:=λhu z1_ hQ=>by obtain⟨_,t,p⟩:=z1_;exact Ub (Nat.lt_of_succ_lt hu) t (Rj hu p) _ _ _ rfl hQ
 eqBool:=λhu z1_ z2_ hQ=>by obtain⟨_,t,p⟩:=z1_;obtain⟨_,t',p'⟩:=z2_;exact UZ (R:=GS _) (Nat.lt_of_succ_lt hu) (λ_ _ _ a b=>a.inj b) (λ_ _ _ _ a b=>AFI hu a b) t t' p p' _ _ _ _ hQ
 quiet:=λz0_ hQ=>by obtain⟨_,t,p⟩:=z0_;exact Ua t (AFH p) hQ
inductive HO where
 /-- a list -/
 |lst (xs:List V)
 /-- a tuple (never changes) -/
 |tup (xs:List V)
 /-- a dict whose keys are ints and texts;one whose keys are tuples of ints and texts (the empty one is both) -/
 |dK (kvs:List (Key×V))|dT (kvs:List (List Key×V))
 /-- a dict whose keys are tuples: each key,its address,the value;how often its keys have changed -/
 |dN (kvs:List (NK×Addr×V)) (ep:Nat)
 /-- a set of ints: its members,its size -/
 |set (S:Int->Bool) (n:Nat)
 /-- an instance of the class at C,its dict at dx,its attributes -/
 |ins (C dx:Addr) (fs:List (Str×V))
 /-- the dict of the instance at x -/
 |own (x:Addr)
 /-- the dict of an exception -/
 |xd (fs:List (Str×V))
 /-- a bound method,f of x -/
 |met (f x:Addr)
 /-- a range object lo,lo+1,.. below hi -/
 |rng (lo hi:Int)
 /-- a thing that is known to the object (the script;a dict while a loop walks it): read,never written while it is so -/
 |frz (o:Obj) (u:HO)
 /-- a code object's table -/
 |tbl (ps:Array Value)
 /-- any other thing,by what is true of its one object (a def of one's own: SetO a S n:=HO.ext λh=>..) -/
 |ext (φ:Heap->Prop)
noncomputable abbrev Hp:=Addr->Option HO
abbrev upd(H:Hp)(a:Addr)(o:HO):Hp:=λb=>if b=a then some o else H b
def Bu{H:Hp}{a:Addr}{o:HO}:upd H a o a=some o:=by unfold upd;rw[if_pos rfl]
def BN{H:Hp}{a b:Addr}{o:HO}(h:b≠a):upd H a o b=H b:=by unfold upd;rw[if_neg h]
def DK{H:Hp}{a b:Addr}{o:HO}(h:H a=some o)(h':H b=none):a≠b:=by intro e;subst e;rw[h] at h';cases h'
section
variable (P:Program)(w:World)
abbrev Bq(H:Hp)(h:Heap)(a:Addr):HO->Prop
 |.lst xs=>xs.length<=sizeLine/\∃(its:AM5) (n:Nat),AX xs its/\h.get? a=some {cls:=.type "list",data:=.seq its.toArray n}
 |.tup xs=>xs.length<=sizeLine/\∃its:AM5,AX xs its/\IsTup h a its.toArray
 |.dK kvs=>kvs.length<=sizeLine/\(a == sysModules)=false/\∃vs,KV kvs vs/\h.DictOf (NV P w) a vs
 |.dT kvs=>kvs.length<=sizeLine/\(a == sysModules)=false/\∃xs:List (List Key×Addr×Value),
   Paired (λ(p:List Key×V) (q:List Key×Addr×Value)=>p.1=q.1/\H q.2.1=some (.tup (p.1.map kV))/\AY p.2 q.2.2) kvs xs /\
   ∃o es ep,h.get? a=some o/\o.ExactDict/\o.data=.dict es ep/\es.toList=xs.map (entryOfKey (tupleKind (NV P w)))/\(xs.map (·.1)).Nodup
 |.dN kvs ep=>kvs.length<=sizeLine/\(a == sysModules)=false/\∃xs:List (NK×Addr×Value),
   Paired (λ(p:NK×Addr×V) (q:NK×Addr×Value)=>p.1=q.1/\p.2.1=q.2.1/\AY p.2.2 q.2.2) kvs xs /\
   ∃o es,h.get? a=some o/\o.ExactDict/\o.data=.dict es ep/\es.toList=xs.map (entryOfKey (Ge P w))/\(xs.map (·.1)).Nodup
 |.set S n=>h.SetOf (intKind P w) a S n
 |.ins C dx fs=>H dx=some (.own a)/\fs.length<=1000/\dx≠a/\h.get? a=some (ALh C dx) /\
   ∃mA,h.Ns1 dx mA/\(∀f,FP (fs.lookup f) (mA f))/\PySem.Within mA (fs.map (·.1))
 |.own _=>∃o,h.get? a=some o
 |.xd fs=>∃mA,h.Ns1 a mA/\∀f,FP (fs.lookup f) (mA f)
 |.rng lo hi=>∃t u v,h.get? a=some {cls:=.type "range",data:=.fields #[.int lo t,.int hi u,.int 1 v]}
 |.frz o u=>h.get? a=some o/\Bq H h a u
 |.tbl ps=>h.get? a=some {cls:=.none,data:=.fields ps}
 |.met f x=>h.get? a=some (PySem.W.methodObj (.ref f) (.ref x))
 |.ext φ=>φ h/\(∃o,h.get? a=some o)/\∀h1 h2:Heap,φ h1->(∀o,h1.get? a=some o->h2.get? a=some o)->φ h2
abbrev Ca(H:Hp)(h:Heap):Prop:=∀a o,H a=some o->Bq P w H h a o
end
section
variable {P:Program}{w:World}{H H':Hp}{h h':Heap}{a:Addr}{o:HO}
def Bq.lt(x:Bq P w H h a o):a<h.objs.size:=by
 cases o with
 |lst xs=>obtain⟨_,_,_,_,e⟩:=x;exact Heap.lt_size e
 |tup xs=>obtain⟨_,_,_,p⟩:=x;exact p.lt
 |dK kvs=>obtain⟨_,_,_,_,o,_,_,e,_⟩:=x;exact Heap.lt_size e
 |dT kvs=>obtain⟨_,_,_,_,o,_,_,e,_⟩:=x;exact Heap.lt_size e
 |dN kvs ep=>obtain⟨_,_,_,_,o,_,e,_⟩:=x;exact Heap.lt_size e
 |set S n=>obtain⟨o,_,_,_,e,_⟩:=x;exact Heap.lt_size e
 |ins C dx fs=>obtain⟨_,_,_,e,_⟩:=x;exact Heap.lt_size e
 |own y=>obtain⟨_,e⟩:=x;exact Heap.lt_size e
 |xd fs=>obtain⟨_,⟨_,_,_,e,_⟩,_⟩:=x;exact Heap.lt_size e
 |rng lo hi=>obtain⟨_,_,_,e⟩:=x;exact Heap.lt_size e
 |frz ob u=>obtain⟨e,_⟩:=x;exact Heap.lt_size e
 |tbl ps=>exact Heap.lt_size (show h.get? a=some _ from x)
 |met f y=>exact Heap.lt_size (show h.get? a=some _ from x)
 |ext φ=>obtain⟨_,⟨_,e⟩,_⟩:=x;exact Heap.lt_size e
def Paired.mapP{α β:Type}{F G:α->β->Prop}:∀{l₁:List α} {l₂:List β},Paired F l₁ l₂->(∀a b,F a b->G a b)->Paired G l₁ l₂
 |_,_,.nil,_=>.nil
 |_,_,.cons r t,f=>.cons (f _ _ r) (Paired.mapP t f)
def Bq.stay(x:Bq P w H h a o)(k:∀b u,(b=a\/H b=some (.own a))->h.get? b=some u->h'.get? b=some u)
  (ho:∀b,H b=some (.own a)->H' b=some (.own a)) (ht:∀b xs,H b=some (.tup xs)->H' b=some (.tup xs)):Bq P w H' h' a o:=by
 induction o with
 |lst xs=>obtain⟨z,its,n,r,e⟩:=x;exact⟨z,its,n,r,k _ _ (.inl rfl) e⟩
 |tup xs=>obtain⟨z,its,r,ob,e,c⟩:=x;exact⟨z,its,r,ob,k _ _ (.inl rfl) e,c⟩
 |dK kvs=>obtain⟨z,y,vs,r,ob,es,ep,e,c⟩:=x;exact⟨z,y,vs,r,ob,es,ep,k _ _ (.inl rfl) e,c⟩
 |dT kvs =>
  obtain⟨z,y,xs,r,ob,es,ep,e,c⟩:=x;exact⟨z,y,xs,Paired.mapP r λp q z=>⟨z.1,ht _ _ z.2.1,z.2.2⟩,ob,es,ep,k _ _ (.inl rfl) e,c⟩
 |dN kvs ep=>obtain⟨z,y,xs,r,ob,es,e,c⟩:=x;exact⟨z,y,xs,r,ob,es,k _ _ (.inl rfl) e,c⟩
 |set S n=>obtain⟨ob,es,ep,t,e,c⟩:=x;exact⟨ob,es,ep,t,k _ _ (.inl rfl) e,c⟩
 |ins C dx fs =>
  obtain⟨d,z,ne,e,mA,⟨od,es,ep,e2,c⟩,r⟩:=x;exact⟨ho _ d,z,ne,k _ _ (.inl rfl) e,mA,⟨od,es,ep,k _ _ (.inr d) e2,c⟩,r⟩
 |own y=>obtain⟨ob,e⟩:=x;exact⟨ob,k _ _ (.inl rfl) e⟩
 |xd fs=>obtain⟨mA,⟨od,es,ep,e,c⟩,r⟩:=x;exact⟨mA,⟨od,es,ep,k _ _ (.inl rfl) e,c⟩,r⟩
 |rng lo hi=>obtain⟨t,u,v,e⟩:=x;exact⟨t,u,v,k _ _ (.inl rfl) e⟩
 |frz ob u ih=>obtain⟨e,q⟩:=x;exact⟨k _ _ (.inl rfl) e,ih q⟩
 |tbl ps =>
  have e:h.get? a=some {cls:=.none,data:=.fields ps}:=x;show h'.get? a=some {cls:=.none,data:=.fields ps};exact k a _ (.inl rfl) e
 |met f y =>
  have e:h.get? a=some (PySem.W.methodObj (.ref f) (.ref y)):=x;show h'.get? a=some (PySem.W.methodObj (.ref f) (.ref y));exact k a _ (.inl rfl) e
 |ext φ=>obtain⟨p,⟨o,e⟩,st⟩:=x;exact⟨st _ _ p λo q=>k _ _ (.inl rfl) q,⟨o,k _ _ (.inl rfl) e⟩,st⟩
def Ca.lt(x:Ca P w H h)(e:H a=some o):a<h.objs.size:=(x a o e).lt
def Ca.fresh(x:Ca P w H h)(e:h.objs.size<=a):H a=none:=by
 cases q:H a with
 |none=>rfl
 |some u=>exact absurd (Cm (x.lt q) e) (ALS _)
def Ca.kept(x:Ca P w H h)(k:∀b u,h.get? b=some u->h'.get? b=some u):Ca P w H h':=λa o e =>
 (x a o e).stay (λb u _ q=>k b u q) (λ_ q=>q) λ_ _ q=>q
def Ca.laid(x:Ca P w H h)(k:∀b u,h.get? b=some u->h'.get? b=some u)(hp:h.objs.size<=a)(new:Bq P w (upd H a o) h' a o):Ca P w (upd H a o) h':=λb u e=>by
 have hn:=x.fresh hp
 by_cases hb:b=a
 .subst hb;rw[Bu] at e;cases e;exact new
 .rw[BN hb] at e;exact(x b u e).stay (λc v _ q=>k c v q) (λc q=>by rw[BN (DK q hn)];exact q) λc xs q=>by rw[BN (DK q hn)];exact q
end
abbrev Rd(H:Hp)(a:Addr)(u:HO):Prop:=H a=some u\/∃o,H a=some (.frz o u)
def Rd.of{H:Hp}{a:Addr}{u:HO}(h:H a=some u):Rd H a u:=.inl h
def Rd.ok{P:Program}{w:World}{H:Hp}{h:Heap}{a:Addr}{u:HO}(r:Rd H a u)(x:Ca P w H h):Bq P w H h a u:=by
 rcases r with r|⟨o,r⟩
 .exact x a u r
 .obtain⟨_,q⟩:=x a _ r;exact q
abbrev LX:Option HO->Prop
 |some (.lst _)=>True
 |some (.dK _)=>True
 |some (.dT _)=>True
 |some (.dN _ _)=>True
 |some (.set _ _)=>True
 |some (.ins _ _ _)=>True
 |some (.ext _)=>True
 |_=>False
section
variable {P:Program}{w:World}{H:Hp}{h h':Heap}{x e:Addr}{o':HO}
def Ca.write(ok:Ca P w H h)(mu:LX (H x))(he:e=x\/H e=some (.own x))(k:∀b u,b≠e->h.get? b=some u->h'.get? b=some u)(heo:∃u,h'.get? e=some u)
  (new:Bq P w (upd H x o') h' x o'):Ca P w (upd H x o') h':=λb u q=>by
 have nown:∀c y,H c=some (.own y)->c≠x:=λc y r z=>by subst z;rw[r] at mu;exact mu
 have ntup:∀c xs,H c=some (.tup xs)->c≠x:=λc xs r z=>by subst z;rw[r] at mu;exact mu
 by_cases hb:b=x
 .subst hb;rw[Bu] at q;cases q;exact new
 .rw[BN hb] at q
  by_cases hbe:b=e
  .have q':H b=some (.own x):=by
    rcases he with z|z
    .exact absurd (hbe.trans z) hb
    .rw[hbe];exact z
   rw[q] at q';cases q';obtain⟨v,hv⟩:=heo;exact⟨v,by rw[hbe];exact hv⟩
  .refine(ok b u q).stay (λc v hc r=>k c v ?_ r) (λc r=>by rw[BN (nown c b r)];exact r) λc xs r=>by rw[BN (ntup c xs r)];exact r
   rcases hc with rfl|hc
   .exact hbe
   .rintro rfl;rcases he with z|z
    .exact nown c b hc z
    .rw[hc] at z;cases z;exact hb rfl
end
structure Un (fs ex:AM6) (H H':Hp) (h h':Heap):Prop where
 keep:∀b o,h.get? b=some o->H b=none->b∉fs->b∉ex->h'.get? b=some o
 slot:∀b o,h.get? b=some o->H b=none->b∈fs->b∉ex->∃sl,h'.get? b=some {o with slots:=sl}
 free:∀b o,h.get? b=some o->H b=none->b∉ex->H' b=none
 there:∀b o,h.get? b=some o->b∉ex->∃o',h'.get? b=some o'
 tups:∀b xs,H b=some (.tup xs)->H' b=some (.tup xs)
 frzs:∀b o u,H b=some (.frz o u)->H' b=some (.frz o u)
 tbls:∀b ps,H b=some (.tbl ps)->∃more,H' b=some (.tbl (ps++more))
section
variable {fs fs' ex ex':AM6}{H H1 H2:Hp}{h h1 h2 h':Heap}{a x e:Addr}{o:HO}
def Un.any(u:Un fs ex H H1 h h1){b:Addr}{ob:Obj}(q:h.get? b=some ob)(n:H b=none)(hx:b∉ex):∃sl,h1.get? b=some {ob with slots:=sl}:=by
 by_cases hb:b∈fs
 .exact u.slot b ob q n hb hx
 .exact⟨ob.slots,u.keep b ob q n hb hx⟩
def Un.trans(a:Un fs ex H H1 h h1)(b:Un fs ex H1 H2 h1 h2):Un fs ex H H2 h h2 where
 keep:=λc ob q n hc hx=>b.keep c ob (a.keep c ob q n hc hx) (a.free c ob q n hx) hc hx
 slot:=λc ob q n hc hx=>by
  obtain⟨sl,e1⟩:=a.slot c ob q n hc hx;obtain⟨sl',e2⟩:=b.slot c _ e1 (a.free c ob q n hx) hc hx;exact⟨sl',e2⟩
 free:=λc ob q n hx=>by
  obtain⟨o',e1⟩:=a.there c ob q hx;exact b.free c o' e1 (a.free c ob q n hx) hx
 there:=λc ob q hx=>by
  obtain⟨o',e1⟩:=a.there c ob q hx;exact b.there c o' e1 hx
 tups:=λc xs q=>b.tups c xs (a.tups c xs q)
 frzs:=λc ob xs q=>b.frzs c ob xs (a.frzs c ob xs q)
 tbls:=λc ps q=>by
  obtain⟨m1,e1⟩:=a.tbls c ps q;obtain⟨m2,e2⟩:=b.tbls c _ e1;exact⟨m1++m2,by rw[e2,Array.append_assoc]⟩
def Un.kept(k:∀b u,h.get? b=some u->h'.get? b=some u):Un fs ex H H h h' :=
 ⟨λb ob q _ _ _=>k b ob q,λb ob q _ _ _=>⟨ob.slots,k b ob q⟩,λ_ _ _ n _=>n,λb ob q _=>⟨ob,k b ob q⟩,λ_ _ q=>q,λ_ _ _ q=>q,λ_ ps q=>⟨#[],by rw[q];simp⟩⟩
def Un.refl:Un fs ex H H h h:=Un.kept λ_ _ q=>q
def Un.laid(k:∀b u,h.get? b=some u->h'.get? b=some u)(hp:h.objs.size<=a)(hn:H a=none):Un fs ex H (upd H a o) h h' where
 keep:=λb u q _ _ _=>k b u q
 slot:=λb u q _ _ _=>⟨u.slots,k b u q⟩
 free:=λb u q n _=>by rw[BN (BQ (Cm (Heap.lt_size q) hp))];exact n
 there:=λb u q _=>⟨u,k b u q⟩
 tups:=λb xs q=>by rw[BN (DK q hn)];exact q
 frzs:=λb u xs q=>by rw[BN (DK q hn)];exact q
 tbls:=λb ps q=>⟨#[],by rw[BN (DK q hn),q];simp⟩
def Un.write(mu:LX (H x))(he:e=x\/H e=some (.own x))(k:∀b u,b≠e->h.get? b=some u->h'.get? b=some u)(heo:∃u,h'.get? e=some u):Un fs ex H (upd H x o) h h':=by
 have hx:∀b,H b=none->b≠x:=λb n z=>by subst z;rw[n] at mu;exact mu
 have hb:∀b,H b=none->b≠e:=λb n z=>by
  subst z;rcases he with r|r
  .exact hx b n r
  .rw[n] at r;cases r
 have hm:∀b u,H b=some u->¬LX (some u)->b≠x:=λb u q nm z=>by subst z;rw[q] at mu;exact nm mu
 refine⟨λb u q n _ _=>k b u (hb b n) q,λb u q n _ _=>⟨u.slots,k b u (hb b n) q⟩,λb u q n _=>by rw[BN (hx b n)];exact n,λb u q _=>?_,
  λb xs q=>by rw[BN (hm b _ q λz=>z)];exact q,λb u xs q=>by rw[BN (hm b _ q λz=>z)];exact q,λb ps q=>⟨#[],by rw[BN (hm b _ q λz=>z),q];simp⟩⟩
 by_cases hbe:b=e
 .subst hbe;exact heo
 .exact⟨u,k b u hbe q⟩
def Un.mono(u:Un fs ex H H1 h h1)(hs:∀b∈fs,b∈fs')(hx:∀b∈ex,b∈ex'):Un fs' ex' H H1 h h1 :=
 ⟨λb ob q n hb he=>u.keep b ob q n (λz=>hb (hs b z)) λz=>he (hx b z),λ_ _ q n _ he=>u.any q n λz=>he (hx _ z),λb ob q n he=>u.free b ob q n λz=>he (hx b z),λb ob q he=>u.there b ob q λz=>he (hx b z),u.tups,u.frzs,u.tbls⟩
end
abbrev Mw(h:Heap)(H:Hp):AM6:=(List.range h.objs.size).filter λa=>(H a).isSome
abbrev HD(h:Heap)(H:Hp):Heap:=PySem.W.hideAll h (Mw h H)
def AFV(h:Heap)(H:Hp):(HD h H).objs.size=h.objs.size:=PySem.W.hideAll_size _ _
def AFW{h:Heap}{H:Hp}{b:Addr}{o:Obj}(e:h.get? b=some o)(n:H b=none):(HD h H).get? b=some o :=
 PySem.W.hideAll_get _ e λhm=>by
  have q:(H b).isSome=true:=(AMJ.mp hm).2;rw[n] at q;simp at q
def AD9{h:Heap}{H:Hp}{b:Addr}{o:Obj}(e:(HD h H).get? b=some o):h.get? b=some o/\H b=none:=by
 have e':h.get? b=some o:=PySem.W.of_hideAll (Mw h H) e;refine⟨e',?_⟩
 cases q:H b with
 |none=>rfl
 |some x =>
  have hm:b∈Mw h H:=AMJ.mpr ⟨CM.mpr (Heap.lt_size e'),by simp[q]⟩;have z:(HD h H).get? b=none:=PySem.W.hideAll_none (Mw h H) hm;rw[z] at e;cases e
abbrev AHJ(g h:Heap)(L:Addr):List (Addr×Obj):=(List.range h.objs.size).filterMap λa=>if a=L\/(g.get? a).isSome=true then none else (h.get? a).map λo=>(a,o)
abbrev rest(g h:Heap)(L d:Addr):List (Addr×Obj):=(AHJ g h L).filter λp=>decide (p.1≠d)
structure OJ (K:AK) (mg:AM3) (base:Heap):Prop where
 kin:K.In base
 glob:base.Ns mainGlobals mg
 blt:∃mb,base.Ns builtinsNs mb/\∀x:Str,x≠"__name__"->mb x=bootBuiltins x
 nolimit:base.NoLimit
structure Cx where
 prog:Program
 w:World
 K:AK
 mg:AM3
 base:Heap
 A:Around
 N:AM4
 s₀:Shared
 H₀:Hp
 env:Env
 outer:List Env
 stack:List Env
 ex:AM6
 fn:Str->Bool
 calm:Bool
 pn:List (Addr×Obj)
 xe:ANB
abbrev En(l:List Env):AM6:=l.filterMap (·.frame)
noncomputable abbrev Cx.fs(X:Cx):AM6:=En X.outer
abbrev Jf(sc:Scope)(x:Str):Prop:=sc.names.lookup x=some .local\/sc.names.lookup x=some .cell\/sc.names.lookup x=some .free
abbrev Gv(sc:Scope)(x:Str):Prop:=sc.names.lookup x=some .local\/sc.names.lookup x=some .cell
abbrev AHP(env:Env)(h:Heap)(m:AM3)(x:Str)(u:Value):Prop :=
 (env.kindOf x=some .local/\m x=some u)\/((env.kindOf x=some .cell\/env.kindOf x=some .free)/\∃c,env.cells.lookup x=some c/\h.IsCell c (some u))
structure Cx.Ok (X:Cx):Prop where
 mod:OJ X.K X.mg X.base
 kind:X.env.scope.kind=.function
 glob:X.env.globals=mainGlobals
 blt:X.env.builtins=builtinsNs
 above:X.s₀.heap.objs.size<=X.env.locals
 inj:∀x y c,X.env.cells.lookup x=some c->X.env.cells.lookup y=some c->x=y
 has:∀x,(X.env.kindOf x=some .cell\/X.env.kindOf x=some .free)->∃c,X.env.cells.lookup x=some c
 cab:∀x c,X.fn x=true->X.env.cells.lookup x=some c->X.s₀.heap.objs.size<=c
 hd:X.calm=true->X.A.handled=none
 frames:X.A.frames=some X.stack
 stk:X.stack=X.outer\/(X.stack=X.env::X.outer/\X.env.frame=some X.env.locals)
 exf:∀b∈X.ex,b≠X.env.locals/\∀x c,X.env.cells.lookup x=some c->c≠b
 bs:∀b o,X.base.get? b=some o->X.s₀.heap.get? b=some o/\X.H₀ b=none
 bsz:X.base.objs.size<=X.s₀.heap.objs.size
 noex:∀b o,X.base.get? b=some o->b∉X.ex
 exfs:∀b∈X.ex,b∉X.fs
 funs:X.s₀.heap.FunFrames X.base X.outer
 frf:∀b∈X.fs,X.H₀ b=none
structure AI (X:Cx) (pins:List (Addr×Obj)) (Y:List (Option V)) (H:Hp) (s:Shared):Prop where
 ok:X.Ok
 os:s.os=X.s₀.os
 bare:AllBare s.gens
 base:Un X.fs X.ex X.H₀ H X.s₀.heap s.heap
 loc:∃m,s.heap.Ns X.env.locals m/\∀(i:Nat) (x:Str) (v:V),X.N[i]?=some x->Y[i]?=some (some v)->Jf X.env.scope x->∃u,AY v u/\AHP X.env s.heap m x u
 cell:∀x c,X.env.cells.lookup x=some c->∃v,s.heap.IsCell c v
 free:H X.env.locals=none
 freeC:∀x c,X.env.cells.lookup x=some c->H c=none
 pin:∀p∈X.pn++pins,s.heap.get? p.1=some p.2/\H p.1=none/\p.1≠X.env.locals/\p.1∉X.fs/\∀v,p.2.data≠.cell v
 hok:Ca X.prog X.w H s.heap
 len:Y.length=X.N.length
section
variable {X:Cx}{pins:List (Addr×Obj)}{Y:List (Option V)}{H H':Hp}{s:Shared}{h':Heap}
def Cx.Ok.nofr(ok:X.Ok){b:Addr}{o:Obj}(e:X.base.get? b=some o):b∉X.fs:=λhb=>by
 have:=(ok.funs.mem hb).1;rw[e] at this;cases this
def AI.bs(I:AI X pins Y H s):∀b o,X.base.get? b=some o->s.heap.get? b=some o/\H b=none:=λb o e =>
 ⟨I.base.keep b o (I.ok.bs b o e).1 (I.ok.bs b o e).2 (I.ok.nofr e) (I.ok.noex b o e),I.base.free b o (I.ok.bs b o e).1 (I.ok.bs b o e).2 (I.ok.noex b o e)⟩
def AI.bk(I:AI X pins Y H s):∀b o,X.base.get? b=some o->s.heap.get? b=some o:=λb o e=>(I.bs b o e).1
def AI.mod(I:AI X pins Y H s):OJ X.K X.mg X.base:=I.ok.mod
def AI.kIn(I:AI X pins Y H s):X.K.In s.heap:=I.ok.mod.kin.keeps I.bk
def AI.nolimit(I:AI X pins Y H s):s.heap.NoLimit:=I.ok.mod.nolimit.keeps I.bk
def AI.lt(I:AI X pins Y H s):X.env.locals<s.heap.objs.size:=let ⟨_,hn,_⟩:=I.loc;hn.lt
def AI.sz(I:AI X pins Y H s):X.s₀.heap.objs.size<=s.heap.objs.size:=CD I.ok.above (AL6 I.lt)
def AI.nofs(I:AI X pins Y H s){a:Addr}(h:s.heap.objs.size<=a):a∉X.fs:=λhb=>by
 obtain⟨_,o,ho,_⟩:=I.ok.funs.mem hb;exact absurd (Cm (Heap.lt_size ho) (CD I.sz h)) (ALS _)
def AI.cne(I:AI X pins Y H s):∀x c,X.env.cells.lookup x=some c->c≠X.env.locals:=λx c e z=>by
 obtain⟨v,o,ho,hd⟩:=I.cell x c e;obtain⟨m,⟨o',es,ep,ho',hd',_⟩,_⟩:=I.loc;rw[z,ho'] at ho;cases ho;rw[hd'] at hd;cases hd
def AI.funs(I:AI X pins Y H s):s.heap.FunFrames X.base X.outer:=by
 have all:∀(l:List Env),(∀b∈En l,b∈X.fs)->X.s₀.heap.FunFrames X.base l->s.heap.FunFrames X.base l:=by
  intro l
  induction l with
  |nil=>intro _ _;trivial
  |cons env r ih =>
   intro hs hl;obtain⟨hk,⟨L,o,hf,hn,ho,hd⟩,hr⟩:=hl;have hL:L∈X.fs:=hs L (by unfold En;rw[ALy,hf];exact Aw);obtain⟨sl,e⟩:=I.base.slot L o ho (I.ok.frf L hL) hL λz=>I.ok.exfs L z hL;exact⟨hk,⟨L,_,hf,hn,e,hd⟩,ih (λb hb=>hs b (by unfold En;rw[ALy,hf];exact Ax _ hb)) hr⟩
 exact all X.outer (λ_ hb=>hb) I.ok.funs
def AI.stack(I:AI X pins Y H s):s.heap.FunFrames X.base X.stack:=by
 rcases I.ok.stk with e|⟨e,hf⟩
 .rw[e];exact I.funs
 .rw[e];obtain⟨m,hn,_⟩:=I.loc;refine .cons (by rw[I.ok.kind];decide) hf hn ?_ I.funs;exact Heap.get?_none_of_le (CD I.ok.bsz I.ok.above)
def AI.stkSub(I:AI X pins Y H s):∀b∈En X.stack,b∈X.env.locals::X.fs:=λb hb=>by
 rcases I.ok.stk with e|⟨e,hf⟩
 .rw[e] at hb;exact Ax _ hb
 .rw[e] at hb;unfold En at hb;rw[ALy,hf] at hb;exact hb
def AI.stkFree(I:AI X pins Y H s):∀b∈En X.stack,H b=none:=λb hb=>by
 rcases Aa.mp (I.stkSub b hb) with e|hb
 .rw[e];exact I.free
 .obtain⟨_,o,ho,_⟩:=I.ok.funs.mem hb;exact I.base.free b o ho (I.ok.frf b hb) λz=>I.ok.exfs b z hb
def AI.step{g':Array GenState}{t':Nat}{d':Drawn}{ch:AM6}(I:AI X pins Y H s)
  (hch:∀b∈ch,(b∈X.ex\/X.s₀.heap.objs.size<=b)/\b≠X.env.locals/\(∀x c,X.env.cells.lookup x=some c->c≠b)/\∀p∈X.pn++pins,p.1≠b)
  (keep:∀b o,b≠X.env.locals->b∉X.fs->b∉ch->s.heap.get? b=some o->H b=none->h'.get? b=some o)
  (slot:∀b o,b≠X.env.locals->b∈X.fs->b∉ch->s.heap.get? b=some o->H b=none->∃sl,h'.get? b=some {o with slots:=sl}) (free:∀b o,b∉ch->s.heap.get? b=some o->H b=none->H' b=none)
  (there:∀b o,b∉ch->s.heap.get? b=some o->∃o',h'.get? b=some o')
  (tups:∀b xs,H b=some (.tup xs)->H' b=some (.tup xs)) (frzs:∀b o u,H b=some (.frz o u)->H' b=some (.frz o u)) (tbls:∀b ps,H b=some (.tbl ps)->∃more,H' b=some (.tbl (ps++more)))
  (ns:∀m,s.heap.Ns X.env.locals m->h'.Ns X.env.locals m) (hok:Ca X.prog X.w H' h') (hg:AllBare g') :
  AI X pins Y H' {s with heap:=h',gens:=g',drawn:=d',toks:=t'}:=by
 have neL:∀b o,X.s₀.heap.get? b=some o->b≠X.env.locals:=λb o e=>BQ (Cm (Heap.lt_size e) I.ok.above)
 have neC:∀b o,X.s₀.heap.get? b=some o->b∉X.ex->b∉ch:=λb o e hx hb=>by
  rcases(hch b hb).1 with z|z
  .exact hx z
  .exact absurd (Cm (Heap.lt_size e) z) (ALS _)
 have cellK:∀x c,X.env.cells.lookup x=some c->∀v,s.heap.IsCell c v->h'.IsCell c v:=λx c e v z4_=>by
  obtain⟨o,ho,hd⟩:=z4_;have nch:c∉ch:=λz=>(hch c z).2.2.1 x c e rfl
  by_cases hc:c∈X.fs
  .obtain⟨sl,q⟩:=slot c o (I.cne x c e) hc nch ho (I.freeC x c e);exact⟨_,q,hd⟩
  .exact⟨o,keep c o (I.cne x c e) hc nch ho (I.freeC x c e),hd⟩
 refine⟨I.ok,I.os,hg,⟨λb o e n hb hx=>?_,λb o e n hb hx=>?_,λb o e n hx=>?_,λb o e hx=>?_,λb xs e=>tups b xs (I.base.tups b xs e),λb o xs e=>frzs b o xs (I.base.frzs b o xs e),λb ps e=>?_⟩,?_,λx c e=>?_,?_,λx c e=>?_,λp hp=>?_,hok,I.len⟩
 .exact keep b o (neL b o e) hb (neC b o e hx) (I.base.keep b o e n hb hx) (I.base.free b o e n hx)
 .obtain⟨sl,e1⟩:=I.base.slot b o e n hb hx;obtain⟨sl',e2⟩:=slot b _ (neL b o e) hb (neC b o e hx) e1 (I.base.free b o e n hx);exact⟨sl',e2⟩
 .obtain⟨o',e1⟩:=I.base.there b o e hx;exact free b o' (neC b o e hx) e1 (I.base.free b o e n hx)
 .obtain⟨o',e1⟩:=I.base.there b o e hx;exact there b o' (neC b o e hx) e1
 .obtain⟨m1,e1⟩:=I.base.tbls b ps e;obtain⟨m2,e2⟩:=tbls b _ e1;exact⟨m1++m2,by rw[e2,Array.append_assoc]⟩
 .obtain⟨m,hn,hl⟩:=I.loc;refine⟨m,ns m hn,λi x v e1 e2 e3=>?_⟩;obtain⟨u,r,l⟩:=hl i x v e1 e2 e3;refine⟨u,r,?_⟩;rcases l with l|⟨k,c,e,z⟩
  .exact .inl l
  .exact .inr ⟨k,c,e,cellK x c e _ z⟩
 .obtain⟨v,z⟩:=I.cell x c e;exact⟨v,cellK x c e v z⟩
 .obtain⟨m,⟨o,_,_,ho,_⟩,_⟩:=I.loc;exact free _ o (λz=>(hch _ z).2.1 rfl) ho I.free
 .obtain⟨v,o,ho,hd⟩:=I.cell x c e;exact free c o (λz=>(hch c z).2.2.1 x c e rfl) ho (I.freeC x c e)
 .obtain⟨e,n,ne,nf,d⟩:=I.pin p hp;have nch:p.1∉ch:=λz=>(hch p.1 z).2.2.2 p hp rfl;exact⟨keep p.1 p.2 ne nf nch e n,free p.1 p.2 nch e n,ne,nf,d⟩
def AI.un{t':Nat}(I:AI X pins Y H s)(u:Un X.fs [] H H' s.heap h')(hok:Ca X.prog X.w H' h'):AI X pins Y H' {s with heap:=h',toks:=t'}:=by
 obtain⟨m,⟨o,es,ep,ho,r⟩,_⟩:=id I.loc;obtain⟨sl,hL⟩:=u.any ho I.free (by simp)
 exact I.step (g':=s.gens) (d':=s.drawn) (ch:=[]) (λ_ z=>nomatch z) (λb o _ hb _ e n=>u.keep b o e n hb (by simp)) (λb o _ hb _ e n=>u.slot b o e n hb (by simp)) (λb o _ e n=>u.free b o e n (by simp)) (λb o _ e=>u.there b o e (by simp)) u.tups u.frzs u.tbls (λm' hm=>by
  obtain⟨o',es',ep',ho',r'⟩:=hm;rw[ho] at ho';cases ho'
  exact⟨_,es',ep',hL,r'⟩) hok I.bare
def AI.call{g':Array GenState}{t':Nat}{d':Drawn}{ch:AM6}(I:AI X pins Y H s)(u:Un (En X.stack) ch H H' s.heap h')(hok:Ca X.prog X.w H' h')(hg:AllBare g')
  (hch:∀b∈ch,(b∈X.ex\/X.s₀.heap.objs.size<=b)/\b≠X.env.locals/\(∀x c,X.env.cells.lookup x=some c->c≠b)/\∀p∈X.pn++pins,p.1≠b) :
  AI X pins Y H' {s with heap:=h',gens:=g',drawn:=d',toks:=t'}:=by
 obtain⟨m,⟨o,es,ep,ho,r⟩,_⟩:=id I.loc;obtain⟨sl,hL⟩:=u.any ho I.free λz=>(hch _ z).2.1 rfl
 exact I.step (ch:=ch) hch (λb o hL hb hc e n=>u.keep b o e n (λz=>(Aa.mp (I.stkSub b z)).elim hL hb) hc) (λb o _ _ hc e n=>u.any e n hc) (λb o hc e n=>u.free b o e n hc) (λb o hc e=>u.there b o e hc) u.tups u.frzs u.tbls (λm' hm=>by
  obtain⟨o',es',ep',ho',r'⟩:=hm;rw[ho] at ho';cases ho'
  exact⟨_,es',ep',hL,r'⟩) hok hg
def AI.turned{t':Nat}{it:Addr}(I:AI X pins Y H s)(k:∀b o,b≠it->s.heap.get? b=some o->h'.get? b=some o)(hn:H it=none)(hL:it≠X.env.locals)
  (h1:it∈X.ex\/X.s₀.heap.objs.size<=it) (h2:∀x c,X.env.cells.lookup x=some c->c≠it) (h3:∀p∈X.pn++pins,p.1≠it):AI X pins Y H {s with heap:=h',toks:=t'}:=by
 have nit:∀b u,H b=some u->b≠it:=λb u e z=>by rw[z,hn] at e;cases e
 refine I.step (g':=s.gens) (d':=s.drawn) (ch:=[it]) (λb hb=>?_) (λb o _ _ hc e _=>k b o (λz=>hc (by simp[z])) e) (λb o _ _ hc e _=>⟨o.slots,k b o (λz=>hc (by simp[z])) e⟩) (λ_ _ _ _ n=>n)
  (λb o hc e=>⟨o,k b o (λz=>hc (by simp[z])) e⟩) (λ_ _ e=>e) (λ_ _ _ e=>e) (λb ps e=>⟨#[],by rw[e];simp⟩) (λm hm=>?_) (λb u e=>?_) I.bare
 .have e:b=it:=by simpa using hb
  subst e;exact⟨h1,hL,h2,h3⟩
 .obtain⟨o,es,ep,ho,r⟩:=hm;exact⟨o,es,ep,k _ o (Ne.symm hL) ho,r⟩
 .refine(I.hok b u e).stay (λc v hc q=>k c v ?_ q) (λ_ q=>q) λ_ _ q=>q;rcases hc with z|z
  .rw[z];exact nit b u e
  .exact nit c _ z
def AI.tok(I:AI X pins Y H s)(t:Nat):AI X pins Y H {s with toks:=t}:=I.un (h':=s.heap) (t':=t) Un.refl I.hok
def AI.kept{t':Nat}(I:AI X pins Y H s)(k:∀b u,s.heap.get? b=some u->h'.get? b=some u):AI X pins Y H {s with heap:=h',toks:=t'}:=I.un (Un.kept k) (I.hok.kept k)
def AI.laid{a:Addr}{o:HO}{t':Nat}(I:AI X pins Y H s)(k:∀b u,s.heap.get? b=some u->h'.get? b=some u)(hp:s.heap.objs.size<=a)(new:Bq X.prog X.w (upd H a o) h' a o) :
  AI X pins Y (upd H a o) {s with heap:=h',toks:=t'}:=I.un (Un.laid k hp (I.hok.fresh hp)) (I.hok.laid k hp new)
def AI.write{x e:Addr}{o:HO}{t':Nat}(I:AI X pins Y H s)(mu:LX (H x))(he:e=x\/H e=some (.own x))(k:∀b u,b≠e->s.heap.get? b=some u->h'.get? b=some u)(heo:∃u,h'.get? e=some u)
  (new:Bq X.prog X.w (upd H x o) h' x o):AI X pins Y (upd H x o) {s with heap:=h',toks:=t'}:=I.un (Un.write mu he k heo) (I.hok.write mu he k heo new)
def AI.pins_of{pins':List (Addr×Obj)}(I:AI X pins Y H s)(h:∀p∈pins',s.heap.get? p.1=some p.2/\H p.1=none/\p.1≠X.env.locals/\p.1∉X.fs/\∀v,p.2.data≠.cell v):AI X pins' Y H s :=
 ⟨I.ok,I.os,I.bare,I.base,I.loc,I.cell,I.free,I.freeC,λp hp=>(Bx.mp hp).elim (λz=>I.pin p (AMa _ z)) (h p),I.hok,I.len⟩
def Vx{N:AM4}(hN:N.Nodup){i j:Nat}{x:Str}(a:N[i]?=some x)(b:N[j]?=some x):i=j:=by obtain⟨h1,e1⟩:=Ay.mp a;obtain⟨h2,e2⟩:=Ay.mp b;exact(List.getElem_inj hN).mp (e1.trans e2.symm)
def Uy{M:Model}{A:Around}{E:ANB}{i:Nat}{x:Str}{v:V}{u:Value}{Q:Unit->Shared->Prop}(I:AI X pins Y H s)(hN:X.N.Nodup)(hi:X.N[i]?=some x)(hx:Gv X.env.scope x)(r:AY v u)
  (h:∀s',AI X pins (Y.set i (some v)) H s'->(∃a,Heap.SameBut a s.heap s'.heap/\(a=X.env.locals\/X.env.cells.lookup x=some a))->Q () s') (hf:X.fn x=true\/X.env.scope.names.lookup x=some .local):wpAny M A (storeName X.env x u) Q E s:=by
 obtain⟨m,hn,hl⟩:=id I.loc;have hcls:(X.env.scope.kind == .class || (X.env.scope.kind == .module&&X.env.locals != X.env.globals))=false:=by rw[I.ok.kind];rfl
 have hiY:i<Y.length:=by rw[I.len];exact(Ay.mp hi).1
 have cne:=I.cne
 have tracked:∀{a:Addr} {h':Heap},(∃o,s.heap.get? a=some o/\H a=none)->Heap.SameBut a s.heap h'->Ca X.prog X.w H h':=λ{a h'} ha hs b ob e=>by
  obtain⟨_,_,hfree⟩:=ha;refine(I.hok b ob e).stay (λc w' hc q=>(hs.2 c ?_).trans q) (λ_ q=>q) λ_ _ q=>q;rintro rfl;rcases hc with rfl|hc
  .rw[hfree] at e;cases e
  .rw[hfree] at hc;cases hc
 rcases hx with hk|hk
 .refine wpAny_storeName_local hk hn (λh' hn' hs=>?_) hcls;obtain⟨oL,_,_,hoL,_⟩:=id hn;refine h _ ⟨I.ok,I.os,I.bare,⟨λb o e n hb hx=>?_,λb o e n hb hx=>?_,I.base.free,λb o e hx=>?_,I.base.tups,I.base.frzs,I.base.tbls⟩,⟨_,hn',λj y v' e1 e2 e3=>?_⟩,λy c e=>?_,I.free,I.freeC,λp hp=>?_,tracked ⟨oL,hoL,I.free⟩ hs,by simpa using I.len⟩ ⟨_,hs,.inl rfl⟩
  .exact(hs.2 b (BQ (Cm (Heap.lt_size e) I.ok.above))).trans (I.base.keep b o e n hb hx)
  .obtain⟨sl,e1⟩:=I.base.slot b o e n hb hx;exact⟨sl,(hs.2 b (BQ (Cm (Heap.lt_size e) I.ok.above))).trans e1⟩
  .obtain⟨o',e1⟩:=I.base.there b o e hx;exact⟨o',(hs.2 b (BQ (Cm (Heap.lt_size e) I.ok.above))).trans e1⟩
  .by_cases hj:j=i
   .subst hj;rw[hi] at e1;cases e1;rw[ALp hiY] at e2;cases e2;exact⟨u,r,.inl ⟨hk,by simp⟩⟩
   .rw[Dx (Ne.symm hj)] at e2;obtain⟨u',r',q⟩:=hl j y v' e1 e2 e3;refine⟨u',r',?_⟩;rcases q with⟨k,e⟩|⟨k,c,e,z⟩
    .refine .inl ⟨k,?_⟩;have:y≠x:=λe=>hj (Vx hN e1 (e▸hi));simp[this,e]
    .exact .inr ⟨k,c,e,z.sameBut hs (cne y c e)⟩
  .obtain⟨w',z⟩:=I.cell y c e;exact⟨w',z.sameBut hs (cne y c e)⟩
  .obtain⟨e,n,ne,nf,d⟩:=I.pin p hp;exact⟨(hs.2 p.1 ne).trans e,n,ne,nf,d⟩
 .have hfn:X.fn x=true:=by
   rcases hf with z|z
   .exact z
   .rw[z] at hk;cases hk
  obtain⟨c,hc⟩:=I.ok.has x (.inl hk);obtain⟨w',z⟩:=I.cell x c hc;refine wpAny_storeName_cell I.ok.kind hk hc z (λh' hc' hs=>?_);obtain⟨oc,hoc,hocd⟩:=id z;refine h {s with heap:=h'} ⟨I.ok,I.os,I.bare,⟨λb o e n hb hx=>?_,λb o e n hb hx=>?_,I.base.free,λb o e hx=>?_,I.base.tups,I.base.frzs,I.base.tbls⟩,⟨m,hn.sameBut hs (Ne.symm (cne x c hc)),λj y v' e1 e2 e3=>?_⟩,λy c' e=>?_,I.free,I.freeC,λp hp=>?_,tracked ⟨oc,hoc,I.freeC x c hc⟩ hs,by simpa using I.len⟩ ⟨c,hs,.inr hc⟩
  .exact(hs.2 b (BQ (Cm (Heap.lt_size e) (I.ok.cab x c hfn hc)))).trans (I.base.keep b o e n hb hx)
  .obtain⟨sl,e1⟩:=I.base.slot b o e n hb hx;exact⟨sl,(hs.2 b (BQ (Cm (Heap.lt_size e) (I.ok.cab x c hfn hc)))).trans e1⟩
  .obtain⟨o',e1⟩:=I.base.there b o e hx;exact⟨o',(hs.2 b (BQ (Cm (Heap.lt_size e) (I.ok.cab x c hfn hc)))).trans e1⟩
  .by_cases hj:j=i
   .subst hj;rw[hi] at e1;cases e1;rw[ALp hiY] at e2;cases e2;exact⟨u,r,.inr ⟨.inl hk,c,hc,hc'⟩⟩
   .rw[Dx (Ne.symm hj)] at e2;obtain⟨u',r',q⟩:=hl j y v' e1 e2 e3;refine⟨u',r',?_⟩;rcases q with q|⟨k,c',e,z'⟩
    .exact .inl q
    .refine .inr ⟨k,c',e,z'.sameBut hs ?_⟩;rintro rfl;exact hj (Vx hN e1 (I.ok.inj _ _ _ e hc▸hi))
  .by_cases hcc:c'=c
   .subst hcc;exact⟨_,hc'⟩
   .obtain⟨w2,z2⟩:=I.cell y c' e;exact⟨w2,z2.sameBut hs hcc⟩
  .obtain⟨e,n,ne,nf,d⟩:=I.pin p hp;refine⟨(hs.2 p.1 ?_).trans e,n,ne,nf,d⟩;intro q;rw[q,hoc] at e;have q':oc=p.2:=Option.some.inj e;exact d w' (by rw[<-q'];exact hocd)
def Qv{M:Model}{A:Around}{E:ANB}{i:Nat}{x:Str}{v:V}{u:Value}{Q:Unit->Shared->Prop}(I:AI X pins Y H s)(hN:X.N.Nodup)(hi:X.N[i]?=some x)(hx:Gv X.env.scope x)(r:AY v u)
  (h:∀s',AI X pins (Y.set i (some v)) H s'->Q () s') (hf:X.fn x=true\/X.env.scope.names.lookup x=some .local):wpAny M A (storeName X.env x u) Q E s :=
 Uy I hN hi hx r (λs' I' _=>h s' I') hf
def AI.call'{s':Shared}{ch:AM6}(I:AI X pins Y H s)(ho:s'.os=s.os)(u:Un (En X.stack) ch H H' s.heap s'.heap)(hok:Ca X.prog X.w H' s'.heap)(hg:AllBare s'.gens)
  (hch:∀b∈ch,(b∈X.ex\/X.s₀.heap.objs.size<=b)/\b≠X.env.locals/\(∀x c,X.env.cells.lookup x=some c->c≠b)/\∀p∈X.pn++pins,p.1≠b):AI X pins Y H' s':=by
 obtain⟨h',g',d',t',o'⟩:=s';have e:o'=s.os:=ho;subst e;exact I.call (g':=g') (t':=t') (d':=d') u hok hg hch
end
noncomputable abbrev XK:=Value->Option Addr->Hp->Prop
noncomputable abbrev St:=List (Option V)
noncomputable abbrev VK:=V->Hp->Prop
noncomputable abbrev TE:=St->Hp->VK->Prop
noncomputable abbrev TT:=St->Hp->(Bool->Hp->Prop)->Prop
noncomputable abbrev TA:=St->Hp->(List V->Hp->Prop)->Prop
structure Ic where
 nx:St->Hp->Prop
 rt:VK
 bk:St->Hp->Prop:=λ_ _=>False
 ct:St->Hp->Prop:=λ_ _=>False
noncomputable abbrev TS:=Ic->St->Hp->Prop
abbrev EP(X:Cx)(pins:List (Addr×Obj))(Y:St)(Q:VK)(u:Value)(s':Shared):Prop:=∃v H',AI X pins Y H' s'/\AY v u/\Q v H'
abbrev TP(X:Cx)(pins:List (Addr×Obj))(Y:St)(Q:Bool->Hp->Prop)(b:Bool)(s':Shared):Prop:=∃H',AI X pins Y H' s'/\Q b H'
abbrev AP(X:Cx)(pins:List (Addr×Obj))(Y:St)(Q:List V->Hp->Prop)(us:AM5)(s':Shared):Prop:=∃vs H',AI X pins Y H' s'/\AX vs us/\Q vs H'
abbrev SP(X:Cx)(pins:List (Addr×Obj))(D:Ic)(f:Flow)(s':Shared):Prop :=
 match f with
 |.next=>∃Y' H',AI X pins Y' H' s'/\D.nx Y' H'
 |.brk=>∃Y' H',AI X pins Y' H' s'/\D.bk Y' H'
 |.cont=>∃Y' H',AI X pins Y' H' s'/\D.ct Y' H'
 |.ret u=>∃v Y' H',AI X pins Y' H' s'/\AY v u/\D.rt v H'
abbrev PE(X:Cx)(e:Expr)(t:TE):Prop :=
 ∀(pins:List (Addr×Obj)) (s:Shared) (Y:St) (H:Hp) (Q:VK),AI X pins Y H s->t Y H Q->wpAny (model X.prog X.w) X.A (eval e X.env) (EP X pins Y Q) X.xe s
abbrev PT(X:Cx)(e:Expr)(t:TT):Prop :=
 ∀(pins:List (Addr×Obj)) (s:Shared) (Y:St) (H:Hp) (Q:Bool->Hp->Prop),AI X pins Y H s->t Y H Q->wpAny (model X.prog X.w) X.A (isTrue e X.env (eval e X.env)) (TP X pins Y Q) X.xe s
abbrev PW(X:Cx)(e:Expr)(t:TT):Prop :=
 ∀(whole:Sem Value) (pins:List (Addr×Obj)) (s:Shared) (Y:St) (H:Hp) (Q:Bool->Hp->Prop),AI X pins Y H s->t Y H Q->wpAny (model X.prog X.w) X.A (isTrue e X.env whole) (TP X pins Y Q) X.xe s
def PW.pt{X:Cx}{e:Expr}{t:TT}(h:PW X e t):PT X e t:=h _
abbrev PA(X:Cx)(es:AM7)(t:TA):Prop :=
 ∀(pos:Pos) (pins:List (Addr×Obj)) (s:Shared) (Y:St) (H:Hp) (Q:List V->Hp->Prop),AI X pins Y H s->t Y H Q->wpAny (model X.prog X.w) X.A (spliced (backTo pos (starEach es X.env))) (AP X pins Y Q) X.xe s
abbrev PS(X:Cx)(st:Stmt)(t:TS):Prop :=
 ∀(pins:List (Addr×Obj)) (s:Shared) (Y:St) (H:Hp) (D:Ic),AI X pins Y H s->t D Y H->wpAny (model X.prog X.w) X.A (exec st X.env) (SP X pins D) X.xe s
abbrev DW(X:Cx)(st:AM8)(t:TS):Prop :=
 ∀(pins:List (Addr×Obj)) (s:Shared) (Y:St) (H:Hp) (D:Ic),AI X pins Y H s->t D Y H->wpAny (model X.prog X.w) X.A (execs st X.env) (SP X pins D) X.xe s
def Af{α:Type}{t:Sem α}{Q Q':α->Shared->Prop}{M:Model}{A:Around}{E:ANB}{s:Shared}(h:wpAny M A t Q E s)(hQ:∀a s,Q a s->Q' a s):wpAny M A t Q' E s:=DI h hQ λ_ _ x=>x
section
variable {X:Cx}
abbrev Qt(i:Nat):TE:=λY H Q=>∃v,Y[i]?=some (some v)/\Q v H
abbrev tC(v:V):TE:=λ_ H Q=>Q v H
def ADI{i:Nat}{x:Str}{pos:Pos}(hN:X.N[i]?=some x)(hv:Jf X.env.scope x)(hd:(x == ("__debug__":Str))=false)(hcd:(x == ("__classdict__":Str))=false):PE X (.Name x pos) (Qt i):=by
 intro pins s Y H Q I h;obtain⟨v,e,h⟩:=h;obtain⟨m,hn,hl⟩:=I.loc;obtain⟨u,r,l⟩:=hl i x v hN e hv;have fin:EP X pins Y Q u s:=⟨v,H,I,r,h⟩;rcases l with⟨hk,hm⟩|⟨hk,c,hc,hcell⟩
 .exact wpAny_Name (wpAny_loadName_local I.ok.kind hk hn hm fin) hd
 .rcases hk with hk|hk
  .exact wpAny_Name (wpAny_loadName_cell I.ok.kind hk hc hcell fin) hd
  .exact wpAny_Name (wpAny_loadName_free I.ok.kind hk hc hcell fin hcd) hd
def ADV{i j pos}:PE X (.Constant (.int i) j pos) (tC (.int i)):=λ_ _ _ H _ I h=>wpAny_Constant_int ⟨.int i,H,I.tok _,⟨_,rfl⟩,h⟩
def ADh{b j pos}:PE X (.Constant (.bool b) j pos) (tC (.bl b)):=λ_ _ _ H _ I h=>Constant_bool ⟨.bl b,H,I,rfl,h⟩
def ADR{j pos}:PE X (.Constant .none j pos) (tC .non):=λ_ _ _ H _ I h=>Constant_none ⟨.non,H,I,rfl,h⟩
def ADL{x j pos}:PE X (.Constant (.str x) j pos) (tC (.str x)):=λ_ _ _ H _ I h=>Calls.Constant_str ⟨.str x,H,I.tok _,⟨_,rfl⟩,h⟩
abbrev Gl(X:Cx)(x:Str):Prop:=X.env.kindOf x=some .globalImplicit
def Kp{E:ANB}{pins:List (Addr×Obj)}{s:Shared}{Y:St}{H:Hp}{x:Str}{u:Value}{pos:Pos}{Q:ANB}(I:AI X pins Y H s)(hg:Gl X x)(hm:X.mg x=some u)(h:Q u s)
  (hd:(x == ("__debug__":Str))=false:=by decide):wpAny (model X.prog X.w) X.A (eval (.Name x pos) X.env) Q E s :=
 Calls.Name_function_global I.ok.kind hg (Calls.loadGlobal_global (by rw[I.ok.glob];exact I.mod.glob.keeps I.bk) hm h) hd
def GH{E:ANB}{pins:List (Addr×Obj)}{s:Shared}{Y:St}{H:Hp}{x:Str}{u:Value}{pos:Pos}{Q:ANB}(I:AI X pins Y H s)(hg:Gl X x)(hm:X.mg x=none)(hv:bootBuiltins x=some u)(h:Q u s)
  (hn:x≠"__name__":=by decide) (hd:(x == ("__debug__":Str))=false:=by decide):wpAny (model X.prog X.w) X.A (eval (.Name x pos) X.env) Q E s:=by
 obtain⟨mb,h1,h2⟩:=I.mod.blt;exact Calls.Name_function_global I.ok.kind hg (Calls.loadGlobal_builtin (by rw[I.ok.glob];exact I.mod.glob.keeps I.bk) hm (by rw[I.ok.blt];exact h1.keeps I.bk) ((h2 x hn).trans hv) h) hd
def ADX{x:Str}{v:V}{u:Value}{pos:Pos}(hg:Gl X x)(hm:X.mg x=some u)(r:AY v u)(hd:(x == ("__debug__":Str))=false:=by decide):PE X (.Name x pos) (tC v) :=
 λ_ _ _ H _ I h=>Kp I hg hm ⟨v,H,I,r,h⟩ hd
def ADg{x:Str}{v:V}{u:Value}{pos:Pos}(hg:Gl X x)(hm:X.mg x=none)(hv:bootBuiltins x=some u)(r:AY v u)(hn:x≠"__name__":=by decide)(hd:(x == ("__debug__":Str))=false:=by decide):PE X (.Name x pos) (tC v) :=
 λ_ _ _ H _ I h=>GH I hg hm hv ⟨v,H,I,r,h⟩ hn hd
variable {a b:Expr}{ta tb:TE}{pos:Pos}
abbrev tB(t:TE):TT:=λY H Q=>t Y H λx H1=>∃c,x=.bl c/\Q c H1
def ACZ{e:Expr}{t:TE}(h:PE X e t)(he:∀whole,isTrue e X.env whole=(do let v <-whole;standAt e.pos;holding [v] (truthy v))):PT X e (tB t):=by intro pins s Y H Q I hw;refine isTrue_plain (Af (h pins s Y H _ I hw) λv s1 z2_=>?_) (he _);obtain⟨x,H1,I1,r1,q1⟩:=z2_;obtain⟨d,rfl,q⟩:=q1;cases r1;exact AMq ⟨H1,I1,q⟩
variable {tA tB':TT}{rest:AM7}
abbrev ABP(t u:TT):TT:=λY H Q=>t Y H λc H1=>if c=true then u Y H1 Q else Q false H1
abbrev tOr(t u:TT):TT:=λY H Q=>t Y H λc H1=>if c=true then Q true H1 else u Y H1 Q
abbrev AA9(t:TT):TT:=λY H Q=>t Y H λc H1=>Q (!c) H1
def ACP(ha:PT X a tA):PW X (.BoolOp .And [a] pos) tA:=by
 intro wh pins s Y H Q I h;refine isTrue_and (Af (ha pins s Y H Q I h) λc s1 e=>?_)
 cases c with
 |true=>exact isTrue_and_nil e
 |false=>exact e
def ACN(ha:PT X a tA):PW X (.BoolOp .Or [a] pos) tA:=by
 intro wh pins s Y H Q I h;refine isTrue_or (Af (ha pins s Y H Q I h) λc s1 e=>?_)
 cases c with
 |false=>exact isTrue_or_nil e
 |true=>exact e
def ACQ(ha:PT X a tA)(hb:PW X (.BoolOp .And (b::rest) pos) tB'):PW X (.BoolOp .And (a::b::rest) pos) (ABP tA tB'):=by
 intro wh pins s Y H Q I h;refine isTrue_and (Af (ha pins s Y H _ I h) λc s1 z2_=>?_);obtain⟨H1,I1,q1⟩:=z2_
 cases c with
 |true=>exact hb wh pins s1 Y H1 Q I1 q1
 |false=>exact⟨H1,I1,q1⟩
def ACO(ha:PT X a tA)(hb:PW X (.BoolOp .Or (b::rest) pos) tB'):PW X (.BoolOp .Or (a::b::rest) pos) (tOr tA tB'):=by
 intro wh pins s Y H Q I h;refine isTrue_or (Af (ha pins s Y H _ I h) λc s1 z2_=>?_);obtain⟨H1,I1,q1⟩:=z2_
 cases c with
 |true=>exact⟨H1,I1,q1⟩
 |false=>exact hb wh pins s1 Y H1 Q I1 q1
def ACa(ha:PT X a tA):PT X (.UnaryOp .Not a pos) (AA9 tA):=by intro pins s Y H Q I h;exact isTrue_not (ha pins s Y H (λc H1=>Q (!c) H1) I h)
abbrev ABO(ta tb:TE):TE:=λY H Q=>ta Y H λx H1=>∃c,x=.bl c/\if c=true then tb Y H1 Q else Q (.bl false) H1
abbrev AA6(ta tb:TE):TE:=λY H Q=>ta Y H λx H1=>∃c,x=.bl c/\if c=true then Q (.bl true) H1 else tb Y H1 Q
abbrev AA8(ta:TE):TE:=λY H Q=>ta Y H λx H1=>∃c,x=.bl c/\Q (.bl (!c)) H1
def ADP{op}{t:TE}(h:PE X a t):PE X (.BoolOp op [a] pos) t:=λpins s Y H Q I hw=>BoolOp_one (h pins s Y H Q I hw)
def ADi(ha:PE X a ta)(hb:PE X (.BoolOp .And (b::rest) pos) tb):PE X (.BoolOp .And (a::b::rest) pos) (ABO ta tb):=by
 intro pins s Y H Q I h;refine BoolOp_and (Af (ha pins s Y H _ I h) λv s1 z2_=>?_);obtain⟨x,H1,I1,r1,q1⟩:=z2_;obtain⟨c,rfl,q1⟩:=q1;cases r1;refine AMq ?_
 cases c with
 |true=>exact hb pins s1 Y H1 Q I1 q1
 |false=>exact⟨.bl false,H1,I1,rfl,q1⟩
def ADN(ha:PE X a ta)(hb:PE X (.BoolOp .Or (b::rest) pos) tb):PE X (.BoolOp .Or (a::b::rest) pos) (AA6 ta tb):=by
 intro pins s Y H Q I h;refine BoolOp_or (Af (ha pins s Y H _ I h) λv s1 z2_=>?_);obtain⟨x,H1,I1,r1,q1⟩:=z2_;obtain⟨c,rfl,q1⟩:=q1;cases r1;refine AMq ?_
 cases c with
 |false=>exact hb pins s1 Y H1 Q I1 q1
 |true=>exact⟨.bl true,H1,I1,rfl,q1⟩
def ADQ(ha:PE X a ta):PE X (.UnaryOp .Not a pos) (AA8 ta):=by intro pins s Y H Q I h;refine UnaryOp_ (Af (ha pins s Y H _ I h) λv s1 z2_=>?_);obtain⟨x,H1,I1,r1,q1⟩:=z2_;obtain⟨c,rfl,q1⟩:=q1;cases r1;exact not_of (AMq ⟨.bl (!c),H1,I1,rfl,q1⟩)
abbrev tIf(t:TT)(ta tb:TE):TE:=λY H Q=>t Y H λc H1=>if c=true then ta Y H1 Q else tb Y H1 Q
def ADW{c:Expr}(hc:PT X c tA)(ha:PE X a ta)(hb:PE X b tb):PE X (.IfExp c a b pos) (tIf tA ta tb):=by
 intro pins s Y H Q I h;refine wpAny_IfExp (Af (hc pins s Y H _ I h) λd s1 z2_=>?_);obtain⟨H1,I1,q1⟩:=z2_
 cases d with
 |true=>exact ha pins s1 Y H1 Q I1 q1
 |false=>exact hb pins s1 Y H1 Q I1 q1
end
abbrev BH(K:AK)(H:Hp)(a:Addr)(xs:List V):Prop :=
 Rd H a (.lst xs) \/
  ∃(o:Obj) (its:Array Value) (n:Nat),K.lookup a=some o/\o.cls=.type "list"/\o.dict=none/\o.data=.seq its n/\its.size<=sizeLine/\AX xs its.toList
abbrev BY(K:AK)(H:Hp)(a:Addr)(xs:List V):Prop :=
 Rd H a (.tup xs) \/
  ∃(o:Obj) (its:Array Value) (n:Nat),K.lookup a=some o/\o.cls=.type "tuple"/\o.data=.seq its n/\its.size<=sizeLine/\AX xs its.toList
abbrev AHM:Value->Option V
 |.none=>some .non
 |.bool b=>some (.bl b)
 |.int i _=>some (.int i)
 |.str x _=>some (.str x)
 |.bytes b _=>some (.byt b)
 |.float b _=>some (.flt b)
 |.ref a=>some (.ref a)
 |.type n=>some (.ty n)
 |_=>none
def AY.abs{x:V}{u:Value}(r:AY x u):AHM u=some x:=by
 cases x with
 |non=>cases r;rfl
 |bl _=>cases r;rfl
 |int _=>obtain⟨t,rfl⟩:=r;rfl
 |str _=>obtain⟨t,rfl⟩:=r;rfl
 |byt _=>obtain⟨t,rfl⟩:=r;rfl
 |flt _=>obtain⟨t,rfl⟩:=r;rfl
 |ref _=>cases r;rfl
 |ty _=>cases r;rfl
def AY.inj{x y:V}{u:Value}(r:AY x u)(q:AY y u):x=y:=Option.some.inj (r.abs.symm.trans q.abs)
def AX.inj:∀{xs ys:List V} {us:AM5},AX xs us->AX ys us->xs=ys
 |_,_,_,.nil,.nil=>rfl
 |_,_,_,.cons r t,.cons r' t'=>by rw[r.inj r',AX.inj t t']
section
variable {X:Cx}{pins:List (Addr×Obj)}{Y:St}{H:Hp}{s:Shared}{a:Addr}{xs ys:List V}
def BH.of{K:AK}(h:H a=some (.lst xs)):BH K H a xs:=.inl (.inl h)
def BY.of{K:AK}(h:H a=some (.tup xs)):BY K H a xs:=.inl (.inl h)
def AI.list(I:AI X pins Y H s)(h:BH X.K H a xs):∃its:AM5,AX xs its/\PlainL s.heap a its.toArray/\xs.length<=sizeLine:=by
 rcases h with h|⟨o,its,n,hk,hc,hd,hs,hz,r⟩
 .obtain⟨z,its,n,r,e⟩:=h.ok I.hok;exact⟨its,r,⟨_,n,e,rfl,rfl,rfl⟩,z⟩
 .refine⟨its.toList,r,⟨o,n,I.kIn a o hk,hc,hd,by simpa using hs⟩,?_⟩;have e:=r.length;simp only[AMK] at e;omega
def AI.tuple(I:AI X pins Y H s)(h:BY X.K H a xs):∃its:AM5,AX xs its/\IsTup s.heap a its.toArray/\xs.length<=sizeLine:=by
 rcases h with h|⟨o,its,n,hk,hc,hs,hz,r⟩
 .obtain⟨z,its,r,p⟩:=h.ok I.hok;exact⟨its,r,p,z⟩
 .refine⟨its.toList,r,⟨o,I.kIn a o hk,hc,n,by simpa using hs⟩,?_⟩;have e:=r.length;simp only[AMK] at e;omega
def AI.list_inj(I:AI X pins Y H s)(h:BH X.K H a xs)(h':BH X.K H a ys):xs=ys:=by
 obtain⟨its,r,⟨o,n,e,_,_,d⟩,_⟩:=I.list h;obtain⟨its',r',⟨o',n',e',_,_,d'⟩,_⟩:=I.list h';rw[e] at e';cases e';rw[d] at d'
 injection d' with d1 _
 have:its=its':=by simpa using congrArg Array.toList d1
 subst this;exact r.inj r'
def AI.tuple_inj(I:AI X pins Y H s)(h:BY X.K H a xs)(h':BY X.K H a ys):xs=ys:=by
 obtain⟨its,r,⟨o,e,_,n,d⟩,_⟩:=I.tuple h;obtain⟨its',r',⟨o',e',_,n',d'⟩,_⟩:=I.tuple h';rw[e] at e';cases e';rw[d] at d'
 injection d' with d1 _
 have:its=its':=by simpa using congrArg Array.toList d1
 subst this;exact r.inj r'
end
noncomputable abbrev Cx.wish(X:Cx)(E:ANB):Cx:={X with xe:=E}
noncomputable abbrev Cx.nox(X:Cx):Cx:=X.wish λ_ _=>False
def Cx.Ok.wish{X:Cx}(ok:X.Ok)(E:ANB):(X.wish E).Ok :=
 ⟨ok.mod,ok.kind,ok.glob,ok.blt,ok.above,ok.inj,ok.has,ok.cab,ok.hd,ok.frames,ok.stk,ok.exf,ok.bs,ok.bsz,ok.noex,ok.exfs,ok.funs,ok.frf⟩
def Cx.Ok.unwish{X:Cx}{E:ANB}(ok:(X.wish E).Ok):X.Ok :=
 ⟨ok.mod,ok.kind,ok.glob,ok.blt,ok.above,ok.inj,ok.has,ok.cab,ok.hd,ok.frames,ok.stk,ok.exf,ok.bs,ok.bsz,ok.noex,ok.exfs,ok.funs,ok.frf⟩
section
variable {X:Cx}{pins:List (Addr×Obj)}{Y:St}{H:Hp}{s:Shared}{E:ANB}
def AI.wish(I:AI X pins Y H s)(E:ANB):AI (X.wish E) pins Y H s:=⟨I.ok.wish E,I.os,I.bare,I.base,I.loc,I.cell,I.free,I.freeC,I.pin,I.hok,I.len⟩
def AI.unwish(I:AI (X.wish E) pins Y H s):AI X pins Y H s:=⟨I.ok.unwish,I.os,I.bare,I.base,I.loc,I.cell,I.free,I.freeC,I.pin,I.hok,I.len⟩
def SP.unwish{D:Ic}{f:Flow}{s':Shared}(h:SP (X.wish E) pins D f s'):SP X pins D f s':=by
 cases f with
 |next=>obtain⟨Y',H',I,q⟩:=h;exact⟨Y',H',I.unwish,q⟩
 |brk=>obtain⟨Y',H',I,q⟩:=h;exact⟨Y',H',I.unwish,q⟩
 |cont=>obtain⟨Y',H',I,q⟩:=h;exact⟨Y',H',I.unwish,q⟩
 |ret u=>obtain⟨v,Y',H',I,r,q⟩:=h;exact⟨v,Y',H',I.unwish,r,q⟩
def PE.nox{e:Expr}{t:TE}(h:PE X.nox e t):PE X e t:=λpins s Y H Q I hw =>
 DI (h pins s Y H Q (I.wish _) hw) (λ_ _ z2_=>(by obtain⟨v,H',I',r,q⟩:=z2_;exact⟨v,H',I'.unwish,r,q⟩)) λ_ _ z=>False.elim z
def PT.nox{e:Expr}{t:TT}(h:PT X.nox e t):PT X e t:=λpins s Y H Q I hw =>
 DI (h pins s Y H Q (I.wish _) hw) (λ_ _ z2_=>(by obtain⟨H',I',q⟩:=z2_;exact⟨H',I'.unwish,q⟩)) λ_ _ z=>False.elim z
def DW.nox{st:AM8}{t:TS}(h:DW X.nox st t):DW X st t:=λpins s Y H D I hw =>
 DI (h pins s Y H D (I.wish _) hw) (λ_ _ q=>q.unwish) λ_ _ z=>False.elim z
end
section
variable {X:Cx}{st:Stmt}{rest:AM8}{t u:TS}{e:Expr}{te:TE}{pos:Pos}
abbrev ABB:TS:=λD Y H=>D.nx Y H
abbrev AA3(t u:TS):TS:=λD Y H=>t {D with nx:=u D} Y H
def ACd:DW X [] ABB:=λ_ _ Y H _ I h=>wpAny_execs_nil ⟨Y,H,I,h⟩
def ACe(h1:PS X st t)(h2:DW X rest u):DW X (st::rest) (AA3 t u):=by
 intro pins s Y H D I h;refine wpAny_execs_cons (Af (h1 pins s Y H {D with nx:=u D} I h) λf s1 q=>?_)
 cases f with
 |next =>
  obtain⟨Y',H',I',q⟩:=q;exact h2 pins s1 Y' H' D I' q
 |ret v=>exact q
 |brk=>exact q
 |cont=>exact q
def ACc(h1:PS X st t):DW X [st] t:=by
 intro pins s Y H D I h;refine wpAny_execs_cons (Af (h1 pins s Y H D I h) λf s1 q=>?_)
 cases f with
 |next=>exact wpAny_execs_nil q
 |ret v=>exact q
 |brk=>exact q
 |cont=>exact q
abbrev ABK:TS:=λD Y H=>D.bk Y H
def ACo:PS X (.Break pos) ABK:=λ_ _ Y H _ I h=>wpAny_Break ⟨Y,H,I,h⟩
def AI.quiet{pins:List (Addr×Obj)}{Y:St}{H:Hp}{s:Shared}(I:AI X pins Y H s):interactive X.env=false:=by simp[interactive,I.ok.kind]
abbrev ABI(te:TE):TS:=λD Y H=>te Y H λ_ H1=>D.nx Y H1
def ACn(he:PE X e te)(hs:swapsWith e none pos.line X.env=pure false):PS X (.Expr e pos) (ABI te):=by intro pins s Y H D I h;exact wpAny_Expr_any (Af (he pins s Y H _ I h) λv s1 z2_=>(by obtain⟨x,H1,I1,r1,q1⟩:=z2_;exact⟨Y,H1,I1,q1⟩)) I.quiet hs
abbrev AA4(te:TE):TS:=λD Y H=>te Y H D.rt
def ACh(he:PE X e te):PS X (.Return (some e) pos) (AA4 te):=by intro pins s Y H D I h;exact wpAny_Return_some (Af (he pins s Y H _ I h) λv s1 z2_=>(by obtain⟨x,H1,I1,r1,q1⟩:=z2_;exact⟨x,Y,H1,I1,r1,q1⟩))
abbrev ABE(c:TT)(t u:TS):TS:=λD Y H=>c Y H λb H1=>if b=true then t D Y H1 else u D Y H1
def ACj{c:Expr}{a b:AM8}{tc:TT}(hc:PT X c tc)(ha:DW X a t)(hb:DW X b u):PS X (.If c a b pos) (ABE tc t u):=by
 intro pins s Y H D I h;refine wpAny_If (Af (hc pins s Y H _ I h) λd s1 z2_=>?_);obtain⟨H1,I1,q1⟩:=z2_
 cases d with
 |true=>exact ha pins s1 Y H1 D I1 q1
 |false=>exact hb pins s1 Y H1 D I1 q1
abbrev ABC:TS:=λ_ _ _=>False
def ACi:PS X st ABC:=λ_ _ _ _ _ _ h=>h.elim
end
noncomputable abbrev TG:=V->St->Hp->(St->Hp->Prop)->Prop
noncomputable abbrev GN:=List V->St->Hp->(St->Hp->Prop)->Prop
abbrev PG(X:Cx)(target:Expr)(t:TG):Prop :=
 ∀(pins:List (Addr×Obj)) (s:Shared) (Y:St) (H:Hp) (v:V) (u:Value) (Q:St->Hp->Prop),AI X pins Y H s->AY v u->t v Y H Q ->
  wpAny (model X.prog X.w) X.A (assign target X.env u) (λ_ s'=>∃Y' H',AI X pins Y' H' s'/\Q Y' H') X.xe s
abbrev GP(X:Cx)(ts:AM7)(t:GN):Prop :=
 ∀(pins:List (Addr×Obj)) (s:Shared) (Y:St) (H:Hp) (vs:List V) (us:AM5) (Q:St->Hp->Prop),AI X pins Y H s->AX vs us->t vs Y H Q ->
  wpAny (model X.prog X.w) X.A (assignInOrder ((assignEach ts X.env).map (·.2)) us) (λ_ s'=>∃Y' H',AI X pins Y' H' s'/\Q Y' H') X.xe s
noncomputable abbrev OE:=V->V->V->Hp->(Hp->Prop)->Prop
abbrev Sl(X:Cx)(t:OE):Prop :=
 ∀(pins:List (Addr×Obj)) (s:Shared) (Y:St) (H:Hp) (o i v:V) (ov iv u:Value) (Q:Hp->Prop),AI X pins Y H s->AY o ov->AY i iv->AY v u->t o i v H Q ->
  wpAny (model X.prog X.w) X.A (setItem ov iv u) (λ_ s'=>∃H',AI X pins Y H' s'/\Q H') X.xe s
noncomputable abbrev OG:=V->V->Hp->VK->Prop
abbrev OI(X:Cx)(op:Operator)(t:OG):Prop :=
 ∀(pins:List (Addr×Obj)) (s:Shared) (Y:St) (H:Hp) (x y:V) (v u:Value) (Q:VK),AI X pins Y H s->AY x v->AY y u->t x y H Q ->
  wpAny (model X.prog X.w) X.A (inplaceOp op v u) (EP X pins Y Q) X.xe s
section
variable {X:Cx}{pos:Pos}
abbrev XZ(i:Nat):TG:=λv Y H Q=>Q (Y.set i (some v)) H
def ADF{i:Nat}{x:Str}(hN:X.N.Nodup)(hi:X.N[i]?=some x)(hx:Gv X.env.scope x)(hf:X.fn x=true\/X.env.scope.names.lookup x=some .local):PG X (.Name x pos) (XZ i):=by intro pins s Y H v u Q I r h;exact wpAny_assign_Name (Qv I hN hi hx r (λs' I'=>⟨_,H,I',h⟩) hf)
abbrev AFp:GN:=λvs Y H Q=>vs=[]/\Q Y H
abbrev AFv(t:TG)(u:GN):GN:=λvs Y H Q=>∃v r,vs=v::r/\t v Y H λY' H'=>u r Y' H' Q
def ADD:GP X [] AFp:=by intro pins s Y H vs us Q I r h;obtain⟨e,h⟩:=h;subst e;cases r;exact assignInOrder_nil ⟨Y,H,I,h⟩
def ADE{e:Expr}{es:AM7}{t:TG}{u:GN}(h1:PG X e t)(h2:GP X es u)
  (hs:(assignEach (e::es) X.env).map (·.2)=assign e X.env::(assignEach es X.env).map (·.2):=by rfl):GP X (e::es) (AFv t u):=by
 intro pins s Y H vs us Q I r h;obtain⟨v,vr,e1,h⟩:=h;subst e1
 cases r with
 |cons r rr =>
  rw[hs];refine assignInOrder_cons (Af (h1 pins s Y H _ _ _ I r h) λ_ s1 z2_=>?_);obtain⟨Y1,H1,I1,q1⟩:=z2_;exact h2 pins s1 Y1 H1 _ _ Q I1 rr q1
abbrev AFm(K:AK)(n:Nat)(t:GN):TG:=λv Y H Q=>∃a xs,v=.ref a/\BY K H a xs/\xs.length=n/\t xs Y H Q
def Vf{es:AM7}{k:Nat}{t:GN}{n:Nat}(hc:X.calm=true)(h:GP X es t)
  (hn:(assignEach es X.env).length=n:=by rfl) (hst:(assignEach es X.env).findIdx? (·.1)=none:=by rfl):PG X (.Tuple es k pos) (AFm X.K n t):=by
 intro pins s Y H v u Q I r hw;obtain⟨a,xs,e1,hq,hl,hw⟩:=hw;subst e1;cases r;obtain⟨its,rv,ht,hz⟩:=I.tuple hq;refine assign_Tuple_tuple (I.ok.hd hc) ht (by simp[hn,<-hl,rv.length]) hst λh' hx=>?_;have I1:AI X pins Y H {s with heap:=h'}:=I.kept (t':=s.toks) λb o e=>hx b o (BQ (Heap.lt_size e)) e;exact h pins _ Y H xs _ Q I1 (by simpa using rv) hw
abbrev Fk(to ti:TE)(t:OE):TG:=λv Y H Q=>to Y H λo H1=>ti Y H1 λi H2=>t o i v H2 λH3=>Q Y H3
def Vg{o i:Expr}{to ti:TE}{t:OE}(ho:PE X o to)(hi:PE X i ti)(hs:Sl X t)
  (ha:∀v,assign (.Subscript o i pos) X.env v=(do
   let ov <-holding [v] (eval o X.env)
   let iv <-holding [v,ov] (eval i X.env)
   standAt pos
   holding [v,ov,iv] (setItem ov iv v)
   release [v,ov,iv] []):=by intro _;rfl):PG X (.Subscript o i pos) (Fk to ti t):=by
 intro pins s Y H v u Q I r h;rw[ha];refine AG (Ck (Af (ho pins s Y H _ I h) λov s1 z2_=>?_));obtain⟨x,H1,I1,r1,q1⟩:=z2_;refine AG (Ck (Af (hi pins s1 Y H1 _ I1 q1) λiv s2 z2_=>?_));obtain⟨y,H2,I2,r2,q2⟩:=z2_;refine AG (wpAny_standAt (AG (Ck (Af (hs pins s2 Y H2 x y v ov iv u _ I2 r1 r2 r q2) λ_ s3 z2_=>?_))));obtain⟨H3,I3,q3⟩:=z2_;exact wpAny_release ⟨Y,H3,I3,q3⟩
abbrev Uj(te:TE)(g:TG):TS:=λD Y H=>te Y H λx H1=>g x Y H1 D.nx
def RF{tg e:Expr}{te:TE}{g:TG}(he:PE X e te)(hg:PG X tg g)(hs:swapsWithSole [tg] e pos.line X.env=pure false)(hw:swappedStores [tg] e X.env=pure none)
  (h1:(assignEach [tg] X.env).map (·.2)=[assign tg X.env]):PS X (.Assign [tg] e pos) (Uj te g):=by
 intro pins s Y H D I h;refine wpAny_Assign_stores (Af (he pins s Y H _ I h) λv s1 z2_=>?_) hs hw;obtain⟨x,H1,I1,r1,q1⟩:=z2_;rw[h1];exact Af (hg pins s1 Y H1 x v _ I1 r1 q1) λ_ s2 q=>q
def ACg{i:Nat}{x:Str}{e:Expr}{te:TE}{pos':Pos}(hN:X.N.Nodup)(hi:X.N[i]?=some x)(hx:Gv X.env.scope x)(he:PE X e te)(hs:swapsWith e (some (.Name x pos')) pos.line X.env=pure false)(hf:X.fn x=true\/X.env.scope.names.lookup x=some .local) :
  PS X (.Assign [.Name x pos'] e pos) (Uj te (XZ i)):=by
 intro pins s Y H D I h;refine wpAny_Assign_Name (Af (he pins s Y H _ I h) λv s1 z2_=>?_) hs;obtain⟨y,H1,I1,r1,q1⟩:=z2_;exact Qv I1 hN hi hx r1 (λs2 I2=>⟨_,H1,I2,q1⟩) hf
abbrev ABN(i:Nat)(te:TE)(ti:OG):TS:=λD Y H=>∃x,Y[i]?=some (some x)/\te Y H λy H1=>ti x y H1 λz H2=>D.nx (Y.set i (some z)) H2
def ACp{i:Nat}{x:Str}{e:Expr}{te:TE}{op:Operator}{ti:OG}{pos':Pos}(hN:X.N.Nodup)(hi:X.N[i]?=some x)(hx:Gv X.env.scope x)(he:PE X e te)(ho:OI X op ti)(hf:X.fn x=true\/X.env.scope.names.lookup x=some .local) :
  PS X (.AugAssign (.Name x pos') op e pos) (ABN i te ti):=by
 intro pins s Y H D I h;obtain⟨v,e1,h⟩:=h;obtain⟨m,hn,hl⟩:=I.loc;have vis:Jf X.env.scope x:=by rcases hx with k|k;exact .inl k;exact .inr (.inl k)
 obtain⟨u,r,l⟩:=hl i x v hi e1 vis;refine wpAny_AugAssign_Name ?_
 have go:wpAny (model X.prog X.w) X.A (eval e X.env) (λw s₂=>wpAny (model X.prog X.w) X.A (inplaceOp op u w) (λr s₃=>wpAny (model X.prog X.w) X.A (storeName X.env x r) (λ_=>SP X pins D .next) X.xe s₃) X.xe s₂) X.xe s:=by refine Af (he pins s Y H _ I h) λw s1 z2_=>?_;obtain⟨y,H1,I1,r1,q1⟩:=z2_;refine Af (ho pins s1 Y H1 v y u w _ I1 r r1 q1) λz s2 z2_=>?_;obtain⟨zv,H2,I2,r2,q2⟩:=z2_;exact Qv I2 hN hi hx r2 (λs3 I3=>⟨_,H2,I3,q2⟩) hf
 rcases l with⟨hk,hm⟩|⟨hk,c,hc,hcell⟩
 .exact wpAny_loadName_local I.ok.kind hk hn hm go
 .rcases hk with hk|hk
  .exact wpAny_loadName_cell I.ok.kind hk hc hcell go
  .rcases hx with k|k
   .have:X.env.scope.names.lookup x=some .free:=hk;rw[k] at this;cases this
   .have:X.env.scope.names.lookup x=some .free:=hk;rw[k] at this;cases this
abbrev Rm(f:Int->Int->Int):OG:=λx y H Q=>∃i j,x=.int i/\y=.int j/\Q (.int (f i j)) H
def AJg:OI X .Add (Rm λi j=>i+j):=by intro pins s Y H x y v u Q I r1 r2 h;obtain⟨i,j,e1,e2,q⟩:=h;subst e1;subst e2;obtain⟨t,rfl⟩:=r1;obtain⟨t',rfl⟩:=r2;exact iadd_int ⟨.int _,H,I.tok _,⟨_,rfl⟩,q⟩
def AJf:OI X .Sub (Rm λi j=>i-j):=by intro pins s Y H x y v u Q I r1 r2 h;obtain⟨i,j,e1,e2,q⟩:=h;subst e1;subst e2;obtain⟨t,rfl⟩:=r1;obtain⟨t',rfl⟩:=r2;exact isub_int ⟨.int _,H,I.tok _,⟨_,rfl⟩,q⟩
end
section
variable {X:Cx}{pos:Pos}
abbrev AAy(c:TT)(tb:TS):TS:=λD Y H=>∃W:Nat->St->Hp->Prop,(∃m,W m Y H)/\∀m Y H,W m Y H ->
 c Y H λb H1=>if b=true then ∃N:St->Hp->Prop,(∀Y' H',N Y' H'->∃m',m'<m/\W m' Y' H')/\tb {D with nx:=N,ct:=N,bk:=D.nx} Y H1 else D.nx Y H1
def ACf{c:Expr}{body:AM8}{tc:TT}{tb:TS}(hp:PassesOwn (model X.prog X.w) X.A X.env X.xe)(hc:PT X c tc)(hb:DW X body tb):PS X (.While c body [] pos) (AAy tc tb):=by
 intro pins s Y H D I h;obtain⟨W,⟨m0,w0⟩,turn⟩:=h;refine wpAny_While (codeAny_whileLoop (λn s'=>∃Y' H',AI X pins Y' H' s'/\W n Y' H') ?_ m0 ⟨Y,H,I,w0⟩);rintro n s1 ⟨Y1,H1,I1,w1⟩;refine AMr hp (Af (hc pins s1 Y1 H1 _ I1 (turn n Y1 H1 w1)) λb s2 z2_=>?_);obtain⟨H2,I2,q2⟩:=z2_
 cases b with
 |true =>
  obtain⟨N,hN,q2⟩:=q2;rw[if_pos rfl];refine AMr hp (Af (hb pins s2 Y1 H2 _ I2 q2) λf s3 q3=>?_)
  cases f with
  |next =>
   obtain⟨Y3,H3,I3,n3⟩:=q3;obtain⟨m',hm,w3⟩:=hN Y3 H3 n3;exact⟨m',hm,Y3,H3,I3,w3⟩
  |cont =>
   obtain⟨Y3,H3,I3,n3⟩:=q3;obtain⟨m',hm,w3⟩:=hN Y3 H3 n3;exact⟨m',hm,Y3,H3,I3,w3⟩
  |brk=>exact q3
  |ret v=>exact q3
 |false =>
  rw[if_neg Bz];exact wpAny_execs_nil ⟨Y1,H2,I2,q2⟩
end
structure It where
 go:Nat->Hp->Prop
 yld:Nat->Hp->V->Hp->Prop
 stop:Nat->Hp->Prop
abbrev EE(X:Cx)(pins:List (Addr×Obj))(H:Hp)(b:Addr):Prop :=
 H b=none/\b≠X.env.locals/\b∉X.fs/\(b∈X.ex\/X.s₀.heap.objs.size<=b)/\(∀x c,X.env.cells.lookup x=some c->c≠b)/\∀p∈X.pn++pins,p.1≠b
def AI.fpOk{X:Cx}{pins:List (Addr×Obj)}{Y:St}{H H':Hp}{s:Shared}{b:Addr}(I:AI X pins Y H s)(hb:s.heap.objs.size<=b)(hn:H' b=none):EE X pins H' b:=by
 refine⟨hn,Eb (Cm I.lt hb),I.nofs hb,.inr (CD I.sz hb),λx c e z=>?_,λp hp z=>?_⟩
 .obtain⟨v,q⟩:=I.cell x c e;exact absurd (Cm q.lt (by rw[z];exact hb)) (ALS _)
 .exact absurd (Cm (Heap.lt_size (I.pin p hp).1) (by rw[z];exact hb)) (ALS _)
structure Gr (P:Program) (w:World) (K:AK) (tg:Expr) (J:It) (fp:AM6) (it:Addr) (tn:Nat->Heap->Prop):Prop where
 mem:it∈fp
 obj:∀i h,tn i h->∀b∈fp,∃o,h.get? b=some o/\∀v,o.data≠.cell v
 keep:∀i h h',tn i h->(∀b∈fp,∀o,h.get? b=some o->h'.get? b=some o)->tn i h'
 item:∀(X:Cx),X.prog=P->X.w=w->X.K=K->X.calm=true->∀(i:Nat) (pins:List (Addr×Obj)) (s:Shared) (Y:St) (H:Hp) (E:ANB),AI X pins Y H s->(∀b∈fp,EE X pins H b)->tn i s.heap->J.go i H ->
  wpAny (model P w) X.A (pyNext (.ref it)) (λr s1=>∃u,r=some u /\
   wpAny (model P w) X.A (letOwnedTupleGo tg (.ref it) u) (λ_ s2=>∃x H',AI X pins Y H' s2/\AY x u/\J.yld i H x H'/\tn (i+1) s2.heap/\∀b∈fp,H' b=none) E s1) E s
 done:∀(X:Cx),X.prog=P->X.w=w->X.K=K->X.calm=true->∀(i:Nat) (pins:List (Addr×Obj)) (s:Shared) (Y:St) (H:Hp) (E:ANB),AI X pins Y H s->(∀b∈fp,EE X pins H b)->tn i s.heap->J.stop i H ->
  wpAny (model P w) X.A (pyNext (.ref it)) (λr s1=>r=none/\AI X pins Y H s1) E s
 self:∀(A:Around) (i:Nat) (s:Shared) (Q:ANB) (E:ANB),tn i s.heap->Q (.ref it) s->wpAny (model P w) A (pyIter (.ref it)) Q E s
noncomputable abbrev TI:=St->Hp->(It->Hp->Prop)->Prop
abbrev Yu(X:Cx)(pins:List (Addr×Obj))(Y:St)(tg:Expr)(R:It->Hp->Prop)(itv:Value)(s2:Shared):Prop :=
 ∃(it:Addr) (fp:AM6) (tn:Nat->Heap->Prop) (J:It) (H':Hp),itv=.ref it/\AI X pins Y H' s2/\Gr X.prog X.w X.K tg J fp it tn/\tn 0 s2.heap/\(∀b∈fp,EE X pins H' b)/\R J H'
abbrev PI(X:Cx)(tg iter:Expr)(wi:TI):Prop :=
 ∀(pins:List (Addr×Obj)) (s:Shared) (Y:St) (H:Hp) (R:It->Hp->Prop),AI X pins Y H s->wi Y H R ->
  wpAny (model X.prog X.w) X.A (eval iter X.env) (λv s1=>wpAny (model X.prog X.w) X.A (pyIter v) (Yu X pins Y tg R) X.xe s1) X.xe s
def Nh{M:Model}{A:Around}{E:ANB}{s:Shared}{tg:Expr}{it:Addr}{u:Value}{o:Obj}{n:String}{vs:Array Value}{Q:Unit->Shared->Prop}(ho:s.heap.get? it=some o)(hc:o.cls=.type n)(hd:o.data=.fields vs)
  (hn:["enumerate","zip","dict_itemiterator","dict_reverseitemiterator","odict_iterator","itertools.zip_longest","itertools.pairwise"].contains n=false) (hQ:Q () s):wpAny M A (letOwnedTupleGo tg (.ref it) u) Q E s:=by
 unfold letOwnedTupleGo
 cases tg <;> first
  |exact AM hQ
  |(cases u <;> first
    |exact AM hQ
    |(refine AG (wpAny_load ho ?_)
      rw[hc,hd]
      show wpAny M A (if (["enumerate","zip","dict_itemiterator","dict_reverseitemiterator","odict_iterator","itertools.zip_longest","itertools.pairwise"].contains n&&vs[0]? == some (rawInt _))=true then _ else _) Q E s
      rw[if_neg (by intro h;rw[hn,Bool.false_and] at h;cases h)]
      exact AM hQ))
abbrev ZA(K:AK)(a:Addr):It :=
 ⟨λi H=>∃xs x,BH K H a xs/\xs[i]?=some x,λi H x H'=>H'=H/\∀xs,BH K H a xs->xs[i]?=some x,λi H=>∃xs,BH K H a xs/\xs.length<=i⟩
abbrev Yy(K:AK)(a:Addr):It :=
 ⟨λi H=>∃xs x,BY K H a xs/\xs[i]?=some x,λi H x H'=>H'=H/\∀xs,BY K H a xs->xs[i]?=some x,λi H=>∃xs,BY K H a xs/\xs.length<=i⟩
abbrev LY(lo:Int)(n:Nat):It:=⟨λi _=>i<n,λi H x H'=>H'=H/\x=.int (lo+i),λi _=>n<=i⟩
def AAp{P:Program}{w:World}{K:AK}{tg:Expr}(a it:Addr):Gr P w K tg (ZA K a) [it] it (λi h=>h.IsListIter it a i) where
 mem:=by simp
 obj:=λi h st b hb=>by
  have e:b=it:=by simpa using hb
  subst e;obtain⟨o,e,c,d⟩:=st;exact⟨o,e,λv z=>by rw[d] at z;cases z⟩
 keep:=λi h h' st k=>st.at λo e=>k it (by simp) o e
 item:=by intro X hP hw hK hc i pins s Y H E I hf st hg;subst hP hw hK;obtain⟨xs,x,hq,hx⟩:=hg;obtain⟨its,rv,p,hz⟩:=I.list hq;obtain⟨u,hu,ru⟩:=rv.get hx;obtain⟨f0,f1,f2,f3,f4,f5⟩:=hf it (by simp);refine wpAny_pyNext_list_item st p.isList (x:=u) (by simpa using hu) λh' st' sb=>?_;have I1:AI X pins Y H {s with heap:=h'}:=I.turned (t':=s.toks) (λb o hb e=>(sb.2 b hb).trans e) f0 f1 f3 f4 f5;obtain⟨o,e,c,d⟩:=id st';exact⟨u,rfl,Nh (s:={s with heap:=h'}) e c d (by decide) ⟨x,H,I1,ru,⟨rfl,λys hy=>by rw[I.list_inj hy hq];exact hx⟩,st',λb hb=>(hf b hb).1⟩⟩
 done:=by intro X hP hw hK hc i pins s Y H E I hf st hg;subst hP hw hK;obtain⟨xs,hq,hx⟩:=hg;obtain⟨its,rv,p,hz⟩:=I.list hq;obtain⟨f0,f1,f2,f3,f4,f5⟩:=hf it (by simp);have hl:=rv.length;exact wpAny_pyNext_list_end (I.ok.hd hc) st p.isList (by simp;omega) λh' eb=>⟨rfl,I.turned (t':=s.toks) (λb o hb e=>eb b o hb e) f0 f1 f3 f4 f5⟩
 self:=λ_ _ _ _ _ st h=>wpAny_pyIter_listiter st h
def AAm{P:Program}{w:World}{K:AK}{tg:Expr}(a it:Addr):Gr P w K tg (Yy K a) [it] it (λi h=>h.IsTupleIter it a i) where
 mem:=by simp
 obj:=λi h st b hb=>by
  have e:b=it:=by simpa using hb
  subst e;obtain⟨o,e,c,d⟩:=st;exact⟨o,e,λv z=>by rw[d] at z;cases z⟩
 keep:=λi h h' st k=>st.at λo e=>k it (by simp) o e
 item:=by intro X hP hw hK hc i pins s Y H E I hf st hg;subst hP hw hK;obtain⟨xs,x,hq,hx⟩:=hg;obtain⟨its,rv,p,hz⟩:=I.tuple hq;obtain⟨u,hu,ru⟩:=rv.get hx;obtain⟨f0,f1,f2,f3,f4,f5⟩:=hf it (by simp);refine wpAny_pyNext_tuple_item st (show s.heap.IsTuple a its.toArray from p) (x:=u) (by simpa using hu) λh' st' sb=>?_;have I1:AI X pins Y H {s with heap:=h'}:=I.turned (t':=s.toks) (λb o hb e=>(sb.2 b hb).trans e) f0 f1 f3 f4 f5;obtain⟨o,e,c,d⟩:=id st';exact⟨u,rfl,Nh (s:={s with heap:=h'}) e c d (by decide) ⟨x,H,I1,ru,⟨rfl,λys hy=>by rw[I.tuple_inj hy hq];exact hx⟩,st',λb hb=>(hf b hb).1⟩⟩
 done:=by intro X hP hw hK hc i pins s Y H E I hf st hg;subst hP hw hK;obtain⟨xs,hq,hx⟩:=hg;obtain⟨its,rv,p,hz⟩:=I.tuple hq;obtain⟨f0,f1,f2,f3,f4,f5⟩:=hf it (by simp);have hl:=rv.length;exact wpAny_pyNext_tuple_end (I.ok.hd hc) st (show s.heap.IsTuple a its.toArray from p) (by simp;omega) λh' eb=>⟨rfl,I.turned (t':=s.toks) (λb o hb e=>eb b o hb e) f0 f1 f3 f4 f5⟩
 self:=λ_ _ _ _ _ st h=>wpAny_pyIter_tupleiter st h
def AAn{P:Program}{w:World}{K:AK}{tg:Expr}(it:Addr)(lo:Int)(n:Nat):Gr P w K tg (LY lo n) [it] it (λi h=>IsRangeIter h it (lo+(i:Nat)*1) ((n:Int)-(i:Nat)) 1) where
 mem:=by simp
 obj:=λi h st b hb=>by
  have e:b=it:=by simpa using hb
  subst e
  exact⟨_,st,λv z=>by
   have z':Data.fields _=Data.cell v:=z
   cases z'⟩
 keep:=λi h h' st k=>k it (by simp) _ st
 item:=by intro X hP hw hK hc i pins s Y H E I hf st hg;subst hP hw hK;obtain⟨f0,f1,f2,f3,f4,f5⟩:=hf it (by simp);have W:=Walks.range (prog:=X.prog) (w:=X.w) (I.ok.hd hc) it lo 1 n;refine W.item i s _ _ hg st λv h' tk hv st' kk=>?_;obtain⟨t,rfl⟩:=hv;have I1:AI X pins Y H {s with heap:=h',toks:=tk}:=I.turned (λb o hb e=>kk b o (by simpa using hb) e) f0 f1 f3 f4 f5;refine⟨_,rfl,Nh (s:={s with heap:=h',toks:=tk}) (n:="range_iterator") st' rfl rfl (by decide) ⟨.int (lo+i),H,I1,⟨t,?_⟩,⟨rfl,rfl⟩,st',λb hb=>(hf b hb).1⟩⟩;rw[Int.mul_one]
 done:=by intro X hP hw hK hc i pins s Y H E I hf st hg;subst hP hw hK;obtain⟨f0,f1,f2,f3,f4,f5⟩:=hf it (by simp);exact wpAny_pyNext_range_end (I.ok.hd hc) st (by have:n<=i:=hg;omega) λh' eb=>⟨rfl,I.turned (t':=s.toks) (λb o hb e=>eb b o hb e) f0 f1 f3 f4 f5⟩
 self:=λ_ _ _ _ _ st h=>wpAny_pyIter_rangeiter st h
section
variable {X:Cx}{tg:Expr}
abbrev AFU(K:AK)(tl:TE):TI:=λY H R=>tl Y H λx H1=>∃a,x=.ref a/\(∃xs,BH K H1 a xs)/\R (ZA K a) H1
abbrev AFQ(K:AK)(tl:TE):TI:=λY H R=>tl Y H λx H1=>∃a,x=.ref a/\(∃xs,BY K H1 a xs)/\R (Yy K a) H1
def ADC{l:Expr}{tl:TE}(hl:PE X l tl):PI X tg l (AFU X.K tl):=by
 intro pins s Y H R I h;refine Af (hl pins s Y H _ I h) λv s1 z2_=>?_;obtain⟨x,H1,I1,r1,q1⟩:=z2_;obtain⟨a,e,⟨xs,hq⟩,q⟩:=q1;subst e;cases r1;obtain⟨its,rv,p,hz⟩:=I1.list hq;refine AMs p.isList ?_;refine⟨s1.heap.objs.size,[s1.heap.objs.size],_,_,H1,rfl,I1.kept (t':=s1.toks) λb o e=>Heap.get?_push_of_some _ e,AAp a _,⟨_,Heap.get?_push_size _ rfl,rfl,rfl⟩,λb hb=>?_,q⟩;have e:b=s1.heap.objs.size:=by simpa using hb
 subst e;exact I1.fpOk (Ae _) (I1.hok.fresh (Ae _))
def AC8{l:Expr}{tl:TE}(hl:PE X l tl):PI X tg l (AFQ X.K tl):=by
 intro pins s Y H R I h;refine Af (hl pins s Y H _ I h) λv s1 z2_=>?_;obtain⟨x,H1,I1,r1,q1⟩:=z2_;obtain⟨a,e,⟨xs,hq⟩,q⟩:=q1;subst e;cases r1;obtain⟨its,rv,p,hz⟩:=I1.tuple hq;refine wpAny_pyIter_tuple (show s1.heap.IsTuple a its.toArray from p) ?_;refine⟨s1.heap.objs.size,[s1.heap.objs.size],_,_,H1,rfl,I1.kept (t':=s1.toks) λb o e=>Heap.get?_push_of_some _ e,AAm a _,⟨_,Heap.get?_push_size _ rfl,rfl,rfl⟩,λb hb=>?_,q⟩;have e:b=s1.heap.objs.size:=by simpa using hb
 subst e;exact I1.fpOk (Ae _) (I1.hok.fresh (Ae _))
def VR{pins:List (Addr×Obj)}{Y:St}{H:Hp}{s:Shared}{R:It->Hp->Prop}{E:ANB}{lo hi:Int}{t u v:Tok}{tk:Nat}(I:AI X pins Y H s)(h1:-(2 ^ 62)<=lo)(h2:lo<2 ^ 62)(h3:-(2 ^ 62)<=hi)(h4:hi<2 ^ 62)
  (q:R (LY lo (hi-lo).toNat) H):wpAny (model X.prog X.w) X.A (pyIter (.ref s.heap.objs.size)) (Yu X pins Y tg R) E {s with heap:=s.heap.push {cls:=.type "range",data:=.fields #[.int lo t,.int hi u,.int 1 v]},toks:=tk}:=by
 refine wpAny_pyIter_range (IsRange.new ..) (small_one h1 h2 h3 h4) ?_;have I1:AI X pins Y H {s with heap:=s.heap.push {cls:=.type "range",data:=.fields #[.int lo t,.int hi u,.int 1 v]},toks:=tk}:=I.kept λb o e=>Heap.get?_push_of_some _ e
 refine⟨(s.heap.push {cls:=.type "range",data:=.fields #[.int lo t,.int hi u,.int 1 v]}).objs.size,[(s.heap.push {cls:=.type "range",data:=.fields #[.int lo t,.int hi u,.int 1 v]}).objs.size],_,_,H,rfl,
  I1.kept (t':=tk) λb o e=>Heap.get?_push_of_some _ e,AAn _ lo (hi-lo).toNat,?_,λb hb=>?_,q⟩
 .have e1:lo+((0:Nat):Int)*1=lo:=by simp
  have e2:(((hi-lo).toNat:Nat):Int)-((0:Nat):Int)=Builtin.Range.rangeSize lo hi 1:=by rw[rangeSize_one];split <;> omega
  show IsRangeIter _ _ (lo+((0:Nat):Int)*1) ((((hi-lo).toNat:Nat):Int)-((0:Nat):Int)) 1;rw[e1,e2];exact Heap.get?_push_size _ rfl
 .have e:b=(s.heap.push {cls:=.type "range",data:=.fields #[.int lo t,.int hi u,.int 1 v]}).objs.size:=by simpa using hb
  subst e;exact I1.fpOk (Ae _) (I1.hok.fresh (Ae _))
abbrev AFT(ta:TA):TI:=λY H R=>ta Y H λvs H1=>∃j:Int,vs=[.int j]/\-(2 ^ 62)<=j/\j<2 ^ 62/\R (LY 0 j.toNat) H1
abbrev AFS(ta:TA):TI:=λY H R=>ta Y H λvs H1=>∃i j:Int,vs=[.int i,.int j]/\(-(2 ^ 62)<=i/\i<2 ^ 62/\-(2 ^ 62)<=j/\j<2 ^ 62)/\R (LY i (j-i).toNat) H1
def ADB{a:Expr}{ta:TA}{p pos:Pos}(hg:Gl X "range")(hm:X.mg "range"=none)(ha:PA X [a] ta)(hs:starEach [a] X.env=[(false,eval a X.env)]):PI X tg (.Call (.Name "range" p) [a] [] pos) (AFT ta):=by
 intro pins s Y H R I h;refine Call_ (GH I hg hm boot_range (PyProof.Rows.callWith_type1 (Af (ha pos pins s Y H _ I h) λus s1 z2_=>?_) hs rfl));obtain⟨vs,H1,I1,r1,q1⟩:=z2_;obtain⟨j,e,q1,q2,q⟩:=q1;subst e
 cases r1 with
 |cons r rr =>
  cases rr;obtain⟨t,rfl⟩:=r;exact call_range_1 (VR I1 (by omega) (by omega) q1 q2 (by simpa using q))
def ADA{a b:Expr}{ta:TA}{p pos:Pos}(hg:Gl X "range")(hm:X.mg "range"=none)(ha:PA X [a,b] ta)(hs:starEach [a,b] X.env=[(false,eval a X.env),(false,eval b X.env)])(hs2:starEach [b] X.env=[(false,eval b X.env)]) :
  PI X tg (.Call (.Name "range" p) [a,b] [] pos) (AFS ta):=by
 intro pins s Y H R I h;refine Call_ (GH I hg hm boot_range (PyProof.Rows.callWith_type1 (Af (ha pos pins s Y H _ I h) λus s1 z2_=>?_) (by rw[hs,hs2]) (by rw[hs2];rfl)));obtain⟨vs,H1,I1,r1,q1⟩:=z2_;obtain⟨i,j,e,⟨q1,q2,q3,q4⟩,q⟩:=q1;subst e
 cases r1 with
 |cons r rr =>
  cases rr with
  |cons r' rr =>
   cases rr;obtain⟨t,rfl⟩:=r;obtain⟨t',rfl⟩:=r';exact call_range_2 (VR I1 q1 q2 q3 q4 q)
abbrev ABG(wi:TI)(g:TG)(tb:TS):TS:=λD Y H=>wi Y H λJ H1=>∃W:Nat->Nat->St->Hp->Prop,(∃m,W 0 m Y H1)/\∀i m Y H,W i m Y H ->
 (J.stop i H/\D.nx Y H)\/(J.go i H/\∃N:St->Hp->Prop,(∀Y' H',N Y' H'->∃m',m'<m/\W (i+1) m' Y' H')/\∀x H',J.yld i H x H'->g x Y H' λY2 H2=>tb {D with nx:=N,ct:=N,bk:=D.nx} Y2 H2)
abbrev JB(fp:AM6)(h:Heap):List (Addr×Obj):=fp.filterMap λb=>(h.get? b).map λo=>(b,o)
def JH{fp:AM6}{h:Heap}{b:Addr}{o:Obj}(hb:b∈fp)(e:h.get? b=some o):(b,o)∈JB fp h:=ALz.mpr ⟨b,hb,by rw[e];rfl⟩
def AD8{fp:AM6}{h:Heap}{p:Addr×Obj}(hp:p∈JB fp h):p.1∈fp/\h.get? p.1=some p.2:=by
 obtain⟨b,hb,e⟩:=ALz.mp hp
 cases q:h.get? b with
 |none=>rw[q] at e;cases e
 |some o =>
  rw[q] at e;have e':(b,o)=p:=Option.some.inj e;subst e';exact⟨hb,q⟩
def AI.pinned{pins:List (Addr×Obj)}{Y:St}{H:Hp}{s:Shared}{fp:AM6}(I:AI X pins Y H s)(hf:∀b∈fp,EE X pins H b)(ho:∀b∈fp,∃o,s.heap.get? b=some o/\∀v,o.data≠.cell v):AI X (pins++JB fp s.heap) Y H s :=
 I.pins_of λp hp=>(Bx.mp hp).elim (λz=>I.pin p (FX _ z)) λz=>by
  obtain⟨hb,e⟩:=AD8 z;obtain⟨f0,f1,f2,_⟩:=hf p.1 hb;obtain⟨o,e',d⟩:=ho p.1 hb;rw[e] at e';cases e';exact⟨e,f0,f1,f2,d⟩
def AI.unpinned{pins pl:List (Addr×Obj)}{Y:St}{H:Hp}{s:Shared}(I:AI X (pins++pl) Y H s):AI X pins Y H s:=I.pins_of λp hp=>I.pin p (FX _ (AMa _ hp))
def ACk{iter:Expr}{body:AM8}{wi:TI}{g:TG}{tb:TS}{pos:Pos}(hp:PassesOwn (model X.prog X.w) X.A X.env X.xe)(hc:X.calm=true)(hi:PI X tg iter wi)(hg:PG X tg g)(hb:DW X body tb)
  (hs:∀x,foldedSetIterable iter X.env x=pure x:=by intro _;rfl):PS X (.For tg iter body [] pos) (ABG wi g tb):=by
 intro pins s Y H D I h;refine wpAny_For (Af (hi pins s Y H _ I h) λv s1 h1=>Af h1 λitv s2 h2=>?_) hs;obtain⟨it,fp,tn,J,H2,e,I2,T,st2,f2,W,⟨m0,w0⟩,turn⟩:=h2;subst e
 -- what stays true of the iterator's objects through the loop
 have stat:∀{H':Hp},(∀b∈fp,H' b=none)->∀b∈fp,EE X pins H' b:=λhn b hb=>⟨hn b hb,(f2 b hb).2⟩;refine codeAny_forLoop_any (λn s'=>∃i Y' H',AI X pins Y' H' s'/\tn i s'.heap/\(∀b∈fp,H' b=none)/\W i n Y' H') ?_ m0 ⟨0,Y,H2,I2,st2,λb hb=>(f2 b hb).1,w0⟩;rintro n s3 ⟨i,Y3,H3,I3,st3,fr3,w3⟩;rcases turn i n Y3 H3 w3 with⟨stop,qn⟩|⟨go,N,hN,step⟩
 .refine AMr hp (Af (T.done X rfl rfl rfl hc i pins s3 Y3 H3 X.xe I3 (stat fr3) st3 stop) λr s4 z2_=>?_);obtain⟨hr,I4⟩:=z2_;subst hr;exact wpAny_execs_nil ⟨Y3,H3,I4,qn⟩
 .refine AMr hp (Af (T.item X rfl rfl rfl hc i pins s3 Y3 H3 X.xe I3 (stat fr3) st3 go) λr s4 z2_=>?_);obtain⟨u,hr,h4⟩:=z2_;subst hr;refine AMr hp (Af h4 λ_ s5 z2_=>?_);obtain⟨x,H5,I5,r5,y5,st5,fr5⟩:=z2_;have I5':=I5.pinned (stat fr5) (T.obj _ _ st5);refine AMr hp (Af (hg _ s5 Y3 H5 x u _ I5' r5 (step x H5 y5)) λ_ s6 z2_=>?_);obtain⟨Y6,H6,I6,q6⟩:=z2_;refine AMr hp (Af (hb _ s6 Y6 H6 _ I6 q6) λf s7 q7=>?_)
  have again:∀{Y7:St} {H7:Hp},AI X (pins++JB fp s5.heap) Y7 H7 s7->N Y7 H7->∃m,m<n/\∃i Y' H',AI X pins Y' H' s7/\tn i s7.heap/\(∀b∈fp,H' b=none)/\W i m Y' H':=λ{Y7 H7} I7 n7=>by
   obtain⟨m',hm,w7⟩:=hN Y7 H7 n7;refine⟨m',hm,i+1,Y7,H7,I7.unpinned,T.keep _ _ _ st5 λb hb o e=>(I7.pin (b,o) (FX _ (FX _ (JH hb e)))).1,λb hb=>?_,w7⟩;obtain⟨o,e,d⟩:=T.obj _ _ st5 b hb;exact(I7.pin (b,o) (FX _ (FX _ (JH hb e)))).2.1
  cases f with
  |next=>obtain⟨Y7,H7,I7,n7⟩:=q7;exact again I7 n7
  |cont=>obtain⟨Y7,H7,I7,n7⟩:=q7;exact again I7 n7
  |brk=>obtain⟨Y7,H7,I7,q7⟩:=q7;exact⟨Y7,H7,I7.unpinned,q7⟩
  |ret v=>obtain⟨x7,Y7,H7,I7,r7,q7⟩:=q7;exact⟨x7,Y7,H7,I7.unpinned,r7,q7⟩
end
noncomputable abbrev R2:=V->V->Hp->VK->Prop
abbrev Ap(X:Cx)(f:Value->Value->Sem Value)(r:R2):Prop :=
 ∀(pins:List (Addr×Obj)) (s:Shared) (Y:St) (H:Hp) (x y:V) (v u:Value) (Q:VK),AI X pins Y H s->AY x v->AY y u->r x y H Q ->
  wpAny (model X.prog X.w) X.A (f v u) (EP X pins Y Q) X.xe s
abbrev Si(X:Cx)(f:Value->Sem Value)(r:V->Hp->VK->Prop):Prop :=
 ∀(pins:List (Addr×Obj)) (s:Shared) (Y:St) (H:Hp) (x:V) (v:Value) (Q:VK),AI X pins Y H s->AY x v->r x H Q ->
  wpAny (model X.prog X.w) X.A (f v) (EP X pins Y Q) X.xe s
abbrev CV(X:Cx)(f:Value)(r:List V->Hp->VK->Prop):Prop :=
 ∀(pins:List (Addr×Obj)) (s:Shared) (Y:St) (H:Hp) (xs:List V) (us:AM5) (Q:VK),AI X pins Y H s->AX xs us->r xs H Q ->
  wpAny (model X.prog X.w) X.A (call f us) (EP X pins Y Q) X.xe s
abbrev Kd(r:R2)(ta tb:TE):TE:=λY H Q=>ta Y H λx H1=>tb Y H1 λy H2=>r x y H2 Q
abbrev tUn(r:V->Hp->VK->Prop)(ta:TE):TE:=λY H Q=>ta Y H λx H1=>r x H1 Q
abbrev rI(C:Int->Int->Prop)(g:Int->Int->V):R2:=λx y H Q=>∃i j,x=.int i/\y=.int j/\C i j/\Q (g i j) H
abbrev HW(g:Int->Int->V):R2:=λx y H Q=>∃i j,x=.int i/\y=.int j/\Q (g i j) H
abbrev rU(g:Int->V):V->Hp->VK->Prop:=λx H Q=>∃i,x=.int i/\Q (g i) H
section
variable {X:Cx}{a b c:Expr}{ta tb tc:TE}{pos:Pos}
def SY(ha:PE X a ta)(hb:PE X b tb){pins:List (Addr×Obj)}{s:Shared}{Y:St}{H:Hp}{R:V->V->Hp->Prop}(I:AI X pins Y H s)
  (h:ta Y H λx H1=>tb Y H1 λy H2=>R x y H2) {Q:ANB} {f:Value->Value->Sem Value}
  (hf:∀v u s2 x y H2,AI X pins Y H2 s2->AY x v->AY y u->R x y H2->wpAny (model X.prog X.w) X.A (f v u) Q X.xe s2) :
  wpAny (model X.prog X.w) X.A (eval a X.env) (λv s₁=>wpAny (model X.prog X.w) X.A (eval b X.env) (λu s₂=>wpAny (model X.prog X.w) X.A (f v u) Q X.xe s₂) X.xe s₁) X.xe s:=by
 refine Af (ha pins s Y H _ I h) λv s1 z2_=>?_;obtain⟨x,H1,I1,r1,q1⟩:=z2_;refine Af (hb pins s1 Y H1 _ I1 q1) λu s2 z2_=>?_;obtain⟨y,H2,I2,r2,q2⟩:=z2_;exact hf v u s2 x y H2 I2 r1 r2 q2
def ADO{op:Operator}{r:R2}(ho:Ap X (binaryOp op) r)(ha:PE X a ta)(hb:PE X b tb):PE X (.BinOp a op b pos) (Kd r ta tb):=by intro pins s Y H Q I h;exact wpAny_BinOp (SY ha hb I h λv u s2 x y H2 I2 rx ry q=>ho pins s2 Y H2 x y v u Q I2 rx ry q)
def ADJ{op:UnaryOp}{r:V->Hp->VK->Prop}(ho:Si X (unaryOp op) r)(ha:PE X a ta):PE X (.UnaryOp op a pos) (tUn r ta):=by intro pins s Y H Q I h;exact UnaryOp_ (Af (ha pins s Y H _ I h) λv s1 z2_=>(by obtain⟨x,H1,I1,r1,q1⟩:=z2_;exact ho pins s1 Y H1 x v Q I1 r1 q1))
def NR{f:Value->Value->Sem Value}{C:Int->Int->Prop}{g:Int->Int->Int}
  (rule:∀(i j:Int) (t u:Tok) (s:Shared) (Q:ANB) (E:ANB),C i j->Q (.int (g i j) s.toks) {s with toks:=s.toks+1}->wpAny (model X.prog X.w) X.A (f (.int i t) (.int j u)) Q E s) :
  Ap X f (rI C λi j=>.int (g i j)):=by
 intro pins s Y H x y v u Q I rx ry h;obtain⟨i,j,rfl,rfl,hc,q⟩:=h;obtain⟨t,rfl⟩:=rx;obtain⟨t',rfl⟩:=ry;exact rule i j t t' s _ _ hc ⟨.int (g i j),H,I.tok _,⟨_,rfl⟩,q⟩
def Vs{f:Value->Value->Sem Value}{g:Int->Int->Int}
  (rule:∀(i j:Int) (t u:Tok) (s:Shared) (Q:ANB) (E:ANB),Q (.int (g i j) s.toks) {s with toks:=s.toks+1}->wpAny (model X.prog X.w) X.A (f (.int i t) (.int j u)) Q E s) :
  Ap X f (HW λi j=>.int (g i j)):=by
 intro pins s Y H x y v u Q I rx ry h;obtain⟨i,j,rfl,rfl,q⟩:=h;obtain⟨t,rfl⟩:=rx;obtain⟨t',rfl⟩:=ry;exact rule i j t t' s _ _ ⟨.int (g i j),H,I.tok _,⟨_,rfl⟩,q⟩
def RQ{f:Value->Value->Sem Value}{g:Int->Int->Bool}
  (rule:∀(i j:Int) (t u:Tok) (s:Shared) (Q:ANB) (E:ANB),Q (.bool (g i j)) s->wpAny (model X.prog X.w) X.A (f (.int i t) (.int j u)) Q E s) :
  Ap X f (HW λi j=>.bl (g i j)):=by
 intro pins s Y H x y v u Q I rx ry h;obtain⟨i,j,rfl,rfl,q⟩:=h;obtain⟨t,rfl⟩:=rx;obtain⟨t',rfl⟩:=ry;exact rule i j t t' s _ _ ⟨.bl (g i j),H,I,rfl,q⟩
abbrev AHZ(i j:Int):Prop:=0<=j/\j<=1000000/\i.natAbs<2 ^ 64
abbrev ZE(i j:Int):Prop:=(-(2 ^ 64)<i/\i<2 ^ 64)\/(-(2 ^ 64)<j/\j<2 ^ 64)
def ZE.ok{i j:Int}(h:ZE i j):IntMulOk i j:=by
 rcases h with⟨h1,h2⟩|⟨h1,h2⟩
 .exact .of_left (intBits_le_64 h1 h2)
 .exact .of_right (intBits_le_64 h1 h2)
def AD6:Ap X (binaryOp .Add) (HW λi j=>.int (i+j)):=Vs λ_ _ _ _ _ _ _ q=>add_int q
def ADq:Ap X (binaryOp .Sub) (HW λi j=>.int (i-j)):=Vs λ_ _ _ _ _ _ _ q=>sub_int q
def ADw:Ap X (binaryOp .Mod) (rI (λ_ j=>0<j) λi j=>.int (i % j)):=NR λi j _ _ _ _ _ hc q=>by
 have h1:(0:Int)<j:=hc;exact mod_int' (by omega) (by rw[Int.fmod_eq_emod_of_nonneg i (by omega)];exact q)
def ADr:Ap X (binaryOp .Pow) (rI AHZ λi j=>.int (i ^ j.toNat)):=NR λ_ _ _ _ _ _ _ hc q=>pow_int_small hc.1 hc.2.1 hc.2.2 q
def unI{f:Value->Sem Value}{g:Int->Int}
  (rule:∀(i:Int) (t:Tok) (s:Shared) (Q:ANB) (E:ANB),Q (.int (g i) s.toks) {s with toks:=s.toks+1}->wpAny (model X.prog X.w) X.A (f (.int i t)) Q E s) :
  Si X f (rU λi=>.int (g i)):=by
 intro pins s Y H x v Q I rx h;obtain⟨i,rfl,q⟩:=h;obtain⟨t,rfl⟩:=rx;exact rule i t s _ _ ⟨.int (g i),H,I.tok _,⟨_,rfl⟩,q⟩
def AAh:Si X (unaryOp .USub) (rU λi=>.int (-i)):=unI λ_ _ _ _ _ q=>neg_int q
end
abbrev Qy:V->V->Bool
 |.non,.non=>true|.non,.int _=>true|.int _,.non=>true|.non,.bl _=>true|.bl _,.non=>true|.non,.str _=>true|.str _,.non=>true
 |.int _,.int _=>true|.bl _,.bl _=>true|.str _,.str _=>true|.byt _,.byt _=>true
 |.int _,.str _=>true|.str _,.int _=>true|.bl _,.str _=>true|.str _,.bl _=>true
 |_,_=>false
abbrev rEq:R2:=λx y H Q=>Qy x y=true/\Q (.bl (decide (x=y))) H
abbrev rNe:R2:=λx y H Q=>Qy x y=true/\Q (.bl (!decide (x=y))) H
def Xw{i j:Int}:decide (V.int i=V.int j)=(i == j):=by rw[AL0];simp
def Xy{i j:Bool}:decide (V.bl i=V.bl j)=(i == j):=by rw[AL0];simp
def Xv{i j:Str}:decide (V.str i=V.str j)=(i == j):=by rw[AL0];simp
def Xx{i j:Array UInt8}:decide (V.byt i=V.byt j)=(i.toList == j.toList):=by rw[AL0];cases i;cases j;simp
section
variable {X:Cx}{a b c:Expr}{ta tb tc:TE}{pos:Pos}
def BI{pins:List (Addr×Obj)}{Y:St}{H:Hp}{s:Shared}{Q:VK}{k k':Bool}(I:AI X pins Y H s)(q:Q (.bl k) H)(e:k=k'):EP X pins Y Q (.bool k') s:=by subst e;exact⟨.bl k,H,I,rfl,q⟩
def Vr:Ap X (compareOp .Eq) rEq:=by
 intro pins s Y H x y v u Q I rx ry h;obtain⟨hs,q⟩:=h
 cases x with
 |non =>
  cases rx
  cases y with
  |non=>cases ry;exact PySem.EqNone.eq_none_none (BI I q (by simp))
  |bl j=>cases ry;exact PySem.EqNone.eq_none_bool (BI I q (by simp))
  |int j=>obtain⟨t',rfl⟩:=ry;exact PySem.EqNone.eq_none_int (BI I q (by simp))
  |str j=>obtain⟨t',rfl⟩:=ry;exact PySem.EqNone.eq_none_str (BI I q (by simp))
  |_=>exact absurd (show false=true from hs) Bz
 |bl i =>
  cases rx
  cases y with
  |non=>cases ry;exact PySem.EqNone.eq_bool_none (BI I q (by simp))
  |bl j=>cases ry;exact eq_bool (BI I q Xy)
  |str j=>obtain⟨t',rfl⟩:=ry;exact PySem.EqMixed.eq_bool_str (BI I q (by simp))
  |_=>exact absurd (show false=true from hs) Bz
 |int i =>
  obtain⟨t,rfl⟩:=rx
  cases y with
  |non=>cases ry;exact PySem.EqNone.eq_int_none (BI I q (by simp))
  |int j=>obtain⟨t',rfl⟩:=ry;exact eq_int (BI I q Xw)
  |str j=>obtain⟨t',rfl⟩:=ry;exact PySem.EqMixed.eq_int_str (BI I q (by simp))
  |_=>exact absurd (show false=true from hs) Bz
 |str i =>
  obtain⟨t,rfl⟩:=rx
  cases y with
  |non=>cases ry;exact PySem.EqNone.eq_str_none (BI I q (by simp))
  |bl j=>cases ry;exact PySem.EqMixed.eq_str_bool (BI I q (by simp))
  |int j=>obtain⟨t',rfl⟩:=ry;exact PySem.EqMixed.eq_str_int (BI I q (by simp))
  |str j=>obtain⟨t',rfl⟩:=ry;exact eq_str (BI I q Xv)
  |_=>exact absurd (show false=true from hs) Bz
 |byt i =>
  obtain⟨t,rfl⟩:=rx
  cases y with
  |byt j=>obtain⟨t',rfl⟩:=ry;exact PySem.W.eq_bytes (BI I q Xx)
  |_=>exact absurd (show false=true from hs) Bz
 |_=>cases y <;> exact absurd (show false=true from hs) Bz
def Vq:Ap X (compareOp .NotEq) rNe:=by
 intro pins s Y H x y v u Q I rx ry h;obtain⟨hs,q⟩:=h
 cases x with
 |non =>
  cases rx
  cases y with
  |non=>cases ry;exact PySem.EqNone.ne_none_none (BI I q (by simp))
  |bl j=>cases ry;exact PySem.EqNone.ne_none_bool (BI I q (by simp))
  |int j=>obtain⟨t',rfl⟩:=ry;exact PySem.EqNone.ne_none_int (BI I q (by simp))
  |str j=>obtain⟨t',rfl⟩:=ry;exact PySem.EqNone.ne_none_str (BI I q (by simp))
  |_=>exact absurd (show false=true from hs) Bz
 |bl i =>
  cases rx
  cases y with
  |non=>cases ry;exact PySem.EqNone.ne_bool_none (BI I q (by simp))
  |bl j=>cases ry;exact ne_bool (BI I q (congrArg not Xy))
  |str j=>obtain⟨t',rfl⟩:=ry;exact PySem.EqMixed.ne_bool_str (BI I q (by simp))
  |_=>exact absurd (show false=true from hs) Bz
 |int i =>
  obtain⟨t,rfl⟩:=rx
  cases y with
  |non=>cases ry;exact PySem.EqNone.ne_int_none (BI I q (by simp))
  |int j=>obtain⟨t',rfl⟩:=ry;exact ne_int (BI I q (congrArg not Xw))
  |str j=>obtain⟨t',rfl⟩:=ry;exact PySem.EqMixed.ne_int_str (BI I q (by simp))
  |_=>exact absurd (show false=true from hs) Bz
 |str i =>
  obtain⟨t,rfl⟩:=rx
  cases y with
  |non=>cases ry;exact PySem.EqNone.ne_str_none (BI I q (by simp))
  |bl j=>cases ry;exact PySem.EqMixed.ne_str_bool (BI I q (by simp))
  |int j=>obtain⟨t',rfl⟩:=ry;exact PySem.EqMixed.ne_str_int (BI I q (by simp))
  |str j=>obtain⟨t',rfl⟩:=ry;exact ne_str (BI I q (congrArg not Xv))
  |_=>exact absurd (show false=true from hs) Bz
 |byt i =>
  obtain⟨t,rfl⟩:=rx
  cases y with
  |byt j=>obtain⟨t',rfl⟩:=ry;exact PySem.W.ne_bytes (BI I q (congrArg not Xx))
  |_=>exact absurd (show false=true from hs) Bz
 |_=>cases y <;> exact absurd (show false=true from hs) Bz
def op_lt:Ap X (compareOp .Lt) (HW λi j=>.bl (decide (i<j))):=RQ λ_ _ _ _ _ _ _ q=>lt_int q
def AD0:Ap X (compareOp .Gt) (HW λi j=>.bl (decide (j<i))):=RQ λ_ _ _ _ _ _ _ q=>gt_int q
def AD1:Ap X (compareOp .GtE) (HW λi j=>.bl (decide (j<=i))):=RQ λ_ _ _ _ _ _ _ q=>ge_int q
def ADy:Ap X (compareOp .In) (λx y H Q=>∃i j,x=.str i/\y=.str j/\Q (.bl (!(Builtin.Str.occurrences j i 0 j.length 1).isEmpty)) H):=by intro pins s Y H x y v u Q I rx ry h;obtain⟨i,j,rfl,rfl,q⟩:=h;obtain⟨t,rfl⟩:=rx;obtain⟨t',rfl⟩:=ry;exact in_str (BI I q rfl)
def op_isN:Ap X (compareOp .Is) (λx y H Q=>y=.non/\Q (.bl (decide (x=.non))) H):=by
 intro pins s Y H x y v u Q I rx ry h;obtain⟨rfl,q⟩:=h;cases ry;refine is_none_gen (BI I q ?_)
 cases x <;> first
  |(cases rx;rfl)
  |(obtain⟨t,rfl⟩:=rx;rfl)
def ADs:Ap X (compareOp .IsNot) (λx y H Q=>y=.non/\Q (.bl (!decide (x=.non))) H):=by
 intro pins s Y H x y v u Q I rx ry h;obtain⟨rfl,q⟩:=h;cases ry;refine isnot_none_gen (BI I q ?_)
 cases x <;> first
  |(cases rx;rfl)
  |(obtain⟨t,rfl⟩:=rx;rfl)
def op_notin_str:Ap X (compareOp .NotIn) (λx y H Q=>∃i j,x=.str i/\y=.str j/\Q (.bl (!(!(Builtin.Str.occurrences j i 0 j.length 1).isEmpty))) H):=by intro pins s Y H x y v u Q I rx ry h;obtain⟨i,j,rfl,rfl,q⟩:=h;obtain⟨t,rfl⟩:=rx;obtain⟨t',rfl⟩:=ry;exact notIn_str (BI I q rfl)
def Ap.or{f:Value->Value->Sem Value}{r r':R2}(h:Ap X f r)(h':Ap X f r'):Ap X f (λx y H Q=>r x y H Q\/r' x y H Q):=by
 intro pins s Y H x y v u Q I rx ry q;rcases q with q|q
 .exact h pins s Y H x y v u Q I rx ry q
 .exact h' pins s Y H x y v u Q I rx ry q
def ADZ{op:CmpOp}{r:R2}(ho:Ap X (compareOp op) r)(ha:PE X a ta)(hb:PE X b tb)(hm:behindInMarks op b=false):PE X (.Compare a [op] [b] pos) (Kd r ta tb):=by intro pins s Y H Q I h;exact wpAny_Compare1 (SY ha hb I h λv u s2 x y H2 I2 rx ry q=>ho pins s2 Y H2 x y v u Q I2 rx ry q) hm
abbrev AA1(t:TE):TT:=λY H Q=>t Y H λx H'=>∃k,x=.bl k/\Q k H'
def ACb{op:CmpOp}{r:R2}(ho:Ap X (compareOp op) r)(ha:PE X a ta)(hb:PE X b tb)(hm:behindInMarks op b=false):PT X (.Compare a [op] [b] pos) (AA1 (Kd r ta tb)):=by
 intro pins s Y H Q I h
 refine wpAny_isTrue_Compare1 (Af (ha pins s Y H _ I h) λv s1 ⟨x,H1,I1,r1,q1⟩=>Af (hb pins s1 Y H1 _ I1 q1) λu s2 ⟨y,H2,I2,r2,q2⟩ =>
  Af (ho pins s2 Y H2 x y v u _ I2 r1 r2 q2) λc s3 ⟨z,H3,I3,r3,k,e,q3⟩=>?_) hm
 subst e;cases r3;exact AMq ⟨H3,I3,q3⟩
def JJ:(sizeLine:Nat)<2 ^ 63:=by rw[sizeLine_eq];decide
def AD5:Ap X (binaryOp .Add) (λx y H Q=>∃i j,x=.str i/\y=.str j/\i.length+j.length<=sizeLine/\Q (.str (i++j)) H):=by intro pins s Y H x y v u Q I rx ry h;obtain⟨i,j,rfl,rfl,hz,q⟩:=h;obtain⟨t,rfl⟩:=rx;obtain⟨t',rfl⟩:=ry;exact add_str (λt' tk=>⟨.str (i++j),H,I.tok _,⟨_,rfl⟩,q⟩) hz
def Dy{x:V}{us:AM5}(r:AX [x] us):∃u,us=[u]/\AY x u:=by
 cases r with
 |cons r1 r2=>cases r2;exact⟨_,rfl,r1⟩
def UT{x y:V}{us:AM5}(r:AX [x,y] us):∃u w',us=[u,w']/\AY x u/\AY y w':=by
 cases r with
 |cons r1 r2 =>
  cases r2 with
  |cons r3 r4=>cases r4;exact⟨_,_,rfl,r1,r3⟩
def AGn:CV X (.builtin "abs") (λxs H Q=>∃i,xs=[.int i]/\Q (.int (if i<0 then -i else i)) H):=by
 intro pins s Y H xs us Q I r h;obtain⟨i,rfl,q⟩:=h;obtain⟨u,rfl,t,rfl⟩:=Dy r
 exact call_abs_int λu tk=>⟨.int (if i<0 then -i else i),H,I.tok _,⟨_,rfl⟩,q⟩
def AGi(hc:X.calm=true):CV X (.builtin "min") (λxs H Q=>∃i j,xs=[.int i,.int j]/\Q (.int (if j<i then j else i)) H):=by
 intro pins s Y H xs us Q I r h;obtain⟨i,j,rfl,q⟩:=h;obtain⟨u,w',rfl,⟨t,rfl⟩,⟨t',rfl⟩⟩:=UT r;refine min_two_ints (I.ok.hd hc) λh' tk k=>⟨_,H,I.kept k,?_,q⟩
 by_cases hj:j<i
 .rw[if_pos hj,if_pos hj];exact⟨_,rfl⟩
 .rw[if_neg hj,if_neg hj];exact⟨_,rfl⟩
def AGl:CV X (.type "int") (λxs H Q=>(∃i,xs=[.int i]/\Q (.int i) H)\/∃k,xs=[.bl k]/\Q (.int (if k then 1 else 0)) H):=by
 intro pins s Y H xs us Q I r h;rcases h with⟨i,rfl,q⟩|⟨k,rfl,q⟩
 .obtain⟨u,rfl,t,rfl⟩:=Dy r;exact call_int_int ⟨.int i,H,I,⟨_,rfl⟩,q⟩
 .obtain⟨u,rfl,r1⟩:=Dy r;cases r1
  exact call_int_bool ⟨.int (if k then 1 else 0),H,I.tok _,⟨_,rfl⟩,q⟩
end
structure Ji (h:Heap) (x dx C:Addr) (mA:AM3):Prop where
 obj:h.get? x=some (ALh C dx)
 ns:h.Ns1 dx mA
 ne:dx≠x
def AEt{h:Heap}{dx:Addr}{mA:AM3}(n:h.Ns1 dx mA):∃od,h.get? dx=some od/\∀name,PySem.W.lookIn name od=some (mA name):=by
 obtain⟨o,es,ep,ho,hd,hk,_,hm⟩:=n;refine⟨o,ho,λname=>?_⟩;have e:=hm name;unfold nsFind findBy at e;rw[<-Array.find?_toList] at e;unfold PySem.W.lookIn;rw[hd];dsimp only;split
 .rename_i y q;rw[q] at e;exact congrArg some e
 .rename_i q;rw[q] at e
  have a:es.toList.any (·.refKey)=false:=by rw[List.any_eq_false];intro y hy;obtain⟨z,t,hkey⟩:=hk y (Array.mem_toList_iff.mp hy);simp[DictEntry.refKey,hkey]
  have a':¬es.toList.any (·.refKey)=true:=by rw[a];exact Bz
  rw[if_neg a'];exact congrArg some e
def Ji.look{h:Heap}{x dx C:Addr}{mA:AM3}(I:Ji h x dx C mA):∃od,PySem.W.InstAt h x (ALh C dx) C (some od)/\∀name,PySem.W.lookIn name od=some (mA name) :=
 let ⟨od,ho,hl⟩:=AEt I.ns
 ⟨od,⟨I.obj,rfl,rfl,ho⟩,hl⟩
section
variable {prog:Program}{w:World}{A:Around}{E:ANB}{s:Shared}{K:AK}{x dx C f:Addr}{mA:AM3}{name:Str}{v:Value}
def AFa{expr:Bool}{Q:ANB}(X:K.In s.heap)(I:Ji s.heap x dx C mA)(hg:AL7 K C name=true)(hh:AL8 K C=true)
  (ha:DP K (.ref C) name=some none) (hv:mA name=some v) (hv':PySem.W.handedIn v=true) (h:Q v {s with toks:=s.toks+1}) :
  wpAny (model prog w) A (getAttr (.ref x) name expr) Q E s:=by
 obtain⟨od,J,hl⟩:=I.look;exact PySem.W.get_value X J (PySem.W.plainGet_of hg).1 (PySem.W.findObj_own hh ha rfl (by rw[hl,hv])) hv' h
def ABn{ns:AM4}{Q:Unit->Shared->Prop}(X:K.In s.heap)(I:Ji s.heap x dx C mA)
  (hs:DP K (.ref C) "__setattr__"=some (some (.builtin "object.__setattr__"))) (hp:AML K C=true) (ht:PySem.W.takerIn K C name=some none) (hh:AL8 K C=true)
  (hw:PySem.Within mA ns) (hsz:ns.length<=sizeLine)
  (h:∀h',Ji h' x dx C (λy=>if y=name then some v else mA y)->Heap.SameBut dx s.heap h'->Q () {s with heap:=h',toks:=s.toks+2}) :
  wpAny (model prog w) A (setAttr (.ref x) name v) Q E s:=by
 obtain⟨od,J,hl⟩:=I.look;refine PySem.W.set_plain X J hs (PySem.W.osa_open (s:={s with toks:=s.toks+1}) (r:=none) X J hp ht λb=>?_);obtain⟨cd,hc,hd'⟩:=PySem.W.any_some hh;have hx:s.heap.get? x=some ⟨.ref C,some dx,.plain,#[]⟩:=I.obj;refine AG (AM (AG (AG (wpAny_loadPart hx (AG (PySem.W.Looks.here (s:={s with toks:=s.toks+1}) (PySem.W.looks_clsIn X hc) ?_))))));rw[hd'];refine AM (a:=some dx) (AG (AM (AG ?_)));refine wpAny_nsSet1 (s:={s with toks:=s.toks+1}) I.ns λh' hn2 hs2=>?_;obtain⟨oD,esD,epD,hoD,hdD,hcD⟩:=hn2.count (PySem.Within.cons name v hw);refine AG (wpAny_lookBehind hoD (by rw[hdD];exact pastItsLine_dict (CD hcD (by rw[DQ];omega))) ?_);exact AM (h _ ⟨(hs2.2 _ (Ne.symm I.ne)).trans I.obj,hn2,I.ne⟩ hs2)
def AEa{R:Result->Shared->Prop}{vs:AM5}{kw:List (Str×Value)}(X:K.In s.heap)(hm:AMM K C=true)
  (hi:DP K (.ref C) "__init__"=some (some (.ref f))) (hf:PySem.W.typeIn K (.ref f)=some (.type "function"))
  (h:codeAny (model prog w) (A.under (.builtin "type.__call__" ⟨.ref C::vs,kw⟩)) (.call (.ref f) ⟨.ref (s.heap.objs.size+1)::vs,kw⟩) (PySem.W.InitBack (s.heap.objs.size+1) R)
   {s with heap:=(s.heap.push ALX).push (ALh C s.heap.objs.size)}) :
  codeAny (model prog w) A (.call (.ref C) ⟨vs,kw⟩) R s:=by
 obtain⟨hh,g,d,t,os⟩:=s;exact PySem.W.make_core (PySem.W.makes_of X hm) (PySem.W.looks_findIn X hi) (λself=>PySem.W.bind_fn X self hf) (.inl rfl) h
end
abbrev CH(f:Str)(v:V):List (Str×V)->List (Str×V)
 |[]=>[(f,v)]
 |(g,x)::r=>if g=f then (g,v)::r else (g,x)::CH f v r
def WU(f g:Str)(v:V):∀fs:List (Str×V),(CH f v fs).lookup g=if g=f then some v else fs.lookup g
 |[]=>by
  show FY g [(f,v)]=_
  by_cases h:g=f
  .have hb:(g == f)=true:=beq_iff_eq.mpr h;simp only[FY,hb,if_pos h]
  .have hb:(g == f)=false:=beq_eq_false_iff_ne.mpr h;simp only[FY,hb,if_neg h]
 |(k,x)::r=>by
  have ih:=WU f g v r
  rw[show CH f v ((k,x)::r)=(if k=f then (k,v)::r else (k,x)::CH f v r) from rfl]
  by_cases hk:k=f
  .rw[if_pos hk]
   by_cases h:g=k
   .have hb:(g == k)=true:=beq_iff_eq.mpr h;simp only[FY,hb,if_pos (h.trans hk)]
   .have hb:(g == k)=false:=beq_eq_false_iff_ne.mpr h;simp only[FY,hb,if_neg (λe:g=f=>h (e.trans hk.symm))]
  .rw[if_neg hk]
   by_cases h:g=k
   .have hb:(g == k)=true:=beq_iff_eq.mpr h;simp only[FY,hb,if_neg (λe:g=f=>hk (h.symm.trans e))]
   .have hb:(g == k)=false:=beq_eq_false_iff_ne.mpr h;simp only[FY,hb];exact ih
def Ri(f:Str)(v:V):∀fs:List (Str×V),f∈(CH f v fs).map (·.1)/\∀g,g∈fs.map (·.1)->g∈(CH f v fs).map (·.1)
 |[]=>⟨by simp[CH],λg h=>by simp at h⟩
 |(k,x)::r=>by
  obtain⟨i1,i2⟩:=Ri f v r
  rw[show CH f v ((k,x)::r)=(if k=f then (k,v)::r else (k,x)::CH f v r) from rfl]
  by_cases hk:k=f
  .rw[if_pos hk];subst hk;exact⟨by simp,λg h=>by simpa using h⟩
  .rw[if_neg hk];refine⟨?_,λg h=>?_⟩
   .rw[Ak];exact Ax _ i1
   .rw[Ak] at h ⊢;rcases Aa.mp h with e|e
    .exact Aa.mpr (.inl e)
    .exact Ax _ (i2 g e)
def WZ(f:Str)(v:V):∀fs:List (Str×V),(CH f v fs).length<=fs.length+1
 |[]=>by simp[CH]
 |(k,x)::r=>by
  have ih:=WZ f v r
  rw[show CH f v ((k,x)::r)=(if k=f then (k,v)::r else (k,x)::CH f v r) from rfl]
  by_cases hk:k=f
  .rw[if_pos hk,DQ,DQ];omega
  .rw[if_neg hk,DQ,DQ];omega
def FP.some_of{v:V}{o:Option Value}(r:FP (some v) o):∃u,o=some u/\AY v u:=by
 cases o with
 |none=>exact(show False from r).elim
 |some u=>exact⟨u,rfl,r⟩
def AFX{v:V}{u:Value}(r:AY v u):PySem.W.handedIn u=true:=by
 cases v with
 |non=>cases (show u=Value.none from r);rfl
 |bl b=>cases (show u=Value.bool b from r);rfl
 |int i=>obtain⟨t,e⟩:=(show ∃t,u=Value.int i t from r);cases e;rfl
 |str x=>obtain⟨t,e⟩:=(show ∃t,u=Value.str x t from r);cases e;rfl
 |byt b=>obtain⟨t,e⟩:=(show ∃t,u=Value.bytes b t from r);cases e;rfl
 |flt b=>obtain⟨t,e⟩:=(show ∃t,u=Value.float b t from r);cases e;rfl
 |ref a=>cases (show u=Value.ref a from r);rfl
 |ty n=>cases (show u=Value.type n from r);rfl
section
variable {P:Program}{w:World}{H H':Hp}{h h':Heap}{a C dx:Addr}{fs fs':List (Str×V)}
def Rn(hok:Ca P w H h)(e:H a=some (.ins C dx fs)):∃mA,Ji h a dx C mA/\(∀f,FP (fs.lookup f) (mA f))/\PySem.Within mA (fs.map (·.1))/\fs.length<=1000/\H dx=some (.own a):=by obtain⟨d,z,ne,ob,mA,n,r,q⟩:=(show Bq P w H h a (.ins C dx fs) from hok a _ e);exact⟨mA,⟨ob,n,ne⟩,r,q,z,d⟩
end
structure Cls (K:AK) (C:Addr):Prop where
 pg:AL7 K C Str.empty=true
 hd:AL8 K C=true
 po:AML K C=true
 sa:DP K (.ref C) "__setattr__"=some (some (.builtin "object.__setattr__"))
def Cls.get{K:AK}{C:Addr}(c:Cls K C)(f:Str):AL7 K C f=true:=c.pg
abbrev Hw(K:AK)(C:Addr)(f:Str):Prop:=DP K (.ref C) f=some none
def Hw.taker{K:AK}{C:Addr}{f:Str}(n:Hw K C f):PySem.W.takerIn K C f=some none:=by unfold PySem.W.takerIn;rw[show DP K (.ref C) f=some none from n];rfl
structure AHO (K:AK) (C:Addr) (m:Str) (f:Addr):Prop where
 at_:DP K (.ref C) m=some (some (.ref f))
 fn:PySem.W.isFn K (.ref f)=true
 kp:Fz K (.ref f)=true
section
variable {X:Cx}{pins:List (Addr×Obj)}{Y:St}{H:Hp}{s:Shared}{a C dx:Addr}{fs:List (Str×V)}{f:Str}{v:V}{A:Around}{E:ANB}
def XH{b:Bool}{Q:ANB}(I:AI X pins Y H s)(e:H a=some (.ins C dx fs))(c:Cls X.K C)(n:Hw X.K C f)(l:fs.lookup f=some v)
  (h:∀u s',AI X pins Y H s'->AY v u->Q u s'):wpAny (model X.prog X.w) A (getAttr (.ref a) f b) Q E s:=by
 obtain⟨mA,O,r,_,_,_⟩:=Rn I.hok e;obtain⟨u,hu,ru⟩:=FP.some_of (v:=v) (o:=mA f) (by rw[<-l];exact r f);exact AFa I.kIn O (c.get f) c.hd n hu (AFX ru) (h u _ (I.tok _) ru)
def VH{y:V}{u:Value}{Q:Unit->Shared->Prop}(I:AI X pins Y H s)(e:H a=some (.ins C dx fs))(c:Cls X.K C)(n:Hw X.K C f)(hl:fs.length<1000)(ry:AY y u)
  (h:∀s',AI X pins Y (upd H a (.ins C dx (CH f y fs))) s'->Q () s'):wpAny (model X.prog X.w) A (setAttr (.ref a) f u) Q E s:=by
 obtain⟨mA,O,r,wi,_,ho⟩:=Rn I.hok e;have hz:(fs.map (·.1)).length<=sizeLine:=by rw[Ah,sizeLine_eq];omega
 refine ABn I.kIn O c.sa c.po n.taker c.hd wi hz λh' O' sb=>h _ ?_;have hd:∃o,h'.get? dx=some o:=let ⟨o,_,_,e',_⟩:=O'.ns;⟨o,e'⟩;refine I.write (x:=a) (e:=dx) (by rw[e];exact True.intro) (.inr ho) (λb q hb z=>(sb.2 b hb).trans z) hd ?_;refine⟨by rw[BN O.ne];exact ho,?_,O.ne,O'.obj,_,O'.ns,λg=>?_,λg hg=>?_⟩
 .have:=WZ f y fs;omega
 .show FP ((CH f y fs).lookup g) (if g=f then some u else mA g)
  rw[WU]
  by_cases q:g=f
  .rw[if_pos q,if_pos q];exact ry
  .rw[if_neg q,if_neg q];exact r g
 .by_cases q:g=f
  .rw[q];exact(Ri f y fs).1
  .refine(Ri f y fs).2 g (wi g λz=>hg ?_)
   show(if g=f then some u else mA g)=none
   rw[if_neg q];exact z
def AI.made(I:AI X pins Y H s):AI X pins Y (upd (upd H s.heap.objs.size (.own (s.heap.objs.size+1))) (s.heap.objs.size+1) (.ins C s.heap.objs.size []))
  {s with heap:=(s.heap.push ALX).push (ALh C s.heap.objs.size)}:=by
 have e1:(s.heap.push ALX).get? s.heap.objs.size=some ALX:=Heap.get?_push_size s.heap rfl
 have e2:((s.heap.push ALX).push (ALh C s.heap.objs.size)).get? (s.heap.objs.size+1)=some (ALh C s.heap.objs.size):=by
  have:=Heap.get?_push_size (s.heap.push ALX) (o:=ALh C s.heap.objs.size) rfl
  rwa [Heap.size_push] at this
 have e3:(s.heap.push ALX).Ns s.heap.objs.size (λ_=>none):=⟨ALX,#[],_,e1,rfl,(λe he=>absurd he (by simp)),λ_=>rfl⟩;have I1:=I.laid (a:=s.heap.objs.size) (o:=.own (s.heap.objs.size+1)) (h':=s.heap.push ALX) (t':=s.toks) (λb u q=>Heap.get?_push_of_some _ q) (Ae _) ⟨_,e1⟩;refine I1.laid (a:=s.heap.objs.size+1) (o:=.ins C s.heap.objs.size []) (t':=s.toks) (λb u q=>Heap.get?_push_of_some _ q) (ALT (Heap.size_push _ _)) ?_;have ne:s.heap.objs.size≠s.heap.objs.size+1:=BQ (Nat.lt_succ_self _);refine⟨by rw[BN ne,Bu],Dg _,ne,e2,λ_=>none,(Heap.Ns1.of_empty e3).at λo q=>Heap.get?_push_of_some _ q,λ_=>True.intro,λy hy=>absurd rfl hy⟩
def AG4{prog:Program}{w:World}{env:Env}{e:Expr}{f:Str}{pos:Pos}{s:Shared}{Q:ANB}(hb:attributeBase e f env (eval e env)=eval e env)
  (h:wpAny (model prog w) A (eval e env) (λo s₁=>wpAny (model prog w) A (getAttr o f true) Q E s₁) E s):wpAny (model prog w) A (eval (.Attribute e f pos) env) Q E s :=
 Attribute_any_ h (by rw[arm_eval_Attribute,hb])
end
abbrev ABH(K:AK)(ta:TE)(f:Str):TE:=λY H Q=>ta Y H λx H1=>∃a C dx fs v,x=.ref a/\H1 a=some (.ins C dx fs)/\Cls K C/\Hw K C f/\fs.lookup f=some v/\Q v H1
abbrev ABz(K:AK)(ta tv:TE)(f:Str):TS:=λD Y H=>tv Y H λy H1=>ta Y H1 λx H2=>∃a C dx fs,x=.ref a/\H2 a=some (.ins C dx fs)/\Cls K C/\Hw K C f/\fs.length<1000 /\
 D.nx Y (upd H2 a (.ins C dx (CH f y fs)))
abbrev OL(X:Cx)(op:Operator)(rd:V->V->Hp->VK->Prop):Prop :=
 ∀(pins:List (Addr×Obj)) (s:Shared) (Y:St) (H:Hp) (x y:V) (u v:Value) (Q:VK),AI X pins Y H s->AY x u->AY y v->rd x y H Q->wpAny (model X.prog X.w) X.A (inplaceOp op u v) (EP X pins Y Q) X.xe s
abbrev ABy(K:AK)(ta tv:TE)(rd:V->V->Hp->VK->Prop)(f:Str):TS:=λD Y H=>ta Y H λx H1=>∃a C dx fs v,x=.ref a/\H1 a=some (.ins C dx fs)/\Cls K C/\Hw K C f/\fs.lookup f=some v /\
 tv Y H1 λy H2=>rd v y H2 λz H3=>∃dx' fs',H3 a=some (.ins C dx' fs')/\fs'.length<1000/\D.nx Y (upd H3 a (.ins C dx' (CH f z fs')))
section
variable {X:Cx}{o e value:Expr}{f:Str}{pos pos' tpos:Pos}{ta tv:TE}
def ADY(he:PE X e ta)(hb:attributeBase e f X.env (eval e X.env)=eval e X.env):PE X (.Attribute e f pos) (ABH X.K ta f):=by intro pins s Y H Q I h;refine AG4 hb (Af (he pins s Y H _ I h) λu s1 z2_=>?_);obtain⟨x,H1,I1,rx,a,C,dx,fs,v,ex,ea,c,n,l,q⟩:=z2_;subst ex;obtain rfl:u=Value.ref a:=rx;exact XH I1 ea c n l λu' s2 I2 ru=>⟨v,H1,I2,ru,q⟩
def ACm(ha:PE X o ta)(hv:PE X value tv)(hs:swapsWith value (some (.Attribute o f pos')) pos.line X.env=pure false):PS X (.Assign [.Attribute o f pos'] value pos) (ABz X.K ta tv f):=by intro pins s Y H D I h;refine plainObj_wpAny_Assign_Attribute (Af (hv pins s Y H _ I h) λu s1 z2_=>?_) hs;obtain⟨y,H1,I1,ry,q⟩:=z2_;refine Af (ha pins s1 Y H1 _ I1 q) λov s2 z2_=>?_;obtain⟨x,H2,I2,rx,a,C,dx,fs,ex,ea,c,n,l,q2⟩:=z2_;subst ex;obtain rfl:ov=Value.ref a:=rx;exact VH I2 ea c n l ry λs3 I3=>⟨Y,_,I3,q2⟩
def ACl{op:Operator}{rd:V->V->Hp->VK->Prop}(ha:PE X o ta)(hv:PE X value tv)(hop:OL X op rd):PS X (.AugAssign (.Attribute o f tpos) op value pos) (ABy X.K ta tv rd f):=by intro pins s Y H D I h;refine wpAny_AugAssign_AttributeAny (Af (ha pins s Y H _ I h) λov s1 z2_=>?_);obtain⟨x,H1,I1,rx,a,C,dx,fs,v,ex,ea,c,n,l,q⟩:=z2_;subst ex;obtain rfl:ov=Value.ref a:=rx;refine XH I1 ea c n l λu s2 I2 ru=>Af (hv pins s2 Y H1 _ I2 q) λw3 s3 z2_=>?_;obtain⟨y,H2,I3,ry,q3⟩:=z2_;refine Af (hop pins s3 Y H2 v y u w3 _ I3 ru ry q3) λw4 s4 z2_=>?_;obtain⟨z,H3,I4,rz,dx',fs',ea',l',q4⟩:=z2_;exact VH I4 ea' c n l' rz λs5 I5=>⟨Y,_,I5,q4⟩
abbrev ACM:V->V->Hp->VK->Prop:=λx y H Q=>∃i j,x=.int i/\y=.int j/\Q (.int (i+j)) H
def AFO:OL X .Add ACM:=by rintro pins s Y H x y u v Q I rx ry ⟨i,j,rfl,rfl,q⟩;obtain⟨t,rfl⟩:=(show ∃t,u=Value.int i t from rx);obtain⟨t',rfl⟩:=(show ∃t',v=Value.int j t' from ry);exact PyProof.Rows.iadd_int ⟨.int (i+j),H,I.tok _,⟨_,rfl⟩,q⟩
end
section
variable {X:Cx}{pins:List (Addr×Obj)}{Y:St}{H:Hp}{s:Shared}{A:Around}{E:ANB}{Q:ANB}{c:Value}{b:Bool}
inductive TyOf (K:AK) (H:Hp):V->Value->Prop where
 |non:TyOf K H .non (.type "NoneType")
 |bl (x:Bool):TyOf K H (.bl x) (.type "bool")
 |int (i:Int):TyOf K H (.int i) (.type "int")
 |str (x:Str):TyOf K H (.str x) (.type "str")
 |flt (x:UInt64):TyOf K H (.flt x) (.type "float")
 |lst {a:Addr} {xs:List V} (e:H a=some (.lst xs)):TyOf K H (.ref a) (.type "list")
 |frz {a:Addr} {o:Obj} {xs:List V} (e:H a=some (.frz o (.lst xs))):TyOf K H (.ref a) (.type "list")
 |tup {a:Addr} {xs:List V} (e:H a=some (.tup xs)):TyOf K H (.ref a) (.type "tuple")
 |dK {a:Addr} {kvs:List (Key×V)} (e:H a=some (.dK kvs)):TyOf K H (.ref a) (.type "dict")
 |dT {a:Addr} {kvs:List (List Key×V)} (e:H a=some (.dT kvs)):TyOf K H (.ref a) (.type "dict")
 |ins {a C dx:Addr} {fs:List (Str×V)} (e:H a=some (.ins C dx fs)) (cl:Cls K C) (ha:DP K (.ref C) "__class__"=some (some (.builtin "object.__class__")))
   (hn:PySem.W.specialIn K (.builtin "object.__class__") "__get__"=some (some (.builtin "getset_descriptor.__get__"))) (htk:PySem.W.takesIn K (.builtin "object.__class__")=some true)
   (hm:PySem.W.mroIn K C (.type "object")=some true):TyOf K H (.ref a) (.ref C)
def JN{x:V}{u t:Value}(I:AI X pins Y H s)(rx:AY x u)(ty:TyOf X.K H x t)(e:PySem.W.kitOne X.K t c=some b)(h:∀tk,Q (.bool b) {s with toks:=tk}) :
  wpAny (model X.prog X.w) A (call (.builtin "isinstance") [u,c]) Q E s:=by
 cases ty with
 |non=>cases (show u=Value.none from rx);exact Fy PySem.W.kitx_none I.kIn True.intro e (λz=>nomatch z) h
 |bl y=>cases (show u=Value.bool y from rx);exact Fy PySem.W.kitx_bool I.kIn True.intro e (λz=>nomatch z) h
 |int i=>obtain⟨t,q⟩:=(show ∃t,u=Value.int i t from rx);cases q;exact Fy PySem.W.kitx_int I.kIn True.intro e (λz=>nomatch z) h
 |str y=>obtain⟨t,q⟩:=(show ∃t,u=Value.str y t from rx);cases q;exact Fy PySem.W.kitx_str I.kIn True.intro e (λz=>nomatch z) h
 |flt y=>obtain⟨t,q⟩:=(show ∃t,u=Value.float y t from rx);cases q;exact Fy PySem.W.kitx_float I.kIn True.intro e (λz=>nomatch z) h
 |@lst a xs ea =>
  cases (show u=Value.ref a from rx);obtain⟨_,_,n,_,h1⟩:=(show Bq X.prog X.w H s.heap a (.lst xs) from I.hok a _ ea);exact Fy PySem.W.kitx_list I.kIn ⟨_,h1,rfl⟩ e (λz=>nomatch z) h
 |@frz a ob xs ea =>
  cases (show u=Value.ref a from rx);obtain⟨_,_,_,n,_,h1⟩:=(show Bq X.prog X.w H s.heap a (.frz ob (.lst xs)) from I.hok a _ ea);exact Fy PySem.W.kitx_list I.kIn ⟨_,h1,rfl⟩ e (λz=>nomatch z) h
 |@tup a xs ea =>
  cases (show u=Value.ref a from rx);obtain⟨_,_,_,p⟩:=(show Bq X.prog X.w H s.heap a (.tup xs) from I.hok a _ ea);obtain⟨o,h1,h2,_⟩:=p;exact Fy PySem.W.kitx_tuple I.kIn ⟨o,h1,h2⟩ e (λz=>nomatch z) h
 |@dK a kvs ea =>
  cases (show u=Value.ref a from rx);obtain⟨_,_,vs,_,p⟩:=(show Bq X.prog X.w H s.heap a (.dK kvs) from I.hok a _ ea);obtain⟨o,es,ep,h1,h2,_⟩:=p;exact Fy PySem.W.kitx_dict I.kIn ⟨o,h1,h2.1⟩ e (λz=>nomatch z) h
 |@dT a kvs ea =>
  cases (show u=Value.ref a from rx);obtain⟨_,_,xs,_,o,es,ep,h1,h2,_⟩:=(show Bq X.prog X.w H s.heap a (.dT kvs) from I.hok a _ ea);exact Fy PySem.W.kitx_dict I.kIn ⟨o,h1,h2.1⟩ e (λz=>nomatch z) h
 |@ins a C dx fs ea cl ha hn htk hm =>
  cases (show u=Value.ref a from rx);obtain⟨mA,O,_⟩:=Rn I.hok ea;obtain⟨od,J,_⟩:=O.look;exact Fy (PySem.W.kitx_own (cl.get _) cl.hd ha hn htk hm) I.kIn J e (λz=>nomatch z) h
end
structure Room (k:Nat) (A:Around):Prop where
 hd:A.handled=none
 dp:A.depth+3*k+5<recursionLimit
 un:A.units+16*k+200<cLine
def Room.mono{j k:Nat}{A:Around}(r:Room k A)(h:j<=k):Room j A:=⟨r.hd,by have:=r.dp;omega,by have:=r.un;omega⟩
def Room.deeper{k:Nat}{A:Around}(r:Room (k+1) A)(env:Env):Room k (A.deeper env) :=
 ⟨r.hd,by have:=r.dp;show A.depth+1+3*k+5<_;omega,by have:=r.un;show A.units+3+16*k+200<_;omega⟩
def Room.in1{k:Nat}{A:Around}(r:Room (k+1) A):Room k A.in1 :=
 ⟨r.hd,by have:=r.dp;show A.depth+3*k+5<_;omega,by have:=r.un;show A.units+1+16*k+200<_;omega⟩
def AEc{A:Around}{C:Addr}{us:AM5}{kw:List (Str×Value)}:(A.under (.builtin "type.__call__" ⟨.ref C::us,kw⟩)).depth=A.depth+1:=by first|rfl|simp[Around.under,Code.weight,Code.isCreation,Code.isGuard,Code.isCaller,Code.frames,Code.isFrame,guardIds]
def AEZ{A:Around}{C:Addr}{us:AM5}{kw:List (Str×Value)}:(A.under (.builtin "type.__call__" ⟨.ref C::us,kw⟩)).units=A.units+1:=by first|rfl|simp[Around.under,Code.cUnits,Code.frames,Code.isFrame]
def Room.make{k:Nat}{A:Around}(r:Room (k+1) A)(C:Addr)(us:AM5)(kw:List (Str×Value)):Room k (A.under (.builtin "type.__call__" ⟨.ref C::us,kw⟩)) :=
 ⟨r.hd,by have:=r.dp;rw[AEc];omega,by have:=r.un;rw[AEZ];omega⟩
def Room.depth{k:Nat}{A:Around}(r:Room k A):A.depth<recursionLimit:=by have:=r.dp;omega
def Room.units{k:Nat}{A:Around}(r:Room k A):A.units+64<cLine:=by have:=r.un;omega
abbrev Uf:TA:=λ_ H Q=>Q [] H
abbrev ABJ(ta:TE)(tr:TA):TA:=λY H Q=>ta Y H λx H1=>tr Y H1 λxs H2=>Q (x::xs) H2
section
variable {X:Cx}{e:Expr}{es:AM7}{te:TE}{t:TA}{pos:Pos}
def ADo:PA X [] Uf:=λ_ _ _ _ H Q I h=>Calls.spliced_nil ⟨[],H,I,.nil,h⟩
def ADp(ha:PE X e te)(hr:PA X es t)(hs:starEach (e::es) X.env=(false,eval e X.env)::starEach es X.env:=by rfl):PA X (e::es) (ABJ te t):=by intro pos pins s Y H Q I h;rw[hs];show wpAny _ _ (spliced ((false,eval e X.env)::backTo pos (starEach es X.env))) _ _ s;refine Calls.spliced_cons (Af (ha pins s Y H _ I h) λu s1 z2_=>?_);obtain⟨x,H1,I1,r1,q1⟩:=z2_;exact Af (hr pos pins s1 Y H1 _ I1 q1) λus s2 z2_=>by obtain⟨xs,H2,I2,r2,q2⟩:=z2_;exact⟨x::xs,H2,I2,.cons r1 r2,q2⟩
abbrev AA0(t:TA):TE:=λY H Q=>t Y H λxs H1=>xs.length<=sizeLine/\∀p,H1 p=none->Q (.ref p) (upd H1 p (.tup xs))
abbrev ABD(t:TA):TE:=λY H Q=>t Y H λxs H1=>xs.length<=sizeLine/\∀p,H1 p=none->Q (.ref p) (upd H1 p (.lst xs))
def ADK{x1}(h:PA X es t):PE X (.Tuple es x1 pos) (AA0 t):=by intro pins s Y H Q I hq;refine wpAny_Tuple_spliced (Af (h pos pins s Y H _ I hq) λus s1 z2_=>?_);obtain⟨xs,H1,I1,r,z,q⟩:=z2_;refine⟨by rw[<-r.length];exact z,?_⟩;have hf:H1 s1.heap.objs.size=none:=I1.hok.fresh (Ae _);refine⟨.ref s1.heap.objs.size,upd H1 s1.heap.objs.size (.tup xs),I1.laid (t':=s1.toks) (λb u e=>Heap.get?_push_of_some _ e) (Ae _) ?_,rfl,q _ hf⟩;exact⟨z,us,r,⟨_,Heap.get?_push_size _ rfl,rfl,_,rfl⟩⟩
def ADT(h:PA X es t):PE X (.List es pos) (ABD t):=by intro pins s Y H Q I hq;refine wpAny_List_spliced (Af (h pos pins s Y H _ I hq) λus s1 z2_=>?_);obtain⟨xs,H1,I1,r,z,q⟩:=z2_;refine⟨by rw[<-r.length];exact z,?_⟩;have hf:H1 s1.heap.objs.size=none:=I1.hok.fresh (Ae _);refine⟨.ref s1.heap.objs.size,upd H1 s1.heap.objs.size (.lst xs),I1.laid (t':=s1.toks) (λb u e=>Heap.get?_push_of_some _ e) (Ae _) ?_,rfl,q _ hf⟩;exact⟨z,us,0,r,Heap.get?_push_size _ rfl⟩
end
noncomputable abbrev Sp:=List V->Hp->VK->XK->Prop
noncomputable abbrev FV:=List Env->Hp->Shared->XK->ANB
structure Gw (P:Program) (w:World) (K:AK) (mg:AM3) (base:Heap) (A:Around) (outer:List Env) (s:Shared) (H:Hp):Prop where
 frames:A.frames=some outer
 mod:OJ K mg base
 bs:∀b o,base.get? b=some o->s.heap.get? b=some o/\H b=none
 bsz:base.objs.size<=s.heap.objs.size
 funs:s.heap.FunFrames base outer
 frf:∀b∈En outer,H b=none
 hok:Ca P w H s.heap
 bare:AllBare s.gens
abbrev CE(outer:List Env)(P:Program)(w:World)(H:Hp)(s:Shared)(Q:VK)(u:Value)(s':Shared):Prop :=
 ∃v H',s'.os=s.os/\AllBare s'.gens/\Un (En outer) [] H H' s.heap s'.heap/\Ca P w H' s'.heap/\AY v u/\Q v H'
abbrev CR(CX:FV)(outer:List Env)(P:Program)(w:World)(H:Hp)(s:Shared)(Q:VK)(E:XK)(r:Result)(s':Shared):Prop :=
 match r with
 |.ok (.ret u)=>CE outer P w H s Q u s'
 |.ok _=>False
 |.error e=>CX outer H s E e s'
structure Cc (P:Program) (w:World) (K:AK) (mg:AM3) (base:Heap) (CX:FV) (k:Nat) (f:Addr) (fd:FuncData) (ps:AM4) (sp:Sp):Prop where
 len:∀vs H Q E,sp vs H Q E->vs.length=ps.length
 run:∀(A:Around) (outer:List Env) (s:Shared) (H:Hp) (args:Args) (us:AM5) (vs:List V) (Q:VK) (E:XK),Room k A->Gw P w K mg base A outer s H->BindsTo s fd args (ps.zip us)->AX vs us->sp vs H Q E ->
  codeAny (model P w) A (.call (.ref f) args) (CR CX outer P w H s Q E) s
def Cc.mono{P:Program}{w:World}{K:AK}{mg:AM3}{base:Heap}{CX:FV}{j k:Nat}{f:Addr}{fd:FuncData}{ps:AM4}{sp:Sp}(F:Cc P w K mg base CX j f fd ps sp)(h:j<=k) :
  Cc P w K mg base CX k f fd ps sp:=⟨F.len,λA outer s H args us vs Q E hr=>F.run A outer s H args us vs Q E (hr.mono h)⟩
def Cc.imp{P:Program}{w:World}{K:AK}{mg:AM3}{base:Heap}{CX:FV}{k:Nat}{f:Addr}{fd:FuncData}{ps:AM4}{sp sp':Sp}(F:Cc P w K mg base CX k f fd ps sp)
  (h:∀vs H Q E,sp' vs H Q E->sp vs H Q E):Cc P w K mg base CX k f fd ps sp' :=
 ⟨λvs H Q E q=>F.len vs H Q E (h _ _ _ _ q),λA outer s H args us vs Q E hr he hb hv hs=>F.run A outer s H args us vs Q E hr he hb hv (h _ _ _ _ hs)⟩
def Gw.make{P:Program}{w:World}{K:AK}{mg:AM3}{base:Heap}{A:Around}{outer:List Env}{s:Shared}{H:Hp}(e:Gw P w K mg base A outer s H)(C:Addr)(us:AM5)(kw:List (Str×Value)) :
  Gw P w K mg base (A.under (.builtin "type.__call__" ⟨.ref C::us,kw⟩)) outer s H:=⟨by first|exact e.frames|(simpa[Around.under,Code.envs,Code.isFrame,pushEnvs] using e.frames),e.mod,e.bs,e.bsz,e.funs,e.frf,e.hok,e.bare⟩
def Gw.in1{P:Program}{w:World}{K:AK}{mg:AM3}{base:Heap}{A:Around}{outer:List Env}{s:Shared}{H:Hp}(e:Gw P w K mg base A outer s H) :
  Gw P w K mg base A.in1 outer s H:=⟨e.frames,e.mod,e.bs,e.bsz,e.funs,e.frf,e.hok,e.bare⟩
section
variable {X:Cx}{pins:List (Addr×Obj)}{Y:St}{H:Hp}{s s':Shared}
def AI.env0(I:AI X pins Y H s):Gw X.prog X.w X.K X.mg X.base X.A X.stack s H :=
 ⟨I.ok.frames,I.ok.mod,I.bs,CD I.ok.bsz I.sz,I.stack,I.stkFree,I.hok,I.bare⟩
def AI.after{Q:VK}{u:Value}(I:AI X pins Y H s)(h:CE X.stack X.prog X.w H s Q u s'):EP X pins Y Q u s':=by obtain⟨v,H',os,bare,un,hok,r,q⟩:=h;obtain⟨hh,g,d,t,os'⟩:=s';obtain rfl:os'=s.os:=os;exact⟨v,H',I.call (h':=hh) (g':=g) (d':=d) (t':=t) (ch:=[]) un hok bare (λb z=>absurd z (by simp)),r,q⟩
end
abbrev Uh(sp:Sp)(dvs:List V)(E:XK)(t:TA):TE:=λY H Q=>t Y H λvs H1=>sp (vs++dvs) H1 Q E
abbrev Ug(C:Addr)(sp:Sp)(dvs:List V)(E:XK)(t:TA):TE:=λY H Q=>t Y H λvs H1=>∀x dx,H1 x=none->H1 dx=none->dx≠x ->
 sp (.ref x::(vs++dvs)) (upd (upd H1 dx (.own x)) x (.ins C dx [])) (λv H2=>v=.non/\Q (.ref x) H2) E
abbrev Df(K:AK)(fd:FuncData)(ps:AM4)(ds:AM5):Prop :=
 ∀(s:Shared) (us:AM5),K.In s.heap->(us++ds).length=ps.length->BindsTo s fd ⟨us,[]⟩ (ps.zip (us++ds))
def Df.all{K:AK}{fd:FuncData}{ps:AM4}(h:∀us:AM5,us.length=ps.length->bindArgs fd ⟨us,[]⟩=pure (ps.zip us)):Df K fd ps []:=λs us _ hl=>by
 rw[ALq] at hl ⊢;exact .of_eq (h us hl)
abbrev Jg(CX:FV)(X:Cx)(E:XK):Prop:=∀(pins:List (Addr×Obj)) (Y:St) (H:Hp) (s:Shared) (e:Value) (s':Shared),AI X pins Y H s->CX X.stack H s E e s'->X.xe e s'
section
variable {X:Cx}{CX:FV}{k:Nat}{f C:Addr}{fd:FuncData}{ps:AM4}{sp:Sp}{dvs:List V}{ds:AM5}{E:XK}{x m:Str}{p pos apos:Pos}{e o:Expr}{es:AM7}{ta:TE}{t:TA}
def VJ{pins:List (Addr×Obj)}{Y:St}{H:Hp}{s:Shared}{Q:VK}{us:AM5}{vs:List V}(F:Cc X.prog X.w X.K X.mg X.base CX k f fd ps sp)(hr:Room k X.A)(hb:Df X.K fd ps ds)(hd:AX dvs ds)(hx:Jg CX X E)
  (I:AI X pins Y H s) (r:AX vs us) (h:sp (vs++dvs) H Q E):wpAny (model X.prog X.w) X.A (call (.ref f) us) (EP X pins Y Q) X.xe s:=by
 have r2:AX (vs++dvs) (us++ds):=r.append hd;have hl:(us++ds).length=ps.length:=by rw[<-r2.length];exact F.len _ _ _ _ h
 refine wpAny_call (codeAny_mono (F.run X.A X.stack s H ⟨us,[]⟩ (us++ds) (vs++dvs) Q E hr I.env0 (hb s us I.kIn hl) r2 h) λr s' hq=>?_)
 cases r with
 |error e=>exact hx pins Y H s e s' I hq
 |ok fl =>
  cases fl with
  |ret u=>exact I.after hq
  |next=>exact False.elim hq
  |brk=>exact False.elim hq
  |cont=>exact False.elim hq
def ADd(F:Cc X.prog X.w X.K X.mg X.base CX k f fd ps sp)(hr:Room k X.A)(hg:Gl X x)(hm:X.mg x=some (.ref f))(hk:Fz X.K (.ref f)=true)(hb:Df X.K fd ps ds)(hd:AX dvs ds)(hx:Jg CX X E)
  (ha:PA X (e::es) t) (hdb:(x == ("__debug__":Str))=false:=by decide) (he:starEach (e::es) X.env=(false,eval e X.env)::starEach es X.env:=by rfl) (hpl:(backTo pos (starEach es X.env)).any (·.1)=false:=by rfl) :
  PE X (.Call (.Name x p) (e::es) [] pos) (Uh sp dvs E t):=by
 intro pins s Y H Q I h;refine AMt (Kp I hg hm ?_ hdb);refine PySem.W.callWith_K (h₀:=X.base) I.ok.mod.kin hk (Af (ha pos pins s Y H _ I h) λus s1 z2_=>?_) he hpl;obtain⟨vs,H1,I1,r,q⟩:=z2_;refine⟨I1.kIn,?_⟩;exact VJ F hr hb hd hx I1 r q
def ADc(F:Cc X.prog X.w X.K X.mg X.base CX k f fd ps sp)(hr:Room k X.A)(hg:Gl X x)(hm:X.mg x=some (.ref f))(hk:Fz X.K (.ref f)=true)(hb:Df X.K fd ps ds)(hd:AX dvs ds)(hx:Jg CX X E)
  (hdb:(x == ("__debug__":Str))=false:=by decide):PE X (.Call (.Name x p) [] [] pos) (Uh sp dvs E Uf):=by
 intro pins s Y H Q I h;refine AMt (Kp I hg hm ?_ hdb);exact PySem.W.callWith_K0 I.kIn hk (VJ (us:=[]) F hr hb hd hx I .nil h)
structure Mk (K:AK) (C f:Addr):Prop where
 makes:AMM K C=true
 init:DP K (.ref C) "__init__"=some (some (.ref f))
 fn:PySem.W.isFn K (.ref f)=true
 kp:Fz K (.ref C)=true
def AB6{pins:List (Addr×Obj)}{Y:St}{H:Hp}{s:Shared}{Q:VK}{us:AM5}{vs:List V}(M:Mk X.K C f)(F:Cc X.prog X.w X.K X.mg X.base CX k f fd ps sp)(hr:Room (k+1) X.A)(hb:Df X.K fd ps ds)(hd:AX dvs ds)
  (hx:Jg CX X E) (I:AI X pins Y H s) (r:AX vs us)
  (h:∀x dx,H x=none->H dx=none->dx≠x->sp (.ref x::(vs++dvs)) (upd (upd H dx (.own x)) x (.ins C dx [])) (λv H2=>v=.non/\Q (.ref x) H2) E) :
  wpAny (model X.prog X.w) X.A (call (.ref C) us) (EP X pins Y Q) X.xe s:=by
 have hq:=h (s.heap.objs.size+1) s.heap.objs.size (I.hok.fresh (ALQ _)) (I.hok.fresh (Ae _)) (BQ (Nat.lt_succ_self _));have I2:=AI.made (C:=C) I;have r2:AX (V.ref (s.heap.objs.size+1)::(vs++dvs)) (Value.ref (s.heap.objs.size+1)::(us++ds)):=.cons rfl (r.append hd)
 have hl:(Value.ref (s.heap.objs.size+1)::us++ds).length=ps.length:=by have e:=r2.length;rw[F.len _ _ _ _ hq] at e;exact e.symm
 refine wpAny_call (AEa (f:=f) I.kIn M.makes M.init (beq_iff_eq.mp M.fn) (codeAny_mono (F.run _ X.stack _ _ ⟨Value.ref (s.heap.objs.size+1)::us,[]⟩ (Value.ref (s.heap.objs.size+1)::(us++ds)) _ _ E (hr.make C us [])
  (I2.env0.make C us []) (hb _ (Value.ref (s.heap.objs.size+1)::us) I2.kIn hl) r2 hq) λr s' hq'=>?_))
 cases r with
 |error e=>exact hx pins Y _ _ e s' I2 hq'
 |ok fl =>
  cases fl with
  |ret u =>
   obtain⟨v,H',I3,rv,ev,q3⟩:=I2.after hq';subst ev;exact⟨rv,⟨V.ref (s.heap.objs.size+1),H',I3,rfl,q3⟩⟩
  |next=>exact False.elim hq'
  |brk=>exact False.elim hq'
  |cont=>exact False.elim hq'
def ADS(M:Mk X.K C f)(F:Cc X.prog X.w X.K X.mg X.base CX k f fd ps sp)(hr:Room (k+1) X.A)(hg:Gl X x)(hm:X.mg x=some (.ref C))(hb:Df X.K fd ps ds)(hd:AX dvs ds)(hx:Jg CX X E)
  (ha:PA X (e::es) t) (hdb:(x == ("__debug__":Str))=false:=by decide) (he:starEach (e::es) X.env=(false,eval e X.env)::starEach es X.env:=by rfl) (hpl:(backTo pos (starEach es X.env)).any (·.1)=false:=by rfl) :
  PE X (.Call (.Name x p) (e::es) [] pos) (Ug C sp dvs E t):=by
 intro pins s Y H Q I h;refine AMt (Kp I hg hm ?_ hdb);refine PySem.W.callWith_K (h₀:=X.base) I.ok.mod.kin M.kp (Af (ha pos pins s Y H _ I h) λus s1 z2_=>?_) he hpl;obtain⟨vs,H1,I1,r,q⟩:=z2_;refine⟨I1.kIn,?_⟩;exact AB6 M F hr hb hd hx I1 r q
end
structure As (N P:AM4) (sc:Scope):Prop where
 kind:sc.kind=.function
 co:sc.isCoroutine=false
 gen:sc.isGenerator=false
 nd:N.Nodup
 pre:N.take P.length=P
 par:∀x∈P,sc.names.lookup x=some .local\/sc.names.lookup x=some .cell
 nofree:∀y∈sc.names,y.2≠.free
def YN{kindOf:Str->Option NameKind}{x:Str}:∀{binds:List (Str×Value)} {m:AM3},(∀v,(x,v)∉binds)->bindL kindOf binds m x=m x
 |[],_,_=>rfl
 |(n,v)::r,m,h=>by
  unfold bindL;rw[YN λw hw=>h w (Ax _ hw)];split
  .have:x≠n:=by rintro rfl;exact h v Aw
   simp[this]
  .rfl
def YQ{kindOf:Str->Option NameKind}{x:Str}:∀{binds:List (Str×Value)} {m:AM3},(∀v,(x,v)∉binds)->bindC kindOf binds m x=m x
 |[],_,_=>rfl
 |(n,v)::r,m,h=>by
  unfold bindC;rw[YQ λw hw=>h w (Ax _ hw)];split
  .rfl
  .have:x≠n:=by rintro rfl;exact h v Aw
   simp[this]
def YO{kindOf:Str->Option NameKind}{x:Str}{v:Value}:∀{P:AM4} {vs:AM5} {i:Nat} {m:AM3},P.Nodup->P[i]?=some x->vs[i]?=some v->kindOf x=some .local ->
  bindL kindOf (P.zip vs) m x=some v
 |[],_,_,_,_,h,_,_=>by simp at h
 |_::_,[],_,_,_,_,h,_=>by simp at h
 |p::P,w::vs,0,m,nd,h1,h2,hk=>by
  simp at h1 h2;subst h1;subst h2;show bindL kindOf ((p,w)::P.zip vs) m p=_;unfold bindL;rw[YN λv hv=>(ALR.mp nd).1 (List.of_mem_zip hv).1,if_pos hk];simp
 |p::P,w::vs,i+1,m,nd,h1,h2,hk=>by
  show bindL kindOf ((p,w)::P.zip vs) m x=_;unfold bindL;exact YO (i:=i) (ALR.mp nd).2 (by simpa using h1) (by simpa using h2) hk
def YR{kindOf:Str->Option NameKind}{x:Str}{v:Value}:∀{P:AM4} {vs:AM5} {i:Nat} {m:AM3},P.Nodup->P[i]?=some x->vs[i]?=some v->kindOf x≠some .local ->
  bindC kindOf (P.zip vs) m x=some v
 |[],_,_,_,_,h,_,_=>by simp at h
 |_::_,[],_,_,_,_,h,_=>by simp at h
 |p::P,w::vs,0,m,nd,h1,h2,hk=>by
  simp at h1 h2;subst h1;subst h2;show bindC kindOf ((p,w)::P.zip vs) m p=_;unfold bindC;rw[YQ λv hv=>(ALR.mp nd).1 (List.of_mem_zip hv).1,if_neg hk];simp
 |p::P,w::vs,i+1,m,nd,h1,h2,hk=>by
  show bindC kindOf ((p,w)::P.zip vs) m x=_;unfold bindC;exact YR (i:=i) (ALR.mp nd).2 (by simpa using h1) (by simpa using h2) hk
abbrev GC(N:AM4)(vs:List V):St:=vs.map some++ALU (N.length-vs.length) none
abbrev CQ(CX:FV)(P:Program)(w:World)(K:AK)(mg:AM3)(base:Heap)(N:AM4)(qual:Str)(scope:Scope)(f:Addr)(cd:Value)(A:Around)(outer:List Env)(s:Shared)(H:Hp)(E:XK):Cx where
 prog:=P
 w:=w
 K:=K
 mg:=mg
 base:=base
 A:=A.deeper (envOfC qual scope s.heap.objs.size f cd)
 N:=N
 s₀:=s
 H₀:=H
 env:=envOfC qual scope s.heap.objs.size f cd
 outer:=outer
 stack:=envOfC qual scope s.heap.objs.size f cd::outer
 ex:=[]
 calm:=true
 fn:=λ_=>true
 pn:=[]
 xe:=λe s'=>wpAny (model P w) (A.deeper (envOfC qual scope s.heap.objs.size f cd)) (leaving (envOfC qual scope s.heap.objs.size f cd) e) (λ_ s''=>CX outer H s E e s'') (λe' s''=>CX outer H s E e' s'') s'
def YK{sc:Scope}{n:Nat}{x:Str}(h:sc.names.lookup x=some .cell):∃c,(cellsFrom n sc.names []).lookup x=some c:=by have q:=PySem.W.cellsFrom_some sc.names n [] (.inl h);exact AMN.mp q
def AFM{CX:FV}{P:Program}{w:World}{K:AK}{mg:AM3}{base:Heap}{N ps:AM4}{qual:Str}{scope:Scope}{f:Addr}{cd:Value}{A:Around}{outer:List Env}{s s1:Shared}{H:Hp}{E:XK}{us:AM5}{vs:List V}
  (S:As N ps scope) (hd:A.handled=none) (e0:Gw P w K mg base A outer s H) (hl:vs.length=ps.length) (r:AX vs us)
  (x:InCallC s s.heap.objs.size (bindL (envOfC qual scope s.heap.objs.size f cd).kindOf (ps.zip us) λ_=>none) (cellsFrom (s.heap.objs.size+1) scope.names []) (bindC (envOfC qual scope s.heap.objs.size f cd).kindOf (ps.zip us) λ_=>none) s1) :
  AI (CQ CX P w K mg base N qual scope f cd A outer s H E) [] (GC N vs) H s1:=by
 have hpl:ps.length<=N.length:=by have:=congrArg List.length S.pre;rw[FZ] at this;omega
 obtain⟨h1,tk,rfl,hk⟩:=x.done;have noA:∀b:Addr,b∉(CQ CX P w K mg base N qual scope f cd A outer s H E).ex:=λb z=>absurd (show b∈([]:AM6) from z) (by simp)
 refine⟨⟨e0.mod,S.kind,rfl,rfl,Ae _,λy z c h1 h2=>?_,λy hy=>?_,λy c _ h=>?_,λ_=>hd,Around.frames_deeper e0.frames,.inr ⟨rfl,rfl⟩,λb z=>absurd z (noA b),e0.bs,e0.bsz,λb _ _=>noA b,λb z=>absurd z (noA b),e0.funs,e0.frf⟩,
  rfl,e0.bare,Un.kept hk,⟨_,x.toInCall.ns,λi y v h1 h2 h3=>?_⟩,λy c h=>⟨_,x.cell y c h⟩,e0.hok.fresh (Ae _),λy c h=>?_,λp hp=>absurd (show p∈([]:List (Addr×Obj)) from hp) (by simp),e0.hok.kept hk,?_⟩
 .exact name_of_addr x.apart (PySem.mem_of_lookup h1) (PySem.mem_of_lookup h2)
 .have hy:scope.names.lookup y=some .cell\/scope.names.lookup y=some .free:=hy;rcases hy with hy|hy
  .exact YK hy
  .exact absurd rfl (S.nofree _ (PySem.mem_of_lookup hy))
 .exact AL6 (x.above y c (PySem.mem_of_lookup h))
 .have hi:i<vs.length:=by
   unfold GC at h2
   by_cases hi:i<vs.length
   .exact hi
   .rw[ALV (by simpa using hi)] at h2;rw[AMO] at h2;split at h2 <;> cases h2
  have ha:vs[i]?=some v:=by
   unfold GC at h2;rw[Ee (by simpa using hi),Ar] at h2
   cases e:vs[i]? with
   |none=>rw[e] at h2;cases h2
   |some a=>rw[e] at h2;cases h2;rfl
  obtain⟨u,hu,rv⟩:=r.get ha
  have hp:ps[i]?=some y:=by rw[<-S.pre,List.getElem?_take_of_lt (by omega)];exact h1
  have ndP:ps.Nodup:=by rw[<-S.pre];exact S.nd.sublist (List.take_sublist _ _)
  refine⟨u,rv,?_⟩;rcases S.par y (Bj hp) with k|k
  .exact .inl ⟨k,YO ndP hp hu k⟩
  .obtain⟨c,e⟩:=YK (n:=s.heap.objs.size+1) k;refine .inr ⟨.inl k,c,e,?_⟩;have q:=x.cell y c e;rw[YR ndP hp hu (by show scope.names.lookup y≠_;rw[k];decide)] at q;exact q
 .exact e0.hok.fresh (AL6 (x.above y c (PySem.mem_of_lookup h)))
 .unfold GC;show _=N.length;rw[By,Ah,AMb];omega
def AF0{CX:FV}{P:Program}{w:World}{K:AK}{mg:AM3}{base:Heap}{k:Nat}{f:Addr}{name qual:Str}{params:Arguments}{body:AM8}{scope:Scope}{dV kV doc pm cdv ct oc:Value}{an od:Option Addr}
  {osl:Array (Option Value)} {N ps:AM4} {sp:Sp} (lk:K.lookup f=some ⟨oc,od,.func (ALY name qual params body scope dV kV doc pm an cdv ct),osl⟩) (hcd:AMP K cdv qual=true) (S:As N ps scope)
  (len:∀vs H Q E,sp vs H Q E->vs.length=ps.length)
  (hbody:∀(A:Around) (outer:List Env) (s:Shared) (H:Hp) (vs:List V) (Q:VK) (E:XK),Room k (A.deeper (envOfC qual scope s.heap.objs.size f cdv))->sp vs H Q E ->
   ∃t,DW (CQ CX P w K mg base N qual scope f cdv A outer s H E) body t/\t {nx:=λ_ H'=>Q .non H',rt:=Q} (GC N vs) H) :
  Cc P w K mg base CX (k+1) f (ALY name qual params body scope dV kV doc pm an cdv ct) ps sp:=by
 refine⟨len,λA outer s H args us vs Q E hr e0 hb r hsp=>?_⟩;have hl:=len _ _ _ _ hsp;have KX:K.In s.heap:=e0.mod.kin.keeps λb o e=>(e0.bs b o e).1;have lim:s.heap.NoLimit:=e0.mod.nolimit.keeps λb o e=>(e0.bs b o e).1
 have hkind:∀y∈ps.zip us,scope.names.lookup y.1=some .local\/(scope.names.lookup y.1=some .cell/\((cellsFrom (s.heap.objs.size+1) scope.names []).lookup y.1).isSome=true):=λ⟨n,v⟩ hy=>by
  rcases S.par n (List.of_mem_zip hy).1 with q|q
  .exact .inl q
  .exact .inr ⟨q,PySem.W.cellsFrom_some _ _ _ (.inl q)⟩
 refine codeAny_call_function hr.depth (KX _ _ lk) rfl S.co S.gen rfl (PySem.W.codeRec_of KX hcd) (hb _ _ _ _ ?_);refine wpAny_newFunctionEnv_cells S.kind hkind λenv he s1 x=>?_;subst he;refine⟨lim.keeps x.toInCall.keep,codeAny_func ?_⟩;obtain⟨t,ht,hq⟩:=hbody A outer s H vs Q E (hr.deeper _) hsp;have I:AI (CQ CX P w K mg base N qual scope f cdv A outer s H E) [] (GC N vs) H s1:=AFM S hr.hd e0 hl r x;refine DI (ht [] s1 (GC N vs) H _ I hq) (λfl s' hs=>?_) λe s' hs=>hs
 have fin:∀{Y':St} {H':Hp} {v:V} {u:Value},AI (CQ CX P w K mg base N qual scope f cdv A outer s H E) [] Y' H' s'->AY v u->Q v H'->CE outer P w H s Q u s' :=
  λ{Y' H' v u} J rv q=>⟨v,H',J.os,J.bare,J.base,J.hok,rv,q⟩
 cases fl with
 |ret u =>
  obtain⟨v,Y',H',J,rv,q⟩:=hs;exact fin J rv q
 |next =>
  obtain⟨Y',H',J,q⟩:=hs;exact fin (v:=V.non) (u:=Value.none) J rfl q
 |brk =>
  obtain⟨_,_,_,q⟩:=hs;exact False.elim q
 |cont =>
  obtain⟨_,_,_,q⟩:=hs;exact False.elim q
section
variable {X:Cx}{x:Str}{p pos:Pos}{e:Expr}{es:AM7}{t:TA}{id T:String}{r:List V->Hp->VK->Prop}
abbrev Ui(r:List V->Hp->VK->Prop)(t:TA):TE:=λY H Q=>t Y H λvs H1=>r vs H1 Q
def ADb(hc:CV X (.builtin id) r)(hg:Gl X x)(hm:X.mg x=none)(hv:bootBuiltins x=some (.builtin id))(ha:PA X (e::es) t)(hn:x≠"__name__":=by decide)(hdb:(x == ("__debug__":Str))=false:=by decide)
  (he:starEach (e::es) X.env=(false,eval e X.env)::starEach es X.env:=by rfl) (hpl:(backTo pos (starEach es X.env)).any (·.1)=false:=by rfl):PE X (.Call (.Name x p) (e::es) [] pos) (Ui r t):=by
 intro pins s Y H Q I h;refine AMt (GH I hg hm hv ?_ hn hdb);exact PyProof.Rows.callWith_builtin1 (Af (ha pos pins s Y H _ I h) λus s1 z2_=>(by obtain⟨vs,H1,I1,r1,q1⟩:=z2_;exact hc pins s1 Y H1 vs us Q I1 r1 q1)) he hpl
def ADa(hc:CV X (.type T) r)(hg:Gl X x)(hm:X.mg x=none)(hv:bootBuiltins x=some (.type T))(ha:PA X (e::es) t)(hn:x≠"__name__":=by decide)(hdb:(x == ("__debug__":Str))=false:=by decide)
  (he:starEach (e::es) X.env=(false,eval e X.env)::starEach es X.env:=by rfl) (hpl:(backTo pos (starEach es X.env)).any (·.1)=false:=by rfl):PE X (.Call (.Name x p) (e::es) [] pos) (Ui r t):=by
 intro pins s Y H Q I h;refine AMt (GH I hg hm hv ?_ hn hdb);exact PyProof.Rows.callWith_type1 (Af (ha pos pins s Y H _ I h) λus s1 z2_=>(by obtain⟨vs,H1,I1,r1,q1⟩:=z2_;exact hc pins s1 Y H1 vs us Q I1 r1 q1)) he hpl
end
end L2
namespace HT
open PySem PyProof.Rows
section
variable {prog:Program}{w:World}{A:Around}{E:ANB}{s:Shared}
def AK3{t b:Addr}{vs ws:AM5}{Q:ANB}(ht:IsTup s.heap t vs.toArray)(hb:IsTup s.heap b ws.toArray)(hv:vs≠[])
  (h1:ws=[]->Q (.ref t) s) (h2:ws≠[]->Q (.ref s.heap.objs.size) {s with heap:=s.heap.push {cls:=.type "tuple",data:=.seq (vs++ws).toArray}})
  (hsz:vs.length+ws.length<=sizeLine):wpAny (model prog w) A (binaryOp .Add (.ref t) (.ref b)) Q E s:=by
 obtain⟨⟨cls,dd,data,sl⟩,ho,hc,n,hd⟩:=id ht;obtain⟨⟨cls2,dd2,data2,sl2⟩,ho2,hc2,n2,hd2⟩:=id hb;simp only at hc hd hc2 hd2;subst hc hd hc2 hd2;have e:vs.toArray++ws.toArray=(vs++ws).toArray:=by simp
 by_cases hw:ws=[]
 .exact concat_meets ⟨_,ho,rfl⟩ ⟨_,ho2,rfl⟩ noFill_tuple_add seq_tuple_add AMc AMd (AMe _ _)
   (tuple_addW1 t b vs.toArray ws.toArray n n2 dd dd2 sl sl2 (by simpa using hv) (by simp[hw])) ⟨ho,ho2,h1 hw⟩
 .refine concat_meets ⟨_,ho,rfl⟩ ⟨_,ho2,rfl⟩ noFill_tuple_add seq_tuple_add AMc AMd (AMe _ _)
   (tuple_addW2 t b vs.toArray ws.toArray n n2 dd dd2 sl sl2 (by simpa using hv) (by simpa using hw) (by rw[BZ,BZ];exact hsz)) ⟨ho,ho2,?_⟩
  rw[e];exact h2 hw
abbrev sIx(n d:Nat):Option Int->Nat
 |none=>d
 |some v=>if v<0 then (v+(n:Int)).toNat else min v.toNat n
def AIr(n d k:Nat):sIx n d (some (k:Int))=min k n:=by
 show(if (k:Int)<0 then ((k:Int)+(n:Int)).toNat else min (k:Int).toNat n)=min k n
 rw[if_neg (by omega),ALW]
def ABx(n d:Nat)(hd:d<=n)(o:Option Int):sIx n d o<=n:=by
 cases o with
 |none=>exact hd
 |some v =>
  show(if v<0 then (v+(n:Int)).toNat else min v.toNat n)<=n
  by_cases hv:v<0
  .rw[if_pos hv];omega
  .rw[if_neg hv];exact Nat.min_le_right _ _
def YH(v:Int)(n d:Nat):(if v<0 then max (v+(n:Int)) 0 else min v (n:Int))=((sIx n d (some v):Nat):Int):=by
 show(if v<0 then max (v+(n:Int)) 0 else min v (n:Int))=(((if v<0 then (v+(n:Int)).toNat else min v.toNat n):Nat):Int)
 by_cases hv:v<0
 .simp only[if_pos hv];omega
 .simp only[if_neg hv];omega
def AHK(lo hi:Option Int)(n:Nat):Builtin.Slice.sliceAdjust lo hi 1 (n:Int)=(((sIx n 0 lo:Nat):Int),((sIx n n hi:Nat):Int)):=by
 have h1:¬((1:Int)<0):=by omega
 unfold Builtin.Slice.sliceAdjust;simp only[h1,if_false];refine Prod.ext ?_ ?_
 .cases lo with
  |none=>rfl
  |some v=>exact YH v n 0
 .cases hi with
  |none=>rfl
  |some v=>exact YH v n n
def ACx(i j:Nat):Builtin.Slice.slicePlaces (i:Int) (j:Int) 1=j-i:=by
 unfold Builtin.Slice.slicePlaces;have h1:(1:Int)>0:=by omega
 simp only[h1,if_true,Int.ediv_one];split <;> omega
def VF{v:Value}{o:Option Int}{Q:Option Int->Shared->Prop}(p:IsPart v o)(h:Q o s):wpAny (model prog w) A (Builtin.Slice.slicePartIndex v) Q E s:=by
 cases p with
 |none=>exact slicePart_none h
 |int i t=>exact slicePart_int h
def VG{sl:Addr}{vl vu:Value}{lo hi:Option Int}{n:Nat}{Q:Int×Int×Nat->Shared->Prop}(hs:s.heap.IsSliceOf sl vl vu .none)(pl:IsPart vl lo)(pu:IsPart vu hi)
  (h:Q (((sIx n 0 lo:Nat):Int),1,sIx n n hi-sIx n 0 lo) s):wpAny (model prog w) A (Builtin.Slice.sliceApplied (.ref sl) (pure (n:Int))) Q E s:=by
 obtain⟨os,hos,hcs,hds⟩:=id hs;unfold Builtin.Slice.sliceApplied Builtin.Slice.sliceFields;refine AG (AG (EN hos hds (x:=vl) rfl (AG (EN hos hds (x:=vu) rfl (AG (EN hos hds (x:=.none) rfl (AM ?_)))))));refine AG (slicePart_none ?_)
 show wpAny _ _ (if ((1:Int) == 0)=true then _ else _) _ _ s
 rw[if_neg (by decide)];refine AG (VF pl (AG (VF pu (AG (AM ?_)))))
 show wpAny _ _ (match Builtin.Slice.sliceAdjust lo hi 1 (n:Int) with|(lo,hi)=>pure (lo,(1:Int),Builtin.Slice.slicePlaces lo hi 1)) _ _ s
 rw[AHK lo hi n];show wpAny _ _ (pure (((sIx n 0 lo:Nat):Int),(1:Int),Builtin.Slice.slicePlaces ((sIx n 0 lo:Nat):Int) ((sIx n n hi:Nat):Int) 1)) _ _ s;rw[ACx];exact AM h
def AC7(xs:Array Value)(i k:Nat):((List.range k).filterMap λ(m:Nat)=>xs[((i:Int)+(m:Int)*1).toNat]?).toArray=((xs.toList.drop i).take k).toArray:=by
 have e:(λ(m:Nat)=>xs[((i:Int)+(m:Int)*1).toNat]?)=λm=>xs[i+m]?:=by
  funext m
  have:((i:Int)+(m:Int)*1).toNat=i+m:=by omega
  rw[this]
 rw[e];have:=pick_run xs i k;rw[List.filterMap_map] at this;have e2:((λx=>xs[x]?)∘λx=>i+x)=λm=>xs[i+m]?:=rfl;rw[e2] at this;rw[this]
def AJn{t sl:Addr}{items:Array Value}{vl vu:Value}{lo hi:Option Int}{Q:ANB}(ht:IsTup s.heap t items)(hs:s.heap.IsSliceOf sl vl vu .none)(pl:IsPart vl lo)(pu:IsPart vu hi)
  (hw:¬(sIx items.size 0 lo=0/\sIx items.size items.size hi=items.size))
  (h:Q (.ref s.heap.objs.size) {s with heap:=s.heap.push {cls:=.type "tuple",data:=.seq ((items.toList.drop (sIx items.size 0 lo)).take (sIx items.size items.size hi-sIx items.size 0 lo)).toArray}})
  (hsz:items.size<=sizeLine):wpAny (model prog w) A (getItem (.ref t) (.ref sl)) Q E s:=by
 have htake:sizeOk (.seq ((items.toList.drop (sIx items.size 0 lo)).take (sIx items.size items.size hi-sIx items.size 0 lo)).toArray):=by show((items.toList.drop (sIx items.size 0 lo)).take (sIx items.size items.size hi-sIx items.size 0 lo)).toArray.size<=sizeLine;rw[BZ,FZ,List.length_drop,AMK];omega
 have hj:sIx items.size items.size hi<=items.size:=ABx _ _ (Ae _) hi;obtain⟨os,hos,hcs,hds⟩:=id hs;have hTs:s.TypeIs (.ref sl) "slice":=⟨os,hos,hcs⟩;unfold getItem
 try with_reducible refine Ck ?_
 first|refine AG (AM ?_)|skip
 refine AG (wpAny_sequenceKey ht.typeIs (by decide) ?_)
 refine AG (AMu (name:=Str.ofString "__getitem__") ht.typeIs PyProof.Rows.slot_tuple_getitem
  (Fx PyProof.Rows.slot_tuple_getitem ht.typeIs entry_tuple_getitem ?_ (args_tuple_getitem _ _)))
 show wpAny _ _ (Builtin.Tuple.tupleItemsOf (.ref t) >>= _) _ _ s;refine AG (tupleItemsOf_ ht ?_);refine AG (wpAny_typeOf hTs ?_);rw[if_pos (by decide)];refine AG (VG hs pl pu ?_)
 have hno:¬((((sIx items.size 0 lo:Nat):Int) == 0&&(1:Int) == 1&&(sIx items.size items.size hi-sIx items.size 0 lo) == items.size)=true):=by intro q;rw[Bn,Bn] at q;have q1:((sIx items.size 0 lo:Nat):Int)=0:=eq_of_beq q.1.1;have q2:sIx items.size items.size hi-sIx items.size 0 lo=items.size:=eq_of_beq q.2;exact hw ⟨by omega,by omega⟩
 show wpAny _ _ (if (((sIx items.size 0 lo:Nat):Int) == 0&&(1:Int) == 1&&(sIx items.size items.size hi-sIx items.size 0 lo) == items.size)=true then _ else _) _ _ s
 rw[if_neg hno,AC7]
 first
  |exact AG (m:=Builtin.Tuple.tupleExact _) (AMv (AM ⟨_,rfl,AM h⟩) htake)
  |exact AG (m:=Builtin.Tuple.tupleExact _) (AMv (AG (AM (AM ⟨_,rfl,AM h⟩))) htake)
  |exact AG (AG (m:=Builtin.Tuple.tupleExact _) (AMv (AM (AM ⟨_,rfl,AM h⟩)) htake))
  |exact AG (AG (m:=Builtin.Tuple.tupleExact _) (AMv (AM ⟨_,rfl,AM h⟩) htake))
end
end HT
namespace L2
open PySem PySem.Spec PyProof.Rows
noncomputable abbrev TO:=St->Hp->(Option Int->Hp->Prop)->Prop
abbrev PO(X:Cx)(e:Option Expr)(t:TO):Prop :=
 ∀(pins:List (Addr×Obj)) (s:Shared) (Y:St) (H:Hp) (Q:Option Int->Hp->Prop),AI X pins Y H s->t Y H Q ->
  wpAny (model X.prog X.w) X.A (evalPart e X.env) (λu s'=>∃o H',AI X pins Y H' s'/\IsPart u o/\Q o H') X.xe s
abbrev ABA:TO:=λ_ H Q=>Q none H
abbrev AA5(t:TE):TO:=λY H Q=>t Y H λx H1=>∃i,x=.int i/\Q (some i) H1
section
variable {X:Cx}{e:Expr}{te:TE}{lo hi:Option Expr}{tl th:TO}{pos p2:Pos}
def ACw:PO X none ABA:=by intro pins s Y H Q I h;rw[evalPart_none];exact AM ⟨none,H,I,.none,h⟩
def ACv(h:PE X e te):PO X (some e) (AA5 te):=by intro pins s Y H Q I hw;rw[evalPart_some];refine Af (h pins s Y H _ I hw) λu s1 z2_=>?_;obtain⟨x,H1,I1,r1,q1⟩:=z2_;obtain⟨i,rfl,q⟩:=q1;obtain⟨t,rfl⟩:=r1;exact⟨some i,H1,I1,.int i t,q⟩
abbrev Fv(X:Cx)(r:V->Option Int->Option Int->Hp->VK->Prop):Prop :=
 ∀(pins:List (Addr×Obj)) (s:Shared) (Y:St) (H:Hp) (x:V) (v vl vu:Value) (lo hi:Option Int) (sl:Addr) (Q:VK),AI X pins Y H s->AY x v->s.heap.IsSliceOf sl vl vu .none->IsPart vl lo->IsPart vu hi->r x lo hi H Q ->
  ∃T id,typeLookup (.type T) "__getitem__"=pure (some (.builtin id))/\s.TypeIs v T/\wpAny (model X.prog X.w) X.A (getItem v (.ref sl)) (EP X pins Y Q) X.xe s
def Fv.or{r r':V->Option Int->Option Int->Hp->VK->Prop}(h:Fv X r)(h':Fv X r'):Fv X (λx lo hi H Q=>r x lo hi H Q\/r' x lo hi H Q):=by
 intro pins s Y H x v vl vu lo hi sl Q I rx hs pl pu q;rcases q with q|q
 .exact h pins s Y H x v vl vu lo hi sl Q I rx hs pl pu q
 .exact h' pins s Y H x v vl vu lo hi sl Q I rx hs pl pu q
abbrev tSl(r:V->Option Int->Option Int->Hp->VK->Prop)(te:TE)(tl th:TO):TE:=λY H Q=>te Y H λx H1=>tl Y H1 λl H2=>th Y H2 λu H3=>r x l u H3 Q
def ADM{r:V->Option Int->Option Int->Hp->VK->Prop}(hr:Fv X r)(he:PE X e te)(hl:PO X lo tl)(hu:PO X hi th):PE X (.Subscript e (.Slice lo hi none p2) pos) (tSl r te tl th):=by intro pins s Y H Q I h;refine Subscript_ (Af (he pins s Y H _ I h) λv s1 z2_=>?_);obtain⟨x,H1,I1,r1,q1⟩:=z2_;refine wpAny_Slice (Af (hl pins s1 Y H1 _ I1 q1) λvl s2 z2_=>?_);obtain⟨l,H2,I2,pl,q2⟩:=z2_;refine Af (hu pins s2 Y H2 _ I2 q2) λvu s3 z2_=>?_;obtain⟨u,H3,I3,pu,q3⟩:=z2_;rw[evalPart_none];refine AM ?_;have I4:AI X pins Y H3 {s3 with heap:=s3.heap.push {cls:=.type "slice",data:=.fields #[vl,vu,.none]}}:=I3.kept (t':=s3.toks) λb ob q=>Heap.get?_push_of_some _ q;obtain⟨T,id,hT,ht,hg⟩:=hr pins {s3 with heap:=s3.heap.push {cls:=.type "slice",data:=.fields #[vl,vu,.none]}} Y H3 x v vl vu l u s3.heap.objs.size Q I4 r1 (Heap.IsSliceOf.new ..) pl pu q3;show wpAny (model X.prog X.w) X.A (subscriptTail e (.Slice lo hi none p2) v (.ref s3.heap.objs.size)) (EP X pins Y Q) X.xe {s3 with heap:=s3.heap.push {cls:=.type "slice",data:=.fields #[vl,vu,.none]}};exact tail_any (ops:=[.ref s3.heap.objs.size,v]) ht hT hg (by with_unfolding_all rfl)
abbrev GJ(xs:List V)(lo hi:Option Int):List V:=(xs.drop (HT.sIx xs.length 0 lo)).take (HT.sIx xs.length xs.length hi-HT.sIx xs.length 0 lo)
def YB(xs:List V)(lo hi:Option Int):(GJ xs lo hi).length<=xs.length:=by unfold GJ;rw[FZ,List.length_drop];omega
abbrev ACE(K:AK):V->Option Int->Option Int->Hp->VK->Prop:=λx lo hi H Q=>∃a xs,x=.ref a/\BY K H a xs /\
 ¬(HT.sIx xs.length 0 lo=0/\HT.sIx xs.length xs.length hi=xs.length)/\∀p,H p=none->Q (.ref p) (upd H p (.tup (GJ xs lo hi)))
def ABh:Fv X (ACE X.K):=by
 intro pins s Y H x v vl vu lo hi sl Q I rx hs pl pu h;obtain⟨a,xs,rfl,hx,hw,q⟩:=h;cases rx;obtain⟨its,r,ht,hz⟩:=I.tuple hx;have hlen:its.toArray.size=xs.length:=by rw[BZ];exact r.length.symm
 refine⟨"tuple",_,PyProof.Rows.slot_tuple_getitem.lookup,ht.typeIs,?_⟩;refine HT.AJn ht hs pl pu (by rw[hlen];exact hw) ?_ (by rw[hlen];exact hz);rw[hlen];refine⟨.ref s.heap.objs.size,_,I.laid (t':=s.toks) (o:=.tup (GJ xs lo hi)) (λb ob q=>Heap.get?_push_of_some _ q) (Ae _) ?_,rfl,q _ (I.hok.fresh (Ae _))⟩;exact⟨CD (YB xs lo hi) hz,_,(r.drop (HT.sIx xs.length 0 lo)).take (HT.sIx xs.length xs.length hi-HT.sIx xs.length 0 lo),IsTup.new _ _⟩
abbrev ACL(K:AK):R2:=λx y H Q=>∃a b xs ys,x=.ref a/\y=.ref b/\BY K H a xs/\BY K H b ys/\xs≠[]/\xs.length+ys.length<=sizeLine /\
 (ys=[]->Q (.ref a) H)/\(ys≠[]->∀p,H p=none->Q (.ref p) (upd H p (.tup (xs++ys))))
def AX.nil_iff{xs:List V}{us:AM5}(r:AX xs us):us=[]↔xs=[]:=by
 cases r with
 |nil=>simp
 |cons _ _=>simp
def AD3:Ap X (binaryOp .Add) (ACL X.K):=by intro pins s Y H x y v u Q I rx ry h;obtain⟨a,b,xs,ys,rfl,rfl,ha,hb,hx,hz,q1,q2⟩:=h;cases rx;cases ry;obtain⟨its,r1,p1,_⟩:=I.tuple ha;obtain⟨its2,r2,p2,_⟩:=I.tuple hb;refine HT.AK3 p1 p2 (λz=>hx (r1.nil_iff.mp z)) (λz=>⟨.ref a,H,I,rfl,q1 (r2.nil_iff.mp z)⟩) (λz=>?_) (by rw[<-r1.length,<-r2.length];exact hz);refine⟨.ref s.heap.objs.size,_,I.laid (t':=s.toks) (o:=.tup (xs++ys)) (λb ob q=>Heap.get?_push_of_some _ q) (Ae _) ?_,rfl,q2 (λw=>z (r2.nil_iff.mpr w)) _ (I.hok.fresh (Ae _))⟩;exact⟨by rw[By];exact hz,_,r1.append r2,IsTup.new _ _⟩
end
abbrev ixN(n:Nat)(i:Int):Option Nat:=if 0<=i then (if i<n then some i.toNat else none) else if -(n:Int)<=i then some (i+n).toNat else none
abbrev atI{α:Type}(xs:List α)(i:Int):Option α:=(ixN xs.length i).bind λj=>xs[j]?
def Wl{n:Nat}{i:Int}{j:Nat}(h:ixN n i=some j):seqIndex? i n=some j/\j<n/\-(n:Int)<=i/\i<n:=by
 unfold ixN at h
 by_cases h0:0<=i
 .rw[if_pos h0] at h
  by_cases h1:i<n
  .rw[if_pos h1] at h;have e:i.toNat=j:=Option.some.inj h;exact⟨by rw[seqIndex_of h0 h1,e],by omega,by omega,h1⟩
  .rw[if_neg h1] at h;cases h
 .rw[if_neg h0] at h
  by_cases h1:-(n:Int)<=i
  .rw[if_pos h1] at h;have e:(i+n).toNat=j:=Option.some.inj h;exact⟨by rw[seqIndex_neg (by omega) h1,e],by omega,h1,by omega⟩
  .rw[if_neg h1] at h;cases h
def Nx{α:Type}{xs:List α}{i:Int}{v:α}(h:atI xs i=some v):∃j,seqIndex? i xs.length=some j/\xs[j]?=some v/\j<xs.length/\-(xs.length:Int)<=i/\i<xs.length:=by
 unfold atI at h
 cases e:ixN xs.length i with
 |none=>rw[e] at h;cases h
 |some j =>
  rw[e] at h;obtain⟨h1,h2,h3,h4⟩:=Wl e;exact⟨j,h1,h,h2,h3,h4⟩
def DZ{α:Type}{xs:List α}{j:Nat}{v:α}(h:xs[j]?=some v):atI xs (j:Int)=some v:=by
 have hj:j<xs.length:=(Ay.mp h).1
 have e:ixN xs.length (j:Int)=some j:=by unfold ixN;rw[if_pos (by omega),if_pos (by omega)];simp
 unfold atI;rw[e];exact h
def AG7{α:Type}(xs:List α)(v:α):atI (xs++[v]) (-1)=some v:=by
 have hl:(xs++[v]).length=xs.length+1:=by simp
 have e:ixN (xs++[v]).length (-1)=some xs.length:=by
  unfold ixN;rw[hl,if_neg (by decide),if_pos (by omega)]
  congr 1
  omega
 unfold atI;rw[e];show(xs++[v])[xs.length]?=some v;simp
abbrev Sk(b:Expr):Prop:=∀o i,subscripted b false o i=operate [o,i] (getItem o i)
abbrev Ew(X:Cx)(r:R2):Prop :=
 ∀(value slice:Expr) (pins:List (Addr×Obj)) (s:Shared) (Y:St) (H:Hp) (x y:V) (v u:Value) (Q:VK),AI X pins Y H s->AY x v->AY y u->r x y H Q ->
  subscripted slice false v u=operate [v,u] (getItem v u)->wpAny (model X.prog X.w) X.A (subscriptTail value slice v u) (EP X pins Y Q) X.xe s
abbrev Ev(X:Cx)(id:String)(r:V->List V->Hp->VK->Prop):Prop :=
 ∀(pins:List (Addr×Obj)) (s:Shared) (Y:St) (H:Hp) (x:V) (xs:List V) (v:Value) (us:AM5) (Q:VK),AI X pins Y H s->AY x v->AX xs us->r x xs H Q ->
  wpAny (model X.prog X.w) X.A (call (.builtin id) (v::us)) (EP X pins Y Q) X.xe s
section
variable {X:Cx}{a b:Expr}{ta tb:TE}{pos:Pos}
def Ew.or{r r':R2}(h:Ew X r)(h':Ew X r'):Ew X (λx y H Q=>r x y H Q\/r' x y H Q):=by
 intro value slice pins s Y H x y v u Q I rx ry q hs;rcases q with q|q
 .exact h value slice pins s Y H x y v u Q I rx ry q hs
 .exact h' value slice pins s Y H x y v u Q I rx ry q hs
def Ev.or{id:String}{r r':V->List V->Hp->VK->Prop}(h:Ev X id r)(h':Ev X id r'):Ev X id (λx xs H Q=>r x xs H Q\/r' x xs H Q):=by
 intro pins s Y H x xs v us Q I rx rs q;rcases q with q|q
 .exact h pins s Y H x xs v us Q I rx rs q
 .exact h' pins s Y H x xs v us Q I rx rs q
def ADU{r:R2}(hr:Ew X r)(ha:PE X a ta)(hb:PE X b tb)(hs:Sk b):PE X (.Subscript a b pos) (Kd r ta tb):=by intro pins s Y H Q I h;exact Subscript_ (SY ha hb I h λv u s2 x y H2 I2 rx ry q=>hr a b pins s2 Y H2 x y v u Q I2 rx ry q (hs _ _))
abbrev VU(K:AK):R2:=λx y H Q=>∃p xs i v,x=.ref p/\y=.int i/\BH K H p xs/\atI xs i=some v/\Q v H
abbrev VS(K:AK):R2:=λx y H Q=>∃p xs i v,x=.ref p/\y=.int i/\BY K H p xs/\atI xs i=some v/\Q v H
abbrev VT:R2:=λx y H Q=>∃z i c,x=.str z/\y=.int i/\z.length<=sizeLine/\atI z.cps.toList i=some c/\Q (.str ⟨#[c]⟩) H
def AFG:Ew X (VU X.K):=by
 intro value slice pins s Y H x y v u Q I rx ry h hs;obtain⟨p,xs,i,z,rfl,rfl,hq,he,q⟩:=h;cases rx;obtain⟨t,rfl⟩:=ry;obtain⟨its,r,pl,hz⟩:=I.list hq;obtain⟨j,h1,h2,h3,h4,h5⟩:=Nx he;obtain⟨w,ew,rw'⟩:=r.get h2;have hl:=r.length;have hn:=JJ;have fin:EP X pins Y Q w s:=⟨z,H,I,rw',q⟩
 by_cases h0:0<=i
 .have hj:i.toNat=j:=by
   rw[seqIndex_of h0 h5] at h1;exact Option.some.inj h1
  exact item_listR pl.isList h0 (by omega) (by rw[hj];simpa using ew) fin hs
 .have hj:(i+(its.toArray.size:Int)).toNat=j:=by
   rw[seqIndex_neg (by omega) h4] at h1;rw[BZ,<-hl];exact Option.some.inj h1
  exact subscriptTail_builtinR (x:=w) pl.isList.typeIs slot_list_getitem.lookup
   (wpAny_getItem_list_neg (Q:=λr s'=>r=w/\EP X pins Y Q r s') pl.isList (by omega) (by rw[BZ] <;> omega) (by omega) (by rw[hj];simpa using ew) ⟨rfl,fin⟩) hs
def AFD:Ew X (VS X.K):=by
 intro value slice pins s Y H x y v u Q I rx ry h hs;obtain⟨p,xs,i,z,rfl,rfl,hq,he,q⟩:=h;cases rx;obtain⟨t,rfl⟩:=ry;obtain⟨its,r,pl,hz⟩:=I.tuple hq;obtain⟨j,h1,h2,h3,h4,h5⟩:=Nx he;obtain⟨w,ew,rw'⟩:=r.get h2;have hl:=r.length;have hn:=JJ;have fin:EP X pins Y Q w s:=⟨z,H,I,rw',q⟩
 exact subscriptTail_builtinR (x:=w) pl.typeIs slot_tuple_getitem.lookup
  (getItem_tuple (j:=j) (Q:=λr s'=>r=w/\EP X pins Y Q r s') pl (by omega) (by omega) (by rw[BZ,<-hl];exact h1) (by simpa using ew) ⟨rfl,fin⟩) hs
def AFE:Ew X VT:=by
 intro value slice pins s Y H x y v u Q I rx ry h hs;obtain⟨z,i,c,rfl,rfl,hz,he,q⟩:=h;obtain⟨t,rfl⟩:=rx;obtain⟨t',rfl⟩:=ry;obtain⟨j,h1,h2,h3,h4,h5⟩:=Nx he;have hl:z.cps.toList.length=z.length:=by simp[Str.length]
 rw[hl] at h1 h4 h5;have hn:=JJ
 exact tail_any (typeIs_str s z t) slot_str_getitem.lookup (getItem_str (c:=c) (by
  have e1:decide (i < -(2 ^ 63:Int))=false:=decide_eq_false (by omega);have e2:decide (i ≥ 2 ^ 63)=false:=decide_eq_false (by omega)
  rw[e1,e2,Bool.or_false]) (by rw[h1];simpa using h2) ⟨.str ⟨#[c]⟩,H,I.tok _,⟨_,rfl⟩,q⟩) hs
abbrev rIx(K:AK):R2:=λx y H Q=>VU K x y H Q\/VS K x y H Q\/VT x y H Q
def AFF:Ew X (rIx X.K):=AFG.or (AFD.or AFE)
def AEY(its:AM5)(n j:Nat)(u:Value):Obj.mapSeq (·.setIfInBounds j u) {cls:=.type "list",data:=.seq its.toArray n}={cls:=.type "list",data:=.seq (its.set j u).toArray n}:=by simp[Obj.mapSeq]
def AI.lst{pins:List (Addr×Obj)}{Y:St}{H:Hp}{s:Shared}{p:Addr}{xs:List V}(I:AI X pins Y H s)(h:H p=some (.lst xs)) :
  ∃(its:AM5) (n:Nat),AX xs its/\s.heap.get? p=some {cls:=.type "list",data:=.seq its.toArray n}/\xs.length<=sizeLine:=by
 obtain⟨z,its,n,r,e⟩:=I.hok p _ h;exact⟨its,n,r,e,z⟩
def AI.lstUpd{pins:List (Addr×Obj)}{Y:St}{H:Hp}{s:Shared}{p:Addr}{xs ys:List V}{its its':AM5}{n n':Nat}{f:Obj->Obj}(I:AI X pins Y H s)(h:H p=some (.lst xs))
  (ho:s.heap.get? p=some {cls:=.type "list",data:=.seq its.toArray n}) (hf:f {cls:=.type "list",data:=.seq its.toArray n}={cls:=.type "list",data:=.seq its'.toArray n'}) (r:AX ys its') (hz:ys.length<=sizeLine) (t:Nat) :
  AI X pins Y (upd H p (.lst ys)) {s with heap:=s.heap.update p f,toks:=t}:=by
 have e:(s.heap.update p f).get? p=some {cls:=.type "list",data:=.seq its'.toArray n'}:=by rw[Heap.get?_update_self f ho (by rw[hf] <;> rfl),hf]
 refine I.write (x:=p) (e:=p) (by rw[h];trivial) (.inl rfl) (λb u hb q=>(Heap.get?_update_other _ _ (Ne.symm hb)).trans q) ⟨_,e⟩ ?_;exact⟨hz,its',n',r,e⟩
abbrev ACG:V->V->V->Hp->(Hp->Prop)->Prop:=λo i v H Q=>∃p xs k j,o=.ref p/\i=.int k/\H p=some (.lst xs)/\ixN xs.length k=some j/\Q (upd H p (.lst (xs.set j v)))
def ABo:Sl X ACG:=by
 intro pins s Y H o i v ov iv u Q I ro ri rv h;obtain⟨p,xs,k,j,rfl,rfl,hp,hj,q⟩:=h;cases ro;obtain⟨t,rfl⟩:=ri;obtain⟨its,n,r,ho,hz⟩:=I.lst hp;obtain⟨h1,h2,h3,h4⟩:=Wl hj;have hl:=r.length;have hn:=JJ
 have I':AI X pins Y (upd H p (.lst (xs.set j v))) {s with heap:=s.heap.update p (Obj.mapSeq (·.setIfInBounds j u))} :=
  I.lstUpd hp ho (AEY its n j u) (r.set rv j) (by rw[ALr];exact hz) s.toks
 by_cases h0:0<=k
 .have hk:k.toNat=j:=by
   rw[seqIndex_of h0 h4] at h1;exact Option.some.inj h1
  exact PySem.W.ki_setAt ho h0 (by omega) (by rw[BZ,<-hl];exact h4) (by rw[hk];exact⟨_,I',q⟩)
 .have hk:(k+(its.toArray.size:Int)).toNat=j:=by
   rw[seqIndex_neg (by omega) h3] at h1;rw[BZ,<-hl];exact Option.some.inj h1
  exact PySem.W.ki_setBack ho (by omega) (by rw[BZ,<-hl];exact h3) (by omega) (by rw[hk];exact⟨_,I',q⟩)
def ABe(lo hi:Option Int)(n:Nat):(sliceBounds lo hi none n).1=((HT.sIx n 0 lo:Nat):Int)/\(sliceBounds lo hi none n).2.1=((HT.sIx n n hi:Nat):Int)/\(sliceBounds lo hi none n).2.2=1:=by
 refine⟨?_,?_,rfl⟩
 .cases lo with
  |none=>simp[sliceBounds,HT.sIx]
  |some i =>
   simp only[sliceBounds,HT.sIx,Option.getD_none,show(1:Int)>0 by decide,if_true]
   by_cases h:i<0
   .simp only[h,if_true] <;> omega
   .simp only[h,if_false] <;> omega
 .cases hi with
  |none=>simp[sliceBounds,HT.sIx]
  |some i =>
   simp only[sliceBounds,HT.sIx,Option.getD_none,show(1:Int)>0 by decide,if_true]
   by_cases h:i<0
   .simp only[h,if_true] <;> omega
   .simp only[h,if_false] <;> omega
def ABf(its:AM5)(lo hi:Option Int):slicePick its.toArray lo hi none=((its.drop (HT.sIx its.length 0 lo)).take (HT.sIx its.length its.length hi-HT.sIx its.length 0 lo)).toArray:=by obtain⟨h1,h2,h3⟩:=ABe lo hi its.toArray.size;unfold slicePick;rw[h1,h2,h3];simp only[sliceRange_one,pick_run,BZ] <;> rfl
abbrev ACF(K:AK):V->Option Int->Option Int->Hp->VK->Prop:=λx lo hi H Q=>∃a xs,x=.ref a/\BH K H a xs/\∀p,H p=none->Q (.ref p) (upd H p (.lst (GJ xs lo hi)))
def ABj:Fv X (ACF X.K):=by intro pins s Y H x v vl vu lo hi sl Q I rx hs pl pu h;obtain⟨a,xs,rfl,hx,q⟩:=h;cases rx;obtain⟨its,r,ht,hz⟩:=I.list hx;have hlen:=r.length;refine⟨"list",_,slot_list_getitem.lookup,ht.isList.typeIs,?_⟩;refine wpAny_getItem_list_slice ht.isList hs pl pu .none (by simp) ?_ (by rw[BZ] <;> omega);rw[ABf,<-hlen];refine⟨.ref s.heap.objs.size,_,I.laid (t':=s.toks) (o:=.lst (GJ xs lo hi)) (λb ob q=>Heap.get?_push_of_some _ q) (Ae _) ?_,rfl,q _ (I.hok.fresh (Ae _))⟩;exact⟨CD (YB xs lo hi) hz,_,0,(r.drop (HT.sIx xs.length 0 lo)).take (HT.sIx xs.length xs.length hi-HT.sIx xs.length 0 lo),Heap.get?_push_size _ rfl⟩
abbrev Fp:V->Bool
 |.non=>true
 |.bl _=>true
 |.int _=>true
 |.str _=>true
 |_=>false
abbrev eqV:V->V->Bool
 |.non,.non=>true
 |.bl a,.bl b=>a == b
 |.bl a,.int b=>(if a then 1 else 0) == b
 |.int a,.bl b=>a == (if b then 1 else 0)
 |.int a,.int b=>a == b
 |.str a,.str b=>a == b
 |_,_=>false
def Xn{A:Around}{s:Shared}{y x:V}{u v:Value}(ry:AY y u)(rx:AY x v)(fy:Fp y=true)(fx:Fp x=true):SeqAt.EqAt A s u v (eqV y x):=by
 cases y with
 |non =>
  cases ry
  cases x with
  |non=>cases rx;exact SeqAt.EqAt.same _
  |bl b=>cases rx;exact SeqAt.EqAt.none_bool b
  |int b=>obtain⟨t,rfl⟩:=rx;exact SeqAt.EqAt.none_int b t
  |str b=>obtain⟨t,rfl⟩:=rx;exact SeqAt.EqAt.none_str b t
  |_=>exact absurd (show false=true from fx) Bz
 |bl a =>
  cases ry
  cases x with
  |non=>cases rx;exact SeqAt.EqAt.bool_none a
  |bl b=>cases rx;exact SeqAt.EqAt.bool_bool a b
  |int b=>obtain⟨t,rfl⟩:=rx;exact SeqAt.EqAt.bool_int a b t
  |str b=>obtain⟨t,rfl⟩:=rx;exact SeqAt.EqAt.bool_str a b t
  |_=>exact absurd (show false=true from fx) Bz
 |int a =>
  obtain⟨t',rfl⟩:=ry
  cases x with
  |non=>cases rx;exact SeqAt.EqAt.int_none a t'
  |bl b=>cases rx;exact SeqAt.EqAt.int_bool a t' b
  |int b=>obtain⟨t,rfl⟩:=rx;exact SeqAt.EqAt.int_int a t' b t
  |str b=>obtain⟨t,rfl⟩:=rx;exact SeqAt.EqAt.int_str a t' b t
  |_=>exact absurd (show false=true from fx) Bz
 |str a =>
  obtain⟨t',rfl⟩:=ry
  cases x with
  |non=>cases rx;exact SeqAt.EqAt.str_none a t'
  |bl b=>cases rx;exact SeqAt.EqAt.str_bool a t' b
  |int b=>obtain⟨t,rfl⟩:=rx;exact SeqAt.EqAt.str_int a t' b t
  |str b=>obtain⟨t,rfl⟩:=rx;exact SeqAt.EqAt.str_str a t' b t
  |_=>exact absurd (show false=true from fx) Bz
 |_=>exact absurd (show false=true from fy) Bz
abbrev ET(x:V)(u:Value):Bool:=match u with
 |.none=>eqV .non x
 |.bool b=>eqV (.bl b) x
 |.int i _=>eqV (.int i) x
 |.str z _=>eqV (.str z) x
 |_=>false
def Xk{x y:V}{u:Value}(r:AY y u)(f:Fp y=true):ET x u=eqV y x:=by
 cases y with
 |non=>cases r;rfl
 |bl b=>cases r;rfl
 |int i=>obtain⟨t,rfl⟩:=r;rfl
 |str z=>obtain⟨t,rfl⟩:=r;rfl
 |_=>exact absurd (show false=true from f) Bz
def LU{x:V}:∀{xs:List V} {us:AM5},AX xs us->xs.all Fp=true->us.any (ET x)=xs.any λy=>eqV y x
 |_,_,.nil,_=>rfl
 |y::xs,u::us,.cons r t,f=>by
  rw[ALi,Bn] at f;rw[ALZ,ALZ,Xk r f.1,LU t f.2]
def Km{A:Around}{s:Shared}{x:V}{v:Value}(rx:AY x v)(fx:Fp x=true):∀{xs:List V} {us:AM5},AX xs us->xs.all Fp=true->∀u∈us,SeqAt.EqAt A s u v (ET x u)
 |_,_,.nil,_=>λu hu=>by cases hu
 |y::xs,u::us,.cons r t,f=>λu' hu=>by
  rw[ALi,Bn] at f;rcases Aa.mp hu with rfl|hu
  .rw[Xk r f.1];exact Xn r rx f.1 fx
  .exact Km rx fx t f.2 u' hu
abbrev Ro(x:V)(xs:List V):Bool:=xs.any λy=>eqV y x
abbrev RD(K:AK)(neg:Bool):R2:=λx y H Q=>∃p xs,y=.ref p/\(BH K H p xs\/BY K H p xs)/\Fp x=true/\xs.all Fp=true/\Q (.bl (if neg then !Ro x xs else Ro x xs)) H
def ADz:Ap X (compareOp .In) (RD X.K false):=by
 intro pins s Y H x y v u Q I rx ry h;obtain⟨p,xs,rfl,hq,fx,fs,q⟩:=h;cases ry;rcases hq with hq|hq
 .obtain⟨its,r,pl,hz⟩:=I.list hq;refine SeqAt.in_listAt (ET x) pl.isList (λw hw=>Km rx fx r fs w (by simpa using hw)) ⟨.bl _,H,I,rfl,?_⟩;rw[show its.toArray.any (ET x)=its.any (ET x) by simp,LU r fs];exact q
 .obtain⟨its,r,pl,hz⟩:=I.tuple hq;refine SeqAt.in_tupleAt (ET x) pl (λw hw=>Km rx fx r fs w (by simpa using hw)) ⟨.bl _,H,I,rfl,?_⟩;rw[show its.toArray.any (ET x)=its.any (ET x) by simp,LU r fs];exact q
def ADt:Ap X (compareOp .NotIn) (RD X.K true):=by
 intro pins s Y H x y v u Q I rx ry h;obtain⟨p,xs,rfl,hq,fx,fs,q⟩:=h;cases ry;rcases hq with hq|hq
 .obtain⟨its,r,pl,hz⟩:=I.list hq;refine SeqAt.notIn_listAt (ET x) pl.isList (λw hw=>Km rx fx r fs w (by simpa using hw)) ⟨.bl _,H,I,rfl,?_⟩;rw[show its.toArray.any (ET x)=its.any (ET x) by simp,LU r fs];exact q
 .obtain⟨its,r,pl,hz⟩:=I.tuple hq;refine SeqAt.notIn_tupleAt (ET x) pl (λw hw=>Km rx fx r fs w (by simpa using hw)) ⟨.bl _,H,I,rfl,?_⟩;rw[show its.toArray.any (ET x)=its.any (ET x) by simp,LU r fs];exact q
def AGk:CV X (.builtin "len") (λxs H Q=>∃p ys,xs=[.ref p]/\(BH X.K H p ys\/BY X.K H p ys)/\Q (.int ys.length) H):=by
 intro pins s Y H xs us Q I r h;obtain⟨p,ys,rfl,hq,q⟩:=h;obtain⟨u,rfl,rx⟩:=Dy r;cases rx;have hn:=JJ;rcases hq with hq|hq
 .obtain⟨its,r',pl,hz⟩:=I.list hq;have hlen:=r'.length;exact Calls.call_len_list pl.isList (by simp only[BZ] <;> omega) ⟨.int ys.length,H,I.tok _,⟨s.toks+1,by rw[BZ,hlen]⟩,q⟩
 .obtain⟨its,r',pl,hz⟩:=I.tuple hq;have hlen:=r'.length;exact len_tuple pl (by simp only[BZ] <;> omega) ⟨.int ys.length,H,I.tok _,⟨s.toks+1,by rw[BZ,hlen]⟩,q⟩
def AGj:CV X (.builtin "len") (λxs H Q=>∃z,xs=[.str z]/\z.length<=sizeLine/\Q (.int z.length) H):=by intro pins s Y H xs us Q I r h;obtain⟨z,rfl,hz,q⟩:=h;obtain⟨u,rfl,t,rfl⟩:=Dy r;have hn:=JJ;exact len_str (by omega) ⟨.int z.length,H,I.tok _,⟨_,rfl⟩,q⟩
def CV.or{f:Value}{r r':List V->Hp->VK->Prop}(h:CV X f r)(h':CV X f r'):CV X f (λxs H Q=>r xs H Q\/r' xs H Q):=by
 intro pins s Y H xs us Q I rs q;rcases q with q|q
 .exact h pins s Y H xs us Q I rs q
 .exact h' pins s Y H xs us Q I rs q
def AGg:CV X (.type "tuple") (λxs H Q=>∃p ys,xs=[.ref p]/\((BH X.K H p ys/\∀l,H l=none->Q (.ref l) (upd H l (.tup ys)))\/(BY X.K H p ys/\Q (.ref p) H))):=by
 intro pins s Y H xs us Q I r h;obtain⟨p,ys,rfl,h⟩:=h;obtain⟨u,rfl,rx⟩:=Dy r;cases rx;rcases h with⟨hq,q⟩|⟨hq,q⟩
 .obtain⟨its,r',pl,hz⟩:=I.list hq;have hlen:=r'.length;refine call_tuple_list pl.isList (λh' kp=>?_) (by simp only[BZ] <;> omega);have I1:AI X pins Y H {s with heap:=h'}:=I.kept (t':=s.toks) kp
  have I2:AI X pins Y (upd H h'.objs.size (.tup ys)) {s with heap:=h'.push {cls:=.type "tuple",data:=.seq its.toArray}} :=
   I1.laid (t':=s.toks) (λb o e=>Heap.get?_push_of_some _ e) (Ae _) (show Bq X.prog X.w _ _ _ (.tup ys) from ⟨hz,its,r',IsTup.new _ _⟩)
  exact⟨.ref h'.objs.size,_,I2,rfl,q _ (I1.hok.fresh (Ae _))⟩
 .obtain⟨its,r',pl,hz⟩:=I.tuple hq;exact call_tuple_same pl ⟨.ref p,H,I,rfl,q⟩
abbrev Ms(K:AK)(T:String)(x:V)(H:Hp):Prop:=match x with
 |.str _=>T = "str"
 |.int _=>T = "int"
 |.ref p=>(T = "list"/\∃xs,BH K H p xs)\/(T = "tuple"/\∃o,K.lookup p=some o/\o.cls=.type "tuple"/\o.dict=none) \/
   (T = "dict"/\((∃kvs,H p=some (.dK kvs))\/(∃kvs,H p=some (.dT kvs))\/∃kvs ep,H p=some (.dN kvs ep)))\/(T = "set"/\∃S n,H p=some (.set S n))
 |_=>False
def UW{pins:List (Addr×Obj)}{Y:St}{H:Hp}{s:Shared}{T:String}{x:V}{v:Value}(I:AI X pins Y H s)(r:AY x v)(ty:Ms X.K T x H) :
  s.TypeIs v T/\∀a,v=.ref a->∃ob,s.heap.get? a=some ob/\ob.dict=none:=by
 cases x with
 |str z =>
  obtain⟨t,rfl⟩:=r;cases (show T = "str" from ty);exact⟨typeIs_str s z t,λ_ e=>nomatch e⟩
 |int i =>
  obtain⟨t,rfl⟩:=r;cases (show T = "int" from ty);exact⟨typeIs_int s i t,λ_ e=>nomatch e⟩
 |ref p =>
  cases r;rcases ty with⟨rfl,xs,hq⟩|⟨rfl,o,hk,hc,hd⟩|⟨rfl,hk⟩|⟨rfl,S,n,hk⟩
  .obtain⟨its,_,pl,_⟩:=I.list hq;refine⟨pl.isList.typeIs,λa e=>?_⟩;cases e;obtain⟨o,n,e,c,hd,_⟩:=pl;exact⟨o,e,hd⟩
  .refine⟨⟨o,I.kIn p o hk,hc⟩,λa e=>?_⟩;cases e;exact⟨o,I.kIn _ o hk,hd⟩
  .have z:∃o,s.heap.get? p=some o/\o.ExactDict:=by
    rcases hk with⟨kvs,hk⟩|⟨kvs,hk⟩|⟨kvs,ep,hk⟩
    .obtain⟨_,_,_,_,o,_,_,e,ex,_⟩:=I.hok p _ hk;exact⟨o,e,ex⟩
    .obtain⟨_,_,_,_,o,_,_,e,ex,_⟩:=I.hok p _ hk;exact⟨o,e,ex⟩
    .obtain⟨_,_,_,_,o,_,e,ex,_⟩:=I.hok p _ hk;exact⟨o,e,ex⟩
   obtain⟨o,e,ex⟩:=z;refine⟨⟨o,e,ex.1⟩,λa e2=>?_⟩;cases e2;exact⟨o,e,ex.2.1⟩
  .obtain⟨o,_,_,_,e,ex,_⟩:=I.hok p _ hk;refine⟨⟨o,e,ex.1⟩,λa e2=>?_⟩;cases e2;exact⟨o,e,ex.2.1⟩
 |_=>exact False.elim ty
abbrev ABL(K:AK)(T:String)(r:V->List V->Hp->VK->Prop)(to:TE):TE:=λY H Q=>to Y H λx H1=>Ms K T x H1/\r x [] H1 Q
abbrev tBM(K:AK)(T:String)(r:V->List V->Hp->VK->Prop)(to:TE)(t:TA):TE:=λY H Q=>to Y H λx H1=>Ms K T x H1/\t Y H1 λxs H2=>r x xs H2 Q
variable {o e:Expr}{es:AM7}{to:TE}{t:TA}{name:Str}{apos cpos:Pos}{T id:String}{r:V->List V->Hp->VK->Prop}
def ADe(pa:PlainAttrs T)(slot:Slot T name id)(hty:typeOf (.builtin id)=pure (.type "method_descriptor"))(hm:Ev X id r)(ho:PE X o to)
  (hbase:attributeBase o name X.env (eval o X.env)=eval o X.env:=by rfl) (hline:(apos.endLine == cpos.line)=true:=by rfl):PE X (.Call (.Attribute o name apos) [] [] cpos) (ABL X.K T r to):=by
 intro pins s Y H Q I h;refine wpAny_Call_method0_late hbase hline (Af (ho pins s Y H _ I h) λv s1 z2_=>?_);obtain⟨x,H1,I1,r1,ty,q1⟩:=z2_;obtain⟨h1,h2⟩:=UW I1 r1 ty;exact⟨T,id,pa,slot,hty,h1,h2,Calls.callWith_builtin rfl (PySem.evalArgs_none (hm pins s1 Y H1 x [] v [] Q I1 r1 .nil q1))⟩
def ADf(pa:PlainAttrs T)(slot:Slot T name id)(hty:typeOf (.builtin id)=pure (.type "method_descriptor"))(hm:Ev X id r)(ho:PE X o to)(ha:PA X (e::es) t)
  (hbase:attributeBase o name X.env (eval o X.env)=eval o X.env:=by rfl)
  (hfew:((backTo cpos (starEach (e::es) X.env)).all (λx=>!x.1)&&(backToKw cpos (keywordEach [] X.env)).all (λx=>x.1.isSome)
   && decide ((e::es).length+([]:List Keyword).length+(if ([]:List Keyword).isEmpty then 0 else 1)<30))=true:=by rfl)
  (hline:(apos.endLine == cpos.line)=true:=by rfl) (hs:starEach (e::es) X.env=(false,eval e X.env)::starEach es X.env:=by rfl) (hplain:(backTo cpos (starEach es X.env)).any (·.1)=false:=by rfl) :
  PE X (.Call (.Attribute o name apos) (e::es) [] cpos) (tBM X.K T r to t):=by
 intro pins s Y H Q I h;refine wpAny_Call_method_late hbase hfew hline rfl (Af (ho pins s Y H _ I h) λv s1 z2_=>?_);obtain⟨x,H1,I1,r1,ty,q1⟩:=z2_;obtain⟨h1,h2⟩:=UW I1 r1 ty;refine⟨T,id,pa,slot,hty,h1,h2,?_⟩;have hA:=ha cpos pins s1 Y H1 _ I1 q1;rw[hs] at hA ⊢;refine Calls.callWith_builtin (by show(false || (backTo cpos (starEach es X.env)).any (·.1))=false;rw[hplain] <;> rfl) (Calls.evalArgs_plain ?_);exact Af hA λus s2 z2_=>by obtain⟨vs,H2,I2,r2,q2⟩:=z2_;exact hm pins s2 Y H2 x vs v us Q I2 r1 r2 q2
end
abbrev Yw(X:Cx)(id:String)(r:V->List V->Hp->VK->Prop):Prop :=
 ∀(pins:List (Addr×Obj)) (s:Shared) (Y:St) (H:Hp) (x:V) (xs:List V) (v:Value) (us:AM5) (Q:VK),AI X pins Y H s->AY x v->AX xs us->r x xs H Q ->
  wpAny (model X.prog X.w) X.A (call (.builtin id) (v::us)) (EP X pins Y Q) X.xe s
def AX.one:∀{x:V} {us:AM5},AX [x] us->∃u,us=[u]/\AY x u
 |_,_,.cons r .nil=>⟨_,rfl,r⟩
def AX.zero:∀{us:AM5},AX [] us->us=[]
 |_,.nil=>rfl
def AX.reverse{xs:List V}{us:AM5}(h:AX xs us):AX xs.reverse us.reverse:=by
 induction h with
 |nil=>exact .nil
 |cons r t ih=>rw[AMQ,AMQ];exact AX.append ih (.cons r .nil)
section
variable {X:Cx}{pins:List (Addr×Obj)}{Y:St}{H:Hp}{s:Shared}{l b:Addr}{xs ys zs:List V}
def AI.lset{its its':AM5}{n:Nat}{f:Array Value->Array Value}{t':Nat}(I:AI X pins Y H s)(hH:H l=some (.lst xs))
  (e:s.heap.get? l=some {cls:=.type "list",data:=.seq its.toArray n}) (hf:f its.toArray=its'.toArray) (hv:AX ys its') (hz:ys.length<=sizeLine) :
  AI X pins Y (upd H l (.lst ys)) {s with heap:=s.heap.update l (Obj.mapSeq f),toks:=t'}:=by
 have q:=PySem.IsL.update e f;rw[hf] at q;refine I.write (x:=l) (e:=l) (by rw[hH];exact trivial) (.inl rfl) (λb' u hb hu=>(Heap.get?_update_other s.heap (Obj.mapSeq f) (Ne.symm hb)).trans hu) ⟨_,q⟩ ?_;exact⟨hz,its',_,hv,q⟩
def AI.lnew{its:AM5}{t':Nat}(I:AI X pins Y H s)(hv:AX ys its)(hz:ys.length<=sizeLine) :
  AI X pins Y (upd H s.heap.objs.size (.lst ys)) {s with heap:=s.heap.push {cls:=.type "list",data:=.seq its.toArray},toks:=t'} :=
 I.laid (λ_ _ q=>Heap.get?_push_of_some _ q) (Ae _) ⟨hz,its,0,hv,Heap.get?_push_size _ rfl⟩
def AI.fresh(I:AI X pins Y H s):H s.heap.objs.size=none:=I.hok.fresh (Ae _)
def AI.lstM(I:AI X pins Y H s)(hH:H l=some (.lst xs)):xs.length<=sizeLine/\∃(its:AM5) (n:Nat),AX xs its/\xs.length=its.length/\s.heap.get? l=some {cls:=.type "list",data:=.seq its.toArray n}:=by obtain⟨z,its,n,r,e⟩:=I.hok l _ hH;exact⟨z,its,n,r,r.length,e⟩
def AEE{n:Nat}(h:n<=sizeLine):Builtin.List.listTooLong n=false:=by unfold Builtin.List.listTooLong;exact decide_eq_false (by omega)
end
section
variable {X:Cx}
abbrev VV:V->List V->Hp->VK->Prop:=λx vs H Q=>∃l xs y,x=.ref l/\vs=[y]/\H l=some (.lst xs)/\xs.length<sizeLine/\Q .non (upd H l (.lst (xs++[y])))
def WD:Yw X "list.append" VV:=by intro pins s Y H x vs v us Q I rx rv h;obtain⟨l,xs,y,rfl,rfl,hH,hz,q⟩:=h;cases rx;obtain⟨u,rfl,ru⟩:=rv.one;obtain⟨z,its,n,r,hl,e⟩:=I.lstM hH;refine call_meets F.slot_list_append ⟨_,e,rfl⟩ F.entry_list_append (F.args_list_append_2 _ _) (PySem.list_append l its.toArray n u (by rw[BZ];omega)) ⟨e,?_⟩;refine⟨.non,_,I.lset (its':=its++[u]) hH e (by simp) (r.append (.cons ru .nil)) ?_,rfl,q⟩;rw[By,List.length_singleton];omega
abbrev rExtend:V->List V->Hp->VK->Prop:=λx vs H Q=>∃l b xs zs,x=.ref l/\vs=[.ref b]/\H l=some (.lst xs)/\H b=some (.lst zs)/\xs.length+zs.length<=sizeLine/\Q .non (upd H l (.lst (xs++zs)))
def AEN:Yw X "list.extend" rExtend:=by
 intro pins s Y H x vs v us Q I rx rv h;obtain⟨l,b,xs,zs,rfl,rfl,hH,hB,hz,q⟩:=h;cases rx;obtain⟨u,rfl,ru⟩:=rv.one;cases ru;obtain⟨z,its,n,r,hl,e⟩:=I.lstM hH;obtain⟨z2,its2,n2,r2,hl2,e2⟩:=I.lstM hB;have hsz:its.toArray.size+its2.toArray.size<=sizeLine:=by rw[BZ,BZ];omega
 have hlong:¬(!its.toArray.isEmpty&&Builtin.List.listTooLong (its.toArray.size+its2.toArray.size))=true:=by rw[AEE hsz,Bool.and_false];exact Bz
 refine call_meets F.slot_list_extend ⟨_,e,rfl⟩ F.entry_list_extend (F.args_list_extend_2 _ _)
  (AutoSeq1.list_extend_list_list_0 l its.toArray n b its2.toArray n2 hlong (by rw[BZ];omega) (by omega)) ⟨e,e2,?_⟩
 refine⟨.non,_,I.lset (its':=its++its2) hH e (by simp) (r.append r2) ?_,rfl,q⟩;rw[By];omega
abbrev rCat:R2:=λx y H Q=>∃l b xs zs,x=.ref l/\y=.ref b/\H l=some (.lst xs)/\H b=some (.lst zs)/\xs.length+zs.length<=sizeLine/\∀p,H p=none->Q (.ref p) (upd H p (.lst (xs++zs)))
def AD4:Ap X (binaryOp .Add) rCat:=by
 intro pins s Y H x y v u Q I rx ry h;obtain⟨l,b,xs,zs,rfl,rfl,hH,hB,hz,q⟩:=h;cases rx;cases ry;obtain⟨z,its,n,r,hl,e⟩:=I.lstM hH;obtain⟨z2,its2,n2,r2,hl2,e2⟩:=I.lstM hB;refine PySem.P.add_list e e2 ?_ (by rw[BZ,BZ];omega);have ea:its.toArray++its2.toArray=(its++its2).toArray:=by simp
 rw[ea];exact⟨.ref _,_,I.lnew (t':=s.toks) (r.append r2) (by rw[By];omega),rfl,q _ I.fresh⟩
end
section
variable {prog:Program}{w:World}{A:Around}{E:ANB}{s:Shared}
set_option maxRecDepth 100000 in
end
end L2
namespace Att
open PySem PySem.W PySem.Calls PyProof.Rows
def ints_of_wellAll{P:Params}{h:Heap}:∀(ns:ANA) (vs:AM5),WellAll P h vs (ns.map WData.int)->IntsAre vs ns:=by
 intro ns
 induction ns with
 |nil =>
  intro vs w;rw[AL1] at w;cases w;exact .nil
 |cons n ns ih =>
  intro vs w;rw[Ak] at w
  cases w with
  |cons a b =>
   cases a;exact .cons _ _ (ih _ b)
def AIq{l:OpenLaw}{n:Nat}(hn:l.most=some n){P:Params}{h:Heap}{args:List WData}{vals:AM5}
  (hpre:l.row.toRowW.claim.pre args=true) (hwl:WellAll P h vals args) :
  ∃a vs ns,vals=[Value.ref a]/\args=[WData.list (ns.map WData.int)]/\h.get? a=some {cls:=.type "list",data:=.seq vs.toArray}/\IntsAre vs ns/\ns.length<=n:=by
 have hsh:WShape.hasAll [] args [.list .int]=true:=(pre_splitW hpre).1;have hc:l.pre.holds [] {args:=args}=true:=(pre_splitW hpre).2;obtain⟨d,r,rfl,h1,h2⟩:=hasAllW_cons hsh;obtain rfl:=hasAllW_nil h2;obtain⟨xs,rfl,h3⟩:=hasW_list h1;obtain⟨ns,rfl⟩:=items_int h3
 have hlen:ns.length<=n:=by
  unfold OpenLaw.pre at hc
  have h4:(WTm.not (.lt (.lit (.int (n:Int))) (.len (.arg 0)))).holds [] {args:=[.list (ns.map .int)]}=true:=by have h4:=(holds_andW hc).1;rw[hn] at h4;exact h4
  have h5:=condW_of h4 (w_not (w_lt w_lit (w_len_list (w_arg rfl))));rw[Ah] at h5;refine Nat.le_of_not_lt λq=>?_;have q':(n:Int)<((ns.length:Nat):Int):=by omega
  first
   |(rw[decide_eq_true q'] at h5;exact absurd h5 (by decide))
   |(simp at h5;omega)
 cases hwl with
 |cons w1 w2 =>
  cases w2
  cases w1 with
  |list ho hall=>exact⟨_,_,ns,rfl,rfl,ho,ints_of_wellAll ns _ hall,hlen⟩
def AIw(l:OpenLaw)(args:List WData):l.row.toRowW.claim.post args (.bool true) args=true :=
 postW_of (r:=l.row.toRowW) (X:=(true == true))
  (show WShape.has [] (.bool true) .bool=true by first|rfl|decide|simp[WShape.has,WShape.arms,WShape.armsAll])
  (show(WTm.eq .res (.lit (.bool true))).value [] {args:=args,res:=some (.bool true),after:=args}=some (.bool (true == true)) from w_eq_bool (w_res rfl) w_lit) rfl
end Att
namespace L2
open PySem PySem.Spec PyProof.Rows
def US:∀{vs:AM5} {ns:ANA},IntsAre vs ns->AX (ns.map V.int) vs
 |_,_,.nil=>.nil
 |_,_,.cons n t h=>.cons ⟨t,rfl⟩ (US h)
abbrev Yv(H:Hp):Prop:=∀b,H b=none\/∃o xs,H b=some (.frz o (.lst xs))
def AE2{P:Program}{w:World}{K:AK}{mg mb:AM3}{CX:FV}{k:Nat}{fa a:Addr}{fd:FuncData}{x:Str}{sp:Sp}{s₁:Shared}{vs:AM5}{ns:ANA}
  (KX:K.In s₁.heap) (hns:s₁.heap.Ns mainGlobals mg) (hb:s₁.heap.Ns builtinsNs mb) (hbb:∀x:Str,x≠"__name__"->mb x=bootBuiltins x) (hlim:s₁.heap.NoLimit) (hg:s₁.gens=#[])
  (ha:s₁.heap.get? a=some {cls:=.type "list",data:=.seq vs.toArray}) (hi:IntsAre vs ns) (hl:ns.length<=sizeLine) (hr:Room k callerA)
  (F:∀base:Heap,K.In base->base.Ns mainGlobals mg->Cc P w K mg base CX k fa fd [x] sp) (hbind:∀(s:Shared) (u:Value),BindsTo s fd ⟨[u],[]⟩ [(x,u)])
  (hsp:∀H:Hp,Yv H->BH K H a (ns.map V.int)->sp [.ref a] H (λv _=>v=.bl true) λ_ _ _=>False)
  (hCX:∀H e s',CX [] H s₁ (λ_ _ _=>False) e s'->False) :
  codeAny (model P w) callerA (.call (.ref fa) ⟨[.ref a],[]⟩) (λr s'=>r=.ok (.ret (.bool true))/\OldK s₁.heap s'.heap/\s'.os=s₁.os/\AllBare s'.gens) s₁:=by
 have rv:=US hi;have lenV:=hi.length
 -- from an abstract heap in which nothing but the script may be tracked
 have core:∀H:Hp,Yv H->BH K H a (ns.map V.int)->Ca P w H s₁.heap->(∀b,H b≠none->b=a)->(H a≠none->K.lookup a=none) ->
   codeAny (model P w) callerA (.call (.ref fa) ⟨[.ref a],[]⟩) (λr s'=>r=.ok (.ret (.bool true))/\OldK s₁.heap s'.heap/\s'.os=s₁.os/\AllBare s'.gens) s₁:=by
  intro H hO hS hok hA hK;have base_of:∀{b:Addr} {o:Obj},s₁.heap.get? b=some o->H b=none->(HD s₁.heap H).get? b=some o:=λe n=>AFW e n
  have noA:∀{b:Addr} {o:Obj} {es:Array DictEntry} {ep:Nat},s₁.heap.get? b=some o->o.data=.dict es ep->H b=none:=λ{b o es ep} e d=>by
   cases q:H b with
   |none=>rfl
   |some u =>
    have e':b=a:=hA b (by rw[q];simp);subst e';rw[ha] at e;cases e;have d':Data.seq vs.toArray _=Data.dict es ep:=d;cases d'
  have nsK:∀{b:Addr} {m:AM3},s₁.heap.Ns b m->(HD s₁.heap H).Ns b m:=λ{b m} ⟨o,es,ep,e,d,r⟩=>⟨o,es,ep,base_of e (noA e d),d,r⟩
  have hKb:K.In (HD s₁.heap H):=λb o e=>base_of (KX b o e) (by
   cases q:H b with
   |none=>rfl
   |some u =>
    have e':b=a:=hA b (by rw[q];simp);subst e'
    rw[hK (by rw[q];simp)] at e;cases e)
  have hM:OJ K mg (HD s₁.heap H):=⟨hKb,nsK hns,⟨mb,nsK hb,hbb⟩,let ⟨mc,h1,h2⟩:=hlim;⟨mc,nsK h1,h2⟩⟩;have e0:Gw P w K mg (HD s₁.heap H) callerA [] s₁ H:=⟨rfl,hM,λb o e=>AD9 e,ALT (AFV _ _),trivial,λb hb=>absurd (show b∈([]:AM6) from hb) (by simp),hok,.of_eq hg⟩;refine codeAny_mono ((F _ hKb (nsK hns)).run callerA [] s₁ H ⟨[.ref a],[]⟩ [.ref a] [.ref a] _ _ hr e0 (hbind s₁ (.ref a)) (.cons rfl .nil) (hsp H hO hS)) λr s' h=>?_
  cases r with
  |error e=>exact(hCX H e s' h).elim
  |ok fl =>
   cases fl with
   |next=>exact False.elim h
   |brk=>exact False.elim h
   |cont=>exact False.elim h
   |ret u =>
    obtain⟨v,H',os,bare,un,hok',r',q⟩:=h;have q':v=.bl true:=q;subst q';obtain rfl:u=Value.bool true:=r';refine⟨rfl,OldK.of_keep λb o e=>?_,os,bare⟩
    cases q:H b with
    |none=>exact un.keep b o e q (by intro z;exact absurd (show b∈([]:AM6) from z) (by simp)) (by simp)
    |some u =>
     rcases hO b with z|⟨ob,xs,z⟩
     .rw[q] at z;cases z
     .have z2:=un.frzs b ob _ z;obtain⟨e1,_⟩:=hok b _ z;obtain⟨e2,_⟩:=hok' b _ z2;rw[e] at e1;cases e1;exact e2
 cases hk:K.lookup a with
 |some o =>
  -- the script is one of the module's own objects
  have e:=KX a o hk;rw[ha] at e;cases e;refine core (λ_=>none) (λ_=>.inl rfl) (.inr ⟨_,vs.toArray,_,hk,rfl,rfl,rfl,by rw[BZ,lenV];exact hl,by simpa using rv⟩) (λb u z=>by have z':(none:Option HO)=some u:=z;cases z') (λb z=>absurd rfl z) λz=>absurd rfl z
 |none =>
  refine core (λb=>if b=a then some (.frz {cls:=.type "list",data:=.seq vs.toArray} (.lst (ns.map V.int))) else none) (λb=>?_) (.inl (.inr ⟨{cls:=.type "list",data:=.seq vs.toArray},if_pos rfl⟩)) (λb u z=>?_) (λb z=>?_) λ_=>hk
  .by_cases hb:b=a
   .exact .inr ⟨_,_,if_pos hb⟩
   .exact .inl (if_neg hb)
  .by_cases hb:b=a
   .have z':=(if_pos hb).symm.trans z;cases z';subst hb;exact⟨ha,by rw[Ah];exact hl,vs,_,rv,ha⟩
   .have z':=(if_neg hb).symm.trans z;cases z'
  .by_cases hb:b=a
   .exact hb
   .exact absurd (if_neg hb) z
abbrev IS(s:Stmt):Arguments:=match s with
 |.FunctionDef _ a _ _ _ _ _ _ _ _=>a
 |_=>{posonlyargs:=[],args:=[],vararg:=none,kwonlyargs:=[],kw_defaults:=[],kwarg:=none,defaults:=[]}
abbrev FK(s:Stmt):AM8:=match s with
 |.FunctionDef _ _ b _ _ _ _ _ _ _=>b
 |_=>[]
abbrev Ad(s:Stmt):Scope:=match s with
 |.FunctionDef _ _ _ _ _ _ sc _ _ _=>sc
 |_=>{kind:=.function,names:=[],isGenerator:=false,isCoroutine:=false}
noncomputable abbrev CX0:FV:=λ_ _ _ _ _ _=>False
noncomputable abbrev E0:XK:=λ_ _ _=>False
def RM{X:Cx}:Jg CX0 X E0:=λ_ _ _ _ _ _ _ h=>h.elim
structure HN (K:AK) (x qual:Str) (st:Stmt) (f:Addr) (fd:FuncData):Prop where
 ex:∃(oc:Value) (od:Option Addr) (kV doc pm:Value) (an:Option Addr) (cdv ct:Value) (osl:Array (Option Value)),
  fd=ALY x qual (IS st) (FK st) (Ad st) .none kV doc pm an cdv ct/\K.lookup f=some ⟨oc,od,.func fd,osl⟩/\AMP K cdv qual=true
 kp:Fz K (.ref f)=true
section
variable {P:Program}{w:World}{K:AK}{mg:AM3}{base:Heap}
def HN.ok{x qual:Str}{st:Stmt}{f:Addr}{fd:FuncData}{N ps:AM4}{k:Nat}{sp:Sp}(F:HN K x qual st f fd)(S:As N ps (Ad st))(len:∀vs H Q E,sp vs H Q E->vs.length=ps.length)
  (hbody:∀(cdv:Value) (A:Around) (outer:List Env) (s:Shared) (H:Hp) (vs:List V) (Q:VK) (E:XK),Room k (A.deeper (envOfC qual (Ad st) s.heap.objs.size f cdv))->sp vs H Q E ->
   ∃t,DW (CQ CX0 P w K mg base N qual (Ad st) f cdv A outer s H E).nox (FK st) t/\t {nx:=λ_ H'=>Q .non H',rt:=Q} (GC N vs) H):Cc P w K mg base CX0 (k+1) f fd ps sp:=by
 obtain⟨oc,od,kV,doc,pm,an,cdv,ct,osl,rfl,lk,hcd⟩:=F.ex;refine AF0 lk hcd S len λA outer s H vs Q E hr hsp=>?_;obtain⟨t,h,q⟩:=hbody cdv A outer s H vs Q E hr hsp;exact⟨t,h.nox,q⟩
def HN.binds{x qual:Str}{st:Stmt}{f:Addr}{fd:FuncData}{ps:AM4}(F:HN K x qual st f fd)
  (h:∀(kV doc pm:Value) (an:Option Addr) (cdv ct:Value) (us:AM5),us.length=ps.length->bindArgs (ALY x qual (IS st) (FK st) (Ad st) .none kV doc pm an cdv ct) ⟨us,[]⟩=pure (ps.zip us)):Df K fd ps []:=by
 obtain⟨oc,od,kV,doc,pm,an,cdv,ct,osl,rfl,lk,hcd⟩:=F.ex;exact .all (h kV doc pm an cdv ct)
def AFw{x qual:Str}{st:Stmt}{f:Addr}{oc:Value}{od an:Option Addr}{osl:Array (Option Value)}{kV doc pm cdv ct:Value}(l:K.lookup f=some ⟨oc,od,.func (ALY x qual (IS st) (FK st) (Ad st) .none kV doc pm an cdv ct),osl⟩)
  (c:AMP K cdv qual=true) (k:Fz K (.ref f)=true):HN K x qual st f (ALY x qual (IS st) (FK st) (Ad st) .none kV doc pm an cdv ct):=⟨⟨oc,od,kV,doc,pm,an,cdv,ct,osl,rfl,l,c⟩,k⟩
end
section
variable {X:Cx}
def pv(i:Nat){x:Str}{pos:Pos}(hN:X.N[i]?=some x)(hv:Jf X.env.scope x)(hd:(x == ("__debug__":Str))=false)
  (hcd:(x == ("__classdict__":Str))=false):PE X (.Name x pos) (Qt i):=ADI hN hv hd hcd
end
def iteF{A B:Prop}(h:B):if false=true then A else B:=by rw[if_neg Bz];exact h
def iteT{A B:Prop}(h:A):if true=true then A else B:=by rw[if_pos rfl];exact h
abbrev Gs(H H':Hp):Prop:=∀b o,H b=some o->H' b=some o
def Gs.refl(H:Hp):Gs H H:=λ_ _ h=>h
def Gs.trans{H H1 H2:Hp}(a:Gs H H1)(b:Gs H1 H2):Gs H H2:=λc o h=>b c o (a c o h)
def Gs.free{H H':Hp}(e:Gs H H'){l:Addr}(h:H' l=Option.none):H l=Option.none:=by
 cases q:H l with
 |none=>rfl
 |some o =>
  rw[e l o q] at h;cases h
def Gs.seq{K:AK}{H H':Hp}{a:Addr}{xs:List V}(e:Gs H H')(h:BH K H a xs):BH K H' a xs:=by
 rcases h with(h|⟨o,h⟩)|h
 .exact .inl (.inl (e _ _ h))
 .exact .inl (.inr ⟨o,e _ _ h⟩)
 .exact .inr h
section
variable {κ:Type}[DecidableEq κ]
abbrev Fc(kvs:List (κ×V))(k:κ):Option V:=(kvs.find? λkv=>decide (kv.1=k)).map (·.2)
abbrev HX(kvs:List (κ×V))(k:κ)(v:V):List (κ×V) :=
 if (kvs.any λkv=>decide (kv.1=k))=true then kvs.map (λkv=>if kv.1=k then (kv.1,v) else kv) else kvs++[(k,v)]
abbrev Xr(kvs:List (κ×V))(k:κ):List (κ×V):=kvs.filter λkv=>decide (kv.1≠k)
def Qo{p:κ×V}{r:List (κ×V)}{k:κ}(e:p.1=k):Fc (p::r) k=some p.2:=by simp[Fc,Ez,e]
def Qp{p:κ×V}{r:List (κ×V)}{k:κ}(e:¬p.1=k):Fc (p::r) k=Fc r k:=by simp[Fc,Ez,e]
def UU(k:κ):∀kvs:List (κ×V),(kvs.any λkv=>decide (kv.1=k))=(Fc kvs k).isSome
 |[]=>rfl
 |p::r=>by
  rw[ALZ]
  by_cases e:p.1=k
  .simp only[Qo e,decide_eq_true e,Bool.true_or,Option.isSome_some]
  .rw[Qp e,decide_eq_false e,Bool.false_or];exact UU k r
def FP.isSome_eq{o:Option V}{u:Option Value}(r:FP o u):o.isSome=u.isSome:=by
 cases o with
 |none=>cases u with
  |none=>rfl
  |some _=>exact(show False from r).elim
 |some _=>cases u with
  |none=>exact(show False from r).elim
  |some _=>rfl
def FP.getD{o:Option V}{u:Option Value}{d:V}{d':Value}(r:FP o u)(rd:AY d d'):AY (o.getD d) (u.getD d'):=by
 cases o with
 |none=>cases u with
  |none=>exact rd
  |some _=>exact(show False from r).elim
 |some _=>cases u with
  |none=>exact(show False from r).elim
  |some _=>exact r
def KV.val{kvs:List (κ×V)}{vs:List (κ×Value)}(r:KV kvs vs)(k:κ):FP (Fc kvs k) (valueAt vs k):=by
 unfold KV at r
 induction r with
 |nil=>exact True.intro
 |@cons p q ps qs h t ih =>
  obtain⟨h1,h2⟩:=h
  by_cases e:p.1=k
  .have e':q.1=k:=h1.symm.trans e;have b:valueAt (q::qs) k=some q.2:=by simp[valueAt,Ez,e']
   rw[Qo e,b];exact h2
  .have e':¬q.1=k:=λz=>e (h1.trans z);have b:valueAt (q::qs) k=valueAt qs k:=by simp[valueAt,Ez,e']
   rw[Qp e,b];exact ih
def KV.any{kvs:List (κ×V)}{vs:List (κ×Value)}(r:KV kvs vs)(k:κ):(kvs.any λkv=>decide (kv.1=k))=vs.any λkv=>decide (kv.1=k):=by
 unfold KV at r
 induction r with
 |nil=>rfl
 |cons h t ih=>rw[ALZ,ALZ,ih,h.1]
def KV.repl{kvs:List (κ×V)}{vs:List (κ×Value)}(r:KV kvs vs)(k:κ){y:V}{u:Value}(ry:AY y u) :
  KV (kvs.map λkv=>if kv.1=k then (kv.1,y) else kv) (vs.map λkv=>if kv.1=k then (kv.1,u) else kv):=by
 unfold KV at r ⊢
 induction r with
 |nil=>exact .nil
 |@cons p q ps qs h t ih =>
  rw[Ak,Ak];refine .cons ?_ ih;obtain⟨h1,h2⟩:=h
  by_cases e:p.1=k
  .rw[if_pos e,if_pos (h1.symm.trans e)];exact⟨h1,ry⟩
  .rw[if_neg e,if_neg (λz=>e (h1.trans z))];exact⟨h1,h2⟩
def KV.put{kvs:List (κ×V)}{vs:List (κ×Value)}(r:KV kvs vs)(k:κ){y:V}{u:Value}(ry:AY y u):KV (HX kvs k y) (stored vs k u):=by
 unfold HX stored;rw[r.any k]
 by_cases e:(vs.any λkv=>decide (kv.1=k))=true
 .rw[if_pos e,if_pos e];exact r.repl k ry
 .rw[if_neg e,if_neg e];exact Paired.snoc r ⟨rfl,ry⟩
def KV.drop{kvs:List (κ×V)}{vs:List (κ×Value)}(r:KV kvs vs)(k:κ):KV (Xr kvs k) (without vs k):=by
 unfold KV at r ⊢;unfold Xr without
 induction r with
 |nil=>exact .nil
 |@cons p q ps qs h t ih =>
  obtain⟨h1,h2⟩:=h;rw[List.filter_cons,List.filter_cons]
  by_cases e:p.1=k
  .have a:¬decide (p.1≠k)=true:=by simp[e]
   have b:¬decide (q.1≠k)=true:=by simp[h1.symm.trans e]
   rw[if_neg a,if_neg b];exact ih
  .have e':¬q.1=k:=λz=>e (h1.trans z);have a:decide (p.1≠k)=true:=by simp[e]
   have b:decide (q.1≠k)=true:=by simp[e']
   rw[if_pos a,if_pos b];exact .cons ⟨h1,h2⟩ ih
def KV.keys{kvs:List (κ×V)}{vs:List (κ×Value)}(r:KV kvs vs):kvs.map (·.1)=vs.map (·.1):=by
 unfold KV at r
 induction r with
 |nil=>rfl
 |cons h t ih=>rw[Ak,Ak,ih,h.1]
def KV.length{kvs:List (κ×V)}{vs:List (κ×Value)}(r:KV kvs vs):kvs.length=vs.length:=Paired.length r
end
noncomputable abbrev KT(H:Hp):List (List Key×V)->List (List Key×Addr×Value)->Prop:=Paired λp q=>p.1=q.1/\H q.2.1=some (.tup (p.1.map kV))/\AY p.2 q.2.2
def KT.val{H:Hp}{kvs:List (List Key×V)}{xs:List (List Key×Addr×Value)}(r:KT H kvs xs)(k:List Key):FP (Fc kvs k) ((atKey xs k).map (·.2)):=by
 induction r with
 |nil=>exact True.intro
 |@cons p q ps qs h t ih =>
  obtain⟨h1,_,h2⟩:=h
  by_cases e:p.1=k
  .have e':q.1=k:=h1.symm.trans e;have b:atKey (q::qs) k=some q.2:=by simp[atKey,Ez,e']
   rw[Qo e,b];exact h2
  .have e':¬q.1=k:=λz=>e (h1.trans z);have b:atKey (q::qs) k=atKey qs k:=by simp[atKey,Ez,e']
   rw[Qp e,b];exact ih
def KT.repl{H:Hp}{kvs:List (List Key×V)}{xs:List (List Key×Addr×Value)}(r:KT H kvs xs)(k:List Key){y:V}{u:Value}(ry:AY y u) :
  KT H (kvs.map λkv=>if kv.1=k then (kv.1,y) else kv) (xs.map (putAt k u)):=by
 induction r with
 |nil=>exact .nil
 |@cons p q ps qs h t ih =>
  rw[Ak,Ak];refine .cons ?_ ih;obtain⟨h1,h2,h3⟩:=h;unfold putAt
  by_cases e:p.1=k
  .rw[if_pos e,if_pos (h1.symm.trans e)];exact⟨h1,h2,ry⟩
  .rw[if_neg e,if_neg (λz=>e (h1.trans z))];exact⟨h1,h2,h3⟩
def KT.put{H:Hp}{kvs:List (List Key×V)}{xs:List (List Key×Addr×Value)}(r:KT H kvs xs)(k:List Key){b:Addr}{y:V}{u:Value}(hb:H b=some (.tup (k.map kV)))(ry:AY y u) :
  KT H (HX kvs k y) (storedH xs k b u):=by
 have e:(kvs.any λkv=>decide (kv.1=k))=(atKey xs k).isSome:=by rw[UU,(r.val k).isSome_eq,Option.isSome_map]
 unfold HX storedH;rw[e]
 by_cases q:(atKey xs k).isSome=true
 .rw[if_pos q,if_pos q];exact r.repl k ry
 .rw[if_neg q,if_neg q];exact Paired.snoc r ⟨rfl,hb,ry⟩
def KT.keeps{H H':Hp}{kvs:List (List Key×V)}{xs:List (List Key×Addr×Value)}(r:KT H kvs xs)(ht:∀b ys,H b=some (.tup ys)->H' b=some (.tup ys)):KT H' kvs xs :=
 Paired.mapP r λ_ _ z=>⟨z.1,ht _ _ z.2.1,z.2.2⟩
abbrev ON(H:Hp)(a:Addr)(y:V)(r:Option V):Prop :=
 (∃kvs k,Rd H a (.dK kvs)/\y=kV k/\r=Fc kvs k)\/∃kvs k b,Rd H a (.dT kvs)/\y=.ref b/\H b=some (.tup (k.map kV))/\r=Fc kvs k
abbrev OM(H:Hp)(a:Addr)(y v:V)(H':Hp):Prop :=
 (∃kvs k,H a=some (.dK kvs)/\y=kV k/\kvs.length<sizeLine/\H'=upd H a (.dK (HX kvs k v))) \/
 ∃kvs k b,H a=some (.dT kvs)/\y=.ref b/\H b=some (.tup (k.map kV))/\kvs.length<sizeLine/\H'=upd H a (.dT (HX kvs k v))
def ON.k{H:Hp}{a:Addr}{kvs:List (Key×V)}{k:Key}(e:H a=some (.dK kvs)):ON H a (kV k) (Fc kvs k):=.inl ⟨kvs,k,.inl e,rfl,rfl⟩
def ON.t{H:Hp}{a b:Addr}{kvs:List (List Key×V)}{k:List Key}(e:H a=some (.dT kvs))(eb:H b=some (.tup (k.map kV))):ON H a (.ref b) (Fc kvs k):=.inr ⟨kvs,k,b,.inl e,rfl,eb,rfl⟩
def OM.k{H:Hp}{a:Addr}{kvs:List (Key×V)}{k:Key}{v:V}(e:H a=some (.dK kvs))(hl:kvs.length<sizeLine):OM H a (kV k) v (upd H a (.dK (HX kvs k v))):=.inl ⟨kvs,k,e,rfl,hl,rfl⟩
def OM.t{H:Hp}{a b:Addr}{kvs:List (List Key×V)}{k:List Key}{v:V}(e:H a=some (.dT kvs))(eb:H b=some (.tup (k.map kV)))(hl:kvs.length<sizeLine) :
  OM H a (.ref b) v (upd H a (.dT (HX kvs k v))):=.inr ⟨kvs,k,b,e,rfl,eb,hl,rfl⟩
section
variable {X:Cx}{pins:List (Addr×Obj)}{Y:St}{H:Hp}{s:Shared}{a:Addr}{y v:V}{u r:Value}{o:Option V}{A:Around}{E:ANB}
def AI.big(I:AI X pins Y H s):sysModules<s.heap.objs.size:=by have h:mainGlobals<s.heap.objs.size:=(I.mod.glob.keeps I.bk).lt;exact Nat.lt_trans (by decide) h
def AGP{h':Heap}{t':Nat}{ob:HO}(I:AI X pins Y H s)(mu:LX (H a))(hs:Heap.SameBut a s.heap h')(he:∃q,h'.get? a=some q)(new:Bq X.prog X.w (upd H a ob) h' a ob) :
  AI X pins Y (upd H a ob) {s with heap:=h',toks:=t'} :=
 I.write (x:=a) (e:=a) mu (.inl rfl) (λb q hb z=>(hs.2 b hb).trans z) he new
end
structure M1 (X:Cx) (o:Expr) (m:Str) (apos:Pos) (e:Expr) (cpos:Pos):Prop where
 base:attributeBase o m X.env (eval o X.env)=eval o X.env
 few:((backTo cpos (starEach [e] X.env)).all (λx=>!x.1)&&(backToKw cpos (keywordEach [] X.env)).all (λx=>x.1.isSome)
  && decide (([e]:AM7).length+([]:List Keyword).length+(if ([]:List Keyword).isEmpty then 0 else 1)<30))=true
 line:(apos.endLine == cpos.line)=true
 trees:backTo cpos (starEach [e] X.env)=[(false,eval e X.env)]
structure M2 (X:Cx) (o:Expr) (m:Str) (apos:Pos) (e f:Expr) (cpos:Pos):Prop where
 base:attributeBase o m X.env (eval o X.env)=eval o X.env
 few:((backTo cpos (starEach [e,f] X.env)).all (λx=>!x.1)&&(backToKw cpos (keywordEach [] X.env)).all (λx=>x.1.isSome)
  && decide (([e,f]:AM7).length+([]:List Keyword).length+(if ([]:List Keyword).isEmpty then 0 else 1)<30))=true
 line:(apos.endLine == cpos.line)=true
 trees:backTo cpos (starEach [e,f] X.env)=[(false,eval e X.env),(false,eval f X.env)]
end L2
set_option maxHeartbeats 4000000
namespace L3
open PySem PySem.Spec PyProof.Rows L2
noncomputable abbrev ANC:Str:="Table"
noncomputable abbrev AND:Str:="Node"
noncomputable abbrev ANE:Str:="ways"
noncomputable abbrev ANF:Str:="groups"
noncomputable abbrev ANG:Str:="nodes"
noncomputable abbrev ANH:Str:="arms"
noncomputable abbrev ANI:Str:="words"
noncomputable abbrev ANJ:Str:="table"
noncomputable abbrev ANK:Str:="members"
noncomputable abbrev ANL:Str:="node_numbers"
noncomputable abbrev ANM:Str:="roots"
noncomputable abbrev ANN:Str:="answers"
noncomputable abbrev ANO:Str:="_law_cell_here"
noncomputable abbrev ANP:Str:="number"
noncomputable abbrev ANQ:Str:="_law_text_here"
noncomputable abbrev ANR:Str:="_law_words_here"
noncomputable abbrev ANS:Str:="_law_script"
noncomputable abbrev ANT:Str:="_law_texts"
noncomputable abbrev ANU:Str:="_law_row_here"
noncomputable abbrev ANV:Str:="_law_number"
noncomputable abbrev ANW:Str:="_law_piece_here"
noncomputable abbrev ANX:Str:="_law_piece_answer"
noncomputable abbrev ANY:Str:="_law_row_answer"
noncomputable abbrev ANZ:Str:="_law_row_examples"
noncomputable abbrev ANa:Str:="_law_drawn_texts"
def bS{α β:Type}{o:Option α}{f:α->Option β}{b:β}(h:o.bind f=some b):∃a,o=some a/\f a=some b:=ALj.mp h
def mS{α β:Type}{o:Option α}{f:α->β}{b:β}(h:o.map f=some b):∃a,o=some a/\f a=b:=GU.mp h
inductive D where
 |non|bl (b:Bool)|int (i:Int)|str (x:Str)|tup (xs:List D)|fz (xs:List D)|ref (k:Nat)|ty (n:String)
mutual
def D.beq:D->D->Bool
 |.non,.non=>true
 |.bl a,.bl b=>a == b
 |.int a,.int b=>a == b
 |.str a,.str b=>decide (a=b)
 |.tup a,.tup b=>D.beqL a b
 |.fz a,.fz b=>D.beqL a b
 |.ref a,.ref b=>a == b
 |.ty a,.ty b=>a == b
 |_,_=>false
def D.beqL:List D->List D->Bool
 |[],[]=>true
 |a::as,b::bs=>D.beq a b&&D.beqL as bs
 |_,_=>false
end
mutual
theorem D.beq_refl:∀a:D,D.beq a a=true
 |.non=>rfl
 |.bl b=>(beq_self_eq_true b:(b == b)=true)
 |.int b=>(beq_self_eq_true b:(b == b)=true)
 |.str b=>(decide_eq_true rfl:decide (b=b)=true)
 |.tup xs=>(D.beqL_refl xs:D.beqL xs xs=true)
 |.fz xs=>(D.beqL_refl xs:D.beqL xs xs=true)
 |.ref b=>(beq_self_eq_true b:(b == b)=true)
 |.ty b=>(beq_self_eq_true b:(b == b)=true)
theorem D.beqL_refl:∀a:List D,D.beqL a a=true
 |[]=>rfl
 |a::as=>by show(D.beq a a&&D.beqL as as)=true;rw[D.beq_refl a,D.beqL_refl as];rfl
end
mutual
theorem D.eq_of_beq:∀{a b:D},D.beq a b=true->a=b
 |.non,b,h=>by
  cases b with
  |non=>rfl
  |_=>exact GA (show false=true from h)
 |.bl x,b,h=>by
  cases b with
  |bl y=>rw[LawfulBEq.eq_of_beq (show(x == y)=true from h)]
  |_=>exact GA (show false=true from h)
 |.int x,b,h=>by
  cases b with
  |int y=>rw[LawfulBEq.eq_of_beq (show(x == y)=true from h)]
  |_=>exact GA (show false=true from h)
 |.str x,b,h=>by
  cases b with
  |str y=>rw[of_decide_eq_true (show decide (x=y)=true from h)]
  |_=>exact GA (show false=true from h)
 |.tup xs,b,h=>by
  cases b with
  |tup ys=>rw[D.eq_of_beqL (show D.beqL xs ys=true from h)]
  |_=>exact GA (show false=true from h)
 |.fz xs,b,h=>by
  cases b with
  |fz ys=>rw[D.eq_of_beqL (show D.beqL xs ys=true from h)]
  |_=>exact GA (show false=true from h)
 |.ref x,b,h=>by
  cases b with
  |ref y=>rw[LawfulBEq.eq_of_beq (show(x == y)=true from h)]
  |_=>exact GA (show false=true from h)
 |.ty x,b,h=>by
  cases b with
  |ty y=>rw[LawfulBEq.eq_of_beq (show(x == y)=true from h)]
  |_=>exact GA (show false=true from h)
theorem D.eq_of_beqL:∀{a b:List D},D.beqL a b=true->a=b
 |[],b,h=>by
  cases b with
  |nil=>rfl
  |cons _ _=>exact GA (show false=true from h)
 |a::as,b,h=>by
  cases b with
  |nil=>exact GA (show false=true from h)
  |cons b bs =>
   have h:(D.beq a b&&D.beqL as bs)=true:=h;rw[Bn] at h;rw[D.eq_of_beq h.1,D.eq_of_beqL h.2]
end
noncomputable instance:DecidableEq D:=λa b=>if h:D.beq a b=true then .isTrue (D.eq_of_beq h) else .isFalse λe=>h (by rw[e];exact D.beq_refl b)
inductive Ob where
 |lst (xs:List D)|dk (kvs:List (Key×D))|dt (kvs:List (NK×D)) (ep:Nat)|ins (c:Str) (fs:List (Str×D))|exn (c:Str)
deriving DecidableEq
noncomputable abbrev AB:=List Ob
noncomputable abbrev ANb:=D->AB->Prop
noncomputable abbrev Fm:=List (Option D)
abbrev SqF(K:AK)(H:Hp)(a:Addr)(xs:List V):Prop :=
 (∃o,H a=some (.frz o (.lst xs))) \/
  ∃(o:Obj) (its:Array Value) (n:Nat),K.lookup a=some o/\o.cls=.type "list"/\o.dict=none/\o.data=.seq its n/\its.size<=sizeLine/\AX xs its.toList
def SqF.sql{K:AK}{H:Hp}{a:Addr}{xs:List V}(h:SqF K H a xs):BH K H a xs:=by
 rcases h with h|h
 .exact .inl (.inr h)
 .exact .inr h
mutual
inductive Is (K:AK) (H:Hp) (O:AM6):V->D->Prop
 |non:Is K H O .non .non
 |bl (b:Bool):Is K H O (.bl b) (.bl b)
 |int (i:Int):Is K H O (.int i) (.int i)
 |str (x:Str):x.length<=16777216->Is K H O (.str x) (.str x)
 |tup {a:Addr} {vs:List V} {ds:List D}:BY K H a vs->AN K H O vs ds->Is K H O (.ref a) (.tup ds)
 |fz {a:Addr} {vs:List V} {ds:List D}:SqF K H a vs->AN K H O vs ds->Is K H O (.ref a) (.fz ds)
 |ref {k:Nat} {a:Addr}:O[k]?=some a->Is K H O (.ref a) (.ref k)
 |ty (n:String):Is K H O (.ty n) (.ty n)
inductive AN (K:AK) (H:Hp) (O:AM6):List V->List D->Prop
 |nil:AN K H O [] []
 |cons {v:V} {d:D} {vs:List V} {ds:List D}:Is K H O v d->AN K H O vs ds->AN K H O (v::vs) (d::ds)
end
abbrev Sw:HO->Prop
 |.tup _=>True
 |.frz _ _=>True
 |_=>False
abbrev EZ(H H':Hp):Prop:=∀a o,H a=some o->Sw o->H' a=some o
abbrev Ai(H:Hp)(O:AM6)(H':Hp)(O':AM6):Prop:=EZ H H'/\O <+: O'
def EZ.refl(H:Hp):EZ H H:=λ_ _ h _=>h
def EZ.trans{H H1 H2:Hp}(a:EZ H H1)(b:EZ H1 H2):EZ H H2:=λc o h f=>b c o (a c o h f) f
def Ai.refl(H:Hp)(O:AM6):Ai H O H O:=⟨.refl H,AR O⟩
def Ai.trans{H H1 H2:Hp}{O O1 O2:AM6}(a:Ai H O H1 O1)(b:Ai H1 O1 H2 O2):Ai H O H2 O2:=⟨a.1.trans b.1,a.2.trans b.2⟩
def EZ.ext{H H':Hp}(h:∀a o,H a=some o->H' a=some o):EZ H H':=λa o e _=>h a o e
def EZ.new{H:Hp}{p:Addr}{o:HO}(h:H p=none):EZ H (upd H p o):=.ext λa u e=>by rw[BN (DK e h)];exact e
def EZ.write{H:Hp}{p:Addr}{o u:HO}(h:H p=some u)(n:¬Sw u):EZ H (upd H p o):=λa x e f=>by
 by_cases z:a=p
 .subst z;rw[h] at e;cases e;exact absurd f n
 .rw[BN z];exact e
section
variable {K:AK}{H H':Hp}{O O':AM6}
def BY.grow{a:Addr}{xs:List V}(g:EZ H H')(h:BY K H a xs):BY K H' a xs:=by
 rcases h with(h|⟨o,h⟩)|h
 .exact .inl (.inl (g _ _ h True.intro))
 .exact .inl (.inr ⟨o,g _ _ h True.intro⟩)
 .exact .inr h
def SqF.grow{a:Addr}{xs:List V}(g:EZ H H')(h:SqF K H a xs):SqF K H' a xs:=by
 rcases h with⟨o,h⟩|h
 .exact .inl ⟨o,g _ _ h True.intro⟩
 .exact .inr h
def AEK{α:Type}{N:List α}(hN:N.Nodup){i j:Nat}{x:α}(a:N[i]?=some x)(b:N[j]?=some x):i=j:=by
 obtain⟨h1,g1⟩:=Ay.mp a;obtain⟨h2,g2⟩:=Ay.mp b;have p:=List.pairwise_iff_getElem.mp hN;rcases Nat.lt_trichotomy i j with h|h|h
 .exact absurd (g1.trans g2.symm) (p i j h1 h2 h)
 .exact h
 .exact absurd (g2.trans g1.symm) (p j i h2 h1 h)
def DJ{α:Type}{O O':List α}(h:O <+: O'){k:Nat}{a:α}(e:O[k]?=some a):O'[k]?=some a:=by obtain⟨t,rfl⟩:=h;rw[Ee (Ay.mp e).1];exact e
def Is.mono(st:Ai H O H' O'){v:V}{d:D}(h:Is K H O v d):Is K H' O' v d :=
 Is.rec (motive_1:=λv d _=>Is K H' O' v d) (motive_2:=λv d _=>AN K H' O' v d) .non .bl .int .str (λh _ r=>.tup (BY.grow st.1 h) r) (λh _ r=>.fz (SqF.grow st.1 h) r) (λh=>.ref (DJ st.2 h)) .ty .nil (λ_ _ a b=>.cons a b) h
def AN.mono(st:Ai H O H' O'){v:List V}{d:List D}(h:AN K H O v d):AN K H' O' v d :=
 AN.rec (motive_1:=λv d _=>Is K H' O' v d) (motive_2:=λv d _=>AN K H' O' v d) .non .bl .int .str (λh _ r=>.tup (BY.grow st.1 h) r) (λh _ r=>.fz (SqF.grow st.1 h) r) (λh=>.ref (DJ st.2 h)) .ty .nil (λ_ _ a b=>.cons a b) h
def AN.length{vs:List V}{ds:List D}(h:AN K H O vs ds):vs.length=ds.length :=
 AN.rec (motive_1:=λ_ _ _=>True) (motive_2:=λvs ds _=>vs.length=ds.length) ⟨⟩ (λ_=>⟨⟩) (λ_=>⟨⟩) (λ_ _=>⟨⟩) (λ_ _ _=>⟨⟩) (λ_ _ _=>⟨⟩) (λ_=>⟨⟩) (λ_=>⟨⟩) rfl (λ_ _ _ b=>congrArg (·+1) b) h
def AN.get{vs:List V}{ds:List D}{i:Nat}{d:D}(h:AN K H O vs ds)(e:ds[i]?=some d):∃v,vs[i]?=some v/\Is K H O v d:=by
 induction ds generalizing vs i with
 |nil=>simp at e
 |cons x ds ih =>
  cases h with|cons a b =>
  cases i with
  |zero=>cases e;exact⟨_,rfl,a⟩
  |succ i=>have q:=ih (i:=i) b e;exact q
def AN.append{vs ws:List V}{ds es:List D}(h:AN K H O vs ds)(b:AN K H O ws es):AN K H O (vs++ws) (ds++es):=by
 induction ds generalizing vs with
 |nil=>cases h;exact b
 |cons x ds ih=>cases h with|cons a c=>exact .cons a (ih c)
def AN.take{vs:List V}{ds:List D}(n:Nat)(h:AN K H O vs ds):AN K H O (vs.take n) (ds.take n):=by
 induction ds generalizing vs n with
 |nil=>cases h;cases n <;> exact .nil
 |cons x ds ih =>
  cases h with|cons a c =>
  cases n with
  |zero=>exact .nil
  |succ n=>exact .cons a (ih n c)
def AN.drop{vs:List V}{ds:List D}(n:Nat)(h:AN K H O vs ds):AN K H O (vs.drop n) (ds.drop n):=by
 induction ds generalizing vs n with
 |nil=>cases h;cases n <;> exact .nil
 |cons x ds ih =>
  cases n with
  |zero=>exact h
  |succ n=>cases h with|cons a c=>exact ih n c
def AN.set{v:V}{d:D}(r:Is K H O v d){vs:List V}{ds:List D}(i:Nat)(h:AN K H O vs ds):AN K H O (vs.set i v) (ds.set i d):=by
 induction ds generalizing vs i with
 |nil=>cases h;cases i <;> exact .nil
 |cons x ds ih =>
  cases h with|cons a c =>
  cases i with
  |zero=>exact .cons r c
  |succ i=>exact .cons a (ih i c)
def AN.one{v:V}{ds:List D}(h:AN K H O [v] ds):∃d,ds=[d]/\Is K H O v d:=by cases h with|cons a b=>cases b;exact⟨_,rfl,a⟩
abbrev keyD:Key->D
 |.inl i=>.int i
 |.inr x=>.str x
abbrev IL:Key ⊕ List Key->D
 |.inl k=>keyD k
 |.inr ks=>.tup (ks.map keyD)
abbrev Dl(k:NK):D:=.tup (k.map IL)
abbrev FU(K:AK)(c:Str)(C:Addr):Prop:=Bs K mainGlobals c=some (some (.ref C))
abbrev GR(K:AK)(H:Hp)(O:AM6)(a:Addr):Ob->Prop
 |.exn c=>∃C:Addr,FU K c C/\H a=some (.ext λh=>∃o,h.get? a=some o/\o.cls=.ref C)
 |.ins c fs=>∃(C dx:Addr) (us:List (Str×V)),FU K c C/\H a=some (.ins C dx us)/\us.map (·.1)=fs.map (·.1)/\AN K H O (us.map (·.2)) (fs.map (·.2))
 |.lst ds=>∃vs,H a=some (.lst vs)/\AN K H O vs ds
 |.dk kvs=>∃us:List (Key×V),H a=some (.dK us)/\us.map (·.1)=kvs.map (·.1)/\AN K H O (us.map (·.2)) (kvs.map (·.2))
 |.dt kvs ep=>∃us:List (NK×Addr×V),H a=some (.dN us ep)/\us.map (·.1)=kvs.map (·.1)/\AN K H O (us.map (·.2.2)) (kvs.map (·.2))/\∀u∈us,Is K H O (.ref u.2.1) (Dl u.1)
structure Al (K:AK) (H:Hp) (O:AM6) (L:AB):Prop where
 len:O.length=L.length
 nd:O.Nodup
 ob:∀(k:Nat) (a:Addr) (o:Ob),O[k]?=some a->L[k]?=some o->GR K H O a o
def GR.ho{a:Addr}{o:Ob}(h:GR K H O a o):∃u,H a=some u/\¬Sw u:=by
 cases o with
 |lst ds=>obtain⟨vs,e,_⟩:=h;exact⟨_,e,id⟩
 |dk ds=>obtain⟨vs,e,_⟩:=h;exact⟨_,e,id⟩
 |dt ds ep=>obtain⟨vs,e,_⟩:=h;exact⟨_,e,id⟩
 |ins c fs=>obtain⟨C,dx,us,_,e,_⟩:=h;exact⟨_,e,id⟩
 |exn c=>obtain⟨C,_,e⟩:=h;exact⟨_,e,id⟩
def GR.move{a:Addr}{o:Ob}(h:GR K H O a o)(st:Ai H O H' O')(e:H' a=H a):GR K H' O' a o:=by
 cases o with
 |lst ds=>obtain⟨vs,q,r⟩:=h;exact⟨vs,by rw[e];exact q,r.mono st⟩
 |dk ds=>obtain⟨vs,q,r1,r2⟩:=h;exact⟨vs,by rw[e];exact q,r1,r2.mono st⟩
 |dt ds ep=>obtain⟨vs,q,r1,r2,r3⟩:=h;exact⟨vs,by rw[e];exact q,r1,r2.mono st,λu hu=>(r3 u hu).mono st⟩
 |ins c fs=>obtain⟨C,dx,us,z,q,r1,r2⟩:=h;exact⟨C,dx,us,z,by rw[e];exact q,r1,r2.mono st⟩
 |exn c=>obtain⟨C,z,q⟩:=h;exact⟨C,z,by rw[e];exact q⟩
def Al.has{L:AB}(r:Al K H O L){k:Nat}{a:Addr}(e:O[k]?=some a):∃o,L[k]?=some o/\GR K H O a o:=by
 have h:k<L.length:=by rw[<-r.len];exact(Ay.mp e).1
 exact⟨L[k],by simp[h],r.ob k a _ e (by simp[h])⟩
def Al.at{L:AB}(r:Al K H O L){k:Nat}{o:Ob}(e:L[k]?=some o):∃a,O[k]?=some a/\GR K H O a o:=by
 have h:k<O.length:=by rw[r.len];exact(Ay.mp e).1
 exact⟨O[k],by simp[h],r.ob k _ o (by simp[h]) e⟩
def Al.ext{L:AB}(r:Al K H O L)(k:∀a o,H a=some o->H' a=some o):Al K H' O L :=
 ⟨r.len,r.nd,λj a o e1 e2=>by
  have q:=r.ob j a o e1 e2;obtain⟨u,hu,_⟩:=q.ho
  exact q.move ⟨.ext k,AR _⟩ (by rw[hu];exact k a u hu)⟩
def Al.new{L:AB}{p:Addr}{u:HO}{o:Ob}(r:Al K H O L)(hp:H p=none)(n:GR K (upd H p u) (O++[p]) p o):Al K (upd H p u) (O++[p]) (L++[o]):=by
 have hm:p∉O:=λhm=>by
  obtain⟨k,hk,e⟩:=AL9 hm;obtain⟨o',_,q⟩:=r.has (k:=k) (a:=p) (by rw[<-e];simp[hk]);obtain⟨u',hu,_⟩:=q.ho;rw[hp] at hu;cases hu
 refine⟨by simp[r.len],by rw[ALa];exact⟨r.nd,by simp,λa ha b hb=>by simp at hb;subst hb;rintro rfl;exact hm ha⟩,λk a o' e1 e2=>?_⟩
 by_cases h:k<O.length
 .rw[Ee h] at e1;rw[Ee (by rw[<-r.len];exact h)] at e2;have q:=r.ob k a o' e1 e2;obtain⟨u',hu,_⟩:=q.ho;exact q.move ⟨.new hp,Am _ _⟩ (by rw[BN (DK hu hp)])
 .have hk:k=O.length:=by
   have:=(Ay.mp e1).1;simp at this;omega
  subst hk;rw[ALV (Ae _)] at e1;rw[ALV (by rw[r.len];exact Ae _)] at e2;simp at e1;rw[r.len] at e2;simp at e2;subst e1 e2;exact n
def Al.write{L:AB}{k:Nat}{a:Addr}{u:HO}{o':Ob}(r:Al K H O L)(e:O[k]?=some a)(n:GR K (upd H a u) O a o'):Al K (upd H a u) O (L.set k o'):=by
 obtain⟨o,e2,q⟩:=r.has e;obtain⟨u0,hu0,nf⟩:=q.ho;refine⟨by simp[r.len],r.nd,λj b o2 f1 f2=>?_⟩
 by_cases h:j=k
 .subst h;rw[e] at f1;cases f1;rw[ALp (Ay.mp e2).1] at f2;cases f2;exact n
 .rw[Dx (Ne.symm h)] at f2;have q2:=r.ob j b o2 f1 f2
  have hb:b≠a:=λz=>by
   subst z;exact h (AEK r.nd f1 e)
  exact q2.move ⟨.write hu0 nf,AR _⟩ (by rw[BN hb])
end
structure HP (K:AK) (H:Hp) (O:AM6) (Y:L2.St) (ρ:Fm):Prop where
 len:Y.length=ρ.length
 at':∀(i:Nat) (d:D),ρ[i]?=some (some d)->∃v,Y[i]?=some (some v)/\Is K H O v d
structure Cw (K:AK) (H:Hp) (O:AM6) (Y:L2.St) (ρ:Fm) (L:AB):Prop where
 s:Al K H O L
 f:HP K H O Y ρ
def HP.mono{K:AK}{H H':Hp}{O O':AM6}{Y:L2.St}{ρ:Fm}(st:Ai H O H' O')(h:HP K H O Y ρ):HP K H' O' Y ρ :=
 ⟨h.len,λi d e=>let ⟨v,a,b⟩:=h.at' i d e;⟨v,a,b.mono st⟩⟩
def HP.set{K:AK}{H:Hp}{O:AM6}{Y:L2.St}{ρ:Fm}{v:V}{d:D}(h:HP K H O Y ρ)(r:Is K H O v d)(i:Nat):HP K H O (Y.set i (some v)) (ρ.set i (some d)):=by
 refine⟨by simp[h.len],λj e q=>?_⟩
 by_cases z:j=i
 .subst z
  have hj:j<ρ.length:=by have:=(Ay.mp q).1;simpa using this
  rw[ALp hj] at q;cases q;exact⟨v,by rw[ALp (by rw[h.len];exact hj)],r⟩
 .rw[Dx (Ne.symm z)] at q;obtain⟨v',a,b⟩:=h.at' j e q;exact⟨v',by rw[Dx (Ne.symm z)];exact a,b⟩
noncomputable abbrev EF:=Fm->AB->Option (D×AB)
noncomputable abbrev TF:=Fm->AB->Option (Bool×AB)
noncomputable abbrev AF:=Fm->AB->Option (List D×AB)
noncomputable abbrev G1:=D->AB->Option (D×AB)
noncomputable abbrev G2:=D->D->AB->Option (D×AB)
noncomputable abbrev GL:=List D->AB->Option (D×AB)
abbrev IG(K:AK)(f:EF):TE:=λY H Q=>∃O ρ L d L',Cw K H O Y ρ L/\f ρ L=some (d,L') /\
 ∀v H' O',Ai H O H' O'->Al K H' O' L'->Is K H' O' v d->Q v H'
abbrev NX(K:AK)(f:TF):TT:=λY H Q=>∃O ρ L b L',Cw K H O Y ρ L/\f ρ L=some (b,L') /\
 ∀H' O',Ai H O H' O'->Al K H' O' L'->Q b H'
abbrev Rf(K:AK)(f:AF):TA:=λY H Q=>∃O ρ L ds L',Cw K H O Y ρ L/\f ρ L=some (ds,L') /\
 ∀vs H' O',Ai H O H' O'->Al K H' O' L'->AN K H' O' vs ds->Q vs H'
abbrev AW(X:Cx)(e:Expr)(f:EF):Prop:=PE X e (IG X.K f)
abbrev Et(X:Cx)(e:Expr)(f:TF):Prop:=PT X e (NX X.K f)
abbrev Hu(X:Cx)(e:Expr)(f:TF):Prop:=PW X e (NX X.K f)
abbrev Ds(X:Cx)(es:AM7)(f:AF):Prop:=PA X es (Rf X.K f)
def PE.weaken{X:Cx}{e:Expr}{t t':TE}(h:PE X e t)(i:∀Y H Q,t' Y H Q->t Y H Q):PE X e t':=λpins s Y H Q I q=>h pins s Y H Q I (i Y H Q q)
def PT.weaken{X:Cx}{e:Expr}{t t':TT}(h:PT X e t)(i:∀Y H Q,t' Y H Q->t Y H Q):PT X e t':=λpins s Y H Q I q=>h pins s Y H Q I (i Y H Q q)
def PW.weaken{X:Cx}{e:Expr}{t t':TT}(h:PW X e t)(i:∀Y H Q,t' Y H Q->t Y H Q):PW X e t':=λw pins s Y H Q I q=>h w pins s Y H Q I (i Y H Q q)
def PA.weaken{X:Cx}{e:AM7}{t t':TA}(h:PA X e t)(i:∀Y H Q,t' Y H Q->t Y H Q):PA X e t':=λp pins s Y H Q I q=>h p pins s Y H Q I (i Y H Q q)
def Cw.to{K:AK}{H H':Hp}{O O':AM6}{Y:L2.St}{ρ:Fm}{L L':AB}(r:Cw K H O Y ρ L)(st:Ai H O H' O')(rs:Al K H' O' L'):Cw K H' O' Y ρ L':=⟨rs,r.f.mono st⟩
abbrev AD(d:D):EF:=λ_ L=>some (d,L)
abbrev AA(i:Nat):EF:=λρ L=>match ρ[i]? with|some (some d)=>some (d,L)|_=>none
abbrev AE(g:G2)(fa fb:EF):EF:=λρ L=>(fa ρ L).bind λx=>(fb ρ x.2).bind λy=>g x.1 y.1 y.2
abbrev BD(g:G1)(fa:EF):EF:=λρ L=>(fa ρ L).bind λx=>g x.1 x.2
section
variable {X:Cx}{a b c:Expr}{fa fb fc:EF}{pos:Pos}
def JY{v:V}{d:D}(h:PE X a (tC v))(i:∀H O,Is X.K H O v d):AW X a (AD d) :=
 PE.weaken h λY H Q z3_=>by
  obtain⟨O,ρ,L,d',L',r,e,k⟩:=z3_;cases e;exact k _ _ _ (.refl _ _) r.s (i _ _)
def AKc{i:Int}{j:Nat}{pos:Pos}:AW X (.Constant (.int i) j pos) (AD (.int i)):=JY ADV λ_ _=>.int _
def AKp{i:Bool}{j:Nat}{pos:Pos}:AW X (.Constant (.bool i) j pos) (AD (.bl i)):=JY ADh λ_ _=>.bl _
def AKW{j:Nat}{pos:Pos}:AW X (.Constant .none j pos) (AD .non):=JY ADR λ_ _=>.non
def AKQ{x:Str}{j:Nat}{pos:Pos}(h:x.length<=16777216:=by decide):AW X (.Constant (.str x) j pos) (AD (.str x)):=JY ADL λ_ _=>.str _ h
def AGF{i:Nat}(h:PE X a (Qt i)):AW X a (AA i) :=
 PE.weaken h λY H Q z3_=>by
  obtain⟨O,ρ,L,d',L',r,e,k⟩:=z3_;unfold AA at e;split at e
  .rename_i d hd;cases e;obtain⟨v,hv,is⟩:=r.f.at' i _ hd;exact⟨v,hv,k _ _ _ (.refl _ _) r.s is⟩
  .cases e
abbrev rD(K:AK)(g:G2):R2:=λv u H Q=>∃O L x y d L',Al K H O L/\Is K H O v x/\Is K H O u y/\g x y L=some (d,L') /\
 ∀w H' O',Ai H O H' O'->Al K H' O' L'->Is K H' O' w d->Q w H'
abbrev rC(K:AK)(g:GL):List V->Hp->VK->Prop:=λvs H Q=>∃O L xs d L',Al K H O L/\AN K H O vs xs/\g xs L=some (d,L') /\
 ∀w H' O',Ai H O H' O'->Al K H' O' L'->Is K H' O' w d->Q w H'
abbrev Ci(X:Cx)(f:Value->Value->Sem Value)(g:G2):Prop:=Ap X f (rD X.K g)
abbrev Ex(X:Cx)(f:Value)(g:GL):Prop:=CV X f (rC X.K g)
abbrev OK(X:Cx)(g:G2):Prop:=Ew X (rD X.K g)
def Ap.weaken{f:Value->Value->Sem Value}{r r':R2}(h:Ap X f r)(i:∀x y H Q,r' x y H Q->r x y H Q):Ap X f r' :=
 λpins s Y H x y v u Q I rx ry q=>h pins s Y H x y v u Q I rx ry (i _ _ _ _ q)
def Ew.weaken{r r':R2}(h:Ew X r)(i:∀x y H Q,r' x y H Q->r x y H Q):Ew X r' :=
 λa b pins s Y H x y v u Q I rx ry q=>h a b pins s Y H x y v u Q I rx ry (i _ _ _ _ q)
def CV.weaken{f:Value}{r r':List V->Hp->VK->Prop}(h:CV X f r)(i:∀xs H Q,r' xs H Q->r xs H Q):CV X f r' :=
 λpins s Y H xs us Q I rx q=>h pins s Y H xs us Q I rx (i _ _ _ q)
def two_lift{K:AK}{g:G2}{Y:L2.St}{H:Hp}{Q:VK}(h:IG K (AE g fa fb) Y H Q):Kd (rD K g) (IG K fa) (IG K fb) Y H Q:=by obtain⟨O,ρ,L,d,L',r,e,k⟩:=h;unfold AE at e;obtain⟨p,e1,e⟩:=bS e;obtain⟨q,e2,e⟩:=bS e;refine⟨O,ρ,L,p.1,p.2,r,e1,λv H1 O1 st1 rs1 is1=>?_⟩;refine⟨O1,ρ,p.2,q.1,q.2,r.to st1 rs1,e2,λu H2 O2 st2 rs2 is2=>?_⟩;exact⟨O2,q.2,p.1,q.1,d,L',rs2,is1.mono st2,is2,e,λw H' O' st rs is=>k w H' O' ((st1.trans st2).trans st) rs is⟩
def AKT{op:Operator}{g:G2}(ho:Ci X (binaryOp op) g)(ha:AW X a fa)(hb:AW X b fb):AW X (.BinOp a op b pos) (AE g fa fb) :=
 PE.weaken (ADO ho ha hb) λ_ _ _ h=>two_lift h
def AKi{op:CmpOp}{g:G2}(ho:Ci X (compareOp op) g)(ha:AW X a fa)(hb:AW X b fb)(hm:behindInMarks op b=false):AW X (.Compare a [op] [b] pos) (AE g fa fb) :=
 PE.weaken (ADZ ho ha hb hm) λ_ _ _ h=>two_lift h
def AGG{g:G2}(ho:OK X g)(ha:AW X a fa)(hb:AW X b fb)(hs:Sk b):AW X (.Subscript a b pos) (AE g fa fb) :=
 PE.weaken (ADU ho ha hb hs) λ_ _ _ h=>two_lift h
abbrev Ab(f:EF):TF:=λρ L=>(f ρ L).bind λx=>match x.1 with|.bl b=>some (b,x.2)|_=>none
def Yb{K:AK}{f:EF}{Y:L2.St}{H:Hp}{Q:Bool->Hp->Prop}(h:NX K (Ab f) Y H Q):IG K f Y H λx H'=>∃k,x=.bl k/\Q k H':=by
 obtain⟨O,ρ,L,b,L',r,e,k⟩:=h;unfold Ab at e;obtain⟨p,e1,e⟩:=bS e;obtain⟨d,L1⟩:=p
 cases d <;> simp only[AS] at e <;> try (cases e;done)
 cases e;refine⟨O,ρ,L,_,_,r,e1,λv H' O' st rs is=>?_⟩;cases is;exact⟨_,rfl,k H' O' st rs⟩
def AIW{op:CmpOp}{g:G2}(ho:Ci X (compareOp op) g)(ha:AW X a fa)(hb:AW X b fb)(hm:behindInMarks op b=false):Et X (.Compare a [op] [b] pos) (Ab (AE g fa fb)) :=
 PT.weaken (ACb ho ha hb hm) λY H Q h=>by
  have q:=Yb h;exact two_lift q
def AIU(ha:AW X a fa)(he:∀whole,isTrue a X.env whole=(do let v <-whole;standAt a.pos;holding [v] (truthy v)):=by intro _;rfl):Et X a (Ab fa) :=
 PT.weaken (ACZ ha he) λY H Q h=>Yb h
abbrev HA(f:TF):TF:=λρ L=>(f ρ L).bind λx=>some (!x.1,x.2)
abbrev Hs(f g:TF):TF:=λρ L=>(f ρ L).bind λx=>if x.1=true then g ρ x.2 else some (false,x.2)
abbrev Ei(f g:TF):TF:=λρ L=>(f ρ L).bind λx=>if x.1=true then some (true,x.2) else g ρ x.2
def AIV{f:TF}(ha:Et X a f):Et X (.UnaryOp .Not a pos) (HA f) :=
 PT.weaken (ACa ha) λY H Q z3_=>by
  obtain⟨O,ρ,L,b,L',r,e,k⟩:=z3_;unfold HA at e
  cases e1:f ρ L with
  |none=>rw[e1] at e;cases e
  |some p=>rw[e1] at e;cases e;exact⟨O,ρ,L,p.1,p.2,r,e1,λH' O' st rs=>k H' O' st rs⟩
def AH4{f:TF}(ha:Et X a f):Hu X (.BoolOp .And [a] pos) f:=ACP ha
def AH3{f:TF}(ha:Et X a f):Hu X (.BoolOp .Or [a] pos) f:=ACN ha
def AH5{f g:TF}{rest:AM7}(ha:Et X a f)(hb:Hu X (.BoolOp .And (b::rest) pos) g):Hu X (.BoolOp .And (a::b::rest) pos) (Hs f g) :=
 PW.weaken (ACQ ha hb) λY H Q z3_=>by
  obtain⟨O,ρ,L,c,L',r,e,k⟩:=z3_;unfold Hs at e;obtain⟨p,e1,e⟩:=bS e;obtain⟨b1,L1⟩:=p;refine⟨O,ρ,L,b1,L1,r,e1,λH1 O1 st rs=>?_⟩
  cases b1 with
  |true =>
   refine iteT ⟨O1,ρ,L1,c,L',r.to st rs,by simpa using e,λH' O' st' rs'=>k H' O' (st.trans st') rs'⟩
  |false =>
   simp at e;obtain⟨rfl,rfl⟩:=e;exact iteF (k H1 O1 st rs)
def AH2{f g:TF}{rest:AM7}(ha:Et X a f)(hb:Hu X (.BoolOp .Or (b::rest) pos) g):Hu X (.BoolOp .Or (a::b::rest) pos) (Ei f g) :=
 PW.weaken (ACO ha hb) λY H Q z3_=>by
  obtain⟨O,ρ,L,c,L',r,e,k⟩:=z3_;unfold Ei at e;obtain⟨p,e1,e⟩:=bS e;obtain⟨b1,L1⟩:=p;refine⟨O,ρ,L,b1,L1,r,e1,λH1 O1 st rs=>?_⟩
  cases b1 with
  |true =>
   simp at e;obtain⟨rfl,rfl⟩:=e;exact iteT (k H1 O1 st rs)
  |false =>
   refine iteF ⟨O1,ρ,L1,c,L',r.to st rs,by simpa using e,λH' O' st' rs'=>k H' O' (st.trans st') rs'⟩
def AIT{f:TF}(h:Hu X a f):Et X a f:=PW.pt h
abbrev EX(f g:EF):EF:=λρ L=>(f ρ L).bind λx=>match x.1 with|.bl true=>g ρ x.2|.bl false=>some (.bl false,x.2)|_=>none
abbrev JD(f g:EF):EF:=λρ L=>(f ρ L).bind λx=>match x.1 with|.bl true=>some (.bl true,x.2)|.bl false=>g ρ x.2|_=>none
abbrev Kl(f:EF):EF:=λρ L=>(f ρ L).bind λx=>match x.1 with|.bl b=>some (.bl (!b),x.2)|_=>none
def AKU{op:BoolOp}{f:EF}(h:AW X a f):AW X (.BoolOp op [a] pos) f:=ADP h
def AKq{f g:EF}{rest:AM7}(ha:AW X a f)(hb:AW X (.BoolOp .And (b::rest) pos) g):AW X (.BoolOp .And (a::b::rest) pos) (EX f g) :=
 PE.weaken (ADi ha hb) λY H Q z3_=>by
  obtain⟨O,ρ,L,c,L',r,e,k⟩:=z3_;unfold EX at e;obtain⟨p,e1,e⟩:=bS e;obtain⟨d,L1⟩:=p;refine⟨O,ρ,L,d,L1,r,e1,λv H1 O1 st rs is=>?_⟩
  cases d <;> simp only[AS] at e <;> try (cases e;done)
  rename_i b1;cases is;refine⟨b1,rfl,?_⟩
  cases b1 with
  |true=>exact iteT ⟨O1,ρ,L1,c,L',r.to st rs,by simpa using e,λv H' O' st' rs' is'=>k v H' O' (st.trans st') rs' is'⟩
  |false =>
   simp at e;obtain⟨rfl,rfl⟩:=e;exact iteF (k _ H1 O1 st rs (.bl _))
def AKS{f g:EF}{rest:AM7}(ha:AW X a f)(hb:AW X (.BoolOp .Or (b::rest) pos) g):AW X (.BoolOp .Or (a::b::rest) pos) (JD f g) :=
 PE.weaken (ADN ha hb) λY H Q z3_=>by
  obtain⟨O,ρ,L,c,L',r,e,k⟩:=z3_;unfold JD at e;obtain⟨p,e1,e⟩:=bS e;obtain⟨d,L1⟩:=p;refine⟨O,ρ,L,d,L1,r,e1,λv H1 O1 st rs is=>?_⟩
  cases d <;> simp only[AS] at e <;> try (cases e;done)
  rename_i b1;cases is;refine⟨b1,rfl,?_⟩
  cases b1 with
  |false=>exact iteF ⟨O1,ρ,L1,c,L',r.to st rs,by simpa using e,λv H' O' st' rs' is'=>k v H' O' (st.trans st') rs' is'⟩
  |true =>
   simp at e;obtain⟨rfl,rfl⟩:=e;exact iteT (k _ H1 O1 st rs (.bl _))
def AKV{f:EF}(ha:AW X a f):AW X (.UnaryOp .Not a pos) (Kl f) :=
 PE.weaken (ADQ ha) λY H Q z3_=>by
  obtain⟨O,ρ,L,c,L',r,e,k⟩:=z3_;unfold Kl at e;obtain⟨p,e1,e⟩:=bS e;obtain⟨d,L1⟩:=p;refine⟨O,ρ,L,d,L1,r,e1,λv H1 O1 st rs is=>?_⟩
  cases d <;> simp only[AS] at e <;> try (cases e;done)
  cases e;cases is;exact⟨_,rfl,k _ H1 O1 st rs (.bl _)⟩
abbrev FE(t:TF)(f g:EF):EF:=λρ L=>(t ρ L).bind λx=>if x.1=true then f ρ x.2 else g ρ x.2
def AKd{t:TF}{f g:EF}(hc:Et X c t)(ha:AW X a f)(hb:AW X b g):AW X (.IfExp c a b pos) (FE t f g) :=
 PE.weaken (ADW hc ha hb) λY H Q z3_=>by
  obtain⟨O,ρ,L,d,L',r,e,k⟩:=z3_;unfold FE at e;obtain⟨p,e1,e⟩:=bS e;obtain⟨b1,L1⟩:=p;refine⟨O,ρ,L,b1,L1,r,e1,λH1 O1 st rs=>?_⟩
  cases b1 with
  |true=>exact iteT ⟨O1,ρ,L1,d,L',r.to st rs,by simpa using e,λv H' O' st' rs' is'=>k v H' O' (st.trans st') rs' is'⟩
  |false=>exact iteF ⟨O1,ρ,L1,d,L',r.to st rs,by simpa using e,λv H' O' st' rs' is'=>k v H' O' (st.trans st') rs' is'⟩
abbrev EJ:Expr->Bool
 |.Starred _ _=>false
 |_=>true
def Gy{e:Expr}{es:AM7}{env:Env}(h:EJ e=true):starEach (e::es) env=(false,eval e env)::starEach es env:=by cases e <;> first|rfl|(cases h)
def IC:∀{es:AM7} {env:Env} {pos:Pos},es.all EJ=true->(backTo pos (starEach es env)).any (·.1)=false
 |[],_,_,_=>rfl
 |e::es,env,pos,h=>by
  rw[ALi,Bn] at h;rw[Gy h.1];have:=IC (env:=env) (pos:=pos) h.2;unfold backTo at this ⊢;rw[Ak,ALZ,this];rfl
def Va:∀{es:AM7} {env:Env} {pos:Pos},es.all EJ=true->(backTo pos (starEach es env)).all (λx=>!x.1)=true
 |[],_,_,_=>rfl
 |e::es,env,pos,h=>by
  rw[ALi,Bn] at h;rw[Gy h.1];have:=Va (env:=env) (pos:=pos) h.2;unfold backTo at this ⊢;rw[Ak,ALi,this];rfl
abbrev AH:AF:=λ_ L=>some ([],L)
abbrev AC(f:EF)(g:AF):AF:=λρ L=>(f ρ L).bind λx=>(g ρ x.2).bind λy=>some (x.1::y.1,y.2)
def ALO:Ds X [] AH:=PA.weaken ADo λY H Q z3_=>by obtain⟨O,ρ,L,d,L',r,e,k⟩:=z3_;cases e;exact k _ _ _ (.refl _ _) r.s .nil
def ALP{e:Expr}{es:AM7}{f:EF}{g:AF}(ha:AW X e f)(hr:Ds X es g)(hs:EJ e=true:=by rfl):Ds X (e::es) (AC f g) :=
 PA.weaken (ADp ha hr (Gy hs)) λY H Q z3_=>by
  obtain⟨O,ρ,L,d,L',r,e,k⟩:=z3_;unfold AC at e;obtain⟨p,e1,e⟩:=bS e;obtain⟨q,e2,e⟩:=bS e;cases e;refine⟨O,ρ,L,p.1,p.2,r,e1,λv H1 O1 st1 rs1 is1=>?_⟩;refine⟨O1,ρ,p.2,q.1,q.2,r.to st1 rs1,e2,λu H2 O2 st2 rs2 is2=>?_⟩;exact k _ _ _ (st1.trans st2) rs2 (.cons (is1.mono st2) is2)
abbrev CG(f:AF):EF:=λρ L=>(f ρ L).bind λx=>if x.1.length<=16777216 then some (.tup x.1,x.2) else none
abbrev Bd(f:AF):EF:=λρ L=>(f ρ L).bind λx=>if x.1.length<=16777216 then some (.ref x.2.length,x.2++[.lst x.1]) else none
def AKP{es:AM7}{f:AF}{x1:Nat}(h:Ds X es f):AW X (.Tuple es x1 pos) (CG f) :=
 PE.weaken (ADK h) λY H Q z3_=>by
  obtain⟨O,ρ,L,d,L',r,e,k⟩:=z3_;unfold CG at e;obtain⟨p,e1,e⟩:=bS e;split at e
  .rename_i hz;cases e;refine⟨O,ρ,L,p.1,p.2,r,e1,λvs H1 O1 st rs is=>⟨by rw[is.length,sizeLine_eq];exact hz,λq hq=>?_⟩⟩;have st2:Ai H1 O1 (upd H1 q (.tup vs)) O1:=⟨.new hq,AR _⟩;exact k _ _ _ (st.trans st2) (rs.ext λa u e=>by rw[BN (DK e hq)];exact e) (.tup (BY.of Bu) (is.mono st2))
  .cases e
def AKa{es:AM7}{f:AF}(h:Ds X es f):AW X (.List es pos) (Bd f) :=
 PE.weaken (ADT h) λY H Q z3_=>by
  obtain⟨O,ρ,L,d,L',r,e,k⟩:=z3_;unfold Bd at e;obtain⟨p,e1,e⟩:=bS e;split at e
  .rename_i hz;cases e;refine⟨O,ρ,L,p.1,p.2,r,e1,λvs H1 O1 st rs is=>⟨by rw[is.length,sizeLine_eq];exact hz,λq hq=>?_⟩⟩;have st2:Ai H1 O1 (upd H1 q (.lst vs)) (O1++[q]):=⟨.new hq,Am _ _⟩;refine k _ _ _ (st.trans st2) (rs.new hq ⟨vs,Bu,is.mono st2⟩) (.ref ?_);rw[<-rs.len];simp
  .cases e
abbrev AL(g:GL)(f:AF):EF:=λρ L=>(f ρ L).bind λx=>g x.1 x.2
def LL{K:AK}{g:GL}{f:AF}{Y:L2.St}{H:Hp}{Q:VK}(h:IG K (AL g f) Y H Q):Rf K f Y H λvs H1=>rC K g vs H1 Q:=by obtain⟨O,ρ,L,d,L',r,e,k⟩:=h;unfold AL at e;obtain⟨p,e1,e⟩:=bS e;exact⟨O,ρ,L,p.1,p.2,r,e1,λvs H1 O1 st rs is=>⟨O1,p.2,p.1,d,L',rs,is,e,λw H' O' st' rs' is'=>k w H' O' (st.trans st') rs' is'⟩⟩
def AKk{x:Str}{p:Pos}{e:Expr}{es:AM7}{id:String}{g:GL}{f:AF}(hc:Ex X (.builtin id) g)(hm:X.mg x=none)(hv:bootBuiltins x=some (.builtin id))(ha:Ds X (e::es) f)(hg:Gl X x:=by rfl)(hn:x≠"__name__":=by decide)(hdb:(x == ("__debug__":Str))=false:=by decide)
  (he:EJ e=true:=by rfl) (hpl:es.all EJ=true:=by rfl):AW X (.Call (.Name x p) (e::es) [] pos) (AL g f) :=
 PE.weaken (ADb hc hg hm hv ha hn hdb (Gy he) (IC hpl)) λY H Q h=>LL h
def AKj{x:Str}{p:Pos}{e:Expr}{es:AM7}{T:String}{g:GL}{f:AF}(hc:Ex X (.type T) g)(hm:X.mg x=none)(hv:bootBuiltins x=some (.type T))(ha:Ds X (e::es) f)(hg:Gl X x:=by rfl)(hn:x≠"__name__":=by decide)(hdb:(x == ("__debug__":Str))=false:=by decide)
  (he:EJ e=true:=by rfl) (hpl:es.all EJ=true:=by rfl):AW X (.Call (.Name x p) (e::es) [] pos) (AL g f) :=
 PE.weaken (ADa hc hg hm hv ha hn hdb (Gy he) (IC hpl)) λY H Q h=>LL h
end
inductive GQ where
 |next (ρ:Fm) (L:AB)|ret (d:D) (L:AB)|brk (ρ:Fm) (L:AB)|cont (ρ:Fm) (L:AB)
noncomputable abbrev SF:=Fm->AB->Option GQ
abbrev Ht(K:AK)(H:Hp)(O:AM6)(E:Ic):GQ->Prop
 |.next ρ L=>∀Y' H' O',Ai H O H' O'->Cw K H' O' Y' ρ L->E.nx Y' H'
 |.ret d L=>∀v H' O',Ai H O H' O'->Al K H' O' L->Is K H' O' v d->E.rt v H'
 |.brk ρ L=>∀Y' H' O',Ai H O H' O'->Cw K H' O' Y' ρ L->E.bk Y' H'
 |.cont ρ L=>∀Y' H' O',Ai H O H' O'->Cw K H' O' Y' ρ L->E.ct Y' H'
def Ht.mono{K:AK}{H H1:Hp}{O O1:AM6}{E:Ic}{out:GQ}(st:Ai H O H1 O1)(h:Ht K H O E out):Ht K H1 O1 E out:=by
 cases out with
 |next ρ L=>exact λY' H' O' st' r=>h Y' H' O' (st.trans st') r
 |ret d L=>exact λv H' O' st' r i=>h v H' O' (st.trans st') r i
 |brk ρ L=>exact λY' H' O' st' r=>h Y' H' O' (st.trans st') r
 |cont ρ L=>exact λY' H' O' st' r=>h Y' H' O' (st.trans st') r
abbrev WX(K:AK)(f:SF):TS:=λE Y H=>∃O ρ L out,Cw K H O Y ρ L/\f ρ L=some out/\Ht K H O E out
abbrev Dc(X:Cx)(st:Stmt)(f:SF):Prop:=PS X st (WX X.K f)
abbrev Eu(X:Cx)(st:AM8)(f:SF):Prop:=DW X st (WX X.K f)
def PS.weaken{X:Cx}{e:Stmt}{t t':TS}(h:PS X e t)(i:∀D Y H,t' D Y H->t D Y H):PS X e t':=λpins s Y H D I q=>h pins s Y H D I (i D Y H q)
def DW.weaken{X:Cx}{e:AM8}{t t':TS}(h:DW X e t)(i:∀D Y H,t' D Y H->t D Y H):DW X e t':=λpins s Y H D I q=>h pins s Y H D I (i D Y H q)
abbrev BB:SF:=λρ L=>some (.next ρ L)
abbrev AJ(f g:SF):SF:=λρ L=>(f ρ L).bind λout=>match out with|.next ρ' L'=>g ρ' L'|o=>some o
abbrev AV(f:EF):SF:=λρ L=>(f ρ L).bind λx=>some (.ret x.1 x.2)
abbrev DU(f:EF):SF:=λρ L=>(f ρ L).bind λx=>some (.next ρ x.2)
abbrev AO(i:Nat)(f:EF):SF:=λρ L=>(f ρ L).bind λx=>some (.next (ρ.set i (some x.1)) x.2)
abbrev Au(t:TF)(f g:SF):SF:=λρ L=>(t ρ L).bind λx=>if x.1=true then f ρ x.2 else g ρ x.2
abbrev SX:SF:=λρ L=>some (.brk ρ L)
section
variable {X:Cx}{st:Stmt}{rest:AM8}{f g:SF}{fe:EF}{e:Expr}{pos:Pos}
def AIY:Eu X [] BB:=DW.weaken ACd λD Y H z3_=>by obtain⟨O,ρ,L,out,r,e,k⟩:=z3_;cases e;exact k Y H O (.refl _ _) r
def AIZ(h1:Dc X st f)(h2:Eu X rest g):Eu X (st::rest) (AJ f g) :=
 DW.weaken (ACe h1 h2) λD Y H z3_=>by
  obtain⟨O,ρ,L,out,r,e,k⟩:=z3_;unfold AJ at e;obtain⟨o1,e1,e⟩:=bS e;refine⟨O,ρ,L,o1,r,e1,?_⟩
  cases o1 with
  |next ρ1 L1=>exact λY' H' O' st' r'=>⟨O',ρ1,L1,out,r',e,k.mono st'⟩
  |ret d L1=>cases e;exact k
  |brk ρ1 L1=>cases e;exact k
  |cont ρ1 L1=>cases e;exact k
def AIX(h1:Dc X st f):Eu X [st] f:=DW.weaken (ACc h1) λD Y H h=>h
def AIm:Dc X (.Break pos) SX:=PS.weaken ACo λD Y H z3_=>by obtain⟨O,ρ,L,out,r,e,k⟩:=z3_;cases e;exact k Y H O (.refl _ _) r
def AIj(he:AW X e fe)(hs:swapsWith e none pos.line X.env=pure false:=by rfl):Dc X (.Expr e pos) (DU fe) :=
 PS.weaken (ACn he hs) λD Y H z3_=>by
  obtain⟨O,ρ,L,out,r,e,k⟩:=z3_;unfold DU at e
  cases e1:fe ρ L with
  |none=>rw[e1] at e;cases e
  |some p=>rw[e1] at e;cases e;exact⟨O,ρ,L,p.1,p.2,r,e1,λv H' O' st rs is=>k Y H' O' st (r.to st rs)⟩
def AId(he:AW X e fe):Dc X (.Return (some e) pos) (AV fe) :=
 PS.weaken (ACh he) λD Y H z3_=>by
  obtain⟨O,ρ,L,out,r,e,k⟩:=z3_;unfold AV at e
  cases e1:fe ρ L with
  |none=>rw[e1] at e;cases e
  |some p=>rw[e1] at e;cases e;exact⟨O,ρ,L,p.1,p.2,r,e1,λv H' O' st rs is=>k v H' O' st rs is⟩
def AIc{i:Nat}{x:Str}{pos':Pos}(hN:X.N.Nodup)(he:AW X e fe)(hi:X.N[i]?=some x:=by rfl)(hx:Gv X.env.scope x:=by first|exact Or.inl rfl|exact Or.inr rfl)(hs:swapsWith e (some (.Name x pos')) pos.line X.env=pure false:=by rfl)
  (hf:X.fn x=true\/X.env.scope.names.lookup x=some .local:=by first|exact .inl rfl|exact .inr rfl):Dc X (.Assign [.Name x pos'] e pos) (AO i fe) :=
 PS.weaken (ACg hN hi hx he hs hf) λD Y H z3_=>by
  obtain⟨O,ρ,L,out,r,e,k⟩:=z3_;unfold AO at e
  cases e1:fe ρ L with
  |none=>rw[e1] at e;cases e
  |some p=>rw[e1] at e;cases e;exact⟨O,ρ,L,p.1,p.2,r,e1,λv H' O' st rs is=>k _ H' O' st ⟨rs,(r.f.mono st).set is i⟩⟩
def AIh{c:Expr}{a b:AM8}{t:TF}(hc:Et X c t)(ha:Eu X a f)(hb:Eu X b g):Dc X (.If c a b pos) (Au t f g) :=
 PS.weaken (ACj hc ha hb) λD Y H z3_=>by
  obtain⟨O,ρ,L,out,r,e,k⟩:=z3_;unfold Au at e;obtain⟨p,e1,e⟩:=bS e;obtain⟨b1,L1⟩:=p;refine⟨O,ρ,L,b1,L1,r,e1,λH1 O1 st rs=>?_⟩
  cases b1 with
  |true=>exact iteT ⟨O1,ρ,L1,out,r.to st rs,by simpa using e,k.mono st⟩
  |false=>exact iteF ⟨O1,ρ,L1,out,r.to st rs,by simpa using e,k.mono st⟩
end
noncomputable abbrev GF:=D->Fm->Option Fm
noncomputable abbrev EY:=List D->Fm->Option Fm
abbrev AEx(K:AK)(g:GF):TG:=λv Y H Q=>∃O ρ L d ρ',Cw K H O Y ρ L/\Is K H O v d/\g d ρ=some ρ'/\∀Y',Cw K H O Y' ρ' L->Q Y' H
abbrev WY(K:AK)(g:EY):GN:=λv Y H Q=>∃O ρ L d ρ',Cw K H O Y ρ L/\AN K H O v d/\g d ρ=some ρ'/\∀Y',Cw K H O Y' ρ' L->Q Y' H
abbrev Gu(X:Cx)(tg:Expr)(g:GF):Prop:=PG X tg (AEx X.K g)
abbrev Jh(X:Cx)(tg:AM7)(g:EY):Prop:=GP X tg (WY X.K g)
def PG.weaken{X:Cx}{e:Expr}{t t':TG}(h:PG X e t)(i:∀v Y H Q,t' v Y H Q->t v Y H Q):PG X e t':=λpins s Y H v u Q I r q=>h pins s Y H v u Q I r (i _ _ _ _ q)
def GP.weaken{X:Cx}{e:AM7}{t t':GN}(h:GP X e t)(i:∀v Y H Q,t' v Y H Q->t v Y H Q):GP X e t':=λpins s Y H v u Q I r q=>h pins s Y H v u Q I r (i _ _ _ _ q)
abbrev An(i:Nat):GF:=λd ρ=>some (ρ.set i (some d))
abbrev ES:EY:=λds ρ=>match ds with|[]=>some ρ|_=>none
abbrev Bf(g:GF)(h:EY):EY:=λds ρ=>match ds with|d::r=>(g d ρ).bind λρ'=>h r ρ'|[]=>none
abbrev Ej(n:Nat)(h:EY):GF:=λd ρ=>match d with|.tup ds=>if ds.length=n then h ds ρ else none|_=>none
section
variable {X:Cx}{pos:Pos}
def AJl{i:Nat}{x:Str}(hN:X.N.Nodup)(hi:X.N[i]?=some x:=by rfl)(hx:Gv X.env.scope x:=by first|exact Or.inl rfl|exact Or.inr rfl)(hf:X.fn x=true\/X.env.scope.names.lookup x=some .local:=by first|exact .inl rfl|exact .inr rfl):Gu X (.Name x pos) (An i) :=
 PG.weaken (ADF hN hi hx hf) λv Y H Q z4_=>by
  obtain⟨O,ρ,L,d,ρ',r,is,e,k⟩:=z4_;cases e;exact k _ ⟨r.s,r.f.set is i⟩
def AJi:Jh X [] ES:=GP.weaken ADD λv Y H Q z4_=>by
 obtain⟨O,ρ,L,d,ρ',r,is,e,k⟩:=z4_
 cases is with
 |nil=>cases e;exact⟨rfl,k _ r⟩
 |cons a b=>cases e
end
section
variable {X:Cx}{pos:Pos}
def AJj{e:Expr}{es:AM7}{g:GF}{h:EY}(h1:Gu X e g)(h2:Jh X es h)
  (hs:(assignEach (e::es) X.env).map (·.2)=assign e X.env::(assignEach es X.env).map (·.2):=by rfl):Jh X (e::es) (Bf g h) :=
 GP.weaken (ADE h1 h2 hs) λv Y H Q z4_=>by
  obtain⟨O,ρ,L,ds,ρ',r,is,e,k⟩:=z4_
  cases is with
  |nil=>cases e
  |@cons v d vs ds a b =>
   simp only[Bf] at e;obtain⟨ρ1,e1,e⟩:=bS e;exact⟨v,vs,rfl,O,ρ,L,d,ρ1,r,a,e1,λY' r'=>⟨O,ρ1,L,ds,ρ',r',b,e,k⟩⟩
def AJk{es:AM7}{k:Nat}{h:EY}{n:Nat}(hc:X.calm=true)(h1:Jh X es h)
  (hn:(assignEach es X.env).length=n:=by rfl) (hst:(assignEach es X.env).findIdx? (·.1)=none:=by rfl):Gu X (.Tuple es k pos) (Ej n h) :=
 PG.weaken (Vf hc h1 hn hst) λv Y H Q z4_=>by
  obtain⟨O,ρ,L,d,ρ',r,is,e,k⟩:=z4_
  cases is with
  |@tup a vs ds hq il =>
   simp only[Ej] at e;split at e
   .rename_i hl;exact⟨a,vs,rfl,hq,by rw[il.length];exact hl,O,ρ,L,ds,ρ',r,il,e,k⟩
   .cases e
  |_=>cases e
end
structure LZ where
 items:List D
 ok:AB->Bool
noncomputable abbrev IF:=Fm->AB->Option (LZ×AB)
abbrev Jk(K:AK)(H0:Hp)(O0:AM6)(Jt:It)(J:LZ):Prop:=∀(i:Nat) (H:Hp) (O:AM6) (L:AB),Ai H0 O0 H O->Al K H O L->J.ok L=true ->
 (∀d,J.items[i]?=some d->Jt.go i H/\∀x H',Jt.yld i H x H'->Ai H O H' O/\Al K H' O L/\Is K H' O x d)/\(J.items.length<=i->Jt.stop i H)
def Jk.mono{K:AK}{H0 H1:Hp}{O0 O1:AM6}{Jt:It}{J:LZ}(st:Ai H0 O0 H1 O1)(h:Jk K H0 O0 Jt J):Jk K H1 O1 Jt J:=λi H O L s r o=>h i H O L (st.trans s) r o
abbrev AEw(K:AK)(f:IF):TI:=λY H R=>∃O ρ L J L',Cw K H O Y ρ L/\f ρ L=some (J,L')/\∀Jt H' O',Ai H O H' O'->Al K H' O' L'->Jk K H' O' Jt J->R Jt H'
abbrev Dr(X:Cx)(tg iter:Expr)(f:IF):Prop:=PI X tg iter (AEw X.K f)
def PI.weaken{X:Cx}{tg e:Expr}{t t':TI}(h:PI X tg e t)(i:∀Y H R,t' Y H R->t Y H R):PI X tg e t':=λpins s Y H R I q=>h pins s Y H R I (i _ _ _ q)
abbrev DS(ok:AB->Bool)(g:GF)(body:SF):List D->Fm->AB->Option GQ
 |[],ρ,L=>if ok L=true then some (.next ρ L) else none
 |x::xs,ρ,L=>if ok L=true then (g x ρ).bind λρ1=>(body ρ1 L).bind λout=>match out with
   |.next ρ2 L2=>DS ok g body xs ρ2 L2
   |.cont ρ2 L2=>DS ok g body xs ρ2 L2
   |.brk ρ2 L2=>some (.next ρ2 L2)
   |.ret d L2=>some (.ret d L2)
  else none
abbrev Bh(fi:IF)(g:GF)(body:SF):SF:=λρ L=>(fi ρ L).bind λx=>DS x.1.ok g body x.1.items ρ x.2
def AIi{X:Cx}{tg iter:Expr}{body:AM8}{fi:IF}{g:GF}{fb:SF}{pos:Pos}(hp:PassesOwn (model X.prog X.w) X.A X.env X.xe)(hc:X.calm=true)(hi:Dr X tg iter fi)(hg:Gu X tg g)(hb:Eu X body fb)
  (hs:∀x,foldedSetIterable iter X.env x=pure x:=by intro _;rfl):Dc X (.For tg iter body [] pos) (Bh fi g fb) :=
 PS.weaken (ACk hp hc hi hg hb hs) λD Y H z3_=>by
  obtain⟨O,ρ,L,out,r,e,k⟩:=z3_;unfold Bh at e;obtain⟨p,e1,e⟩:=bS e;obtain⟨⟨items,ok⟩,L1⟩:=p;simp only[AS] at e;refine⟨O,ρ,L,_,_,r,e1,λJt H1 O1 st1 rs1 it=>?_⟩
  refine⟨λi m Y H=>m=items.length-i/\i<=items.length/\∃O ρ L,Ai H1 O1 H O/\Cw X.K H O Y ρ L/\DS ok g fb (items.drop i) ρ L=some out/\Ht X.K H O D out,
   ⟨items.length,rfl,Dg _,O1,ρ,L1,.refl _ _,r.to st1 rs1,e,k.mono st1⟩,?_⟩
  rintro i m Y' H' ⟨rfl,hi',O',ρ',L',st',r',el,k'⟩
  by_cases hlt:i<items.length
  .have ed:items.drop i=items[i]::items.drop (i+1):=AMA hlt;rw[ed] at el;simp only[DS] at el;split at el
   .rename_i hok;obtain⟨h1,_⟩:=it i H' O' L' st' r'.s hok;obtain⟨go,yl⟩:=h1 items[i] (by simp[hlt])
    refine .inr ⟨go,λY2 H2=>∃m',m'<items.length-i/\m'=items.length-(i+1)/\i+1<=items.length/\∃O ρ L,Ai H1 O1 H2 O/\Cw X.K H2 O Y2 ρ L/\DS ok g fb (items.drop (i+1)) ρ L=some out/\Ht X.K H2 O D out,
     λY2 H2 h=>h,λx H2 y=>?_⟩
    obtain⟨st2,rs2,is2⟩:=yl x H2 y;obtain⟨ρ1,eg,el⟩:=bS el;refine⟨O',ρ',L',_,ρ1,r'.to st2 rs2,is2,eg,λY3 r3=>?_⟩;obtain⟨o1,eb,el⟩:=bS el;refine⟨O',ρ1,L',o1,r3,eb,?_⟩
    cases o1 with
    |next ρ2 L2=>exact λY4 H4 O4 st4 r4=>⟨items.length-(i+1),by omega,rfl,hlt,O4,ρ2,L2,(st'.trans st2).trans st4,r4,el,(k'.mono st2).mono st4⟩
    |cont ρ2 L2=>exact λY4 H4 O4 st4 r4=>⟨items.length-(i+1),by omega,rfl,hlt,O4,ρ2,L2,(st'.trans st2).trans st4,r4,el,(k'.mono st2).mono st4⟩
    |brk ρ2 L2=>cases el;exact λY4 H4 O4 st4 r4=>k' Y4 H4 O4 (st2.trans st4) r4
    |ret d L2=>cases el;exact λv H4 O4 st4 r4 i4=>k' v H4 O4 (st2.trans st4) r4 i4
   .cases el
  .have hi2:i=items.length:=by omega
   subst hi2;rw[AMB] at el;simp only[DS] at el;split at el
   .rename_i hok;cases el;obtain⟨_,h2⟩:=it _ H' O' L' st' r'.s hok;exact .inl ⟨h2 (Ae _),k' Y' H' O' (.refl _ _) r'⟩
   .cases el
abbrev Rr(f:EF):IF:=λρ L=>(f ρ L).bind λx=>match x.1 with|.tup xs=>some (⟨xs,λ_=>true⟩,x.2)|_=>none
abbrev Nf(f:EF):IF:=λρ L=>(f ρ L).bind λx=>match x.1 with
 |.fz xs=>some (⟨xs,λ_=>true⟩,x.2)
 |.ref k=>match x.2[k]? with|some (.lst xs)=>some (⟨xs,λL'=>decide (L'[k]?=some (.lst xs))⟩,x.2)|_=>none
 |_=>none
abbrev EQ(lo:Int)(n:Nat):List D:=(List.range n).map λ(i:Nat)=>.int (lo+((i:Nat):Int))
abbrev Gh(f:AF):IF:=λρ L=>(f ρ L).bind λx=>match x.1 with
 |[.int j]=>if j<=4611686018427387903/\-4611686018427387904<=j then some (⟨EQ 0 j.toNat,λ_=>true⟩,x.2) else none
 |_=>none
abbrev Ks(f:AF):IF:=λρ L=>(f ρ L).bind λx=>match x.1 with
 |[.int i,.int j]=>if (i<=4611686018427387903/\-4611686018427387904<=i)/\(j<=4611686018427387903/\-4611686018427387904<=j) then some (⟨EQ i (j-i).toNat,λ_=>true⟩,x.2) else none
 |_=>none
section
variable {X:Cx}{tg l:Expr}{f:EF}
def VN(lo:Int)(n i:Nat):(EQ lo n)[i]?=if i<n then some (.int (lo+(i:Int))) else none:=by
 unfold EQ;rw[Ar]
 by_cases h:i<n
 .rw[if_pos h];simp[ALs h]
 .rw[if_neg h];simp;omega
def Gz(lo:Int)(n:Nat):(EQ lo n).length=n:=by simp[EQ]
def Wm{K:AK}{H0:Hp}{O0:AM6}{lo:Int}{n:Nat}:Jk K H0 O0 (LY lo n) ⟨EQ lo n,λ_=>true⟩:=by
 intro i H O L st rs _;refine⟨λd hd=>?_,λh=>by rw[Gz] at h;exact h⟩;simp only at hd;rw[VN] at hd;split at hd
 .rename_i hlt;cases hd;refine⟨hlt,λx H' y=>?_⟩;obtain⟨e,y⟩:=y;subst e y;exact⟨.refl _ _,rs,.int _⟩
 .cases hd
def ACz(hl:AW X l f):Dr X tg l (Rr f):=PI.weaken (AC8 hl) λY H R z3_=>by
 obtain⟨O,ρ,L,J,L',r,e,k⟩:=z3_;unfold Rr at e;obtain⟨p,e1,e⟩:=bS e;obtain⟨d,L1⟩:=p
 cases d <;> simp only[AS] at e <;> try (cases e;done)
 cases e;refine⟨O,ρ,L,_,_,r,e1,λv H1 O1 st rs is=>?_⟩
 cases is with
 |@tup a vs ds hq il =>
  refine⟨a,rfl,⟨vs,hq⟩,k _ _ _ st rs λi H2 O2 L2 st2 rs2 _=>?_⟩;have hq2:=BY.grow st2.1 hq;have il2:=il.mono st2;refine⟨λd hd=>?_,λh=>⟨vs,hq2,by rw[il.length];exact h⟩⟩;obtain⟨v,hv,iv⟩:=il2.get hd;refine⟨⟨vs,v,hq2,hv⟩,λx H' y=>?_⟩;obtain⟨e,y⟩:=y;subst e;have:=y vs hq2;rw[hv] at this;cases this;exact⟨.refl _ _,rs2,iv⟩
def Ve(hl:AW X l f):Dr X tg l (Nf f):=PI.weaken (ADC hl) λY H R z3_=>by
 obtain⟨O,ρ,L,J,L',r,e,k⟩:=z3_;unfold Nf at e;obtain⟨p,e1,e⟩:=bS e;obtain⟨d,L1⟩:=p
 cases d <;> simp only[AS] at e <;> try (cases e;done)
 .cases e;refine⟨O,ρ,L,_,_,r,e1,λv H1 O1 st rs is=>?_⟩
  cases is with
  |@fz a vs ds hq il =>
   refine⟨a,rfl,⟨vs,hq.sql⟩,k _ _ _ st rs λi H2 O2 L2 st2 rs2 _=>?_⟩;have hq2:=(SqF.grow st2.1 hq).sql;have il2:=il.mono st2;refine⟨λd hd=>?_,λh=>⟨vs,hq2,by rw[il.length];exact h⟩⟩;obtain⟨v,hv,iv⟩:=il2.get hd;refine⟨⟨vs,v,hq2,hv⟩,λx H' y=>?_⟩;obtain⟨e,y⟩:=y;subst e;have:=y vs hq2;rw[hv] at this;cases this;exact⟨.refl _ _,rs2,iv⟩
 .rename_i kk
  cases e2:L1[kk]? with
  |none=>rw[e2] at e;cases e
  |some o =>
   rw[e2] at e
   cases o with
   |dk _=>cases e
   |ins _ _=>cases e
   |dt _ _=>cases e
   |exn _=>cases e
   |lst xs =>
    cases e;refine⟨O,ρ,L,_,_,r,e1,λv H1 O1 st rs is=>?_⟩
    cases is with
    |@ref _ a hk =>
     obtain⟨vs,hv,il⟩:=rs.ob _ _ _ hk e2;refine⟨a,rfl,⟨vs,BH.of hv⟩,k _ _ _ st rs λi H2 O2 L2 st2 rs2 hok=>?_⟩;have hk2:=DJ st2.2 hk;obtain⟨ws,hw,iw⟩:=rs2.ob _ _ _ hk2 (of_decide_eq_true hok);refine⟨λd hd=>?_,λh=>⟨ws,BH.of hw,by rw[iw.length];exact h⟩⟩;obtain⟨v,hv',iv⟩:=iw.get hd;refine⟨⟨ws,v,BH.of hw,hv'⟩,λx H' y=>?_⟩;obtain⟨e,y⟩:=y;subst e;have:=y ws (BH.of hw);rw[hv'] at this;cases this;exact⟨.refl _ _,rs2,iv⟩
def AIz{a:Expr}{fa:AF}{p pos:Pos}(hm:X.mg "range"=none)(ha:Ds X [a] fa)(hg:Gl X "range":=by rfl)(hs:starEach [a] X.env=[(false,eval a X.env)]:=by rfl):Dr X tg (.Call (.Name "range" p) [a] [] pos) (Gh fa) :=
 PI.weaken (ADB hg hm ha hs) λY H R z3_=>by
  obtain⟨O,ρ,L,J,L',r,e,k⟩:=z3_;unfold Gh at e;obtain⟨q,e1,e⟩:=bS e;obtain⟨ds,L1⟩:=q;simp only[AS] at e;refine⟨O,ρ,L,ds,L1,r,e1,λvs H1 O1 st rs is=>?_⟩;split at e
  .rename_i j;split at e
   .rename_i hj;cases e
    cases is with
    |cons i1 i2 =>
     cases i1;cases i2;exact⟨j,rfl,by omega,by omega,k _ _ _ st rs Wm⟩
   .cases e
  .cases e
def AIy{a b:Expr}{fa:AF}{p pos:Pos}(hm:X.mg "range"=none)(ha:Ds X [a,b] fa)(hg:Gl X "range":=by rfl)(hs:starEach [a,b] X.env=[(false,eval a X.env),(false,eval b X.env)]:=by rfl)(hs2:starEach [b] X.env=[(false,eval b X.env)]:=by rfl):Dr X tg (.Call (.Name "range" p) [a,b] [] pos) (Ks fa) :=
 PI.weaken (ADA hg hm ha hs hs2) λY H R z3_=>by
  obtain⟨O,ρ,L,J,L',r,e,k⟩:=z3_;unfold Ks at e;obtain⟨q,e1,e⟩:=bS e;obtain⟨ds,L1⟩:=q;simp only[AS] at e;refine⟨O,ρ,L,ds,L1,r,e1,λvs H1 O1 st rs is=>?_⟩;split at e
  .rename_i i j;split at e
   .rename_i hj;cases e
    cases is with
    |cons i1 i2 =>
     cases i1
     cases i2 with
     |cons i3 i4 =>
      cases i3;cases i4;exact⟨i,j,rfl,⟨by omega,by omega,by omega,by omega⟩,k _ _ _ st rs Wm⟩
   .cases e
  .cases e
end
def AFx{names:List (Str×NameKind)}{env:Env}:∀(cs:List (Str×Addr)),(∀y∈names,y.2=.free->∃c,env.cells.lookup y.1=some c) ->
  ∃cl:List (Str×Addr),(forIn names cs (λ(x:Str×NameKind) (r:List (Str×Addr))=>match x with
   |(name,kind)=>if (kind == NameKind.free)=true then do let a <-cellOf env name;pure (ForInStep.yield ((name,a)::r)) else pure (ForInStep.yield r)):Sem (List (Str×Addr)))=pure cl /\
   (∀x,(x,NameKind.free)∈names->cl.lookup x=env.cells.lookup x)/\(∀x c,cl.lookup x=some c->env.cells.lookup x=some c\/cs.lookup x=some c)/\(∀x,(cs.lookup x=env.cells.lookup x)->cl.lookup x=env.cells.lookup x):=by
 induction names with
 |nil=>intro cs _;exact⟨cs,rfl,λx h=>by simp at h,λx c h=>.inr h,λx h=>h⟩
 |cons y r ih =>
  intro cs h;obtain⟨n,kd⟩:=y;rw[ALx]
  by_cases hk:kd=.free
  .subst hk;obtain⟨c,hc⟩:=h (n,.free) Aw rfl;obtain⟨cl,e1,e2,e3,e4⟩:=ih ((n,c)::cs) λy hy=>h y (Ax _ hy)
   have here:∀x,((n,c)::cs).lookup x=if x == n then some c else cs.lookup x:=λx=>by
    cases hx:x == n <;> simp[FY,hx]
   refine⟨cl,?_,λx hx=>?_,λx c' hx=>?_,λx hx=>e4 x ?_⟩
   .simp only[cellOf,hc];rw[<-e1];rfl
   .rcases Aa.mp hx with z|z
    .injection z with z1 _
     subst z1;refine e4 x ?_;rw[here];simp[hc]
    .exact e2 x z
   .rcases e3 x c' hx with z|z
    .exact .inl z
    .rw[here] at z
     cases hxn:x == n with
     |true =>
      rw[hxn] at z;simp at z;subst z;have:x=n:=by simpa using hxn
      subst this;exact .inl hc
     |false=>rw[hxn] at z;exact .inr z
   .rw[here]
    cases hxn:x == n with
    |true =>
     have:x=n:=by simpa using hxn
     subst this;simp[hc]
    |false=>simpa using hx
  .have hb:(kd == NameKind.free)=false:=by simpa using hk
   obtain⟨cl,e1,e2,e3,e4⟩:=ih cs λy hy=>h y (Ax _ hy);refine⟨cl,?_,λx hx=>?_,e3,e4⟩
   .simp only[hb];rw[<-e1];rfl
   .rcases Aa.mp hx with z|z
    .injection z with _ z2
     exact absurd z2.symm hk
    .exact e2 x z
def AGa{scope:Scope}{env:Env}(h:∀y∈scope.names,y.2=.free->∃c,env.cells.lookup y.1=some c) :
  ∃cl,closureFor scope env=pure cl/\(∀x,(x,NameKind.free)∈scope.names->cl.lookup x=env.cells.lookup x)/\(∀x c,cl.lookup x=some c->env.cells.lookup x=some c):=by
 obtain⟨cl,e1,e2,e3,_⟩:=AFx (names:=scope.names) (env:=env) [] h;refine⟨cl,?_,e2,λx c hx=>?_⟩
 .unfold closureFor;simp only[bind_pure]
  first
   |exact e1
   |(rw[e1];rfl)
 .rcases e3 x c hx with z|z
  .exact z
  .simp at z
section
variable {prog:Program}{w:World}{A:Around}{R:Result->Shared->Prop}{s:Shared}
def AGX{elt target iter:Expr}{ifs:AM7}{scope:Scope}{pos:Pos}{it acc:Value}{env:Env}(I:Nat->Shared->Prop)
  (turn:∀n s,I n s->wpAny (model prog w) A (pyNext it) (λr s₁=>match r with
   |none=>R (.ok .next) s₁
   |some v=>wpAny (model prog w) A (letOwnedTupleGo target it v) (λ_ s₁'=>wpAny (model prog w) A (assign target env v) (λ_ s₂ =>
     wpAny (model prog w) A (forIn ifs true λc r=>if r=true then do let ok <-isTrue c env (eval c env);pure (ForInStep.yield ok) else pure (ForInStep.yield r)) (λok s₃ =>
      if ok=true then wpAny (model prog w) A (eval elt env) (λx s₄ =>
       wpAny (model prog w) A (call (.builtin "list.append") [acc,x]) (λ_ s₅=>∃m,m<n/\I m s₅) (λ_ _=>False) s₄) (λ_ _=>False) s₃
      else ∃m,m<n/\I m s₃) (λ_ _=>False) s₂) (λ_ _=>False) s₁') (λ_ _=>False) s₁) (λ_ _=>False) s)
  (n:Nat) (h:I n s) :
  codeAny (model prog w) A (.compLoop (.ListComp elt [⟨target,iter,ifs,0⟩] scope pos) 0 it acc env) R s:=by
 refine codeAny_loop rfl I (λn s hI=>?_) n h
 show wpAny _ A ((compTurn (.ListComp elt [⟨target,iter,ifs,0⟩] scope pos) 0 it acc env).onRaise (λx=>do noteFrame x env;theTreesLotGoes x)) _ _ s
 refine wpAny_noted ?_;rw[compTurn_list];refine AG (wpAny_standAt (AG (DI (turn n s hI) (λr s₁ h₁=>?_) λ_ _ h'=>h'.elim)))
 cases r with
 |none=>exact AM h₁
 |some v =>
  refine AG (DI h₁ (λ_ s₁' h₁'=>?_) λ_ _ h'=>h'.elim);refine AG (DI h₁' (λ_ s₂ h₂=>AG (DI h₂ (λok s₃ h₃=>?_) λ_ _ h'=>h'.elim)) λ_ _ h'=>h'.elim)
  cases ok with
  |false=>exact AM ⟨rfl,h₃⟩
  |true =>
   exact AG (AG (DI h₃ (λx s₄ h₄=>AG (DI h₄ (λ_ s₅ h₅=>AM (AM ⟨rfl,h₅⟩)) λ_ _ h'=>h'.elim)) λ_ _ h'=>h'.elim))
end
abbrev CS(X:Cx)(N':AM4)(scope:Scope)(cl:List (Str×Addr))(C:Addr)(s:Shared)(H:Hp)(fp:AM6)(pins:List (Addr×Obj)):Cx where
 prog:=X.prog
 w:=X.w
 K:=X.K
 mg:=X.mg
 base:=X.base
 A:=X.A
 N:=N'
 s₀:=s
 H₀:=H
 env:=compEnvC scope cl C X.env
 outer:=X.stack
 stack:=X.stack
 ex:=fp
 fn:=λ_=>false
 calm:=X.calm
 pn:=X.pn++pins
 xe:=λ_ _=>False
abbrev Hv(X:Cx)(ifs:AM7)(c:TF):Prop :=
 ∀(pins:List (Addr×Obj)) (s:Shared) (Y:L2.St) (H:Hp) (Q:Bool->Hp->Prop),AI X pins Y H s->NX X.K c Y H Q ->
  wpAny (model X.prog X.w) X.A (forIn ifs true λc r=>if r=true then do let ok <-isTrue c X.env (eval c X.env);pure (ForInStep.yield ok) else pure (ForInStep.yield r)) (TP X pins Y Q) X.xe s
abbrev Cn:TF:=λ_ L=>some (true,L)
def AIv{X:Cx}:Hv X [] Cn:=λpins s Y H Q I z6_=>by
 obtain⟨O,ρ,L,b,L',r,e,k⟩:=z6_;cases e;exact wpAny_tests_nil ⟨H,I,k H O (.refl _ _) r.s⟩
def AIu{X:Cx}{c:Expr}{f:TF}(h:Et X c f):Hv X [c] f:=λpins s Y H Q I q=>wpAny_tests_one (h pins s Y H Q I q)
abbrev DE(ok:AB->Bool)(g:GF)(c:TF)(elt:EF)(k:Nat):List D->Fm->AB->Option AB
 |[],ρ,L=>if ok L=true then some L else none
 |x::xs,ρ,L=>if ok L=true then (g x ρ).bind λρ1=>(c ρ1 L).bind λp=>if p.1=true then (elt ρ1 p.2).bind λq=>match q.2[k]? with
    |some (.lst ys)=>if ys.length<16777216 then DE ok g c elt k xs ρ1 (q.2.set k (.lst (ys++[q.1]))) else none
    |_=>none
   else DE ok g c elt k xs ρ1 p.2
  else none
abbrev Hj(n:Nat)(idx:AM9)(ρ:Fm):Fm:=ALU n none++idx.map λj=>(ρ[j]?).join
abbrev Bl(fi:IF)(n:Nat)(idx:AM9)(g:GF)(c:TF)(elt:EF):EF:=λρ L=>(fi ρ L).bind λx =>
 (DE x.1.ok g c elt x.2.length x.1.items (Hj n idx ρ) (x.2++[.lst []])).bind λL2=>some (.ref x.2.length,L2)
def RC{env:Env}:∀{names:List (Str×NameKind)} {x:Str} {k:NameKind},
  (names.map λ(n,k)=>if (k == NameKind.free&&env.scope.kind == .function&&env.kindOf n == some .cell) then (n,NameKind.cell) else (n,k)).lookup x=some k ->
  ∃k',(x,k')∈names/\(k=k'\/(k=.cell/\k'=.free))
 |[],_,_,h=>by simp at h
 |(n,k0)::r,x,k,h=>by
  rw[Ak] at h;dsimp only at h;have ih:=@RC env r x k
  by_cases hc:(k0 == NameKind.free&&env.scope.kind == .function&&env.kindOf n == some .cell)=true
  .rw[if_pos hc] at h
   cases hx:x == n with
   |true =>
    simp only[AMR,hx] at h;cases h;have e:x=n:=by simpa using hx
    subst e
    have hk:k0=.free:=by simp only[Bn] at hc;simpa using hc.1.1
    subst hk;exact⟨.free,Aw,.inr ⟨rfl,rfl⟩⟩
   |false =>
    simp only[AMR,hx] at h;obtain⟨k',a,b⟩:=ih h;exact⟨k',Ax _ a,b⟩
  .rw[if_neg hc] at h
   cases hx:x == n with
   |true =>
    simp only[AMR,hx] at h;cases h;have e:x=n:=by simpa using hx
    subst e;exact⟨_,Aw,.inl rfl⟩
   |false =>
    simp only[AMR,hx] at h;obtain⟨k',a,b⟩:=ih h;exact⟨k',Ax _ a,b⟩
section
variable {X:Cx}{elt tg iter:Expr}{ifs:AM7}{scope:Scope}{pos pos':Pos}{N':AM4}{n:Nat}{idx:AM9}{fi:IF}{g:GF}{c:TF}{fe:EF}
structure Ld (X:Cx) (scope:Scope) (N':AM4) (n:Nat) (idx:AM9):Prop where
 kind:scope.kind=.function
 cell:∀y∈scope.names,y.2≠.cell
 names:∀y∈scope.names,y.2=.local->scope.names.lookup y.1=some .local
 free:∀y∈scope.names,y.2=.free->X.env.kindOf y.1=some .cell\/X.env.kindOf y.1=some .free
 len:N'.length=n+idx.length
 idx:∀(j:Nat) (i:Nat),idx[j]?=some i->∃x,N'[n+j]?=some x/\X.N[i]?=some x/\(x,NameKind.free)∈scope.names/\∀k,(x,k)∈scope.names->k=.free
def YF(hc:X.calm=true)(hi:Dr X tg iter fi)(S:Ld X scope N' n idx)
  (hbody:∀cl C s3 H3 fp pins,Gu (CS X N' scope cl C s3 H3 fp pins) tg g/\Hv (CS X N' scope cl C s3 H3 fp pins) ifs c/\AW (CS X N' scope cl C s3 H3 fp pins) elt fe)
  (hs:∀x,foldedSetIterable iter X.env x=pure x)
  {pins:List (Addr×Obj)} {s:Shared} {Y:L2.St} {H:Hp} {use:Option (Value->Sem Unit)} {Q':ANB} (I:AI X pins Y H s) {O:AM6} {ρ:Fm} {L L1 L9:AB} {items:List D} {ok:AB->Bool}
  (r:Cw X.K H O Y ρ L) (e1:fi ρ L=some (⟨items,ok⟩,L1)) (e2:DE ok g c fe L1.length items (Hj n idx ρ) (L1++[.lst []])=some L9)
  (fin:∀(C D:Addr) (s':Shared) (H':Hp) (O':AM6) (m:AM3),AI X pins Y H' s'->s'.heap.Ns C m->H' C=none->C≠X.env.locals->X.s₀.heap.objs.size<=C->(∀x c,X.env.cells.lookup x=some c->c≠C)->(∀p∈X.pn++pins,p.1≠C) ->
   Ai H O H' O'->Al X.K H' O' L9->O'[L1.length]?=some D->compPost (model X.prog X.w) X.A X.xe use Q' (.ref D) C (.ok .next) s') :
  wpAny (model X.prog X.w) X.A (comprehension (.ListComp elt [⟨tg,iter,ifs,0⟩] scope pos) scope X.env pos' (newList []) false (eval iter X.env) use) Q' X.xe s:=by
 obtain⟨cl,hclos,clget,clsub⟩:=AGa (scope:=scope) (env:=X.env) λy hy hk=>I.ok.has _ (S.free y hy hk);refine wpAny_comprehension_free rfl hs hclos S.kind S.names ?_;refine Af (hi pins s Y H (λJt H1=>∃O1,Ai H O H1 O1/\Al X.K H1 O1 L1/\Jk X.K H1 O1 Jt ⟨items,ok⟩) I ⟨O,ρ,L,_,_,r,e1,λJt H1 O1 st rs it=>⟨O1,st,rs,it⟩⟩) λv s1 h1=>Af h1 λitv s2 h2=>?_;obtain⟨it,fp,tn,J,H2,rfl,I2,T,st0,f2,O1,stp,rs1,itis⟩:=h2;refine AMv (wpAny_newFunctionEnv S.cell (by intro y hy;simp at hy) (λh₁ hns₁ hsb₁=>?_) S.kind);dsimp only at hns₁ hsb₁ ⊢
 -- the list
 have I3:AI X pins Y (upd H2 s2.heap.objs.size (.lst [])) {s2 with heap:=s2.heap.push {cls:=.type "list",dict:=none,data:=.seq ([]:AM5).toArray},toks:=s2.toks} :=
  I2.laid (t':=s2.toks) (λb o e=>Heap.get?_push_of_some _ e) (Ae _) ⟨by simp,[],0,.nil,Heap.get?_push_size _ rfl⟩
 have hf2:H2 s2.heap.objs.size=none:=I2.hok.fresh (Ae _);have rs3:Al X.K (upd H2 s2.heap.objs.size (.lst [])) (O1++[s2.heap.objs.size]) (L1++[.lst []]):=rs1.new hf2 ⟨[],Bu,.nil⟩;have st3:Ai H2 O1 (upd H2 s2.heap.objs.size (.lst [])) (O1++[s2.heap.objs.size]):=⟨.new hf2,Am _ _⟩
 have fpne:∀b∈fp,b≠s2.heap.objs.size:=λb hb z=>by
  obtain⟨o,e,_⟩:=T.obj 0 _ st0 b hb;exact absurd (Heap.lt_size e) (by rw[z];exact ALS _)
 have f3:∀b∈fp,EE X pins (upd H2 s2.heap.objs.size (.lst [])) b:=λb hb=>⟨by rw[BN (fpne b hb)];exact(f2 b hb).1,(f2 b hb).2⟩;generalize hH2:s2.heap.push {cls:=.type "list",dict:=none,data:=.seq ([]:AM5).toArray}=hp3 at hns₁ hsb₁ I3 ⊢;have hD0:O1.length=L1.length:=rs1.len;generalize hDD:s2.heap.objs.size=D at *;generalize hH3:upd H2 D (.lst [])=H3 at *;have hDs:(O1++[D])[L1.length]?=some D:=by rw[<-hD0];simp
 have tn3:tn 0 hp3:=T.keep _ _ _ st0 λb hb o e=>by rw[<-hH2];exact Heap.get?_push_of_some _ e
 -- the block's frame
 generalize hC:hp3.objs.size=C at *;have kept:∀b o,hp3.get? b=some o->h₁.get? b=some o:=λb o e=>hsb₁.extBut b o (by rw[<-hC];exact BQ (Heap.lt_size e)) (Heap.get?_push_of_some _ e);have tn4:tn 0 h₁:=T.keep _ _ _ tn3 λb hb o e=>kept b o e
 let s3:Shared:={s2 with heap:=hp3,toks:=s2.toks}
 have Cfresh:∀(b:Addr) (o:Obj),hp3.get? b=some o->b≠C:=λb o e=>by rw[<-hC];exact BQ (Heap.lt_size e)
 have CL:C≠X.env.locals:=λz=>by
  have:=I3.lt;rw[<-z,<-hC] at this;exact ALS _ this
 have Ccell:∀x c,X.env.cells.lookup x=some c->c≠C:=λx c e=>by
  obtain⟨v,o,ho,_⟩:=I3.cell x c e;exact Cfresh c o ho
 have Cpin:∀p∈X.pn++pins,p.1≠C:=λp hp=>Cfresh _ _ (I3.pin p hp).1;have C0:X.s₀.heap.objs.size<=C:=by rw[<-hC];exact I3.sz
 have frsub:∀b∈En X.stack,b=X.env.locals\/b∈X.fs:=λb hb=>Aa.mp (I3.stkSub b hb)
 have kindC:∀x k,(relabel scope X.env).names.lookup x=some k->(k=.cell\/k=.free)->(x,NameKind.free)∈scope.names:=λx k e hk=>by
  obtain⟨k',a,b⟩:=RC e;rcases b with rfl|⟨_,rfl⟩
  .rcases hk with rfl|rfl
   .exact absurd rfl (S.cell _ a)
   .exact a
  .exact a
 have okX:(CS X N' scope cl C s3 H3 fp pins).Ok:=by
  refine⟨I3.ok.mod,S.kind,I3.ok.glob,I3.ok.blt,ALT hC,λx y d h1 h2=>I3.ok.inj x y d (clsub x d h1) (clsub y d h2),λx hx=>?_,λx d h1=>(nomatch h1),I3.ok.hd,I3.ok.frames,.inl rfl,
   λb hb=>⟨λz=>?_,λx d e=>(f3 b hb).2.2.2.2.1 x d (clsub x d e)⟩,I3.bs,CD I3.ok.bsz I3.sz,λb o e hb=>?_,λb hb hz=>?_,I3.stack,I3.stkFree⟩
  .have hx':(relabel scope X.env).names.lookup x=some .cell\/(relabel scope X.env).names.lookup x=some .free:=hx
   have hm:(x,NameKind.free)∈scope.names:=by
    rcases hx' with h|h
    .exact kindC x _ h (.inl rfl)
    .exact kindC x _ h (.inr rfl)
   obtain⟨d,hd⟩:=I3.ok.has x (S.free _ hm rfl);exact⟨d,(clget x hm).trans hd⟩
  .obtain⟨o,e,_⟩:=T.obj 0 _ tn3 b hb;exact Cfresh b o e z
  .rcases(f3 b hb).2.2.2.1 with z|z
   .exact I3.ok.noex b o e z
   .have h1:=Cm (Heap.lt_size e) I3.ok.bsz;exact absurd (Cm h1 z) (ALS _)
  .rcases frsub b hz with z|z
   .exact(f3 b hb).2.1 z
   .exact(f3 b hb).2.2.1 z
 -- its state
 have I4:AI (CS X N' scope cl C s3 H3 fp pins) [] (ALU n none++idx.map λj=>(Y[j]?).join) H3 {s3 with heap:=h₁,toks:=s2.toks+([]:List (Str×Value)).length}:=by
  refine⟨okX,rfl,I3.bare,Un.kept kept,⟨_,hns₁,λi x v h1 h2 h3=>?_⟩,λx d e=>?_,?_,λx d e=>I3.freeC x d (clsub x d e),λp hp=>?_,I3.hok.kept kept,?_⟩
  .by_cases hin:i<n
   .rw[Ee (by simpa using hin)] at h2;rw[AMO,if_pos hin] at h2;cases h2
   .rw[ALV (by simpa using hin)] at h2;simp only[AMb] at h2;rw[Ar] at h2
    cases e:idx[i-n]? with
    |none=>rw[e] at h2;cases h2
    |some j =>
     rw[e] at h2;have h2':(Y[j]?).join=some v:=Option.some.inj h2
     have hY:Y[j]?=some (some v):=by
      cases q:Y[j]? with
      |none=>rw[q] at h2';cases h2'
      |some o=>rw[q] at h2';cases o with
       |none=>cases h2'
       |some w=>cases h2';rfl
     obtain⟨y,a1,a2,a3,a4⟩:=S.idx _ _ e
     have hxy:y=x:=by
      have:N'[n+(i-n)]?=some x:=by rw[show n+(i-n)=i from by omega];exact h1
      rw[a1] at this;exact Option.some.inj this
     subst hxy;have hk:=S.free _ a3 rfl;obtain⟨m,hm,hl⟩:=I3.loc
     have hvis:Jf X.env.scope y:=by
      rcases hk with z|z
      .exact .inr (.inl z)
      .exact .inr (.inr z)
     obtain⟨u,ru,lk⟩:=hl j y v a2 hY hvis;refine⟨u,ru,.inr ⟨?_,?_⟩⟩
     .rcases h3 with z|z|z
      .obtain⟨k',b1,b2⟩:=RC (show(relabel scope X.env).names.lookup y=some .local from z);rcases b2 with b2|⟨b2,_⟩
       .have:=a4 _ b1;rw[<-b2] at this;cases this
       .cases b2
      .exact .inl z
      .exact .inr z
     .rcases lk with⟨z,_⟩|⟨_,d,hd,⟨o,ho,hdt⟩⟩
      .rcases hk with q|q <;> rw[q] at z <;> cases z
      .exact⟨d,(clget y a3).trans hd,o,kept d o ho,hdt⟩
  .obtain⟨v,o,ho,hdt⟩:=I3.cell x d (clsub x d e);exact⟨v,o,kept d o ho,hdt⟩
  .exact I3.hok.fresh (ALT hC)
  .have hp':p∈X.pn++pins:=by simpa[CS] using hp
   obtain⟨q1,q2,q3,q4,q5⟩:=I3.pin p hp';refine⟨kept _ _ q1,q2,Cpin p hp',λz=>?_,q5⟩;rcases frsub _ z with y|y
   .exact q3 y
   .exact q4 y
  .show _=N'.length;rw[S.len];simp
 have fp4:∀{H':Hp} {pl:List (Addr×Obj)},pl=[]->(∀b∈fp,H' b=none)->∀b∈fp,EE (CS X N' scope cl C s3 H3 fp pins) pl H' b:=λ{H' pl} hpl hn b hb=>by
  subst hpl;refine⟨hn b hb,λz=>(okX.exf b hb).1 z,okX.exfs b hb,.inl hb,λx d e=>(okX.exf b hb).2 x d e,λp hp=>?_⟩;have hp':p∈X.pn++pins:=by simpa[CS] using hp
  exact(f3 b hb).2.2.2.2.2 p hp'
 obtain⟨bg,bq,be⟩:=hbody cl C s3 H3 fp pins
 have fr4:HP X.K H3 (O1++[D]) (ALU n none++idx.map λj=>(Y[j]?).join) (Hj n idx ρ):=by
  have fY:=(r.f.mono stp).mono st3;refine⟨by simp[Hj],λi d hd=>?_⟩;unfold Hj at hd
  by_cases hin:i<n
  .rw[Ee (by simpa using hin),AMO,if_pos hin] at hd;cases hd
  .rw[ALV (by simpa using hin)] at hd ⊢;simp only[AMb] at hd ⊢;rw[Ar] at hd ⊢
   cases e:idx[i-n]? with
   |none=>rw[e] at hd;cases hd
   |some j =>
    rw[e] at hd;have hd':(ρ[j]?).join=some d:=Option.some.inj hd
    have hρ:ρ[j]?=some (some d):=by
     cases q:ρ[j]? with
     |none=>rw[q] at hd';cases hd'
     |some o=>rw[q] at hd';cases o with
      |none=>cases hd'
      |some w=>cases hd';rfl
    obtain⟨v,hv,iv⟩:=fY.at' j d hρ;exact⟨v,by simp[hv],iv⟩
 have loop:∀s₃:Shared,s₃={s3 with heap:=h₁,toks:=s2.toks+([]:List (Str×Value)).length} ->
   codeAny (model X.prog X.w) X.A (.compLoop (.ListComp elt [⟨tg,iter,ifs,0⟩] scope pos) 0 (.ref it) (.ref D) (compEnvC scope cl C X.env))
    (compPost (model X.prog X.w) X.A X.xe use Q' (.ref D) C) s₃:=by
  rintro s₃ rfl
  refine AGX (λm s'=>∃i Y' H' O' ρ' L',m=items.length-i/\i<=items.length/\AI (CS X N' scope cl C s3 H3 fp pins) [] Y' H' s'/\tn i s'.heap/\(∀b∈fp,H' b=none) /\
   Ai H3 (O1++[D]) H' O'/\Cw X.K H' O' Y' ρ' L'/\DE ok g c fe L1.length (items.drop i) ρ' L'=some L9) ?_ items.length
   ⟨0,_,H3,O1++[D],Hj n idx ρ,L1++[.lst []],rfl,Dg _,I4,tn4,λb hb=>(f3 b hb).1,.refl _ _,⟨rs3,fr4⟩,by rw[AMC];exact e2⟩
  rintro m s' ⟨i,Y',H',O',ρ',L',rfl,hi',I',tn',fr',st',r',el⟩
  by_cases hlt:i<items.length
  .have ed:items.drop i=items[i]::items.drop (i+1):=AMA hlt;rw[ed] at el;simp only[DE] at el;split at el
   .rename_i hok;obtain⟨q1,_⟩:=itis i H' O' L' (st3.trans st') r'.s hok;obtain⟨go,yl⟩:=q1 items[i] (by simp[hlt]);refine Af (T.item (CS X N' scope cl C s3 H3 fp pins) rfl rfl rfl hc i [] s' Y' H' (λ_ _=>False) I' (fp4 rfl fr') tn' go) λrr s4 z2_=>?_;obtain⟨u,hr,h4⟩:=z2_;subst hr;refine Af h4 λ_ s5 z2_=>?_;obtain⟨x,H5,I5,r5,y5,st5,fr5⟩:=z2_;obtain⟨stp5,rs5,is5⟩:=yl x H5 y5;have I5':=I5.pinned (fp4 rfl fr5) (T.obj _ _ st5)
    have back:∀{s7:Shared} {Y7:L2.St} {H7:Hp},AI (CS X N' scope cl C s3 H3 fp pins) ([]++JB fp s5.heap) Y7 H7 s7->tn (i+1) s7.heap/\(∀b∈fp,H7 b=none):=λ{s7 Y7 H7} I7=>by
     refine⟨T.keep _ _ _ st5 λb hb o e=>(I7.pin (b,o) (FX _ (FX _ (JH hb e)))).1,λb hb=>?_⟩;obtain⟨o,e,d⟩:=T.obj _ _ st5 b hb;exact(I7.pin (b,o) (FX _ (FX _ (JH hb e)))).2.1
    obtain⟨ρ1,eg,el⟩:=bS el;refine Af (bg _ s5 Y' H5 x u (λY2 Ha=>Ha=H5/\Cw X.K H5 O' Y2 ρ1 L') I5' r5 ⟨O',ρ',L',_,ρ1,r'.to stp5 rs5,is5,eg,λY2 r2=>⟨rfl,r2⟩⟩) λ_ s6 z2_=>?_;obtain⟨Y6,H6,I6,q6a,q6⟩:=z2_;subst q6a;obtain⟨pc,ec,el⟩:=bS el;obtain⟨b1,L5⟩:=pc;simp only[AS] at el;refine Af (bq _ s6 Y6 H6 (λb Hb=>b=b1/\∃Ob,Ai H6 O' Hb Ob/\Al X.K Hb Ob L5) I6 ⟨O',ρ1,L',b1,L5,q6,ec,λHb Ob st rs=>⟨rfl,Ob,st,rs⟩⟩) λokb s7 z2_=>?_;obtain⟨H7,I7,hb7,O7,st7,rs7⟩:=z2_;subst hb7
    cases okb with
    |false =>
     rw[if_neg (by simp)] at el;rw[if_neg (by simp)];obtain⟨b1,b2⟩:=back I7;exact⟨items.length-(i+1),by omega,i+1,Y6,H7,O7,ρ1,L5,rfl,hlt,I7.unpinned,b1,b2,(st'.trans stp5).trans st7,q6.to st7 rs7,el⟩
    |true =>
     rw[if_pos rfl] at el;rw[if_pos rfl];obtain⟨pe,ee,el⟩:=bS el;obtain⟨de,L6⟩:=pe;simp only[AS] at el;refine Af (be _ s7 Y6 H7 (λv Hb=>∃Ob,Ai H7 O7 Hb Ob/\Al X.K Hb Ob L6/\Is X.K Hb Ob v de) I7 ⟨O7,ρ1,L5,de,L6,q6.to st7 rs7,ee,λv Hb Ob st rs is=>⟨Ob,st,rs,is⟩⟩) λue s8 z2_=>?_;obtain⟨ve,H8,I8,r8,O8,st8,rs8,is8⟩:=z2_
     cases ek:L6[L1.length]? with
     |none=>rw[ek] at el;cases el
     |some oo =>
      rw[ek] at el
      cases oo with
      |dk _=>cases el
      |ins _ _=>cases el
      |dt _ _=>cases el
      |exn _=>cases el
      |lst ys =>
       simp only at el;split at el
       .rename_i hys;have stA:Ai H3 (O1++[D]) H8 O8:=((st'.trans stp5).trans st7).trans st8;have hD8:O8[L1.length]?=some D:=DJ stA.2 hDs;obtain⟨vs,hv,il⟩:=rs8.ob _ _ _ hD8 ek
        refine Af (WD (X:=CS X N' scope cl C s3 H3 fp pins) _ s8 Y6 H8 (.ref D) [ve] (.ref D) [ue] (λv Hb=>Hb=upd H8 D (.lst (vs++[ve]))) I8 rfl (.cons r8 .nil) ⟨D,vs,ve,rfl,rfl,hv,by rw[il.length,sizeLine_eq];exact hys,rfl⟩)
         λ_ s9 ⟨_,H9,I9,_,q9⟩=>?_
        subst q9;have stw:Ai H8 O8 (upd H8 D (.lst (vs++[ve]))) O8:=⟨.write hv id,AR _⟩;obtain⟨b1,b2⟩:=back I9;refine⟨items.length-(i+1),by omega,i+1,Y6,_,O8,ρ1,_,rfl,hlt,I9.unpinned,b1,b2,stA.trans stw,⟨rs8.write (o':=.lst (ys++[de])) hD8 ⟨_,Bu,(il.mono stw).append (.cons (is8.mono stw) .nil)⟩,((q6.f.mono st7).mono st8).mono stw⟩,el⟩
       .cases el
   .cases el
  .have hi2:i=items.length:=by omega
   subst hi2;rw[AMB] at el;simp only[DE] at el;split at el
   .rename_i hok;cases el;obtain⟨_,q2⟩:=itis _ H' O' _ (st3.trans st') r'.s hok;refine Af (T.done (CS X N' scope cl C s3 H3 fp pins) rfl rfl rfl hc _ [] s' Y' H' (λ_ _=>False) I' (fp4 rfl fr') tn' (q2 (Ae _))) λrr s4 z2_=>?_;obtain⟨hr,I4'⟩:=z2_;subst hr;obtain⟨m,hm,_⟩:=I4'.loc;have hos:s4.os=s3.os:=I4'.os;have J:AI X pins Y H' s4:=I3.call' (s':=s4) (ch:=fp) hos I4'.base I4'.hok I4'.bare λb hb=>⟨(f3 b hb).2.2.2.1,(f3 b hb).2.1,(f3 b hb).2.2.2.2.1,(f3 b hb).2.2.2.2.2⟩;exact fin C D s4 H' O' m J hm I4'.free CL C0 Ccell Cpin ((stp.trans st3).trans st') r'.s (DJ st'.2 hDs)
   .cases el
 exact codeAny_compStart_list (loop _ rfl) (T.self X.A 0 _ _ _ tn4 (loop _ rfl))
def AGI(hc:X.calm=true)(hi:Dr X tg iter fi)(S:Ld X scope N' n idx)
  (hbody:∀cl C s3 H3 fp pins,Gu (CS X N' scope cl C s3 H3 fp pins) tg g/\Hv (CS X N' scope cl C s3 H3 fp pins) ifs c/\AW (CS X N' scope cl C s3 H3 fp pins) elt fe)
  (hs:∀x,foldedSetIterable iter X.env x=pure x:=by intro _;rfl):AW X (.ListComp elt [⟨tg,iter,ifs,0⟩] scope pos) (Bl fi n idx g c fe):=by
 rintro pins s Y H Q I ⟨O,ρ,L,d,L',r,e,k⟩;unfold Bl at e;obtain⟨p,e1,e⟩:=bS e;obtain⟨⟨items,ok⟩,L1⟩:=p;simp only[AS] at e;obtain⟨L9,e2,e⟩:=bS e;cases e;rw[eval_ListComp];refine YF hc hi S hbody hs I r e1 e2 λC D s' H' O' m J hn hfree hL h0 hcell hpin st rs hD=>?_;refine⟨m,hn,λh' sb=>?_⟩;exact⟨.ref D,H',J.turned (t':=s'.toks) (λb o hb e=>(sb.2 b hb).trans e) hfree hL (.inr h0) hcell hpin,rfl,k _ _ _ st rs (.ref hD)⟩
def ABl{i:Nat}{x:Str}{px:Pos}(hN:X.N.Nodup)(hc:X.calm=true)(hi:Dr X tg iter fi)(S:Ld X scope N' n idx)
  (hbody:∀cl C s3 H3 fp pins,Gu (CS X N' scope cl C s3 H3 fp pins) tg g/\Hv (CS X N' scope cl C s3 H3 fp pins) ifs c/\AW (CS X N' scope cl C s3 H3 fp pins) elt fe)
  (hi2:X.N[i]?=some x:=by rfl) (hx:Gv X.env.scope x:=by first|exact Or.inl rfl|exact Or.inr rfl)
  (hsw:swapsWith (.ListComp elt [⟨tg,iter,ifs,0⟩] scope pos) (some (.Name x px)) pos'.line X.env=pure true:=by rfl)
  (hf:X.fn x=true\/X.env.scope.names.lookup x=some .local:=by first|exact .inl rfl|exact .inr rfl)
  (hs:∀x,foldedSetIterable iter X.env x=pure x:=by intro _;rfl):Dc X (.Assign [.Name x px] (.ListComp elt [⟨tg,iter,ifs,0⟩] scope pos) pos') (AO i (Bl fi n idx g c fe)):=by
 rintro pins s Y H E I ⟨O,ρ,L,out,r,e,k⟩;unfold AO Bl at e
 cases e1:fi ρ L with
 |none=>rw[e1] at e;cases e
 |some p =>
  rw[e1] at e;obtain⟨⟨items,ok⟩,L1⟩:=p;simp only[AS] at e
  cases e2:DE ok g c fe L1.length items (Hj n idx ρ) (L1++[.lst []]) with
  |none=>rw[e2] at e;cases e
  |some L9 =>
   rw[e2] at e;cases e;rw[exec_Assign_Name_used _ _ _ _ hsw];refine AG (wpAny_standAt (AG ?_))
   show wpAny _ X.A (do let _ <-comprehension (.ListComp elt [⟨tg,iter,ifs,0⟩] scope pos) scope X.env _ (newList []) false (eval iter X.env) (some (assign (.Name x px) X.env))) _ _ s
   refine AG (DI (YF (use:=some (assign (.Name x px) X.env)) (Q':=λ_ s'=>SP X pins E .next s') hc hi S hbody hs I r e1 e2
    λC D s' H' O' m J hn hfree hL h0 hcell hpin st rs hD=>?_) (λ_ s' hq=>AM (AM hq)) λ_ _ e=>e)
   show wpAny _ X.A (assign (.Name x px) X.env (.ref D)) _ _ _;refine wpAny_assign_Name (Uy (v:=.ref D) J hN hi2 hx rfl (λs2 J2 z2_=>?_) hf);obtain⟨a,sb,ha⟩:=z2_
   have aC:C≠a:=by
    rcases ha with z|z
    .rw[z];exact hL
    .exact(hcell x a z).symm
   refine⟨m,hn.sameBut sb aC,λh' sb'=>?_⟩;exact⟨_,H',J2.turned (t':=s2.toks) (λb o hb e=>(sb'.2 b hb).trans e) hfree hL (.inr h0) hcell hpin,k _ _ _ st ⟨rs,(r.f.mono st).set (.ref hD) i⟩⟩
end
section
variable {X:Cx}{pins:List (Addr×Obj)}{Y:L2.St}{H:Hp}{s:Shared}{h':Heap}
def Mu{t':Nat}{fp:AM6}{T:Addr}{o:HO}(I:AI X pins Y H s)(hf:∀b∈fp,EE X pins H b)(k:∀b o,b∉fp->s.heap.get? b=some o->h'.get? b=some o)(hT:s.heap.objs.size<=T)(nT:T∉fp)
  (there:∀b∈fp,∃o,h'.get? b=some o) (new:Bq X.prog X.w (upd H T o) h' T o):AI X pins Y (upd H T o) {s with heap:=h',toks:=t'}:=by
 have fT:H T=none:=I.hok.fresh hT;have nit:∀b u,H b=some u->b∉fp:=λb u e z=>by rw[(hf b z).1] at e;cases e
 have old:∀b o,s.heap.get? b=some o->b≠T:=λb o e=>BQ (Cm (Heap.lt_size e) hT)
 refine I.step (g':=s.gens) (d':=s.drawn) (ch:=fp) (λb hb=>⟨(hf b hb).2.2.2.1,(hf b hb).2.1,(hf b hb).2.2.2.2.1,(hf b hb).2.2.2.2.2⟩) (λb o _ _ hc e _=>k b o hc e) (λb o _ _ hc e _=>⟨o.slots,k b o hc e⟩)
  (λb o _ e n=>by rw[BN (old b o e)];exact n) (λb o hc e=>⟨o,k b o hc e⟩) (λb xs e=>by rw[BN (DK e fT)];exact e) (λb o u e=>by rw[BN (DK e fT)];exact e)
  (λb ps e=>⟨#[],by rw[BN (DK e fT),e];simp⟩) (λm hm=>?_) (λb u e=>?_) I.bare
 .obtain⟨o,es,ep,ho,r⟩:=hm;exact⟨o,es,ep,k _ o (λz=>(hf _ z).2.1 rfl) ho,r⟩
 .by_cases hb:b=T
  .subst hb;rw[Bu] at e;cases e;exact new
  .rw[BN hb] at e;refine(I.hok b u e).stay (λc v hc q=>k c v ?_ q) (λc q=>by rw[BN (DK q fT)];exact q) λc xs q=>by rw[BN (DK q fT)];exact q
   rcases hc with z|z
   .rw[z];exact nit b u e
   .exact nit c _ z
end
abbrev Yz(x:Str):It:=⟨λi _=>i<x.cps.size,λi H v H'=>H'=H/\∃c,x.cps[i]?=some c/\v=.str ⟨#[c]⟩,λi _=>x.cps.size<=i⟩
def UY{P:Program}{w:World}{K:AK}{tg:Expr}(x:Str)(t:Tok)(it:Addr)(ty:String)(hty:["enumerate","zip","dict_itemiterator","dict_reverseitemiterator","odict_iterator","itertools.zip_longest","itertools.pairwise"].contains ty=false)
  (W:∀A':Around,A'.handled=none->Walks P w A' it [it] [it] x.cps.size (SignAt x) (λi h=>h.IsStrIter it ty x t i))
  (hself:∀(A:Around) (i:Nat) (s:Shared) (Q:ANB) (E:ANB),s.heap.IsStrIter it ty x t i->Q (.ref it) s->wpAny (model P w) A (pyIter (.ref it)) Q E s) :
  Gr P w K tg (Yz x) [it] it (λi h=>h.IsStrIter it ty x t i/\i<=x.cps.size) where
 mem:=by simp
 obj:=λi h st b hb=>by
  have e:b=it:=by simpa using hb
  subst e;obtain⟨⟨o,e,c,d⟩,_⟩:=st;exact⟨o,e,λv z=>by rw[d] at z;cases z⟩
 keep:=λi h h' st k=>⟨let ⟨o,ho,r⟩:=st.1;⟨o,k it (by simp) o ho,r⟩,st.2⟩
 item:=by intro X hP hw hK hc i pins s Y H E I hf st hg;subst hP hw hK;obtain⟨f0,f1,f2,f3,f4,f5⟩:=hf it (by simp);refine(W X.A (I.ok.hd hc)).item i s _ _ hg st.1 λv h' tk hv st' kk=>?_;obtain⟨c,u,hc',rfl⟩:=hv;have I1:AI X pins Y H {s with heap:=h',toks:=tk}:=I.turned (λb o hb e=>kk b o (by simpa using hb) e) f0 f1 f3 f4 f5;obtain⟨o,e,cc,d⟩:=id st';exact⟨_,rfl,Nh (s:={s with heap:=h',toks:=tk}) e cc d hty ⟨.str ⟨#[c]⟩,H,I1,⟨u,rfl⟩,⟨rfl,c,hc',rfl⟩,⟨st',hg⟩,λb hb=>(hf b hb).1⟩⟩
 done:=by intro X hP hw hK hc i pins s Y H E I hf st hg;subst hP hw hK;obtain⟨f0,f1,f2,f3,f4,f5⟩:=hf it (by simp);have hi:i=x.cps.size:=Nat.le_antisymm st.2 hg;have st1:=st.1;rw[hi] at st1;exact(W X.A (I.ok.hd hc)).done s _ _ st1 λh' tk kk=>⟨rfl,I.turned (λb o hb e=>kk b o (by simpa using hb) e) f0 f1 f3 f4 f5⟩
 self:=λA i s Q E st h=>hself A i s Q E st.1 h
section
variable {X:Cx}{tg l:Expr}{f:EF}
abbrev AFR(tl:TE):TI:=λY H R=>tl Y H λv H1=>∃x,v=.str x/\R (Yz x) H1
def AC9{tl:TE}(hl:PE X l tl):PI X tg l (AFR tl):=by
 intro pins s Y H R I h;refine Af (hl pins s Y H _ I h) λv s1 z2_=>?_;obtain⟨y,H1,I1,r1,x,e,q⟩:=z2_;subst e;obtain⟨t,rfl⟩:=r1
 have hb:∀(o:Obj) (b:Addr),b∈[s1.heap.objs.size]->EE X pins H1 b:=λo b hb=>by
  have e:b=s1.heap.objs.size:=by simpa using hb
  subst e;exact I1.fpOk (Ae _) (I1.hok.fresh (Ae _))
 cases ha:x.cps.all (·<128)
 .refine wpAny_pyIter_wide ha ⟨s1.heap.objs.size,[s1.heap.objs.size],_,_,H1,rfl,I1.kept (t':=s1.toks) λb o e=>Heap.get?_push_of_some _ e,UY x t _ "str_iterator" (by decide) (λA' hA=>Walks.strWide hA _ x t) (λ_ _ _ _ _ st h=>wpAny_pyIter_striter_wide st h),
   ⟨⟨_,Heap.get?_push_size _ rfl,rfl,rfl⟩,Dg _⟩,hb default,q⟩
 .refine wpAny_pyIter_ascii ha ⟨s1.heap.objs.size,[s1.heap.objs.size],_,_,H1,rfl,I1.kept (t':=s1.toks) λb o e=>Heap.get?_push_of_some _ e,UY x t _ "str_ascii_iterator" (by decide) (λA' hA=>Walks.strAscii hA _ x t) (λ_ _ _ _ _ st h=>wpAny_pyIter_striter_ascii st h),
   ⟨⟨_,Heap.get?_push_size _ rfl,rfl,rfl⟩,Dg _⟩,hb default,q⟩
abbrev sgs(x:Str):List D:=x.cps.toList.map λc=>.str ⟨#[c]⟩
abbrev Rs(f:EF):IF:=λρ L=>(f ρ L).bind λx=>match x.1 with|.str y=>some (⟨sgs y,λ_=>true⟩,x.2)|_=>none
def AC0(hl:AW X l f):Dr X tg l (Rs f):=PI.weaken (AC9 hl) λY H R z3_=>by
 obtain⟨O,ρ,L,J,L',r,e,k⟩:=z3_;unfold Rs at e;obtain⟨p,e1,e⟩:=bS e;obtain⟨d,L1⟩:=p
 cases d <;> simp only[AS] at e <;> try (cases e;done)
 rename_i y;cases e;refine⟨O,ρ,L,_,_,r,e1,λv H1 O1 st rs is=>?_⟩;cases is;refine⟨y,rfl,k _ _ _ st rs λi H2 O2 L2 st2 rs2 _=>⟨λd hd=>?_,λh=>by show y.cps.size<=i;simpa[sgs] using h⟩⟩;simp only[sgs,Ar] at hd
 cases ec:y.cps[i]? with
 |none=>simp[ec] at hd
 |some c =>
  simp[ec] at hd;subst hd;refine⟨(AMf.mp ec).1,λx H' y'=>?_⟩;obtain⟨e,c',h1,rfl⟩:=y';subst e;rw[ec] at h1;cases h1;exact⟨.refl _ _,rs2,.str _ (by simp[Str.length])⟩
end
abbrev ZB(x:Str):It:=⟨λi _=>i<x.cps.size,λi H v H'=>∃T c,H T=none/\x.cps[i]?=some c/\v=.ref T/\H'=upd H T (.tup [.int (i:Int),.str ⟨#[c]⟩]),λi _=>x.cps.size<=i⟩
def Xs{P:Program}{w:World}{A:Around}(hh:A.handled=none)(it:Addr)(x:Str)(t:Tok) :
  Draws P w A it [it] x.cps.size (λi v=>∃c u,x.cps[i]?=some c/\v=.str ⟨#[c]⟩ u) (λi h=>h.IsStrIter it (strIterType x) x t i):=by
 unfold strIterType;cases ha:x.cps.all (·<128)
 .exact Draws.strWide hh it x t
 .exact Draws.strAscii hh it x t
def AAs{P:Program}{w:World}{K:AK}{elts:AM7}{x1:Nat}{tp:Pos}(x:Str)(t:Tok)(e it:Addr)(hei:e≠it) :
  Gr P w K (.Tuple elts x1 tp) (ZB x) [e,it] e (λi h=>(∃old,IsEnum h e it (i:Int) old)/\h.IsStrIter it (strIterType x) x t i/\i<=x.cps.size) where
 mem:=by simp
 obj:=λi h st b hb=>by
  obtain⟨⟨old,he⟩,⟨o,e1,c,d⟩,_⟩:=st;rcases Aa.mp hb with rfl|hb
  .exact⟨_,he,λv z=>by cases z⟩
  .have e':b=it:=by simpa using hb
   subst e';exact⟨o,e1,λv z=>by rw[d] at z;cases z⟩
 keep:=λi h h' st k=>by
  obtain⟨⟨old,he⟩,⟨o,e1,r⟩,hi⟩:=st;exact⟨⟨old,k e (by simp) _ he⟩,⟨o,k it (by simp) o e1,r⟩,hi⟩
 item:=by
  intro X hP hw hK hc i pins s Y H E I hf st hg;subst hP hw hK;obtain⟨⟨old,he⟩,hs,hi⟩:=st;have hh:X.A.in1.handled=none:=I.ok.hd hc;refine wpAny_pyNext_enum_itemD (Xs hh it x t) he hs hg hei (by simpa using hei) λv h' tk hv heo hs' ht hz kk=>⟨_,rfl,?_⟩;obtain⟨c,u,hc',rfl⟩:=hv;refine wpAny_letOwnedTupleGo_enum heo λh2 he2 sb2=>?_;have hel:e<s.heap.objs.size:=Heap.lt_size he;have hil:it<s.heap.objs.size:=by obtain⟨o,e1,_⟩:=hs;exact Heap.lt_size e1
  have hs2:h2.IsStrIter it (strIterType x) x t (i+1):=by obtain⟨o,e1,r⟩:=hs';exact⟨o,(sb2.2 it (Ne.symm hei)).trans e1,r⟩
  have ht2:h2.get? s.heap.objs.size=some {cls:=.type "tuple",data:=.seq #[.int i tk,.str ⟨#[c]⟩ u]}:=(sb2.2 _ (Eb hel)).trans ht
  have new:Bq X.prog X.w (upd H s.heap.objs.size (.tup [.int (i:Int),.str ⟨#[c]⟩])) h2 s.heap.objs.size (.tup [.int (i:Int),.str ⟨#[c]⟩]) :=
   ⟨by rw[sizeLine_eq];show 2<=16777216;decide,[.int i tk,.str ⟨#[c]⟩ u],.cons ⟨_,rfl⟩ (.cons ⟨_,rfl⟩ .nil),⟨_,ht2,rfl,_,rfl⟩⟩
  have I1:=Mu (t':=tk+1) (h':=h2) I hf (λb o hb q=>by
    have hbe:b≠e:=λz=>hb (by simp[z]);have hbi:b≠it:=λz=>hb (by simp[z])
    exact(sb2.2 b hbe).trans (kk b o hbe hbi q)) (Ae _) (λz=>by
    rcases Aa.mp z with z|z
    .exact absurd z (Eb hel)
    .exact absurd (FW.mp z) (Eb hil)) (λb hb=>by
    rcases Aa.mp hb with rfl|hb
    .exact⟨_,he2⟩
    .have e':b=it:=by simpa using hb
     subst e';obtain⟨o,e1,_⟩:=hs2
     exact⟨o,e1⟩) new
  refine⟨.ref s.heap.objs.size,_,I1,rfl,⟨s.heap.objs.size,c,I.hok.fresh (Ae _),hc',rfl,rfl⟩,⟨⟨.str ⟨#[c]⟩ u,?_⟩,hs2,hg⟩,λb hb=>?_⟩
  .have:((i+1:Nat):Int)=(i:Int)+1:=by omega
   rw[this];exact he2
  .rw[BN]
   .exact(hf b hb).1
   .rcases Aa.mp hb with z|z
    .rw[z];exact BQ hel
    .rw[FW.mp z];exact BQ hil
 done:=by intro X hP hw hK hc i pins s Y H E I hf st hg;subst hP hw hK;obtain⟨⟨old,he⟩,hs,hi⟩:=st;have hh:X.A.in1.handled=none:=I.ok.hd hc;obtain⟨f0,f1,f2,f3,f4,f5⟩:=hf it (by simp);have hi:i=x.cps.size:=Nat.le_antisymm hi hg;rw[hi] at hs;exact wpAny_pyNext_enum_endD (Xs hh it x t) he hs λh' eb=>⟨rfl,I.turned (t':=s.toks) (λb o hb q=>eb b o hb q) f0 f1 f3 f4 f5⟩
 self:=λA i s Q E st h=>by
  obtain⟨⟨old,he⟩,_⟩:=st;exact wpAny_pyIter_enum he h
abbrev Ep(xs:List D):List D:=xs.zipIdx.map λp=>.tup [.int (p.2:Int),p.1]
abbrev Ku(f:AF):IF:=λρ L=>(f ρ L).bind λx=>match x.1 with|[.str y]=>some (⟨Ep (sgs y),λ_=>true⟩,x.2)|_=>none
def Xo(y:Str)(i:Nat):(Ep (sgs y))[i]?=(y.cps[i]?).map λc=>.tup [.int (i:Int),.str ⟨#[c]⟩]:=by unfold Ep sgs;rw[Ar,List.getElem?_zipIdx,Ar,Array.getElem?_toList];cases y.cps[i]? <;> simp
def AGD(y:Str):(Ep (sgs y)).length=y.cps.size:=by simp[Ep,sgs]
section
variable {X:Cx}{elts:AM7}{x1:Nat}{tp p pos:Pos}{a:Expr}{fa:AF}
def AI2(hm:X.mg "enumerate"=none)(ha:Ds X [a] fa)(hg:Gl X "enumerate":=by rfl)(hs:starEach [a] X.env=[(false,eval a X.env)]:=by rfl):Dr X (.Tuple elts x1 tp) (.Call (.Name "enumerate" p) [a] [] pos) (Ku fa):=by
 rintro pins s Y H R I ⟨O,ρ,L,J,L',r,e,k⟩;unfold Ku at e;obtain⟨q,e1,e⟩:=bS e;obtain⟨ds,L1⟩:=q;simp only[AS] at e;split at e
 .rename_i y;simp only[Option.some.injEq,Prod.mk.injEq] at e;obtain⟨hJ,hL⟩:=e;subst hJ;subst hL;refine Call_ (GH I hg hm (u:=.type "enumerate") (by decide +kernel) (PyProof.Rows.callWith_type1 (Af (ha pos pins s Y H (λvs H1=>vs=[.str y]/\∃O1,Ai H O H1 O1/\Al X.K H1 O1 L1) I ⟨O,ρ,L,_,_,r,e1,λvs H1 O1 st rs is=>?_⟩) λus s1 ⟨vs,H1,I1,r1,ev,O1,st,rs⟩=>?_) hs rfl))
  .cases is with
   |cons i1 i2=>cases i1;cases i2;exact⟨rfl,O1,st,rs⟩
  .subst ev;obtain⟨u,rfl,t,rfl⟩:=Dy r1;refine call_enumerate_str λh' he hs' hz kk=>?_;refine wpAny_pyIter_enum he ?_;have I2:AI X pins Y H1 {s1 with heap:=h'}:=I1.kept (t':=s1.toks) kk;refine⟨s1.heap.objs.size+1,[s1.heap.objs.size+1,s1.heap.objs.size],_,_,H1,rfl,I2,AAs y t _ _ (Nat.succ_ne_self _),⟨⟨_,he⟩,hs',Dg _⟩,λb hb=>?_,k (ZB y) H1 O1 st rs λi H2 O2 L2 st2 rs2 _=>?_⟩
   .rcases Aa.mp hb with rfl|hb
    .exact I1.fpOk (ALQ _) (I1.hok.fresh (ALQ _))
    .have e':b=s1.heap.objs.size:=by simpa using hb
     subst e';exact I1.fpOk (Ae _) (I1.hok.fresh (Ae _))
   .refine⟨λd hd=>?_,λh=>by rw[AGD] at h;exact h⟩;simp only at hd;rw[Xo] at hd
    cases ec:y.cps[i]? with
    |none=>simp[ec] at hd
    |some c =>
     simp[ec] at hd;subst hd;refine⟨(AMf.mp ec).1,λx H' yy=>?_⟩;obtain⟨T,c',hT,h1,rfl,rfl⟩:=yy;rw[ec] at h1;cases h1;have st3:Ai H2 O2 (upd H2 T (.tup [.int (i:Int),.str ⟨#[c]⟩])) O2:=⟨.new hT,AR _⟩;exact⟨st3,rs2.ext λa u e=>by rw[BN (DK e hT)];exact e,.tup (BY.of Bu) (.cons (.int _) (.cons (.str _ (by simp[Str.length])) .nil))⟩
 .cases e
end
mutual
def D.noRef:D->Bool
 |.tup xs=>D.noRefL xs
 |.fz xs=>D.noRefL xs
 |.ref _=>false
 |_=>true
def D.noRefL:List D->Bool
 |[]=>true
 |x::xs=>D.noRef x&&D.noRefL xs
end
section
variable {K:AK}{H H' H0:Hp}{O O':AM6}
def Vw{v:V}{d:D}{vs:List V}{ds:List D}(a:d.noRef=true->Is K H O' v d)(b:D.noRefL ds=true->AN K H O' vs ds)(e:D.noRefL (d::ds)=true):AN K H O' (v::vs) (d::ds):=by have e:(D.noRef d&&D.noRefL ds)=true:=e;rw[Bn] at e;exact .cons (a e.1) (b e.2)
def Is.nr{v:V}{d:D}(h:Is K H O v d):d.noRef=true->Is K H O' v d :=
 Is.rec (motive_1:=λv d _=>d.noRef=true->Is K H O' v d) (motive_2:=λv d _=>D.noRefL d=true->AN K H O' v d) (λ_=>.non) (λb _=>.bl b) (λb _=>.int b) (λb h _=>.str b h) (λh _ r e=>.tup h (r e)) (λh _ r e=>.fz h (r e)) (λ_ e=>GA (show false=true from e)) (λn _=>.ty n) (λ_=>.nil) (λ_ _ a b=>Vw a b) h
def AN.nr{v:List V}{d:List D}(h:AN K H O v d):D.noRefL d=true->AN K H O' v d :=
 AN.rec (motive_1:=λv d _=>d.noRef=true->Is K H O' v d) (motive_2:=λv d _=>D.noRefL d=true->AN K H O' v d) (λ_=>.non) (λb _=>.bl b) (λb _=>.int b) (λb h _=>.str b h) (λh _ r e=>.tup h (r e)) (λh _ r e=>.fz h (r e)) (λ_ e=>GA (show false=true from e)) (λn _=>.ty n) (λ_=>.nil) (λ_ _ a b=>Vw a b) h
def AG0(p:O <+: O'){k:Nat}{a:Addr}(q:O[k]?=some a){v:V}(h:Is K H' O' v (.ref k)):Is K H' O v (.ref k):=by
 cases h with
 |ref q' =>
  have:=DJ p q;rw[q'] at this;cases this;exact .ref q
def AGz{ds:List D}(r:∀{v:List V},AN K H' O' v ds->AN K H' O v ds){v:V}(h:Is K H' O' v (.tup ds)):Is K H' O v (.tup ds):=by cases h with|tup q r'=>exact .tup q (r r')
def AG1{ds:List D}(r:∀{v:List V},AN K H' O' v ds->AN K H' O v ds){v:V}(h:Is K H' O' v (.fz ds)):Is K H' O v (.fz ds):=by cases h with|fz q r'=>exact .fz q (r r')
def AG2{d:D}{ds:List D}(a:∀{v:V},Is K H' O' v d->Is K H' O v d)(r:∀{v:List V},AN K H' O' v ds->AN K H' O v ds){v:List V}(h:AN K H' O' v (d::ds)):AN K H' O v (d::ds):=by cases h with|cons a' b'=>exact .cons (a a') (r b')
def AN.back(p:O <+: O'){v0:List V}{d:List D}(i:AN K H0 O v0 d):∀{v:List V},AN K H' O' v d->AN K H' O v d :=
 AN.rec (motive_1:=λ_ d _=>∀{v:V},Is K H' O' v d->Is K H' O v d) (motive_2:=λ_ d _=>∀{v:List V},AN K H' O' v d->AN K H' O v d) (λh=>h.nr rfl) (λ_ _ h=>h.nr rfl) (λ_ _ h=>h.nr rfl) (λ_ _ _ h=>h.nr rfl) (λ_ _ r _ h=>AGz r h) (λ_ _ r _ h=>AG1 r h) (λq _ h=>AG0 p q h) (λ_ _ h=>h.nr rfl) (λh=>h.nr rfl) (λ_ _ a b _ h=>AG2 a b h) i
def RV{α:Type}{f:α->D}(h:∀a,(f a).noRef=true):∀xs:List α,D.noRefL (xs.map f)=true
 |[]=>rfl
 |x::r=>by rw[Ak,D.noRefL,h x,RV h r];rfl
def keyD_noRef(k:Key):(keyD k).noRef=true:=by cases k <;> rfl
def AFJ(k:Key ⊕ List Key):(IL k).noRef=true:=by
 cases k with
 |inl k=>exact keyD_noRef k
 |inr ks=>exact RV keyD_noRef ks
def AEG(k:NK):(Dl k).noRef=true:=RV AFJ k
def Al.back{L M:AB}(r0:Al K H O L)(st:Ai H O H' O')(r1:Al K H' O' (L++M)):Al K H' O L:=by
 refine⟨r0.len,r0.nd,λk a o e1 e2=>?_⟩;have q0:=r0.ob k a o e1 e2;have q1:=r1.ob k a o (DJ st.2 e1) (by rw[Ee (Ay.mp e2).1];exact e2)
 cases o with
 |lst ds =>
  obtain⟨vs0,_,i0⟩:=q0;obtain⟨vs,hv,i1⟩:=q1;exact⟨vs,hv,AN.back st.2 i0 i1⟩
 |dk kvs =>
  obtain⟨us0,_,_,i0⟩:=q0;obtain⟨us,hv,hk,i1⟩:=q1;exact⟨us,hv,hk,AN.back st.2 i0 i1⟩
 |dt kvs ep =>
  obtain⟨us0,_,_,i0,_⟩:=q0;obtain⟨us,hv,hk,i1,i2⟩:=q1;exact⟨us,hv,hk,AN.back st.2 i0 i1,λu hu=>(i2 u hu).nr (AEG _)⟩
 |ins c fs =>
  obtain⟨_,_,us0,_,_,_,i0⟩:=q0;obtain⟨C,dx,us,z,hv,hk,i1⟩:=q1;exact⟨C,dx,us,z,hv,hk,AN.back st.2 i0 i1⟩
 |exn c=>exact q1
end
abbrev Ff(N:AM4)(ds:List D):Fm:=ds.map some++ALU (N.length-ds.length) none
abbrev Fg(K:AK)(G:GL):Sp:=λvs H Q _=>rC K G vs H Q
abbrev Yr(B:SF)(N:AM4)(xs:List D)(L:AB)(d:D)(L':AB):Prop :=
 ∃L'',(B (Ff N xs) L=some (.ret d L'')\/(d=.non/\∃ρ',B (Ff N xs) L=some (.next ρ' L'')))/\(L''=L'\/(L'=L/\L <+: L''/\d.noRef=true))
structure Ao (P:Program) (w:World) (K:AK) (mg:AM3) (base:Heap) (k:Nat) (x:Str) (G:GL):Prop where
 ex:∃f fd ps,Cc P w K mg base CX0 k f fd ps (Fg K G)/\mg x=some (.ref f)/\Fz K (.ref f)=true/\Df K fd ps []
section
variable {P:Program}{w:World}{K:AK}{mg:AM3}{base:Heap}
def Xf{H:Hp}{O:AM6}{N:AM4}{vs:List V}{ds:List D}(h:AN K H O vs ds):HP K H O (L2.GC N vs) (Ff N ds):=by
 refine⟨by simp[L2.GC,Ff,h.length],λi d e=>?_⟩;unfold Ff at e;unfold L2.GC
 by_cases hi:i<ds.length
 .rw[Ee (by simpa using hi),Ar] at e;rw[Ee (by simpa[h.length] using hi),Ar]
  cases q:ds[i]? with
  |none=>rw[q] at e;cases e
  |some d' =>
   rw[q] at e;cases e;obtain⟨v,hv,iv⟩:=h.get q;exact⟨v,by simp[hv],iv⟩
 .rw[ALV (by simpa using hi),AMO] at e;split at e <;> cases e
def SH{x qual:Str}{st:Stmt}{f:Addr}{fd:FuncData}{N ps:AM4}{k:Nat}(F:HN K x qual st f fd)(S:As N ps (Ad st))(G:GL)(B:SF)(hlen:∀xs L r,G xs L=some r->xs.length=ps.length)
  (hb:∀(cdv:Value) (A:Around) (outer:List Env) (s:Shared) (H:Hp) (E:XK),Room k (A.deeper (envOfC qual (Ad st) s.heap.objs.size f cdv)) ->
   Eu (CQ CX0 P w K mg base N qual (Ad st) f cdv A outer s H E).nox (FK st) B)
  (hG:∀xs L d L',G xs L=some (d,L')->Yr B N xs L d L'):Cc P w K mg base CX0 (k+1) f fd ps (Fg K G):=by
 refine F.ok S (λvs H Q E h=>?_) (λcdv A outer s H vs Q E hr h=>?_)
 .obtain⟨O,L,xs,d,L',_,is,e,_⟩:=h;rw[is.length];exact hlen _ _ _ e
 .obtain⟨O,L,xs,d,L',rs,is,e,kk⟩:=h;refine⟨_,hb cdv A outer s H E hr,?_⟩;obtain⟨L'',hB,hd⟩:=hG _ _ _ _ e
  have close:∀v H' O',Ai H O H' O'->Al K H' O' L''->Is K H' O' v d->Q v H':=λv H' O' st' rs' is'=>by
   rcases hd with rfl|⟨rfl,⟨M,rfl⟩,nr⟩
   .exact kk v H' O' st' rs' is'
   .exact kk v H' O ⟨st'.1,AR _⟩ (rs.back st' rs') (is'.nr nr)
  rcases hB with hB|⟨rfl,ρ',hB⟩
  .exact⟨O,Ff N xs,L,_,⟨rs,Xf is⟩,hB,close⟩
  .exact⟨O,Ff N xs,L,_,⟨rs,Xf is⟩,hB,λY' H' O' st' r'=>close _ H' O' st' r'.s .non⟩
def Ao.mono{j k:Nat}{x:Str}{G:GL}(F:Ao P w K mg base j x G)(h:j<=k):Ao P w K mg base k x G:=by obtain⟨f,fd,ps,a,b⟩:=F.ex;exact⟨f,fd,ps,a.mono h,b⟩
def Ao.imp{k:Nat}{x:Str}{G G':GL}(F:Ao P w K mg base k x G)(h:∀xs L r,G' xs L=some r->G xs L=some r):Ao P w K mg base k x G':=by obtain⟨f,fd,ps,a,b⟩:=F.ex;exact⟨f,fd,ps,a.imp λvs H Q E z4_=>(by obtain⟨O,L,xs,d,L',rs,is,e,kk⟩:=z4_;exact⟨O,L,xs,d,L',rs,is,h _ _ _ e,kk⟩),b⟩
end
section
variable {X:Cx}{k:Nat}{x:Str}{G:GL}{p pos:Pos}{e:Expr}{es:AM7}{f:AF}
def AKm(F:Ao X.prog X.w X.K X.mg X.base k x G)(hr:Room k X.A)(ha:Ds X (e::es) f)(hg:Gl X x:=by rfl)(hdb:(x == ("__debug__":Str))=false:=by decide)
  (he:EJ e=true:=by rfl) (hpl:es.all EJ=true:=by rfl):AW X (.Call (.Name x p) (e::es) [] pos) (AL G f):=by
 obtain⟨fa,fd,ps,a,b,c,d⟩:=F.ex
 exact PE.weaken (ADd a hr hg b c d .nil RM ha hdb (Gy he) (IC hpl)) λY H Q h=>by
  have q:=LL h;obtain⟨O,ρ,L,ds,L',r,e,k⟩:=q;exact⟨O,ρ,L,ds,L',r,e,λvs H1 O1 st rs is=>by show rC X.K G (vs++[]) H1 Q;rw[ALq];exact k vs H1 O1 st rs is⟩
def AKl(F:Ao X.prog X.w X.K X.mg X.base k x G)(hr:Room k X.A)(hg:Gl X x:=by rfl)(hdb:(x == ("__debug__":Str))=false:=by decide):AW X (.Call (.Name x p) [] [] pos) (AL G AH):=by
 obtain⟨fa,fd,ps,a,b,c,d⟩:=F.ex
 exact PE.weaken (ADc a hr hg b c d .nil RM hdb) λY H Q h=>by
  obtain⟨O,ρ,L,ds,L',r,e,k⟩:=h;exact⟨O,L,[],ds,L',r.s,.nil,e,k⟩
end
noncomputable instance decMul (a b:Int):Decidable (IntMulOk a b):=by unfold IntMulOk;infer_instance
section
variable {X:Cx}
def AD7:Ap X (binaryOp .Mult) (rI IntMulOk λi j=>.int (i*j)):=NR λ_ _ _ _ _ _ _ hc q=>mul_int q hc
def op_catE:Ap X (binaryOp .Add) (λx y H Q=>∃a b ys,x=.ref a/\y=.ref b/\BY X.K H a []/\BY X.K H b ys/\Q (.ref b) H):=by
 intro pins s Y H x y v u Q I rx ry h;obtain⟨a,b,ys,rfl,rfl,ha,hb,q⟩:=h;cases rx;cases ry;obtain⟨its,r1,p1,_⟩:=I.tuple ha;obtain⟨its2,r2,p2,_⟩:=I.tuple hb;have hi:its=[]:=r1.nil_iff.mpr rfl;subst hi;obtain⟨⟨cls,dd,data,sl⟩,ho,hc,n,hd⟩:=p1;obtain⟨⟨cls2,dd2,data2,sl2⟩,ho2,hc2,n2,hd2⟩:=p2;simp only at hc hd hc2 hd2;subst hc hd hc2 hd2
 exact concat_meets ⟨_,ho,rfl⟩ ⟨_,ho2,rfl⟩ noFill_tuple_add seq_tuple_add AMc AMd (AMe _ _)
  (tuple_addW0 a b _ _ n n2 dd dd2 sl sl2 rfl) ⟨ho,ho2,.ref b,H,I,rfl,q⟩
abbrev BM:G2
 |.int i,.int j,L=>some (.int (i+j),L)
 |.str x,.str y,L=>if x.length+y.length<=16777216 then some (.str (x++y),L) else none
 |.ref a,.ref b,L=>match L[a]?,L[b]? with
  |some (.lst xs),some (.lst ys)=>if xs.length+ys.length<=16777216 then some (.ref L.length,L++[.lst (xs++ys)]) else none
  |_,_=>none
 |.tup xs,.tup ys,L=>if xs=[] then some (.tup ys,L) else if xs.length+ys.length<=16777216 then some (.tup (xs++ys),L) else none
 |_,_,_=>none
def AJP:Ci X (binaryOp .Add) BM:=Ap.weaken (Ap.or AD6 (Ap.or AD5 (Ap.or AD4 (Ap.or AD3 op_catE)))) λv u H Q z4_=>by
 obtain⟨O,L,x,y,d,L',rs,ix,iy,e,k⟩:=z4_;unfold BM at e;split at e
 .cases ix;cases iy;cases e;exact .inl ⟨_,_,rfl,rfl,k _ _ _ (.refl _ _) rs (.int _)⟩
 .cases ix with|str _ h1=>cases iy with|str _ h2 =>
   split at e
   .rename_i hz;cases e;exact .inr (.inl ⟨_,_,rfl,rfl,by rw[sizeLine_eq];exact hz,k _ _ _ (.refl _ _) rs (.str _ (by rw[strLen_append];exact hz))⟩)
   .cases e
 .rename_i a b
  cases ix with|ref ha=>cases iy with|ref hb =>
   split at e
   .rename_i xs ys e1 e2;split at e
    .rename_i hz;cases e;obtain⟨vs,hv,iv⟩:=rs.ob _ _ _ ha e1;obtain⟨ws,hw,iw⟩:=rs.ob _ _ _ hb e2;refine .inr (.inr (.inl ⟨_,_,vs,ws,rfl,rfl,hv,hw,by rw[iv.length,iw.length,sizeLine_eq];exact hz,λp hp=>?_⟩));have st:Ai H O (upd H p (.lst (vs++ws))) (O++[p]):=⟨.new hp,Am _ _⟩;exact k _ _ _ st (rs.new hp ⟨_,Bu,(iv.append iw).mono st⟩) (.ref (by rw[<-rs.len];simp))
    .cases e
   .cases e
 .rename_i xs ys;split at e
  .rename_i hx;subst hx;cases e
   cases ix with|@tup a vs _ h1 i1=>cases iy with|@tup b ws _ h2 i2 =>
    cases i1;exact .inr (.inr (.inr (.inr ⟨_,_,ws,rfl,rfl,h1,h2,k _ _ _ (.refl _ _) rs (.tup h2 i2)⟩)))
  .rename_i hx;split at e
   .rename_i hz;cases e
    cases ix with|@tup a vs _ h1 i1=>cases iy with|@tup b ws _ h2 i2 =>
     refine .inr (.inr (.inr (.inl ⟨_,_,vs,ws,rfl,rfl,h1,h2,?_,by rw[i1.length,i2.length,sizeLine_eq];exact hz,λq=>?_,λq p hp=>?_⟩)))
     .rintro rfl;cases i1;exact hx rfl
     .subst q;cases i2;rw[ALq] at k;exact k _ _ _ (.refl _ _) rs (.tup h1 i1)
     .have st:Ai H O (upd H p (.tup (vs++ws))) O:=⟨.new hp,AR _⟩;exact k _ _ _ st (rs.ext λa u e=>by rw[BN (DK e hp)];exact e) (.tup (BY.of Bu) ((i1.append i2).mono st))
   .cases e
 .cases e
abbrev gI(C:Int->Int->Bool)(f:Int->Int->D):G2:=λx y L=>match x,y with|.int i,.int j=>if C i j=true then some (f i j,L) else none|_,_=>none
def IE{f:Value->Value->Sem Value}{C:Int->Int->Prop}{Cb:Int->Int->Bool}{g:Int->Int->V}{gd:Int->Int->D}(h:Ap X f (rI C g))(hc:∀i j,Cb i j=true->C i j)(hg:∀K H O i j,Is K H O (g i j) (gd i j)):Ci X f (gI Cb gd) :=
 Ap.weaken h λv u H Q z4_=>by
  obtain⟨O,L,x,y,d,L',rs,ix,iy,e,k⟩:=z4_;unfold gI at e;split at e
  .split at e
   .rename_i hcc;cases ix;cases iy;cases e;exact⟨_,_,rfl,rfl,hc _ _ hcc,k _ _ _ (.refl _ _) rs (hg _ _ _ _ _)⟩
   .cases e
  .cases e
def NG{f:Value->Value->Sem Value}{g:Int->Int->V}(h:Ap X f (HW g)):Ap X f (rI (λ_ _=>True) g):=Ap.weaken h λx y H Q z4_=>by obtain⟨i,j,a,b,_,q⟩:=z4_;exact⟨i,j,a,b,q⟩
abbrev Mv(_ _:Int):Bool:=true
abbrev LM(_ j:Int):Bool:=decide (0<j)&&decide (j<10000000000000000000000000000000000000000000000000000000000000000000000000000000000000000000000000000)
abbrev Nu(_ j:Int):Bool:=decide (0<j)
abbrev SW(i j:Int):Bool:=decide (0<=j)&&decide (j<=1000000)&&decide (i.natAbs<2 ^ 64)
abbrev cMul(i j:Int):Bool:=decide (IntMulOk i j)
abbrev Fk:G2:=gI Mv λi j=>.int (i-j)
abbrev Bw:G2:=gI LM λi j=>.int (i / j)
abbrev BS:G2:=gI Nu λi j=>.int (i % j)
abbrev HI:G2:=gI SW λi j=>.int (i ^ j.toNat)
def AI7:Ci X (binaryOp .Sub) Fk:=IE (NG ADq) (λ_ _ _=>True.intro) λ_ _ _ _ _=>.int _
def AEu{j:Int}(h0:0<j)(h1:j<10000000000000000000000000000000000000000000000000000000000000000000000000000000000000000000000000000):j.natAbs.log2<340:=by
 have hn:j.natAbs≠0:=by omega
 refine(Nat.log2_lt hn).mpr ?_;have e:10000000000000000000000000000000000000000000000000000000000000000000000000000000000000000000000000000<(2:Nat) ^ 340:=by decide +kernel
 omega
def AD2:Ap X (binaryOp .FloorDiv) (rI (λ_ j=>0<j/\j<10000000000000000000000000000000000000000000000000000000000000000000000000000000000000000000000000000) λi j=>.int (i / j)):=NR λi j _ _ _ _ _ hc q=>by
 rw[<-Int.fdiv_eq_ediv_of_nonneg i (Int.le_of_lt hc.1)] at q;exact floordiv_int (by omega) q (.inl (PyProof.noPylong_of_log2 (by have:=AEu hc.1 hc.2;omega)))
def AJM:Ci X (binaryOp .FloorDiv) Bw:=IE AD2 (λi j h=>by simp only[LM,Bn,decide_eq_true_eq] at h;exact h) λ_ _ _ _ _=>.int _
def AJE:Ci X (binaryOp .Mod) BS:=IE ADw (λi j h=>by simp[Nu] at h;exact h) λ_ _ _ _ _=>.int _
def AI8:Ci X (binaryOp .Pow) HI:=IE ADr (λi j h=>by simp[SW] at h;exact⟨h.1.1,h.1.2,h.2⟩) λ_ _ _ _ _=>.int _
abbrev JF(x:Str)(n:Int):Bool:=decide (-1000000<=n)&&decide (n<=1000000)&&decide (x.length*n.toNat<=16777216)
abbrev DY:G2:=λx y L=>match x,y with
 |.int i,.int j=>if cMul i j=true then some (.int (i*j),L) else none
 |.str x,.int n=>if JF x n=true then some (.str (Txt.mul x n),L) else none
 |_,_=>none
def Wa:∀(l:List (Array Nat)) (a:Array Nat),(l.foldl (·++·) a).size=a.size+(l.map (·.size)).sum
 |[],a=>by simp
 |b::r,a=>by rw[ALt,Wa r];simp[Array.size_append];omega
def AEM(x:Str)(n:Int):(Txt.mul x n).length<=x.length*n.toNat:=by
 unfold Txt.mul;split
 .exact Dg _
 .split
  .rename_i h1 h2;simp only[Bool.or_eq_true,beq_iff_eq] at h2;rcases h2 with h2|h2
   .subst h2;simp
   .rw[h2];simp
  .show((ALU n.toNat x.cps).foldl (·++·) #[]).size<=_;rw[Wa];simp[Str.length,Nat.mul_comm]
def ADv:Ap X (binaryOp .Mult) (λx y H Q=>∃z n,x=.str z/\y=.int n/\JF z n=true/\Q (.str (Txt.mul z n)) H):=by
 intro pins s Y H x y v u Q I rx ry h;obtain⟨z,n,rfl,rfl,hc,q⟩:=h;obtain⟨t,rfl⟩:=rx;obtain⟨t',rfl⟩:=ry;simp only[JF,Bn,decide_eq_true_eq] at hc;obtain⟨⟨h1,h2⟩,h3⟩:=hc;refine SB.mul ⟨?_,λhn _ hz=>?_,λ_ _=>?_⟩ λt' k=>⟨.str _,H,I.tok _,⟨_,rfl⟩,q⟩
 .have e1:decide (n < -(2 ^ 63:Int))=false:=decide_eq_false (by omega);have e2:decide (n ≥ 2 ^ 63)=false:=decide_eq_false (by omega);rw[e1,e2];rfl
 .have e1:(z.length:Int)*n<=16777216:=by
   have h4:((z.length*n.toNat:Nat):Int)<=((16777216:Nat):Int):=Int.ofNat_le.mpr h3;rw[Int.natCast_mul,Int.toNat_of_nonneg (by omega)] at h4;omega
  have e2:(z.length:Int)<=((2:Int) ^ 63-1) / n:=Int.le_ediv_of_mul_le (by omega) (by omega);omega
 .have h5:¬(z.length*n.toNat>sizeLine):=by rw[sizeLine_eq];omega
  exact decide_eq_false h5
def AJD:Ci X (binaryOp .Mult) DY:=Ap.weaken (Ap.or AD7 ADv) λv u H Q z4_=>by
 obtain⟨O,L,x,y,d,L',rs,ix,iy,e,k⟩:=z4_;unfold DY at e;split at e
 .split at e
  .rename_i hc;cases ix;cases iy;cases e;exact .inl ⟨_,_,rfl,rfl,of_decide_eq_true hc,k _ _ _ (.refl _ _) rs (.int _)⟩
  .cases e
 .split at e
  .rename_i hc;cases ix;cases iy;cases e;refine .inr ⟨_,_,rfl,rfl,hc,k _ _ _ (.refl _ _) rs (.str _ ?_)⟩;simp only[JF,Bn,decide_eq_true_eq] at hc;exact CD (AEM _ _) hc.2
  .cases e
 .cases e
abbrev gLt:G2:=gI Mv λi j=>.bl (decide (i<j))
abbrev GI:G2:=gI Mv λi j=>.bl (decide (j<i))
abbrev No:G2:=gI Mv λi j=>.bl (decide (j<=i))
def AJF:Ci X (compareOp .Lt) gLt:=IE (NG op_lt) (λ_ _ _=>True.intro) λ_ _ _ _ _=>.bl _
def AJK:Ci X (compareOp .Gt) GI:=IE (NG AD0) (λ_ _ _=>True.intro) λ_ _ _ _ _=>.bl _
def AJL:Ci X (compareOp .GtE) No:=IE (NG AD1) (λ_ _ _=>True.intro) λ_ _ _ _ _=>.bl _
abbrev Cy:D->V
 |.non=>.non|.bl b=>.bl b|.int i=>.int i|.str x=>.str x|_=>.non
abbrev BC:D->Bool
 |.non=>true|.bl _=>true|.int _=>true|.str _=>true|_=>false
def EL{K:AK}{H:Hp}{O:AM6}{v:V}{d:D}(h:Is K H O v d)(f:BC d=true):v=Cy d:=by cases h <;> first|rfl|(simp[BC] at f)
def AF1{K:AK}{H:Hp}{O:AM6}:∀{vs:List V} {ds:List D},AN K H O vs ds->ds.all BC=true->vs=ds.map Cy:=by
 intro vs ds h f
 induction ds generalizing vs with
 |nil=>cases h;rfl
 |cons x ds ih =>
  cases h with|cons a b =>
  rw[ALi,Bn] at f;rw[Ak,EL a f.1,ih b f.2]
def JW{d:D}(f:BC d=true):Fp (Cy d)=true:=by cases d <;> simp_all [BC,Cy,Fp]
def IA{a b:D}(fa:BC a=true)(fb:BC b=true):(Cy a=Cy b)↔a=b:=by cases a <;> simp[BC] at fa <;> cases b <;> simp[BC] at fb <;> simp[Cy]
abbrev Eg(a b:D):Bool:=BC a&&BC b&&Qy (Cy a) (Cy b)
abbrev BX:G2:=λx y L=>if Eg x y=true then some (.bl (decide (x=y)),L) else none
abbrev HJ:G2:=λx y L=>if Eg x y=true then some (.bl (!decide (x=y)),L) else none
def AJO:Ci X (compareOp .Eq) BX:=Ap.weaken Vr λv u H Q z4_=>by
 obtain⟨O,L,x,y,d,L',rs,ix,iy,e,k⟩:=z4_;unfold BX at e;split at e
 .rename_i h;cases e;simp only[Eg,Bn] at h;obtain⟨⟨h1,h2⟩,h3⟩:=h;rw[EL ix h1,EL iy h2];refine⟨h3,?_⟩;have:decide (Cy x=Cy y)=decide (x=y):=by simp[IA h1 h2]
  rw[this];exact k _ _ _ (.refl _ _) rs (.bl _)
 .cases e
def AJC:Ci X (compareOp .NotEq) HJ:=Ap.weaken Vq λv u H Q z4_=>by
 obtain⟨O,L,x,y,d,L',rs,ix,iy,e,k⟩:=z4_;unfold HJ at e;split at e
 .rename_i h;cases e;simp only[Eg,Bn] at h;obtain⟨⟨h1,h2⟩,h3⟩:=h;rw[EL ix h1,EL iy h2];refine⟨h3,?_⟩;have:decide (Cy x=Cy y)=decide (x=y):=by simp[IA h1 h2]
  rw[this];exact k _ _ _ (.refl _ _) rs (.bl _)
 .cases e
abbrev HC:D->Bool|.non=>true|_=>false
def Wr{K:AK}{H:Hp}{O:AM6}{v:V}{d:D}(h:Is K H O v d):decide (v=.non)=HC d:=by cases h <;> simp[HC]
abbrev isBl(b:Bool):D->Bool|.bl c=>c == b|_=>false
def ADx:Ap X (compareOp .Is) (λx y H Q=>∃b,y=.bl b/\(∀n,x≠.ty n)/\Q (.bl (decide (x=.bl b))) H):=by
 intro pins s Y H x y v u Q I rx ry h;obtain⟨b,rfl,hn,q⟩:=h;cases ry
 cases x with
 |non=>cases rx;exact AM (BI I q rfl)
 |bl c=>cases rx;exact AM (BI I q (by cases c <;> cases b <;> rfl))
 |int c=>obtain⟨t,rfl⟩:=rx;exact AM (BI I q rfl)
 |str c=>obtain⟨t,rfl⟩:=rx;exact AM (BI I q rfl)
 |byt c=>obtain⟨t,rfl⟩:=rx;exact AM (BI I q rfl)
 |flt c=>obtain⟨t,rfl⟩:=rx;exact AM (BI I q rfl)
 |ref c=>cases rx;exact AM (BI I q rfl)
 |ty c=>exact absurd rfl (hn c)
def ADu:Ap X (compareOp .IsNot) (λx y H Q=>∃b,y=.bl b/\(∀n,x≠.ty n)/\Q (.bl (!decide (x=.bl b))) H):=by
 intro pins s Y H x y v u Q I rx ry h;obtain⟨b,rfl,hn,q⟩:=h;cases ry
 cases x with
 |non=>cases rx;exact AM (BI I q rfl)
 |bl c=>cases rx;exact AM (BI I q (by cases c <;> cases b <;> rfl))
 |int c=>obtain⟨t,rfl⟩:=rx;exact AM (BI I q rfl)
 |str c=>obtain⟨t,rfl⟩:=rx;exact AM (BI I q rfl)
 |byt c=>obtain⟨t,rfl⟩:=rx;exact AM (BI I q rfl)
 |flt c=>obtain⟨t,rfl⟩:=rx;exact AM (BI I q rfl)
 |ref c=>cases rx;exact AM (BI I q rfl)
 |ty c=>exact absurd rfl (hn c)
def Ws{K:AK}{H:Hp}{O:AM6}{v:V}{d:D}{b:Bool}(h:Is K H O v d):decide (v=.bl b)=isBl b d:=by cases h <;> simp[isBl];rename_i c;cases c <;> cases b <;> rfl
abbrev noTy:D->Bool|.ty _=>false|_=>true
def Vy{K:AK}{H:Hp}{O:AM6}{v:V}{d:D}(h:Is K H O v d)(n:noTy d=true):∀m,v≠.ty m:=by
 intro m z
 cases h <;> first|(cases z;done)|(simp[noTy] at n)
abbrev Hh:G2:=λx y L=>match y with|.non=>some (.bl (HC x),L)|.bl b=>if noTy x=true then some (.bl (isBl b x),L) else none|_=>none
abbrev IN:G2:=λx y L=>match y with|.non=>some (.bl (!HC x),L)|.bl b=>if noTy x=true then some (.bl (!isBl b x),L) else none|_=>none
def AJH:Ci X (compareOp .Is) Hh:=Ap.weaken (Ap.or op_isN ADx) λv u H Q z4_=>by
 obtain⟨O,L,x,y,d,L',rs,ix,iy,e,k⟩:=z4_;unfold Hh at e;split at e
 .cases e;cases iy;refine .inl ⟨rfl,?_⟩;rw[Wr ix];exact k _ _ _ (.refl _ _) rs (.bl _)
 .split at e
  .rename_i hn;cases e;cases iy;refine .inr ⟨_,rfl,Vy ix hn,?_⟩;rw[Ws ix];exact k _ _ _ (.refl _ _) rs (.bl _)
  .cases e
 .cases e
def AJG:Ci X (compareOp .IsNot) IN:=Ap.weaken (Ap.or ADs ADu) λv u H Q z4_=>by
 obtain⟨O,L,x,y,d,L',rs,ix,iy,e,k⟩:=z4_;unfold IN at e;split at e
 .cases e;cases iy;refine .inl ⟨rfl,?_⟩;rw[Wr ix];exact k _ _ _ (.refl _ _) rs (.bl _)
 .split at e
  .rename_i hn;cases e;cases iy;refine .inr ⟨_,rfl,Vy ix hn,?_⟩;rw[Ws ix];exact k _ _ _ (.refl _ _) rs (.bl _)
  .cases e
 .cases e
abbrev Gf(i j:Str):Bool:=!(Builtin.Str.occurrences j i 0 j.length 1).isEmpty
abbrev JX(a b:D):Bool:=eqV (Cy a) (Cy b)
abbrev DT(x:D)(xs:List D):Bool:=xs.any λy=>JX y x
abbrev CW(d:D)(L:AB):Option (List D):=match d with
 |.tup xs=>some xs|.fz xs=>some xs
 |.ref k=>match L[k]? with|some (.lst xs)=>some xs|_=>none
 |_=>none
def Iw{K:AK}{H:Hp}{O:AM6}{L:AB}{v:V}{d:D}{xs:List D}(rs:Al K H O L)(h:Is K H O v d)(e:CW d L=some xs):∃a vs,v=.ref a/\(BH K H a vs\/BY K H a vs)/\AN K H O vs xs:=by
 cases h with
 |tup hq il=>cases e;exact⟨_,_,rfl,.inr hq,il⟩
 |fz hq il=>cases e;exact⟨_,_,rfl,.inl hq.sql,il⟩
 |ref hk =>
  simp only[CW] at e;split at e
  .rename_i ys e2;cases e;obtain⟨vs,hv,iv⟩:=rs.ob _ _ _ hk e2;exact⟨_,vs,rfl,.inl (BH.of hv),iv⟩
  .cases e
 |_=>cases e
abbrev DC(neg:Bool):G2:=λx y L=>match x,y with
 |.str i,.str j=>some (.bl (if neg then !Gf i j else Gf i j),L)
 |_,_=>match CW y L with|some ys=>if BC x&&ys.all BC then some (.bl (if neg then !DT x ys else DT x ys),L) else none|none=>none
def AFP{x:D}{xs:List D}:Ro (Cy x) (xs.map Cy)=DT x xs:=by unfold Ro DT JX;rw[List.any_map];rfl
def AHI{xs:List D}(h:xs.all BC=true):(xs.map Cy).all Fp=true:=by rw[List.all_map];rw[CF] at h ⊢;exact λd hd=>JW (h d hd)
def Xa{K:AK}{H:Hp}{O:AM6}{L L':AB}{v u:V}{x y d:D}{neg:Bool}{Q:VK}(rs:Al K H O L)(ix:Is K H O v x)(iy:Is K H O u y)
  (e:(match CW y L with|some ys=>if BC x&&ys.all BC then some (D.bl (if neg then !DT x ys else DT x ys),L) else none|none=>none)=some (d,L'))
  (k:∀w H' O',Ai H O H' O'->Al K H' O' L'->Is K H' O' w d->Q w H'):RD K neg v u H Q:=by
 split at e
 .rename_i ys hy;split at e
  .rename_i hf;cases e;rw[Bn] at hf;obtain⟨a,vs,rfl,hs,il⟩:=Iw rs iy hy;have e1:=EL ix hf.1;have e2:=AF1 il hf.2;subst e1 e2;refine⟨a,_,rfl,hs,JW hf.1,AHI hf.2,?_⟩;rw[AFP];exact k _ _ _ (.refl _ _) rs (.bl _)
  .cases e
 .cases e
def AJJ:Ci X (compareOp .In) (DC false):=Ap.weaken (Ap.or ADy ADz) λv u H Q z4_=>by
 obtain⟨O,L,x,y,d,L',rs,ix,iy,e,k⟩:=z4_;unfold DC at e;split at e
 .cases e;cases ix;cases iy;exact .inl ⟨_,_,rfl,rfl,k _ _ _ (.refl _ _) rs (.bl _)⟩
 .exact .inr (Xa rs ix iy e k)
def AJA:Ci X (compareOp .NotIn) (DC true):=Ap.weaken (Ap.or op_notin_str ADt) λv u H Q z4_=>by
 obtain⟨O,L,x,y,d,L',rs,ix,iy,e,k⟩:=z4_;unfold DC at e;split at e
 .cases e;cases ix;cases iy;exact .inl ⟨_,_,rfl,rfl,k _ _ _ (.refl _ _) rs (.bl _)⟩
 .exact .inr (Xa rs ix iy e k)
abbrev AU:G2:=λx y L=>match y with
 |.int i=>match x with
  |.str z=>(match atI z.cps.toList i with|some c=>some (.str ⟨#[c]⟩,L)|none=>none)
  |_=>(match CW x L with|some xs=>(match atI xs i with|some d=>some (d,L)|none=>none)|none=>none)
 |_=>none
def AG8{K:AK}{H:Hp}{O:AM6}{vs:List V}{xs:List D}{i:Int}{d:D}(il:AN K H O vs xs)(e:atI xs i=some d):∃v,atI vs i=some v/\Is K H O v d:=by
 unfold atI at e ⊢;rw[il.length]
 cases q:ixN xs.length i with
 |none=>rw[q] at e;cases e
 |some j=>rw[q] at e;exact il.get e
def AAQ:OK X AU:=Ew.weaken AFF λv u H Q z4_=>by
 obtain⟨O,L,x,y,d,L',rs,ix,iy,e,k⟩:=z4_;unfold AU at e;split at e
 .cases iy;split at e
  .split at e
   .rename_i c hc;cases e
    cases ix with|str _ hz =>
     exact .inr (.inr ⟨_,_,c,rfl,rfl,by rw[sizeLine_eq];exact hz,hc,k _ _ _ (.refl _ _) rs (.str _ (by simp[Str.length]))⟩)
   .cases e
  .split at e
   .rename_i xs hx;split at e
    .rename_i dd hd;cases e;obtain⟨a,vs,rfl,hs,il⟩:=Iw rs ix hx;obtain⟨w,hw,iw⟩:=AG8 il hd;rcases hs with hs|hs
     .exact .inl ⟨a,vs,_,w,rfl,rfl,hs,hw,k _ _ _ (.refl _ _) rs iw⟩
     .exact .inr (.inl ⟨a,vs,_,w,rfl,rfl,hs,hw,k _ _ _ (.refl _ _) rs iw⟩)
    .cases e
   .cases e
 .cases e
end
end L3
set_option maxHeartbeats 4000000
namespace HT
open PySem PySem.Spec PyProof.Rows
section
variable {prog:Program}{w:World}{A:Around}{E:ANB}{s:Shared}
def AJm{t sl:Addr}{items:Array Value}{vl vu:Value}{lo hi:Option Int}{Q:ANB}(ht:IsTup s.heap t items)(hs:s.heap.IsSliceOf sl vl vu .none)(pl:IsPart vl lo)(pu:IsPart vu hi)
  (hw:sIx items.size 0 lo=0/\sIx items.size items.size hi=items.size) (h:Q (.ref t) s) (hsz:items.size<=sizeLine):wpAny (model prog w) A (getItem (.ref t) (.ref sl)) Q E s:=by
 obtain⟨os,hos,hcs,hds⟩:=id hs;have hTs:s.TypeIs (.ref sl) "slice":=⟨os,hos,hcs⟩;unfold getItem
 try with_reducible refine Ck ?_
 first|refine AG (AM ?_)|skip
 refine AG (wpAny_sequenceKey ht.typeIs (by decide) ?_)
 refine AG (AMu (name:=Str.ofString "__getitem__") ht.typeIs PyProof.Rows.slot_tuple_getitem
  (Fx PyProof.Rows.slot_tuple_getitem ht.typeIs entry_tuple_getitem ?_ (args_tuple_getitem _ _)))
 show wpAny _ _ (Builtin.Tuple.tupleItemsOf (.ref t) >>= _) _ _ s;refine AG (tupleItemsOf_ ht ?_);refine AG (wpAny_typeOf hTs ?_);rw[if_pos (by decide)];refine AG (VG hs pl pu ?_)
 have hyes:(((sIx items.size 0 lo:Nat):Int) == 0&&(1:Int) == 1&&(sIx items.size items.size hi-sIx items.size 0 lo) == items.size)=true:=by rw[hw.1,hw.2];simp
 show wpAny _ _ (if (((sIx items.size 0 lo:Nat):Int) == 0&&(1:Int) == 1&&(sIx items.size items.size hi-sIx items.size 0 lo) == items.size)=true then _ else _) _ _ s
 rw[if_pos hyes];unfold Builtin.Tuple.tupleIsExact;refine AG (AG (wpAny_typeOf ht.typeIs (AM ?_)));rw[if_pos (by decide)];refine AG (AMm ?_);exact AM ⟨_,rfl,AM h⟩
end
end HT
namespace L2
open PySem PySem.Spec PyProof.Rows
section
variable {X:Cx}
def ABg:Fv X (λx lo hi H Q=>∃a xs,x=.ref a/\BY X.K H a xs/\(HT.sIx xs.length 0 lo=0/\HT.sIx xs.length xs.length hi=xs.length)/\Q (.ref a) H):=by
 intro pins s Y H x v vl vu lo hi sl Q I rx hs pl pu h;obtain⟨a,xs,rfl,hx,hw,q⟩:=h;cases rx;obtain⟨its,r,ht,hz⟩:=I.tuple hx;have hlen:its.toArray.size=xs.length:=by rw[BZ];exact r.length.symm
 refine⟨"tuple",_,PyProof.Rows.slot_tuple_getitem.lookup,ht.typeIs,?_⟩;exact HT.AJm ht hs pl pu (by rw[hlen];exact hw) ⟨.ref a,H,I,rfl,q⟩ (by rw[hlen];exact hz)
end
end L2
set_option maxHeartbeats 4000000
namespace L3
open PySem PySem.Spec PyProof.Rows L2
noncomputable abbrev OF:=Fm->AB->Option (Option Int×AB)
abbrev AEv(K:AK)(f:OF):TO:=λY H Q=>∃O ρ L d L',Cw K H O Y ρ L/\f ρ L=some (d,L')/\∀H' O',Ai H O H' O'->Al K H' O' L'->Q d H'
abbrev LV(X:Cx)(e:Option Expr)(f:OF):Prop:=PO X e (AEv X.K f)
abbrev EK:OF:=λ_ L=>some (none,L)
abbrev CT(f:EF):OF:=λρ L=>(f ρ L).bind λx=>match x.1 with|.int i=>some (some i,x.2)|_=>none
section
variable {X:Cx}{e:Expr}{f:EF}{lo hi:Option Expr}{fl fh:OF}{pos p2:Pos}
def AI6:LV X none EK:=λpins s Y H Q I z6_=>by
 obtain⟨O,ρ,L,d,L',r,e,k⟩:=z6_;cases e;exact ACw pins s Y H Q I (k H O (.refl _ _) r.s)
def AI5(h:AW X e f):LV X (some e) (CT f):=λpins s Y H Q I z6_=>by
 obtain⟨O,ρ,L,d,L',r,ee,k⟩:=z6_;refine ACv h pins s Y H Q I ?_;unfold CT at ee;obtain⟨p,e1,ee⟩:=bS ee;obtain⟨x,L1⟩:=p
 cases x <;> simp only[AS] at ee <;> try (cases ee;done)
 cases ee;refine⟨O,ρ,L,_,_,r,e1,λv H' O' st rs is=>?_⟩;cases is;exact⟨_,rfl,k H' O' st rs⟩
def ABi:Fv X (λx lo hi H Q=>∃z,x=.str z/\z.length<=sizeLine/\Q (.str (Txt.slice z lo hi)) H):=by
 intro pins s Y H x v vl vu lo hi sl Q I rx hs pl pu h;obtain⟨z,rfl,hz,q⟩:=h;obtain⟨t,rfl⟩:=rx;refine⟨"str",_,F.slot_str_getitem.lookup,typeIs_str _ _ _,?_⟩;have fin:∀t' k,EP X pins Y Q (.str (Txt.slice z lo hi) t') {s with toks:=k}:=λt' k=>⟨.str _,H,I.tok _,⟨_,rfl⟩,q⟩;have hl:(Txt.slice z lo hi).length<=sizeLine:=CD (Txt.slice_le z _ _) hz
 cases pl with
 |none=>cases pu with
  |none=>exact AMw (l:=none) (u:=none) (st:=none) hs rfl (post_val_or_str ⟨hl,fin⟩)
  |int j tj=>exact AMw (l:=none) (u:=some (j,tj)) (st:=none) hs rfl (post_val_or_str ⟨hl,fin⟩)
 |int i ti=>cases pu with
  |none=>exact AMw (l:=some (i,ti)) (u:=none) (st:=none) hs rfl (post_val_or_str ⟨hl,fin⟩)
  |int j tj=>exact AMw (l:=some (i,ti)) (u:=some (j,tj)) (st:=none) hs rfl (post_val_or_str ⟨hl,fin⟩)
abbrev cutD(xs:List D)(lo hi:Option Int):List D:=(xs.drop (HT.sIx xs.length 0 lo)).take (HT.sIx xs.length xs.length hi-HT.sIx xs.length 0 lo)
abbrev JR(x:D)(lo hi:Option Int)(L:AB):Option (D×AB):=match x with
 |.str z=>some (.str (Txt.slice z lo hi),L)
 |.fz xs=>some (.ref L.length,L++[.lst (cutD xs lo hi)])
 |.ref k=>(match L[k]? with|some (.lst xs)=>some (.ref L.length,L++[.lst (cutD xs lo hi)])|_=>none)
 |.tup xs=>some (.tup (cutD xs lo hi),L)
 |_=>none
abbrev Cz(f:EF)(fl fh:OF):EF:=λρ L=>(f ρ L).bind λx=>(fl ρ x.2).bind λl=>(fh ρ l.2).bind λh=>JR x.1 l.1 h.1 h.2
def SQ{K:AK}{H:Hp}{O:AM6}{vs:List V}{xs:List D}(il:AN K H O vs xs)(lo hi:Option Int):AN K H O (GJ vs lo hi) (cutD xs lo hi):=by unfold GJ cutD;rw[il.length];exact(il.drop _).take _
def AKR(he:AW X e f)(hl:LV X lo fl)(hh:LV X hi fh):AW X (.Subscript e (.Slice lo hi none p2) pos) (Cz f fl fh) :=
 PE.weaken (ADM (Fv.or ABi (Fv.or ABj (Fv.or ABh ABg))) he hl hh) λY H Q z3_=>by
  obtain⟨O,ρ,L,d,L',r,ee,k⟩:=z3_;unfold Cz at ee;obtain⟨p,e1,ee⟩:=bS ee;obtain⟨q,e2,ee⟩:=bS ee;obtain⟨w,e3,ee⟩:=bS ee;refine⟨O,ρ,L,p.1,p.2,r,e1,λv H1 O1 st1 rs1 is1=>⟨O1,ρ,p.2,q.1,q.2,r.to st1 rs1,e2,λH2 O2 st2 rs2=>⟨O2,ρ,q.2,w.1,w.2,r.to (st1.trans st2) rs2,e3,λH3 O3 st3 rs3=>?_⟩⟩⟩;have is3:=(is1.mono st2).mono st3;have stA:=(st1.trans st2).trans st3;unfold JR at ee;split at ee
  .rename_i z hz;rw[hz] at is3;cases ee
   cases is3 with|str _ hl =>
    exact .inl ⟨_,rfl,by rw[sizeLine_eq];exact hl,k _ _ _ stA rs3 (.str _ (CD (Txt.slice_le _ _ _) hl))⟩
  .rename_i xs hx;rw[hx] at is3;cases ee
   cases is3 with|@fz a vs ds hq il =>
    refine .inr (.inl ⟨_,_,rfl,hq.sql,λpa hp=>?_⟩);have st4:Ai H3 O3 (upd H3 pa (.lst (GJ vs q.1 w.1))) (O3++[pa]):=⟨.new hp,Am _ _⟩;exact k _ _ _ (stA.trans st4) (rs3.new hp ⟨_,Bu,(SQ il _ _).mono st4⟩) (.ref (by rw[<-rs3.len];simp))
  .rename_i kk hx;rw[hx] at is3;split at ee
   .rename_i xs e4;cases ee
    cases is3 with|ref hk =>
     obtain⟨vs,hv,il⟩:=rs3.ob _ _ _ hk e4;refine .inr (.inl ⟨_,_,rfl,BH.of hv,λpa hp=>?_⟩);have st4:Ai H3 O3 (upd H3 pa (.lst (GJ vs q.1 w.1))) (O3++[pa]):=⟨.new hp,Am _ _⟩;exact k _ _ _ (stA.trans st4) (rs3.new hp ⟨_,Bu,(SQ il _ _).mono st4⟩) (.ref (by rw[<-rs3.len];simp))
   .cases ee
  .rename_i xs hx;rw[hx] at is3;cases ee
   cases is3 with|@tup a vs ds hq il =>
    by_cases hw:HT.sIx vs.length 0 q.1=0/\HT.sIx vs.length vs.length w.1=vs.length
    .refine .inr (.inr (.inr ⟨_,vs,rfl,hq,hw,?_⟩))
     have e5:cutD xs q.1 w.1=xs:=by unfold cutD;rw[<-il.length,hw.1,hw.2,AMC,Nat.sub_zero,il.length,Ec]
     rw[e5] at k;exact k _ _ _ stA rs3 (.tup hq il)
    .refine .inr (.inr (.inl ⟨_,vs,rfl,hq,hw,λpa hp=>?_⟩));have st4:Ai H3 O3 (upd H3 pa (.tup (GJ vs q.1 w.1))) O3:=⟨.new hp,AR _⟩;exact k _ _ _ (stA.trans st4) (rs3.ext λa u e=>by rw[BN (DK e hp)];exact e) (.tup (BY.of Bu) ((SQ il _ _).mono st4))
  .cases ee
end
section
variable {X:Cx}
abbrev Be:GL:=λxs L=>match xs with
 |[.str z]=>some (.int (z.length:Int),L)
 |[x]=>(match CW x L with|some ys=>some (.int (ys.length:Int),L)|none=>none)
 |_=>none
def AKy:Ex X (.builtin "len") Be:=CV.weaken (CV.or AGj AGk) λvs H Q z3_=>by
 obtain⟨O,L,xs,d,L',rs,is,e,k⟩:=z3_;unfold Be at e;split at e
 .cases e
  cases is with|cons i1 i2=>cases i2;cases i1 with|str _ hz =>
   exact .inl ⟨_,rfl,by rw[sizeLine_eq];exact hz,k _ _ _ (.refl _ _) rs (.int _)⟩
 .split at e
  .rename_i ys hy;cases e
   cases is with|cons i1 i2 =>
    cases i2;obtain⟨a,vs,rfl,hs,il⟩:=Iw rs i1 hy;exact .inr ⟨a,vs,rfl,hs,by rw[il.length];exact k _ _ _ (.refl _ _) rs (.int _)⟩
  .cases e
 .cases e
abbrev JV:GL:=λxs L=>match xs with|[.int i]=>some (.int (if i<0 then -i else i),L)|_=>none
def AK2:Ex X (.builtin "abs") JV:=CV.weaken AGn λvs H Q z3_=>by
 obtain⟨O,L,xs,d,L',rs,is,e,k⟩:=z3_;unfold JV at e;split at e
 .cases e;cases is with|cons i1 i2=>cases i2;cases i1;exact⟨_,rfl,k _ _ _ (.refl _ _) rs (.int _)⟩
 .cases e
abbrev Ky:GL:=λxs L=>match xs with|[.int i,.int j]=>some (.int (if j<i then j else i),L)|_=>none
def AKv(hc:X.calm=true):Ex X (.builtin "min") Ky:=CV.weaken (AGi hc) λvs H Q z3_=>by
 obtain⟨O,L,xs,d,L',rs,is,e,k⟩:=z3_;unfold Ky at e;split at e
 .cases e;cases is with|cons i1 i2=>cases i2 with|cons i3 i4=>cases i4;cases i1;cases i3;exact⟨_,_,rfl,k _ _ _ (.refl _ _) rs (.int _)⟩
 .cases e
abbrev LC:GL:=λxs L=>match xs with|[.int i]=>some (.int i,L)|[.bl b]=>some (.int (if b then 1 else 0),L)|_=>none
def AKz:Ex X (.type "int") LC:=CV.weaken AGl λvs H Q z3_=>by
 obtain⟨O,L,xs,d,L',rs,is,e,k⟩:=z3_;unfold LC at e;split at e
 .cases e;cases is with|cons i1 i2=>cases i2;cases i1;exact .inl ⟨_,rfl,k _ _ _ (.refl _ _) rs (.int _)⟩
 .cases e;cases is with|cons i1 i2=>cases i2;cases i1;exact .inr ⟨_,rfl,k _ _ _ (.refl _ _) rs (.int _)⟩
 .cases e
abbrev Fj:GL:=λxs L=>match xs with
 |[.tup ys]=>some (.tup ys,L)
 |[x]=>(match CW x L with|some ys=>some (.tup ys,L)|none=>none)
 |_=>none
def AKs:Ex X (.type "tuple") Fj:=CV.weaken AGg λvs H Q z3_=>by
 obtain⟨O,L,xs,d,L',rs,is,e,k⟩:=z3_;unfold Fj at e;split at e
 .cases e;cases is with|cons i1 i2=>cases i2;cases i1 with|tup hq il=>exact⟨_,_,rfl,.inr ⟨hq,k _ _ _ (.refl _ _) rs (.tup hq il)⟩⟩
 .split at e
  .rename_i ys hy;cases e
   cases is with|cons i1 i2 =>
    cases i2;obtain⟨a,vs,rfl,hs,il⟩:=Iw rs i1 hy;rcases hs with hs|hs
    .refine⟨a,vs,rfl,.inl ⟨hs,λl hl=>?_⟩⟩;have st:Ai H O (upd H l (.tup vs)) O:=⟨.new hl,AR _⟩;exact k _ _ _ st (rs.ext λb u e=>by rw[BN (DK e hl)];exact e) (.tup (BY.of Bu) (il.mono st))
    .exact⟨a,vs,rfl,.inr ⟨hs,k _ _ _ (.refl _ _) rs (.tup hs il)⟩⟩
  .cases e
 .cases e
abbrev AFs:GL:=λxs L=>match xs with
 |[x]=>(match CW x L with|some ys=>some (.ref L.length,L++[.lst ys])|none=>none)
 |_=>none
def AGm(hc:X.calm=true):CV X (.builtin "all") (λxs H Q=>∃(p:Addr) (bs:List Bool),xs=[.ref p]/\BH X.K H p (bs.map V.bl)/\Q (.bl (bs.all id)) H):=by
 intro pins s Y H xs us Q I r h;obtain⟨p,bs,rfl,hq,q⟩:=h;obtain⟨u,rfl,rx⟩:=Dy r;cases rx;obtain⟨its,rv,pl,hz⟩:=I.list hq;have hI:∀b o,s.heap.get? b=some o->b≠s.heap.objs.size:=λb o e=>BQ (Heap.lt_size e);obtain⟨ol,hol,hcl,nl,hdl⟩:=pl.isList;have hbs:bs.length=its.length:=by have:=rv.length;simpa using this
 refine call_all_walk (AMs pl.isList ⟨s.heap.objs.size,_,_,_,_,_,λi=>(bs[i]?).getD true,rfl,
  Walks.list (A:=X.A.in1) (show X.A.in1.handled=none from I.ok.hd hc) s.heap.objs.size p (hI p ol hol) its.toArray,⟨⟨_,Heap.get?_push_size _ rfl,rfl,rfl⟩,⟨ol,Heap.get?_push_of_some _ hol,hcl,nl,hdl⟩⟩,?_,?_⟩)
 .intro i v s' Q' E' hv hQ;have hv':its[i]?=some v:=by simpa using hv
  have hi:i<its.length:=(Ay.mp hv').1;have hb:bs[i]?=some bs[i]:=by simp[hbs,hi]
  obtain⟨w',hw,rw'⟩:=rv.get (i:=i) (x:=.bl bs[i]) (by simp[hbs,hi]);rw[hv'] at hw;cases hw;cases rw';dsimp only at hQ;rw[hb] at hQ;exact AMq hQ
 .intro h' tk kk;have I1:AI X pins Y H {s with heap:=h',toks:=tk}:=I.kept λb o e=>kk b o (by simpa using hI b o e) (Heap.get?_push_of_some _ e);refine⟨.bl (bs.all id),H,I1,?_,q⟩;show Value.bool _=Value.bool _
  congr 1
  rw[BZ,<-hbs];rw[AL0,CF,CF];constructor
  .intro h b hb;obtain⟨i,hi,rfl⟩:=AL9 hb;have:=h i (CM.mpr hi);simpa[hi] using this
  .intro h i hi;have hi':=CM.mp hi;simpa[hi'] using h _ (List.getElem_mem hi')
abbrev blsD:List D->Option (List Bool)
 |[]=>some []
 |.bl b::r=>(blsD r).map (b::·)
 |_=>none
def AGr{K:AK}{H:Hp}{O:AM6}:∀{vs:List V} {ds:List D} {bs:List Bool},AN K H O vs ds->blsD ds=some bs->vs=bs.map V.bl:=by
 intro vs ds bs h e
 induction ds generalizing vs bs with
 |nil=>cases h;cases e;rfl
 |cons d ds ih =>
  cases h with|cons a b =>
  cases a <;> simp only[blsD] at e <;> try (cases e;done)
  cases q:blsD ds with
  |none=>rw[q] at e;cases e
  |some r =>
   rw[q] at e;cases e;rw[ih b q];rfl
abbrev JU:GL:=λxs L=>match xs with
 |[.ref k]=>(match L[k]? with|some (.lst ds)=>(match blsD ds with|some bs=>some (.bl (bs.all id),L)|none=>none)|_=>none)
 |_=>none
def AK1(hc:X.calm=true):Ex X (.builtin "all") JU:=CV.weaken (AGm hc) λvs H Q z3_=>by
 obtain⟨O,L,xs,d,L',rs,is,e,k⟩:=z3_;unfold JU at e;split at e
 .split at e
  .rename_i ds hd;split at e
   .rename_i bs hb;cases e
    cases is with|cons i1 i2 =>
     cases i2
     cases i1 with|ref hk =>
      obtain⟨vs,hv,il⟩:=rs.ob _ _ _ hk hd;rw[AGr il hb] at hv;exact⟨_,bs,rfl,BH.of hv,k _ _ _ (.refl _ _) rs (.bl _)⟩
   .cases e
  .cases e
 .cases e
end
noncomputable abbrev GM:=D->List D->AB->Option (D×AB)
abbrev rM(K:AK)(g:GM):V->List V->Hp->VK->Prop:=λv vs H Q=>∃O L x xs d L',Al K H O L/\Is K H O v x/\AN K H O vs xs/\g x xs L=some (d,L') /\
 ∀w H' O',Ai H O H' O'->Al K H' O' L'->Is K H' O' w d->Q w H'
abbrev MtD(X:Cx)(id:String)(g:GM):Prop:=Ev X id (rM X.K g)
def Ev.weaken{X:Cx}{id:String}{r r':V->List V->Hp->VK->Prop}(h:Ev X id r)(i:∀x xs H Q,r' x xs H Q->r x xs H Q):Ev X id r' :=
 λpins s Y H x xs v us Q I rx rs q=>h pins s Y H x xs v us Q I rx rs (i _ _ _ _ q)
abbrev Iv(T:String)(x:D)(L:AB):Bool:=match x with
 |.str _=>T == "str"
 |.fz _=>T == "list"
 |.ref k=>match L[k]? with|some (.lst _)=>T == "list" | some (.dk _)=>T == "dict" | some (.dt _ _)=>T == "dict" | _=>false
 |_=>false
def UX{K:AK}{H:Hp}{O:AM6}{L:AB}{T:String}{v:V}{x:D}(rs:Al K H O L)(i:Is K H O v x)(h:Iv T x L=true):Ms K T v H:=by
 unfold Iv at h;split at h
 .cases i;exact beq_iff_eq.mp h
 .cases i with|fz hq il=>exact .inl ⟨beq_iff_eq.mp h,_,hq.sql⟩
 .cases i with|ref hk =>
   split at h
   .rename_i e;obtain⟨vs,hv,_⟩:=rs.ob _ _ _ hk e;exact .inl ⟨beq_iff_eq.mp h,_,BH.of hv⟩
   .rename_i e;obtain⟨vs,hv,_⟩:=rs.ob _ _ _ hk e;exact .inr (.inr (.inl ⟨beq_iff_eq.mp h,.inl ⟨_,hv⟩⟩))
   .rename_i e;obtain⟨vs,hv,_⟩:=rs.ob _ _ _ hk e;exact .inr (.inr (.inl ⟨beq_iff_eq.mp h,.inr (.inr ⟨_,_,hv⟩)⟩))
   .cases h
 .cases h
abbrev Bg(T:String)(g:GM)(fo:EF)(fa:AF):EF:=λρ L=>(fo ρ L).bind λx=>if Iv T x.1 x.2=true then (fa ρ x.2).bind λy=>g x.1 y.1 y.2 else none
section
variable {X:Cx}{o e:Expr}{es:AM7}{fo:EF}{fa:AF}{name:Str}{apos cpos:Pos}{T id:String}{g:GM}
def AKn(pa:PlainAttrs T)(slot:Slot T name id)(hty:typeOf (.builtin id)=pure (.type "method_descriptor"))(hm:MtD X id g)(ho:AW X o fo)
  (hbase:attributeBase o name X.env (eval o X.env)=eval o X.env:=by rfl) (hline:(apos.endLine == cpos.line)=true:=by rfl):AW X (.Call (.Attribute o name apos) [] [] cpos) (Bg T g fo AH) :=
 PE.weaken (ADe pa slot hty hm ho hbase hline) λY H Q z3_=>by
  obtain⟨O,ρ,L,d,L',r,e,k⟩:=z3_;unfold Bg at e;obtain⟨p,e1,e⟩:=bS e;split at e
  .rename_i ht;refine⟨O,ρ,L,p.1,p.2,r,e1,λv H1 O1 st rs is=>⟨UX rs is ht,O1,p.2,p.1,[],d,L',rs,is,.nil,e,λw H' O' st' rs' is'=>k w H' O' (st.trans st') rs' is'⟩⟩
  .cases e
def AKo(pa:PlainAttrs T)(slot:Slot T name id)(hty:typeOf (.builtin id)=pure (.type "method_descriptor"))(hm:MtD X id g)(ho:AW X o fo)(ha:Ds X (e::es) fa)
  (hbase:attributeBase o name X.env (eval o X.env)=eval o X.env:=by rfl)
  (hfew:decide ((e::es).length+([]:List Keyword).length+(if ([]:List Keyword).isEmpty then 0 else 1)<30)=true:=by rfl)
  (hline:(apos.endLine == cpos.line)=true:=by rfl) (hs:EJ e=true:=by rfl) (hplain:es.all EJ=true:=by rfl) :
  AW X (.Call (.Attribute o name apos) (e::es) [] cpos) (Bg T g fo fa) :=
 PE.weaken (ADf pa slot hty hm ho ha hbase (by rw[Va (by rw[ALi,hs,hplain];rfl),hfew];rfl) hline (Gy hs) (IC hplain)) λY H Q z3_=>by
  obtain⟨O,ρ,L,d,L',r,e,k⟩:=z3_;unfold Bg at e;obtain⟨p,e1,e⟩:=bS e;split at e
  .rename_i ht;obtain⟨q,e2,e⟩:=bS e;refine⟨O,ρ,L,p.1,p.2,r,e1,λv H1 O1 st rs is=>⟨UX rs is ht,O1,ρ,p.2,q.1,q.2,r.to st rs,e2,λvs H2 O2 st2 rs2 is2=>?_⟩⟩;exact⟨O2,q.2,p.1,q.1,d,L',rs2,is.mono st2,is2,e,λw H' O' st' rs' is'=>k w H' O' ((st.trans st2).trans st') rs' is'⟩
  .cases e
abbrev HH(f:Str->Bool):GM:=λx xs L=>match x,xs with|.str z,[]=>some (.bl (f z),L)|_,_=>none
abbrev gS0s(f:Str->Str):GM:=λx xs L=>match x,xs with|.str z,[]=>if (f z).length<=16777216 then some (.str (f z),L) else none|_,_=>none
def RZ{id:String}{f:Str->Bool}(h:∀(z:Str) (t:Tok) (s:Shared) (Q E:ANB),Q (.bool (f z)) s->wpAny (model X.prog X.w) X.A (call (.builtin id) [.str z t]) Q E s):MtD X id (HH f) :=
 λpins s Y H x xs v us Q I rx rs z12_=>by
  obtain⟨O,L,dx,dxs,d,L',rp,ix,ixs,e,k⟩:=z12_;unfold HH at e;split at e
  .cases e;cases ix;cases ixs;cases rs;obtain⟨t,rfl⟩:=rx;exact h _ _ _ _ _ ⟨.bl _,H,I,rfl,k _ _ _ (.refl _ _) rp (.bl _)⟩
  .cases e
def WK{id:String}{f:Str->Str}(h:∀(z:Str) (t:Tok) (s:Shared) (Q E:ANB),Builtin.Str.tooLong (f z).length=false->Q (.str (f z) s.toks) {s with toks:=s.toks+1}->wpAny (model X.prog X.w) X.A (call (.builtin id) [.str z t]) Q E s):MtD X id (gS0s f) :=
 λpins s Y H x xs v us Q I rx rs z12_=>by
  obtain⟨O,L,dx,dxs,d,L',rp,ix,ixs,e,k⟩:=z12_;unfold gS0s at e;split at e
  .split at e
   .rename_i hz;cases e;cases ix;cases ixs;cases rs;obtain⟨t,rfl⟩:=rx;exact h _ _ _ _ _ (decide_eq_false (by rw[sizeLine_eq];omega)) ⟨.str _,H,I.tok _,⟨_,rfl⟩,k _ _ _ (.refl _ _) rp (.str _ hz)⟩
   .cases e
  .cases e
def AJW:MtD X "str.islower" (HH Txt.islower):=RZ λ_ _ _ _ _ h=>SC.islower h
def AJV:MtD X "str.isupper" (HH Txt.isupper):=RZ λ_ _ _ _ _ h=>SC.isupper h
def AJX:MtD X "str.isdigit" (HH Txt.isdigit):=RZ λ_ _ _ _ _ h=>SC.isdigit h
def AJQ:MtD X "str.upper" (gS0s Txt.upper):=WK λ_ _ _ _ _ hz h=>SC.upper hz h
def AJT:MtD X "str.lower" (gS0s Txt.lower):=WK λ_ _ _ _ _ hz h=>SC.lower hz h
abbrev CA:List D->Option (AM4)
 |[]=>some []
 |.str x::r=>(CA r).map (x::·)
 |_=>none
def ABR{K:AK}{H:Hp}{O:AM6}:∀{vs:List V} {ds:List D} {ys:AM4},AN K H O vs ds->CA ds=some ys->vs=ys.map V.str:=by
 intro vs ds ys h e
 induction ds generalizing vs ys with
 |nil=>cases h;cases e;rfl
 |cons d ds ih =>
  cases h with|cons a b =>
  cases a <;> simp only[CA] at e <;> try (cases e;done)
  cases q:CA ds with
  |none=>rw[q] at e;cases e
  |some r =>
   rw[q] at e;cases e;rw[ih b q];rfl
def Qu:∀{ys:AM4} {us:AM5},AX (ys.map V.str) us->StrsAre us ys
 |[],_,r=>by rw[AL1] at r;cases r;exact .nil
 |y::ys,_,r=>by
  rw[Ak] at r
  cases r with
  |cons r1 r2=>obtain⟨t,rfl⟩:=r1;exact .cons y t (Qu r2)
abbrev LB:GM:=λx xs L=>match x,xs with
 |.str sep,[y]=>(match CW y L with|some ds=>(match CA ds with|some ys=>if (ys.map (·.length)).sum+ys.length*sep.length<=16777216 then some (.str (Txt.join sep ys),L) else none|none=>none)|none=>none)
 |_,_=>none
def join_len(sep:Str)(ys:AM4):(Txt.join sep ys).length<=(ys.map (·.length)).sum+ys.length*sep.length:=by show(Builtin.Str.glued sep ys).length<=_;rw[size_glued];exact Nat.add_le_add_left (ALk _ (Nat.sub_le _ _)) _
def AJU:MtD X "str.join" LB:=λpins s Y H x xs v us Q I rx rs z12_=>by
 obtain⟨O,L,dx,dxs,d,L',rp,ix,ixs,e,k⟩:=z12_;unfold LB at e;split at e
 .split at e
  .rename_i ds hd;split at e
   .rename_i ys hy;split at e
    .rename_i hz;cases e;cases ix
     cases ixs with|cons i1 i2 =>
      cases i2;obtain⟨t,rfl⟩:=rx;obtain⟨u,rfl,ru⟩:=Dy rs;obtain⟨a,vs,rfl,hs,il⟩:=Iw rp i1 hd;cases ru;have e1:=ABR il hy;subst e1;have fin:∀t' k',EP X pins Y Q (.str (Txt.join _ ys) t') {s with toks:=k'}:=λt' k'=>⟨.str _,H,I.tok _,⟨_,rfl⟩,k _ _ _ (.refl _ _) rp (.str _ (CD (join_len _ _) hz))⟩;rcases hs with hs|hs
      .obtain⟨its,rv,pl,_⟩:=I.list hs;exact join_list pl.isList (by simpa using Qu rv) hz fin
      .obtain⟨its,rv,pl,_⟩:=I.tuple hs;exact join_tuple pl (by simpa using Qu rv) hz fin
    .cases e
   .cases e
  .cases e
 .cases e
abbrev Em:GM:=λx xs L=>match x,xs with
 |.ref k,[y]=>(match L[k]? with|some (.lst ds)=>if ds.length<16777216 then some (.non,L.set k (.lst (ds++[y]))) else none|_=>none)
 |_,_=>none
def AJa:MtD X "list.append" Em:=Ev.weaken (show Ev X "list.append" VV from WD) λv vs H Q z4_=>by
 obtain⟨O,L,dx,dxs,d,L',rp,ix,ixs,e,k⟩:=z4_;unfold Em at e;split at e
 .split at e
  .rename_i ds hd;split at e
   .rename_i hz;cases e
    cases ix with|@ref kk a hk =>
     cases ixs with|@cons v1 y1 _ _ i1 i2 =>
      cases i2;obtain⟨ws,hw,il⟩:=rp.ob _ _ _ hk hd;refine⟨_,ws,_,rfl,rfl,hw,by rw[il.length,sizeLine_eq];exact hz,?_⟩;have st:Ai H O (upd H a (.lst (ws++[v1]))) O:=⟨.write hw id,AR _⟩;exact k _ _ _ st (rp.write (o':=.lst (ds++[_])) hk ⟨_,Bu,(il.mono st).append (.cons (i1.mono st) .nil)⟩) .non
   .cases e
  .cases e
 .cases e
end
abbrev FB(x:D)(L:AB):Option String:=match x with
 |.non=>some "NoneType" | .bl _=>some "bool" | .int _=>some "int" | .str _=>some "str" | .tup _=>some "tuple" | .fz _=>some "list"
 |.ref k=>(match L[k]? with|some (.lst _)=>some "list" | some (.dk _)=>some "dict" | _=>none)
 |.ty _=>none
abbrev JP(t T:String):Bool:=t == T || (t == "bool"&&T == "int")
abbrev Fl:GL:=λxs L=>match xs with
 |[x,.ty T]=>if ["int","str","bool","list","tuple","dict"].contains T then (FB x L).map λt=>(.bl (JP t T),L) else none
 |_=>none
section
variable {X:Cx}
def Hc(K:AK){t T:String}(ht:t∈["NoneType","bool","int","str","tuple","list","dict"])(hT:T∈["int","str","bool","list","tuple","dict"]):PySem.W.kitOne K (.type t) (.type T)=some (JP t T):=by
 simp only[Aa,Dw,or_false] at ht hT
 rcases ht with rfl|rfl|rfl|rfl|rfl|rfl|rfl <;> rcases hT with rfl|rfl|rfl|rfl|rfl|rfl <;> first|rfl|decide
def AK0:Ex X (.builtin "isinstance") Fl:=λpins s Y H xs us Q I r z9_=>by
 obtain⟨O,L,ds,d,L',rp,is,e,k⟩:=z9_;unfold Fl at e;split at e
 .rename_i x T;split at e
  .rename_i hT;have hT':T∈["int","str","bool","list","tuple","dict"]:=by simpa using hT
   cases is with|cons i1 i2=>cases i2 with|cons i3 i4 =>
    cases i4;cases i3;obtain⟨u,u2,rfl,r1,r2⟩:=UT r;cases r2
    cases ht:FB x L with
    |none=>rw[ht] at e;cases e
    |some t =>
     rw[ht] at e;cases e;have fin:∀tk,EP X pins Y Q (.bool (JP t T)) {s with toks:=tk}:=λtk=>⟨.bl _,H,I.tok _,rfl,k _ _ _ (.refl _ _) rp (.bl _)⟩
     cases i1 with
     |non=>cases ht;exact JN I r1 .non (Hc _ (by simp) hT') fin
     |bl b=>cases ht;exact JN I r1 (.bl b) (Hc _ (by simp) hT') fin
     |int b=>cases ht;exact JN I r1 (.int b) (Hc _ (by simp) hT') fin
     |str b _=>cases ht;exact JN I r1 (.str b) (Hc _ (by simp) hT') fin
     |tup hq il =>
      cases ht;cases r1;obtain⟨its,rv,pl,_⟩:=I.tuple hq;obtain⟨o,h1,h2,_⟩:=pl;exact Fy PySem.W.kitx_tuple I.kIn ⟨o,h1,h2⟩ (Hc _ (by simp) hT') (λz=>nomatch z) fin
     |fz hq il =>
      cases ht;cases r1;obtain⟨its,rv,pl,_⟩:=I.list hq.sql;obtain⟨o,h1,h2,_⟩:=pl.isList;exact Fy PySem.W.kitx_list I.kIn ⟨o,h1,h2⟩ (Hc _ (by simp) hT') (λz=>nomatch z) fin
     |ref hk =>
      simp only[FB] at ht;split at ht
      .rename_i e2;cases ht;obtain⟨vs,hv,_⟩:=rp.ob _ _ _ hk e2;exact JN I r1 (.lst hv) (Hc _ (by simp) hT') fin
      .rename_i e2;cases ht;obtain⟨vs,hv,_⟩:=rp.ob _ _ _ hk e2;exact JN I r1 (.dK hv) (Hc _ (by simp) hT') fin
      .cases ht
     |ty n=>cases ht
  .cases e
 .cases e
def AKO{x:Str}{T:String}{pos:Pos}(hm:X.mg x=none)(hv:bootBuiltins x=some (.type T))(hg:Gl X x:=by rfl)(hn:x≠"__name__":=by decide)(hd:(x == ("__debug__":Str))=false:=by decide):AW X (.Name x pos) (AD (.ty T)) :=
 JY (ADg hg hm hv (v:=.ty T) rfl hn hd) λ_ _=>.ty T
def AGH{x:Str}{v:V}{u:Value}{d:D}{pos:Pos}(hm:X.mg x=some u)(r:AY v u)(i:∀H O,Is X.K H O v d)(hg:Gl X x:=by rfl)(hd:(x == ("__debug__":Str))=false:=by decide):AW X (.Name x pos) (AD d):=JY (ADX hg hm r hd) i
end
abbrev LJ(names fnames:List (Str×NameKind))(N N':AM4)(n:Nat)(idx:AM9):Bool :=
 names.all (λp=>!(p.2 == .cell))&&names.all (λp=>!(p.2 == .local) || names.lookup p.1 == some .local)&&names.all (λp=>!(p.2 == .free) || fnames.lookup p.1 == some .cell || fnames.lookup p.1 == some .free) &&
 N'.length == n+idx.length&&(List.range idx.length).all λj=>match idx[j]? with
  |some i=>(match N'[n+j]?,N[i]? with|some x,some y=>x == y&&names.contains (x,.free)&&names.all (λp=>!(p.1 == x) || p.2 == .free)|_,_=>false)
  |none=>false
def AGY{X:Cx}{scope:Scope}{N N':AM4}{n:Nat}{idx:AM9}{fnames:List (Str×NameKind)}(h1:scope.kind=.function)(hk:∀x,X.env.kindOf x=fnames.lookup x)(hN:X.N=N)(hc:LJ scope.names fnames N N' n idx=true):Ld X scope N' n idx:=by
 subst hN;unfold LJ at hc;simp only[Bn] at hc;obtain⟨⟨⟨⟨c1,c2⟩,c3⟩,c4⟩,c5⟩:=hc;rw[CF] at c1 c2 c3 c5;refine⟨h1,λy hy e=>?_,λy hy e=>?_,λy hy e=>?_,beq_iff_eq.mp c4,λj i e=>?_⟩
 .have:=c1 y hy;rw[e] at this;exact absurd this (by decide)
 .have:=c2 y hy;rw[e] at this;simpa using this
 .have:=c3 y hy;rw[e] at this;rw[hk];simpa using this
 .have hj:=(Ay.mp e).1;have:=c5 j (CM.mpr hj);rw[e] at this;simp only at this
  cases q1:N'[n+j]? with
  |none=>simp[q1] at this
  |some x =>
   cases q2:X.N[i]? with
   |none=>simp[q1,q2] at this
   |some y =>
    simp only[q1,q2,Bn] at this;obtain⟨⟨a1,a2⟩,a3⟩:=this;have a1':x=y:=beq_iff_eq.mp a1;subst a1';refine⟨x,rfl,rfl,by simpa using a2,λk hk'=>?_⟩;rw[CF] at a3;have:=a3 _ hk';simpa using this
open PySem.W in
def AG5{l:OpenLaw}{n:Nat}{q:Program}{loose:AM4}{XP:(AM3)->Heap->Prop}{YP:World->Heap->Prop}{d:DefRec}
  (hn:l.most=some n) (hdf:d.params.defaults=[])
  (call:∀(w:World) (s₀ s₁:Shared) (mg mb:AM3) (fa:Addr) (a:Addr) (vs:AM5) (ns:ANA),
   Ground q loose [] XP w s₀ mg mb s₁.heap->YP w s₁.heap->mg d.name=some (.ref fa) ->
   s₁.heap.get? a=some {cls:=.type "list",data:=.seq vs.toArray}->IntsAre vs ns->ns.length<=n->(∀z∈ns,Builtin.Int.intBits z<=1048576)->s₁.gens=#[] ->
   codeAny (model l.prog w) callerA (.call (.ref fa) ⟨[.ref a],[]⟩) (λr s'=>r=.ok (.ret (.bool true))/\OldK s₁.heap s'.heap/\s'.os=s₁.os/\AllBare s'.gens) s₁) :
  WalkO q loose XP YP l.row.toRowW d [] (λf vs=>PySem.call f vs):=by
 intro w s₀ s₁ mg mb G Y_ fa o pm cd doc dV kV ho hd hcd hD hmg hg args vals as hpre hlay hrd hwl hlo;obtain rfl:dV=.none:=Dflts.none hD hdf;obtain rfl:kV=.none:=Dflts.noKw hD;obtain⟨a,vs,ns,rfl,rfl,hobj,hints,hlen⟩:=Att.AIq hn hpre hwl
 have hb:∀z∈ns,Builtin.Int.intBits z<=1048576:=λz hz=>by
  have h1:=layableW_arg hlay _ Aw;have h2:=layableW_item h1 (.int z) (BA.mpr ⟨z,hz,rfl⟩);have h3:=(layableW_iff.mp h2).2.2;simpa only[WData.weight,Builtin.Int.intBits] using h3
 refine enter_call (codeAny_mono (call w s₀ s₁ mg mb fa a vs ns G Y_ hmg hobj hints hlen hb hg) λr s' hq=>?_);obtain⟨rfl,h2,h3,h4⟩:=hq;exact⟨.inl ⟨.bool true,.bool true,[],rfl,λ_=>rfl,.bool true,Att.AIw l _,λ_=>⟨List.Pairwise.nil,λ_ hm=>(nomatch hm)⟩⟩,h2,h3,h4⟩
def Wq{K:AK}{H:Hp}{O:AM6}:∀ns:ANA,AN K H O (ns.map V.int) (ns.map D.int)
 |[]=>.nil
 |n::ns=>.cons (.int n) (Wq ns)
def walk_f{l:PySem.W.OpenLaw}{n k:Nat}{q:Program}{loose:AM4}{XP:(AM3)->Heap->Prop}{YP:World->Heap->Prop}{d:DefRec}{K:Params->AK}{x:Str}{G:GL}
  (hn:l.most=some n) (hn2:n<=sizeLine) (hdf:d.params.defaults=[]) (hr:Room k callerA)
  (hY:∀(w:World) (h:Heap),YP w h->(K w.params).In h)
  (F:∀(w:World) (mg:AM3) (fa:Addr) (h:Heap),(K w.params).In h->h.Ns mainGlobals mg->mg d.name=some (.ref fa) ->
   ∃fd:FuncData,(∀(s:Shared) (u:Value),BindsTo s fd ⟨[u],[]⟩ [(x,u)]) /\
    ∀base:Heap,(K w.params).In base->base.Ns mainGlobals mg->Cc l.prog w (K w.params) mg base CX0 k fa fd [x] (Fg (K w.params) G))
  (hG:∀ns:ANA,ns.length<=n->(∀z∈ns,Builtin.Int.intBits z<=1048576)->∃L',G [.fz (ns.map .int)] []=some (.bl true,L')) :
  PySem.W.WalkO q loose XP YP l.row.toRowW d [] (λf vs=>PySem.call f vs):=by
 refine AG5 hn hdf λw s₀ s₁ mg mb fa a vs ns GG Y_ hmg hobj hints hlen hb hg=>?_;have KX:=hY w _ Y_;obtain⟨fd,hbd,hF⟩:=F w mg fa _ KX GG.T.g hmg;refine AE2 KX GG.T.g GG.T.b GG.T.builtins GG.T.nolimit hg hobj hints (CD hlen hn2) hr hF hbd (λH hO hS=>?_) λH e s' h=>h;obtain⟨L',e⟩:=hG ns hlen hb
 have hS':SqF (K w.params) H a (ns.map V.int):=by
  rcases hS with(h|h)|h
  .rcases hO a with z|⟨o,xs,z⟩
   .rw[h] at z;cases z
   .rw[h] at z;cases z
  .exact .inl h
  .exact .inr h
 exact⟨[],[],[.fz (ns.map .int)],.bl true,L',⟨rfl,ALb,λk a o e=>by simp at e⟩,.cons (.fz hS' (Wq ns)) .nil,e,λw' H' O' st rs is=>by cases is;rfl⟩
section
variable {X:Cx}{a l tg:Expr}{f:EF}{pos:Pos}
abbrev IM:G1:=λx L=>match x with|.int i=>some (.int (-i),L)|_=>none
def AKX(ha:AW X a f):AW X (.UnaryOp .USub a pos) (BD IM f):=PE.weaken (ADJ AAh ha) λY H Q z3_=>by
 obtain⟨O,ρ,L,d,L',r,e,k⟩:=z3_;unfold BD at e;obtain⟨p,e1,e⟩:=bS e;obtain⟨x,L1⟩:=p
 cases x <;> simp only[AS,IM] at e <;> try (cases e;done)
 cases e;refine⟨O,ρ,L,_,_,r,e1,λv H1 O1 st rs is=>?_⟩;cases is;exact⟨_,rfl,k _ _ _ st rs (.int _)⟩
structure Dv (K:AK) (mg:AM3) (x:Str) (d:D):Prop where
 ex:∃v u,mg x=some u/\AY v u/\∀H O,Is K H O v d
def AKe{x:Str}{d:D}(h:Dv X.K X.mg x d)(hg:Gl X x:=by rfl)(hd:(x == ("__debug__":Str))=false:=by decide):AW X (.Name x pos) (AD d):=by obtain⟨v,u,a,b,c⟩:=h.ex;exact AGH a b c hg hd
abbrev JM(d:D)(L:AB):Option LZ:=match d with
 |.tup xs=>some ⟨xs,λ_=>true⟩
 |.fz xs=>some ⟨xs,λ_=>true⟩
 |.ref k=>(match L[k]? with|some (.lst xs)=>some ⟨xs,λL'=>decide (L'[k]?=some (.lst xs))⟩|_=>none)
 |.str y=>some ⟨sgs y,λ_=>true⟩
 |_=>none
abbrev Ba(f:EF):IF:=λρ L=>(f ρ L).bind λx=>(JM x.1 x.2).bind λJ=>some (J,x.2)
def AI4(hl:AW X l f):Dr X tg l (Ba f):=λpins s Y H R I z6_=>by
 obtain⟨O,ρ,L,J,L',r,e,k⟩:=z6_;unfold Ba at e;obtain⟨p,e1,e⟩:=bS e;obtain⟨d,L1⟩:=p;simp only[AS] at e
 cases d <;> simp only[JM,AS,Option.bind_none] at e <;> try (cases e;done)
 .exact AC0 hl pins s Y H R I ⟨O,ρ,L,J,L',r,by simp only[Rs,e1,AS];exact e,k⟩
 .exact ACz hl pins s Y H R I ⟨O,ρ,L,J,L',r,by simp only[Rr,e1,AS];exact e,k⟩
 .exact Ve hl pins s Y H R I ⟨O,ρ,L,J,L',r,by simp only[Nf,e1,AS];exact e,k⟩
 .rename_i kk;refine Ve hl pins s Y H R I ⟨O,ρ,L,J,L',r,?_,k⟩;simp only[Nf,e1,AS]
  cases e2:L1[kk]? with
  |none=>rw[e2] at e;cases e
  |some o=>rw[e2] at e;cases o <;> simp at e ⊢ <;> exact e
end
def ALA:bootBuiltins "int"=some (.type "int"):=by decide +kernel
def AK6:bootBuiltins "str"=some (.type "str"):=by decide +kernel
def ALB:bootBuiltins "bool"=some (.type "bool"):=by decide +kernel
def AGq:bootBuiltins "list"=some (.type "list"):=by decide +kernel
def AK4:bootBuiltins "tuple"=some (.type "tuple"):=by decide +kernel
def AK8:bootBuiltins "len"=some (.builtin "len"):=by decide +kernel
def ALD:bootBuiltins "abs"=some (.builtin "abs"):=by decide +kernel
def AGp:bootBuiltins "min"=some (.builtin "min"):=by decide +kernel
def ALC:bootBuiltins "all"=some (.builtin "all"):=by decide +kernel
def AK9:bootBuiltins "isinstance"=some (.builtin "isinstance"):=by decide +kernel
abbrev BlOk(mg:AM3)(ns:AM4):Prop:=∀x∈ns,mg x=none
def BlOk.get{mg:AM3}{ns:AM4}(h:BlOk mg ns)(x:Str)(hx:x∈ns:=by decide):mg x=none:=h x hx
abbrev BE(p:Program)(i:Nat):Stmt:=p.main.body.getD i (.Pass ⟨0,0,0,0⟩)
abbrev Aj(B:SF)(N:AM4)(n:Nat):GL:=λxs L=>if xs.length=n then
  (match B (Ff N xs) L with
   |some (.ret d L2)=>some (if d.noRef=true/\L2.take L.length=L then (d,L) else (d,L2))
   |some (.next _ L2)=>some (if L2.take L.length=L then (.non,L) else (.non,L2))
   |_=>none)
 else none
def NJ{L L2:AB}(h:L2.take L.length=L):L <+: L2:=⟨L2.drop L.length,by have:=AMS L.length L2;rw[h] at this;exact this⟩
def Qz{B:SF}{N:AM4}{n:Nat}{xs:List D}{L:AB}{d:D}{L':AB}(h:Aj B N n xs L=some (d,L')):Yr B N xs L d L':=by
 unfold Aj at h;split at h
 .split at h
  .rename_i d2 L2 e;split at h
   .rename_i c;cases h;exact⟨L2,.inl e,.inr ⟨rfl,NJ c.2,c.1⟩⟩
   .cases h;exact⟨_,.inl e,.inl rfl⟩
  .rename_i ρ L2 e;split at h
   .rename_i c;cases h;exact⟨L2,.inr ⟨rfl,ρ,e⟩,.inr ⟨rfl,NJ c,rfl⟩⟩
   .cases h;exact⟨_,.inr ⟨rfl,ρ,e⟩,.inl rfl⟩
  .cases h
 .cases h
def RA{B:SF}{N:AM4}{n:Nat}{xs:List D}{L:AB}{r:D×AB}(h:Aj B N n xs L=some r):xs.length=n:=by
 unfold Aj at h;split at h
 .assumption
 .cases h
section
variable {P:Program}{w:World}{K:AK}{mg:AM3}{base:Heap}
def SG{x qual:Str}{st:Stmt}{f:Addr}{fd:FuncData}{N ps:AM4}{k:Nat}{B:SF}(Fn:HN K x qual st f fd)(S:As N ps (Ad st))
  (hb:∀(cdv:Value) (A:Around) (outer:List Env) (s:Shared) (H:Hp) (E:XK),Room k (A.deeper (envOfC qual (Ad st) s.heap.objs.size f cdv)) ->
   Eu (CQ CX0 P w K mg base N qual (Ad st) f cdv A outer s H E).nox (FK st) B)
  (bi:Df K fd ps []) (m:mg x=some (.ref f)) (kp:Fz K (.ref f)=true):Ao P w K mg base (k+1) x (Aj B N ps.length) :=
 ⟨f,fd,ps,SH Fn S _ B (λ_ _ _ h=>RA h) hb (λ_ _ _ _ h=>Qz h),m,kp,bi⟩
structure TupK (K:AK) (u:Value) (d:D):Prop where
 ex:∃v,AY v u/\∀H O,Is K H O v d
def Gx{i:Int}{t:Tok}:TupK K (.int i t) (.int i):=⟨.int i,⟨t,rfl⟩,λ_ _=>.int i⟩
def Dh{x:Str}{t:Tok}(h:x.length<=16777216):TupK K (.str x t) (.str x):=⟨.str x,⟨t,rfl⟩,λ_ _=>.str x h⟩
def AAt:TupK K .none .non:=⟨.non,rfl,λ_ _=>.non⟩
inductive TupsK (K:AK):AM5->List D->Prop
 |nil:TupsK K [] []
 |cons {u:Value} {d:D} {us:AM5} {ds:List D}:TupK K u d->TupsK K us ds->TupsK K (u::us) (d::ds)
def TupsK.get:∀{us:AM5} {ds:List D},TupsK K us ds->∃vs,AX vs us/\∀H O,AN K H O vs ds
 |_,_,.nil=>⟨[],.nil,λ_ _=>.nil⟩
 |_,_,.cons a b=>by
  obtain⟨v,r,i⟩:=a.ex;obtain⟨vs,rs,is⟩:=b.get;exact⟨v::vs,.cons r rs,λH O=>.cons (i H O) (is H O)⟩
def GZ{a:Addr}{od:Option Addr}{its:AM5}{n:Nat}{sl:Array (Option Value)}{ds:List D}(l:K.lookup a=some ⟨.type "tuple",od,.seq its.toArray n,sl⟩)(hz:its.length<=sizeLine)(t:TupsK K its ds):TupK K (.ref a) (.tup ds):=by obtain⟨vs,rv,is⟩:=t.get;exact⟨.ref a,rfl,λH O=>.tup (.inr ⟨_,its.toArray,n,l,rfl,rfl,by simpa using hz,by simpa using rv⟩) (is H O)⟩
def Hg{x:Str}{u:Value}{d:D}(m:mg x=some u)(t:TupK K u d):Dv K mg x d:=by obtain⟨v,r,i⟩:=t.ex;exact⟨v,u,m,r,i⟩
end
def Wb{α:Type}{us:List α}(h:us.length=1):∃a,us=[a]:=List.length_eq_one_iff.mp h
def Rg{α:Type}{us:List α}{n:Nat}(h:us.length=n+1):∃a vs,us=a::vs/\vs.length=n:=by
 cases us with
 |nil=>cases h
 |cons a vs=>exact⟨a,vs,rfl,Nat.succ.inj h⟩
def AEz{α:Type}{us:List α}(h:us.length=0):us=[]:=ALu.mp h
def JK{α:Type}{us:List α}(h:us.length=2):∃a b,us=[a,b]:=by obtain⟨a,vs,rfl,h'⟩:=Rg h;obtain⟨b,rfl⟩:=Wb h';exact⟨a,b,rfl⟩
def HZ{α:Type}{us:List α}(h:us.length=3):∃a b c,us=[a,b,c]:=by obtain⟨a,vs,rfl,h'⟩:=Rg h;obtain⟨b,c,rfl⟩:=JK h';exact⟨a,b,c,rfl⟩
def AEy{α:Type}{us:List α}(h:us.length=4):∃a b c d,us=[a,b,c,d]:=by obtain⟨a,vs,rfl,h'⟩:=Rg h;obtain⟨b,c,d,rfl⟩:=HZ h';exact⟨a,b,c,d,rfl⟩
abbrev DA(x:D)(L:AB):Option (Bool×List D):=match x with
 |.tup xs=>some (true,xs)
 |.fz xs=>some (false,xs)
 |.ref k=>(match L[k]? with|some (.lst xs)=>some (false,xs)|_=>none)
 |_=>none
abbrev Fu:List (Option Bool)->Option Bool
 |[]=>some true
 |none::_=>none
 |some b::r=>(Fu r).map (b&&·)
abbrev Cg:Nat->AB->D->D->Option Bool
 |0,_,_,_=>none
 |n+1,L,x,y =>
  if BC x=true then (if BC y=true then some (JX x y) else (DA y L).map λ_=>false)
  else (DA x L).bind λp=>if BC y=true then some false else (DA y L).bind λq =>
   if p.1=q.1 then (Fu ((p.2.zip q.2).map λz=>Cg n L z.1 z.2)).map (·&&p.2.length == q.2.length) else some false
def SK(n:Nat)(L:AB)(x y:D):Cg (n+1) L x y=if BC x=true then (if BC y=true then some (JX x y) else (DA y L).map λ_=>false)
  else (DA x L).bind λp=>if BC y=true then some false else (DA y L).bind λq =>
   if p.1=q.1 then (Fu ((p.2.zip q.2).map λz=>Cg n L z.1 z.2)).map (·&&p.2.length == q.2.length) else some false:=rfl
def Sd:∀{os:List (Option Bool)} {b:Bool},Fu os=some b->∃bs:List Bool,os=bs.map some/\b=bs.all id
 |[],b,h=>by cases h;exact⟨[],rfl,rfl⟩
 |none::_,b,h=>by cases h
 |some c::r,b,h=>by
  simp only[Fu] at h
  cases e:Fu r with
  |none=>rw[e] at h;cases h
  |some d =>
   rw[e] at h;cases h;obtain⟨bs,e1,e2⟩:=Sd e;exact⟨c::bs,by rw[e1];rfl,by rw[e2];rfl⟩
section
variable {X:Cx}{pins:List (Addr×Obj)}{Y:L2.St}{H:Hp}{s:Shared}{O:AM6}{L:AB}
def Gc(I:AI X pins Y H s)(rs:Al X.K H O L){v:V}{x:D}{t:Bool}{xs:List D}(i:Is X.K H O v x)(e:DA x L=some (t,xs)) :
  ∃(a:Addr) (vs:List V) (its:AM5),v=.ref a/\AN X.K H O vs xs/\AX vs its/\(if t=true then s.heap.IsTuple a its.toArray else s.heap.IsList a its.toArray):=by
 cases i with
 |tup h il =>
  cases e;obtain⟨its,r,hp,_⟩:=I.tuple h;exact⟨_,_,its,rfl,il,r,hp⟩
 |fz h il =>
  cases e;obtain⟨its,r,hp,_⟩:=I.list h.sql;exact⟨_,_,its,rfl,il,r,hp.isList⟩
 |ref hk =>
  simp only[DA] at e;split at e
  .rename_i ys e2;cases e;obtain⟨vs,hv,iv⟩:=rs.ob _ _ _ hk e2;obtain⟨its,r,hp,_⟩:=I.list (BH.of hv);exact⟨_,vs,its,rfl,iv,r,hp.isList⟩
  .cases e
 |_=>cases e
def ABu{a:Addr}{us ws:AM5}{t:Bool}(h1:if t=true then s.heap.IsTuple a us.toArray else s.heap.IsList a us.toArray)(h2:if t=true then s.heap.IsTuple a ws.toArray else s.heap.IsList a ws.toArray):us=ws:=by
 have q:us.toArray=ws.toArray:=by
  cases t
  .obtain⟨o,ho,hc,n,hd⟩:=h1;obtain⟨o2,ho2,hc2,n2,hd2⟩:=h2;rw[ho] at ho2;cases ho2;rw[hd] at hd2;cases hd2;rfl
  .obtain⟨o,ho,hc,n,hd⟩:=h1;obtain⟨o2,ho2,hc2,n2,hd2⟩:=h2;rw[ho] at ho2;cases ho2;rw[hd] at hd2;cases hd2;rfl
 simpa using congrArg Array.toList q
def Xi{v:V}{x:D}{a:Addr}(i:Is X.K H O v x)(f:BC x=true):v≠.ref a:=by cases i <;> first|(intro z;cases z;done)|(simp[BC] at f)
def LG{x:D}(f:BC x=true):JX x x=true:=by
 cases x with
 |non=>rfl
 |bl b=>exact(beq_self_eq_true b:(b == b)=true)
 |int b=>exact(beq_self_eq_true b:(b == b)=true)
 |str b=>exact(beq_self_eq_true b:(b == b)=true)
 |_=>exact GA (show false=true from f)
def Xl(I:AI X pins Y H s)(rs:Al X.K H O L):∀(n:Nat) {v:V} {x y:D} {b:Bool},Is X.K H O v x->Is X.K H O v y->Cg n L x y=some b->b=true
 |0,_,_,_,_,_,_,e=>by cases e
 |n+1,v,x,y,b,ix,iy,e=>by
  simp only[Cg] at e
  by_cases fx:BC x=true
  .rw[if_pos fx] at e
   by_cases fy:BC y=true
   .rw[if_pos fy] at e;cases e;have:x=y:=(IA fx fy).mp ((EL ix fx).symm.trans (EL iy fy));subst this;exact LG fx
   .rw[if_neg fy] at e
    cases hy:DA y L with
    |none=>rw[hy] at e;cases e
    |some q =>
     obtain⟨a,_,_,hv,_⟩:=Gc I rs iy hy;exact absurd hv (Xi ix fx)
  .rw[if_neg fx] at e
   cases hx:DA x L with
   |none=>rw[hx] at e;cases e
   |some p =>
    rw[hx] at e;simp only[AS] at e;obtain⟨a,vs,its,hv,il,r,hp⟩:=Gc I rs ix hx
    by_cases fy:BC y=true
    .exact absurd hv (Xi iy fy)
    .rw[if_neg fy] at e
     cases hy:DA y L with
     |none=>rw[hy] at e;cases e
     |some q =>
      rw[hy] at e;simp only[AS] at e;obtain⟨a',vs',its',hv',il',r',hp'⟩:=Gc I rs iy hy;rw[hv] at hv';cases hv';obtain⟨t,xs⟩:=p;obtain⟨t',ys⟩:=q;simp only at e hp hp' il il'
      by_cases ht:t=t'
      .subst ht;rw[if_pos rfl] at e;have hits:=ABu hp hp';subst hits;have hvs:=r.inj r';subst hvs
       cases q:Fu ((xs.zip ys).map λz=>Cg n L z.1 z.2) with
       |none=>rw[q] at e;cases e
       |some c =>
        rw[q] at e;cases e;obtain⟨bs,e1,rfl⟩:=Sd q;rw[Bn];refine⟨?_,beq_iff_eq.mpr (il.length.symm.trans il'.length)⟩;rw[CF];intro c hc;obtain⟨j,hj,rfl⟩:=AL9 hc;have e2:((xs.zip ys).map λz=>Cg n L z.1 z.2)[j]?=some (some bs[j]):=by rw[e1];simp[hj]
        rw[Ar] at e2
        cases e3:(xs.zip ys)[j]? with
        |none=>rw[e3] at e2;cases e2
        |some z =>
         rw[e3] at e2;simp only[ALv,Option.some.injEq] at e2;rw[List.getElem?_zip_eq_some] at e3;obtain⟨v1,h1,i1⟩:=il.get e3.1;obtain⟨v2,h2,i2⟩:=il'.get e3.2;rw[h1] at h2;cases h2;exact Xl I rs n i1 i2 e2
      .exfalso
       cases t <;> cases t' <;> first|exact ht rfl|skip
       .exact SeqAt.ne_of_list_tuple hp hp' rfl
       .exact SeqAt.ne_of_list_tuple hp' hp rfl
def Xh{A:Around}{v u:V}{a:Addr}{w w':Value}{its:AM5}{t:Bool}(hu:A.units<cLine)(f:Fp v=true)(rv:AY v w)(hp:if t=true then s.heap.IsTuple a its.toArray else s.heap.IsList a its.toArray) :
  SeqAt.EqAt A s w (.ref a) false/\SeqAt.EqAt A s (.ref a) w false:=by
 cases v with
 |non=>cases rv;cases t;exact⟨.none_list hp hu,.list_none hp hu⟩;exact⟨.none_tuple hp hu,.tuple_none hp hu⟩
 |bl b=>cases rv;cases t;exact⟨.bool_list b hp hu,.list_bool b hp hu⟩;exact⟨.bool_tuple b hp hu,.tuple_bool b hp hu⟩
 |int b=>obtain⟨k,rfl⟩:=rv;cases t;exact⟨.int_list b k hp hu,.list_int b k hp hu⟩;exact⟨.int_tuple b k hp hu,.tuple_int b k hp hu⟩
 |str b=>obtain⟨k,rfl⟩:=rv;cases t;exact⟨.str_list b k hp hu,.list_str b k hp hu⟩;exact⟨.str_tuple b k hp hu,.tuple_str b k hp hu⟩
 |_=>cases f
def Yi(bs:List Bool):(List.range bs.length).all (λj=>bs.getD j false)=bs.all id:=by
 rw[AL0,CF,CF];constructor
 .intro h c hc;obtain⟨j,hj,rfl⟩:=AL9 hc;have:=h j (CM.mpr hj);simpa[hj] using this
 .intro h j hj;have hj':=CM.mp hj;have:=h bs[j] (List.getElem_mem hj');simpa[hj'] using this
def ADk{A:Around}{xs ys:List D}{vs ws:List V}{us zs:AM5}{n:Nat}{bs:List Bool}(ix:AN X.K H O vs xs)(iy:AN X.K H O ws ys)(rx:AX vs us)(ry:AX ws zs)
  (e1:(xs.zip ys).map (λz=>Cg n L z.1 z.2)=bs.map some)
  (rec:∀{v w:V} {x y:D} {u z:Value} {b:Bool},Is X.K H O v x->Is X.K H O w y->AY v u->AY w z->Cg n L x y=some b->SeqAt.EqAt A s u z b) :
  ∀j (h1:j<us.toArray.size) (h2:j<zs.toArray.size),SeqAt.EqAt A s us.toArray[j] zs.toArray[j] (bs.getD j false):=by
 intro j h1 h2;have h1':j<us.length:=by simpa using h1
 have h2':j<zs.length:=by simpa using h2
 have hx:j<xs.length:=by rw[<-ix.length,rx.length];exact h1'
 have hy:j<ys.length:=by rw[<-iy.length,ry.length];exact h2'
 obtain⟨v,hv,iv⟩:=ix.get (i:=j) (d:=xs[j]) (by simp[hx]);obtain⟨w,hw,iw⟩:=iy.get (i:=j) (d:=ys[j]) (by simp[hy]);obtain⟨u,hu,ru⟩:=rx.get hv;obtain⟨z,hz,rz⟩:=ry.get hw
 have eu:us.toArray[j]=u:=by have:=Ay.mp hu;obtain⟨_,q⟩:=this;simpa using q
 have ez:zs.toArray[j]=z:=by have:=Ay.mp hz;obtain⟨_,q⟩:=this;simpa using q
 rw[eu,ez]
 have hb:j<bs.length:=by have:=congrArg List.length e1;simp at this;omega
 have e2:((xs.zip ys).map λz=>Cg n L z.1 z.2)[j]?=some (some bs[j]):=by rw[e1];simp[hb]
 have e3:(xs.zip ys)[j]?=some (xs[j],ys[j]):=by rw[List.getElem?_zip_eq_some];exact⟨by simp[hx],by simp[hy]⟩
 rw[Ar,e3] at e2;simp only[ALv,Option.some.injEq] at e2;have e4:bs.getD j false=bs[j]:=by simp[hb]
 rw[e4];exact rec iv iw ru rz e2
def Qx{A:Around}{a c:Addr}{xs ys:List D}{vs ws:List V}{us zs:AM5}{n:Nat}{t b:Bool}(hu:A.units<cLine)(ix:AN X.K H O vs xs)(iy:AN X.K H O ws ys)(rx:AX vs us)(ry:AX ws zs)
  (hp:if t=true then s.heap.IsTuple a us.toArray else s.heap.IsList a us.toArray) (hq:if t=true then s.heap.IsTuple c zs.toArray else s.heap.IsList c zs.toArray)
  (e:(Fu ((xs.zip ys).map λz=>Cg n L z.1 z.2)).map (·&&xs.length == ys.length)=some b)
  (rec:∀{v w:V} {x y:D} {u z:Value} {b:Bool},Is X.K H O v x->Is X.K H O w y->AY v u->AY w z->Cg n L x y=some b->SeqAt.EqAt A.in1 s u z b) :
  SeqAt.RcAt A s (.ref a) (.ref c) b/\SeqAt.RcNeAt A s (.ref a) (.ref c) (!b):=by
 cases q:Fu ((xs.zip ys).map λz=>Cg n L z.1 z.2) with
 |none=>rw[q] at e;cases e
 |some k =>
  rw[q] at e;cases e;obtain⟨bs,e1,rfl⟩:=Sd q;have he:=ADk ix iy rx ry e1 rec;have lx:us.toArray.size=xs.length:=by simp[<-rx.length,ix.length]
  have ly:zs.toArray.size=ys.length:=by simp[<-ry.length,iy.length]
  have lb:bs.length=min xs.length ys.length:=by have:=congrArg List.length e1;simpa using this.symm
  cases t
  .by_cases hl:xs.length=ys.length
   .have h1:=SeqAt.RcAt.lists hp hq (by omega) hu he;have h2:=SeqAt.RcNeAt.lists hp hq (by omega) hu he;rw[show us.toArray.size=bs.length by omega,Yi] at h1 h2;have:(xs.length == ys.length)=true:=beq_iff_eq.mpr hl;rw[this];simp only[Bool.and_true];exact⟨h1,h2⟩
   .have:(xs.length == ys.length)=false:=by simpa using hl
    rw[this];simp only[Bool.and_false];have hne:(us.toArray.size != zs.toArray.size)=true:=by rw[lx,ly];simpa using hl
    exact⟨SeqAt.RcAt.lists_lengths hp hq hne hu,SeqAt.RcNeAt.lists_lengths hp hq hne hu⟩
  .have h1:=SeqAt.RcAt.tuples hp hq hu he;have h2:=SeqAt.RcNeAt.tuples hp hq hu he;rw[lx,ly,<-lb,Yi] at h1 h2;exact⟨h1,h2⟩
def SL(I:AI X pins Y H s)(rs:Al X.K H O L):∀(n:Nat) {A:Around} {v w:V} {x y:D} {u z:Value} {b:Bool},A.units+n<cLine->Is X.K H O v x->Is X.K H O w y->AY v u->AY w z->Cg n L x y=some b->SeqAt.EqAt A s u z b
 |0,_,_,_,_,_,_,_,_,_,_,_,_,_,e=>by cases e
 |n+1,A,v,w,x,y,u,z,b,hu,ix,iy,ru,rz,e=>by
  have e0:=e;simp only[Cg] at e
  by_cases fx:BC x=true
  .rw[if_pos fx] at e
   by_cases fy:BC y=true
   .rw[if_pos fy] at e;cases e;have h1:=EL ix fx;have h2:=EL iy fy;subst h1 h2;exact Xn ru rz (JW fx) (JW fy)
   .rw[if_neg fy] at e
    cases hy:DA y L with
    |none=>rw[hy] at e;cases e
    |some q =>
     rw[hy] at e;cases e;obtain⟨a,_,its,rfl,_,_,hp⟩:=Gc I rs iy hy;cases rz;have h1:=EL ix fx;subst h1;exact(Xh (u:=.non) (w':=.none) (by omega) (JW fx) ru hp).1
  .rw[if_neg fx] at e;obtain⟨p,hx,e⟩:=bS e;obtain⟨a,vs,its,rfl,il,r,hp⟩:=Gc I rs ix hx;cases ru
   by_cases fy:BC y=true
   .rw[if_pos fy] at e;cases e;have h1:=EL iy fy;subst h1;exact(Xh (u:=.non) (w':=.none) (by omega) (JW fy) rz hp).2
   .rw[if_neg fy] at e;obtain⟨q,hy,e⟩:=bS e;obtain⟨c,ws,zs,rfl,il',r',hp'⟩:=Gc I rs iy hy;cases rz;obtain⟨t,xs⟩:=p;obtain⟨t',ys⟩:=q;simp only at e hp hp' il il'
    by_cases ht:t=t'
    .subst ht;rw[if_pos rfl] at e
     by_cases hac:a=c
     .subst hac;have:=Xl I rs (n+1) ix iy e0;subst this;exact .same _
     .refine .of_refs hac (Qx (by omega) il il' r r' hp hp' e λa1 a2 a3 a4 a5=>SL I rs n ?_ a1 a2 a3 a4 a5).1;rw[Around.in1_units];omega
    .rw[if_neg ht] at e;cases e
     cases t <;> cases t' <;> first|exact absurd rfl ht|skip
     .exact .list_tuple hp hp' (by omega)
     .exact .tuple_list hp hp' (by omega)
end
abbrev HU(x:D)(L:AB):Bool:=(DA x L).isSome
abbrev IQ:G2:=λx y L=>if Eg x y=true then some (.bl (decide (x=y)),L) else if (HU x L&&HU y L)=true then (Cg 30 L x y).map λb=>(.bl b,L) else none
abbrev Ek:G2:=λx y L=>if Eg x y=true then some (.bl (!decide (x=y)),L) else if (HU x L&&HU y L)=true then (match DA x L,DA y L with
  |some (t,_),some (t',_)=>if t=t' then (Cg 30 L x y).map λb=>(.bl (!b),L) else none
  |_,_=>none) else none
section
variable {X:Cx}
def NC{x:D}{L:AB}{p:Bool×List D}(h:DA x L=some p):BC x=false:=by cases x <;> first|rfl|(simp[DA] at h)
def AGA(hu:X.A.units+64<cLine):Ap X (compareOp .Eq) (λv u H Q=>∃O L x y b,Al X.K H O L/\Is X.K H O v x/\Is X.K H O u y/\HU x L=true/\HU y L=true/\Cg 30 L x y=some b/\Q (.bl b) H):=by
 intro pins s Y H v u w z Q I rv ru h;obtain⟨O,L,x,y,b,rs,ix,iy,sx,sy,e,q⟩:=h;unfold HU at sx sy;obtain⟨⟨t,xs⟩,hx⟩:=AMN.mp sx;obtain⟨⟨t',ys⟩,hy⟩:=AMN.mp sy;have fx:=NC hx;have fy:=NC hy;rw[show(30:Nat)=29+1 from rfl,SK,if_neg (by rw[fx];exact Bz),hx,AS,if_neg (by rw[fy];exact Bz),hy,AS] at e;obtain⟨a,vs,its,rfl,il,r,hp⟩:=Gc I rs ix hx;obtain⟨c,ws,zs,rfl,il',r',hp'⟩:=Gc I rs iy hy;cases rv;cases ru;simp only at e
 by_cases ht:t=t'
 .subst ht;rw[if_pos rfl] at e;exact(Qx (by omega) il il' r r' hp hp' e λa1 a2 a3 a4 a5=>SL I rs 29 (by rw[Around.in1_units];omega) a1 a2 a3 a4 a5).1 _ _ _ _ ⟨.bl b,H,I,rfl,q⟩
 .rw[if_neg ht] at e;cases e
  cases t <;> cases t' <;> first|exact absurd rfl ht|skip
  .exact SeqAt.RcAt.list_tuple hp hp' (by omega) _ _ _ _ ⟨.bl _,H,I,rfl,q⟩
  .exact SeqAt.RcAt.tuple_list hp hp' (by omega) _ _ _ _ ⟨.bl _,H,I,rfl,q⟩
def AEI(hu:X.A.units+64<cLine):Ap X (compareOp .NotEq) (λv u H Q=>∃O L x y b t xs ys,Al X.K H O L/\Is X.K H O v x/\Is X.K H O u y/\DA x L=some (t,xs)/\DA y L=some (t,ys)/\Cg 30 L x y=some b/\Q (.bl (!b)) H):=by intro pins s Y H v u w z Q I rv ru h;obtain⟨O,L,x,y,b,t,xs,ys,rs,ix,iy,hx,hy,e,q⟩:=h;have fx:=NC hx;have fy:=NC hy;rw[show(30:Nat)=29+1 from rfl,SK,if_neg (by rw[fx];exact Bz),hx,AS,if_neg (by rw[fy];exact Bz),hy,AS] at e;obtain⟨a,vs,its,rfl,il,r,hp⟩:=Gc I rs ix hx;obtain⟨c,ws,zs,rfl,il',r',hp'⟩:=Gc I rs iy hy;cases rv;cases ru;rw[if_pos rfl] at e;exact(Qx (by omega) il il' r r' hp hp' e λa1 a2 a3 a4 a5=>SL I rs 29 (by rw[Around.in1_units];omega) a1 a2 a3 a4 a5).2 _ _ _ _ ⟨.bl _,H,I,rfl,q⟩
def AJN(hu:X.A.units+64<cLine):Ci X (compareOp .Eq) IQ:=Ap.weaken (Ap.or Vr (AGA hu)) λv u H Q z4_=>by
 obtain⟨O,L,x,y,d,L',rs,ix,iy,e,k⟩:=z4_;unfold IQ at e;split at e
 .rename_i hs;cases e;have hs':=hs;simp only[Eg,Bn] at hs;have h1:=EL ix hs.1.1;have h2:=EL iy hs.1.2;subst h1 h2;refine .inl ⟨hs.2,?_⟩;have:=k (.bl (decide (x=y))) _ _ (.refl _ _) rs (.bl _)
  have e:decide (Cy x=Cy y)=decide (x=y):=by
   by_cases h:x=y
   .rw[decide_eq_true h,decide_eq_true ((IA hs.1.1 hs.1.2).mpr h)]
   .rw[decide_eq_false h,decide_eq_false (λz=>h ((IA hs.1.1 hs.1.2).mp z))]
  rw[e];exact this
 .split at e
  .rename_i hq;rw[Bn] at hq
   cases q:Cg 30 L x y with
   |none=>rw[q] at e;cases e
   |some b =>
    rw[q] at e;cases e;exact .inr ⟨O,L,x,y,b,rs,ix,iy,hq.1,hq.2,q,k _ _ _ (.refl _ _) rs (.bl _)⟩
  .cases e
def AJB(hu:X.A.units+64<cLine):Ci X (compareOp .NotEq) Ek:=Ap.weaken (Ap.or Vq (AEI hu)) λv u H Q z4_=>by
 obtain⟨O,L,x,y,d,L',rs,ix,iy,e,k⟩:=z4_;unfold Ek at e;split at e
 .rename_i hs;cases e;simp only[Eg,Bn] at hs;have h1:=EL ix hs.1.1;have h2:=EL iy hs.1.2;subst h1 h2;refine .inl ⟨hs.2,?_⟩;have:=k (.bl (!decide (x=y))) _ _ (.refl _ _) rs (.bl _)
  have e:decide (Cy x=Cy y)=decide (x=y):=by
   by_cases h:x=y
   .rw[decide_eq_true h,decide_eq_true ((IA hs.1.1 hs.1.2).mpr h)]
   .rw[decide_eq_false h,decide_eq_false (λz=>h ((IA hs.1.1 hs.1.2).mp z))]
  rw[e];exact this
 .split at e
  .split at e
   .rename_i t xs t' ys hx hy;split at e
    .rename_i ht;subst ht
     cases q:Cg 30 L x y with
     |none=>rw[q] at e;cases e
     |some b =>
      rw[q] at e;cases e;exact .inr ⟨O,L,x,y,b,t,xs,ys,rs,ix,iy,hx,hy,q,k _ _ _ (.refl _ _) rs (.bl _)⟩
    .cases e
   .cases e
  .cases e
end
abbrev RW:SF:=λ_ _=>none
def AIg{X:Cx}{st:Stmt}:Dc X st RW:=PS.weaken ACi λD Y H z3_=>by obtain⟨O,ρ,L,out,r,e,k⟩:=z3_;cases e
def fnd_none{P:Program}{w:World}{K:AK}{mg:AM3}{base:Heap}{k:Nat}{x:Str}{f:Addr}{fd:FuncData}{ps:AM4}(bi:Df K fd ps [])(m:mg x=some (.ref f))(kp:Fz K (.ref f)=true):Ao P w K mg base k x (λ_ _=>none) :=
 ⟨f,fd,ps,⟨(λvs H Q E h=>by obtain⟨_,_,_,_,_,_,_,e,_⟩:=h;cases e),(λA outer s H args us vs Q E _ _ _ _ h=>by obtain⟨_,_,_,_,_,_,_,e,_⟩:=h;cases e)⟩,m,kp,bi⟩
abbrev JT(o i v:D)(L:AB):Option AB:=match o,i with
 |.ref k,.int j=>(match L[k]? with|some (.lst xs)=>(match ixN xs.length j with|some n=>some (L.set k (.lst (xs.set n v)))|none=>none)|_=>none)
 |_,_=>none
abbrev CH(fo fi fv:EF):SF:=λρ L=>(fv ρ L).bind λv=>(fo ρ v.2).bind λo=>(fi ρ o.2).bind λi=>(JT o.1 i.1 v.1 i.2).bind λL'=>some (.next ρ L')
section
variable {X:Cx}{a b c o i e:Expr}{fa fb fc fo fi fv:EF}{pos:Pos}
def AIf{p2:Pos}(ho:AW X o fo)(hi:AW X i fi)(he:AW X e fv)(hs:swapsWithSole [.Subscript o i p2] e pos.line X.env=pure false:=by rfl)(hw:swappedStores [.Subscript o i p2] e X.env=pure none:=by rfl)
  (h1:(assignEach [.Subscript o i p2] X.env).map (·.2)=[assign (.Subscript o i p2) X.env]:=by rfl)
  (ha:∀v,assign (.Subscript o i p2) X.env v=(do
   let ov <-holding [v] (eval o X.env)
   let iv <-holding [v,ov] (eval i X.env)
   standAt p2
   holding [v,ov,iv] (setItem ov iv v)
   release [v,ov,iv] []):=by intro _;rfl):Dc X (.Assign [.Subscript o i p2] e pos) (CH fo fi fv) :=
 PS.weaken (RF he (Vg ho hi ABo ha) hs hw h1) λD Y H z3_=>by
  obtain⟨O,ρ,L,out,r,ee,k⟩:=z3_;unfold CH at ee;obtain⟨p,e1,ee⟩:=bS ee;obtain⟨q,e2,ee⟩:=bS ee;obtain⟨w,e3,ee⟩:=bS ee
  cases e4:JT q.1 w.1 p.1 w.2 with
  |none=>rw[e4] at ee;cases ee
  |some L' =>
   rw[e4] at ee;cases ee;refine⟨O,ρ,L,p.1,p.2,r,e1,λv H1 O1 st1 rs1 is1=>⟨O1,ρ,p.2,q.1,q.2,r.to st1 rs1,e2,λov H2 O2 st2 rs2 is2=>⟨O2,ρ,q.2,w.1,w.2,r.to (st1.trans st2) rs2,e3,λiv H3 O3 st3 rs3 is3=>?_⟩⟩⟩;have isv:=(is1.mono st2).mono st3;have iso:=is2.mono st3;unfold JT at e4;split at e4
   .rename_i kk jj hk hj;rw[hk] at iso;rw[hj] at is3;cases is3
    cases iso with|@ref _ pa hka =>
     split at e4
     .rename_i xs hx;split at e4
      .rename_i n hn;cases e4;obtain⟨vs,hv,il⟩:=rs3.ob _ _ _ hka hx;refine⟨pa,vs,_,n,rfl,rfl,hv,by rw[il.length];exact hn,?_⟩;have st4:Ai H3 O3 (upd H3 pa (.lst (vs.set n v))) O3:=⟨.write hv id,AR _⟩;have stA:=((st1.trans st2).trans st3).trans st4;exact k _ _ _ stA ⟨rs3.write (o':=.lst (xs.set n p.1)) hka ⟨_,Bu,(il.mono st4).set (isv.mono st4) n⟩,r.f.mono stA⟩
      .cases e4
     .cases e4
   .cases e4
end
end L3
set_option maxHeartbeats 4000000
namespace HT
open PySem PySem.Spec PyProof.Rows
section
variable {prog:Program}{w:World}{A:Around}{E:ANB}
def Xt{it t:Addr}{items:Array Value}(hne:t≠it):∀(n i:Nat) (s:Shared) (Q:AM5->Shared->Prop),s.heap.IsListIter it t i->s.heap.IsList t items->i+n<=items.size ->
  (∀h',Heap.IsListIter h' it t (i+n)->Heap.SameBut it s.heap h'->Q ((items.toList.drop i).take n) {s with heap:=h'})->wpAny (model prog w) A (draw (.ref it) n) Q E s
 |0,i,s,Q,hit,_,_,hQ=>by
  show wpAny _ _ (pure []) Q E s;exact AM (by simpa using hQ s.heap hit (Heap.SameBut.refl ..))
 |n+1,i,s,Q,hit,ht,hle,hQ=>by
  have hlt:i<items.size:=by omega
  show wpAny _ _ (pyNext (.ref it) >>= _) Q E s;refine AG (wpAny_pyNext_list_item hit ht (x:=items[i]) (by simp[hlt]) λh₁ hit₁ hs₁=>?_);refine AG (Ck (Xt hne n (i+1) _ _ hit₁ (ht.extBut hs₁.extBut hne) (by omega) λh₂ hit₂ hs₂=>AM ?_));have hd:items.toList.drop i=items[i]::items.toList.drop (i+1):=by simp[AMA,hlt]
  have:=hQ h₂ (by rw[show i+(n+1)=i+1+n by omega];exact hit₂) (hs₁.trans hs₂);rw[hd,List.take_succ_cons] at this;exact this
variable {s:Shared}
def AAg{t:Addr}{items:Array Value}{Q:AM5->Shared->Prop}(hh:A.handled=none)(ht:s.heap.IsList t items)
  (hQ:∀h',Heap.ExtBut s.heap.objs.size s.heap h'->Q items.toList {s with heap:=h'}):wpAny (model prog w) A (unpackItems (.ref t) items.size none) Q E s:=by
 have hlt:t≠s.heap.objs.size:=by obtain⟨o,ho,_⟩:=ht;exact BQ (Heap.lt_size ho)
 have htp:∀ob,Heap.IsList (s.heap.push ob) t items:=λob=>let ⟨o,ho,r⟩:=ht;⟨o,Heap.get?_push_of_some _ ho,r⟩;unfold unpackItems;refine AG ?_
 .unfold notIterableAtAll;refine AG (AMn ht.typeIs slot_list_iter.lookup ?_);refine AM ?_;simp only[ALc,if_false];refine AG (Ck (AMs ht ?_));refine AG (Ck (Xt hlt items.size 0 _ _ ⟨_,Heap.get?_push_size _ rfl,rfl,rfl⟩ (htp _) (by omega) λh₁ hit₁ hs₁=>?_))
  have hall:List.take items.size (List.drop 0 items.toList)=items.toList:=by rw[AMC];exact AMD (by simp)
  rw[hall];rw[if_neg (by simp)];have ht₁:Heap.IsList h₁ t items:=(htp _).extBut hs₁.extBut hlt;refine AG (Ck (wpAny_pyNext_list_end hh hit₁ ht₁ (by simp) λh₂ he₂=>?_));simp only[Option.isSome_none,ALc,if_false];refine AM (hQ h₂ λb o hb e=>he₂ b o hb (hs₁.extBut b o hb (Heap.get?_push_of_some _ e)))
def ALN{env:Env}{elts:AM7}{x1}{pos:Pos}{t:Addr}{items:Array Value}{Q:Unit->Shared->Prop}(hh:A.handled=none)(ht:s.heap.IsList t items)
  (hn:(assignEach elts env).length=items.size) (hstar:(assignEach elts env).findIdx? (·.1)=none)
  (h:∀h',Heap.ExtBut s.heap.objs.size s.heap h'->wpAny (model prog w) A (assignInOrder ((assignEach elts env).map (·.2)) items.toList) Q E {s with heap:=h'}) :
  wpAny (model prog w) A (assign (.Tuple elts x1 pos) env (.ref t)) Q E s:=by
 rw[assign_Tuple];refine AG (wpAny_standAt ?_);unfold unpack;rw[hn,hstar];exact AG (Ck (AAg hh ht h))
end
end HT
namespace L2
open PySem PySem.Spec PyProof.Rows
section
variable {X:Cx}{pos:Pos}
abbrev AFr(K:AK)(n:Nat)(t:GN):TG:=λv Y H Q=>∃a xs,v=.ref a/\BH K H a xs/\xs.length=n/\t xs Y H Q
def ADG{es:AM7}{k:Nat}{t:GN}{n:Nat}(hc:X.calm=true)(h:GP X es t)
  (hn:(assignEach es X.env).length=n:=by rfl) (hst:(assignEach es X.env).findIdx? (·.1)=none:=by rfl):PG X (.Tuple es k pos) (AFr X.K n t):=by
 intro pins s Y H v u Q I r hw;obtain⟨a,xs,e1,hq,hl,hw⟩:=hw;subst e1;cases r;obtain⟨its,rv,ht,hz⟩:=I.list hq;refine HT.ALN (I.ok.hd hc) ht.isList (by simp[hn,<-hl,rv.length]) hst λh' hx=>?_;have I1:AI X pins Y H {s with heap:=h'}:=I.kept (t':=s.toks) λb o e=>hx b o (BQ (Heap.lt_size e)) e;exact h pins _ Y H xs _ Q I1 (by simpa using rv) hw
def PG.or{tg:Expr}{t t':TG}(h:PG X tg t)(h':PG X tg t'):PG X tg (λv Y H Q=>t v Y H Q\/t' v Y H Q):=by
 intro pins s Y H v u Q I r q;rcases q with q|q
 .exact h pins s Y H v u Q I r q
 .exact h' pins s Y H v u Q I r q
end
end L2
namespace L3
open PySem PySem.Spec PyProof.Rows L2
abbrev IY(f:EF)(n:Nat)(gs:EY):SF:=λρ L=>(f ρ L).bind λx=>(CW x.1 x.2).bind λds=>if ds.length=n then (gs ds ρ).bind λρ'=>some (.next ρ' x.2) else none
def AIp{X:Cx}{es:AM7}{k n:Nat}{e:Expr}{f:EF}{gs:EY}{pos p2:Pos}(hc:X.calm=true)(he:AW X e f)(hg:Jh X es gs)
  (hn:(assignEach es X.env).length=n:=by rfl) (hst:(assignEach es X.env).findIdx? (·.1)=none:=by rfl)
  (hs:swapsWithSole [.Tuple es k p2] e pos.line X.env=pure false:=by rfl) (hw:swappedStores [.Tuple es k p2] e X.env=pure none:=by rfl)
  (h1:(assignEach [.Tuple es k p2] X.env).map (·.2)=[assign (.Tuple es k p2) X.env]:=by rfl):Dc X (.Assign [.Tuple es k p2] e pos) (IY f n gs) :=
 PS.weaken (RF he (PG.or (Vf hc hg hn hst) (ADG hc hg hn hst)) hs hw h1) λD Y H z3_=>by
  obtain⟨O,ρ,L,out,r,ee,kk⟩:=z3_;unfold IY at ee;obtain⟨p,e1,ee⟩:=bS ee;obtain⟨ds,e2,ee⟩:=bS ee;split at ee
  .rename_i hl
   cases e3:gs ds ρ with
   |none=>rw[e3] at ee;cases ee
   |some ρ' =>
    rw[e3] at ee;cases ee;refine⟨O,ρ,L,p.1,p.2,r,e1,λv H1 O1 st1 rs1 is1=>?_⟩;obtain⟨a,vs,rfl,hq,il⟩:=Iw rs1 is1 e2;have g:WY X.K gs vs Y H1 (λY' H'=>D.nx Y' H'):=⟨O1,ρ,p.2,ds,ρ',r.to st1 rs1,il,e3,λY' rp=>kk Y' H1 O1 st1 rp⟩;rcases hq with hq|hq
    .exact .inr ⟨a,vs,rfl,hq,by rw[il.length];exact hl,g⟩
    .exact .inl ⟨a,vs,rfl,hq,by rw[il.length];exact hl,g⟩
  .cases ee
abbrev EI(f:Str)(v:D):List (Str×D)->List (Str×D)
 |[]=>[(f,v)]
 |(g,x)::r=>if g=f then (g,v)::r else (g,x)::EI f v r
section
variable {K:AK}{H:Hp}{O:AM6}
def Re{f:Str}{d:D}:∀{us:List (Str×V)} {fs:List (Str×D)},us.map (·.1)=fs.map (·.1)->AN K H O (us.map (·.2)) (fs.map (·.2))->fs.lookup f=some d->∃v,us.lookup f=some v/\Is K H O v d
 |[],[],_,_,h=>by cases h
 |[],_::_,h,_,_=>by cases h
 |_::_,[],h,_,_=>by cases h
 |(g,u)::us,(g',x)::fs,hk,hi,hl=>by
  simp only[Ak,List.cons.injEq] at hk;obtain⟨rfl,hk⟩:=hk
  cases hi with
  |cons a b =>
   by_cases e:f=g
   .subst e;simp only[FY,beq_self_eq_true,Option.some.injEq] at hl;subst hl;exact⟨u,by simp[FY],a⟩
   .have hb:(f == g)=false:=beq_eq_false_iff_ne.mpr e;simp only[FY,hb] at hl;obtain⟨v,h1,h2⟩:=Re hk b hl;exact⟨v,by simp only[FY,hb];exact h1,h2⟩
def RE{f:Str}{v:V}{d:D}(iv:Is K H O v d):∀{us:List (Str×V)} {fs:List (Str×D)},us.map (·.1)=fs.map (·.1)->AN K H O (us.map (·.2)) (fs.map (·.2)) ->
  (L2.CH f v us).map (·.1)=(EI f d fs).map (·.1)/\AN K H O ((L2.CH f v us).map (·.2)) ((EI f d fs).map (·.2))
 |[],[],_,_=>⟨rfl,.cons iv .nil⟩
 |[],_::_,h,_=>by cases h
 |_::_,[],h,_=>by cases h
 |(g,u)::us,(g',x)::fs,hk,hi=>by
  simp only[Ak,List.cons.injEq] at hk;obtain⟨rfl,hk⟩:=hk
  cases hi with
  |cons a b =>
   obtain⟨h1,h2⟩:=RE iv hk b;unfold L2.CH EI
   by_cases e:g=f
   .rw[if_pos e,if_pos e];exact⟨by simp[hk],.cons iv b⟩
   .rw[if_neg e,if_neg e];exact⟨by simp[h1],.cons a h2⟩
end
structure Cj (K:AK) (c f:Str):Prop where
 ok:∀C,FU K c C->Cls K C/\Hw K C f
abbrev BJ(cs:AM4)(f:Str):G1:=λx L=>match x with
 |.ref k=>(match L[k]? with|some (.ins c fs)=>if c∈cs then (fs.lookup f).bind λd=>some (d,L) else none|_=>none)
 |_=>none
section
variable {X:Cx}{o e:Expr}{fo fe:EF}{f:Str}{cs:AM4}{pos pos':Pos}
def AKf(he:AW X o fo)(hc:∀c∈cs,Cj X.K c f)(hb:attributeBase o f X.env (eval o X.env)=eval o X.env:=by rfl):AW X (.Attribute o f pos) (BD (BJ cs f) fo) :=
 PE.weaken (ADY he hb) λY H Q z3_=>by
  obtain⟨O,ρ,L,d,L',r,e,k⟩:=z3_;unfold BD at e;obtain⟨p,e1,e⟩:=bS e;obtain⟨x,L1⟩:=p;simp only[AS,BJ] at e;refine⟨O,ρ,L,x,L1,r,e1,λv H1 O1 st rs is=>?_⟩
  cases is <;> try (cases e;done)
  rename_i kk a hk;simp only at e
  cases e2:L1[kk]? with
  |none=>rw[e2] at e;cases e
  |some ob =>
   rw[e2] at e
   cases ob with
   |lst _=>cases e
   |dk _=>cases e
   |dt _ _=>cases e
   |exn _=>cases e
   |ins c fs =>
    simp only at e;split at e
    .rename_i hcm;obtain⟨C,dx,us,hC,hH,hk1,hi⟩:=rs.ob _ _ _ hk e2;obtain⟨d0,e3,e⟩:=bS e;cases e;obtain⟨v',hv',iv⟩:=Re hk1 hi e3;obtain⟨h1,h2⟩:=(hc c hcm).ok C hC;exact⟨a,C,dx,us,v',rfl,hH,h1,h2,hv',k _ _ _ st rs iv⟩
    .cases e
abbrev Kj(cs:AM4)(f:Str)(x v:D)(L:AB):Option AB:=match x with
 |.ref k=>(match L[k]? with|some (.ins c fs)=>if c∈cs/\fs.length<1000 then some (L.set k (.ins c (EI f v fs))) else none|_=>none)
 |_=>none
abbrev Fh(cs:AM4)(f:Str)(fo fv:EF):SF:=λρ L=>(fv ρ L).bind λv=>(fo ρ v.2).bind λx=>(Kj cs f x.1 v.1 x.2).bind λL'=>some (.next ρ L')
def AIe(ho:AW X o fo)(he:AW X e fe)(hc:∀c∈cs,Cj X.K c f)(hs:swapsWith e (some (.Attribute o f pos')) pos.line X.env=pure false:=by rfl):Dc X (.Assign [.Attribute o f pos'] e pos) (Fh cs f fo fe) :=
 PS.weaken (ACm ho he hs) λD Y H z3_=>by
  obtain⟨O,ρ,L,out,r,e,k⟩:=z3_;unfold Fh at e
  cases e1:fe ρ L with
  |none=>rw[e1] at e;cases e
  |some p =>
   rw[e1] at e;simp only[AS] at e
   cases e2:fo ρ p.2 with
   |none=>rw[e2] at e;cases e
   |some q =>
    rw[e2] at e;simp only[AS] at e;obtain⟨x,L2⟩:=q;refine⟨O,ρ,L,p.1,p.2,r,e1,λy H1 O1 st1 rs1 is1=>?_⟩;refine⟨O1,ρ,p.2,x,L2,r.to st1 rs1,e2,λv H2 O2 st2 rs2 is2=>?_⟩
    cases is2 <;> try (cases e;done)
    rename_i kk a hk;simp only[Kj] at e
    cases e3:L2[kk]? with
    |none=>rw[e3] at e;cases e
    |some ob =>
     rw[e3] at e
     cases ob with
     |lst _=>cases e
     |dk _=>cases e
     |dt _ _=>cases e
     |exn _=>cases e
     |ins c fs =>
      simp only at e;split at e
      .rename_i hcm;simp only[AS] at e;cases e;obtain⟨C,dx,us,hC,hH,hk1,hi⟩:=rs2.ob _ _ _ hk e3;obtain⟨h1,h2⟩:=(hc c hcm.1).ok C hC
       have hlen:us.length<1000:=by have:=congrArg List.length hk1;simp at this;rw[this];exact hcm.2
       refine⟨a,C,dx,us,rfl,hH,h1,h2,hlen,?_⟩;have st3:Ai H2 O2 (upd H2 a (.ins C dx (_root_.L2.CH f y us))) O2:=⟨.write hH id,AR _⟩;obtain⟨g1,g2⟩:=RE ((is1.mono st2).mono st3) hk1 (hi.mono st3);exact k Y _ O2 ((st1.trans st2).trans st3) (r.to ((st1.trans st2).trans st3) (rs2.write hk ⟨C,dx,_,hC,Bu,g1,g2⟩))
      .cases e
abbrev LR(cs:AM4)(f:Str)(g:Int->Int->Int)(fo fv:EF):SF:=λρ L=>(fo ρ L).bind λx=>match x.1 with
 |.ref k=>(match x.2[k]? with
  |some (.ins c fs)=>if c∈cs then (match fs.lookup f with
   |some (.int i)=>(fv ρ x.2).bind λy=>(match y.1 with
    |.int j=>(match y.2[k]? with
     |some (.ins c' fs')=>if c'=c/\fs'.length<1000 then some (.next ρ (y.2.set k (.ins c (EI f (.int (g i j)) fs')))) else none
     |_=>none)
    |_=>none)
   |_=>none) else none
  |_=>none)
 |_=>none
def AIn{op:Operator}{g:Int->Int->Int}(ho:AW X o fo)(he:AW X e fe)(hc:∀c∈cs,Cj X.K c f)(hop:OL X op λx y H Q=>∃i j,x=.int i/\y=.int j/\Q (.int (g i j)) H):Dc X (.AugAssign (.Attribute o f pos') op e pos) (LR cs f g fo fe) :=
 PS.weaken (ACl ho he hop) λD Y H z3_=>by
  obtain⟨O,ρ,L,out,r,e,k⟩:=z3_;unfold LR at e
  cases e1:fo ρ L with
  |none=>rw[e1] at e;cases e
  |some p =>
   rw[e1] at e;obtain⟨x,L1⟩:=p;simp only[AS] at e;refine⟨O,ρ,L,x,L1,r,e1,λv H1 O1 st rs is=>?_⟩
   cases is <;> try (cases e;done)
   rename_i kk a hk;simp only at e
   cases e2:L1[kk]? with
   |none=>rw[e2] at e;cases e
   |some ob =>
    rw[e2] at e
    cases ob with
    |lst _=>cases e
    |dk _=>cases e
    |dt _ _=>cases e
    |exn _=>cases e
    |ins c fs =>
     simp only at e;split at e
     .rename_i hcm;obtain⟨C,dx,us,hC,hH,hk1,hi⟩:=rs.ob _ _ _ hk e2
      cases e3:fs.lookup f with
      |none=>rw[e3] at e;cases e
      |some d0 =>
       rw[e3] at e
       cases d0 <;> try (cases e;done)
       rename_i i;simp only at e;obtain⟨v',hv',iv⟩:=Re hk1 hi e3;obtain⟨h1,h2⟩:=(hc c hcm).ok C hC;refine⟨a,C,dx,us,v',rfl,hH,h1,h2,hv',?_⟩
       cases e4:fe ρ L1 with
       |none=>rw[e4] at e;cases e
       |some q =>
        rw[e4] at e;obtain⟨y,L2⟩:=q;simp only[AS] at e;refine⟨O1,ρ,L1,y,L2,r.to st rs,e4,λw H2 O2 st2 rs2 is2=>?_⟩
        cases y <;> try (cases e;done)
        rename_i j;cases iv;cases is2;refine⟨i,j,rfl,rfl,?_⟩;simp only at e
        cases e5:L2[kk]? with
        |none=>rw[e5] at e;cases e
        |some ob =>
         rw[e5] at e
         cases ob with
         |lst _=>cases e
         |dk _=>cases e
         |dt _ _=>cases e
         |exn _=>cases e
         |ins c' fs' =>
          simp only at e;split at e
          .rename_i hcm';cases e;obtain⟨rfl,hl⟩:=hcm';have hk':=DJ st2.2 hk;obtain⟨C',dx',us',hC',hH',hk1',hi'⟩:=rs2.ob _ _ _ hk' e5
           have hCC:C'=C:=by unfold FU at hC hC';rw[hC] at hC';cases hC';rfl
           subst hCC
           have hlen:us'.length<1000:=by have:=congrArg List.length hk1';simp at this;rw[this];exact hl
           refine⟨dx',us',hH',hlen,?_⟩;have st3:Ai H2 O2 (upd H2 a (.ins C' dx' (_root_.L2.CH f (.int (g i j)) us'))) O2:=⟨.write hH' id,AR _⟩;obtain⟨g1,g2⟩:=RE (Is.int (g i j)) hk1' (hi'.mono st3);exact k Y _ O2 ((st.trans st2).trans st3) (r.to ((st.trans st2).trans st3) (rs2.write hk' ⟨C',dx',_,hC',Bu,g1,g2⟩))
          .cases e
     .cases e
def AJh:OL X .Add λx y H Q=>∃i j,x=.int i/\y=.int j/\Q (.int (i+j)) H:=AFO
abbrev Je(i:Nat)(g:Int->Int->Int)(fe:EF):SF:=λρ L=>match ρ[i]? with
 |some (some (.int a))=>(fe ρ L).bind λy=>(match y.1 with|.int b=>some (.next (ρ.set i (some (.int (g a b)))) y.2)|_=>none)
 |_=>none
def AIo{i:Nat}{x:Str}{op:Operator}{g:Int->Int->Int}(hN:X.N.Nodup)(he:AW X e fe)(ho:OI X op (Rm g))(hi:X.N[i]?=some x:=by rfl)(hx:Gv X.env.scope x:=by first|exact Or.inl rfl|exact Or.inr rfl)
  (hf:X.fn x=true\/X.env.scope.names.lookup x=some .local:=by first|exact .inl rfl|exact .inr rfl):Dc X (.AugAssign (.Name x pos') op e pos) (Je i g fe) :=
 PS.weaken (ACp hN hi hx he ho hf) λD Y H z3_=>by
  obtain⟨O,ρ,L,out,r,e,k⟩:=z3_;unfold Je at e;split at e
  .rename_i a ha;obtain⟨v,hv,iv⟩:=r.f.at' i _ ha;cases iv;refine⟨_,hv,?_⟩;obtain⟨p,e1,e⟩:=bS e;obtain⟨y,L1⟩:=p;simp only[AS] at e;refine⟨O,ρ,L,y,L1,r,e1,λv H1 O1 st rs is=>?_⟩
   cases y <;> try (cases e;done)
   cases e;cases is;exact⟨_,_,rfl,rfl,k _ _ _ st ⟨rs,(r.f.mono st).set (.int _) i⟩⟩
  .cases e
end
structure Sv (P:Program) (w:World) (K:AK) (mg:AM3) (base:Heap) (k:Nat) (c m:Str) (G:GL):Prop where
 ex:∃C f fd ps,Cc P w K mg base CX0 k f fd ps (Fg K G)/\FU K c C/\Cls K C/\AHO K C m f/\Df K fd ps []
structure Fw (P:Program) (w:World) (K:AK) (mg:AM3) (base:Heap) (k:Nat) (c:Str) (G:GL):Prop where
 ex:∃C f fd ps j,Cc P w K mg base CX0 j f fd ps (Fg K G)/\j+1<=k/\mg c=some (.ref C)/\FU K c C/\Mk K C f/\Df K fd ps []
def Sv.mono{P:Program}{w:World}{K:AK}{mg:AM3}{base:Heap}{j k:Nat}{c m:Str}{G:GL}(F:Sv P w K mg base j c m G)(h:j<=k):Sv P w K mg base k c m G:=by obtain⟨C,f,fd,ps,a,b⟩:=F.ex;exact⟨C,f,fd,ps,a.mono h,b⟩
def Fw.mono{P:Program}{w:World}{K:AK}{mg:AM3}{base:Heap}{j k:Nat}{c:Str}{G:GL}(F:Fw P w K mg base j c G)(h:j<=k):Fw P w K mg base k c G:=by obtain⟨C,f,fd,ps,i,a,b,c⟩:=F.ex;exact⟨C,f,fd,ps,i,a,by omega,c⟩
abbrev HB(c:Str)(G:GL)(a:AF):EF:=λρ L=>(a ρ L).bind λy=>(G (.ref y.2.length::y.1) (y.2++[.ins c []])).bind λz=>match z.1 with
 |.non=>some (.ref y.2.length,z.2)
 |_=>none
section
variable {X:Cx}{k:Nat}{c m x:Str}{G:GL}{p pos apos:Pos}{o e:Expr}{es:AM7}{fo:EF}{f:AF}
def AEb{C:Addr}(hC:FU X.K c C){t:TA}(ht:∀Y H Q,Rf X.K f Y H Q->t Y H Q){Y:L2.St}{H:Hp}{Q:VK}(h:IG X.K (HB c G f) Y H Q):Ug C (Fg X.K G) [] E0 t Y H Q:=by
 obtain⟨O,ρ,L,d,L',r,e,k⟩:=h;unfold HB at e;obtain⟨p,e1,e⟩:=bS e;obtain⟨ys,L1⟩:=p;simp only[AS] at e;obtain⟨z,e2,e⟩:=bS e;obtain⟨zd,L2⟩:=z
 cases zd <;> simp only[AS] at e <;> try (cases e;done)
 cases e;refine ht _ _ _ ⟨O,ρ,L,ys,L1,r,e1,λvs H1 O1 st rs is x dx hx hdx hne=>?_⟩;show rC X.K G (V.ref x::(vs++[])) _ _;rw[ALq];have s1:Ai H1 O1 (upd H1 dx (.own x)) O1:=⟨.new hdx,AR _⟩;have rs1:Al X.K (upd H1 dx (.own x)) O1 L1:=rs.ext λa u e=>by rw[BN (DK e hdx)];exact e
 have hx1:upd H1 dx (.own x) x=none:=by rw[BN (Ne.symm hne)];exact hx
 have s2:Ai (upd H1 dx (.own x)) O1 (upd (upd H1 dx (.own x)) x (.ins C dx [])) (O1++[x]):=⟨.new hx1,Am _ _⟩;have rs2:Al X.K (upd (upd H1 dx (.own x)) x (.ins C dx [])) (O1++[x]) (L1++[.ins c []]):=rs1.new hx1 ⟨C,dx,[],hC,Bu,rfl,.nil⟩;have hk:(O1++[x])[L1.length]?=some x:=by rw[<-rs.len];simp
 refine⟨O1++[x],L1++[.ins c []],_,.non,_,rs2,.cons (.ref hk) (is.mono (s1.trans s2)),e2,λw H' O' st' rs' is'=>?_⟩;cases is';exact⟨rfl,k _ H' O' ((st.trans (s1.trans s2)).trans st') rs' (.ref (DJ st'.2 hk))⟩
def AKZ(F:Fw X.prog X.w X.K X.mg X.base k c G)(hr:Room k X.A)(ha:Ds X (e::es) f)(hg:Gl X c:=by rfl)(hdb:(c == ("__debug__":Str))=false:=by decide)
  (he:EJ e=true:=by rfl) (hpl:es.all EJ=true:=by rfl):AW X (.Call (.Name c p) (e::es) [] pos) (HB c G f):=by
 obtain⟨C,fa,fd,ps,j,a,hj,hm,hC,hM,bi⟩:=F.ex;exact PE.weaken (ADS (E:=E0) hM a (hr.mono hj) hg hm bi .nil RM ha hdb (Gy he) (IC hpl)) λY H Q h=>AEb hC (λ_ _ _ h=>h) h
end
def AKL{K:AK}{f:Str}:∀c∈([]:AM4),Cj K c f:=λ_ h=>by cases h
def AKM{K:AK}{f c:Str}{cs:AM4}(a:Cj K c f)(b:∀c∈cs,Cj K c f):∀x∈c::cs,Cj K x f:=λx h=>by
 rcases Aa.mp h with rfl|h
 .exact a
 .exact b x h
def Hk{K:AK}{c f:Str}{C:Addr}(hC:FU K c C)(cl:Cls K C)(n:DP K (.ref C) f=some none):Cj K c f:=⟨λC' h=>by
 have:C'=C:=by unfold FU at hC h;rw[hC] at h;cases h;rfl
 subst this
 exact⟨cl,n⟩⟩
section
variable {P:Program}{w:World}{K:AK}{mg:AM3}{base:Heap}
def Xe{x qual c:Str}{C:Addr}{st:Stmt}{f:Addr}{fd:FuncData}{N ps:AM4}{k:Nat}{B:SF}(Fn:HN K x qual st f fd)(S:As N ps (Ad st))
  (hb:∀(cdv:Value) (A:Around) (outer:List Env) (s:Shared) (H:Hp) (E:XK),Room k (A.deeper (envOfC qual (Ad st) s.heap.objs.size f cdv)) ->
   Eu (CQ CX0 P w K mg base N qual (Ad st) f cdv A outer s H E).nox (FK st) B)
  (bi:Df K fd ps []) (mc:mg c=some (.ref C)) (hC:FU K c C) (M:Mk K C f):Fw P w K mg base (k+2) c (Aj B N ps.length) :=
 ⟨C,f,fd,ps,k+1,SH Fn S _ B (λ_ _ _ h=>RA h) hb (λ_ _ _ _ h=>Qz h),Ae _,mc,hC,M,bi⟩
end
abbrev Wx(p:Program)(i j:Nat):Stmt:=match BE p i with
 |.ClassDef _ _ _ body _ _ _ _ _ _ _=>body.getD j (.Pass ⟨0,0,0,0⟩)
 |s=>s
abbrev Fa(t:TF)(b:SF):Nat->SF
 |0=>λ_ _=>none
 |n+1=>λρ L=>(t ρ L).bind λx=>if x.1=true then (b ρ x.2).bind λout=>(match out with
   |.next ρ2 L2=>Fa t b n ρ2 L2
   |.cont ρ2 L2=>Fa t b n ρ2 L2
   |.brk ρ2 L2=>some (.next ρ2 L2)
   |.ret d L2=>some (.ret d L2)) else some (.next ρ x.2)
abbrev Qk(t:TF)(b:SF):SF:=Fa t b 1000000
def AIb{X:Cx}{c:Expr}{body:AM8}{t:TF}{b:SF}{pos:Pos}(hp:PassesOwn (model X.prog X.w) X.A X.env X.xe)(hc:Et X c t)(hb:Eu X body b):Dc X (.While c body [] pos) (Qk t b) :=
 PS.weaken (ACf hp hc hb) λD Y H z3_=>by
  obtain⟨O,ρ,L,out,r,e,k⟩:=z3_;refine⟨λn Y H=>∃O ρ L,Cw X.K H O Y ρ L/\Fa t b n ρ L=some out/\Ht X.K H O D out,⟨1000000,O,ρ,L,r,e,k⟩,?_⟩;rintro n Y1 H1 ⟨O1,ρ1,L1,r1,e1,k1⟩
  cases n with
  |zero=>cases e1
  |succ n =>
   simp only[Fa] at e1;obtain⟨p,e2,e1⟩:=bS e1;obtain⟨bb,L2⟩:=p;simp only[AS] at e1;refine⟨O1,ρ1,L1,bb,L2,r1,e2,λH2 O2 st2 rs2=>?_⟩
   cases bb with
   |false =>
    simp only[ALc,if_false] at e1 ⊢;cases e1;exact k1 _ _ _ st2 (r1.to st2 rs2)
   |true =>
    simp only[if_true] at e1 ⊢;refine⟨λY' H'=>∃O ρ L,Cw X.K H' O Y' ρ L/\Fa t b n ρ L=some out/\Ht X.K H' O D out,λY' H' h=>⟨n,Nat.lt_succ_self _,h⟩,?_⟩;obtain⟨o1,e3,e1⟩:=bS e1;refine⟨O2,ρ1,L2,o1,r1.to st2 rs2,e3,?_⟩
    cases o1 with
    |next ρ2 L3=>exact λY' H' O' st' r'=>⟨O',ρ2,L3,r',e1,(k1.mono st2).mono st'⟩
    |cont ρ2 L3=>exact λY' H' O' st' r'=>⟨O',ρ2,L3,r',e1,(k1.mono st2).mono st'⟩
    |brk ρ2 L3=>cases e1;exact λY' H' O' st' r'=>k1 _ _ _ (st2.trans st') r'
    |ret d L3=>cases e1;exact λv H' O' st' r' i'=>k1 _ _ _ (st2.trans st') r' i'
def Wt:∀{ns:ANA} {its:AM5},AX (ns.map V.int) its->∃xs:List (Int×Tok),its=xs.map (λp=>Value.int p.1 p.2)/\xs.map (·.1)=ns
 |[],_,h=>by cases h;exact⟨[],rfl,rfl⟩
 |n::ns,_,h=>by
  cases h with
  |cons a b =>
   obtain⟨t,rfl⟩:=(show ∃t,_=Value.int n t from a);obtain⟨xs,rfl,e⟩:=Wt b;exact⟨(n,t)::xs,rfl,by simp[e]⟩
abbrev EB:List D->Option (ANA)
 |[]=>some []
 |.int b::r=>(EB r).map (b::·)
 |_=>none
def AFN{K:AK}{H:Hp}{O:AM6}:∀{vs:List V} {ds:List D} {bs:ANA},AN K H O vs ds->EB ds=some bs->vs=bs.map V.int:=by
 intro vs ds bs h e
 induction ds generalizing vs bs with
 |nil=>cases h;cases e;rfl
 |cons d ds ih =>
  cases h with|cons a b =>
  cases a <;> simp only[EB] at e <;> try (cases e;done)
  cases q:EB ds with
  |none=>rw[q] at e;cases e
  |some r =>
   rw[q] at e;cases e;rw[ih b q];rfl
section
variable {X:Cx}
def AGh(hc:X.calm=true):CV X (.builtin "sum") (λxs H Q=>∃(p:Addr) (ns:ANA),xs=[.ref p]/\BH X.K H p (ns.map V.int)/\Q (.int ns.sum) H):=by
 intro pins s Y H xs us Q I r h;obtain⟨p,ns,rfl,hq,q⟩:=h;obtain⟨u,rfl,rx⟩:=Dy r;cases rx;obtain⟨its,rv,pl,hz⟩:=I.list hq;obtain⟨ps,rfl,rfl⟩:=Wt rv
 have hl:s.heap.IsList p (intItems ps.toArray):=by
  have:=pl.isList;have e:(ps.map (λp=>Value.int p.1 p.2)).toArray=intItems ps.toArray:=by simp[intItems]
  rw[<-e];exact this
 refine PySem.sum_intListG (I.ok.hd hc) hl λh' tk t' hk=>⟨.int (ps.map (·.1)).sum,H,I.kept hk,⟨t',?_⟩,q⟩;rw[preSum_eq,AMD (by simp)]
abbrev Ko(xs:List D)(L:AB):Option (List D):=match xs with
 |[.ref k]=>(match L[k]? with|some (.lst ds)=>some ds|_=>none)
 |_=>none
abbrev Kv:GL:=λxs L=>(Ko xs L).bind λds=>(EB ds).bind λns=>some (.int ns.sum,L)
def AEp{K:AK}{H:Hp}{O:AM6}{L:AB}{vs:List V}{xs ds:List D}(rs:Al K H O L)(is:AN K H O vs xs)(e:Ko xs L=some ds):∃(p:Addr) (us:List V),vs=[.ref p]/\BH K H p us/\AN K H O us ds:=by
 unfold Ko at e;split at e
 .split at e
  .rename_i ds' hd;cases e
   cases is with|cons i1 i2 =>
    cases i2
    cases i1 with|ref hk =>
     obtain⟨us,hv,il⟩:=rs.ob _ _ _ hk hd;exact⟨_,us,rfl,BH.of hv,il⟩
  .cases e
 .cases e
def YM{α β:Type}{o:Option α}{f:α->Option β}{b:β}(h:o.bind f=some b):∃a,o=some a/\f a=some b:=ALj.mp h
def AKt(hc:X.calm=true):Ex X (.builtin "sum") Kv:=CV.weaken (AGh hc) λvs H Q z3_=>by
 obtain⟨O,L,xs,d,L',rs,is,e,k⟩:=z3_;obtain⟨ds,e1,e⟩:=YM e;obtain⟨ns,e2,e⟩:=YM e;cases e;obtain⟨p,us,rfl,hq,il⟩:=AEp rs is e1;rw[AFN il e2] at hq;exact⟨p,ns,rfl,hq,k _ _ _ (.refl _ _) rs (.int _)⟩
end
def AK5:bootBuiltins "sum"=some (.builtin "sum"):=by decide +kernel
section
variable {L:AB}{Q:ANb}{k:Nat}{ds:List D}
def AEo(e:L[k]?=some (.lst ds)):Ko [.ref k] L=some ds:=by simp[Ko,e]
end
end L3
set_option maxHeartbeats 4000000
namespace L3
open PySem PySem.Spec PyProof.Rows L2 Builtin Builtin.Str
inductive EntsK (K:AK):List DictEntry->List (Str×D)->Prop
 |nil:EntsK K [] []
 |cons {h:Int} {x:Str} {t:Tok} {u:Value} {d:D} {es:List DictEntry} {ds:List (Str×D)}:TupK K u d->EntsK K es ds->EntsK K (⟨h,.str x t,u⟩::es) ((x,d)::ds)
def EntsK.at{K:AK}(z:Str):∀{es:List DictEntry} {ds:List (Str×D)},EntsK K es ds->TupK K ((findBy Value.isStrOf es.toArray z).getD .none) ((ds.lookup z).getD .non)
 |_,_,.nil=>AAt
 |_,_,.cons (x:=x) (t:=t) (u:=u) (d:=d) (es:=es) (ds:=ds) a b=>by
  have ih:=EntsK.at z b;unfold findBy at ih ⊢;rw[List.find?_toArray] at ih ⊢;rw[Ez]
  by_cases h:z=x
  .subst h;have e1:Value.isStrOf z (.str z t)=true:=by simp[Value.isStrOf]
   simp only[e1,FY,beq_self_eq_true];exact a
  .have e1:Value.isStrOf z (.str x t)=false:=by
    have:¬x=z:=λq=>h q.symm;simp[Value.isStrOf,this]
   have e2:(z == x)=false:=beq_eq_false_iff_ne.mpr h;simp only[e1,FY,e2];exact ih
abbrev Cov(B:Heap)(l:List Env)(h0:Heap)(H:Hp):Prop:=(∀b o,h0.get? b=some o->b∉En l->∃u,B.get? b=some u)/\∀b u,H b=some u->∃o,B.get? b=some o
abbrev CXX(P:Program)(w:World):FV:=λouter H s E e s'=>∃(ea:Addr) (cv a0:Value) (H':Hp) (B:Heap),e=.ref ea/\s'.os=s.os/\AllBare s'.gens/\Un (En outer) [] H H' s.heap s'.heap/\Ca P w H' s'.heap /\
 Heap.FlyingW B outer ea cv a0 s'.heap/\Cov B outer s.heap H'/\E cv none H'
noncomputable abbrev Ss:=List D->AB->Option (Str×AB)
abbrev spX(K:AK)(G:GL)(GX:Ss):Sp:=λvs H Q E=>rC K G vs H Q\/∃O L xs c L' C,Al K H O L/\AN K H O vs xs/\GX xs L=some (c,L')/\FU K c C/\∀H' O',Ai H O H' O'->Al K H' O' L'->E (.ref C) none H'
structure Su (P:Program) (w:World) (K:AK) (mg:AM3) (base:Heap) (k:Nat) (x:Str) (G:GL) (GX:Ss):Prop where
 ex:∃f fd ps,Cc P w K mg base (CXX P w) k f fd ps (spX K G GX)/\mg x=some (.ref f)/\Fz K (.ref f)=true/\Df K fd ps []
def Su.mono{P:Program}{w:World}{K:AK}{mg:AM3}{base:Heap}{j k:Nat}{x:Str}{G:GL}{GX:Ss}(F:Su P w K mg base j x G GX)(h:j<=k):Su P w K mg base k x G GX:=by obtain⟨f,fd,ps,a,b⟩:=F.ex;exact⟨f,fd,ps,a.mono h,b⟩
noncomputable abbrev YL:AM5:=[.type "ValueError",.type "Exception",.type "BaseException",.type "object"]
structure ZC (K:AK) (c:Str) (C:Addr):Prop where
 ns:Bs K mainGlobals c=some (some (.ref C))
 ok:PySem.W.excIn K C YL "ValueError.__new__"=true
abbrev ZD(x C:Addr)(h:Heap):Prop:=∃o,h.get? x=some o/\o.cls=.ref C
def ZD.ty{x C:Addr}{h:Heap}(p:ZD x C h)(M:Model):PySem.W.Looks M h (typeOf (.ref x)) (.ref C):=by obtain⟨o,h1,h2⟩:=p;rw[<-h2];exact(PySem.W.Looks.ld h1).andThen .now
abbrev only(c0:Str):Str->Bool:=λc=>c == c0
open Sem (wp) in
abbrev CK{prog:Program}{w:World}{κ:Type}[DecidableEq κ](knd:HeapKind prog w κ)(h:Heap)(d:Addr)(xs:List (κ×Addr×Value))(ep:Nat):Prop :=
 ∃o es,h.get? d=some o/\o.ExactDict/\o.data=.dict es ep/\es.toList=xs.map (entryOfKey knd)/\(∀x∈xs,knd.is h x.1 x.2.1)/\(xs.map (·.1)).Nodup
abbrev Eo{κ:Type}[DecidableEq κ](xs:List (κ×Addr×Value))(k:κ)(ep:Nat):Nat:=if (atKey xs k).isSome=true then ep else ep+1
section
variable {prog:Program}{w:World}{κ:Type}[DecidableEq κ]{knd:HeapKind prog w κ}{A:Around}{E:ANB}{s:Shared}{d a:Addr}{k:κ}{xs:List (κ×Addr×Value)}{ep:Nat}
def CK.of{h:Heap}(x:CK knd h d xs ep):h.DictOfH knd d xs:=let ⟨o,es,h1,h2,h3,r⟩:=x;⟨o,es,ep,h1,h2,h3,r⟩
def AG6(hn:atKey xs k=none):k∉xs.map (·.1):=λhm=>by
 obtain⟨x,hx,rfl⟩:=BA.mp hm;have h0:(xs.find? λy=>decide (y.1=x.1))=none:=by simpa[atKey] using hn
 simpa using AMT.mp h0 x hx
def CK.grown{h:Heap}(x:CK knd h d xs ep)(hn:atKey xs k=none)(hk:knd.is h k a)(v:Value) :
  CK knd (h.update d (Obj.mapDictKeys (·.push ⟨knd.hash k,.ref a,v⟩))) d (xs++[(k,a,v)]) (ep+1)/\Heap.SameBut d h (h.update d (Obj.mapDictKeys (·.push ⟨knd.hash k,.ref a,v⟩))):=by
 have sb:Heap.SameBut d h (h.update d (Obj.mapDictKeys (·.push ⟨knd.hash k,.ref a,v⟩))):=.update ..;obtain⟨o,es,g,ex,dat,el,all,nd⟩:=x;have stay:∀y∈xs++[(k,a,v)],knd.is h y.1 y.2.1:=λy hy=>(Bx.mp hy).elim (all y) λz=>by rw[FW.mp z];exact hk
 refine⟨⟨_,_,Heap.get?_update_self _ g (Obj.isFreed_of_dict (Obj.data_mapDictKeys dat _)),ex.mapDictKeys _,Obj.data_mapDictKeys dat _,by simp[el,entryOfKey],λy hy=>knd.keeps (stay y hy) g dat sb,?_⟩,sb⟩;rw[Cd];exact ALa.mpr ⟨nd,by simp,λy hy z hz e=>AG6 hn (by rw[show z=k by simpa using hz] at e;rwa [<-e])⟩
def CK.turned{h:Heap}(x:CK knd h d xs ep){j:Nat}{q:Addr×Value}(hj:xs[j]?=some (k,q))(v:Value) :
  CK knd (h.update d (Obj.mapDict (·.modify j λe=>{e with val:=v}))) d (xs.map (putAt k v)) ep/\Heap.SameBut d h (h.update d (Obj.mapDict (·.modify j λe=>{e with val:=v}))):=by
 have sb:Heap.SameBut d h (h.update d (Obj.mapDict (·.modify j λe=>{e with val:=v}))):=.update ..;obtain⟨o,es,g,ex,dat,el,all,nd⟩:=x
 have rows:(es.modify j λe=>{e with val:=v}).toList=(xs.map (putAt k v)).map (entryOfKey knd):=by rw[<-modify_map_putAt (entryOfKey knd) (λe:DictEntry=>{e with val:=v}) k v (λ_ _=>rfl) nd hj,<-el];simp
 refine⟨⟨_,_,Heap.get?_update_self _ g (Obj.isFreed_of_dict (Obj.data_mapDict dat _)),ex.mapDict _,Obj.data_mapDict dat _,rows,λy hy=>?_,by rw[keys_map_putAt];exact nd⟩,sb⟩;rw[BA] at hy;obtain⟨z,hz,rfl⟩:=hy;have e1:(putAt k v z).1=z.1/\(putAt k v z).2.1=z.2.1:=by unfold putAt;split <;> exact⟨rfl,rfl⟩
 rw[e1.1,e1.2];exact knd.keeps (all z hz) g dat sb
def CK.find{G:Option Nat->Shared->Prop}(hu:knd.room A)(hk:knd.is s.heap k a)(x:CK knd s.heap d xs ep)(no:atKey xs k=none->G none s)(yes:∀j q,xs[j]?=some (k,q)->atKey xs k=some q->G (some j) s) :
  wpAny (model prog w) A (dictFind d (.ref a) (knd.hash k)) G E s:=by
 obtain⟨o,es,g,ex,dat,el,all,nd⟩:=x;exact wpAny_dictFind_heap hu hk g dat el all nd (λf=>no (atKey_none_of_get f)) λj q hj=>yes j q hj (atKey_of_get nd hj)
def CK.room(x:CK knd s.heap d xs ep):∃o es,s.heap.get? d=some o/\o.data=.dict es ep/\es.size=xs.length:=by obtain⟨o,es,g,ex,dat,el,_⟩:=x;exact⟨o,es,g,dat,size_of_entries el⟩
def AGN{v:Value}{Q:Unit->Shared->Prop}(hu:knd.room A)(hk:knd.is s.heap k a)(x:CK knd s.heap d xs ep)(hz:xs.length<=sizeLine)
  (q:∀h',CK knd h' d (storedH xs k a v) (Eo xs k ep)->Heap.SameBut d s.heap h'->Q () {s with heap:=h',toks:=s.toks+knd.draws k}):wpAny (model prog w) A (dictSet d (.ref a) v) Q E s:=by
 obtain⟨o,es,g,dat,sz⟩:=x.room;unfold dictSet dictSetHashed
 (try with_reducible refine Ck ?_)
 refine AG (knd.pyHash hu hk ?_)
 (try with_reducible refine Ck ?_)
 refine AG (CK.find (s:={s with toks:=s.toks+knd.draws k}) hu hk x (λn=>?_) λj p hj e=>?_)
 .obtain⟨y,sb⟩:=x.grown n hk v;have e1:Eo xs k ep=ep+1:=by simp[Eo,n]
  rw[e1,storedH_new n] at q;exact AG (AMm (wpAny_updateDictKeys (s:={s with toks:=s.toks+knd.draws k}) (hz:=by omega) g dat (q _ y sb)))
 .obtain⟨y,sb⟩:=x.turned hj v;have e1:Eo xs k ep=ep:=by simp[Eo,e]
  rw[e1,storedH_old e] at q;exact AG (AMm (AG (wpAny_updateDict (s:={s with toks:=s.toks+knd.draws k}) g dat (wpAny_point (q _ y sb)))))
def ABq{v:Value}{Q:Unit->Shared->Prop}(hu:knd.room A.in1)(hk:knd.is s.heap k a)(x:CK knd s.heap d xs ep)(hz:xs.length<=sizeLine)
  (q:∀h',CK knd h' d (storedH xs k a v) (Eo xs k ep)->Heap.SameBut d s.heap h'->Q () {s with heap:=h',toks:=s.toks+knd.draws k}):wpAny (model prog w) A (setItem (.ref d) (.ref a) v) Q E s:=by
 have ty:=x.of.typeIs
 have inner:∀{R:ANB} {F:ANB},(∀h',CK knd h' d (storedH xs k a v) (Eo xs k ep)->Heap.SameBut d s.heap h'->R .none {s with heap:=h',toks:=s.toks+knd.draws k}) ->
   wpAny (model prog w) A.in1 (Builtin.«dict.__setitem__» ⟨[.ref d,.ref a,v],[]⟩) (λfi s2=>∃v,fi=PySem.Fin.done (Flow.ret v)/\R v s2) F s:=λ{R F} r=>by
  show wpAny _ _ (Builtin.Dict.notOrdered "__setitem__" ⟨[.ref d,.ref a,v],[]⟩ >>= λ_=>dictSet d (.ref a) v >>= _) _ F s;exact AG (AMx ty (AG (AGN hu hk x hz λh' y sb=>AM ⟨.none,rfl,r h' y sb⟩)))
 unfold setItem
 (try with_reducible refine Ck ?_)
 exact AG (wpAny_sequenceKey ty (by decide) (AG (AMu (name:=Str.ofString "__setitem__") ty slot_dict_setitem (Fx slot_dict_setitem ty entry_dict_setitem (inner λh' y sb=>AM (q h' y sb)) (args_dict_setitem _ _ _)))))
end
section
variable {X:Cx}{pins:List (Addr×Obj)}{Y:L2.St}{H:Hp}{s:Shared}{O:AM6}{L:AB}
def key_leaf{k:Key}{v:V}{u:Value}(i:Is X.K H O v (keyD k))(r:AY v u):Dt k u:=by
 cases k with
 |inl n=>cases i;obtain⟨t,rfl⟩:=r;exact AFC _ _
 |inr x=>cases i;obtain⟨t,rfl⟩:=r;exact AFB _ _
def keys_leaf:∀{ks:List Key} {vs:List V} {us:AM5},AN X.K H O vs (ks.map keyD)->AX vs us->Paired Dt ks us
 |[],_,_,i,r=>by cases i;cases r;exact .nil
 |k::ks,_,_,i,r=>by
  cases i with|cons i1 i2=>cases r with|cons r1 r2=>exact .cons (key_leaf i1 r1) (keys_leaf i2 r2)
def Rk(I:AI X pins Y H s):∀{ks:NK} {vs:List V} {us:AM5},AN X.K H O vs (ks.map IL)->AX vs us->Paired (GS s.heap) ks us
 |[],_,_,i,r=>by cases i;cases r;exact .nil
 |.inl k::ks,_,_,i,r=>by
  cases i with|cons i1 i2=>cases r with|cons r1 r2=>exact .cons (key_leaf i1 r1) (Rk I i2 r2)
 |.inr k::ks,v::_,_,i,r=>by
  cases i with|cons i1 i2=>cases r with|cons r1 r2 =>
   have i1':Is X.K H O v (.tup (k.map keyD)):=i1
   cases i1' with|tup h il =>
    obtain⟨its,rv,t,_⟩:=I.tuple h;exact .cons ⟨_,its,r1,t,keys_leaf il rv⟩ (Rk I i2 r2)
def IH(I:AI X pins Y H s){k:NK}{b:Addr}(i:Is X.K H O (.ref b) (Dl k)):(Ge X.prog X.w).is s.heap k b:=by
 have i':Is X.K H O (.ref b) (.tup (k.map IL)):=i
 cases i' with|tup h il =>
  obtain⟨its,rv,t,_⟩:=I.tuple h;exact⟨its,t,Rk I il rv⟩
end
abbrev LH:D->Option Key
 |.int i=>some (.inl i)
 |.str x=>some (.inr x)
 |_=>none
abbrev IU:List D->Option (List Key)
 |[]=>some []
 |d::r=>(LH d).bind λk=>(IU r).map (k::·)
abbrev Ja:D->Option (Key ⊕ List Key)
 |.int i=>some (.inl (.inl i))
 |.str x=>some (.inl (.inr x))
 |.tup ds=>(IU ds).map .inr
 |_=>none
abbrev Fq:List D->Option NK
 |[]=>some []
 |d::r=>(Ja d).bind λk=>(Fq r).map (k::·)
abbrev dNK:D->Option NK
 |.tup ds=>Fq ds
 |_=>none
def AGQ{d:D}{k:Key}(e:LH d=some k):d=keyD k:=by unfold LH at e;split at e <;> cases e <;> rfl
def Xz:∀{ds:List D} {ks:List Key},IU ds=some ks->ds=ks.map keyD
 |[],ks,e=>by cases e;rfl
 |d::r,ks,e=>by
  unfold IU at e;obtain⟨k,e1,e2⟩:=ALj.mp e;obtain⟨l,e3,rfl⟩:=GU.mp e2;rw[AGQ e1,Xz e3];rfl
def AGR{d:D}{k:Key ⊕ List Key}(e:Ja d=some k):d=IL k:=by
 unfold Ja at e;split at e
 .cases e;rfl
 .cases e;rfl
 .obtain⟨l,e3,rfl⟩:=GU.mp e;rw[Xz e3];rfl
 .cases e
def YA:∀{ds:List D} {ks:NK},Fq ds=some ks->ds=ks.map IL
 |[],ks,e=>by cases e;rfl
 |d::r,ks,e=>by
  unfold Fq at e;obtain⟨k,e1,e2⟩:=ALj.mp e;obtain⟨l,e3,rfl⟩:=GU.mp e2;rw[AGR e1,YA e3];rfl
def Nr{d:D}{k:NK}(e:dNK d=some k):d=Dl k:=by
 unfold dNK at e;split at e
 .rw[YA e];rfl
 .cases e
def JO{K:AK}{H:Hp}{O:AM6}{v:V}{d:D}{k:NK}(i:Is K H O v d)(e:dNK d=some k):∃b,v=.ref b/\Is K H O (.ref b) (Dl k):=by rw[Nr e] at i;have i':Is K H O v (.tup (k.map IL)):=i;cases i' with|tup h il=>exact⟨_,rfl,.tup h il⟩
abbrev BL(kvs:List (NK×D))(k:NK):Option D:=(kvs.find? λkv=>decide (kv.1=k)).map (·.2)
abbrev CO(kvs:List (NK×D))(k:NK)(d:D):List (NK×D) :=
 if (kvs.any λkv=>decide (kv.1=k))=true then kvs.map (λkv=>if kv.1=k then (kv.1,d) else kv) else kvs++[(k,d)]
section
variable {X:Cx}{pins:List (Addr×Obj)}{Y:L2.St}{H:Hp}{s:Shared}{O:AM6}{L:AB}{a:Addr}
inductive CZ (K:AK) (H:Hp) (O:AM6):List (NK×D)->List (NK×Addr×V)->List (NK×Addr×Value)->Prop
 |nil:CZ K H O [] [] []
 |cons {k:NK} {d:D} {b:Addr} {v:V} {u:Value} {kvs us xs}:Is K H O v d->AY v u->CZ K H O kvs us xs->CZ K H O ((k,d)::kvs) ((k,b,v)::us) ((k,b,u)::xs)
def row3_of{K:AK}:∀{kvs:List (NK×D)} {us:List (NK×Addr×V)} {xs:List (NK×Addr×Value)},us.map (·.1)=kvs.map (·.1)->AN K H O (us.map (·.2.2)) (kvs.map (·.2)) ->
  Paired (λ(p:NK×Addr×V) (q:NK×Addr×Value)=>p.1=q.1/\p.2.1=q.2.1/\AY p.2.2 q.2.2) us xs->CZ K H O kvs us xs
 |[],[],_,_,_,r=>by cases r;exact .nil
 |(k,d)::kvs,(k',b,v)::us,_,e,i,r=>by
  simp only[Ak,List.cons.injEq] at e;obtain⟨e1,e2⟩:=e
  cases r with
  |@cons _ q _ qs r1 r2 =>
   obtain⟨q1,q2,q3⟩:=q;obtain⟨h1,h2,h3⟩:=r1;simp only at e1 h1 h2 h3;subst e1 h1 h2
   cases i with
   |cons i1 i2=>exact .cons i1 h3 (row3_of e2 i2 r2)
 |[],_::_,_,e,_,_=>by simp at e
 |_::_,[],_,e,_,_=>by simp at e
def CZ.look{K:AK}{kvs:List (NK×D)}{us:List (NK×Addr×V)}{xs:List (NK×Addr×Value)}(r:CZ K H O kvs us xs)(k:NK) :
  (BL kvs k=none/\atKey xs k=none)\/∃d b v u,BL kvs k=some d/\atKey xs k=some (b,u)/\Is K H O v d/\AY v u/\(k,b,v)∈us:=by
 induction r with
 |nil=>exact .inl ⟨rfl,rfl⟩
 |@cons k' d b v u kvs us xs i rv t ih =>
  by_cases e:k'=k
  .subst e;exact .inr ⟨d,b,v,u,by simp[BL],by simp[atKey],i,rv,Aw⟩
  .have e1:BL ((k',d)::kvs) k=BL kvs k:=by simp[BL,Ez,e]
   have e2:atKey ((k',b,u)::xs) k=atKey xs k:=by simp[atKey,Ez,e]
   rw[e1,e2];rcases ih with h|⟨d,b,v,u,h1,h2,h3,h4,h5⟩
   .exact .inl h
   .exact .inr ⟨d,b,v,u,h1,h2,h3,h4,Ax _ h5⟩
def JZ(I:AI X pins Y H s){kvs:List (NK×D)}{ep:Nat}(h:GR X.K H O a (.dt kvs ep)):∃us xs,H a=some (.dN us ep)/\(a == sysModules)=false/\us.length<=sizeLine/\CZ X.K H O kvs us xs/\(∀u∈us,Is X.K H O (.ref u.2.1) (Dl u.1))/\CK (Ge X.prog X.w) s.heap a xs ep:=by
 obtain⟨us,e,e1,il,ik⟩:=h;obtain⟨z,y,xs,r,o,es,h1,h2,h3,h4,h5⟩:=(show Bq X.prog X.w H s.heap a (.dN us ep) from I.hok a _ e);refine⟨us,xs,e,y,z,row3_of e1 il r,ik,o,es,h1,h2,h3,h4,λx hx=>?_,h5⟩
 have all:∀{l:List (NK×Addr×V)} {m:List (NK×Addr×Value)},Paired (λ(p:NK×Addr×V) (q:NK×Addr×Value)=>p.1=q.1/\p.2.1=q.2.1/\AY p.2.2 q.2.2) l m->(∀u∈l,Is X.K H O (.ref u.2.1) (Dl u.1))->∀x∈m,(Ge X.prog X.w).is s.heap x.1 x.2.1:=by
  intro l m q
  induction q with
  |nil=>intro _ x hx;exact nomatch hx
  |@cons p q ps qs hq t ih =>
   intro hl x hx;rcases Aa.mp hx with e|hx
   .subst e;rw[<-hq.1,<-hq.2.1];exact IH I (hl p Aw)
   .exact ih (λu hu=>hl u (Ax _ hu)) x hx
 exact all r ik x hx
end
section
variable {X:Cx}
def AAw{prog:Program}{w:World}{A:Around}{E:ANB}{s:Shared}{value slice:Expr}{T id:String}{o i:Value}{Q:ANB}
  (hl:typeLookup (.type T) "__getitem__"=pure (some (.builtin id))) (hs:subscripted slice false o i=operate [o,i] (getItem o i)) (ty:s.TypeIs o T) (got:wpAny (model prog w) A (getItem o i) Q E s) :
  wpAny (model prog w) A (subscriptTail value slice o i) Q E s:=by
 have all:∀{k:Sem Value},k=(subscripted slice false o i >>= λr=>letTemporaryGo value o r >>= λ_=>pure r)->wpAny (model prog w) A k Q E s:=λ{k} ek=>by
  rw[ek,hs];exact AG (wpAny_operating (DI got (λr _ z=>AG (wpAny_letTemporaryGo (AM z))) λ_ _ z=>z))
 unfold subscriptTail;rw[getitemInPython_of_ne ty.not_modules];refine AG (AG (AMn ty hl ?_))
 first|exact AM (all rfl)|exact AG (AM (all rfl))|exact all rfl
abbrev El:G2:=λx y L=>match x with
 |.ref i=>(match L[i]? with|some (.dt kvs _)=>(dNK y).bind λk=>(BL kvs k).map λd=>(d,L)|_=>none)
 |_=>none
def AFt{x y d:D}{L L':AB}(e:El x y L=some (d,L')):∃i kvs ep k,x=.ref i/\L[i]?=some (.dt kvs ep)/\dNK y=some k/\BL kvs k=some d/\L'=L:=by
 unfold El at e;split at e
 .rename_i i;split at e
  .rename_i kvs ep e1;obtain⟨k,e2,e3⟩:=ALj.mp e;obtain⟨d',e4,e5⟩:=GU.mp e3;cases e5;exact⟨i,kvs,ep,k,rfl,e1,e2,e4,rfl⟩
  .cases e
 .cases e
def AHc(hu:X.A.units+64<cLine):OK X El:=by
 rintro value slice pins s Y H x y v u Q I rx ry ⟨O,L,dx,dy,d,L',rs,ix,iy,e,k⟩ hs;obtain⟨i,kvs,ep,k0,rfl,e1,e2,e3,rfl⟩:=AFt e
 cases ix with|ref hi =>
  obtain⟨us,xs,ha,hsm,hz,r3,hk,dd⟩:=JZ I (rs.ob i _ _ hi e1);obtain⟨b,rfl,ik⟩:=JO iy e2;cases rx;cases ry;rcases r3.look k0 with⟨n,_⟩|⟨d',b',v',u',l,at_,iv,rv,_⟩
  .rw[e3] at n;cases n
  .rw[e3] at l;cases l;refine AAw PySem.F.slot_dict_getitem.lookup hs dd.of.typeIs (wpAny_getItem_heap (show X.A.in1.units+1<cLine from by show X.A.units+1+1<cLine;omega) (IH I ik) dd.of at_ ?_);exact⟨v',H,I.tok _,rv,k _ _ _ (.refl _ _) rs iv⟩
abbrev Gj(neg:Bool):G2:=λx y L=>match y with
 |.ref i=>(match L[i]? with|some (.dt kvs _)=>(dNK x).map λk=>(.bl (neg != (BL kvs k).isSome),L)|_=>none)
 |_=>none
def Xb{neg:Bool}{x y d:D}{L L':AB}(e:Gj neg x y L=some (d,L')):∃i kvs ep k,y=.ref i/\L[i]?=some (.dt kvs ep)/\dNK x=some k/\d=.bl (neg != (BL kvs k).isSome)/\L'=L:=by
 unfold Gj at e;split at e
 .rename_i i;split at e
  .rename_i kvs ep e1;obtain⟨k,e2,e3⟩:=GU.mp e;cases e3;exact⟨i,kvs,ep,k,rfl,e1,e2,rfl,rfl⟩
  .cases e
 .cases e
def CZ.some_eq{K:AK}{H:Hp}{O:AM6}{kvs:List (NK×D)}{us:List (NK×Addr×V)}{xs:List (NK×Addr×Value)}(r:CZ K H O kvs us xs)(k:NK):(atKey xs k).isSome=(BL kvs k).isSome:=by
 rcases r.look k with⟨a,b⟩|⟨d,b,v,u,h1,h2,_⟩
 .rw[a,b];rfl
 .rw[h1,h2];rfl
def AJI(hu:X.A.units+64<cLine):Ci X (compareOp .In) (Gj false):=by
 rintro pins s Y H x y v u Q I rx ry ⟨O,L,dx,dy,d,L',rs,ix,iy,e,k⟩;obtain⟨i,kvs,ep,k0,rfl,e1,e2,rfl,rfl⟩:=Xb e
 cases iy with|ref hi =>
  obtain⟨us,xs,ha,hsm,hz,r3,hk,dd⟩:=JZ I (rs.ob i _ _ hi e1);obtain⟨b,rfl,ik⟩:=JO ix e2;cases rx;cases ry;refine wpAny_in_heap (show X.A.in1.units+1<cLine from by show X.A.units+1+1<cLine;omega) (IH I ik) hsm dd.of ?_;rw[r3.some_eq];exact⟨.bl (BL kvs k0).isSome,H,I.tok _,rfl,k _ _ _ (.refl _ _) rs (by rw[Bool.false_bne];exact .bl _)⟩
def AI9(hu:X.A.units+64<cLine):Ci X (compareOp .NotIn) (Gj true):=by
 rintro pins s Y H x y v u Q I rx ry ⟨O,L,dx,dy,d,L',rs,ix,iy,e,k⟩;obtain⟨i,kvs,ep,k0,rfl,e1,e2,rfl,rfl⟩:=Xb e
 cases iy with|ref hi =>
  obtain⟨us,xs,ha,hsm,hz,r3,hk,dd⟩:=JZ I (rs.ob i _ _ hi e1);obtain⟨b,rfl,ik⟩:=JO ix e2;cases rx;cases ry;refine wpAny_notIn_heap (show X.A.in1.units+1<cLine from by show X.A.units+1+1<cLine;omega) (IH I ik) hsm dd.of ?_;rw[r3.some_eq];exact⟨.bl (!(BL kvs k0).isSome),H,I.tok _,rfl,k _ _ _ (.refl _ _) rs (by rw[Bool.true_bne];exact .bl _)⟩
end
abbrev Hn:EF:=λ_ L=>some (.ref L.length,L++[.dt [] 0])
section
variable {X:Cx}{pos:Pos}
def AGM{P:Program}{w:World}{H:Hp}(h:Heap)(hb:sysModules<h.objs.size):Bq P w H (h.push {cls:=.type "dict",data:=.dict #[]}) h.objs.size (.dN [] 0) :=
 ⟨Dg _,beq_eq_false_iff_ne.mpr (Ne.symm (BQ hb)),[],.nil,_,#[],Heap.get?_push_size _ rfl,⟨rfl,rfl,rfl⟩,rfl,rfl,ALb⟩
def AKg:AW X (.Dict [] [] pos) Hn:=λpins s Y H Q I z6_=>by
 obtain⟨O,ρ,L,d,L',r,e,k⟩:=z6_;cases e;have hp:=I.hok.fresh (Ae s.heap.objs.size);have st:Ai H O (upd H s.heap.objs.size (.dN [] 0)) (O++[s.heap.objs.size]):=⟨.new hp,Am _ _⟩
 exact wpAny_Dict_empty ⟨.ref s.heap.objs.size,_,I.laid (a:=s.heap.objs.size) (o:=.dN [] 0) (t':=s.toks) (λ_ _ q=>Heap.get?_push_of_some _ q) (Ae _) (AGM s.heap I.big),rfl,
  k _ _ _ st (r.s.new hp ⟨[],Bu,rfl,.nil,λu hu=>(nomatch hu)⟩) (.ref (by rw[<-r.s.len];simp))⟩
end
abbrev putU(us:List (NK×Addr×V))(k:NK)(b:Addr)(v:V):List (NK×Addr×V) :=
 if (us.any λu=>decide (u.1=k))=true then us.map (λu=>if u.1=k then (u.1,u.2.1,v) else u) else us++[(k,b,v)]
section
variable {K:AK}{H:Hp}{O:AM6}
def CZ.anyU{kvs:List (NK×D)}{us:List (NK×Addr×V)}{xs:List (NK×Addr×Value)}(r:CZ K H O kvs us xs)(k:NK) :
  (us.any λu=>decide (u.1=k))=(atKey xs k).isSome/\(kvs.any λu=>decide (u.1=k))=(atKey xs k).isSome:=by
 induction r with
 |nil=>exact⟨rfl,rfl⟩
 |@cons k' d b v u kvs us xs i rv t ih =>
  by_cases e:k'=k
  .subst e;simp[atKey]
  .have e2:atKey ((k',b,u)::xs) k=atKey xs k:=by simp[atKey,Ez,e]
   rw[e2,ALZ,ALZ,ih.1,ih.2];simp[e]
def CZ.repl{kvs:List (NK×D)}{us:List (NK×Addr×V)}{xs:List (NK×Addr×Value)}(r:CZ K H O kvs us xs)(k:NK){d:D}{v:V}{u:Value}(i:Is K H O v d)(rv:AY v u) :
  CZ K H O (kvs.map λkv=>if kv.1=k then (kv.1,d) else kv) (us.map λq=>if q.1=k then (q.1,q.2.1,v) else q) (xs.map (putAt k u)):=by
 induction r with
 |nil=>exact .nil
 |@cons k' d' b v' u' kvs us xs i' rv' t ih =>
  rw[Ak,Ak,Ak];unfold putAt
  by_cases e:k'=k
  .rw[if_pos e,if_pos e,if_pos e];exact .cons i rv ih
  .rw[if_neg e,if_neg e,if_neg e];exact .cons i' rv' ih
def CZ.snoc{kvs:List (NK×D)}{us:List (NK×Addr×V)}{xs:List (NK×Addr×Value)}(r:CZ K H O kvs us xs){k:NK}{b:Addr}{d:D}{v:V}{u:Value}(i:Is K H O v d)(rv:AY v u) :
  CZ K H O (kvs++[(k,d)]) (us++[(k,b,v)]) (xs++[(k,b,u)]):=by
 induction r with
 |nil=>exact .cons i rv .nil
 |cons i' rv' t ih=>exact .cons i' rv' ih
def CZ.put{kvs:List (NK×D)}{us:List (NK×Addr×V)}{xs:List (NK×Addr×Value)}(r:CZ K H O kvs us xs)(k:NK){b:Addr}{d:D}{v:V}{u:Value}(i:Is K H O v d)(rv:AY v u) :
  CZ K H O (CO kvs k d) (putU us k b v) (storedH xs k b u):=by
 obtain⟨e1,e2⟩:=r.anyU k;unfold CO putU storedH;rw[e1,e2]
 by_cases q:(atKey xs k).isSome=true
 .rw[if_pos q,if_pos q,if_pos q];exact r.repl k i rv
 .rw[if_neg q,if_neg q,if_neg q];exact r.snoc i rv
def CZ.parts{kvs:List (NK×D)}{us:List (NK×Addr×V)}{xs:List (NK×Addr×Value)}(r:CZ K H O kvs us xs):us.map (·.1)=kvs.map (·.1)/\AN K H O (us.map (·.2.2)) (kvs.map (·.2)) /\
  Paired (λ(p:NK×Addr×V) (q:NK×Addr×Value)=>p.1=q.1/\p.2.1=q.2.1/\AY p.2.2 q.2.2) us xs:=by
 induction r with
 |nil=>exact⟨rfl,.nil,.nil⟩
 |cons i rv t ih=>exact⟨by rw[Ak,Ak,ih.1],.cons i ih.2.1,.cons ⟨rfl,rfl,rv⟩ ih.2.2⟩
def CZ.len{kvs:List (NK×D)}{us:List (NK×Addr×V)}{xs:List (NK×Addr×Value)}(r:CZ K H O kvs us xs):us.length=kvs.length/\xs.length=kvs.length:=by
 induction r with
 |nil=>exact⟨rfl,rfl⟩
 |cons i rv t ih=>simp[ih.1,ih.2]
def ACV{kvs:List (NK×D)}{k:NK}{d:D}:(CO kvs k d).length<=kvs.length+1:=by unfold CO;split <;> simp
def ACS{us:List (NK×Addr×V)}{k:NK}{b:Addr}{v:V}{P:NK->Addr->Prop}(h:∀u∈us,P u.1 u.2.1)(hb:P k b):∀u∈putU us k b v,P u.1 u.2.1:=by
 intro u hu;unfold putU at hu;split at hu
 .rw[BA] at hu;obtain⟨q,hq,rfl⟩:=hu;split
  .exact h q hq
  .exact h q hq
 .rcases Bx.mp hu with hu|hu
  .exact h u hu
  .rw[show u=(k,b,v) by simpa using hu];exact hb
end
abbrev epN(kvs:List (NK×D))(k:NK)(ep:Nat):Nat:=if (kvs.any λkv=>decide (kv.1=k))=true then ep else ep+1
abbrev Hi(o i v:D)(L:AB):Option AB:=match o with
 |.ref n=>(match L[n]? with|some (.dt kvs ep)=>if kvs.length<16777216 then (dNK i).map λk=>L.set n (.dt (CO kvs k v) (epN kvs k ep)) else none|_=>none)
 |_=>none
def AFu{o i v:D}{L L':AB}(e:Hi o i v L=some L'):∃n kvs ep k,o=.ref n/\L[n]?=some (.dt kvs ep)/\kvs.length<16777216/\dNK i=some k/\L'=L.set n (.dt (CO kvs k v) (epN kvs k ep)):=by
 unfold Hi at e;split at e
 .rename_i n;split at e
  .rename_i kvs ep e1;split at e
   .rename_i hz;obtain⟨k,e2,rfl⟩:=GU.mp e;exact⟨n,kvs,ep,k,rfl,e1,hz,e2,rfl⟩
   .cases e
  .cases e
 .cases e
abbrev ACH(K:AK):OE:=λo i v H Q=>∃O L x y d L',Al K H O L/\Is K H O o x/\Is K H O i y/\Is K H O v d/\Hi x y d L=some L'/\∀H',Ai H O H' O->Al K H' O L'->Q H'
section
variable {X:Cx}{o i e:Expr}{fo fi fv:EF}{pos:Pos}
def Xq{pins:List (Addr×Obj)}{Y:L2.St}{H:Hp}{s:Shared}{O:AM6}{L:AB}{n ep:Nat}{a b:Addr}{kvs:List (NK×D)}{k:NK}{v:V}{u:Value}{d:D}{us:List (NK×Addr×V)}{xs:List (NK×Addr×Value)}{h':Heap}{t':Nat}
  (I:AI X pins Y H s) (rs:Al X.K H O L) (hn:O[n]?=some a) (hz:kvs.length<16777216) (ha:H a=some (.dN us ep)) (hsm:(a == sysModules)=false) (r3:CZ X.K H O kvs us xs) (hk:∀u∈us,Is X.K H O (.ref u.2.1) (Dl u.1))
  (ik:Is X.K H O (.ref b) (Dl k)) (iv:Is X.K H O v d) (rv:AY v u) (dd:CK (Ge X.prog X.w) h' a (storedH xs k b u) (Eo xs k ep)) (hs:Heap.SameBut a s.heap h') :
  AI X pins Y (upd H a (.dN (putU us k b v) (epN kvs k ep))) {s with heap:=h',toks:=t'}/\Ai H O (upd H a (.dN (putU us k b v) (epN kvs k ep))) O/\Al X.K (upd H a (.dN (putU us k b v) (epN kvs k ep))) O (L.set n (.dt (CO kvs k d) (epN kvs k ep))):=by
 have rp:=r3.put k (b:=b) iv rv;obtain⟨p1,p2,p3⟩:=rp.parts;have ee:Eo xs k ep=epN kvs k ep:=by unfold Eo epN;rw[(r3.anyU k).2]
 rw[ee] at dd
 have hl:(putU us k b v).length<=sizeLine:=by rw[rp.len.1,sizeLine_eq];have:=ACV (kvs:=kvs) (k:=k) (d:=d);omega
 have st:Ai H O (upd H a (.dN (putU us k b v) (epN kvs k ep))) O:=⟨.write ha id,AR _⟩;obtain⟨q,es,hq,h2,h3,h4,_,h5⟩:=dd;refine⟨AGP I (by rw[ha];exact True.intro) hs ⟨q,hq⟩ ⟨hl,hsm,_,p3,q,es,hq,h2,h3,h4,h5⟩,st,?_⟩;exact rs.write (o':=.dt (CO kvs k d) (epN kvs k ep)) hn ⟨_,Bu,p1,p2.mono st,λx hx=>(ACS (P:=λk b=>Is X.K H O (.ref b) (Dl k)) hk ik x hx).mono st⟩
def ABp(hu:X.A.units+64<cLine):Sl X (ACH X.K):=by
 rintro pins s Y H o i v ov iv u Q I ro ri rv ⟨O,L,x,y,d,L',rs,io,ii,idv,e,k⟩;obtain⟨n,kvs,ep,k0,rfl,e1,hz,e2,rfl⟩:=AFu e
 cases io with|ref hn =>
  obtain⟨us,xs,ha,hsm,hz',r3,hk,dd⟩:=JZ I (rs.ob n _ _ hn e1);obtain⟨b,rfl,ik⟩:=JO ii e2;cases ro;cases ri;refine ABq (show X.A.in1.units+1<cLine from by show X.A.units+1+1<cLine;omega) (IH I ik) dd (by rw[r3.len.2,sizeLine_eq];omega) λh' dd' hs=>?_;obtain⟨I',st,rs'⟩:=Xq (t':=s.toks+(Ge X.prog X.w).draws k0) I rs hn hz ha hsm r3 hk ik idv rv dd' hs;exact⟨_,I',k _ st rs'⟩
abbrev Hl(fo fi fv:EF):SF:=λρ L=>(fv ρ L).bind λv=>(fo ρ v.2).bind λo=>(fi ρ o.2).bind λi=>(Hi o.1 i.1 v.1 i.2).bind λL'=>some (.next ρ L')
def AIk{p2:Pos}(hu:X.A.units+64<cLine)(ho:AW X o fo)(hi:AW X i fi)(he:AW X e fv)(hs:swapsWithSole [.Subscript o i p2] e pos.line X.env=pure false:=by rfl)(hw:swappedStores [.Subscript o i p2] e X.env=pure none:=by rfl)
  (h1:(assignEach [.Subscript o i p2] X.env).map (·.2)=[assign (.Subscript o i p2) X.env]:=by rfl)
  (ha:∀v,assign (.Subscript o i p2) X.env v=(do
   let ov <-holding [v] (eval o X.env)
   let iv <-holding [v,ov] (eval i X.env)
   standAt p2
   holding [v,ov,iv] (setItem ov iv v)
   release [v,ov,iv] []):=by intro _;rfl):Dc X (.Assign [.Subscript o i p2] e pos) (Hl fo fi fv) :=
 PS.weaken (RF he (Vg ho hi (ABp hu) ha) hs hw h1) λD Y H z3_=>by
  obtain⟨O,ρ,L,out,r,ee,k⟩:=z3_;unfold Hl at ee;obtain⟨p,e1,ee⟩:=bS ee;obtain⟨q,e2,ee⟩:=bS ee;obtain⟨w,e3,ee⟩:=bS ee
  cases e4:Hi q.1 w.1 p.1 w.2 with
  |none=>rw[e4] at ee;cases ee
  |some L' =>
   rw[e4] at ee;cases ee;refine⟨O,ρ,L,p.1,p.2,r,e1,λv H1 O1 st1 rs1 is1=>⟨O1,ρ,p.2,q.1,q.2,r.to st1 rs1,e2,λov H2 O2 st2 rs2 is2=>⟨O2,ρ,q.2,w.1,w.2,r.to (st1.trans st2) rs2,e3,λiv H3 O3 st3 rs3 is3=>?_⟩⟩⟩;refine⟨O3,w.2,q.1,w.1,p.1,L',rs3,is2.mono st3,is3,(is1.mono st2).mono st3,e4,λH4 st4 rs4=>?_⟩;have stA:=((st1.trans st2).trans st3).trans st4;exact k _ _ _ stA ⟨rs4,r.f.mono stA⟩
end
open Sem (wp)
section
variable {prog:Program}{w:World}{κ:Type}[DecidableEq κ]{knd:HeapKind prog w κ}{A:Around}{E:ANB}{s:Shared}{d a:Addr}{k:κ}{xs:List (κ×Addr×Value)}{ep:Nat}
def CK.entry{h:Heap}(x:CK knd h d xs ep){j:Nat}{q:Addr×Value}(hj:xs[j]?=some (k,q)):∃o es,h.get? d=some o/\o.data=.dict es ep/\es[j]?=some (entryOfKey knd (k,q)):=by obtain⟨o,es,g,ex,dat,el,_⟩:=x;exact⟨o,es,g,dat,by rw[entry_at el,hj];rfl⟩
def ABr{dv:Value}{Q:ANB}(hu:knd.room A)(hk:knd.is s.heap k a)(x:CK knd s.heap d xs ep)(hz:xs.length<=sizeLine)
  (there:∀p,atKey xs k=some p->Q p.2 {s with toks:=s.toks+knd.draws k})
  (new:atKey xs k=none->∀h',CK knd h' d (storedH xs k a dv) (Eo xs k ep)->Heap.SameBut d s.heap h'->Q dv {s with heap:=h',toks:=s.toks+knd.draws k}) :
  wpAny (model prog w) A (dictSetDefault d (.ref a) dv) Q E s:=by
 obtain⟨o,es,g,dat,sz⟩:=x.room;unfold dictSetDefault
 (try with_reducible refine Ck ?_)
 refine AG (knd.pyHash hu hk ?_);refine AG (CK.find (s:={s with toks:=s.toks+knd.draws k}) hu hk x (λn=>?_) λj p hj e=>?_)
 .obtain⟨y,sb⟩:=x.grown n hk dv;have e1:Eo xs k ep=ep+1:=by simp[Eo,n]
  rw[e1,storedH_new n] at new;exact AG (AMm (AG (wpAny_updateDictKeys (s:={s with toks:=s.toks+knd.draws k}) (hz:=by omega) g dat (AM (new n _ y sb)))))
 .obtain⟨o',es',g',dat',ee⟩:=x.entry hj;refine AG (AMy (s:={s with toks:=s.toks+knd.draws k}) g' dat' ?_);rw[ee];exact AG (AMm (AM (there p e)))
def AEV(hd:(d == sysModules)=false)(dflt:Value) :
  MeetsIn prog w (Builtin.«dict.setdefault» ⟨[.ref d,.ref a,dflt],[]⟩) (λA R s=>knd.room A.in1/\∃k xs ep,knd.is s.heap k a/\CK knd s.heap d xs ep/\xs.length<=sizeLine /\
   (∀p,atKey xs k=some p->R (.ok (.ret p.2)) {s with toks:=s.toks+knd.draws k}) /\
   (atKey xs k=none->∀h',CK knd h' d (storedH xs k a dflt) (Eo xs k ep)->Heap.SameBut d s.heap h'->R (.ok (.ret dflt)) {s with heap:=h',toks:=s.toks+knd.draws k})) :=
 .of_wp λA R s z3_=>by
  obtain⟨hu,k,xs,ep,hkey,hm,hz,h1,h2⟩:=z3_;unfold Builtin.«dict.setdefault»;refine AG ?_;unfold Builtin.Dict.keyAndDefault;refine AG (AMx hm.of.typeIs ?_);show wpAny _ _ (pure (d,Value.ref a,some dflt)) _ _ s;refine AM ?_
  show wpAny _ _ (if (d == sysModules)=true then _ else (dictSetDefault d (.ref a) dflt >>= _)) _ _ s
  rw[if_neg (by rw[hd];exact Bz)];exact AG (ABr hu hkey hm hz (λp hp=>AM ⟨p.2,rfl,h1 p hp⟩) λhn h' hm' hs'=>AM ⟨dflt,rfl,h2 hn h' hm' hs'⟩)
end
section
variable {X:Cx}
abbrev LD:GM:=λx xs L=>match x,xs with
 |.ref i,[y]=>(match L[i]? with|some (.dt kvs _)=>(dNK y).map λk=>((BL kvs k).getD .non,L)|_=>none)
 |_,_=>none
def AJZ(hu:X.A.units+64<cLine):MtD X "dict.get" LD:=λpins s Y H x xs v us Q I rx rv z12_=>by
 obtain⟨O,L,dx,dxs,d,L',rp,ix,ixs,e,k⟩:=z12_;unfold LD at e;split at e
 .rename_i i y;split at e
  .rename_i kvs ep e1;obtain⟨k0,e2,e3⟩:=GU.mp e;cases e3
   cases ix with|ref hi =>
    cases ixs with|cons i1 i2 =>
     cases i2;obtain⟨us',ys,ha,hsm,hz,r3,hk,dd⟩:=JZ I (rp.ob i _ _ hi e1);obtain⟨b,rfl,ik⟩:=JO i1 e2;cases rx;obtain⟨u,rfl,ru⟩:=Dy rv;cases (show u=Value.ref b from ru);refine call_meetsIn PySem.F.slot_dict_get dd.of.typeIs PySem.F.entry_dict_get (PySem.F.args_dict_get_2 _ _) (meetsH_dict_get (Ge X.prog X.w) _ b hsm) ⟨show X.A.in1.units+1<cLine from by show X.A.units+1+1<cLine;omega,k0,ys,IH I ik,dd.of,?_⟩;rcases r3.look k0 with⟨n1,n2⟩|⟨d',b',v',u',l,at_,iv,rv',_⟩
     .rw[n1] at k;rw[n2];exact⟨.non,H,I.tok _,rfl,k _ _ _ (.refl _ _) rp .non⟩
     .rw[l] at k;rw[at_];exact⟨v',H,I.tok _,rv',k _ _ _ (.refl _ _) rp iv⟩
  .cases e
 .cases e
abbrev HG:GM:=λx xs L=>match x,xs with
 |.ref i,[y,v]=>(match L[i]? with
  |some (.dt kvs ep)=>(dNK y).bind λk=>(match BL kvs k with|some d=>some (d,L)|none=>if kvs.length<16777216 then some (v,L.set i (.dt (CO kvs k v) (epN kvs k ep))) else none)
  |_=>none)
 |_,_=>none
def AJS(hu:X.A.units+64<cLine):MtD X "dict.setdefault" HG:=λpins s Y H x xs v us Q I rx rv z12_=>by
 obtain⟨O,L,dx,dxs,d,L',rp,ix,ixs,e,k⟩:=z12_;unfold HG at e;split at e
 .rename_i i y dv;split at e
  .rename_i kvs ep e1;obtain⟨k0,e2,e3⟩:=ALj.mp e
   cases ix with|ref hi =>
    cases ixs with|@cons v1 _ _ _ i1 i2=>cases i2 with|@cons v2 _ _ _ j1 j2 =>
     cases j2;obtain⟨us',ys,ha,hsm,hz,r3,hk,dd⟩:=JZ I (rp.ob i _ _ hi e1);obtain⟨b,rfl,ik⟩:=JO i1 e2;cases rx
     cases rv with|@cons _ u1 _ _ ru1 rv2=>cases rv2 with|@cons _ u2 _ _ ru2 rv3 =>
      cases rv3;cases (show u1=Value.ref b from ru1);refine call_meetsIn PySem.F.slot_dict_setdefault dd.of.typeIs PySem.F.entry_dict_setdefault (PySem.F.args_dict_setdefault_3 _ _ _) (AEV (knd:=Ge X.prog X.w) hsm u2) ⟨show X.A.in1.units+1<cLine from by show X.A.units+1+1<cLine;omega,k0,ys,ep,IH I ik,dd,by rw[r3.len.2,<-r3.len.1];exact hz,λp hp=>?_,λhn h' dd' hs=>?_⟩
      .rcases r3.look k0 with⟨n1,n2⟩|⟨d',b',v',u',l,at_,iv,rv',_⟩
       .rw[n2] at hp;cases hp
       .rw[at_] at hp;cases hp;rw[l] at e3;cases e3;exact⟨v',H,I.tok _,rv',k _ _ _ (.refl _ _) rp iv⟩
      .rcases r3.look k0 with⟨n1,n2⟩|⟨d',b',v',u',l,at_,iv,rv',_⟩
       .rw[n1] at e3;simp only at e3;split at e3
        .rename_i hz2;cases e3;obtain⟨I',st,rs'⟩:=Xq (t':=s.toks+(Ge X.prog X.w).draws k0) I rp hi hz2 ha hsm r3 hk ik j1 ru2 dd' hs;exact⟨v2,_,I',ru2,k _ _ _ st rs' (j1.mono st)⟩
        .cases e3
       .rw[at_] at hn;cases hn
  .cases e
 .cases e
abbrev IP:GM:=λx xs L=>match x,xs with
 |.ref i,[.ref j]=>(match L[i]?,L[j]? with|some (.lst as),some (.lst bs)=>if as.length+bs.length<=16777216 then some (.non,L.set i (.lst (as++bs))) else none|_,_=>none)
 |_,_=>none
def AJY:MtD X "list.extend" IP:=Ev.weaken (show Ev X "list.extend" rExtend from AEN) λv vs H Q z4_=>by
 obtain⟨O,L,dx,dxs,d,L',rp,ix,ixs,e,k⟩:=z4_;unfold IP at e;split at e
 .rename_i i j;split at e
  .rename_i as bs e1 e2;split at e
   .rename_i hz;cases e
    cases ix with|@ref _ a hi =>
     cases ixs with|@cons v1 y1 _ _ i1 i2 =>
      cases i2
      cases i1 with|@ref _ b hj =>
       obtain⟨ws,hw,il⟩:=rp.ob _ _ _ hi e1;obtain⟨zs,hzs,il2⟩:=rp.ob _ _ _ hj e2;refine⟨_,_,ws,zs,rfl,rfl,hw,hzs,by rw[il.length,il2.length,sizeLine_eq];exact hz,?_⟩;have st:Ai H O (upd H a (.lst (ws++zs))) O:=⟨.write hw id,AR _⟩;exact k _ _ _ st (rp.write (o':=.lst (as++bs)) hi ⟨_,Bu,(il.mono st).append (il2.mono st)⟩) .non
   .cases e
  .cases e
 .cases e
end
abbrev Ib(h:Heap)(d:Addr)(es:Array DictEntry)(ep:Nat):Prop:=∃o,h.get? d=some o/\o.data=.dict es ep
section
variable {prog:Program}{w:World}{A:Around}{E:ANB}{s:Shared}{t d v:Addr}{i ep:Nat}{es:Array DictEntry}{Q:Option Value->Shared->Prop}
def RT{α:Type}{h0:Heap}{E':ANB}(hh:A.handled=none)(k:Heap.ExtBut t h0 s.heap)(fin:∀h',Heap.ExtBut t h0 h'->∀e,(∃o,h'.get? e=some o/\o.cls=.type "StopIteration")->E' (.ref e) {s with heap:=h'}){R:α->Shared->Prop} :
  wpAny (model prog w) A (newExc (.type "StopIteration") [] >>= λx=>(raiseNew x:Sem α)) R E' s:=by
 refine AG ?_;simp only[newExc,newTuple];refine AG (AMv (AG (m:=firstArgMember _ _) (wpAny_of_eq (a:=Value.none) (by simp only[firstArgMember];rfl) (AMv ?_ (by size_fits)))) (by size_fits));simp only[raiseNew];refine AG (wpAny_handled ?_);rw[hh];exact AG (AM (wpAny_throw (fin _ ((k.push _).push _) _ ⟨_,Heap.get?_push_size _ rfl,rfl⟩)))
def Na(hh:A.handled=none)(it:s.heap.IsKeyIter t d i es.size ep)(en:Ib s.heap d es ep)
  (more:∀e,es[i]?=some e->∀h',h'.IsKeyIter t d (i+1) es.size ep->Heap.SameBut t s.heap h'->Q (some e.key) {s with heap:=h'})
  (fin:es[i]?=none->∀h',Heap.ExtBut t s.heap h'->Q none {s with heap:=h'}):wpAny (model prog w) A (pyNext (.ref t)) Q E s:=by
 obtain⟨ot,gt,ct,dt⟩:=id it;obtain⟨od,gd,dd⟩:=en;have ty:=it.typeIs
 have inner:∀{F:ANB} {R:ANB},(∀e,es[i]?=some e->∀h',h'.IsKeyIter t d (i+1) es.size ep->Heap.SameBut t s.heap h'->R e.key {s with heap:=h'}) ->
   (es[i]?=none->∀h',Heap.ExtBut t s.heap h'->∀x,(∃o,h'.get? x=some o/\o.cls=.type "StopIteration")->F (.ref x) {s with heap:=h'}) ->
   wpAny (model prog w) A.in1 (Builtin.«dict_keyiterator.__next__» ⟨[.ref t],[]⟩) (λfi s2=>∃v,fi=PySem.Fin.done (Flow.ret v)/\R v s2) F s:=λ{F R} one none_=>by
  refine AG (AM (AG (AG (AG (AMz ty (AM (AG (wpAny_fieldsOf gt dt ?_))))))));rw[show Builtin.Dict_items.ownsTuple "dict_keyiterator"=false from by decide]
  show wpAny _ _ (if (Value.ref d == Value.none)=true then _ else _) _ _ s
  rw[if_neg (λz=>by cases (show(false:Bool)=true from z))];refine AG (AM (AG (AMy gd dd ?_)));rw[if_neg (by simp)];refine AG (AM (AG (wpAny_dictEpoch gd dd ?_)));rw[if_neg (by simp)];refine AM ?_;have i0:¬((i:Int)<0):=by omega
  simp only[i0,if_false,ALW]
  cases ee:es[i]? with
  |none =>
   refine AG (AG (AMz ty (AM ?_)));refine AG (m:=setField (.ref t) 0 .none) (wpAny_setField gt dt (by simp) ?_);exact RT (A:=A.in1) (t:=t) (h0:=s.heap) (s:={s with heap:=s.heap.update t (Obj.mapFields (·.setIfInBounds 0 .none))}) hh (Heap.SameBut.update ..).extBut λh' k x hx=>none_ ee h' k x hx
  |some e =>
   refine AG (AG (AMz ty (AM (AG (wpAny_isOneOf_keyiter ty ?_)))))
   have it':(s.heap.update t (Obj.mapFields (·.setIfInBounds 1 (rawInt ((i:Int)+1))))).IsKeyIter t d (i+1) es.size ep :=
    ⟨_,Heap.get?_update_self _ gt (Obj.isFreed_of_fields (Obj.data_mapFields dt _)),(Obj.cls_mapFields ..).trans ct,by rw[Obj.data_mapFields dt];simp[rawInt]⟩
   refine AG (m:=setField (.ref t) 1 (rawInt ((i:Int)+1))) (wpAny_setField gt dt (by simp) (AG (Ck (AG (wpAny_isOneOf_keyiter it'.typeIs ?_)))));exact AM (AM ⟨_,rfl,one e ee _ it' (Heap.SameBut.update ..)⟩)
 unfold pyNext;refine AG (wpAny_attempt (AMu (name:=Str.ofString "__next__") ty F.slot_dict_keyiterator_next (Fx F.slot_dict_keyiterator_next ty F.entry_dict_keyiterator_next (inner (λe ee h' i' sb=>AM (more e ee h' i' sb)) λen h' k x hx=>?_) (F.args_dict_keyiterator_next_1 _))));obtain⟨o,g,c⟩:=hx;exact AG (AMo (T:="StopIteration") (b:=true) ⟨o,g,c⟩ isSubtype_stop (AM (fin en h' k)))
abbrev Yt(h:Heap)(t d:Addr)(i n ep:Nat):Prop:=∃a b,IsItemIter h t d i n ep a b
abbrev Ys(h:Heap)(t d:Addr)(i n ep:Nat)(T:Addr):Prop:=∃a b,IsItemIterOut h t d i n ep a b T
def Vk(hh:A.handled=none)(it:Yt s.heap t d i es.size ep)(en:Ib s.heap d es ep)
  (more:∀e,es[i]?=some e->∀h',Ys h' t d (i+1) es.size ep s.heap.objs.size->h'.get? s.heap.objs.size=some {cls:=.type "tuple",data:=.seq #[e.key,e.val]}->h'.objs.size=s.heap.objs.size+1->(∀b o,b≠t->s.heap.get? b=some o->h'.get? b=some o)->Q (some (.ref s.heap.objs.size)) {s with heap:=h'})
  (fin:es[i]?=none->∀h',Heap.ExtBut t s.heap h'->Q none {s with heap:=h'}):wpAny (model prog w) A (pyNext (.ref t)) Q E s:=by
 obtain⟨ka,va,gt⟩:=it;obtain⟨od,gd,dd⟩:=en;have ty:s.TypeIs (.ref t) "dict_itemiterator":=⟨_,gt,rfl⟩;have tl:t<s.heap.objs.size:=Heap.lt_size gt
 have inner:∀{F:ANB} {R:ANB},
   (∀e,es[i]?=some e->∀h',Ys h' t d (i+1) es.size ep s.heap.objs.size->h'.get? s.heap.objs.size=some {cls:=.type "tuple",data:=.seq #[e.key,e.val]}->h'.objs.size=s.heap.objs.size+1->(∀b o,b≠t->s.heap.get? b=some o->h'.get? b=some o)->R (.ref s.heap.objs.size) {s with heap:=h'}) ->
   (es[i]?=none->∀h',Heap.ExtBut t s.heap h'->∀x,(∃o,h'.get? x=some o/\o.cls=.type "StopIteration")->F (.ref x) {s with heap:=h'}) ->
   wpAny (model prog w) A.in1 (Builtin.«dict_itemiterator.__next__» ⟨[.ref t],[]⟩) (λfi s2=>∃v,fi=PySem.Fin.done (Flow.ret v)/\R v s2) F s:=λ{F R} one none_=>by
  refine AG (AM (AG (AG (AG (AM0 ty (AM (AG (wpAny_fieldsOf gt rfl ?_))))))));rw[show Builtin.Dict_items.ownsTuple "dict_itemiterator"=true from by decide]
  show wpAny _ _ (if (Value.ref d == Value.none)=true then _ else _) _ _ s
  rw[if_neg (λz=>by cases (show(false:Bool)=true from z))];refine AG (AM (AG (AMy gd dd ?_)));rw[if_neg (by simp)];refine AG (AM (AG (wpAny_dictEpoch gd dd ?_)));rw[if_neg (by simp)];refine AM ?_;have i0:¬((i:Int)<0):=by omega
  simp only[i0,if_false,ALW]
  cases ee:es[i]? with
  |none =>
   refine AG (AG (AM0 ty (AM ?_)));refine AG (m:=setField (.ref t) 2 .none) (wpAny_setField gt rfl (by simp) ?_);exact RT (A:=A.in1) (t:=t) (h0:=s.heap) (s:={s with heap:=s.heap.update t (Obj.mapFields (·.setIfInBounds 2 .none))}) hh (Heap.SameBut.update ..).extBut λh' k x hx=>none_ ee h' k x hx
  |some e =>
   refine AG (AG (AM0 ty (AM (AG (wpAny_isOneOf_itemiter ty ?_)))));refine AG (m:=setField (.ref t) 3 (rawInt ((i:Int)+1))) (AM1 gt (by simp) λh1 g1 b1=>?_)
   have g1':IsItemIter h1 t d (i+1) es.size ep ka va:=by show h1.get? t=_;rw[show((i+1:Nat):Int)=(i:Int)+1 by omega];exact g1
   have ty1:Shared.TypeIs {s with heap:=h1} (.ref t) "dict_itemiterator":=⟨_,g1',rfl⟩;refine AG (Ck (AG (wpAny_isOneOf_itemiter ty1 (AG (wpAny_isOneOf_itemiter ty1 ?_)))));show wpAny _ _ (Builtin.Dict_items.pairFromOwner (.ref t) 6 e.key e.val) _ _ {s with heap:=h1};unfold Builtin.Dict_items.pairFromOwner;refine AG (wpAny_newTuple ?_)
   -- the tuple is laid
   have z1:h1.objs.size=s.heap.objs.size:=b1.1
   have lay:∀h2,h2=h1.push {cls:=.type "tuple",data:=.seq #[e.key,e.val]}->IsItemIter h2 t d (i+1) es.size ep ka va/\h2.get? s.heap.objs.size=some {cls:=.type "tuple",data:=.seq #[e.key,e.val]}/\h2.objs.size=s.heap.objs.size+1/\∀b o,b≠t->s.heap.get? b=some o->h2.get? b=some o:=λh2 e2=>by
    subst e2;exact⟨Heap.get?_push_of_some _ g1',by rw[<-z1];exact Heap.get?_push_size _ rfl,by rw[Heap.size_push,z1],λb o hb q=>Heap.get?_push_of_some _ (b1.extBut b o hb q)⟩
   show wpAny _ _ (Builtin.Dict_items.ownedTupleIsFree (.ref t) >>= _) _ _ {s with heap:=h1.push {cls:=.type "tuple",data:=.seq #[e.key,e.val]}};obtain⟨g2,u2,z2,k2⟩:=lay _ rfl;rw[z1];generalize h1.push {cls:=.type "tuple",data:=.seq #[e.key,e.val]}=h2 at g2 u2 z2 k2 ⊢;unfold Builtin.Dict_items.ownedTupleIsFree;refine AG (AG (EN (x:=.none) g2 rfl rfl (AM ?_)));rw[if_pos rfl];refine AG (EN (x:=ka) g2 rfl rfl (AG (EN (x:=va) g2 rfl rfl ?_)));refine AG (AM1 g2 (by simp) λh3 g3 b3=>AG (AM1 g3 (by simp) λh4 g4 b4=>AG (AM1 g4 (by simp) λh5 g5 b5=>AG (AM1 g5 (by simp) λh6 g6 b6=>?_))));have far:∀b o,b≠t->h2.get? b=some o->h6.get? b=some o:=λb o hb q=>b6.extBut b o hb (b5.extBut b o hb (b4.extBut b o hb (b3.extBut b o hb q)));have z6:h6.objs.size=h2.objs.size:=b6.1.trans (b5.1.trans (b4.1.trans b3.1));refine AG (AM2 (AM (AM ⟨_,rfl,one e ee h6 ⟨e.key,e.val,g6⟩ (far _ _ (Eb tl) u2) (z6.trans z2) λb o hb q=>far b o hb (k2 b o hb q)⟩)))
 unfold pyNext;refine AG (wpAny_attempt (AMu (name:=Str.ofString "__next__") ty F.slot_dict_itemiterator_next (Fx F.slot_dict_itemiterator_next ty F.entry_dict_itemiterator_next (inner (λe ee h' i' u z k=>AM (more e ee h' i' u z k)) λen h' k x hx=>?_) (F.args_dict_itemiterator_next_1 _))));obtain⟨o,g,c⟩:=hx;exact AG (AMo (T:="StopIteration") (b:=true) ⟨o,g,c⟩ isSubtype_stop (AM (fin en h' k)))
def Wh{R:ANB}(hd:(d == sysModules)=false)(ty:s.TypeIs (.ref d) "dict")(en:Ib s.heap d es ep)
  (k:R (.ref s.heap.objs.size) {s with heap:=s.heap.push {cls:=.type "dict_keyiterator",data:=.fields #[.ref d,.int 0 0,.int es.size 0,.int ep 0]}}):wpAny (model prog w) A (pyIter (.ref d)) R E s:=by
 obtain⟨od,gd,dd⟩:=en;refine wpAny_pyIter_slot ty F.slot_dict_iter (Fx F.slot_dict_iter ty F.entry_dict_iter ?_ (F.args_dict_iter_1 _));refine AG (AG (m:=Builtin.Dict.notOrdered "__iter__" ⟨[.ref d],[]⟩) (AMx ty (AM ?_)));refine AG (m:=Builtin.Dict.showsAll d) ?_;unfold Builtin.Dict.showsAll;rw[hd,if_neg Bz];refine AM (AG (AMy gd dd (AG (wpAny_dictEpoch gd dd (AG (AMv (AM ⟨_,rfl,"dict_keyiterator",_,⟨_,Heap.get?_push_size _ rfl,rfl⟩,F.slot_dict_keyiterator_next.lookup,?_⟩)))))));exact k
def AEW(hd:(d == sysModules)=false):MeetsIn prog w (Builtin.«dict.items» ⟨[.ref d],[]⟩) (λ_ R s=>s.TypeIs (.ref d) "dict"/\R (.ok (.ret (.ref s.heap.objs.size))) {s with heap:=s.heap.push {cls:=.type "dict_items",data:=.fields #[.ref d]}}) :=
 .of_wp λA R s z3_=>by
  obtain⟨ty,k⟩:=z3_;refine AG (AG (m:=Builtin.Dict.notOrdered "items" ⟨[.ref d],[]⟩) (AMx ty (AM ?_)));refine AG (m:=Builtin.Dict.showsAll d) ?_;unfold Builtin.Dict.showsAll;rw[hd,if_neg Bz];exact AM (AG (AMv (AM ⟨_,rfl,k⟩)))
def ADj{R:ANB}(hv:s.heap.IsItemsView v d)(en:Ib s.heap d es ep)
  (k:R (.ref s.heap.objs.size) {s with heap:=s.heap.push {cls:=.type "dict_itemiterator",data:=.fields #[.none,.bool false,.ref d,.int 0 0,.int es.size 0,.int ep 0,.none,.none]}}):wpAny (model prog w) A (pyIter (.ref v)) R E s:=by
 obtain⟨ov,gv,cv,dv⟩:=id hv;obtain⟨od,gd,dd⟩:=en;refine wpAny_pyIter_slot hv.typeIs F.slot_dict_items_iter (Fx F.slot_dict_items_iter hv.typeIs F.entry_dict_items_iter ?_ (F.args_dict_items_iter_1 _));refine AG (AM (AG (AG (EN (x:=.ref d) gv dv rfl (AM (AG (AG (AMy gd dd (AG (wpAny_dictEpoch gd dd ?_))))))))));show wpAny _ _ (newFields "dict_itemiterator" [.none,.bool false,.ref d,rawInt 0,rawInt es.size,rawInt ep,.none,.none]) _ _ s;refine AMv (AM ⟨_,rfl,"dict_itemiterator",_,⟨_,Heap.get?_push_size _ rfl,rfl⟩,F.slot_dict_itemiterator_next.lookup,?_⟩) (by rw[sizeOk,sizeLine_eq];show 8<=16777216+2;decide);exact k
end
section
variable {X:Cx}{pins:List (Addr×Obj)}{Y:L2.St}{H:Hp}{s:Shared}
def Paired.at{α β:Type}{R:α->β->Prop}:∀{l:List α} {m:List β} {j:Nat} {a:α},Paired R l m->l[j]?=some a->∃b,m[j]?=some b/\R a b
 |_,_,_,_,.nil,h=>by simp at h
 |_,_,0,_,.cons r _,h=>by simp at h;subst h;exact⟨_,rfl,r⟩
 |_,_,j+1,_,.cons _ t,h=>by
  obtain⟨b,e,q⟩:=Paired.at (j:=j) t (by simpa using h);exact⟨b,by simpa using e,q⟩
def Hm(I:AI X pins Y H s){a:Addr}{us:List (NK×Addr×V)}{ep:Nat}(h:H a=some (.dN us ep)) :
  (a == sysModules)=false/\(s.TypeIs (.ref a) "dict"/\∃o,s.heap.get? a=some o/\o.dict=none)/\∃es,Ib s.heap a es ep/\es.size=us.length/\∀(i:Nat) (u:NK×Addr×V),us[i]?=some u->∃e:DictEntry,es[i]?=some e/\e.key=.ref u.2.1/\AY u.2.2 e.val:=by
 obtain⟨z,y,xs,r,o,es,g,ex,dat,el,nd⟩:=(show Bq X.prog X.w H s.heap a (.dN us ep) from I.hok a _ h);have hl:xs.length=us.length:=(Paired.length r).symm;refine⟨y,⟨⟨o,g,ex.1⟩,o,g,ex.2.1⟩,es,⟨o,g,dat⟩,?_,λi u hu=>?_⟩
 .rw[<-AMK,el,Ah,hl]
 .obtain⟨q,hq,h1,h2,h3⟩:=Paired.at r hu;refine⟨entryOfKey (Ge X.prog X.w) q,?_,by show Value.ref q.2.1=_;rw[h2],h3⟩;rw[<-Array.getElem?_toList,el,Ar,hq];rfl
end
abbrev Itk(a:Addr)(n ep:Nat):It :=
 ⟨λi H=>∃us,H a=some (.dN us ep)/\us.length=n/\i<n,λi H v H'=>H'=H/\∀us,H a=some (.dN us ep)->∃u,us[i]?=some u/\v=.ref u.2.1,λi H=>∃us,H a=some (.dN us ep)/\us.length=n/\n<=i⟩
def AAq{P:Program}{w:World}{K:AK}{tg:Expr}(a it:Addr)(n ep:Nat):Gr P w K tg (Itk a n ep) [it] it (λi h=>h.IsKeyIter it a i n ep) where
 mem:=by simp
 obj:=λi h st b hb=>by
  obtain rfl:b=it:=by simpa using hb
  obtain⟨o,e,c,d⟩:=st;exact⟨o,e,λv z=>by rw[d] at z;cases z⟩
 keep:=λi h h' st k=>st.at λo e=>k it (by simp) o e
 item:=by
  rintro X hP hw hK hc i pins s Y H E I hf st ⟨us,ha,hl,hi⟩;subst hP hw hK;obtain⟨_,_,es,en,sz,at_⟩:=Hm I ha;obtain⟨f0,f1,f2,f3,f4,f5⟩:=hf it (by simp);have hz:es.size=n:=sz.trans hl;subst hz;obtain⟨u,hu⟩:∃u,us[i]?=some u:=⟨us[i]'(by omega),by simp[show i<us.length by omega]⟩;obtain⟨e,he,hk,_⟩:=at_ i u hu;refine Na (I.ok.hd hc) st en (λe' he' h' st' sb=>?_) λhn=>by rw[he] at hn;cases hn
  rw[he] at he';cases he';have I1:AI X pins Y H {s with heap:=h'}:=I.turned (t':=s.toks) (λb o hb q=>(sb.2 b hb).trans q) f0 f1 f3 f4 f5;rw[hk];exact⟨_,rfl,letGo_keyiter (s':={s with heap:=h'}) st' ⟨.ref u.2.1,H,I1,rfl,⟨rfl,λus' h'=>by rw[ha] at h';cases h';exact⟨u,hu,rfl⟩⟩,st',λb hb=>(hf b hb).1⟩⟩
 done:=by rintro X hP hw hK hc i pins s Y H E I hf st ⟨us,ha,hl,hi⟩;subst hP hw hK;obtain⟨_,_,es,en,sz,at_⟩:=Hm I ha;obtain⟨f0,f1,f2,f3,f4,f5⟩:=hf it (by simp);have hz:es.size=n:=sz.trans hl;subst hz;refine Na (I.ok.hd hc) st en (λe' he' h' st' sb=>?_) λ_ h' k=>⟨rfl,I.turned (t':=s.toks) (λb o hb q=>k b o hb q) f0 f1 f3 f4 f5⟩;rw[AMg hi] at he';cases he'
 self:=λ_ _ _ _ _ st h=>wpAny_pyIter_keyiter st h
def AGE:entryFor table "dict_itemiterator.__iter__"=some Builtin.«dict_keyiterator.__iter__»:=entryFor_alias (id':="dict_keyiterator.__iter__") (by kernel_rfl) rfl (by decide +kernel) (by kernel_rfl)
abbrev Itp(a:Addr)(n ep:Nat):It :=
 ⟨λi H=>∃us,H a=some (.dN us ep)/\us.length=n/\i<n,λi H v H'=>∃T,H T=none/\v=.ref T/\∀us,H a=some (.dN us ep)->∃u,us[i]?=some u/\H'=upd H T (.tup [.ref u.2.1,u.2.2]),λi H=>∃us,H a=some (.dN us ep)/\us.length=n/\n<=i⟩
def AAo{P:Program}{w:World}{K:AK}{elts:AM7}{x1:Nat}{tp:Pos}(a it:Addr)(n ep:Nat):Gr P w K (.Tuple elts x1 tp) (Itp a n ep) [it] it (λi h=>Yt h it a i n ep) where
 mem:=by simp
 obj:=λi h st b hb=>by
  obtain rfl:b=it:=by simpa using hb
  obtain⟨_,_,e⟩:=st;exact⟨_,e,λv z=>by cases z⟩
 keep:=λi h h' z3_ k=>by obtain⟨x,y,st⟩:=z3_;exact⟨x,y,k it (by simp) _ st⟩
 item:=by
  rintro X hP hw hK hc i pins s Y H E I hf st ⟨us,ha,hl,hi⟩;subst hP hw hK;obtain⟨_,_,es,en,sz,at_⟩:=Hm I ha;have hz:es.size=n:=sz.trans hl;subst hz;have til:it<s.heap.objs.size:=by obtain⟨_,_,e⟩:=st;exact Heap.lt_size e
  obtain⟨u,hu⟩:∃u,us[i]?=some u:=⟨us[i]'(by omega),by simp[show i<us.length by omega]⟩;obtain⟨e,he,hk,rv⟩:=at_ i u hu;refine Vk (I.ok.hd hc) st en (λe' he' h' st' ht hsz kk=>?_) λhn=>by rw[he] at hn;cases hn
  rw[he] at he';cases he';obtain⟨y1,y2,st'⟩:=st';refine⟨_,rfl,wpAny_letOwnedTupleGo_items st' λh2 st2 sb2=>?_⟩;have ht2:h2.get? s.heap.objs.size=some {cls:=.type "tuple",data:=.seq #[e.key,e.val]}:=(sb2.2 _ (Eb til)).trans ht
  have new:Bq X.prog X.w (upd H s.heap.objs.size (.tup [.ref u.2.1,u.2.2])) h2 s.heap.objs.size (.tup [.ref u.2.1,u.2.2]) :=
   ⟨by rw[sizeLine_eq];show 2<=16777216;decide,[e.key,e.val],.cons hk (.cons rv .nil),⟨_,ht2,rfl,_,rfl⟩⟩
  have I1:=Mu (t':=s.toks) (h':=h2) I hf (λb o hb q=>by
   have hbi:b≠it:=λz=>hb (by simp[z])
   exact(sb2.2 b hbi).trans (kk b o hbi q)) (Ae _) (λz=>absurd (FW.mp z) (Eb til)) (λb hb=>by
   obtain rfl:b=it:=by simpa using hb
   exact⟨_,st2⟩) new
  refine⟨.ref s.heap.objs.size,_,I1,rfl,⟨s.heap.objs.size,I.hok.fresh (Ae _),rfl,λus' h'=>by rw[ha] at h';cases h';exact⟨u,hu,rfl⟩⟩,⟨_,_,st2⟩,λb hb=>?_⟩;obtain rfl:b=it:=by simpa using hb
  rw[BN (BQ til)];exact(hf b (by simp)).1
 done:=by rintro X hP hw hK hc i pins s Y H E I hf st ⟨us,ha,hl,hi⟩;subst hP hw hK;obtain⟨_,_,es,en,sz,at_⟩:=Hm I ha;obtain⟨f0,f1,f2,f3,f4,f5⟩:=hf it (by simp);have hz:es.size=n:=sz.trans hl;subst hz;refine Vk (I.ok.hd hc) st en (λe' he' h' st' ht hsz kk=>?_) λ_ h' k=>⟨rfl,I.turned (t':=s.toks) (λb o hb q=>k b o hb q) f0 f1 f3 f4 f5⟩;rw[AMg hi] at he';cases he'
 self:=λA i s Q E ⟨x,y,st⟩ h=>by
  have ty:s.TypeIs (.ref it) "dict_itemiterator":=⟨_,st,rfl⟩;refine wpAny_pyIter_slot ty AMk (Fx AMk ty AGE ?_ (PySem.F.args_dict_itemiterator_iter_1 _));show wpAny _ _ (ret (.ref it)) _ _ s;exact AM ⟨_,rfl,"dict_itemiterator",_,ty,PySem.F.slot_dict_itemiterator_next.lookup,h⟩
abbrev HV(k:Nat)(kvs:List (NK×D))(ep:Nat)(L:AB):Bool:=match L[k]? with|some (.dt kvs' ep')=>decide (kvs'.map (·.1)=kvs.map (·.1))&&ep' == ep|_=>false
abbrev Fi(kvs:List (NK×D)):List D:=kvs.map λkv=>Dl kv.1
abbrev Eh(kvs:List (NK×D)):List D:=kvs.map λkv=>.tup [Dl kv.1,kv.2]
abbrev JQ(f:EF):IF:=λρ L=>(f ρ L).bind λx=>match x.1 with
 |.ref k=>(match x.2[k]? with|some (.dt kvs ep)=>some (⟨Fi kvs,HV k kvs ep⟩,x.2)|_=>none)
 |_=>none
abbrev Hf(f:EF):IF:=λρ L=>(f ρ L).bind λx=>match x.1 with
 |.ref k=>(match x.2[k]? with|some (.dt kvs ep)=>some (⟨Eh kvs,λL'=>decide (L'[k]?=some (.dt kvs ep))⟩,x.2)|_=>none)
 |_=>none
section
variable {X:Cx}{tg l:Expr}{f:EF}
def ABw{k:Nat}{kvs:List (NK×D)}{ep:Nat}{L:AB}(h:HV k kvs ep L=true):∃kvs',L[k]?=some (.dt kvs' ep)/\kvs'.map (·.1)=kvs.map (·.1):=by
 unfold HV at h;split at h
 .rename_i kvs' ep' e;rw[Bn] at h;obtain rfl:ep'=ep:=beq_iff_eq.mp h.2;exact⟨kvs',e,of_decide_eq_true h.1⟩
 .cases h
def AI1(hl:AW X l f):Dr X tg l (JQ f):=by
 rintro pins s Y H R I ⟨O,ρ,L,J,L',r,e,k⟩;unfold JQ at e;obtain⟨p,e1,e⟩:=bS e;obtain⟨d,L1⟩:=p;simp only[AS] at e;split at e
 .rename_i n;split at e
  .rename_i kvs ep e2;cases e;refine Af (hl pins s Y H (λv H1=>∃a O1,v=.ref a/\Ai H O H1 O1/\Al X.K H1 O1 L'/\O1[n]?=some a) I ⟨O,ρ,L,_,_,r,e1,λv H1 O1 st rs is=>by cases is with|ref h=>exact⟨_,O1,rfl,st,rs,h⟩⟩) λv s1 z2_=>?_;obtain⟨x,H1,I1,r1,a,O1,ev,st,rs,hn⟩:=z2_;subst ev;cases r1;obtain⟨us,ha,ek,il,ik⟩:=rs.ob n _ _ hn e2;obtain⟨hsm,⟨ty,nd⟩,es,en,sz,_⟩:=Hm I1 ha;have hul:us.length=kvs.length:=by simpa using congrArg List.length ek
   refine Wh hsm ty en ?_;refine⟨s1.heap.objs.size,[s1.heap.objs.size],_,_,H1,rfl,I1.kept (t':=s1.toks) λb o q=>Heap.get?_push_of_some _ q,AAq a _ es.size ep,⟨_,Heap.get?_push_size _ rfl,rfl,rfl⟩,λb hb=>?_,k _ H1 O1 st rs λi H2 O2 L2 st2 rs2 ok=>?_⟩
   .obtain rfl:b=s1.heap.objs.size:=by simpa using hb
    exact I1.fpOk (Ae _) (I1.hok.fresh (Ae _))
   .obtain⟨kvs',e3,ekk⟩:=ABw ok;obtain⟨us',ha',ek',il',ik'⟩:=rs2.ob n _ _ (DJ st2.2 hn) e3;have hl':us'.length=es.size:=by rw[sz,hul];simpa using congrArg List.length (ek'.trans ekk)
    refine⟨λd hd=>?_,λh=>⟨us',ha',hl',by rw[sz,hul];simpa[Fi] using h⟩⟩
    have hi:i<kvs.length:=by
     rcases Nat.lt_or_ge i kvs.length with h|h
     .exact h
     .rw[show(Fi kvs)[i]?=none from ALg (by simpa[Fi] using h)] at hd;cases hd
    refine⟨⟨us',ha',hl',by rw[sz,hul];exact hi⟩,λx H' z2_=>?_⟩;obtain⟨eH,y⟩:=z2_;subst eH;obtain⟨u,hu,rfl⟩:=y us' ha';refine⟨.refl _ _,rs2,?_⟩;have hk:=ik' u (Bj hu);have e5:(us'.map (·.1))[i]?=some u.1:=by rw[Ar,hu];rfl
    rw[ek',ekk,Ar] at e5;simp only[Fi,Ar] at hd
    cases e6:kvs[i]? with
    |none=>rw[e6] at e5;cases e5
    |some q =>
     rw[e6] at e5 hd;cases hd;show Is _ _ _ _ (Dl q.1);rw[show q.1=u.1 from Option.some.inj e5];exact hk
  .cases e
 .cases e
def AI0{elts:AM7}{x1:Nat}{tp apos cpos:Pos}(hl:AW X l f)(hbase:attributeBase l "items" X.env (eval l X.env)=eval l X.env:=by rfl)(hline:(apos.endLine == cpos.line)=true:=by rfl) :
  Dr X (.Tuple elts x1 tp) (.Call (.Attribute l "items" apos) [] [] cpos) (Hf f):=by
 rintro pins s Y H R I ⟨O,ρ,L,J,L',r,e,k⟩;unfold Hf at e;obtain⟨p,e1,e⟩:=bS e;obtain⟨d,L1⟩:=p;simp only[AS] at e;split at e
 .rename_i n;split at e
  .rename_i kvs ep e2;cases e;refine wpAny_Call_method0_late hbase hline (Af (hl pins s Y H (λv H1=>∃a O1,v=.ref a/\Ai H O H1 O1/\Al X.K H1 O1 L'/\O1[n]?=some a) I ⟨O,ρ,L,_,_,r,e1,λv H1 O1 st rs is=>by cases is with|ref h=>exact⟨_,O1,rfl,st,rs,h⟩⟩) λv s1 z2_=>?_);obtain⟨x,H1,I1,r1,a,O1,ev,st,rs,hn⟩:=z2_;subst ev;cases r1;obtain⟨us,ha,ek,il,ik⟩:=rs.ob n _ _ hn e2;obtain⟨hsm,⟨ty,nd⟩,es,en,sz,_⟩:=Hm I1 ha;have hul:us.length=kvs.length:=by simpa using congrArg List.length ek
   refine⟨"dict","dict.items",PySem.F.plainAttrs_dict,PySem.F.slot_dict_items,PySem.F.type_dict_items,ty,λb q=>by cases q;exact nd,Calls.callWith_builtin rfl (PySem.evalArgs_none ?_)⟩;refine call_meetsIn PySem.F.slot_dict_items ty PySem.F.entry_dict_items (PySem.F.args_dict_items_1 _) (AEW hsm) ⟨ty,?_⟩;obtain⟨od,gd,dd⟩:=en;refine ADj (d:=a) (es:=es) (ep:=ep) (s:={s1 with heap:=s1.heap.push {cls:=.type "dict_items",data:=.fields #[.ref a]}}) ⟨_,Heap.get?_push_size _ rfl,rfl,rfl⟩ ⟨od,Heap.get?_push_of_some _ gd,dd⟩ ?_;have I2:AI X pins Y H1 {s1 with heap:=s1.heap.push {cls:=.type "dict_items",data:=.fields #[.ref a]}}:=I1.kept (t':=s1.toks) λb o q=>Heap.get?_push_of_some _ q;refine⟨_,[_],_,_,H1,rfl,I2.kept (t':=s1.toks) λb o q=>Heap.get?_push_of_some _ q,AAo a _ es.size ep,⟨_,_,Heap.get?_push_size _ rfl⟩,λb hb=>?_,k _ H1 O1 st rs λi H2 O2 L2 st2 rs2 ok=>?_⟩
   .obtain rfl:=FW.mp hb;exact I2.fpOk (Ae _) (I2.hok.fresh (Ae _))
   .have e3:L2[n]?=some (.dt kvs ep):=of_decide_eq_true ok;obtain⟨us',ha',ek',il',ik'⟩:=rs2.ob n _ _ (DJ st2.2 hn) e3;have hl':us'.length=es.size:=by rw[sz,hul];simpa using congrArg List.length ek'
    refine⟨λd hd=>?_,λh=>⟨us',ha',hl',by rw[sz,hul];simpa[Eh] using h⟩⟩
    have hi:i<kvs.length:=by
     rcases Nat.lt_or_ge i kvs.length with h|h
     .exact h
     .rw[show(Eh kvs)[i]?=none from ALg (by simpa[Eh] using h)] at hd;cases hd
    refine⟨⟨us',ha',hl',by rw[sz,hul];exact hi⟩,λx H' z2_=>?_⟩;obtain⟨T,hT,ex,y⟩:=z2_;obtain⟨u,hu,eH⟩:=y us' ha';subst ex eH;have st3:Ai H2 O2 (upd H2 T (.tup [.ref u.2.1,u.2.2])) O2:=⟨.new hT,AR _⟩;refine⟨st3,rs2.ext λb q h=>by rw[BN (DK h hT)];exact h,?_⟩;have hk:=ik' u (Bj hu);have e5:(us'.map (·.1))[i]?=some u.1:=by rw[Ar,hu];rfl
    rw[ek',Ar] at e5;simp only[Eh,Ar] at hd
    cases e6:kvs[i]? with
    |none=>rw[e6] at e5;cases e5
    |some q =>
     rw[e6] at e5 hd;cases hd;have e7:q.1=u.1:=Option.some.inj e5;obtain⟨v,hv,iv⟩:=il'.get (i:=i) (d:=q.2) (by rw[Ar,e6];rfl);rw[Ar,hu] at hv;cases hv;show Is _ _ _ _ (.tup [Dl q.1,q.2]);rw[e7];exact .tup (BY.of Bu) (.cons (hk.mono st3) (.cons (iv.mono st3) .nil))
  .cases e
 .cases e
end
abbrev ItE(K:AK)(a:Addr)(n:Nat):It :=
 ⟨λi H=>∃xs,BH K H a xs/\xs.length=n/\i<n,λi H v H'=>∃T,H T=none/\v=.ref T/\∀xs,BH K H a xs->∃x,xs[i]?=some x/\H'=upd H T (.tup [.int (i:Int),x]),λi H=>∃xs,BH K H a xs/\xs.length=n/\n<=i⟩
def AAr{P:Program}{w:World}{K:AK}{elts:AM7}{x1:Nat}{tp:Pos}(a e it:Addr)(n:Nat)(hei:e≠it) :
  Gr P w K (.Tuple elts x1 tp) (ItE K a n) [e,it] e (λi h=>(∃old,IsEnum h e it (i:Int) old)/\h.IsListIter it a i/\i<=n) where
 mem:=by simp
 obj:=λi h st b hb=>by
  obtain⟨⟨old,he⟩,⟨o,e1,c,d⟩,_⟩:=st;rcases Aa.mp hb with rfl|hb
  .exact⟨_,he,λv z=>by cases z⟩
  .obtain rfl:=FW.mp hb;exact⟨o,e1,λv z=>by rw[d] at z;cases z⟩
 keep:=λi h h' z3_ k=>by obtain⟨⟨old,he⟩,si,hi⟩:=z3_;exact⟨⟨old,k e (by simp) _ he⟩,si.at λo q=>k it (by simp) o q,hi⟩
 item:=by
  rintro X hP hw hK hc i pins s Y H E I hf st ⟨xs,hq,hl,hi⟩;subst hP hw hK;obtain⟨⟨old,he⟩,hs,_⟩:=st;obtain⟨its,rv,p,hz⟩:=I.list hq;have hlen:its.length=n:=by rw[<-rv.length];exact hl
  have hel:e<s.heap.objs.size:=Heap.lt_size he;have hil:it<s.heap.objs.size:=by obtain⟨o,e1,_⟩:=hs;exact Heap.lt_size e1
  obtain⟨x,hx⟩:∃x,xs[i]?=some x:=⟨xs[i]'(by omega),by simp[show i<xs.length by omega]⟩;obtain⟨u,hu,ru⟩:=rv.get hx
  have hae:a≠e:=λz=>by
   obtain⟨o,g,c,_⟩:=p.isList;rw[z] at g;have g':=he.symm.trans g;cases g';exact absurd (show Value.type "enumerate"=Value.type "list" from c) (by decide)
  have hai:a≠it:=λz=>by
   obtain⟨o,g,c,_⟩:=p.isList;obtain⟨o',g',c',_⟩:=hs;rw[z] at g;rw[g] at g';cases g';rw[c] at c';exact absurd c' (by decide)
  refine wpAny_pyNext_enum_itemD (Draws.list (show X.A.in1.handled=none from I.ok.hd hc) it a hai its.toArray) he ⟨hs,p.isList⟩ (by rw[BZ,hlen];exact hi) hei (by simp[hei,Ne.symm hae]) λv h' tk hv heo hs' ht _ kk=>⟨_,rfl,?_⟩
  obtain rfl:v=u:=by
   have:its[i]?=some v:=by simpa using hv
   rw[hu] at this;exact(Option.some.inj this).symm
  refine wpAny_letOwnedTupleGo_enum heo λh2 he2 sb2=>?_;have hs2:h2.IsListIter it a (i+1):=hs'.1.at λo q=>(sb2.2 it (Ne.symm hei)).trans q;have ht2:h2.get? s.heap.objs.size=some {cls:=.type "tuple",data:=.seq #[.int i tk,v]}:=(sb2.2 _ (Eb hel)).trans ht
  have new:Bq X.prog X.w (upd H s.heap.objs.size (.tup [.int (i:Int),x])) h2 s.heap.objs.size (.tup [.int (i:Int),x]) :=
   ⟨by rw[sizeLine_eq];show 2<=16777216;decide,[.int i tk,v],.cons ⟨_,rfl⟩ (.cons ru .nil),⟨_,ht2,rfl,_,rfl⟩⟩
  have I1:=Mu (t':=tk+1) (h':=h2) I hf (λb o hb q=>by
    have hbe:b≠e:=λz=>hb (by simp[z]);have hbi:b≠it:=λz=>hb (by simp[z])
    exact(sb2.2 b hbe).trans (kk b o hbe hbi q)) (Ae _) (λz=>by
    rcases Aa.mp z with z|z
    .exact absurd z (Eb hel)
    .exact absurd (FW.mp z) (Eb hil)) (λb hb=>by
    rcases Aa.mp hb with rfl|hb
    .exact⟨_,he2⟩
    .obtain rfl:=FW.mp hb;obtain⟨o,e1,_⟩:=hs2
     exact⟨o,e1⟩) new
  refine⟨.ref s.heap.objs.size,_,I1,rfl,⟨s.heap.objs.size,I.hok.fresh (Ae _),rfl,λys hy=>by rw[I.list_inj hy hq];exact⟨x,hx,rfl⟩⟩,⟨⟨v,?_⟩,hs2,hi⟩,λb hb=>?_⟩
  .rw[show((i+1:Nat):Int)=(i:Int)+1 by omega];exact he2
  .rw[BN]
   .exact(hf b hb).1
   .rcases Aa.mp hb with z|z
    .rw[z];exact BQ hel
    .rw[FW.mp z];exact BQ hil
 done:=by
  rintro X hP hw hK hc i pins s Y H E I hf st ⟨xs,hq,hl,hi⟩;subst hP hw hK;obtain⟨⟨old,he⟩,hs,hin⟩:=st;obtain⟨its,rv,p,hz⟩:=I.list hq;have hlen:its.length=n:=by rw[<-rv.length];exact hl
  obtain⟨f0,f1,f2,f3,f4,f5⟩:=hf it (by simp)
  have hai:a≠it:=λz=>by
   obtain⟨o,g,c,_⟩:=p.isList;obtain⟨o',g',c',_⟩:=hs;rw[z] at g;rw[g] at g';cases g';rw[c] at c';exact absurd c' (by decide)
  obtain rfl:i=its.toArray.size:=by rw[BZ,hlen];omega
  exact wpAny_pyNext_enum_endD (Draws.list (show X.A.in1.handled=none from I.ok.hd hc) it a hai its.toArray) he ⟨hs,p.isList⟩ λh' eb=>⟨rfl,I.turned (t':=s.toks) (λb o hb q=>eb b o hb q) f0 f1 f3 f4 f5⟩
 self:=λA i s Q E st h=>by
  obtain⟨⟨old,he⟩,_⟩:=st;exact wpAny_pyIter_enum he h
abbrev Kt(f:AF):IF:=λρ L=>(f ρ L).bind λx=>match x.1 with
 |[.ref k]=>(match x.2[k]? with|some (.lst xs)=>some (⟨Ep xs,λL'=>decide (L'[k]?=some (.lst xs))⟩,x.2)|_=>none)
 |_=>none
def Xp(xs:List D)(i:Nat):(Ep xs)[i]?=(xs[i]?).map λd=>.tup [.int (i:Int),d]:=by unfold Ep;rw[Ar,List.getElem?_zipIdx];cases xs[i]? <;> simp
section
variable {X:Cx}{elts:AM7}{x1:Nat}{tp p pos:Pos}{a:Expr}{fa:AF}
def AI3(hm:X.mg "enumerate"=none)(ha:Ds X [a] fa)(hg:Gl X "enumerate":=by rfl)(hs:starEach [a] X.env=[(false,eval a X.env)]:=by rfl):Dr X (.Tuple elts x1 tp) (.Call (.Name "enumerate" p) [a] [] pos) (Kt fa):=by
 rintro pins s Y H R I ⟨O,ρ,L,J,L',r,e,k⟩;unfold Kt at e;obtain⟨q,e1,e⟩:=bS e;obtain⟨ds,L1⟩:=q;simp only[AS] at e;split at e
 .rename_i n;split at e
  .rename_i xs e2;cases e;refine Call_ (GH I hg hm (u:=.type "enumerate") (by decide +kernel) (PyProof.Rows.callWith_type1 (Af (ha pos pins s Y H (λvs H1=>∃a O1,vs=[.ref a]/\Ai H O H1 O1/\Al X.K H1 O1 L'/\O1[n]?=some a) I ⟨O,ρ,L,_,_,r,e1,λvs H1 O1 st rs is=>?_⟩) λus s1 ⟨vs,H1,I1,r1,b,O1,ev,st,rs,hn⟩=>?_) hs rfl))
   .cases is with
    |cons i1 i2=>cases i2;cases i1 with|ref h=>exact⟨_,O1,rfl,st,rs,h⟩
   .subst ev;obtain⟨u,rfl,ru⟩:=Dy r1;cases ru;obtain⟨ws,hw,il⟩:=rs.ob n _ _ hn e2;obtain⟨its,rv,pl,hz⟩:=I1.list (BH.of hw);refine call_enumerate_list pl.isList λh' he hs' hz' kk=>?_;refine wpAny_pyIter_enum he ?_;have I2:AI X pins Y H1 {s1 with heap:=h'}:=I1.kept (t':=s1.toks) kk;refine⟨s1.heap.objs.size+1,[s1.heap.objs.size+1,s1.heap.objs.size],_,_,H1,rfl,I2,AAr b _ _ xs.length (Nat.succ_ne_self _),⟨⟨_,he⟩,hs',Dg _⟩,λb hb=>?_,k _ H1 O1 st rs λi H2 O2 L2 st2 rs2 ok=>?_⟩
    .rcases Aa.mp hb with rfl|hb
     .exact I1.fpOk (ALQ _) (I1.hok.fresh (ALQ _))
     .obtain rfl:=FW.mp hb;exact I1.fpOk (Ae _) (I1.hok.fresh (Ae _))
    .obtain⟨ws',hw',il'⟩:=rs2.ob n _ _ (DJ st2.2 hn) (of_decide_eq_true ok);refine⟨λd hd=>?_,λh=>⟨ws',BH.of hw',il'.length,by simpa[Ep] using h⟩⟩;simp only at hd;rw[Xp] at hd
     cases ec:xs[i]? with
     |none=>rw[ec] at hd;cases hd
     |some c =>
      rw[ec] at hd;cases hd;refine⟨⟨ws',BH.of hw',il'.length,(Ay.mp ec).1⟩,λx H' ⟨T,hT,ex,y⟩=>?_⟩;obtain⟨v,hv,eH⟩:=y ws' (BH.of hw');subst ex eH;obtain⟨v',hv',iv⟩:=il'.get ec;rw[hv] at hv';cases hv';have st3:Ai H2 O2 (upd H2 T (.tup [.int (i:Int),v])) O2:=⟨.new hT,AR _⟩;exact⟨st3,rs2.ext λa u e=>by rw[BN (DK e hT)];exact e,.tup (BY.of Bu) (.cons (.int _) (.cons (iv.mono st3) .nil))⟩
  .cases e
 .cases e
end
def Qn:∀{vs:List V} {us:AM5},vs.length=us.length->(∀(i:Nat) (v:V),vs[i]?=some v->∃u,us[i]?=some u/\AY v u)->AX vs us
 |[],[],_,_=>.nil
 |[],_::_,h,_=>by simp at h
 |_::_,[],h,_=>by simp at h
 |v::vs,u::us,h,f=>by
  refine .cons ?_ (Qn (by simpa using h) λi w hw=>by simpa using f (i+1) w (by simpa using hw));obtain⟨u',e,r⟩:=f 0 v rfl;cases e;exact r
section
variable {X:Cx}
def AEX{prog:Program}{w:World}{d:Addr}(hd:(d == sysModules)=false):MeetsIn prog w (Builtin.«dict.__len__» ⟨[.ref d],[]⟩) (λ_ R s=>∃es ep,Ib s.heap d es ep/\R (.ok (.ret (.int es.size s.toks))) {s with toks:=s.toks+1}) :=
 .of_wp λA R s z3_=>by
  obtain⟨es,ep,⟨o,g,dat⟩,k⟩:=z3_;refine AG (m:=dictSize d) (AG (AMy g dat (AM (AG (m:=Builtin.Dict.pendingCount d) (wpAny_pendingCount_other hd (wpAny_ret_mkInt ?_))))));exact k
abbrev LA:GL:=λxs L=>match xs with
 |[.ref k]=>(match L[k]? with|some (.dt kvs _)=>some (.int (kvs.length:Int),L)|_=>none)
 |_=>none
def AKx:Ex X (.builtin "len") LA:=λpins s Y H vs us Q I rv z9_=>by
 obtain⟨O,L,xs,d,L',rs,is,e,k⟩:=z9_;unfold LA at e;split at e
 .rename_i n;split at e
  .rename_i kvs ep e1;cases e
   cases is with|cons i1 i2=>cases i2;cases i1 with|ref hn =>
    obtain⟨u,rfl,ru⟩:=Dy rv;cases ru;obtain⟨ws,ha,ek,_,_⟩:=rs.ob n _ _ hn e1;obtain⟨hsm,⟨ty,_⟩,es,en,sz,_⟩:=Hm I ha;have hz:ws.length<=sizeLine:=(show Bq X.prog X.w H s.heap _ (.dN ws ep) from I.hok _ _ ha).1;have hl:ws.length=kvs.length:=by simpa using congrArg List.length ek
    have es1:es.size=kvs.length:=sz.trans hl;rw[sizeLine_eq] at hz;refine Calls.call_function_entry kind_len plain_len entry_len (args_len1 _) ?_
    refine AG (m:=oneArg "len" _) (AM (AG (m:=callSpecial? (.ref _) (Str.ofString "__len__")) (AMu (name:=Str.ofString "__len__") ty PySem.F.slot_dict_len
     (call_meetsIn PySem.F.slot_dict_len ty PySem.F.entry_dict_len (PySem.F.args_dict_len_1 _) (AEX hsm) ⟨es,ep,en,?_⟩))))
    refine AG (Ck (AM (AG (AM2 ?_))))
    show wpAny _ _ (if ((es.size:Nat):Int)<0 then _ else if ((es.size:Nat):Int) ≥ 2 ^ 63 then _ else _) _ _ _
    rw[if_neg (by omega),if_neg (by omega)];refine AG (wpAny_mkInt (AM ⟨_,rfl,?_⟩));exact⟨.int es.size,H,(I.tok _).tok _,⟨_,rfl⟩,by rw[es1];exact k _ _ _ (.refl _ _) rs (.int _)⟩
  .cases e
 .cases e
def AAa{prog:Program}{w:World}{A:Around}(hh:A.handled=none)(t d:Addr)(hne:d≠t)(es:Array DictEntry)(ep:Nat) :
  Walks prog w A t [t,d] [t] es.size (λi v=>∃e,es[i]?=some e/\v=e.key) (λi h=>h.IsKeyIter t d i es.size ep/\Ib h d es ep) where
 sub:=λb hb=>by simp at hb;simp[hb]
 frame:=λ_ _ _ z3_ k=>by obtain⟨a,o,g,dat⟩:=z3_;exact⟨a.at λo q=>k t (by simp) o q,o,k d (by simp) o g,dat⟩
 item:=λi s Q E hi ⟨a,o,g,dat⟩ k=>by
  refine Na hh a ⟨o,g,dat⟩ (λe he h' a' sb=>?_) λhn=>by rw[Array.getElem?_eq_none_iff] at hn;omega
  exact k e.key h' s.toks ⟨e,he,rfl⟩ ⟨a',o,(sb.2 d hne).trans g,dat⟩ λb q hb e'=>(sb.2 b (by simpa using hb)).trans e'
 done:=λs Q E ⟨a,en⟩ k=>by
  refine Na hh a en (λe he=>by rw[AMg (Ae _)] at he;cases he) λ_ h' x=>?_;exact k h' s.toks λb q hb e'=>x b q (by simpa using hb) e'
 self:=λ_ _ _ _ st h=>wpAny_pyIter_keyiter st.1 h
abbrev AHW(h:Heap)(d:Addr)(es:Array DictEntry)(ep:Nat):Prop:=∃o,h.get? d=some o/\o.cls=.type "dict"/\o.data=.dict es ep
def ABV{prog:Program}{w:World}{d:Addr}{es:Array DictEntry}{ep:Nat}(hd:(d == sysModules)=false):PySem.W.KdlSrc prog w "dict" d d es.size (λi v=>∃e,es[i]?=some e/\v=e.key) (λh=>AHW h d es ep) where
 type:=λ_ z1_=>by obtain⟨o,g,c,_⟩:=z1_;exact⟨o,g,c⟩
 there:=λ_ z1_=>by obtain⟨o,g,_⟩:=z1_;exact⟨Heap.lt_size g,Heap.lt_size g⟩
 keep:=λ_ _ z2_ k=>by obtain⟨o,g,r⟩:=z2_;exact⟨o,k d (.inl rfl) o g,r⟩
 notList:=by decide
 notTuple:=by decide
 hint:=λ_ _ _ _ z4_ q=>by obtain⟨o,g,c,_⟩:=z4_;exact PySem.W.kdl_hint_dict ⟨o,g,c⟩ q
 iter:=λA s hh ⟨o,g,c,dat⟩=>⟨_,_,λE Q q=>Wh hd ⟨o,g,c⟩ ⟨o,g,dat⟩ q,AAa hh _ d (BQ (Heap.lt_size g)) es ep,⟨_,Heap.get?_push_size _ rfl,rfl,rfl⟩,o,Heap.get?_push_of_some _ g,dat⟩
abbrev Kz:GL:=λxs L=>match xs with
 |[.ref k]=>(match L[k]? with|some (.dt kvs _)=>some (.ref L.length,L++[.lst (Fi kvs)])|_=>none)
 |_=>none
def AKw(hc:X.calm=true):Ex X (.type "list") Kz:=λpins s Y H vs us Q I rv z9_=>by
 obtain⟨O,L,xs,d,L',rs,is,e,k⟩:=z9_;unfold Kz at e;split at e
 .rename_i n;split at e
  .rename_i kvs ep e1;cases e
   cases is with|cons i1 i2=>cases i2;cases i1 with|@ref _ a hn =>
    obtain⟨u,rfl,ru⟩:=Dy rv;cases ru;obtain⟨ws,ha,ek,il,ik⟩:=rs.ob n _ _ hn e1;obtain⟨hsm,⟨⟨o,g,c⟩,_⟩,es,⟨o',g',dat⟩,sz,at_⟩:=Hm I ha;rw[g] at g';cases g';have hz:ws.length<=sizeLine:=(show Bq X.prog X.w H s.heap _ (.dN ws ep) from I.hok _ _ ha).1;have hl:ws.length=kvs.length:=by simpa using congrArg List.length ek
    refine PySem.W.kdl_call (ABV (ep:=ep) hsm) (I.ok.hd hc) ⟨o,g,c,dat⟩ (by rw[sz];exact hz) λh' tk acc c' kk hD hacc=>?_
    -- the list of the keys
    have hv:AX (ws.map λw=>V.ref w.2.1) acc.toList:=by
     refine Qn (by have h9:=hacc.1;rw[sz] at h9;simp[h9]) λi v hv=>?_;rw[Ar] at hv
     cases ew:ws[i]? with
     |none=>rw[ew] at hv;cases hv
     |some q =>
      rw[ew] at hv;cases hv;obtain⟨en,h1,h2,_⟩:=at_ i q ew;have hi:i<acc.size:=by rw[hacc.1,sz];exact(Ay.mp ew).1
      obtain⟨en',h3,h4⟩:=hacc.2 i acc[i] (by simp[hi]);rw[h1] at h3;cases h3;exact⟨acc[i],by simp[hi],by rw[h4];exact h2⟩
    have hf:H s.heap.objs.size=none:=I.hok.fresh (Ae _)
    have I1:AI X pins Y (upd H s.heap.objs.size (.lst (ws.map λw=>V.ref w.2.1))) {s with heap:=h',toks:=tk} :=
     I.laid (t':=tk) kk (Ae _) ⟨by rw[Ah];exact hz,acc.toList,c',hv,by simpa using hD⟩
    have st:Ai H O (upd H s.heap.objs.size (.lst (ws.map λw=>V.ref w.2.1))) (O++[s.heap.objs.size]):=⟨.new hf,Am _ _⟩
    have ikk:AN X.K H O (ws.map λw=>V.ref w.2.1) (Fi kvs):=by
     have go:∀{l:List (NK×Addr×V)} {m:List (NK×D)},l.map (·.1)=m.map (·.1)->(∀u∈l,Is X.K H O (.ref u.2.1) (Dl u.1))->AN X.K H O (l.map λw=>V.ref w.2.1) (Fi m):=by
      intro l
      induction l with
      |nil=>intro m em _;cases m with|nil=>exact .nil|cons=>simp at em
      |cons q l ih =>
       intro m em hm
       cases m with
       |nil=>simp at em
       |cons p m =>
        simp only[Ak,List.cons.injEq] at em;refine .cons ?_ (ih em.2 λu hu=>hm u (Ax _ hu));show Is X.K H O (.ref q.2.1) (Dl p.1);rw[<-em.1];exact hm q Aw
     exact go ek ik
    exact⟨.ref s.heap.objs.size,_,I1,rfl,k _ _ _ st (rs.new hf ⟨_,Bu,ikk.mono st⟩) (.ref (by rw[<-rs.len];simp))⟩
  .cases e
 .cases e
end
abbrev Db(b:Bool)(h:Heap)(l:Addr)(its:Array Value):Prop:=match b with|true=>h.IsTuple l its|false=>h.IsList l its
abbrev CU(b:Bool)(h:Heap)(t l:Addr)(k:Nat):Prop:=match b with|true=>h.IsTupleIter t l k|false=>h.IsListIter t l k
section
variable {prog:Program}{w:World}{A:Around}{E:ANB}{s:Shared}{b:Bool}{h h':Heap}{t l:Addr}{k:Nat}{its:Array Value}
def Db.ext(x:Db b h l its)(e:∀o,h.get? l=some o->h'.get? l=some o):Db b h' l its:=by
 cases b with
 |true=>obtain⟨o,g,r⟩:=x;exact⟨o,e o g,r⟩
 |false=>obtain⟨o,g,r⟩:=x;exact⟨o,e o g,r⟩
def CU.ext(x:CU b h t l k)(e:∀o,h.get? t=some o->h'.get? t=some o):CU b h' t l k:=by
 cases b with
 |true=>obtain⟨o,g,r⟩:=x;exact⟨o,e o g,r⟩
 |false=>obtain⟨o,g,r⟩:=x;exact⟨o,e o g,r⟩
def CU.obj(x:CU b h t l k):∃o,h.get? t=some o/\∀v,o.data≠.cell v:=by
 cases b with
 |true=>obtain⟨o,g,_,d⟩:=x;exact⟨o,g,λv z=>by rw[d] at z;cases z⟩
 |false=>obtain⟨o,g,_,d⟩:=x;exact⟨o,g,λv z=>by rw[d] at z;cases z⟩
def ABt{Q:ANB}(x:Db b s.heap l its)(q:∀o,CU b (s.heap.push o) s.heap.objs.size l 0->Q (.ref s.heap.objs.size) {s with heap:=s.heap.push o}):wpAny (model prog w) A (pyIter (.ref l)) Q E s:=by
 cases b with
 |true=>exact wpAny_pyIter_tuple x (q _ ⟨_,Heap.get?_push_size _ rfl,rfl,rfl⟩)
 |false=>exact AMs x (q _ ⟨_,Heap.get?_push_size _ rfl,rfl,rfl⟩)
def tup_next{Q:ANB}(hh:A.handled=none)(i:s.heap.IsTupleIter t l k)(x:s.heap.IsTuple l its)(some_:∀v,its[k]?=some v->∀h',h'.IsTupleIter t l (k+1)->Heap.SameBut t s.heap h'->Q v {s with heap:=h'})
  (none_:its[k]?=none->∀h' e,Heap.ExtBut t s.heap h'->(∃o,h'.get? e=some o/\o.cls=.type "StopIteration")->E (.ref e) {s with heap:=h'}):wpAny (model prog w) A (Builtin.SmallTypes.nextOf (.ref t)) Q E s:=by
 obtain⟨ot,gt,ct,dt⟩:=id i;obtain⟨ol,gl,_,n,dl⟩:=x
 have inner:∀{R:ANB},(∀v,its[k]?=some v->∀h',h'.IsTupleIter t l (k+1)->Heap.SameBut t s.heap h'->R v {s with heap:=h'}) ->
   wpAny (model prog w) A.in1 (Builtin.«tuple_iterator.__next__» ⟨[.ref t],[]⟩) (λfi s2=>∃v,fi=PySem.Fin.done (Flow.ret v)/\R v s2) E s:=λ{R} one=>by
  refine AG (m:=field (.ref t) 0) (EN (x:=.ref l) gt dt rfl ?_)
  show wpAny _ _ (if (Value.ref l == Value.none)=true then _ else _) _ _ s
  rw[if_neg (λz=>by cases (show(false:Bool)=true from z))];refine AG (m:=field (.ref t) 1) (EN (x:=.int k 0) gt dt rfl (AG (m:=seqItems? (.ref l)) (AMp gl dl ?_)));simp only[ALW]
  cases ev:its[k]? with
  |none =>
   refine AG (AMm (AG (m:=setField (.ref t) 0 .none) (wpAny_setField gt dt (by simp) ?_)));exact RT (A:=A.in1) (t:=t) (h0:=s.heap) (s:={s with heap:=s.heap.update t (Obj.mapFields (·.setIfInBounds 0 .none))}) hh (Heap.SameBut.update ..).extBut λh' k x hx=>none_ ev h' x k hx
  |some v =>
   refine AG (wpAny_setField gt dt (by simp) (AM ⟨v,rfl,one v ev _ ?_ (Heap.SameBut.update ..)⟩));exact⟨_,Heap.get?_update_self _ gt (Obj.isFreed_of_fields (Obj.data_mapFields dt _)),(Obj.cls_mapFields ..).trans ct,by rw[Obj.data_mapFields dt];simp[rawInt]⟩
 unfold Builtin.SmallTypes.nextOf;exact AG (AMu (name:=Str.ofString "__next__") i.typeIs AMl (Fx AMl i.typeIs PySem.F.entry_tuple_iterator_next (inner λv hv h' i' sb=>AM (some_ v hv h' i' sb)) (PySem.F.args_tuple_iterator_next_1 _)))
def ABs{v:Value}{Q:ANB}(hh:A.handled=none)(i:CU b s.heap t l k)(x:Db b s.heap l its)(hv:its[k]?=some v)(q:∀h',CU b h' t l (k+1)->Heap.SameBut t s.heap h'->Q v {s with heap:=h'}):wpAny (model prog w) A (Builtin.SmallTypes.nextOf (.ref t)) Q E s:=by
 cases b with
 |true=>exact tup_next hh i x (λv' e h' i' sb=>by rw[hv] at e;cases e;exact q h' i' sb) λe=>by rw[hv] at e;cases e
 |false=>exact wpAny_nextOf_list_item i x hv q
def ABv{Q:ANB}(hh:A.handled=none)(i:CU b s.heap t l k)(x:Db b s.heap l its)(hv:its[k]?=none)(q:∀h' e,Heap.ExtBut t s.heap h'->(∃o,h'.get? e=some o/\o.cls=.type "StopIteration")->E (.ref e) {s with heap:=h'}):wpAny (model prog w) A (Builtin.SmallTypes.nextOf (.ref t)) Q E s:=by
 cases b with
 |true=>exact tup_next hh i x (λv' e=>by rw[hv] at e;cases e) λ_=>q
 |false=>exact wpAny_nextOf_list_end hh i x hv q
end
structure Src where
 b:Bool
 t:Addr
 l:Addr
noncomputable abbrev Dp(h:Heap)(T:Addr)(vs:AM5):Prop:=h.get? T=some {cls:=.type "tuple",data:=.seq vs.toArray}
abbrev Kk:AM5->Nat->AM5->AM5
 |kept,_,[]=>kept
 |kept,j,v::vs=>Kk (kept.set j v) (j+1) vs
def VW:∀(vs kept:AM5) (j:Nat),kept.length=j+vs.length->Kk kept j vs=kept.take j++vs
 |[],kept,j,h=>by simp only[Kk,ALq];rw[AMD (by simpa using ALT h)]
 |v::vs,kept,j,h=>by
  simp only[DQ] at h;rw[Kk,VW vs _ _ (by rw[ALr];omega)];rw[List.take_succ,ALp (by omega),List.take_set_of_le (Ae _)];simp
section
variable {prog:Program}{w:World}{A:Around}{E:ANB}{s:Shared}{z TI TO:Addr}{k:Nat}
abbrev AHV(M:Model)(A:Around)(E:ANB)(s:Shared)(z TI TO:Addr)(k:Nat){β:Type}(init:β)(f:Value×Nat->β->Sem (ForInStep β)):Prop :=
 ∀(r:Src) (j:Nat) (v:Value) (its:Array Value) (h1:Heap) (kept:AM5),CU r.b h1 r.t r.l k->Db r.b h1 r.l its->its[k]?=some v->IsZip h1 z TI TO .ellipsis->Dp h1 TO kept->kept.length<=1000->r.t≠TO->r.t≠z ->
  ∀G:ForInStep β->Shared->Prop,(∀h2,CU r.b h2 r.t r.l (k+1)->Dp h2 TO (kept.set j v)->IsZip h2 z TI TO .ellipsis->h2.objs.size=h1.objs.size->(∀c o,c≠TO->c≠r.t->h1.get? c=some o->h2.get? c=some o)->G (.yield init) {s with heap:=h2}) ->
   wpAny M A (f (.ref r.t,j) init) G E {s with heap:=h1}
def AGK{M:Model}{β:Type}{init:β}{f:Value×Nat->β->Sem (ForInStep β)}(one:AHV M A E s z TI TO k init f)(tz:TO≠z):∀(rs:List Src) (vs:AM5) (j:Nat) (h1:Heap) (kept:AM5),
  Paired (λ(r:Src) v=>CU r.b h1 r.t r.l k/\∃its,Db r.b h1 r.l its/\its[k]?=some v) rs vs->(rs.map (·.t)).Nodup->(∀r∈rs,r.t≠TO/\r.t≠z/\r.l≠TO/\∀q∈rs,r.l≠q.t)->IsZip h1 z TI TO .ellipsis->Dp h1 TO kept->kept.length<=1000 ->
  ∀G:β->Shared->Prop,(∀h2,(∀r∈rs,CU r.b h2 r.t r.l (k+1))->Dp h2 TO (Kk kept j vs)->IsZip h2 z TI TO .ellipsis->h2.objs.size=h1.objs.size->(∀c o,c≠TO->c∉rs.map (·.t)->h1.get? c=some o->h2.get? c=some o)->G init {s with heap:=h2}) ->
   wpAny M A (forIn ((rs.map λr=>Value.ref r.t).zipIdx j) init f) G E {s with heap:=h1}:=by
 intro rs
 induction rs with
 |nil =>
  intro vs j h1 kept p _ _ hz ht _ G q;cases p;exact AM (q h1 (λ_ h=>nomatch h) ht hz rfl λc o _ _ e=>e)
 |cons r rs ih =>
  intro vs j h1 kept p nd ap hz ht hk G q
  cases p with
  |@cons _ v _ vs hr ps =>
  obtain⟨ir,its,xr,hv⟩:=hr;rw[Ak,List.zipIdx_cons,ALx];obtain⟨a1,a2,a3,a4⟩:=ap r Aw;rw[Ak,ALR] at nd;refine AG (one r j v its h1 kept ir xr hv hz ht hk a1 a2 _ λh2 i2 t2 z2 s2 k2=>?_);have ne:∀r'∈rs,r'.t≠r.t:=λr' h' e=>nd.1 (by rw[<-e];exact CN h')
  have ps2:Paired (λ(r:Src) v=>CU r.b h2 r.t r.l k/\∃its,Db r.b h2 r.l its/\its[k]?=some v) rs vs:=by
   have go:∀{l:List Src} {m:AM5},(∀x∈l,x∈rs)->Paired (λ(r:Src) v=>CU r.b h1 r.t r.l k/\∃its,Db r.b h1 r.l its/\its[k]?=some v) l m->Paired (λ(r:Src) v=>CU r.b h2 r.t r.l k/\∃its,Db r.b h2 r.l its/\its[k]?=some v) l m:=by
    intro l m hl p
    induction p with
    |nil=>exact .nil
    |@cons x u l m hx _ ih =>
     obtain⟨i1,its1,x1,e1⟩:=hx;have hm:=hl x Aw;obtain⟨c1,c2,c3,c4⟩:=ap x (Ax _ hm);exact .cons ⟨i1.ext λo e=>k2 _ o c1 (ne x hm) e,its1,x1.ext λo e=>k2 _ o c3 (c4 r Aw) e,e1⟩ (ih λy hy=>hl y (Ax _ hy))
   exact go (λ_ h=>h) ps
  refine ih vs (j+1) h2 (kept.set j v) ps2 nd.2 (λr' h'=>?_) z2 t2 (by rw[ALr];exact hk) G λh3 i3 t3 z3 s3 k3=>?_
  .obtain⟨c1,c2,c3,c4⟩:=ap r' (Ax _ h');exact⟨c1,c2,c3,λq' hq=>c4 q' (Ax _ hq)⟩
  .refine q h3 (λr' h'=>?_) t3 z3 (s3.trans s2) λc o c1 c2 e=>?_
   .rcases Aa.mp h' with e|h'
    .subst e;exact i2.ext λo e=>k3 _ o a1 nd.1 e
    .exact i3 r' h'
   .simp only[Ak,Aa,not_or] at c2;exact k3 c o c1 c2.2 (k2 c o c1 c2.1 e)
def Zs{zs:List Src}{vs old:AM5}{R:ANB}(hh:A.handled=none)(hz:IsZip s.heap z TI TO .none)(hi:Dp s.heap TI (zs.map λr=>.ref r.t))(ht:Dp s.heap TO old)(ho:old.length=vs.length)(hk:old.length<=1000)(ne:zs≠[])
  (nd:(zs.map (·.t)).Nodup) (tz:TO≠z) (iz:TI≠z) (ap:∀r∈zs,r.t≠TO/\r.t≠z/\r.l≠TO/\r.l≠z/\∀q∈zs,r.l≠q.t) (each:Paired (λ(r:Src) v=>CU r.b s.heap r.t r.l k/\∃its,Db r.b s.heap r.l its/\its[k]?=some v) zs vs)
  (q:∀h',IsZip h' z TI TO (rawInt s.heap.objs.size)->Dp h' TO vs->(∀r∈zs,CU r.b h' r.t r.l (k+1))->Dp h' s.heap.objs.size vs->(∀c o,c≠z->c≠TO->c∉zs.map (·.t)->s.heap.get? c=some o->h'.get? c=some o)->R (.ref s.heap.objs.size) {s with heap:=h'}) :
  wpAny (model prog w) A (Builtin.«zip.__next__» ⟨[.ref z],[]⟩) (λfi s2=>∃v,fi=PySem.Fin.done (Flow.ret v)/\R v s2) E s:=by
 refine AG (m:=field (.ref z) 2) (EN (x:=.bool false) hz rfl rfl (AG (m:=field (.ref z) 3) (EN (x:=.ref TI) hz rfl rfl (AG (AMp hi rfl ?_)))));have hem:(zs.map λr=>Value.ref r.t).toArray.isEmpty=false:=by cases zs with|nil=>exact absurd rfl ne|cons=>rfl
 simp only[hem,ALc,if_false];refine AG (m:=Builtin.SmallTypes.ownedTupleIsFree (.ref z)) (AG (EN (x:=.none) hz rfl rfl (AM ?_)));rw[if_pos rfl];refine AG (AMm (AG (EN (x:=.ref TO) hz rfl rfl (AG (AM1 hz (by simp) λh1 z1 b1=>?_)))));have z1':IsZip h1 z TI TO .ellipsis:=z1;refine AG ?_;refine AGK (M:=model prog w) (E:=E) (A:=A) (s:=s) (TI:=TI) (k:=k) ?one tz zs vs 0 h1 old ?ps nd (λr hr=>?_) z1' (b1.extBut _ _ tz ht) hk _ λh2 i2 t2 z2 s2 k2=>?_
 case one =>
  intro r j v its h3 kept ir xr hv z3 t3 hl3 r1 r2 G g;refine AG (wpAny_onRaise (AG (m:=Builtin.SmallTypes.nextOf (.ref r.t)) (ABs (s:={s with heap:=h3}) hh ir xr hv λh4 i4 b4=>AM ?_)));have t4:Dp h4 TO kept:=b4.extBut _ _ (Ne.symm r1) t3;have z4:IsZip h4 z TI TO .ellipsis:=b4.extBut _ _ (Ne.symm r2) z3;refine AG (AMp t4 rfl (AG (wpAny_updateSeq t4 rfl (AG (AM2 (AM ?_))) (by rw[sizeLine_eq,BZ];omega) (by rw[sizeLine_eq,Array.size_setIfInBounds,BZ];omega))));have b5:Heap.SameBut TO h4 (h4.update TO (Obj.mapSeq (·.setIfInBounds j v))):=.update ..;refine g _ (i4.ext λo e=>b5.extBut _ _ r1 e) ?_ (b5.extBut _ _ (Ne.symm tz) z4) (b5.1.trans b4.1) λc o c1 c2 e=>b5.extBut _ _ c1 (b4.extBut _ _ c2 e);show Heap.get? _ TO=_;rw[Heap.get?_update_self _ t4 rfl];simp[Obj.mapSeq]
 case ps =>
  have go:∀{l:List Src} {m:AM5},(∀x∈l,x∈zs)->Paired (λ(r:Src) v=>CU r.b s.heap r.t r.l k/\∃its,Db r.b s.heap r.l its/\its[k]?=some v) l m->Paired (λ(r:Src) v=>CU r.b h1 r.t r.l k/\∃its,Db r.b h1 r.l its/\its[k]?=some v) l m:=by
   intro l m hl p
   induction p with
   |nil=>exact .nil
   |@cons x u l m hx _ ih =>
    obtain⟨i1,its1,x1,e1⟩:=hx;obtain⟨c1,c2,c3,c4,c5⟩:=ap x (hl x Aw);exact .cons ⟨i1.ext λo e=>b1.extBut _ _ c2 e,its1,x1.ext λo e=>b1.extBut _ _ c4 e,e1⟩ (ih λy hy=>hl y (Ax _ hy))
  exact go (λ_ h=>h) each
 .obtain⟨c1,c2,c3,c4,c5⟩:=ap r hr;exact⟨c1,c2,c3,c5⟩
 .rw[VW vs old 0 (by rw[ho];omega),List.take_zero,List.nil_append] at t2;refine AG (AMp t2 rfl (AG (wpAny_newTuple ?_)));have sz:h2.objs.size=s.heap.objs.size:=s2.trans b1.1;have hzl:z<h2.objs.size:=Heap.lt_size z2;refine AG (m:=Builtin.SmallTypes.ownedTupleHandOut (.ref z) (.ref h2.objs.size)) (AG (AM1 (Heap.get?_push_of_some _ z2) (by simp) λh3 z3 b3=>AM1 z3 (by simp) λh4 z4 b4=>?_));have far:∀c o,c≠z->h2.get? c=some o->h4.get? c=some o:=λc o hc e=>b4.extBut _ _ hc (b3.extBut _ _ hc (Heap.get?_push_of_some _ e));refine AM ⟨_,rfl,?_⟩;have z4':IsZip h4 z TI TO (rawInt h2.objs.size):=z4;have new4:Dp h4 h2.objs.size vs:=b4.extBut _ _ (Eb hzl) (b3.extBut _ _ (Eb hzl) (by show Heap.get? _ _=_;exact Heap.get?_push_size _ rfl));rw[sz] at z4' new4;rw[sz];exact q h4 z4' (far _ _ tz t2) (λr hr=>(i2 r hr).ext λo e=>far _ _ (ap r hr).2.1 e) new4 λc o c1 c2 c3 e=>far c o c1 (k2 c o c2 c3 (b1.extBut _ _ c1 e))
def Zr{zs:List Src}{r0:Src}{its:Array Value}{Q:PySem.Fin->Shared->Prop}(hh:A.handled=none)(hz:IsZip s.heap z TI TO .none)(hi:Dp s.heap TI ((r0::zs).map λr=>.ref r.t))(a1:r0.t≠z)(a2:r0.l≠z)
  (ir:CU r0.b s.heap r0.t r0.l k) (xr:Db r0.b s.heap r0.l its) (hv:its[k]?=none)
  (q:∀h' e,(∀c o,c≠z->c≠r0.t->s.heap.get? c=some o->h'.get? c=some o)->(∃o,h'.get? e=some o/\o.cls=.type "StopIteration")->E (.ref e) {s with heap:=h'}) :
  wpAny (model prog w) A (Builtin.«zip.__next__» ⟨[.ref z],[]⟩) Q E s:=by
 refine AG (m:=field (.ref z) 2) (EN (x:=.bool false) hz rfl rfl (AG (m:=field (.ref z) 3) (EN (x:=.ref TI) hz rfl rfl (AG (AMp hi rfl ?_)))));have hem:((r0::zs).map λr=>Value.ref r.t).toArray.isEmpty=false:=rfl;simp only[hem,ALc,if_false];refine AG (m:=Builtin.SmallTypes.ownedTupleIsFree (.ref z)) (AG (EN (x:=.none) hz rfl rfl (AM ?_)));rw[if_pos rfl];refine AG (AMm (AG (EN (x:=.ref TO) hz rfl rfl (AG (AM1 hz (by simp) λh1 z1 b1=>AG ?_)))));rw[Ak,List.zipIdx_cons,ALx];have z1':IsZip h1 z TI TO .ellipsis:=z1;refine AG (AG (wpAny_onRaise (AG (m:=Builtin.SmallTypes.nextOf (.ref r0.t)) (ABv (s:={s with heap:=h1}) hh (ir.ext λo e=>b1.extBut _ _ a1 e) (xr.ext λo e=>b1.extBut _ _ a2 e) hv λh2 e k2 z3_=>?_))));obtain⟨oe,ge,ce⟩:=z3_;have z2:IsZip h2 z TI TO .ellipsis:=k2 _ _ (Ne.symm a1) z1';have ez:e≠z:=λx=>by subst x;rw[z2] at ge;cases ge;exact absurd (show Value.type "zip"=Value.type "StopIteration" from ce) (by decide)
 exact AM1 z2 (by simp) λh3 _ b3=>q h3 e (λc o c1 c2 x=>b3.extBut _ _ c1 (k2 _ _ c2 (b1.extBut _ _ c1 x))) ⟨oe,b3.extBut _ _ ez ge,ce⟩
end
abbrev Bc:Nat->List (Bool×Addr)->List Src
 |_,[]=>[]
 |n,p::r=>⟨p.1,n,p.2⟩::Bc (n+1) r
def Mz:∀(ls:List (Bool×Addr)) (n:Nat),(Bc n ls).length=ls.length
 |[],_=>rfl
 |_::r,n=>by simp[Bc,Mz r]
def Kf:∀(ls:List (Bool×Addr)) (n:Nat),(Bc n ls).map (λr=>(r.b,r.l))=ls
 |[],_=>rfl
 |_::r,n=>by simp[Bc,Kf r]
def Ke:∀(ls:List (Bool×Addr)) (n:Nat) (r:Src),r∈Bc n ls->n<=r.t/\r.t<n+ls.length
 |[],_,_,h=>nomatch h
 |p::q,n,r,h=>by
  rcases Aa.mp h with e|h
  .subst e;simp
  .obtain⟨a,b⟩:=Ke q (n+1) r h;exact⟨Nat.le_of_succ_le a,Nat.lt_of_lt_of_eq b (by rw[DQ,ALo,Nat.add_comm 1])⟩
def Uz:∀(ls:List (Bool×Addr)) (n:Nat),((Bc n ls).map (·.t)).Nodup
 |[],_=>ALb
 |p::q,n=>by
  rw[Bc,Ak,ALR];refine⟨λh=>?_,Uz q (n+1)⟩;obtain⟨r,hr,e⟩:=BA.mp h;have:=(Ke q (n+1) r hr).1;rw[show r.t=n from e] at this;exact Nat.not_succ_le_self n this
section
variable {prog:Program}{w:World}{A:Around}{E:ANB}{s:Shared}
def Wn:∀(ls:List (Bool×Addr)) (acc:Array Value) (s:Shared),(∀p∈ls,∃its,Db p.1 s.heap p.2 its)->∀G:Array Value->Shared->Prop,
  (∀h',(∀r∈Bc s.heap.objs.size ls,CU r.b h' r.t r.l 0)->h'.objs.size=s.heap.objs.size+ls.length->(∀c o,s.heap.get? c=some o->h'.get? c=some o)->G (acc++((Bc s.heap.objs.size ls).map λr=>Value.ref r.t).toArray) {s with heap:=h'}) ->
  wpAny (model prog w) A (forIn (ls.map λp=>Value.ref p.2) acc λx its=>do let __do_lift <-holding its.toList (pyIter x);pure (ForInStep.yield (its.push __do_lift))) G E s
 |[],acc,s,_,G,q=>AM (by simpa[Bc] using q s.heap (λ_ h=>nomatch h) rfl λ_ _ e=>e)
 |p::ls,acc,s,hs,G,q=>by
  obtain⟨its,x⟩:=hs p Aw;rw[Ak,ALx];refine AG (AG (Ck (ABt x λo i=>AM ?_)));refine Wn ls (acc.push (.ref s.heap.objs.size)) {s with heap:=s.heap.push o} (λp' hp=>?_) G λh' e z k=>?_
  .obtain⟨its',x'⟩:=hs p' (Ax _ hp);exact⟨its',x'.ext λo' e=>Heap.get?_push_of_some _ e⟩
  .have sz:(s.heap.push o).objs.size=s.heap.objs.size+1:=Heap.size_push ..;have e1:Bc s.heap.objs.size (p::ls)=⟨p.1,s.heap.objs.size,p.2⟩::Bc (s.heap.push o).objs.size ls:=by rw[sz];rfl
   have:=q h' (λr hr=>by
    rw[e1] at hr;rcases Aa.mp hr with er|hr
    .subst er;exact i.ext λo' e'=>k _ o' e'
    .exact e r hr) (by rw[z,DQ];show(s.heap.push o).objs.size+_=_;rw[sz];omega) λc o' e'=>k c o' (Heap.get?_push_of_some _ e')
   rw[e1] at this;simpa using this
def Zt(xs:AM5):Builtin.SmallTypes.newClass "zip" ⟨.type "zip"::xs,[]⟩=pure (.type "zip",xs):=by unfold Builtin.SmallTypes.newClass;simp only[sub_zip];rfl
def AEU(ls:List (Bool×Addr))(hn:ls.length<=1000):MeetsIn prog w (Builtin.«zip.__new__» ⟨.type "zip"::ls.map (λp=>.ref p.2),[]⟩) (λ_ R s=>(∀p∈ls,∃its,Db p.1 s.heap p.2 its) /\
  ∀h',(∀r∈Bc s.heap.objs.size ls,CU r.b h' r.t r.l 0)->Dp h' (s.heap.objs.size+ls.length) ((Bc s.heap.objs.size ls).map λr=>.ref r.t)->Dp h' (s.heap.objs.size+ls.length+1) ((Bc s.heap.objs.size ls).map λ_=>.none) ->
   IsZip h' (s.heap.objs.size+ls.length+2) (s.heap.objs.size+ls.length) (s.heap.objs.size+ls.length+1) .none->(∀c o,s.heap.get? c=some o->h'.get? c=some o)->R (.ok (.ret (.ref (s.heap.objs.size+ls.length+2)))) {s with heap:=h'}) :=
 .of_wp λA R s z3_=>by
  obtain⟨hs,q⟩:=z3_;unfold Builtin.«zip.__new__»;rw[Zt];refine AG (AM ?_);refine AG (m:=Builtin.SmallTypes.iterAll (ls.map λp=>.ref p.2)) ?_;unfold Builtin.SmallTypes.iterAll;refine AG (Wn ls #[] s hs _ λh1 e1 z1 k1=>AM ?_);have e0:((#[]:Array Value)++((Bc s.heap.objs.size ls).map λr=>Value.ref r.t).toArray).toList=(Bc s.heap.objs.size ls).map λr=>Value.ref r.t:=by simp
  rw[e0];have len:(Bc s.heap.objs.size ls).length<=1000:=by rw[Mz];exact hn
  have z2:∀o,(h1.push o).objs.size=s.heap.objs.size+ls.length+1:=λo=>by rw[Heap.size_push,z1]
  have z3:∀o o',((h1.push o).push o').objs.size=s.heap.objs.size+ls.length+2:=λo o'=>by rw[Heap.size_push,z2]
  refine AG (wpAny_newTuple (s:={s with heap:=h1}) ?_ (by rw[Ah,sizeLine_eq];omega));refine AG (wpAny_newTuple ?_ (by rw[Ah,Ah,sizeLine_eq];omega));refine AG ?_;show wpAny _ _ (newObj (.type "zip") (.fields #[.none,.bool false,.bool false,.ref _,.ref _])) _ _ _;refine AMv (AM ⟨_,rfl,?_⟩) (by show 5<=sizeLine+2;rw[sizeLine_eq];decide);show R (.ok (.ret (.ref ((h1.push _).push _).objs.size))) _;rw[z3];refine q _ (λr hr=>(e1 r hr).ext λo e=>Heap.get?_push_of_some _ (Heap.get?_push_of_some _ (Heap.get?_push_of_some _ e))) ?_ ?_ ?_ λc o e=>Heap.get?_push_of_some _ (Heap.get?_push_of_some _ (Heap.get?_push_of_some _ (k1 c o e)))
  .show Heap.get? _ _=_;rw[<-z1];exact Heap.get?_push_of_some _ (Heap.get?_push_of_some _ (Heap.get?_push_size _ rfl))
  .show Heap.get? _ _=_;rw[<-z2 {cls:=.type "tuple",data:=.seq ((Bc s.heap.objs.size ls).map λr=>Value.ref r.t).toArray}];refine Heap.get?_push_of_some _ ?_;rw[show((Bc s.heap.objs.size ls).map λ_=>Value.none)=((Bc s.heap.objs.size ls).map λr=>Value.ref r.t).map (λ_=>Value.none) by rw[Bt];rfl];exact Heap.get?_push_size _ rfl
  .rw[<-z3 {cls:=.type "tuple",data:=.seq ((Bc s.heap.objs.size ls).map λr=>Value.ref r.t).toArray} {cls:=.type "tuple",data:=.seq (((Bc s.heap.objs.size ls).map λr=>Value.ref r.t).map (λ_=>Value.none)).toArray}];have:=Heap.get?_push_size ((h1.push {cls:=.type "tuple",data:=.seq ((Bc s.heap.objs.size ls).map λr=>Value.ref r.t).toArray}).push {cls:=.type "tuple",data:=.seq (((Bc s.heap.objs.size ls).map λr=>Value.ref r.t).map (λ_=>Value.none)).toArray}) (o:={cls:=.type "zip",data:=.fields #[.none,.bool false,.bool false,.ref h1.objs.size,.ref (h1.push {cls:=.type "tuple",data:=.seq ((Bc s.heap.objs.size ls).map λr=>Value.ref r.t).toArray}).objs.size]}) rfl;refine Eq.trans this ?_;rw[z2,z1]
end
abbrev Es(K:AK)(b:Bool)(H:Hp)(a:Addr)(xs:List V):Prop:=match b with|true=>BY K H a xs|false=>BH K H a xs
section
variable {X:Cx}{pins:List (Addr×Obj)}{Y:L2.St}{H:Hp}{s:Shared}
def Es.at(I:AI X pins Y H s){b:Bool}{a:Addr}{xs:List V}(h:Es X.K b H a xs):∃its:AM5,AX xs its/\Db b s.heap a its.toArray:=by
 cases b with
 |true=>obtain⟨its,rv,p,_⟩:=I.tuple h;exact⟨its,rv,p⟩
 |false=>obtain⟨its,rv,p,_⟩:=I.list h;exact⟨its,rv,p.isList⟩
def Es.inj(I:AI X pins Y H s){b:Bool}{a:Addr}{xs ys:List V}(h:Es X.K b H a xs)(h':Es X.K b H a ys):xs=ys:=by
 cases b with
 |true=>exact I.tuple_inj h h'
 |false=>exact I.list_inj h h'
end
def AAk{X:Cx}{pins:List (Addr×Obj)}{Y:L2.St}{H:Hp}{s:Shared}{h':Heap}{t':Nat}{fp:AM6}(I:AI X pins Y H s)(hf:∀b∈fp,EE X pins H b)(k:∀b o,b∉fp->s.heap.get? b=some o->h'.get? b=some o):AI X pins Y H {s with heap:=h',toks:=t'}:=by
 have nit:∀b u,H b=some u->b∉fp:=λb u e z=>by rw[(hf b z).1] at e;cases e
 refine I.step (g':=s.gens) (d':=s.drawn) (ch:=fp) (λb hb=>⟨(hf b hb).2.2.2.1,(hf b hb).2.1,(hf b hb).2.2.2.2.1,(hf b hb).2.2.2.2.2⟩) (λb o _ _ hc e _=>k b o hc e) (λb o _ _ hc e _=>⟨o.slots,k b o hc e⟩)
  (λb o _ e n=>n) (λb o hc e=>⟨o,k b o hc e⟩) (λb xs e=>e) (λb o u e=>e)
  (λb ps e=>⟨#[],by rw[e];simp⟩) (λm hm=>?_) (λb u e=>?_) I.bare
 .obtain⟨o,es,ep,ho,r⟩:=hm;exact⟨o,es,ep,k _ o (λz=>(hf _ z).2.1 rfl) ho,r⟩
 .refine(I.hok b u e).stay (λc v hc q=>k c v ?_ q) (λc q=>q) λc xs q=>q;rcases hc with z|z
  .rw[z];exact nit b u e
  .exact nit c _ z
abbrev Itz(K:AK)(zs:List Src)(n:Nat):It :=
 ⟨λi H=>(∀r∈zs,∃xs,Es K r.b H r.l xs/\n<=xs.length/\(zs.head?=some r->xs.length=n))/\i<n,
  λi H v H'=>∃T vs,H T=none/\v=.ref T/\H'=upd H T (.tup vs)/\Paired (λ(r:Src) x=>∀xs,Es K r.b H r.l xs->xs[i]?=some x) zs vs,
  λi H=>(∀r∈zs,∃xs,Es K r.b H r.l xs/\n<=xs.length/\(zs.head?=some r->xs.length=n))/\n<=i⟩
structure Yp (z TI TO:Addr) (zs:List Src):Prop where
 ne:zs≠[]
 few:zs.length<=1000
 nd:(zs.map (·.t)).Nodup
 tz:TO≠z
 iz:TI≠z
 it:TI≠TO
 ts:∀r∈zs,r.t≠z/\r.t≠TI/\r.t≠TO
 ls:∀r∈zs,r.l≠z/\r.l≠TI/\r.l≠TO/\∀q∈zs,r.l≠q.t
def AAl{P:Program}{w:World}{K:AK}{elts:AM7}{x1:Nat}{tp:Pos}{z TI TO:Addr}{zs:List Src}(n:Nat)(ap:Yp z TI TO zs) :
  Gr P w K (.Tuple elts x1 tp) (Itz K zs n) (z::TI::TO::zs.map (·.t)) z (λi h=>IsZip h z TI TO .none/\Dp h TI (zs.map λr=>.ref r.t)/\(∃old,Dp h TO old/\old.length=zs.length)/\(∀r∈zs,CU r.b h r.t r.l i)/\i<=n) where
 mem:=by simp
 obj:=λi h ⟨hz,hi,⟨old,ho,_⟩,hs,_⟩ b hb=>by
  rcases Aa.mp hb with rfl|hb
  .exact⟨_,hz,λv q=>by cases q⟩
  .rcases Aa.mp hb with rfl|hb
   .exact⟨_,hi,λv q=>by cases q⟩
   .rcases Aa.mp hb with rfl|hb
    .exact⟨_,ho,λv q=>by cases q⟩
    .obtain⟨r,hr,rfl⟩:=BA.mp hb;exact(hs r hr).obj
 keep:=λi h h' z3_ k=>by obtain⟨hz,hi,⟨old,ho,hl⟩,hs,hn⟩:=z3_;exact⟨k z (by simp) _ hz,k TI (by simp) _ hi,⟨old,k TO (by simp) _ ho,hl⟩,λr hr=>(hs r hr).ext λo e=>k r.t (by simp only[Aa];exact .inr (.inr (.inr (CN hr)))) o e,hn⟩
 item:=by
  rintro X hP hw hK hc i pins s Y H E I hf ⟨hz,hi,⟨old,ho,hl⟩,hs,_⟩ ⟨hq,hlt⟩;subst hP hw hK
  -- the values
  have vals:∀l:List Src,(∀r∈l,r∈zs)->∃us vs,Paired (λ(r:Src) v=>CU r.b s.heap r.t r.l i/\∃its,Db r.b s.heap r.l its/\its[i]?=some v) l us/\AX vs us/\Paired (λ(r:Src) x=>∀xs,Es X.K r.b H r.l xs->xs[i]?=some x) l vs:=by
   intro l
   induction l with
   |nil=>intro _;exact⟨[],[],.nil,.nil,.nil⟩
   |cons r l ih =>
    intro hl;obtain⟨us,vs,p1,p2,p3⟩:=ih λq hq=>hl q (Ax _ hq);obtain⟨xs,sv,hn,_⟩:=hq r (hl r Aw);obtain⟨its,rv,so⟩:=sv.at I;obtain⟨x,hx⟩:∃x,xs[i]?=some x:=⟨xs[i]'(by omega),by simp[show i<xs.length by omega]⟩;obtain⟨u,hu,ru⟩:=rv.get hx;exact⟨u::us,x::vs,.cons ⟨hs r (hl r Aw),its.toArray,so,by simpa using hu⟩ p1,.cons ru p2,.cons (λys hy=>by rw[hy.inj I sv];exact hx) p3⟩
  obtain⟨us,vs,p1,p2,p3⟩:=vals zs λ_ h=>h;have lu:us.length=zs.length:=(Paired.length p1).symm;have lv:vs.length=zs.length:=(Paired.length p3).symm;have zl:z<s.heap.objs.size:=Heap.lt_size hz;have ty:s.TypeIs (.ref z) "zip":=⟨_,hz,rfl⟩
  have hb:∀b,b∈z::TI::TO::zs.map (·.t)->b<s.heap.objs.size:=λb hb=>by
   rcases Aa.mp hb with rfl|hb
   .exact zl
   .rcases Aa.mp hb with rfl|hb
    .exact Heap.lt_size hi
    .rcases Aa.mp hb with rfl|hb
     .exact Heap.lt_size ho
     .obtain⟨r,hr,rfl⟩:=BA.mp hb;obtain⟨o,e,_⟩:=(hs r hr).obj;exact Heap.lt_size e
  unfold pyNext
  refine AG (wpAny_attempt (AMu (name:=Str.ofString "__next__") ty AMU (Fx AMU ty PySem.F.entry_zip_next (Zs (A:=X.A.in1) (R:=_) (show X.A.in1.handled=none from I.ok.hd hc) hz hi ho (by rw[hl,lu]) (by rw[hl];exact ap.few) ap.ne ap.nd ap.tz ap.iz
   (λr hr=>⟨(ap.ts r hr).2.2,(ap.ts r hr).1,(ap.ls r hr).2.2.1,(ap.ls r hr).1,(ap.ls r hr).2.2.2⟩) p1 λh1 z1 t1 i1 u1 k1=>?_) (PySem.F.args_zip_next_1 _))))
  refine AM ⟨_,rfl,wpAny_letOwnedTupleGo_zip z1 λh2 z2 b2=>?_⟩;have nz:s.heap.objs.size≠z:=Eb zl;have ht2:Dp h2 s.heap.objs.size us:=b2.extBut _ _ nz u1
  have new:Bq X.prog X.w (upd H s.heap.objs.size (.tup vs)) h2 s.heap.objs.size (.tup vs) :=
   ⟨by rw[lv,sizeLine_eq];exact CD ap.few (by decide),us,p2,⟨_,ht2,rfl,_,rfl⟩⟩
  have tn2:IsZip h2 z TI TO .none/\Dp h2 TI (zs.map λr=>.ref r.t)/\(∃old,Dp h2 TO old/\old.length=zs.length)/\(∀r∈zs,CU r.b h2 r.t r.l (i+1))/\i+1<=n:=by refine⟨z2,b2.extBut _ _ ap.iz (k1 _ _ ap.iz ap.it (λhm=>?_) hi),⟨us,b2.extBut _ _ ap.tz t1,lu⟩,λr hr=>(i1 r hr).ext λo e=>b2.extBut _ _ (ap.ts r hr).1 e,hlt⟩;obtain⟨r,hr,e⟩:=BA.mp hm;exact(ap.ts r hr).2.1 e
  have I1:=Mu (t':=s.toks) (h':=h2) I hf (λb o hb q=>by
    simp only[Aa,not_or] at hb
    exact b2.extBut _ _ hb.1 (k1 b o hb.1 hb.2.2.1 hb.2.2.2 q)) (Ae _) (λq=>absurd (hb _ q) (ALS _)) (λb hb=>by
    rcases Aa.mp hb with rfl|hb
    .exact⟨_,tn2.1⟩
    .rcases Aa.mp hb with rfl|hb
     .exact⟨_,tn2.2.1⟩
     .rcases Aa.mp hb with rfl|hb
      .obtain⟨old,q,_⟩:=tn2.2.2.1;exact⟨_,q⟩
      .obtain⟨r,hr,rfl⟩:=BA.mp hb;obtain⟨o,e,_⟩:=(tn2.2.2.2.1 r hr).obj
       exact⟨o,e⟩) new
  exact⟨.ref s.heap.objs.size,_,I1,rfl,⟨s.heap.objs.size,vs,I.hok.fresh (Ae _),rfl,rfl,p3⟩,tn2,λb h'=>by rw[BN (BQ (hb b h'))];exact(hf b h').1⟩
 done:=by
  rintro X hP hw hK hc i pins s Y H E I hf ⟨hz,hi,⟨old,ho,hl⟩,hs,_⟩ ⟨hq,hlt⟩;subst hP hw hK;have ty:s.TypeIs (.ref z) "zip":=⟨_,hz,rfl⟩
  cases zs with
  |nil=>exact absurd rfl ap.ne
  |cons r0 zs =>
   obtain⟨xs,sv,_,hn⟩:=hq r0 Aw;have hn:=hn rfl;obtain⟨its,rv,so⟩:=sv.at I;have m1:r0.t∈z::TI::TO::(r0::zs).map (·.t):=by simp
   unfold pyNext
   refine AG (wpAny_attempt (AMu (name:=Str.ofString "__next__") ty AMU (Fx AMU ty PySem.F.entry_zip_next (Zr (A:=X.A.in1) (show X.A.in1.handled=none from I.ok.hd hc) hz hi (ap.ts r0 Aw).1 (ap.ls r0 Aw).1 (hs r0 Aw) so
    (by rw[List.getElem?_toArray,List.getElem?_eq_none_iff,<-rv.length];omega) λh' e k ⟨o,g,c⟩=>?_) (PySem.F.args_zip_next_1 _))))
   refine AG (AMo (T:="StopIteration") (b:=true) ⟨o,g,c⟩ isSubtype_stop (AM ⟨rfl,?_⟩))
   have I1:=AAk (t':=s.toks) (h':=h') (fp:=[z,r0.t]) I (λb hb=>hf b (by
    rcases Aa.mp hb with rfl|hb
    .simp
    .rw[FW.mp hb];exact m1)) λb o hb q=>k b o (λe=>hb (by simp[e])) (λe=>hb (by simp[e])) q
   exact I1
 self:=λA i s Q E z5_ h=>by obtain⟨hz,_⟩:=z5_;exact wpAny_pyIter_zip hz h
abbrev seqs:List D->AB->Option (List (List D))
 |[],_=>some []
 |d::r,L=>(CW d L).bind λys=>(seqs r L).map (ys::·)
abbrev Ef(n:Nat)(yss:List (List D)):List D:=(List.range n).map λi=>.tup (yss.map λys=>ys[i]?.getD .non)
abbrev He(n:Nat)(fa:AF):IF:=λρ L=>(fa ρ L).bind λx=>match seqs x.1 x.2 with
 |some (ys::yss)=>if (yss.all λzs=>decide (ys.length<=zs.length))=true/\yss.length<100/\yss.length+1=n then some (⟨Ef ys.length (ys::yss),λL'=>decide (seqs x.1 L'=some (ys::yss))⟩,x.2) else none
 |_=>none
abbrev kindD:D->Bool
 |.tup _=>true
 |_=>false
def VI{K:AK}{H:Hp}{O:AM6}{L:AB}{v:V}{d:D}{xs:List D}(rs:Al K H O L)(h:Is K H O v d)(e:CW d L=some xs):∃a vs,v=.ref a/\Es K (kindD d) H a vs/\AN K H O vs xs:=by
 cases h with
 |tup hq il=>cases e;exact⟨_,_,rfl,hq,il⟩
 |fz hq il=>cases e;exact⟨_,_,rfl,hq.sql,il⟩
 |ref hk =>
  simp only[CW] at e;split at e
  .rename_i ys e2;cases e;obtain⟨vs,hv,iv⟩:=rs.ob _ _ _ hk e2;exact⟨_,vs,rfl,BH.of hv,iv⟩
  .cases e
 |_=>cases e
inductive Er (K:AK) (H:Hp) (O:AM6):List D->List (List D)->List (Bool×Addr)->Prop
 |nil:Er K H O [] [] []
 |cons {d:D} {ys:List D} {a:Addr} {vs:List V} {ds yss ls}:Is K H O (.ref a) d->Es K (kindD d) H a vs->AN K H O vs ys->Er K H O ds yss ls->Er K H O (d::ds) (ys::yss) ((kindD d,a)::ls)
def ABU{K:AK}{H:Hp}{O:AM6}{L:AB}(rs:Al K H O L):∀{ds:List D} {yss:List (List D)} {vs:List V},AN K H O vs ds->seqs ds L=some yss->∃ls,Er K H O ds yss ls/\vs=ls.map λp=>.ref p.2:=by
 intro ds yss vs h e
 induction ds generalizing yss vs with
 |nil=>cases h;cases e;exact⟨[],.nil,rfl⟩
 |cons d ds ih =>
  cases h with|cons i r =>
  unfold seqs at e;obtain⟨ys,e1,e2⟩:=ALj.mp e;obtain⟨yss,e3,rfl⟩:=GU.mp e2;obtain⟨ls,h1,rfl⟩:=ih r e3;obtain⟨a,vs,rfl,h2,h3⟩:=VI rs i e1;exact⟨(kindD d,a)::ls,.cons i h2 h3 h1,rfl⟩
def Er.again{K:AK}{H H':Hp}{O O':AM6}{L':AB}(st:Ai H O H' O')(rs:Al K H' O' L'){ds:List D}{yss yss':List (List D)}{ls:List (Bool×Addr)}(h:Er K H O ds yss ls)(e:seqs ds L'=some yss'):Er K H' O' ds yss' ls:=by
 induction h generalizing yss' with
 |nil=>cases e;exact .nil
 |@cons d ys a vs ds yss ls i _ _ _ ih =>
  unfold seqs at e;obtain⟨zs,e1,e2⟩:=ALj.mp e;obtain⟨zss,e3,rfl⟩:=GU.mp e2;obtain⟨a',vs',ea,h2,h3⟩:=VI rs (i.mono st) e1;cases ea;exact .cons (i.mono st) h2 h3 (ih e3)
def Er.len{K:AK}{H:Hp}{O:AM6}{ds:List D}{yss:List (List D)}{ls:List (Bool×Addr)}(h:Er K H O ds yss ls):ls.length=yss.length/\ds.length=yss.length:=by
 induction h with
 |nil=>exact⟨rfl,rfl⟩
 |cons _ _ _ _ ih=>simp[ih.1,ih.2]
def Er.seq{K:AK}{H:Hp}{O:AM6}{ds:List D}{yss:List (List D)}{ls:List (Bool×Addr)}(h:Er K H O ds yss ls):∀p∈ls,∃vs ys,ys∈yss/\Es K p.1 H p.2 vs/\AN K H O vs ys:=by
 induction h with
 |nil=>intro p hp;cases hp
 |@cons d ys a vs ds yss ls i s1 s2 _ ih =>
  intro p hp;rcases Aa.mp hp with e|hp
  .subst e;exact⟨vs,ys,Aw,s1,s2⟩
  .obtain⟨vs',ys',h1,h2⟩:=ih p hp;exact⟨vs',ys',Ax _ h1,h2⟩
def Er.tup{K:AK}{H:Hp}{O:AM6}{ds:List D}{yss:List (List D)}{ls:List (Bool×Addr)}(h:Er K H O ds yss ls){i n:Nat}(hn:∀ys∈yss,n<=ys.length)(hi:i<n):∀{zs:List Src} {vs:List V},zs.map (λr=>(r.b,r.l))=ls ->
  Paired (λ(r:Src) x=>∀xs,Es K r.b H r.l xs->xs[i]?=some x) zs vs->AN K H O vs (yss.map λys=>ys[i]?.getD .non):=by
 induction h with
 |nil=>intro zs vs e p;cases zs with|nil=>cases p;exact .nil|cons=>simp at e
 |@cons d ys a us ds yss ls _ s1 s2 _ ih =>
  intro zs vs e p
  cases zs with
  |nil=>simp at e
  |cons r zs =>
   simp only[Ak,List.cons.injEq,Prod.mk.injEq] at e;obtain⟨⟨eb,el⟩,e2⟩:=e
   cases p with
   |@cons _ x _ vs hx p2 =>
    have hy:n<=ys.length:=hn ys Aw;have hx':=hx us (by rw[eb,el];exact s1);obtain⟨v,hv,iv⟩:=s2.get (i:=i) (d:=ys[i]'(by omega)) (by simp[show i<ys.length by omega]);rw[hx'] at hv;cases hv;rw[Ak,show ys[i]?.getD .non=ys[i]'(by omega) by simp[show i<ys.length by omega]];exact .cons iv (ih (λzs hz=>hn zs (Ax _ hz)) e2 p2)
def Zu(n:Nat)(yss:List (List D))(i:Nat):(Ef n yss)[i]?=if i<n then some (.tup (yss.map λys=>ys[i]?.getD .non)) else none:=by
 unfold Ef;rw[Ar]
 by_cases h:i<n
 .rw[if_pos h,ALs h];rfl
 .rw[if_neg h,ALg (by simpa using h)];rfl
structure Sg (n:Nat):Prop where
 ty:∀us:AM5,us.length=n->checkTypeCall "zip" ⟨us,[]⟩=pure ()
 new:∀us:AM5,us.length=n->checkBuiltinCall "zip.__new__" ⟨.type "zip"::us,[]⟩=pure ()
 init:∀(o:Value) (us:AM5),us.length=n->argsOk "object.__init__" ⟨o::us,[]⟩
def AHb:Sg 2:=⟨λus h=>by obtain⟨a,b,rfl⟩:=JK h;exact PySem.F.typeCall_zip_2 a b,λus h=>by obtain⟨a,b,rfl⟩:=JK h;exact PySem.F.newCall_zip_2 a b,λo us h=>by obtain⟨a,b,rfl⟩:=JK h;exact PySem.F.args_object_init_3 o a b⟩
def AHa:Sg 3:=⟨λus h=>by obtain⟨a,b,c,rfl⟩:=HZ h;kernel_rfl,λus h=>by obtain⟨a,b,c,rfl⟩:=HZ h;kernel_rfl,λo us h=>by
 obtain⟨a,b,c,rfl⟩:=HZ h;unfold argsOk;rw[PySem.signature?_of (id:="object.__init__") (n:=['_','_','t','i','n','i','_','_']) (o:=['t','c','e','j','b','o']) (by kernel_rfl) PySem.F.owner_object]
 kernel_rfl⟩
section
variable {X:Cx}{elts:AM7}{x1:Nat}{tp p pos:Pos}{e:Expr}{es:AM7}{fa:AF}
def AIx{n:Nat}(zn:Sg n)(hm:X.mg "zip"=none)(ha:Ds X (e::es) fa)(hg:Gl X "zip":=by rfl)(hs:EJ e=true:=by rfl)(hplain:es.all EJ=true:=by rfl):Dr X (.Tuple elts x1 tp) (.Call (.Name "zip" p) (e::es) [] pos) (He n fa):=by
 rintro pins s Y H R I ⟨O,ρ,L,J,L',r,ee,k⟩;unfold He at ee;obtain⟨q,e1,ee⟩:=bS ee;obtain⟨ds,L1⟩:=q;simp only[AS] at ee;split at ee
 .rename_i ys yss e2;split at ee
  .rename_i hall;simp only[Option.some.injEq,Prod.mk.injEq] at ee;obtain⟨hJ,hL⟩:=ee;subst hL;refine Call_ (GH I hg hm (u:=.type "zip") (by decide +kernel) (PyProof.Rows.callWith_type1 (Af (ha pos pins s Y H (λvs H1=>∃O1 ls,Ai H O H1 O1/\Al X.K H1 O1 L1/\Er X.K H1 O1 ds (ys::yss) ls/\vs=ls.map λp=>.ref p.2) I ⟨O,ρ,L,_,_,r,e1,λvs H1 O1 st rs is=>?_⟩) λus s1 ⟨vs,H1,I1,r1,O1,ls,st,rs,sr,ev⟩=>?_) (Gy hs) (IC hplain)))
   .obtain⟨ls,h1,h2⟩:=ABU rs is e2;exact⟨O1,ls,st,rs,h1,h2⟩
   .obtain⟨hall,hfew,hn⟩:=hall
    have eu:us=ls.map λp=>Value.ref p.2:=by
     subst ev
     have go:∀{ls:List (Bool×Addr)} {us:AM5},AX (ls.map λp=>V.ref p.2) us->us=ls.map λp=>Value.ref p.2:=by
      intro ls
      induction ls with
      |nil=>intro us h;cases h;rfl
      |cons p ls ih=>intro us h;cases h with|cons h1 h2=>cases h1;rw[ih h2];rfl
     exact go r1
    have ll:ls.length=n:=by rw[sr.len.1,DQ];exact hn
    have ul:us.length=n:=by rw[eu,Ah,ll]
    have lenY:∀zs∈ys::yss,ys.length<=zs.length:=λzs hz=>by
     rcases Aa.mp hz with e|hz
     .rw[e];exact Ae _
     .exact of_decide_eq_true (CF.mp hall zs hz)
    subst eu;refine callType_newIn PySem.F.called_zip (by decide) (zn.ty _ ul) (zn.new _ ul) (λo=>zn.init o _ ul) PySem.F.entry_zip_new (AEU ls (by omega)) ⟨λp hp=>?_,λh' si ti to iz kk=>?_⟩
    .obtain⟨vs',ys',_,sv,_⟩:=sr.seq p hp;obtain⟨its,_,so⟩:=sv.at I1;exact⟨_,so⟩
    .refine⟨⟨_,iz,rfl⟩,wpAny_pyIter_zip iz ?_⟩;have I2:AI X pins Y H1 {s1 with heap:=h'}:=I1.kept (t':=s1.toks) kk
     have lt:∀p∈ls,p.2<s1.heap.objs.size:=λp hp=>by
      obtain⟨vs',ys',_,sv,_⟩:=sr.seq p hp;obtain⟨its,_,so⟩:=sv.at I1
      have:∃o,s1.heap.get? p.2=some o:=by
       revert so
       cases p.1 with
       |true=>rintro⟨o,g,_⟩;exact⟨o,g⟩
       |false=>rintro⟨o,g,_⟩;exact⟨o,g⟩
      obtain⟨o,g⟩:=this;exact Heap.lt_size g
     have lr:∀r∈Bc s1.heap.objs.size ls,r.l<s1.heap.objs.size:=λr hr=>by
      have:(r.b,r.l)∈ls:=by rw[<-Kf ls s1.heap.objs.size];exact CN (f:=λr:Src=>(r.b,r.l)) hr
      exact lt _ this
     have ap:Yp (s1.heap.objs.size+ls.length+2) (s1.heap.objs.size+ls.length) (s1.heap.objs.size+ls.length+1) (Bc s1.heap.objs.size ls):=by
      refine⟨λh=>?_,by rw[Mz];omega,Uz _ _,by simp,by simp,by simp,λr hr=>?_,λr hr=>?_⟩
      .have:=congrArg List.length h;rw[Mz,sr.len.1] at this;simp at this
      .have h1:=(Ke _ _ r hr).2;exact⟨BQ (Cm h1 (ALl _ 2)),BQ h1,BQ (Cm h1 (ALl _ 1))⟩
      .have h1:=lr r hr;refine⟨BQ (Cm h1 (by rw[ALo];exact ALl _ _)),BQ (Cm h1 (ALl _ _)),BQ (Cm h1 (by rw[ALo];exact ALl _ _)),λq hq=>BQ (Cm h1 (Ke _ _ q hq).1)⟩
     have big:∀b∈(s1.heap.objs.size+ls.length+2)::(s1.heap.objs.size+ls.length)::(s1.heap.objs.size+ls.length+1)::(Bc s1.heap.objs.size ls).map (·.t),s1.heap.objs.size<=b:=λb hb=>by
      rcases Aa.mp hb with rfl|hb
      .rw[ALo];exact ALl _ _
      .rcases Aa.mp hb with rfl|hb
       .exact ALl _ _
       .rcases Aa.mp hb with rfl|hb
        .rw[ALo];exact ALl _ _
        .obtain⟨r,hr,rfl⟩:=BA.mp hb;exact(Ke _ _ r hr).1
     refine⟨_,_,_,_,H1,rfl,I2,AAl ys.length ap,⟨iz,ti,⟨_,to,by rw[Ah]⟩,si,Dg _⟩,λb hb=>I1.fpOk (big b hb) (I1.hok.fresh (big b hb)),k _ H1 O1 st rs λi H2 O2 L2 st2 rs2 ok=>?_⟩;rw[<-hJ] at ok ⊢;have sr2:=sr.again st2 rs2 (of_decide_eq_true ok)
     have all2:∀r∈Bc s1.heap.objs.size ls,∃xs,Es X.K r.b H2 r.l xs/\ys.length<=xs.length/\((Bc s1.heap.objs.size ls).head?=some r->xs.length=ys.length):=λr hr=>by
      by_cases h0:(Bc s1.heap.objs.size ls).head?=some r
      .have h1:=congrArg List.head? (Kf ls s1.heap.objs.size);rw[List.head?_map,h0] at h1
       cases sr2 with
       |@cons d ys a vs' ds yss ls i s1' s2' _ =>
        have h1:(r.b,r.l)=(kindD d,a):=Option.some.inj h1;rw[Prod.mk.injEq] at h1;rw[h1.1,h1.2];exact⟨vs',s1',ALT s2'.length.symm,λ_=>s2'.length⟩
      have hm:(r.b,r.l)∈ls:=by rw[<-Kf ls s1.heap.objs.size];exact CN (f:=λr:Src=>(r.b,r.l)) hr
      obtain⟨vs',ys',hy,sv,il⟩:=sr2.seq _ hm;exact⟨vs',sv,by rw[il.length];exact lenY ys' hy,λz=>absurd z h0⟩
     refine⟨λd hd=>?_,λh=>⟨all2,by simpa[Ef] using h⟩⟩;simp only at hd;rw[Zu] at hd;split at hd
     .rename_i hi;cases hd;refine⟨⟨all2,hi⟩,λx H' z2_=>?_⟩;obtain⟨T,vs',hT,ex,eH,p3⟩:=z2_;subst ex eH;have st3:Ai H2 O2 (upd H2 T (.tup vs')) O2:=⟨.new hT,AR _⟩;exact⟨st3,rs2.ext λb u q=>by rw[BN (DK q hT)];exact q,.tup (BY.of Bu) ((sr2.tup lenY hi (Kf _ _) p3).mono st3)⟩
     .cases hd
  .cases ee
 .cases ee
end
section
variable {X:Cx}
abbrev Nm:GM:=λx xs L=>match x,xs with
 |.str a,[.str b]=>some (.bl (Txt.startswith a b),L)
 |_,_=>none
def AJR:MtD X "str.startswith" Nm:=λpins s Y H x xs v us Q I rx rv z12_=>by
 obtain⟨O,L,dx,dxs,d,L',rp,ix,ixs,e,k⟩:=z12_;unfold Nm at e;split at e
 .rename_i a b;cases e;cases ix
  cases ixs with|cons i1 i2 =>
   cases i2;cases i1;obtain⟨t,rfl⟩:=(show ∃t,v=Value.str a t from rx);obtain⟨u,rfl,ry⟩:=Dy rv;obtain⟨t',rfl⟩:=(show ∃t',u=Value.str b t' from ry);exact SC.startswith ⟨.bl (Txt.startswith a b),H,I,rfl,k _ _ _ (.refl _ _) rp (.bl _)⟩
 .cases e
def AK7:bootBuiltins "sorted"=some (.builtin "sorted"):=PyProof.Rows.boot_sorted
end
open PySem.W (KasT kas_sort kas_ask kas_rev kas_asc kas_desc kas_tail3 kas_descPart kas_count kas_place kas_bin)
abbrev kEval{α:Type}(c:Nat->Nat->Bool):KasT α->α
 |.ret a=>a
 |.ask i j k=>kEval c (k (c i j))
abbrev Bm{α:Type}(n:Nat)(R:α->Prop):KasT α->Prop
 |.ret a=>R a
 |.ask i j k=>i<n/\j<n/\∀b,Bm n R (k b)
def Bm.eval{α:Type}{n:Nat}{R:α->Prop}(c:Nat->Nat->Bool):∀{t:KasT α},Bm n R t->R (kEval c t)
 |.ret _,h=>h
 |.ask i j k,h=>Bm.eval c (t:=k (c i j)) (h.2.2 (c i j))
def Bm.bind{α β:Type}{n:Nat}{R:α->Prop}{S:β->Prop}{f:α->KasT β}:∀{t:KasT α},Bm n R t->(∀a,R a->Bm n S (f a))->Bm n S (t.bind f)
 |.ret a,h,g=>g a h
 |.ask i j k,h,g=>⟨h.1,h.2.1,λb=>Bm.bind (t:=k b) (h.2.2 b) g⟩
def Bm.wp{α:Type}{n:Nat}{R:α->Prop}{cmp:Nat->Nat->(Bool->Shared->Prop)->Shared->Prop}{c:Nat->Nat->Bool}{Q:α->Shared->Prop}{s:Shared}
  (hc:∀i j C,i<n->j<n->C (c i j) s->cmp i j C s):∀{t:KasT α},Bm n R t->Q (kEval c t) s->t.kasWp cmp Q s
 |.ret _,_,q=>q
 |.ask i j k,h,q=>hc i j _ h.1 h.2.1 (Bm.wp hc (t:=k (c i j)) (h.2.2 (c i j)) q)
abbrev Pm(n:Nat)(p:Array Nat):Prop:=p.toList.Perm (List.range n)
section
variable {n:Nat}{p:Array Nat}
def Pm.lt(h:Pm n p)(h0:0<n)(k:Nat):p.getD k 0<n:=by
 by_cases hk:k<p.size
 .have e:p.getD k 0=p[k]:=by simp[Array.getD,hk]
  rw[e];exact CM.mp (h.mem_iff.mp (by simp))
 .simp[Array.getD,hk];exact h0
def Pm.rev(h:Pm n p)(i j:Nat):Pm n (kas_rev p i j):=(Array.perm_iff_toList_perm.mp (mirror_perm p i j ((j-i) / 2))).trans h
def Pm.bub(h:Pm n p)(i j:Nat):Pm n (bubble p i j):=(Array.perm_iff_toList_perm.mp (bubble_perm p i j)).trans h
def SZ(h:Pm n p)(h0:0<n):∀f m,Bm n (λ_=>True) (kas_asc p f m)
 |0,_=>trivial
 |f+1,m=>⟨h.lt h0 _,h.lt h0 _,λb=>by
  cases b
  .exact SZ h h0 f (m+1)
  .trivial⟩
def Nq(h0:0<n):∀f (p:Array Nat) m q,Pm n p->Bm n (λr=>Pm n r.1) (kas_desc f p m q)
 |0,_,_,_,h=>h
 |f+1,p,m,q,h=>⟨h.lt h0 _,h.lt h0 _,λb=>by
  cases b
  .refine⟨h.lt h0 _,h.lt h0 _,λd=>?_⟩;cases d
   .exact Nq h0 f p (m+1) (q+1) h
   .exact h
  .show Bm n _ (if q>0 then _ else _)
   by_cases hq:q>0
   .rw[if_pos hq];exact Nq h0 f _ (m+1) 0 (h.rev _ _)
   .rw[if_neg hq];exact Nq h0 f p (m+1) 0 h⟩
def Ud(h:Pm n p)(h0:0<n)(a b:Nat):Bm n (λr=>Pm n r.2) (kas_tail3 a b p) :=
 Bm.bind (SZ (h.rev 0 a) h0 _ _) λ_ _=>h.rev 0 a
def Vi(h:Pm n p)(h0:0<n)(a b:Nat):Bm n (λr=>Pm n r.2) (kas_descPart a b p) :=
 Bm.bind (Nq h0 _ p _ _ h) λr hr=>by
  by_cases hq:r.2.2>0
  .rw[if_pos hq];exact Ud (hr.rev _ _) h0 _ _
  .rw[if_neg hq];exact Ud hr h0 _ _
def AGV(h:Pm n p)(h0:0<n)(b:Nat):Bm n (λr=>Pm n r.2) (kas_count b p) :=
 Bm.bind (SZ h h0 _ _) λr _=>by
  by_cases hq:(r == b)=true
  .rw[if_pos hq];exact h
  .rw[if_neg hq]
   by_cases h1:r>1
   .rw[if_pos h1];refine⟨h.lt h0 _,h.lt h0 _,λc=>?_⟩;cases c
    .exact Vi (h.rev _ _) h0 _ _
    .exact h
   .rw[if_neg h1];exact Vi h h0 _ _
def RJ(h:Pm n p)(h0:0<n)(k:Nat):∀f l r,Bm n (λ_=>True) (kas_place p k f l r)
 |0,_,_=>trivial
 |f+1,l,r=>by
  unfold kas_place
  by_cases hq:l ≥ r
  .rw[if_pos hq];trivial
  .rw[if_neg hq];refine⟨h.lt h0 _,h.lt h0 _,λc=>?_⟩;cases c
   .exact RJ h h0 k f _ _
   .exact RJ h h0 k f _ _
def YS(h0:0<n):∀f (p:Array Nat) k,Pm n p->Bm n (Pm n) (kas_bin f p k)
 |0,_,_,h=>h
 |f+1,p,k,h=>Bm.bind (RJ h h0 k _ _ _) λl _=>YS h0 f _ (k+1) (h.bub _ _)
def NB(h0:0<n):Bm n (Pm n) (kas_sort n) :=
 Bm.bind (AGV (p:=(List.range n).toArray) (List.Perm.refl _) h0 n) λr hr=>by
  by_cases hq:r.1<n
  .rw[if_pos hq];exact YS h0 _ _ _ hr
  .rw[if_neg hq];exact hr
end
abbrev Fe(a b:Str):Bool:=decide (a.cps.toList<b.cps.toList)
abbrev Mt:D->Str
 |.str a=>a
 |_=>""
abbrev Kr:D->List D
 |.tup xs=>xs
 |_=>[]
abbrev NL(d:D):Str×Str:=(Mt ((Kr d).headD .non),Mt ((Kr d).tail.headD .non))
abbrev ltS(p q:Str×Str):Bool:=if p.1=q.1 then (if p.2=q.2 then false else Fe p.2 q.2) else Fe p.1 q.1
abbrev ltP(x y:D):Bool:=ltS (NL x) (NL y)
def JI(a b c d:Str):ltP (.tup [.str a,.str b]) (.tup [.str c,.str d])=if a=c then (if b=d then false else Fe b d) else Fe a c:=rfl
abbrev isPr(d:D):Bool:=decide (d=.tup [.str (NL d).1,.str (NL d).2])
def IB{x:D}(h:isPr x=true):∃a b,x=.tup [.str a,.str b]:=⟨_,_,of_decide_eq_true h⟩
abbrev CP(ds:List D):AM9:=if ds.length<2 then List.range ds.length else (kEval (λi j=>ltP (ds.getD i .non) (ds.getD j .non)) (kas_sort ds.length)).toList
abbrev sortP(ds:List D):List D:=(CP ds).map λi=>ds.getD i .non
def JC(ds:List D):(CP ds).Perm (List.range ds.length):=by
 unfold CP
 by_cases h:ds.length<2
 .rw[if_pos h]
 .rw[if_neg h];exact(NB (n:=ds.length) (by omega)).eval _
def NF{α:Type}(x:α)(xs:List α):((List.range xs.length).map λi=>xs.getD i x)=xs:=by
 apply AMI;intro i;rw[Ar]
 by_cases h:i<xs.length
 .simp[h]
 .simp[h]
def VD(ds:List D):(sortP ds).Perm ds:=by have h:=(JC ds).map λi=>ds.getD i D.non;rw[NF] at h;exact h
abbrev Kw:GL:=λxs L=>match xs with
 |[.ref k]=>(match L[k]? with|some (.lst ds)=>if (ds.all isPr&&decide (ds.length<64))=true then some (.ref L.length,L++[.lst (sortP ds)]) else none|_=>none)
 |_=>none
abbrev GO(h:Heap)(v:Value)(d:D):Prop:=∃(x:Addr) (a b:Str) (t u:Tok),v=.ref x/\IsTup h x #[.str a t,.str b u]/\d=.tup [.str a,.str b]
section
variable {prog:Program}{w:World}{A:Around}{E:ANB}{s:Shared}
def ACt{v v':Value}{d d':D}{Q:Bool->Shared->Prop}(h1:GO s.heap v d)(h2:GO s.heap v' d')(q:Q (ltP d d') s):wpAny (model prog w) A (keyLt' (tuples' true) v v') Q E s:=by
 obtain⟨x,a,b,t,u,rfl,⟨o,e,_,n,k⟩,rfl⟩:=h1;obtain⟨y,c,d,t',u',rfl,⟨o',e',_,n',k'⟩,rfl⟩:=h2;refine PySem.W.kat_lt e k e' k' ?_;show PySem.W.KatLex prog w A true _ Q [(Value.str a t,Value.str c t'),(Value.str b u,Value.str d u')] 0 s
 have q':Q (if a=c then (if b=d then false else Fe b d) else Fe a c) s:=q
 refine PySem.W.kat_cons (wpAny_eqBool_str ?_)
 by_cases hac:a=c
 .rw[decide_eq_true hac];rw[if_pos hac] at q';refine PySem.W.kat_yes (PySem.W.kat_cons (wpAny_eqBool_str ?_))
  by_cases hbd:b=d
  .rw[decide_eq_true hbd];rw[if_pos hbd] at q';exact PySem.W.kat_yes (PySem.W.kat_nil q')
  .rw[decide_eq_false hbd];rw[if_neg hbd] at q';exact PySem.W.kat_no (PySem.W.kat_one _ _ (lt_str q'))
 .rw[decide_eq_false hac];rw[if_neg hac] at q';exact PySem.W.kat_no (oneLt_str q')
def VZ{h:Heap}:∀{vs:AM5} {ds:List D},Paired (GO h) vs ds->∃fs,PySem.W.KatTups h vs fs/\fs.length=vs.length/\∀f∈fs,∃a t,f=Value.str a t
 |_,_,.nil=>⟨[],trivial,rfl,λ_ z=>nomatch z⟩
 |_,_,.cons r t=>by
  obtain⟨x,a,b,tk,u,rfl,⟨o,e,c,n,k⟩,rfl⟩:=r;obtain⟨fs,h1,h2,h3⟩:=VZ t;refine⟨Value.str a tk::fs,PySem.W.KatTups.cons e c k rfl h1,by simp[h2],λf hf=>?_⟩;rcases Aa.mp hf with rfl|hf
  .exact⟨_,_,rfl⟩
  .exact h3 f hf
def ACu{vs:AM5}{ds:List D}{Q:SortKind->Shared->Prop}(r:Paired (GO s.heap) vs ds)(h0:0<vs.length)(q:Q (tuples' true) s):wpAny (model prog w) A (keyKind' vs.toArray) Q E s:=by obtain⟨fs,h1,h2,h3⟩:=VZ r;refine PySem.W.kat_kind (T:=Value.type "str") h1 (by omega) (λv hv=>?_) rfl q;obtain⟨a,t,rfl⟩:=h3 v hv;exact .now
def RP{α β:Type}{R:α->β->Prop}{xs:List α}{ys:List β}(r:Paired R xs ys)(a:α)(b:β):∀i,i<xs.length->R (xs.getD i a) (ys.getD i b):=by
 induction r with
 |nil=>intro i h;cases h
 |cons h t ih =>
  intro i hi
  cases i with
  |zero=>exact h
  |succ i=>exact ih i (by simpa using hi)
def RN{α β:Type}{R:α->β->Prop}{xs:List α}{ys:List β}(r:Paired R xs ys)(a:α)(b:β):∀{p:AM9},(∀i∈p,i<xs.length)->Paired R (p.map λi=>xs.getD i a) (p.map λi=>ys.getD i b)
 |[],_=>.nil
 |i::p,h=>.cons (RP r a b i (h i Aw)) (RN r a b λj hj=>h j (Ax _ hj))
def ABZ{a:Addr}{vs:AM5}{ds:List D}{n:Nat}{P:PySem.Fin->Shared->Prop}(ho:s.heap.get? a=some (seqObj "list" vs.toArray n))(r:Paired (GO s.heap) vs ds)(h64:vs.length<64)
  (h:P (.done (.ret .none)) {s with heap:=sortedHeap s.heap a vs ((CP ds).map λi=>vs.getD i Value.none).toArray}):wpAny (model prog w) A (Builtin.«list.sort» ⟨[.ref a],[]⟩) P E s:=by
 have ha:=Heap.lt_size ho;have hlen:vs.length=ds.length:=Paired.length r;obtain⟨e1,ho1⟩:∃e1,(s.heap.update a (Obj.mapSeq λ_=>#[])).get? a=some (seqObj "list" #[] e1):=⟨_,get?_update_seq ho λ_=>#[]⟩;generalize hH:((s.heap.update a (Obj.mapSeq λ_=>#[])).push (seqObj "tuple" vs.toArray 0)).push (seqObj "list" #[] 0)=H3
 have kept:∀b o,b≠a->s.heap.get? b=some o->H3.get? b=some o:=λb o hb e=>by
  have hlt:=Heap.lt_size e;rw[<-hH,Heap.get?_push_ne _ _ _ (by rw[size_push',Heap.size_update];exact BQ (Nat.lt_succ_of_lt hlt)),Heap.get?_push_ne _ _ _ (by rw[Heap.size_update];exact BQ hlt),Heap.get?_update_ne _ _ _ _ hb];exact e
 have at3:H3.get? a=some (seqObj "list" #[] e1):=by rw[<-hH,Heap.get?_push_ne _ _ _ (by rw[size_push',Heap.size_update];exact BQ (Nat.lt_succ_of_lt ha)),Heap.get?_push_ne _ _ _ (by rw[Heap.size_update];exact BQ ha)];exact ho1
 have stays:∀{v d},GO s.heap v d->GO H3 v d:=λ{v d} ⟨x,p,q,t,u,e0,⟨o,e,c,r⟩,z⟩=>⟨x,p,q,t,u,e0,⟨o,kept x o (λhx=>by rw[hx,ho] at e;cases e;have c2:Value.type "list"=Value.type "tuple":=c;exact absurd c2 (by decide)) e,c,r⟩,z⟩
 have r3:Paired (GO H3) vs ds:=by
  clear h ho hlen h64 hH kept at3 ha ho1
  induction r with
  |nil=>exact .nil
  |cons q t ih=>exact .cons (stays q) ih
 have hout:H3.update a (Obj.mapSeq λ_=>((CP ds).map λi=>vs.getD i Value.none).toArray)=sortedHeap s.heap a vs ((CP ds).map λi=>vs.getD i Value.none).toArray:=by rw[<-hH];rfl
 have hol:(CP ds).length=vs.length:=by rw[(JC ds).length_eq,AMV,hlen]
 rw[list_sort_plain];refine AG (listItems_at ho rfl (AG (listUpdate_at ho rfl ?_ (by rw[BZ,sizeLine_eq];omega) (Dg _))));refine AG (seqEpoch_at ho1 rfl (AG (wpAny_newTuple ?_ (by show vs.length<=_;rw[sizeLine_eq];omega))));refine AG (wpAny_newList (Ck ?_) (Dg _))
 have hgo:∀(st:SortSt),(arrOf st).map (·.2)=((CP ds).map λi=>vs.getD i Value.none).toArray->failedOf st=none->wpAny (model prog w) A (do
   let touched:=(<-seqEpoch a) != e1
   Builtin.List.listUpdate (.ref a) λ_=>(arrOf st).map (·.2)
   if let some e:=failedOf st then rule "list.sort.comparison-raised";throw e
   if touched then rule "list.sort.modified";raiseError "ValueError" "list modified during sort"
   ret .none) P E {s with heap:=H3}:=λst hst hf=>by
  rw[hst,hf];refine AG (seqEpoch_at at3 rfl (AG (listUpdate_at at3 rfl ?_ (Dg _) (by rw[BZ,Ah,hol,sizeLine_eq];omega))));simp only[bne_self_eq_false,ALc,if_false];rw[hout];exact AM h
 show wpAny (model prog w) A _ P E {s with heap:=((s.heap.update a (Obj.mapSeq λ_=>#[])).push (seqObj "tuple" vs.toArray 0)).push (seqObj "list" #[] 0)};rw[hH]
 by_cases h2:vs.length<2
 .have h2':vs.toArray.size<2:=by simpa using h2
  dsimp only;rw[if_pos h2',if_pos h2'];refine AG (AM ?_);rw[StateT.run_pure];refine AG (AM ?_);refine hgo _ ?_ rfl;have e0:CP ds=List.range vs.length:=by unfold CP;rw[if_pos (by omega),hlen]
  rw[e0,NF];apply Array.toList_inj.mp;show((vs.toArray.zip vs.toArray).map (·.2)).toList=vs;rw[Array.toList_map,Array.toList_zip];exact List.map_snd_zip (Ae _)
 .have h2':¬vs.toArray.size<2:=by simpa using h2
  dsimp only;rw[if_neg h2',if_neg h2'];refine AG (ACu (s:={s with heap:=H3}) r3 (by omega) ?_);have e0:CP ds=(kEval (λi j=>ltP (ds.getD i .non) (ds.getD j .non)) (kas_sort vs.length)).toList:=by unfold CP;rw[if_neg (by omega),hlen]
  refine AG (DI (PySem.W.kat_run (ks:=vs) (vs:=vs) (κ:=tuples' true) (s:={s with heap:=H3}) (E:=E) (Q:=λst' s'=>s'={s with heap:=H3}/\(arrOf st').map (·.2)=((CP ds).map λi=>vs.getD i Value.none).toArray/\failedOf st'=none)
   (G:=λp s'=>s'={s with heap:=H3}/\p=kEval (λi j=>ltP (ds.getD i .non) (ds.getD j .non)) (kas_sort vs.length)) rfl (by omega) h64 (λp st' s' _ a2 a3 a4=>⟨a4.1,?_,a3⟩) ?_) ?_ λ_ _ z=>z)
  .rw[PySem.W.kat_snds rfl a2,e0,a4.2]
  .refine Bm.wp (c:=λi j=>ltP (ds.getD i .non) (ds.getD j .non)) (n:=vs.length) (R:=Pm vs.length) (λi j C hi hj hC=>?_) (NB (by omega)) ⟨rfl,rfl⟩;exact ACt (s:={s with heap:=H3}) (RP r3 Value.none D.non i hi) (RP r3 Value.none D.non j hj) hC
  .rintro⟨⟨⟩,st'⟩ s' ⟨rfl,a2,a3⟩;exact hgo st' a2 a3
def ABY{l:Addr}{vs:AM5}{ds:List D}{Q:ANB}(hl:s.heap.IsList l vs.toArray)(r:Paired (GO s.heap) vs ds)(h64:vs.length<64)
  (h:Q (.ref (s.heap.objs.size+1)) {s with heap:=sortedAll s.heap vs ((CP ds).map λi=>vs.getD i Value.none).toArray}):wpAny (model prog w) A (call (.builtin "sorted") [.ref l]) Q E s:=by
 have hsz:((s.heap.push (seqObj "list" #[] 0)).update s.heap.objs.size (Obj.mapSeq (·++vs.toArray))).objs.size=s.heap.objs.size+1:=by rw[Heap.size_update];exact size_push' _ _
 generalize hH:((s.heap.push (seqObj "list" #[] 0)).update s.heap.objs.size (Obj.mapSeq (·++vs.toArray))).push (seqObj "list" vs.toArray 0)=H2;have at2:H2.get? (s.heap.objs.size+1)=some (seqObj "list" vs.toArray 0):=by rw[<-hH,<-hsz];exact Heap.get?_push_size _ rfl
 have kept:∀b o,s.heap.get? b=some o->H2.get? b=some o:=λb o e=>by
  have hlt:=Heap.lt_size e;rw[<-hH,Heap.get?_push_ne _ _ _ (by rw[hsz];exact BQ (Nat.lt_succ_of_lt hlt)),Heap.get?_update_ne _ _ _ _ (BQ hlt),Heap.get?_push_ne _ _ _ (BQ hlt)];exact e
 have r2:Paired (GO H2) vs ds:=by
  clear h hl h64 hH at2 hsz
  induction r with
  |nil=>exact .nil
  |cons q t ih =>
   obtain⟨x,p,q,tk,u,e0,⟨o,e,c⟩,z⟩:=q;exact .cons ⟨x,p,q,tk,u,e0,⟨o,kept _ _ e,c⟩,z⟩ ih
 refine Calls.call_function_entry kind_sorted plain_sorted entry_sorted (args_sorted1 _) ?_;unfold Builtin.«sorted»;refine AG (m:=checkCount "sorted" 1 1 _) (AM (AG (collect_list hl ?_ (by rw[sizeLine_eq];omega))));refine AG (wpAny_newList ?_ (by rw[sizeLine_eq];omega));show wpAny _ _ _ _ _ {s with heap:=((s.heap.push (seqObj "list" #[] 0)).update s.heap.objs.size (Obj.mapSeq (·++vs.toArray))).push (seqObj "list" vs.toArray 0)};rw[hsz,hH];refine AG (Ck (Fx slot_list_sort ⟨_,at2,rfl⟩ entry_list_sort (ABZ (s:={s with heap:=H2}) at2 r2 h64 ⟨_,rfl,AM ⟨_,rfl,?_⟩⟩) (args_list_sort _)));have e3:sortedHeap H2 (s.heap.objs.size+1) vs ((CP ds).map λi=>vs.getD i Value.none).toArray=sortedAll s.heap vs ((CP ds).map λi=>vs.getD i Value.none).toArray:=by rw[<-hH];rfl
 show Q _ {s with heap:=sortedHeap H2 (s.heap.objs.size+1) vs _};rw[e3];exact h
end
section
variable {X:Cx}
def Wp{K:AK}{H:Hp}{O:AM6}{ws:List V}{ds:List D}(h:AN K H O ws ds):Paired (Is K H O) ws ds:=by
 induction ds generalizing ws with
 |nil=>cases h;exact .nil
 |cons x ds ih=>cases h with|cons a t=>exact .cons a (ih t)
def AFK{K:AK}{H:Hp}{O:AM6}{ws:List V}{ds:List D}(h:Paired (Is K H O) ws ds):AN K H O ws ds:=by
 induction h with
 |nil=>exact .nil
 |cons q _ ih=>exact .cons q ih
def ACs{pins}{s:Shared}{Y}{H:Hp}{O:AM6}(I:AI X pins Y H s):∀{ws:List V} {ds:List D} {vs:AM5},AN X.K H O ws ds->AX ws vs->ds.all isPr=true->Paired (GO s.heap) vs ds:=by
 intro ws ds vs hi hv e
 induction hv generalizing ds with
 |nil=>cases hi;exact .nil
 |cons r q ih =>
  cases hi with|cons h t =>
  rw[ALi,Bn] at e;refine .cons ?_ (ih t e.2);obtain⟨a,b,rfl⟩:=IB e.1
  .cases h with|tup hs hl =>
    cases r
    cases hl with|cons h1 hl=>cases hl with|cons h2 hl =>
     cases hl;cases h1;cases h2;obtain⟨its,rv,p,_⟩:=I.tuple hs
     cases rv with|cons r1 rv=>cases rv with|cons r2 rv =>
      cases rv;obtain⟨t1,rfl⟩:=(show ∃t,_=Value.str a t from r1);obtain⟨t2,rfl⟩:=(show ∃t,_=Value.str b t from r2);exact⟨_,a,b,t1,t2,rfl,p,rfl⟩
def AKu:Ex X (.builtin "sorted") Kw:=λpins s Y H vs us Q I rv z9_=>by
 obtain⟨O,L,xs,d,L',rs,is,e,k⟩:=z9_;unfold Kw at e;split at e
 .rename_i n;split at e
  .rename_i ds e1;split at e
   .rename_i hall;rw[Bn] at hall;have hlt:=of_decide_eq_true hall.2;cases e
    cases is with|cons i1 i2=>cases i2;cases i1 with|@ref _ a hn =>
     obtain⟨u,rfl,ru⟩:=Dy rv;cases ru;obtain⟨ws,hw,il⟩:=rs.ob n _ _ hn e1;obtain⟨its,rvv,p,_⟩:=I.list (BH.of hw);have hl1:ws.length=its.length:=rvv.length;have hl2:ws.length=ds.length:=Paired.length (Wp il);refine ABY p.isList (ACs I il rvv hall.1) (by omega) ?_;have hin:∀i∈CP ds,i<ws.length:=λi hi=>by rw[hl2];exact CM.mp ((JC ds).mem_iff.mp hi)
     have hol:(CP ds).length=ds.length:=by rw[(JC ds).length_eq,AMV]
     obtain⟨c,hc⟩:=sortedAll_at s.heap its ((CP ds).map λi=>its.getD i Value.none).toArray;have hf:H (s.heap.objs.size+1)=none:=I.hok.fresh (ALQ _);have st:Ai H O (upd H (s.heap.objs.size+1) (.lst ((CP ds).map λi=>ws.getD i V.non))) (O++[s.heap.objs.size+1]):=⟨.new hf,Am _ _⟩;have hil:AN X.K H O ((CP ds).map λi=>ws.getD i V.non) (sortP ds):=AFK (RN (Wp il) V.non D.non hin)
     exact⟨.ref (s.heap.objs.size+1),upd H (s.heap.objs.size+1) (.lst ((CP ds).map λi=>ws.getD i V.non)),I.laid (o:=.lst ((CP ds).map λi=>ws.getD i V.non)) (t':=s.toks) (λb o q=>sortedAll_old q) (ALQ _) ⟨by rw[Ah,hol,sizeLine_eq];omega,(CP ds).map λi=>its.getD i Value.none,c,RN rvv V.non Value.none hin,hc⟩,rfl,
      k _ _ _ st (rs.new hf ⟨_,Bu,hil.mono st⟩) (.ref (by rw[<-rs.len];simp))⟩
   .cases e
  .cases e
 .cases e
end
section
variable {X:Cx}
def vv{i:Nat}{x:Str}{pos:Pos}(hN:X.N[i]?=some x:=by rfl)(hv:Jf X.env.scope x:=by first|exact Or.inl rfl|exact Or.inr (Or.inl rfl)|exact Or.inr (Or.inr rfl))(hd:(x == ("__debug__":Str))=false:=by decide)(hcd:(x == ("__classdict__":Str))=false:=by decide):AW X (.Name x pos) (AA i):=AGF (pv i hN hv hd hcd)
def ixq{a b:Expr}{fa fb:EF}{pos:Pos}(ha:AW X a fa)(hb:AW X b fb)(hs:Sk b:=by intro _ _;rfl):AW X (.Subscript a b pos) (AE AU fa fb):=AGG AAQ ha hb hs
end
abbrev Sn(K:AK)(x:Str)(f:Addr):Prop:=Bs K mainGlobals x=some (some (.ref f))
abbrev Lc(K:AK)(x qual:Str)(st:Stmt)(f:Addr):Prop:=∃fd,HN K x qual st f fd
def Xd{K:AK}{x qual:Str}{st:Stmt}{f:Addr}{oc:Value}{od an:Option Addr}{osl:Array (Option Value)}{kV doc pm cdv ct:Value}(l:K.lookup f=some ⟨oc,od,.func (ALY x qual (IS st) (FK st) (Ad st) .none kV doc pm an cdv ct),osl⟩)(c:AMP K cdv qual=true)(k:Fz K (.ref f)=true):Lc K x qual st f:=⟨_,AFw l c k⟩
abbrev Az(P:Program)(w:World)(K:AK)(mg:AM3)(base:Heap)(k:Nat)(N:AM4)(qual:Str)(st:Stmt)(B:SF):Prop :=
 ∀(cdv:Value) (f:Addr) (A:Around) (outer:List Env) (s:Shared) (H:Hp) (E:XK),Room k (A.deeper (envOfC qual (Ad st) s.heap.objs.size f cdv))->Eu (CQ CX0 P w K mg base N qual (Ad st) f cdv A outer s H E).nox (FK st) B
abbrev ZF(x qual:Str)(st:Stmt)(ps:AM4):Prop:=∀(kV doc pm:Value) (an:Option Addr) (cdv ct:Value) (us:AM5),us.length=ps.length->bindArgs (ALY x qual (IS st) (FK st) (Ad st) .none kV doc pm an cdv ct) ⟨us,[]⟩=pure (ps.zip us)
def AFy{P:Program}{w:World}{K:AK}{mg:AM3}{base h:Heap}(X:K.In h)(Gn:h.Ns mainGlobals mg){x qual:Str}{st:Stmt}{f:Addr}{N ps:AM4}{k:Nat}{B:SF}(G:GL)(e:G=Aj B N ps.length)
  (a:Bs K mainGlobals x=some (some (.ref f))) (q:Lc K x qual st f) (S:As N ps (Ad st)) (d:Az P w K mg base k N qual st B) (b:ZF x qual st ps):Ao P w K mg base (k+1) x G:=by
 obtain⟨fd,F⟩:=q;subst e;exact SG F S (λcdv A outer s H E hr=>d cdv f A outer s H E hr) (F.binds b) (Ey X Gn a) F.kp
def Ao.mn{P:Program}{w:World}{K:AK}{mg:AM3}{base:Heap}{j k:Nat}{x:Str}{G:GL}(F:Ao P w K mg base j x G)(h:j<=k:=by decide):Ao P w K mg base k x G:=F.mono h
def Fw.mn{P:Program}{w:World}{K:AK}{mg:AM3}{base:Heap}{j k:Nat}{x:Str}{G:GL}(F:Fw P w K mg base j x G)(h:j<=k:=by decide):Fw P w K mg base k x G:=F.mono h
abbrev anyO:List (Option Bool)->Option Bool
 |[]=>some false
 |none::_=>none
 |some b::r=>(anyO r).map (b || ·)
abbrev AFo:G2:=λx y L=>match y with
 |.ref k=>(match L[k]? with|some (.lst ys)=>(anyO (ys.map λz=>Cg 30 L z x)).map λb=>(.bl (!b),L)|_=>none)
 |_=>none
structure FQ (K:AK) (x:Str) (st:Stmt) (f:Addr):Prop where
 a:Sn K x f
 b:Lc K x x st f
def dk{P:Program}{w:World}{K:AK}{mg:AM3}{base:Heap}{k:Nat}{N ps:AM4}{qual:Str}{st:Stmt}{B:SF}(S:As N ps (Ad st))
  (h:∀(cdv:Value) (f:Addr) (A:Around) (outer:List Env) (s:Shared) (H:Hp) (E:XK),Room k (A.deeper (envOfC qual (Ad st) s.heap.objs.size f cdv))->N.Nodup->Eu (CQ CX0 P w K mg base N qual (Ad st) f cdv A outer s H E).nox (FK st) B):Az P w K mg base k N qual st B:=λcdv f A outer s H E hr=>h cdv f A outer s H E hr S.nd
def AFz{P:Program}{w:World}{K:AK}{mg:AM3}{base h:Heap}(X:K.In h)(Gn:h.Ns mainGlobals mg){x:Str}{st:Stmt}{f:Addr}{N ps:AM4}{k:Nat}{B:SF}(G:GL)(q:FQ K x st f)(S:As N ps (Ad st))(d:Az P w K mg base k N x st B)(e:G=Aj B N ps.length:=by rfl)(b:ZF x x st ps:=by wtm_at "bi"):Ao P w K mg base (k+1) x G:=AFy X Gn G e q.a q.b S d b
abbrev Gm(tg:Expr)(N:AM4)(idx:AM9):AM4 :=
 (match tg with
 |.Name x _=>[x]
 |.Tuple es _ _=>es.filterMap λe=>match e with
  |.Name x _=>some x
  |_=>none
 |_=>[])++idx.map λi=>N.getD i Str.empty
section
variable {P:Program}{w:World}{K:AK}{mg:AM3}{base:Heap}{N:AM4}{qual:Str}{sc:Scope}{f:Addr}{cdv:Value}{A:Around}{outer:List Env}{s:Shared}{H:Hp}{E:XK}{C0:FV}
def YG{scope:Scope}{tg:Expr}{n:Nat}{idx:AM9}(h1:scope.kind=.function)(hc:LJ scope.names sc.names N (Gm tg N idx) n idx=true):Ld (CQ C0 P w K mg base N qual sc f cdv A outer s H E).nox scope (Gm tg N idx) n idx:=AGY h1 (λ_=>rfl) rfl hc
def AKh{tg iter elt:Expr}{ifs:AM7}{scope:Scope}{pos:Pos}{fi:IF}{n:Nat}{idx:AM9}{g:GF}{c:TF}{fe:EF}(hi:Dr (CQ C0 P w K mg base N qual sc f cdv A outer s H E).nox tg iter fi)
  (hbody:∀cl C s3 H3 fp pins,Gu (CS (CQ C0 P w K mg base N qual sc f cdv A outer s H E).nox (Gm tg N idx) scope cl C s3 H3 fp pins) tg g/\Hv (CS (CQ C0 P w K mg base N qual sc f cdv A outer s H E).nox (Gm tg N idx) scope cl C s3 H3 fp pins) ifs c/\AW (CS (CQ C0 P w K mg base N qual sc f cdv A outer s H E).nox (Gm tg N idx) scope cl C s3 H3 fp pins) elt fe)
  (h1:scope.kind=.function:=by rfl) (hc:LJ scope.names sc.names N (Gm tg N idx) n idx=true:=by decide +kernel)
  (hs:∀x,foldedSetIterable iter (CQ C0 P w K mg base N qual sc f cdv A outer s H E).nox.env x=pure x:=by intro _;rfl):AW (CQ C0 P w K mg base N qual sc f cdv A outer s H E).nox (.ListComp elt [⟨tg,iter,ifs,0⟩] scope pos) (Bl fi n idx g c fe):=AGI rfl hi (YG h1 hc) hbody hs
def AIl{i:Nat}{x:Str}{px pos':Pos}{tg iter elt:Expr}{ifs:AM7}{scope:Scope}{pos:Pos}{fi:IF}{n:Nat}{idx:AM9}{g:GF}{c:TF}{fe:EF}(hN:N.Nodup)(hi:Dr (CQ C0 P w K mg base N qual sc f cdv A outer s H E).nox tg iter fi)
  (hbody:∀cl C s3 H3 fp pins,Gu (CS (CQ C0 P w K mg base N qual sc f cdv A outer s H E).nox (Gm tg N idx) scope cl C s3 H3 fp pins) tg g/\Hv (CS (CQ C0 P w K mg base N qual sc f cdv A outer s H E).nox (Gm tg N idx) scope cl C s3 H3 fp pins) ifs c/\AW (CS (CQ C0 P w K mg base N qual sc f cdv A outer s H E).nox (Gm tg N idx) scope cl C s3 H3 fp pins) elt fe)
  (h1:scope.kind=.function:=by rfl) (hc:LJ scope.names sc.names N (Gm tg N idx) n idx=true:=by decide +kernel)
  (hi2:N[i]?=some x:=by rfl) (hx:Gv (CQ C0 P w K mg base N qual sc f cdv A outer s H E).nox.env.scope x:=by first|exact Or.inl rfl|exact Or.inr rfl)
  (hsw:swapsWith (.ListComp elt [⟨tg,iter,ifs,0⟩] scope pos) (some (.Name x px)) pos'.line (CQ C0 P w K mg base N qual sc f cdv A outer s H E).nox.env=pure true:=by rfl)
  (hs:∀x,foldedSetIterable iter (CQ C0 P w K mg base N qual sc f cdv A outer s H E).nox.env x=pure x:=by intro _;rfl):Dc (CQ C0 P w K mg base N qual sc f cdv A outer s H E).nox (.Assign [.Name x px] (.ListComp elt [⟨tg,iter,ifs,0⟩] scope pos) pos') (AO i (Bl fi n idx g c fe)):=ABl hN rfl hi (YG h1 hc) hbody hi2 hx hsw (.inl rfl) hs
end
def nqC{X:Cx}{N':AM4}{scope:Scope}{cl C s3 H3 fp pins}(h:N'.Nodup:=by decide +kernel):(CS X N' scope cl C s3 H3 fp pins).N.Nodup:=h
abbrev JS:GL:=λxs L=>match xs with
 |[.ref k]=>(match L[k]? with|some (.lst ds)=>some (.ref L.length,L++[.lst ds.reverse])|_=>none)
 |_=>none
abbrev keysG(G:GL)(L:AB):List D->Option (List (Int×D))
 |[]=>some []
 |d::ds=>match G [d] L with
  |some (.int z,L')=>if L'=L then (keysG G L ds).map ((z,d)::·) else none
  |_=>none
abbrev bestK:List (Int×D)->Option (Int×D)
 |[]=>none
 |x::xs=>match bestK xs with
  |none=>some x
  |some y=>if y.1<x.1 then some y else some x
abbrev Kx(G:GL):GL:=λxs L=>match xs with
 |[.ref k]=>(match L[k]? with|some (.lst ds)=>(keysG G L ds).map λks=>(((bestK ks).map (·.2)).getD .non,L)|_=>none)
 |_=>none
def AB1:typeLookup (.type "list_reverseiterator") "__len__"=pure none:=by rw[typeLookup_type,builtinLookup_eq_fast];kernel_rfl
def AB2:typeLookup (.type "list_reverseiterator") "__length_hint__"=pure (some (.builtin "list_reverseiterator.__length_hint__")):=by rw[typeLookup_type,builtinLookup_eq_fast];kernel_rfl
section
variable {prog:Program}{w:World}{A:Around}{E:ANB}{s:Shared}{I l:Addr}
def AB3{Q:Bool->Shared->Prop}(hT:s.TypeIs (.ref I) "list_reverseiterator")(h:Q false s):wpAny (model prog w) A (Builtin.List.listLengthHint (.ref I)) Q E s:=by
 unfold Builtin.List.listLengthHint;refine AG (AMn hT AB1 ?_);show wpAny _ A (specialOf (Value.ref I) (Str.ofString "__length_hint__") >>= _) _ _ _;refine AG (AMn hT AB2 ?_);generalize hid:("list_reverseiterator.__length_hint__":String)=j
 wp_delta
 rw[show splitId j=some ("list_reverseiterator","__length_hint__") by subst hid;decide +kernel];subst hid;refine AG (AMo (T:="list_reverseiterator") (b:=true) hT (by rw[isSubtype_type];kernel_rfl) ?_);refine wpAny_ite_split (λz=>absurd z (by decide)) λ_=>?_;refine wpAny_ite_split (λ_=>?_) λz=>absurd (by decide +kernel) z;refine wpAny_ite_split (λz=>absurd z (by decide +kernel)) λ_=>?_;exact AM h
def AB4{items:Array Value}{R:Result->Shared->Prop}(hh:A.handled=none)(hne:l≠I)(S:Addr)(hSI:S≠I)(hSl:S≠l)(it:s.heap.IsRevIter I l ((items.size:Int)-1))(hl:s.heap.IsList l items)(c₀:Nat)
  (hS:s.heap.get? S=some {cls:=.type "list",data:=.seq #[] c₀}) (hn:items.size<=sizeLine)
  (hR:∀h' tk acc c,(∀b o,b≠S->b≠I->s.heap.get? b=some o->h'.get? b=some o)->h'.get? S=some {cls:=.type "list",dict:=none,data:=.seq acc c,slots:=#[]}->ItemsOf (λi v=>items[items.size-1-i]?=some v) acc items.size ->
   R (.ok (.ret .none)) {s with heap:=h',toks:=tk}) :
  wpAny (model prog w) A.in1 (Builtin.List.listExtendWith (.ref S) (.ref I) .none) (λfin s'=>match fin with|.done f=>R (.ok f) s'|.again c'=>c'.quiet=true/\codeAny (model prog w) A c' R s') (λe s'=>R (.error e) s') s:=by
 have W:=(Walks.listRev (prog:=prog) (w:=w) (A:=A.in1) hh I l hne items).toS;unfold Builtin.List.listExtendWith;refine AG (wpAny_typeOf it.typeIs ?_);have h1:Builtin.List.listSameRef (.ref S) (.ref I)=false:=by simp[Builtin.List.listSameRef,hSI]
 simp only[h1,show(Value.type "list_reverseiterator" == Value.type "list")=false by decide,show(Value.type "list_reverseiterator" == Value.type "tuple")=false by decide,Bool.or_false,ALc,if_false];refine AG (wpAny_pyIter_revIter it ?_);refine AG (Ck (AB3 it.typeIs ?_));refine wpAny_ite_split (λz=>absurd z (by decide +kernel)) λ_=>AM ⟨plainId_quiet PySem.F.plain_extend_loop _,?_⟩;refine codeAny_extend_loopS W hn S (by simp[hSI,hSl]) .none items.size 0 s #[] c₀ rfl (Dg _) ⟨Dg _,by simpa using it,hl⟩ hS (ItemsOf.nil _) λs' acc c hm hS' ha=>?_;rw[Moved.eq_with hm];exact hR s'.heap s'.toks acc c (λb o hb hi e=>hm.heap b o (by simp[hb,hi]) e) hS' ha
def AB0{items:Array Value}{Q:ANB}(hh:A.handled=none)(hne:l≠I)(it:s.heap.IsRevIter I l ((items.size:Int)-1))(hl:s.heap.IsList l items)(hn:items.size<=sizeLine)
  (hQ:∀h' tk acc c,(∀b o,b≠I->s.heap.get? b=some o->h'.get? b=some o)->h'.get? s.heap.objs.size=some {cls:=.type "list",dict:=none,data:=.seq acc c,slots:=#[]}->ItemsOf (λi v=>items[items.size-1-i]?=some v) acc items.size ->
   Q (.ref s.heap.objs.size) {s with heap:=h',toks:=tk}):wpAny (model prog w) A (call (.type "list") [.ref I]) Q E s:=by
 obtain⟨oi,gi,ri⟩:=id it;obtain⟨ol,gl,rl⟩:=id hl;refine callType_codes (Q₁:=λx s₁=>x=.ref s.heap.objs.size/\s₁={s with heap:=s.heap.push {cls:=.type "list",data:=.seq #[]}}) PySem.F.called_list (PySem.F.typeCall_list_1 _) PySem.F.entry_list_init (code_list_new _ ⟨rfl,rfl⟩) ?_;rintro _ _ ⟨rfl,rfl⟩;have hS:(s.heap.push {cls:=.type "list",data:=.seq #[]}).get? s.heap.objs.size=some {cls:=.type "list",data:=.seq #[]}:=Heap.get?_push_size _ rfl;refine⟨⟨_,hS,rfl⟩,PySem.F.args_list_init_2 _ _,?_⟩;refine AG ?_;unfold Builtin.List.listItems;refine AG (AMp hS rfl (AM ?_));refine AG (m:=updateSeq s.heap.objs.size λ_=>#[]) (wpAny_updateSeq hS rfl ?_);have hS₂:=Heap.get?_update_self (Obj.mapSeq λ_=>(#[]:Array Value)) hS rfl;have nI:s.heap.objs.size≠I:=Eb (Heap.lt_size gi);have nl:s.heap.objs.size≠l:=Eb (Heap.lt_size gl)
 have oth:∀b o,s.heap.get? b=some o->((s.heap.push {cls:=.type "list",data:=.seq #[]}).update s.heap.objs.size (Obj.mapSeq λ_=>(#[]:Array Value))).get? b=some o :=
  λb o e=>(Heap.get?_update_other _ _ (Eb (Heap.lt_size e))).trans (Heap.get?_push_of_some _ e)
 refine AG (AM2 ?_);refine AB4 (A:=A.in1) hh hne _ nI nl (it.at λo e=>oth _ o e) (hl.at λo e=>oth _ o e) _ hS₂ hn λh' tk acc c k hS' ha=>⟨rfl,?_⟩;exact hQ h' tk acc c (λb o hb e=>k b o (BQ (Heap.lt_size e)) hb (oth b o e)) hS' ha
end
def AN.rev{K:AK}{H:Hp}{O:AM6}:∀{vs:List V} {ds:List D},AN K H O vs ds->AN K H O vs.reverse ds.reverse
 |_,_,.nil=>.nil
 |_,_,.cons a b=>by
  rw[AMQ,AMQ];exact(AN.rev b).append (.cons a .nil)
def AFn{xs:List D}{L L':AB}{d:D}(e:JS xs L=some (d,L')):∃n ds,xs=[.ref n]/\L[n]?=some (.lst ds)/\d=.ref L.length/\L'=L++[.lst ds.reverse]:=by
 unfold JS at e;split at e
 .split at e
  .rename_i n _ ds e1;cases e;exact⟨n,ds,rfl,e1,rfl,rfl⟩
  .cases e
 .cases e
def VP{K:AK}{H:Hp}{O:AM6}{vs:List V}{us:AM5}{n:Nat}(is:AN K H O vs [.ref n])(r:AX vs us):∃a,O[n]?=some a/\us=[.ref a]:=by
 cases is with|cons i1 i2=>cases i2;cases i1 with|@ref _ a hn =>
  obtain⟨u,rfl,ru⟩:=Dy r;exact⟨a,hn,by rw[show u=Value.ref a from ru]⟩
section
variable {X:Cx}{p p2 pos pos2:Pos}{e:Expr}{f:AF}
def AB5{pins:List (Addr×Obj)}{Y:L2.St}{H:Hp}{s:Shared}{O:AM6}{L:AB}{n:Nat}{ds:List D}{a:Addr}{Q:VK}(hc:X.calm=true)(I:AI X pins Y H s)(rs:Al X.K H O L)(hn:O[n]?=some a)(e1:L[n]?=some (.lst ds))
  (k:∀w H' O',Ai H O H' O'->Al X.K H' O' (L++[.lst ds.reverse])->Is X.K H' O' w (.ref L.length)->Q w H'):wpAny (model X.prog X.w) X.A (call (.type "reversed") [.ref a]) (λv s'=>wpAny (model X.prog X.w) X.A (call (.type "list") [v]) (EP X pins Y Q) X.xe s') X.xe s:=by
 obtain⟨ws,hw,il⟩:=rs.ob n _ _ hn e1;obtain⟨its,rv,pl,hz⟩:=I.list (BH.of hw);have hal:a<s.heap.objs.size:=by obtain⟨o,g,_⟩:=pl.isList;exact Heap.lt_size g
 have hlen:its.length=ws.length:=rv.length.symm;have hsz:(s.heap.push (revObj a ((its.toArray.size:Int)-1))).objs.size=s.heap.objs.size+1:=size_push' ..;have hf:H (s.heap.objs.size+1)=none:=I.hok.fresh (ALQ _);have st:Ai H O (upd H (s.heap.objs.size+1) (.lst ws.reverse)) (O++[s.heap.objs.size+1]):=⟨.new hf,Am _ _⟩;have q:=k (.ref (s.heap.objs.size+1)) _ _ st (rs.new hf ⟨_,Bu,il.rev.mono st⟩) (.ref (by rw[<-rs.len];simp));refine call_reversed_list pl.isList (AB0 (I.ok.hd hc) (BQ hal) ⟨_,Heap.get?_push_size _ rfl,rfl,rfl⟩ (pl.isList.at λo q=>Heap.get?_push_of_some _ q) (by rw[BZ,hlen];exact hz) λh' tk acc c kk hD hacc=>?_);clear k
 have hv:AX ws.reverse acc.toList:=by
  have h9:acc.size=ws.length:=by have h8:=hacc.1;simpa[hlen] using h8
  refine Qn (by simp[h9]) λi v hv=>?_;have hi:i<ws.length:=by simpa using (Ay.mp hv).1
  rw[List.getElem?_reverse hi] at hv;obtain⟨u,hu,ru⟩:=rv.get hv;have q:=hacc.2 i acc[i] (by simp[h9,hi]);rw[BZ,hlen,List.getElem?_toArray,hu] at q;cases q;exact⟨acc[i],by simp[h9,hi],ru⟩
 rw[hsz] at hD ⊢;exact⟨.ref (s.heap.objs.size+1),_,I.laid (o:=.lst ws.reverse) (t':=tk) (h':=h') (a:=s.heap.objs.size+1) (λb u q=>kk b u (BQ (Heap.lt_size q)) (Heap.get?_push_of_some _ q)) (ALQ _) ⟨by rw[List.length_reverse];exact hz,acc.toList,c,hv,by simpa using hD⟩,rfl,q⟩
def AKb(hm:X.mg "list"=none)(hm2:X.mg "reversed"=none)(ha:Ds X [e] f)(hg:Gl X "list":=by rfl)(hg2:Gl X "reversed":=by rfl)(hc:X.calm=true:=by rfl)(hs:starEach [e] X.env=[(false,eval e X.env)]:=by rfl) :
  AW X (.Call (.Name "list" p) [.Call (.Name "reversed" p2) [e] [] pos2] [] pos) (AL JS f):=by
 intro pins s Y H Q I h;refine AMt (GH I hg hm AGq (PyProof.Rows.callWith_type1 ?_ rfl rfl));refine Calls.spliced_cons (AMt (GH I hg2 hm2 (u:=.type "reversed") (by decide +kernel) (PyProof.Rows.callWith_type1 (Af (ha pos2 pins s Y H _ I (LL h)) λus s1 z2_=>?_) hs rfl)));obtain⟨vs,H1,I1,r1,O,L,xs,d,L',rs,is,e,k⟩:=z2_;obtain⟨n,ds,rfl,e1,rfl,rfl⟩:=AFn e;obtain⟨a,hn,rfl⟩:=VP is r1;exact DI (AB5 hc I1 rs hn e1 k) (λv s2 q=>Calls.spliced_nil q) λ_ _ q=>q
end
abbrev Jc(b:Int×D):List (Int×D)->Int×D
 |[]=>b
 |y::ys=>Jc (if y.1<b.1 then y else b) ys
def YW:∀(ys:List (Int×D)) (b:Int×D),some (Jc b ys)=bestK (b::ys)
 |[],b=>rfl
 |y::ys,b=>by
  rw[Jc,YW ys]
  show bestK (_::ys)=match bestK (y::ys) with|none=>some b|some z=>if z.1<b.1 then some z else some b
  simp only[bestK]
  cases bestK ys with
  |none=>by_cases h:y.1<b.1 <;> simp[h]
  |some z =>
   by_cases h:y.1<b.1 <;> by_cases h2:z.1<y.1 <;> by_cases h3:z.1<b.1 <;> simp[h,h2,h3] <;> omega
def AER(a v d:Value):argsOk "min" ⟨[a],[(Str.ofString "key",v),(Str.ofString "default",d)]⟩:=by unfold argsOk;kernel_rfl
section
variable {X:Cx}{pins:List (Addr×Obj)}{Y:L2.St}{k n:Nat}{G:GL}{fa a I0 S0:Addr}{fd:FuncData}{ps:AM4}{L:AB}{ds:List D}{O:AM6}
def AEQ{H:Hp}{s:Shared}{u:Value}{v:V}{d:D}{z:Int}{oI oS:Obj}(F:Cc X.prog X.w X.K X.mg X.base CX0 k fa fd ps (Fg X.K G))(hb:Df X.K fd ps [])(hr:Room (k+1) X.A)(I:AI X pins Y H s)(f1:EE X pins H I0)(f2:EE X pins H S0)(rs:Al X.K H O L)
  (gI:s.heap.get? I0=some oI) (gS:s.heap.get? S0=some oS) (nI:∀v,oI.data≠.cell v) (nS:∀v,oS.data≠.cell v) (ru:AY v u) (is:Is X.K H O v d) (e:G [d] L=some (.int z,L)) :
  wpAny (model X.prog X.w) X.A.in1 (call (.ref fa) [u]) (λy s2=>∃t H2,y=.int z t/\AI X pins Y H2 s2/\EE X pins H2 I0/\EE X pins H2 S0/\Ai H O H2 O/\Al X.K H2 O L/\s2.heap.get? I0=some oI/\s2.heap.get? S0=some oS) (λ_ _=>False) s:=by
 have J:AI X (pins++JB [I0,S0] s.heap) Y H s:=I.pinned (λb hb=>by
   rcases Aa.mp hb with rfl|hb
   .exact f1
   .obtain rfl:=FW.mp hb;exact f2) λb hb=>by
   rcases Aa.mp hb with rfl|hb
   .exact⟨_,gI,nI⟩
   .obtain rfl:=FW.mp hb;exact⟨_,gS,nS⟩
 have q:Fg X.K G [v] H (λy H2=>y=.int z/\∃O2,Ai H O H2 O2/\Al X.K H2 O2 L) E0 :=
  ⟨O,L,[d],_,L,rs,.cons is .nil,e,λy H2 O2 st rs2 iy=>by cases iy;exact⟨rfl,O2,st,rs2⟩⟩
 have hl:([u]++([]:AM5)).length=ps.length:=F.len _ _ _ _ q;refine wpAny_call (codeAny_mono (F.run X.A.in1 X.stack s H ⟨[u],[]⟩ [u] [v] _ E0 hr.in1 J.env0.in1 (hb s [u] J.kIn hl) (.cons ru .nil) q) λr s2 hq=>?_)
 cases r with
 |error e=>exact False.elim hq
 |ok fl =>
  cases fl with
  |ret y =>
   obtain⟨w,H2,I2,ry,rfl,O2,st,rs2⟩:=J.after hq;obtain⟨t,rfl⟩:=ry
   obtain rfl:O2=O:=by
    obtain⟨M,eM⟩:=st.2
    have:M.length=0:=by have h1:=rs.len;have h2:=rs2.len;rw[<-eM,By] at h2;omega
    rw[<-eM,ALu.mp this,ALq]
   have pI:=I2.pin (I0,oI) (FX _ (FX _ (JH (by simp) gI)));have pS:=I2.pin (S0,oS) (FX _ (FX _ (JH (by simp) gS)));exact⟨t,H2,rfl,I2.unpinned,⟨pI.2.1,f1.2⟩,⟨pS.2.1,f2.2⟩,st,rs2,pI.1,pS.1⟩
  |next=>exact False.elim hq
  |brk=>exact False.elim hq
  |cont=>exact False.elim hq
def Wj{i:Nat}{ks:List (Int×D)}(hi:i<ds.length)(e:keysG G L (ds.drop i)=some ks):∃d z ks',ds[i]?=some d/\G [d] L=some (.int z,L)/\keysG G L (ds.drop (i+1))=some ks'/\ks=(z,d)::ks':=by
 rw[AMA hi,keysG] at e;split at e
 .rename_i z L' e1;split at e
  .rename_i h;subst h
   cases e2:keysG G L' (ds.drop (i+1)) with
   |none=>rw[e2] at e;cases e
   |some ks' =>
    rw[e2] at e;cases e;exact⟨ds[i],z,ks',by simp[hi],e1,rfl,rfl⟩
  .cases e
 .cases e
abbrev FR(X:Cx)(pins:List (Addr×Obj))(Y:L2.St)(I0 S0 a:Addr)(L:AB)(O:AM6)(i:Nat)(H:Hp)(s:Shared)(its:Array Value)(c:Nat):Prop :=
 AI X pins Y H s/\EE X pins H I0/\EE X pins H S0/\Al X.K H O L/\s.heap.IsListIter I0 a i/\s.heap.get? S0=some (seqObj "list" its c)
def FR.draw{i:Nat}{H:Hp}{s:Shared}{its:Array Value}{c:Nat}{d:D}(M:FR X pins Y I0 S0 a L O i H s its c)(hh:X.A.handled=none)(hIS:S0≠I0)(hL:L[n]?=some (.lst ds))(hn:O[n]?=some a)(hd:ds[i]?=some d){Q:Option Value->Shared->Prop}{E:ANB}
  (h:∀u v s',AY v u->Is X.K H O v d->FR X pins Y I0 S0 a L O (i+1) H s' its c->Q (some u) s'):wpAny (model X.prog X.w) X.A.in1 (pyNext (.ref I0)) Q E s:=by
 obtain⟨ws,hw,il⟩:=M.2.2.2.1.ob n _ _ hn hL;obtain⟨vs,rv,pl,hz⟩:=M.1.list (BH.of hw);obtain⟨x,hx,ix⟩:=il.get hd;obtain⟨u,hu,ru⟩:=rv.get hx
 have haI:a≠I0:=λz=>by
  obtain⟨o,g,cl,_⟩:=pl.isList;obtain⟨o',g',cl',_⟩:=M.2.2.2.2.1;rw[z,g'] at g;cases g;rw[cl'] at cl;exact absurd cl (by decide)
 obtain⟨q0,q1,q2,q3,q4,q5⟩:=M.2.1;refine(Walks.list (prog:=X.prog) (w:=X.w) (A:=X.A.in1) hh I0 a haI vs.toArray).item i s Q E (by simpa using (Ay.mp hu).1) ⟨M.2.2.2.2.1,pl.isList⟩ λy h' tk hy st kk=>?_
 obtain rfl:y=u:=by
  have:vs[i]?=some y:=by simpa using hy
  rw[hu] at this;exact(Option.some.inj this).symm
 exact h y x _ ru ix ⟨M.1.turned (t':=tk) (λb o hb q=>kk b o (by simpa using hb) q) q0 q1 q3 q4 q5,M.2.1,M.2.2.1,M.2.2.2.1,st.1,kk S0 _ (by simpa using hIS) M.2.2.2.2.2⟩
def FR.last{H:Hp}{s:Shared}{its:Array Value}{c:Nat}(M:FR X pins Y I0 S0 a L O ds.length H s its c)(hh:X.A.handled=none)(hIS:S0≠I0)(hL:L[n]?=some (.lst ds))(hn:O[n]?=some a){Q:Option Value->Shared->Prop}{E:ANB}
  (h:∀s',AI X pins Y H s'->s'.heap.get? S0=some (seqObj "list" its c)->Q none s'):wpAny (model X.prog X.w) X.A.in1 (pyNext (.ref I0)) Q E s:=by
 obtain⟨ws,hw,il⟩:=M.2.2.2.1.ob n _ _ hn hL;obtain⟨vs,rv,pl,hz⟩:=M.1.list (BH.of hw)
 have haI:a≠I0:=λz=>by
  obtain⟨o,g,cl,_⟩:=pl.isList;obtain⟨o',g',cl',_⟩:=M.2.2.2.2.1;rw[z,g'] at g;cases g;rw[cl'] at cl;exact absurd cl (by decide)
 obtain⟨q0,q1,q2,q3,q4,q5⟩:=M.2.1;have hl:vs.toArray.size=ds.length:=by rw[BZ,<-rv.length,il.length]
 refine(Walks.list (prog:=X.prog) (w:=X.w) (A:=X.A.in1) hh I0 a haI vs.toArray).done s Q E ⟨by rw[hl];exact M.2.2.2.2.1,pl.isList⟩ λh' tk kk=>?_;exact h _ (M.1.turned (t':=tk) (λb o hb q=>kk b o (by simpa using hb) q) q0 q1 q3 q4 q5) (kk S0 _ (by simpa using hIS) M.2.2.2.2.2)
def FR.put{i:Nat}{H:Hp}{s:Shared}{its its':Array Value}{c:Nat}(M:FR X pins Y I0 S0 a L O i H s its c)(hIS:S0≠I0):∃c',FR X pins Y I0 S0 a L O i H {s with heap:=s.heap.update S0 (Obj.mapSeq λ_=>its')} its' c':=by have s1:=Heap.SameBut.update s.heap S0 (Obj.mapSeq λ_=>its');obtain⟨q0,q1,q2,q3,q4,q5⟩:=M.2.2.1;exact⟨_,M.1.turned (t':=s.toks) (λb o hb q=>(s1.2 b hb).trans q) q0 q1 q3 q4 q5,M.2.1,M.2.2.1,M.2.2.2.1,M.2.2.2.2.1.at λo q=>(s1.2 I0 (Ne.symm hIS)).trans q,get?_update_seq M.2.2.2.2.2 λ_=>its'⟩
def FR.key{i:Nat}{H:Hp}{s:Shared}{its:Array Value}{c:Nat}{u:Value}{v:V}{d:D}{z:Int}(M:FR X pins Y I0 S0 a L O i H s its c)(F:Cc X.prog X.w X.K X.mg X.base CX0 k fa fd ps (Fg X.K G))(hb:Df X.K fd ps [])(hr:Room (k+1) X.A)(ru:AY v u)(is:Is X.K H O v d)(e:G [d] L=some (.int z,L)) :
  wpAny (model X.prog X.w) X.A.in1 (call (.ref fa) [u]) (λy s2=>∃t H2,y=.int z t/\Ai H O H2 O/\FR X pins Y I0 S0 a L O i H2 s2 its c) (λ_ _=>False) s:=by
 obtain⟨oI,gI,cI,dI⟩:=M.2.2.2.2.1;refine DI (AEQ F hb hr M.1 M.2.1 M.2.2.1 M.2.2.2.1 gI M.2.2.2.2.2 (λv q=>by rw[dI] at q;cases q) (λv q=>by cases q) ru is e) (λy s2 z2_=>(by obtain⟨t,H2,ey,I2,f1,f2,st,rs2,g1,g2⟩:=z2_;exact⟨t,H2,ey,st,I2,f1,f2,rs2,⟨oI,g1,cI,dI⟩,g2⟩)) λ_ _ q=>q
end
section
variable {prog:Program}{w:World}{A:Around}{R:Result->Shared->Prop}{s:Shared}{I0 S0 fa:Addr}{c:Nat}
abbrev mlC(I0 fa S0:Addr):Code:=.builtin "min.loop" ⟨[.ref I0,.ref fa,.ref S0],[(Str.ofString "default",.none)]⟩
def NU:(toString "min"++toString ".loop":String) = "min.loop":=by decide
def WF(g:s.heap.get? S0=some (seqObj "list" #[] c))(h:wpAny (model prog w) A.in1 (pyNext (.ref I0)) (λo s1=>(o=none/\R (.ok (.ret .none)) s1)\/∃y,o=some y/\wpAny (model prog w) A.in1 (call (.ref fa) [y]) (λk s2=>s2.heap.get? S0=some (seqObj "list" #[] c) /\
   codeAny (model prog w) A (mlC I0 fa S0) R {s2 with heap:=s2.heap.update S0 (Obj.mapSeq λ_=>#[y,k])}) (λ_ _=>False) s1) (λ_ _=>False) s):codeAny (model prog w) A (mlC I0 fa S0) R s:=by
 refine codeAny_builtin PySem.F.entry_min_loop ?_;rw[Around.under_plainId AL2 _];refine AG (AMp g rfl (AG (wpAny_tryCatch (DI h (λo s1 q=>?_) λ_ _ q=>q.elim))));rcases q with⟨rfl,q⟩|⟨y,rfl,q⟩
 .exact AG (AMm (AM q))
 .refine AG (wpAny_tryCatch (Ck (DI q (λk s2 q=>AG (wpAny_updateSeq q.1 rfl ?_)) λ_ _ q=>q.elim)));rw[NU];exact AM ⟨plainId_quiet AL2 _,q.2⟩
def WE{u:Value}{z0:Int}{tb:Tok}(g:s.heap.get? S0=some (seqObj "list" #[u,.int z0 tb] c))(h:wpAny (model prog w) A.in1 (pyNext (.ref I0)) (λo s1=>(o=none/\s1.heap.get? S0=some (seqObj "list" #[u,.int z0 tb] c)/\R (.ok (.ret u)) {s1 with heap:=s1.heap.update S0 (Obj.mapSeq λ_=>#[])}) \/
   ∃y,o=some y/\wpAny (model prog w) A.in1 (call (.ref fa) [y]) (λk s2=>∃z t,k=.int z t/\s2.heap.get? S0=some (seqObj "list" #[u,.int z0 tb] c)/\(z<z0->codeAny (model prog w) A (mlC I0 fa S0) R {s2 with heap:=s2.heap.update S0 (Obj.mapSeq λ_=>#[y,.int z t])})/\(¬z<z0->codeAny (model prog w) A (mlC I0 fa S0) R s2)) (λ_ _=>False) s1) (λ_ _=>False) s) :
  codeAny (model prog w) A (mlC I0 fa S0) R s:=by
 refine codeAny_builtin PySem.F.entry_min_loop ?_;rw[Around.under_plainId AL2 _];refine AG (AMp g rfl (AG (wpAny_tryCatch (DI h (λo s1 q=>?_) λ_ _ q=>q.elim))));rcases q with⟨rfl,g1,q⟩|⟨y,rfl,q⟩
 .exact AG (wpAny_updateSeq g1 rfl (AG (AM2 (AM q))))
 .refine AG (wpAny_tryCatch (Ck (DI q (λk s2 q=>?_) λ_ _ q=>q.elim)));obtain⟨z,t,rfl,g2,q1,q2⟩:=q
  refine AG (wpAny_tryCatch (Ck (AG (CmpOf.ints_lt (prog:=prog) (w:=w) (A:=A.in1) (P:=λj x=>∃t',x=.int (if j=0 then z0 else z) t') (λj=>if j=0 then z0 else z) (λ_ _ h=>h) 1 0 _ _ _ _ _ ⟨t,rfl⟩ ⟨tb,rfl⟩ ?_))))
  refine AG (Ck (AMq (AG (AM2 (AM ?_)))))
  by_cases hz:z<z0
  .simp only[Nat.one_ne_zero,if_false,if_true,hz,decide_true];refine AG (wpAny_updateSeq g2 rfl (AG (AM2 ?_)));rw[NU];exact AM ⟨plainId_quiet AL2 _,q1 hz⟩
  .simp only[Nat.one_ne_zero,if_false,if_true,hz,decide_false,ALc];refine AG (AM2 ?_);rw[NU];exact AM ⟨plainId_quiet AL2 _,q2 hz⟩
end
section
variable {X:Cx}{pins:List (Addr×Obj)}{Y:L2.St}{k n:Nat}{G:GL}{fa a I0 S0:Addr}{fd:FuncData}{ps:AM4}{L:AB}{ds:List D}{O:AM6}
def AEP{Q:VK}{R:Result->Shared->Prop}(F:Cc X.prog X.w X.K X.mg X.base CX0 k fa fd ps (Fg X.K G))(hb:Df X.K fd ps [])(hr:Room (k+1) X.A)(hIS:S0≠I0)(hL:L[n]?=some (.lst ds))(hn:O[n]?=some a)(hR:∀u s',EP X pins Y Q u s'->R (.ok (.ret u)) s') :
  ∀(r i:Nat) (ks:List (Int×D)) (H:Hp) (s:Shared) (b:Int×D) (u:Value) (v:V) (tb:Tok) (c:Nat),ds.length-i=r->i<=ds.length->keysG G L (ds.drop i)=some ks->FR X pins Y I0 S0 a L O i H s #[u,.int b.1 tb] c->AY v u->Is X.K H O v b.2 ->
   (∀w H',Ai H O H' O->Al X.K H' O L->Is X.K H' O w (Jc b ks).2->Q w H')->codeAny (model X.prog X.w) X.A (mlC I0 fa S0) R s:=by
 intro r
 induction r with
 |zero =>
  intro i ks H s b u v tb c hr0 hi hks M ru is hQ;obtain rfl:i=ds.length:=by omega
  rw[AMB] at hks;cases hks;refine WE M.2.2.2.2.2 (M.last hr.hd hIS hL hn λs' I' g'=>.inl ⟨rfl,g',hR _ _ ?_⟩);obtain⟨q0,q1,q2,q3,q4,q5⟩:=M.2.2.1;exact⟨v,H,I'.turned (t':=s'.toks) (λx o hx q=>((Heap.SameBut.update s'.heap S0 (Obj.mapSeq λ_=>(#[]:Array Value))).2 x hx).trans q) q0 q1 q3 q4 q5,ru,hQ _ _ (.refl _ _) M.2.2.2.1 is⟩
 |succ r ih =>
  intro i ks H s b u v tb c hr0 hi hks M ru is hQ;obtain⟨d,z,ks',hd,e,hks',rfl⟩:=Wj (by omega) hks;have hlt:i+1<=ds.length:=(Ay.mp hd).1;refine WE M.2.2.2.2.2 (M.draw hr.hd hIS hL hn hd λy w s1 ry iy M1=>.inr ⟨y,rfl,DI (M1.key F hb hr ry iy e) (λy2 s2 h2=>?_) λ_ _ hF=>hF⟩);obtain⟨t,H2,ey,st,M2⟩:=h2;refine⟨z,t,ey,M2.2.2.2.2.2,λhz=>?_,λhz=>?_⟩
  .obtain⟨c',M3⟩:=M2.put (its':=#[y,.int z t]) hIS;exact ih (i+1) ks' H2 _ (z,d) y w t c' (by omega) hlt hks' M3 ry (iy.mono st) λw' H' st' rs' is'=>hQ w' H' (st.trans st') rs' (by rw[Jc,if_pos hz];exact is')
  .exact ih (i+1) ks' H2 _ b u v tb c (by omega) hlt hks' M2 ru (is.mono st) λw' H' st' rs' is'=>hQ w' H' (st.trans st') rs' (by rw[Jc,if_neg hz];exact is')
end
section
variable {X:Cx}{k:Nat}{x:Str}{G:GL}{p pk pos pd:Pos}{e:Expr}{f:AF}{kp kd:Pos}{j:Nat}
def AEO{pins:List (Addr×Obj)}{Y:L2.St}{H:Hp}{s:Shared}{Q:VK}{fa a:Addr}{fd:FuncData}{ps:AM4}{O:AM6}{L:AB}{n:Nat}{ds:List D}{ks:List (Int×D)}(F:Cc X.prog X.w X.K X.mg X.base CX0 k fa fd ps (Fg X.K G))(hb:Df X.K fd ps [])(hr:Room (k+1) X.A)(I:AI X pins Y H s)(rs:Al X.K H O L)(hn:O[n]?=some a)
  (hL:L[n]?=some (.lst ds)) (hks:keysG G L ds=some ks) (hQ:∀w H',Ai H O H' O->Al X.K H' O L->Is X.K H' O w (((bestK ks).map (·.2)).getD .non)->Q w H') :
  wpAny (model X.prog X.w) X.A (call (.builtin "min") [.ref a] [(Str.ofString "key",.ref fa),(Str.ofString "default",.none)]) (EP X pins Y Q) X.xe s:=by
 obtain⟨ws,hw,il⟩:=rs.ob n _ _ hn hL;obtain⟨vs,rv,pl,hz⟩:=I.list (BH.of hw);clear il rv hz;refine kmk_tree PySem.F.kind_min PySem.F.plain_min PySem.F.entry_min (AER _ _ _) ?_;refine AG (wpAny_of_eq (show Builtin.Builtins.bindParams "min" ["key","default"] 0 ⟨[],[(Str.ofString "key",.ref fa),(Str.ofString "default",.none)]⟩=pure [some (.ref fa),some .none] from rfl) ?_);refine AG (AM (AG (AMs pl.isList (AG (wpAny_newList ?_ (Dg _))))));rw[NU];refine AM ⟨plainId_quiet AL2 _,?_⟩;generalize hoI:({cls:=.type "list_iterator",data:=.fields #[.ref a,.int 0 0]}:Obj)=oI;have hS:(s.heap.push oI).objs.size=s.heap.objs.size+1:=size_push' ..;have gI:=Heap.get?_push_of_some (seqObj "list" #[] 0) (Heap.get?_push_size s.heap (o:=oI) (by rw[<-hoI];rfl));have gS:=Heap.get?_push_size (s.heap.push oI) (o:=seqObj "list" #[] 0) rfl;have hIS:(s.heap.push oI).objs.size≠s.heap.objs.size:=by rw[hS];omega
 have M:FR X pins Y s.heap.objs.size (s.heap.push oI).objs.size a L O 0 H {s with heap:=(s.heap.push oI).push (seqObj "list" #[] 0)} #[] 0 :=
  ⟨I.kept (t':=s.toks) λb u q=>Heap.get?_push_of_some _ (Heap.get?_push_of_some _ q),I.fpOk (Ae _) (I.hok.fresh (Ae _)),by rw[hS];exact I.fpOk (ALQ _) (I.hok.fresh (ALQ _)),rs,⟨_,gI,by rw[<-hoI],by rw[<-hoI];rfl⟩,gS⟩
 clear hoI gI hw;show codeAny _ _ (mlC _ fa _) _ _;rcases Nat.eq_zero_or_pos ds.length with h0|h0
 .obtain rfl:=ALu.mp h0;cases hks;refine WF gS (M.last hr.hd hIS hL hn λs' I' _=>.inl ⟨rfl,?_⟩);exact⟨.non,H,I',rfl,hQ _ _ (.refl _ _) rs .non⟩
 .obtain⟨d,z,ks',hd,e,hks',rfl⟩:=Wj (i:=0) h0 hks;refine WF gS (M.draw hr.hd hIS hL hn hd λy w s1 ry iy M1=>.inr ⟨y,rfl,DI (M1.key F hb hr ry iy e) (λy2 s2 h2=>?_) λ_ _ hF=>hF⟩);obtain⟨t,H2,rfl,st,M2⟩:=h2;obtain⟨c',M3⟩:=M2.put (its':=#[y,.int z t]) hIS;exact⟨M2.2.2.2.2.2,AEP F hb hr hIS hL hn (λ_ _ q=>q) _ 1 ks' H2 _ (z,d) y w t c' rfl h0 hks' M3 ry (iy.mono st) λw' H' st' rs' is'=>hQ w' H' (st.trans st') rs' (by rw[<-YW];exact is')⟩
def AFq{xs:List D}{L L':AB}{d:D}(e:Kx G xs L=some (d,L')):∃n ds ks,xs=[.ref n]/\L[n]?=some (.lst ds)/\keysG G L ds=some ks/\d=((bestK ks).map (·.2)).getD .non/\L'=L:=by
 unfold Kx at e;split at e
 .split at e
  .rename_i n _ ds e1;obtain⟨ks,e2,e3⟩:=GU.mp e;cases e3;exact⟨n,ds,ks,rfl,e1,e2,rfl,rfl⟩
  .cases e
 .cases e
def AKY(F:Ao X.prog X.w X.K X.mg X.base k x G)(hr:Room (k+1) X.A)(hm:X.mg "min"=none)(ha:Ds X [e] f)(hg:Gl X "min":=by rfl)(hgx:Gl X x:=by rfl)(hdb:(x == ("__debug__":Str))=false:=by decide)
  (hs:starEach [e] X.env=[(false,eval e X.env)]:=by rfl):AW X (.Call (.Name "min" p) [e] [⟨some "key",.Name x pk,kp⟩,⟨some "default",.Constant .none j pd,kd⟩] pos) (AL (Kx G) f):=by
 obtain⟨fa,fd,ps,FO,mgx,kx,bx⟩:=F.ex;intro pins s Y H Q I h;refine AMt (GH I hg hm AGp (callWith_kw (Af (ha pos pins s Y H _ I (LL h)) λus s1 z2_=>?_) (by rw[hs];rfl) (by rw[hs];rfl)));obtain⟨vs,H1,I1,r1,O,L,xs,d,L',rs,is,e,kk⟩:=z2_;obtain⟨n,ds,ks,rfl,e1,e2,rfl,rfl⟩:=AFq e;obtain⟨a,hn,rfl⟩:=VP is r1;exact kws_cons (Kp I1 hgx mgx (kws_cons (Constant_none (kws_nil (AEO FO bx hr I1 rs hn e1 e2 λw H' st rs' is'=>kk w H' O st rs' is')))) hdb)
end
abbrev W2{α:Type}(o:Option (α×AB))(Q:α->AB->Prop):Prop:=∃a L,o=some (a,L)/\Q a L
abbrev W1{α:Type}(o:Option α)(Q:α->Prop):Prop:=∃a,o=some a/\Q a
abbrev WI(o:Option (LZ×AB))(Q:List D->(AB->Bool)->AB->Prop):Prop:=∃a k L,o=some (⟨a,k⟩,L)/\Q a k L
structure Sx where
 nx:Fm->AB->Prop
 rt:ANb
 bk:Fm->AB->Prop
 ct:Fm->AB->Prop
abbrev Sx.of(E:Sx):GQ->Prop
 |.next ρ L=>E.nx ρ L
 |.ret d L=>E.rt d L
 |.brk ρ L=>E.bk ρ L
 |.cont ρ L=>E.ct ρ L
abbrev WS(o:Option GQ)(nx:Fm->AB->Prop)(rt:ANb)(bk ct:Fm->AB->Prop):Prop:=∃x,o=some x/\Sx.of ⟨nx,rt,bk,ct⟩ x
abbrev Br(b:Bool)(p q:Prop):Prop:=if b=true then p else q
abbrev Lb(d:D)(Q:Bool->Prop):Prop:=∃b,d=.bl b/\Q b
abbrev Sr(d:D)(Q:Int->Prop):Prop:=∃b,d=.int b/\Q b
abbrev Sq(n:Nat)(p:Prop):Prop:=n<=16777216/\p
abbrev OC(T:String)(x:D)(L:AB)(p:Prop):Prop:=Iv T x L=true/\p
section
variable {α β:Type}{ρ:Fm}{L:AB}{p q:Prop}{b:Bool}{c:Prop}
def ALE(h:p):Br true p q:=h
def ALK(h:q):Br false p q:=h
def ALF(h:Br b q p):Br (!b) p q:=by cases b <;> exact h
def BU[Decidable c](h1:c->p)(h2:¬c->q):Br (decide c) p q:=by
 by_cases h:c
 .rw[decide_eq_true h];exact h1 h
 .rw[decide_eq_false h];exact h2 h
def ALL[Decidable c](h:c)(h1:p):Br (decide c) p q:=BU (λ_=>h1) (λn=>absurd h n)
def ALM[Decidable c](h:¬c)(h1:q):Br (decide c) p q:=BU (λn=>absurd n h) (λ_=>h1)
def Nv(e:b=true)(h:p):Br b p q:=by rw[e];exact h
def Jb(e:b=false)(h:q):Br b p q:=by rw[e];exact h
def Go(h1:b=true->p)(h2:b=false->q):Br b p q:=by
 cases b
 .exact h2 rfl
 .exact h1 rfl
def AJe{Q:Bool->Prop}(h:Q b):Lb (.bl b) Q:=⟨_,rfl,h⟩
def AJd{i:Int}{Q:Int->Prop}(h:Q i):Sr (.int i) Q:=⟨_,rfl,h⟩
def AIR{z:Str}(h:p):OC "str" (.str z) L p:=⟨rfl,h⟩
def UV{k:Nat}{xs:List D}(e:L[k]?=some (.lst xs))(h:p):OC "list" (.ref k) L p:=⟨by simp[Iv,e],h⟩
def W2.mono{o:Option (α×AB)}{Q Q':α->AB->Prop}(h:W2 o Q)(i:∀a L,Q a L->Q' a L):W2 o Q':=let ⟨a,L,e,q⟩:=h;⟨a,L,e,i a L q⟩
def W2.mk{o:Option (α×AB)}{Q:α->AB->Prop}{a:α}(e:o=some (a,L))(h:Q a L):W2 o Q:=⟨a,L,e,h⟩
def W2.get{o:Option (α×AB)}{a:α}(h:W2 o λa' L'=>a'=a/\L'=L):o=some (a,L):=by obtain⟨a',L',e,rfl,rfl⟩:=h;exact e
def W1.mk{o:Option α}{Q:α->Prop}{a:α}(e:o=some a)(h:Q a):W1 o Q:=⟨a,e,h⟩
def WS.mono{o:Option GQ}{nx nx':Fm->AB->Prop}{rt rt':ANb}{bk bk' ct ct':Fm->AB->Prop}(h:WS o nx rt bk ct)(i1:∀a L,nx a L->nx' a L)(i2:∀a L,rt a L->rt' a L)(i3:∀a L,bk a L->bk' a L)(i4:∀a L,ct a L->ct' a L):WS o nx' rt' bk' ct':=by
 obtain⟨x,e,h⟩:=h;refine⟨x,e,?_⟩;cases x
 .exact i1 _ _ h
 .exact i2 _ _ h
 .exact i3 _ _ h
 .exact i4 _ _ h
section
variable {Q:ANb}{QT:Bool->AB->Prop}{QA:List D->AB->Prop}{QO:Option Int->AB->Prop}{f g h:EF}{t u:TF}{a:AF}
def Ql{d:D}(h:Q d L):W2 (AD d ρ L) Q:=⟨d,L,rfl,h⟩
def UR{i:Nat}{d:D}(e:ρ[i]?=some (some d))(h:Q d L):W2 (AA i ρ L) Q:=⟨d,L,by unfold AA;rw[e],h⟩
def Qm{o:G2}(h:W2 (f ρ L) λx L1=>W2 (g ρ L1) λy L2=>W2 (o x y L2) Q):W2 (AE o f g ρ L) Q:=by obtain⟨x,L1,e1,y,L2,e2,z,L3,e3,q⟩:=h;exact⟨z,L3,by unfold AE;rw[e1,AS,e2,AS];exact e3,q⟩
def AH6{o:G1}(h:W2 (f ρ L) λx L1=>W2 (o x L1) Q):W2 (BD o f ρ L) Q:=by obtain⟨x,L1,e1,z,L3,e3,q⟩:=h;exact⟨z,L3,by unfold BD;rw[e1,AS];exact e3,q⟩
def AIL(h:W2 (f ρ L) λd L1=>Lb d λb=>QT b L1):W2 (Ab f ρ L) QT:=by obtain⟨x,L1,e1,b,rfl,q⟩:=h;exact⟨b,L1,by unfold Ab;rw[e1];rfl,q⟩
def AID(h:W2 (t ρ L) λb L1=>QT (!b) L1):W2 (HA t ρ L) QT:=by obtain⟨x,L1,e1,q⟩:=h;exact⟨_,L1,by unfold HA;rw[e1];rfl,q⟩
def AIO(h:W2 (t ρ L) λb L1=>Br b (W2 (u ρ L1) QT) (QT false L1)):W2 (Hs t u ρ L) QT:=by
 obtain⟨x,L1,e1,q⟩:=h;cases x
 .exact⟨false,L1,by unfold Hs;rw[e1];rfl,q⟩
 .obtain⟨y,L2,e2,q⟩:=q;exact⟨y,L2,by unfold Hs;rw[e1];exact e2,q⟩
def AIB(h:W2 (t ρ L) λb L1=>Br b (QT true L1) (W2 (u ρ L1) QT)):W2 (Ei t u ρ L) QT:=by
 obtain⟨x,L1,e1,q⟩:=h;cases x
 .obtain⟨y,L2,e2,q⟩:=q;exact⟨y,L2,by unfold Ei;rw[e1];exact e2,q⟩
 .exact⟨true,L1,by unfold Ei;rw[e1];rfl,q⟩
def AH8(h:QT true L):W2 (Cn ρ L) QT:=⟨_,_,rfl,h⟩
def AIN(h:W2 (f ρ L) λd L1=>Lb d λb=>Br b (W2 (g ρ L1) Q) (Q (.bl false) L1)):W2 (EX f g ρ L) Q:=by
 obtain⟨x,L1,e1,b,rfl,q⟩:=h;cases b
 .exact⟨_,L1,by unfold EX;rw[e1];rfl,q⟩
 .obtain⟨y,L2,e2,q⟩:=q;exact⟨y,L2,by unfold EX;rw[e1];exact e2,q⟩
def AIA(h:W2 (f ρ L) λd L1=>Lb d λb=>Br b (Q (.bl true) L1) (W2 (g ρ L1) Q)):W2 (JD f g ρ L) Q:=by
 obtain⟨x,L1,e1,b,rfl,q⟩:=h;cases b
 .obtain⟨y,L2,e2,q⟩:=q;exact⟨y,L2,by unfold JD;rw[e1];exact e2,q⟩
 .exact⟨_,L1,by unfold JD;rw[e1];rfl,q⟩
def AIC(h:W2 (f ρ L) λd L1=>Lb d λb=>Q (.bl (!b)) L1):W2 (Kl f ρ L) Q:=by obtain⟨x,L1,e1,b,rfl,q⟩:=h;exact⟨_,L1,by unfold Kl;rw[e1];rfl,q⟩
def AIH(h:W2 (t ρ L) λb L1=>Br b (W2 (f ρ L1) Q) (W2 (g ρ L1) Q)):W2 (FE t f g ρ L) Q:=by
 obtain⟨x,L1,e1,q⟩:=h;cases x
 .obtain⟨y,L2,e2,q⟩:=q;exact⟨y,L2,by unfold FE;rw[e1];exact e2,q⟩
 .obtain⟨y,L2,e2,q⟩:=q;exact⟨y,L2,by unfold FE;rw[e1];exact e2,q⟩
def AAc(h:QA [] L):W2 (AH ρ L) QA:=⟨_,_,rfl,h⟩
def AII(h:W2 (f ρ L) λd L1=>W2 (a ρ L1) λds L2=>QA (d::ds) L2):W2 (AC f a ρ L) QA:=by obtain⟨x,L1,e1,y,L2,e2,q⟩:=h;exact⟨_,L2,by unfold AC;rw[e1,AS,e2];rfl,q⟩
def AH7(h:W2 (a ρ L) λds L1=>Sq ds.length (Q (.tup ds) L1)):W2 (CG a ρ L) Q:=by obtain⟨x,L1,e1,hz,q⟩:=h;exact⟨_,L1,by unfold CG;rw[e1,AS];simp only;rw[if_pos hz],q⟩
def AAd(h:W2 (a ρ L) λds L1=>Sq ds.length (Q (.ref L1.length) (L1++[.lst ds]))):W2 (Bd a ρ L) Q:=by obtain⟨x,L1,e1,hz,q⟩:=h;exact⟨_,_,by unfold Bd;rw[e1,AS];simp only;rw[if_pos hz],q⟩
def AIK{o:GL}(h:W2 (a ρ L) λds L1=>W2 (o ds L1) Q):W2 (AL o a ρ L) Q:=by obtain⟨x,L1,e1,y,L2,e2,q⟩:=h;exact⟨_,L2,by unfold AL;rw[e1,AS];exact e2,q⟩
def AIF{T:String}{o:GM}(h:W2 (f ρ L) λx L1=>OC T x L1 (W2 (a ρ L1) λys L2=>W2 (o x ys L2) Q)):W2 (Bg T o f a ρ L) Q:=by obtain⟨x,L1,e1,ty,y,L2,e2,z,L3,e3,q⟩:=h;exact⟨_,L3,by unfold Bg;rw[e1,AS];simp only;rw[if_pos ty,e2,AS];exact e3,q⟩
def AIE(h:QO none L):W2 (EK ρ L) QO:=⟨_,_,rfl,h⟩
def AIM(h:W2 (f ρ L) λd L1=>Sr d λi=>QO (some i) L1):W2 (CT f ρ L) QO:=by obtain⟨x,L1,e1,b,rfl,q⟩:=h;exact⟨_,L1,by unfold CT;rw[e1];rfl,q⟩
def AH9{fl fh:OF}(h:W2 (f ρ L) λx L1=>W2 (fl ρ L1) λlo L2=>W2 (fh ρ L2) λhi L3=>W2 (JR x lo hi L3) Q):W2 (Cz f fl fh ρ L) Q:=by obtain⟨x,L1,e1,y,L2,e2,z,L3,e3,v,L4,e4,q⟩:=h;exact⟨_,L4,by unfold Cz;rw[e1,AS,e2,AS,e3,AS];exact e4,q⟩
def AIJ{fi:IF}{n:Nat}{idx:AM9}{gf:GF}{c:TF}{elt:EF}(h:WI (fi ρ L) λitems ok L1=>W1 (DE ok gf c elt L1.length items (Hj n idx ρ) (L1++[.lst []])) λL2=>Q (.ref L1.length) L2):W2 (Bl fi n idx gf c elt ρ L) Q:=by obtain⟨x,k,L1,e1,L2,e2,q⟩:=h;exact⟨_,_,by unfold Bl;rw[e1,AS];simp only;rw[e2];rfl,q⟩
end
section
variable {Q:List D->(AB->Bool)->AB->Prop}{f:EF}{a:AF}
def AHy(h:W2 (f ρ L) λd L1=>WI ((JM d L1).bind λJ=>some (J,L1)) Q):WI (Ba f ρ L) Q:=by obtain⟨x,L1,e1,y,k,L2,e2,q⟩:=h;exact⟨y,k,L2,by unfold Ba;rw[e1,AS];exact e2,q⟩
def AHq{xs:List D}(h:Q xs (λ_=>true) L):WI ((JM (.tup xs) L).bind λJ=>some (J,L)) Q:=⟨_,_,_,rfl,h⟩
def AHt{k:Nat}{xs:List D}(e:L[k]?=some (.lst xs))(h:Q xs (λL'=>decide (L'[k]?=some (.lst xs))) L):WI ((JM (.ref k) L).bind λJ=>some (J,L)) Q:=⟨_,_,_,by simp only[JM,e];rfl,h⟩
def AHs(h:W2 (a ρ L) λds L1=>∃j:Int,ds=[.int j]/\(j<=4611686018427387903/\-4611686018427387904<=j)/\Q (EQ 0 j.toNat) (λ_=>true) L1):WI (Gh a ρ L) Q:=by obtain⟨x,L1,e1,j,rfl,hj,q⟩:=h;exact⟨_,_,L1,by unfold Gh;rw[e1,AS];simp only;rw[if_pos hj],q⟩
def AHr(h:W2 (a ρ L) λds L1=>∃i j:Int,ds=[.int i,.int j]/\((i<=4611686018427387903/\-4611686018427387904<=i)/\(j<=4611686018427387903/\-4611686018427387904<=j))/\Q (EQ i (j-i).toNat) (λ_=>true) L1):WI (Ks a ρ L) Q:=by obtain⟨x,L1,e1,i,j,rfl,hj,q⟩:=h;exact⟨_,_,L1,by unfold Ks;rw[e1,AS];simp only;rw[if_pos hj],q⟩
def AHx(h:W2 (a ρ L) λds L1=>∃y:Str,ds=[.str y]/\Q (Ep (sgs y)) (λ_=>true) L1):WI (Ku a ρ L) Q:=by obtain⟨x,L1,e1,y,rfl,q⟩:=h;exact⟨_,_,L1,by unfold Ku;rw[e1,AS],q⟩
end
def WS.inx{o:Option GQ}{nx:Fm->AB->Prop}{rt:ANb}{bk ct:Fm->AB->Prop}{ρ':Fm}{L':AB}(e:o=some (.next ρ' L'))(q:nx ρ' L'):WS o nx rt bk ct:=⟨_,e,q⟩
def WS.irt{o:Option GQ}{nx:Fm->AB->Prop}{rt:ANb}{bk ct:Fm->AB->Prop}{d:D}{L':AB}(e:o=some (.ret d L'))(q:rt d L'):WS o nx rt bk ct:=⟨_,e,q⟩
def WS.ibk{o:Option GQ}{nx:Fm->AB->Prop}{rt:ANb}{bk ct:Fm->AB->Prop}{ρ':Fm}{L':AB}(e:o=some (.brk ρ' L'))(q:bk ρ' L'):WS o nx rt bk ct:=⟨_,e,q⟩
def WS.ict{o:Option GQ}{nx:Fm->AB->Prop}{rt:ANb}{bk ct:Fm->AB->Prop}{ρ':Fm}{L':AB}(e:o=some (.cont ρ' L'))(q:ct ρ' L'):WS o nx rt bk ct:=⟨_,e,q⟩
section
variable {nx:Fm->AB->Prop}{rt:ANb}{bk ct:Fm->AB->Prop}{f g:SF}{t:TF}{e:EF}
def AHg(h:nx ρ L):WS (BB ρ L) nx rt bk ct:=⟨_,rfl,h⟩
def AHl(h:bk ρ L):WS (SX ρ L) nx rt bk ct:=⟨_,rfl,h⟩
def Kb(h:WS (f ρ L) (λρ' L'=>WS (g ρ' L') nx rt bk ct) rt bk ct):WS (AJ f g ρ L) nx rt bk ct:=by
 obtain⟨x,e1,q⟩:=h
 cases x with
 |next ρ' L'=>obtain⟨y,e2,q⟩:=q;exact⟨y,by unfold AJ;rw[e1];exact e2,q⟩
 |ret d L'=>exact WS.irt (by unfold AJ;rw[e1];rfl) q
 |brk d L'=>exact WS.ibk (by unfold AJ;rw[e1];rfl) q
 |cont d L'=>exact WS.ict (by unfold AJ;rw[e1];rfl) q
def Mp{i:Nat}(h:W2 (e ρ L) λd L'=>nx (ρ.set i (some d)) L'):WS (AO i e ρ L) nx rt bk ct:=by obtain⟨x,L1,e1,q⟩:=h;exact WS.inx (by unfold AO;rw[e1];rfl) q
def AHd(h:W2 (e ρ L) rt):WS (AV e ρ L) nx rt bk ct:=by obtain⟨x,L1,e1,q⟩:=h;exact WS.irt (by unfold AV;rw[e1];rfl) q
def AHj(h:W2 (e ρ L) λ_ L'=>nx ρ L'):WS (DU e ρ L) nx rt bk ct:=by obtain⟨x,L1,e1,q⟩:=h;exact WS.inx (by unfold DU;rw[e1];rfl) q
def AHh(h:W2 (t ρ L) λb L'=>Br b (WS (f ρ L') nx rt bk ct) (WS (g ρ L') nx rt bk ct)):WS (Au t f g ρ L) nx rt bk ct:=by
 obtain⟨x,L1,e1,q⟩:=h;cases x
 .obtain⟨y,e2,q⟩:=q;exact⟨y,by unfold Au;rw[e1];exact e2,q⟩
 .obtain⟨y,e2,q⟩:=q;exact⟨y,by unfold Au;rw[e1];exact e2,q⟩
def AHi{fi:IF}{gf:GF}{body:SF}(h:WI (fi ρ L) λitems ok L1=>WS (DS ok gf body items ρ L1) nx rt bk ct):WS (Bh fi gf body ρ L) nx rt bk ct:=by obtain⟨x,k,L1,e1,y,e2,q⟩:=h;exact⟨y,by unfold Bh;rw[e1,AS];exact e2,q⟩
def UP{ok:AB->Bool}{gf:GF}{body:SF}(hk:ok L=true)(h:nx ρ L):WS (DS ok gf body [] ρ L) nx rt bk ct:=WS.inx (by unfold DS;rw[if_pos hk]) h
def HQ{ok:AB->Bool}{gf:GF}{body:SF}{x:D}{xs:List D}(hk:ok L=true)(h:W1 (gf x ρ) λρ1=>WS (body ρ1 L) (λρ2 L2=>WS (DS ok gf body xs ρ2 L2) nx rt bk ct) rt nx (λρ2 L2=>WS (DS ok gf body xs ρ2 L2) nx rt bk ct)):WS (DS ok gf body (x::xs) ρ L) nx rt bk ct:=by
 obtain⟨ρ1,e1,y,e2,q⟩:=h
 cases y with
 |next ρ2 L2=>obtain⟨z,e3,q⟩:=q;exact⟨z,by unfold DS;rw[if_pos hk,e1,AS,e2];exact e3,q⟩
 |cont ρ2 L2=>obtain⟨z,e3,q⟩:=q;exact⟨z,by unfold DS;rw[if_pos hk,e1,AS,e2];exact e3,q⟩
 |ret d L2=>exact WS.irt (by unfold DS;rw[if_pos hk,e1,AS,e2];rfl) q
 |brk ρ2 L2=>exact WS.inx (by unfold DS;rw[if_pos hk,e1,AS,e2];rfl) q
def Ce{ok:AB->Bool}{gf:GF}{body:SF}(I:Nat->Fm->AB->Prop):∀(items:List D) (j:Nat) (ρ:Fm) (L:AB),I j ρ L ->
  (∀i x ρ L,items[i]?=some x->I (j+i) ρ L->ok L=true/\W1 (gf x ρ) λρ1=>WS (body ρ1 L) (I (j+i+1)) rt nx (I (j+i+1))) ->
  (∀ρ L,I (j+items.length) ρ L->ok L=true/\nx ρ L)->WS (DS ok gf body items ρ L) nx rt bk ct
 |[],j,ρ,L,h0,_,fin=>UP (fin ρ L h0).1 (fin ρ L h0).2
 |x::xs,j,ρ,L,h0,st,fin=>by
  obtain⟨hk,hw⟩:=st 0 x ρ L rfl h0
  have go:∀ρ2 L2,I (j+1) ρ2 L2->WS (DS ok gf body xs ρ2 L2) nx rt bk ct:=λρ2 L2 h2=>Ce I xs (j+1) ρ2 L2 h2
   (λi y ρ L e h=>by
    have e':j+(i+1)=j+1+i:=by omega
    have:=st (i+1) y ρ L (by simpa using e) (by rw[e'];exact h);rw[e'] at this
    exact this)
   (λρ L h=>fin ρ L (by have e':j+(x::xs).length=j+1+xs.length:=by simp;omega
                        rw[e'];exact h))
  refine HQ hk ?_;obtain⟨ρ1,e1,hb⟩:=hw;exact⟨ρ1,e1,hb.mono go (λ_ _ h=>h) (λ_ _ h=>h) go⟩
end
section
variable {Q:Fm->Prop}{gf:GF}{gs:EY}
def AAV{i:Nat}{d:D}(h:Q (ρ.set i (some d))):W1 (An i d ρ) Q:=⟨_,rfl,h⟩
def AHz{n:Nat}{ds:List D}(e:ds.length=n)(h:W1 (gs ds ρ) Q):W1 (Ej n gs (.tup ds) ρ) Q:=by obtain⟨ρ',e1,q⟩:=h;exact⟨ρ',by unfold Ej;simp only;rw[if_pos e];exact e1,q⟩
def AH0(h:Q ρ):W1 (ES [] ρ) Q:=⟨_,rfl,h⟩
def AH1{d:D}{ds:List D}(h:W1 (gf d ρ) λρ'=>W1 (gs ds ρ') Q):W1 (Bf gf gs (d::ds) ρ) Q:=by obtain⟨ρ1,e1,ρ2,e2,q⟩:=h;exact⟨ρ2,by unfold Bf;simp only;rw[e1];exact e2,q⟩
end
def AAW{ok:AB->Bool}{g:GF}{c:TF}{elt:EF}{k:Nat}{Q:AB->Prop}(hk:ok L=true)(h:Q L):W1 (DE ok g c elt k [] ρ L) Q:=⟨_,by unfold DE;rw[if_pos hk],h⟩
def AAY{ok:AB->Bool}{g:GF}{c:TF}{elt:EF}{k:Nat}{x:D}{xs:List D}{Q:AB->Prop}(hk:ok L=true)
  (h:W1 (g x ρ) λρ1=>W2 (c ρ1 L) λb L1=>Br b (W2 (elt ρ1 L1) λd L2=>∃ys,L2[k]?=some (.lst ys)/\ys.length<16777216/\W1 (DE ok g c elt k xs ρ1 (L2.set k (.lst (ys++[d])))) Q) (W1 (DE ok g c elt k xs ρ1 L1) Q)) :
  W1 (DE ok g c elt k (x::xs) ρ L) Q:=by
 obtain⟨ρ1,e1,b,L1,e2,q⟩:=h;cases b
 .obtain⟨z,e3,q⟩:=q;exact⟨z,by unfold DE;rw[if_pos hk,e1,AS,e2,AS];exact e3,q⟩
 .obtain⟨d,L2,e3,ys,e4,hz,z,e5,q⟩:=q;refine⟨z,?_,q⟩;unfold DE;rw[if_pos hk,e1,AS,e2,AS];simp only[if_true];rw[e3,AS];simp only;rw[e4];simp only;rw[if_pos hz];exact e5
def FA{ok:AB->Bool}{g:GF}{c:TF}{elt:EF}{k:Nat}{Q:AB->Prop}(I:Nat->Fm->AB->Prop):∀(items:List D) (j:Nat) (ρ:Fm) (L:AB),I j ρ L ->
  (∀i x ρ L,items[i]?=some x->I (j+i) ρ L->ok L=true/\W1 (g x ρ) λρ1=>W2 (c ρ1 L) λb L1=>Br b (W2 (elt ρ1 L1) λd L2=>∃ys,L2[k]?=some (.lst ys)/\ys.length<16777216/\I (j+i+1) ρ1 (L2.set k (.lst (ys++[d])))) (I (j+i+1) ρ1 L1)) ->
  (∀ρ L,I (j+items.length) ρ L->ok L=true/\Q L)->W1 (DE ok g c elt k items ρ L) Q
 |[],j,ρ,L,h0,_,fin=>AAW (fin ρ L h0).1 (fin ρ L h0).2
 |x::xs,j,ρ,L,h0,st,fin=>by
  obtain⟨hk,ρ1,e1,b,L1,e2,q⟩:=st 0 x ρ L rfl h0
  have go:∀ρ2 L2,I (j+1) ρ2 L2->W1 (DE ok g c elt k xs ρ2 L2) Q:=λρ2 L2 h2=>FA I xs (j+1) ρ2 L2 h2
   (λi y ρ L e h=>by
    have e':j+(i+1)=j+1+i:=by omega
    have:=st (i+1) y ρ L (by simpa using e) (by rw[e'];exact h);rw[e'] at this
    exact this)
   (λρ L h=>fin ρ L (by have e':j+(x::xs).length=j+1+xs.length:=by simp;omega
                        rw[e'];exact h))
  refine AAY hk ⟨ρ1,e1,b,L1,e2,?_⟩;cases b
  .exact go _ _ q
  .obtain⟨d,L2,e3,ys,e4,hz,q⟩:=q;exact⟨d,L2,e3,ys,e4,hz,go _ _ q⟩
def Mr{g:GF}{c:TF}{elt:EF}{L0:AB}{Q:AB->Prop}(P:Fm->Prop)(f:D->Option D)(items:List D)(ρ:Fm)
  (hp:P ρ) (hz:items.length<=16777216)
  (h:∀x∈items,∀ρ,P ρ->W1 (g x ρ) λρ1=>P ρ1/\∀acc,W2 (c ρ1 (L0++[.lst acc])) λb L1=>L1=L0++[.lst acc]/\Br b (W2 (elt ρ1 (L0++[.lst acc])) λd L2=>L2=L0++[.lst acc]/\f x=some d) (f x=none))
  (q:Q (L0++[.lst (items.filterMap f)])):W1 (DE (λ_=>true) g c elt L0.length items ρ (L0++[.lst []])) Q:=by
 refine FA (I:=λj ρ L=>P ρ/\L=L0++[.lst ((items.take j).filterMap f)]) items 0 ρ _ ⟨hp,by simp⟩ ?_ ?_
 .rintro i x ρ L e ⟨hp,rfl⟩;refine⟨rfl,?_⟩;have hi:i<items.length:=(Ay.mp e).1;have hx:x∈items:=Bj e;obtain⟨ρ1,e1,hp1,h2⟩:=h x hx ρ hp;obtain⟨b,L1,e2,rfl,q⟩:=h2 ((items.take (0+i)).filterMap f);refine⟨ρ1,e1,b,_,e2,?_⟩
  have ht:items.take (0+i+1)=items.take (0+i)++[x]:=by rw[BW,ALw,e];rfl
  cases b
  .have q':f x=none:=q;refine⟨hp1,?_⟩;rw[ht,AMW];simp[q']
  .obtain⟨d,L2,e3,rfl,q⟩:=q;refine⟨d,_,e3,(items.take (0+i)).filterMap f,by simp,?_,hp1,?_⟩
   .refine Nat.lt_of_le_of_lt (AMh _ _) ?_;simp;omega
   .rw[ht,AMW];simp[q]
 .rintro ρ L ⟨_,rfl⟩;exact⟨rfl,by simpa using q⟩
section
variable {Q:ANb}{B:SF}{N:AM4}{n:Nat}{xs:List D}
def BR(hn:xs.length=n)(h:WS (B (Ff N xs) L) (λ_ L2=>L <+: L2/\Q .non L) (λd L2=>d.noRef=true/\L <+: L2/\Q d L) (λ_ _=>False) (λ_ _=>False)):W2 (Aj B N n xs L) Q:=by
 obtain⟨x,e,q⟩:=h;have tk:∀L2:AB,L <+: L2->L2.take L.length=L:=λL2 hp=>by obtain⟨M,rfl⟩:=hp;simp
 cases x with
 |next ρ L2=>exact⟨_,_,by unfold Aj;rw[if_pos hn,e];simp only;rw[if_pos (tk _ q.1)],q.2⟩
 |ret d L2=>exact⟨_,_,by unfold Aj;rw[if_pos hn,e];simp only;rw[if_pos ⟨q.1,tk _ q.2.1⟩],q.2.2⟩
 |brk ρ L2=>exact q.elim
 |cont ρ L2=>exact q.elim
def Fb(hn:xs.length=n)(h:WS (B (Ff N xs) L) (λ_ _=>False) (λd L2=>d.noRef=false/\Q d L2) (λ_ _=>False) (λ_ _=>False)):W2 (Aj B N n xs L) Q:=by
 obtain⟨x,e,q⟩:=h
 cases x with
 |next ρ L2=>exact q.elim
 |ret d L2=>exact⟨_,_,by unfold Aj;rw[if_pos hn,e];simp only;rw[if_neg (λh=>by rw[q.1] at h;cases h.1)],q.2⟩
 |brk ρ L2=>exact q.elim
 |cont ρ L2=>exact q.elim
end
section
variable {Q:ANb}{i j:Int}{x y:Str}
def AFl(h:Q (.int (i+j)) L):W2 (BM (.int i) (.int j) L) Q:=⟨_,_,rfl,h⟩
def Nl(hz:x.length+y.length<=16777216)(h:Q (.str (x++y)) L):W2 (BM (.str x) (.str y) L) Q:=⟨_,_,by unfold BM;simp only;rw[if_pos hz],h⟩
def SA{a b:Nat}{xs ys:List D}(e1:L[a]?=some (.lst xs))(e2:L[b]?=some (.lst ys))(hz:xs.length+ys.length<=16777216)(h:Q (.ref L.length) (L++[.lst (xs++ys)])):W2 (BM (.ref a) (.ref b) L) Q:=⟨_,_,by unfold BM;simp only;rw[e1,e2];simp only;rw[if_pos hz],h⟩
def AJp(h:Q (.int (i-j)) L):W2 (Fk (.int i) (.int j) L) Q:=⟨_,_,rfl,h⟩
def FF(hc:cMul i j=true)(h:Q (.int (i*j)) L):W2 (DY (.int i) (.int j) L) Q:=⟨_,_,by unfold DY;simp only;rw[if_pos hc],h⟩
def AFf(hc:JF x j=true)(h:Q (.str (Txt.mul x j)) L):W2 (DY (.str x) (.int j) L) Q:=⟨_,_,by unfold DY;simp only;rw[if_pos hc],h⟩
def AFi(hc:LM i j=true)(h:Q (.int (i / j)) L):W2 (Bw (.int i) (.int j) L) Q:=⟨_,_,by unfold Bw gI;simp only;rw[if_pos hc],h⟩
def XS(hc:Nu i j=true)(h:Q (.int (i % j)) L):W2 (BS (.int i) (.int j) L) Q:=⟨_,_,by unfold BS gI;simp only;rw[if_pos hc],h⟩
def XQ(hc:SW i j=true)(h:Q (.int (i ^ j.toNat)) L):W2 (HI (.int i) (.int j) L) Q:=⟨_,_,by unfold HI gI;simp only;rw[if_pos hc],h⟩
def AJw(h:Q (.int (-i)) L):W2 (IM (.int i) L) Q:=⟨_,_,rfl,h⟩
def AJ0(h:Q (.bl (decide (i<j))) L):W2 (gLt (.int i) (.int j) L) Q:=⟨_,_,rfl,h⟩
def AKC(h:Q (.bl (decide (j<i))) L):W2 (GI (.int i) (.int j) L) Q:=⟨_,_,rfl,h⟩
def AKD(h:Q (.bl (decide (j<=i))) L):W2 (No (.int i) (.int j) L) Q:=⟨_,_,rfl,h⟩
def IT{p q:Prop}[Decidable p][Decidable q](h:p↔q):decide p=decide q:=by
 by_cases a:p
 .rw[decide_eq_true a,decide_eq_true (h.mp a)]
 .rw[decide_eq_false a,decide_eq_false (λb=>a (h.mpr b))]
def SD{a b:D}(hs:Eg a b=true)(h:Q (.bl (decide (a=b))) L):W2 (BX a b L) Q:=⟨_,_,by unfold BX;rw[if_pos hs],h⟩
def XX{a b:D}(hs:Eg a b=true)(h:Q (.bl (!decide (a=b))) L):W2 (HJ a b L) Q:=⟨_,_,by unfold HJ;rw[if_pos hs],h⟩
def AKH(h:Q (.bl (decide (i=j))) L):W2 (BX (.int i) (.int j) L) Q:=SD rfl (by rw[IT (show D.int i=D.int j↔i=j by simp)];exact h)
def AKF(h:Q (.bl (decide (x=y))) L):W2 (BX (.str x) (.str y) L) Q:=SD rfl (by rw[IT (show D.str x=D.str y↔x=y by simp)];exact h)
def AJy(h:Q (.bl (!decide (i=j))) L):W2 (HJ (.int i) (.int j) L) Q:=XX rfl (by rw[IT (show D.int i=D.int j↔i=j by simp)];exact h)
def AJx(h:Q (.bl (!decide (x=y))) L):W2 (HJ (.str x) (.str y) L) Q:=XX rfl (by rw[IT (show D.str x=D.str y↔x=y by simp)];exact h)
def AKG(h:Q (.bl false) L):W2 (BX .non (.str y) L) Q:=SD rfl (by rw[decide_eq_false (by intro z;cases z)];exact h)
def AJ9{a:D}(h:Q (.bl (HC a)) L):W2 (Hh a .non L) Q:=⟨_,_,rfl,h⟩
def AJ8{a:D}(h:Q (.bl (!HC a)) L):W2 (IN a .non L) Q:=⟨_,_,rfl,h⟩
def AKB(h:Q (.bl (Gf x y)) L):W2 (DC false (.str x) (.str y) L) Q:=⟨_,_,rfl,h⟩
def Nn{neg:Bool}{d e:D}{ys:List D}(h0:∀i j,d=.str i->e=.str j->False)(e1:CW e L=some ys)(hf:(BC d&&ys.all BC)=true)(h:Q (.bl (if neg then !DT d ys else DT d ys)) L):W2 (DC neg d e L) Q:=by
 refine⟨_,_,?_,h⟩;unfold DC;split
 .exact(h0 _ _ rfl rfl).elim
 .rw[e1];simp only;rw[if_pos hf]
def XV{d:D}{ys:List D}(hf:(BC d&&ys.all BC)=true)(h:Q (.bl (DT d ys)) L):W2 (DC false d (.tup ys) L) Q:=Nn (λ_ _ _ z=>by cases z) rfl hf h
def XR{d:D}{ys:List D}(hf:(BC d&&ys.all BC)=true)(h:Q (.bl (!DT d ys)) L):W2 (DC true d (.tup ys) L) Q:=Nn (λ_ _ _ z=>by cases z) rfl hf h
def AFh{d:D}{k:Nat}{ys:List D}(e:L[k]?=some (.lst ys))(hf:(BC d&&ys.all BC)=true)(h:Q (.bl (DT d ys)) L):W2 (DC false d (.ref k) L) Q:=Nn (λ_ _ _ z=>by cases z) (by simp[CW,e]) hf h
def Rv{d:D}{k:Nat}{ys:List D}(e:L[k]?=some (.lst ys))(hf:(BC d&&ys.all BC)=true)(h:Q (.bl (!DT d ys)) L):W2 (DC true d (.ref k) L) Q:=Nn (λ_ _ _ z=>by cases z) (by simp[CW,e]) hf h
def Rw{c:Nat}(e:atI x.cps.toList i=some c)(h:Q (.str ⟨#[c]⟩) L):W2 (AU (.str x) (.int i) L) Q:=⟨_,_,by unfold AU;simp only;rw[e],h⟩
def AJ7{xs:List D}{d:D}(e:atI xs i=some d)(h:Q d L):W2 (AU (.tup xs) (.int i) L) Q:=⟨_,_,by unfold AU;simp only[CW];rw[e],h⟩
def XT{xs:List D}{d:D}(e:atI xs i=some d)(h:Q d L):W2 (AU (.fz xs) (.int i) L) Q:=⟨_,_,by unfold AU;simp only[CW];rw[e],h⟩
def DB{k:Nat}{xs:List D}{d:D}(e1:L[k]?=some (.lst xs))(e:atI xs i=some d)(h:Q d L):W2 (AU (.ref k) (.int i) L) Q:=⟨_,_,by unfold AU;simp only[CW,e1];rw[e],h⟩
def AJr{lo hi:Option Int}(h:Q (.str (Txt.slice x lo hi)) L):W2 (JR (.str x) lo hi L) Q:=⟨_,_,rfl,h⟩
def AJs{lo hi:Option Int}{k:Nat}{xs:List D}(e:L[k]?=some (.lst xs))(h:Q (.ref L.length) (L++[.lst (cutD xs lo hi)])):W2 (JR (.ref k) lo hi L) Q:=⟨_,_,by unfold JR;simp only[e],h⟩
def AJ3(h:Q (.int (x.length:Int)) L):W2 (Be [.str x] L) Q:=⟨_,_,rfl,h⟩
def AJ2{xs:List D}(h:Q (.int (xs.length:Int)) L):W2 (Be [.tup xs] L) Q:=⟨_,_,rfl,h⟩
def AJ5{xs:List D}(h:Q (.int (xs.length:Int)) L):W2 (Be [.fz xs] L) Q:=⟨_,_,rfl,h⟩
def AJ4{k:Nat}{xs:List D}(e:L[k]?=some (.lst xs))(h:Q (.int (xs.length:Int)) L):W2 (Be [.ref k] L) Q:=⟨_,_,by simp only[Be,CW,e],h⟩
def AKI(h:Q (.int (if i<0 then -i else i)) L):W2 (JV [.int i] L) Q:=⟨_,_,rfl,h⟩
def AJz(h:Q (.int (if j<i then j else i)) L):W2 (Ky [.int i,.int j] L) Q:=⟨_,_,rfl,h⟩
def AKA{b:Bool}(h:Q (.int (if b then 1 else 0)) L):W2 (LC [.bl b] L) Q:=⟨_,_,rfl,h⟩
def AJo{k:Nat}{xs:List D}(e:L[k]?=some (.lst xs))(h:Q (.tup xs) L):W2 (Fj [.ref k] L) Q:=⟨_,_,by simp only[Fj,CW,e],h⟩
def XU{d:D}{t T:String}{b:Bool}(hT:["int","str","bool","list","tuple","dict"].contains T=true)(e:FB d L=some t)(eb:JP t T=b)(h:Q (.bl b) L):W2 (Fl [d,.ty T] L) Q:=⟨_,_,by simp only[Fl];rw[if_pos hT,e,<-eb];rfl,h⟩
def XW{k:Nat}{ds:List D}{bs:List Bool}(e:L[k]?=some (.lst ds))(e2:blsD ds=some bs)(h:Q (.bl (bs.all id)) L):W2 (JU [.ref k] L) Q:=⟨_,_,by simp only[JU,e,e2],h⟩
def AFg{k:Nat}{ds:List D}{ys:AM4}(e:L[k]?=some (.lst ds))(e2:CA ds=some ys)(hz:(ys.map (·.length)).sum+ys.length*x.length<=16777216)(h:Q (.str (Txt.join x ys)) L):W2 (LB (.str x) [.ref k] L) Q:=⟨_,_,by simp only[LB,CW,e,e2];rw[if_pos hz],h⟩
def Gi{k:Nat}{ds:List D}{d:D}(e:L[k]?=some (.lst ds))(hz:ds.length<16777216)(h:Q .non (L.set k (.lst (ds++[d])))):W2 (Em (.ref k) [d] L) Q:=⟨_,_,by simp only[Em,e];rw[if_pos hz],h⟩
def AJt{f:Str->Bool}(h:Q (.bl (f x)) L):W2 (HH f (.str x) [] L) Q:=⟨_,_,rfl,h⟩
def Nj{f:Str->Str}(hz:(f x).length<=16777216)(h:Q (.str (f x)) L):W2 (gS0s f (.str x) [] L) Q:=⟨_,_,by simp only[gS0s];rw[if_pos hz],h⟩
end
end
def AE0{n:Nat}{p:Prop}(h:Nat.ble n 16777216=true)(hp:p):Sq n p:=⟨Nat.le_of_ble_eq_true h,hp⟩
def Ac{α:Type}{L:List α}{a:α}:(L++[a])[L.length]?=some a:=by simp
def AT{α:Type}{L M:List α}{k:Nat}{a:α}(h:L[k]?=some a):(L++M)[k]?=some a:=by rw[Ee (Ay.mp h).1];exact h
def Cu{α:Type}{L:List α}{k:Nat}{a b:α}(h:L[k]?=some b):(L.set k a)[k]?=some a:=by rw[ALp (Ay.mp h).1]
def HE{α:Type}{L:List α}{k j:Nat}{a b:α}(n:j≠k)(h:L[k]?=some b):(L.set j a)[k]?=some b:=by rw[Dx n];exact h
def NI{α:Type}{L L2:List α}{k:Nat}{a:α}(h:L <+: L2)(hk:L.length<=k):L <+: L2.set k a:=by obtain⟨M,rfl⟩:=h;rw[List.set_append,if_neg (by omega)];exact Am _ _
section
variable {Q:ANb}{L:AB}
def AJv(h:Q (.int 10000000000000000000000000000000000000000) L):W2 (HI (.int 10) (.int 40) L) Q:=XQ (by decide) (by have e:(10:Int) ^ (40:Int).toNat=10000000000000000000000000000000000000000:=(by decide);(rw[e];exact h))
def AJu(h:Q (.int 1000000) L):W2 (HI (.int 10) (.int 6) L) Q:=XQ (by decide) (by have e:(10:Int) ^ (6:Int).toNat=1000000:=(by decide);(rw[e];exact h))
end
section
variable {p q:Prop}
def ALI(h:p):Br (HC .non) p q:=h
def ALJ{i:Int}(h:q):Br (HC (.int i)) p q:=h
def ALG{i:List D}(h:q):Br (HC (.tup i)) p q:=h
def ALH{i:Nat}(h:q):Br (HC (.ref i)) p q:=h
end
def Rx{Q:ANb}{L:AB}{d:D}{t T:String}(hT:["int","str","bool","list","tuple","dict"].contains T=true)(e:FB d L=some t)(eb:JP t T=true)(h:Q (.bl true) L):W2 (Fl [d,.ty T] L) Q:=XU hT e eb h
def FG{Q:ANb}{L:AB}{d:D}{t T:String}(hT:["int","str","bool","list","tuple","dict"].contains T=true)(e:FB d L=some t)(eb:JP t T=false)(h:Q (.bl false) L):W2 (Fl [d,.ty T] L) Q:=XU hT e eb h
def AAb{Q:ANb}{B:SF}{N:AM4}{n:Nat}{xs:List D}{L:AB}(hn:xs.length=n)(h:WS (B (Ff N xs) L) (λ_ _=>False) (λd L2=>L <+: L2/\(d.noRef=true->Q d L)/\(d.noRef=false->Q d L2)) (λ_ _=>False) (λ_ _=>False)):W2 (Aj B N n xs L) Q:=by
 obtain⟨x,e,q⟩:=h;have tk:∀L2:AB,L <+: L2->L2.take L.length=L:=λL2 hp=>by obtain⟨M,rfl⟩:=hp;simp
 cases x with
 |next ρ L2=>exact q.elim
 |ret d L2 =>
  cases hd:d.noRef with
  |true=>exact⟨_,_,by unfold Aj;rw[if_pos hn,e];simp only;rw[if_pos ⟨hd,tk _ q.1⟩],q.2.1 hd⟩
  |false=>exact⟨_,_,by unfold Aj;rw[if_pos hn,e];simp only;rw[if_neg (λh=>by rw[hd] at h;cases h.1)],q.2.2 hd⟩
 |brk ρ L2=>exact q.elim
 |cont ρ L2=>exact q.elim
def AIt{j0:Int}{Q:Int->Prop}(hb:j0<=4611686018427387903/\-4611686018427387904<=j0)(h:Q j0):∃j:Int,[D.int j0]=[.int j]/\(j<=4611686018427387903/\-4611686018427387904<=j)/\Q j:=⟨j0,rfl,hb,h⟩
def AIs{i0 j0:Int}{Q:Int->Int->Prop}(hb:(i0<=4611686018427387903/\-4611686018427387904<=i0)/\(j0<=4611686018427387903/\-4611686018427387904<=j0))(h:Q i0 j0) :
  ∃i j:Int,[D.int i0,.int j0]=[.int i,.int j]/\((i<=4611686018427387903/\-4611686018427387904<=i)/\(j<=4611686018427387903/\-4611686018427387904<=j))/\Q i j:=⟨i0,j0,rfl,hb,h⟩
def AKN{y0:Str}{Q:Str->Prop}(h:Q y0):∃y:Str,[D.str y0]=[.str y]/\Q y:=⟨y0,rfl,h⟩
abbrev sg(y:Str)(i:Nat):Str:=⟨#[y.cps.getD i 0]⟩
def AGC(y:Str):Ep (sgs y)=(List.range y.cps.size).map λ(i:Nat)=>D.tup [.int (i:Int),.str (sg y i)]:=by
 apply AMI;intro i;rw[Xo,Ar]
 by_cases h:i<y.cps.size
 .rw[ALs h];simp[sg,h,Array.getD]
 .have h1:y.cps[i]?=none:=by simp;omega
  have h2:(List.range y.cps.size)[i]?=none:=by simp;omega
  rw[h1,h2];rfl
def LF{α β:Type}{f g:α->Option β}:∀{l:List α},(∀x∈l,f x=g x)->l.filterMap f=l.filterMap g
 |[],_=>rfl
 |x::xs,h=>by
  have ih:=LF λy hy=>h y (Ax x hy);rw[ALy,ALy,h x Aw,ih]
def YZ{α β:Type}(f:α->β)(xs:List α)(i:Int):atI (xs.map f) i=(atI xs i).map f:=by
 unfold atI;rw[Ah]
 cases ixN xs.length i with
 |none=>rfl
 |some j=>simp
def YX{α:Type}{xs:List α}{i:Int}(h:-(xs.length:Int)<=i/\i<xs.length):∃v,atI xs i=some v:=by
 unfold atI ixN
 by_cases h0:0<=i
 .rw[if_pos h0,if_pos h.2];have:i.toNat<xs.length:=by omega
  exact⟨xs[i.toNat],by simp[this]⟩
 .rw[if_neg h0,if_pos h.1];have:(i+xs.length).toNat<xs.length:=by omega
  exact⟨xs[(i+xs.length).toNat],by simp[this]⟩
def YY{α:Type}{xs:List α}{i:Int}{v:α}(h:atI xs i=some v):v∈xs:=by obtain⟨j,_,hj,_⟩:=Nx h;exact Bj hj
def Nw{α:Type}{xs:List α}{n:Int}(c:Int)(h0:0<n)(h:n<=xs.length):∃v∈xs,atI xs (c % n)=some v:=by have h1:=GW c (b:=n) (by omega);have h2:=GY c h0;obtain⟨v,hv⟩:=YX (xs:=xs) (i:=c % n) ⟨by omega,by omega⟩;exact⟨v,YY hv,hv⟩
def AB9(n:Nat):EQ 0 n=(List.range n).map λ(i:Nat)=>D.int (i:Int):=by simp[EQ]
def ACA{lo:Int}{n:Nat}{d:D}(h:d∈EQ lo n):∃i:Nat,i<n/\d=.int (lo+(i:Int)):=by unfold EQ at h;rw[BA] at h;obtain⟨i,hi,rfl⟩:=h;exact⟨i,CM.mp hi,rfl⟩
def NE{lo:Int}{n i:Nat}{d:D}(h:(EQ lo n)[i]?=some d):i<n/\d=.int (lo+(i:Int)):=by
 rw[VN] at h;split at h
 .rename_i hi;cases h;exact⟨hi,rfl⟩
 .cases h
open Builtin.Int in
def WC{a b:Int}{m n:Nat}(ha:intBits a<=m)(hb:intBits b<=n)(h:m+n<=134217728):cMul a b=true:=decide_eq_true (PySem.IntMulOk.of_le ha hb h)
def AGs{a:Int}{n:Nat}(h:a.natAbs<2 ^ n):Builtin.Int.intBits a<=n:=PySem.intBits_le_iff.mpr h
def JG{a b:Int}(h:-18446744073709551616<a/\a<18446744073709551616):cMul a b=true:=decide_eq_true (.of_left (intBits_le_64 (by omega) (by omega)))
def RY{a b:Int}(h:-18446744073709551616<b/\b<18446744073709551616):cMul a b=true:=decide_eq_true (.of_right (intBits_le_64 (by omega) (by omega)))
def Ya{ns:ANA}{k:Int}(h0:0<=k)(h1:k<ns.length):∃z∈ns,atI (ns.map D.int) k=some (.int z):=by
 have hk:k.toNat<ns.length:=by omega
 refine⟨ns[k.toNat],List.getElem_mem _,?_⟩;have e:((k.toNat:Nat):Int)=k:=by omega
 have q:=DZ (xs:=ns.map D.int) (j:=k.toNat) (v:=.int ns[k.toNat]) (by simp[hk]);rw[e] at q;exact q
abbrev LK:AM9:=[97,98,99,100,101,102,103,104,105,106,107,108,109,110,111,112,113,114,115,116,117,118,119,120,121,122,65,66,67,68,69,70,71,72,73,74,75,76,77,78,79,80,81,82,83,84,85,86,87,88,89,90,48,49,50,51,52,53,54,55,56,57,32,45,46,44,47]
abbrev Sc:Str:="abcdefghijklmnopqrstuvwxyzABCDEFGHIJKLMNOPQRSTUVWXYZ0123456789 -.,/"
abbrev BF(y:Str):Prop:=∀c∈y.cps.toList,c∈LK
noncomputable instance (y:Str):Decidable (BF y):=by unfold BF;infer_instance
def BF.at{y:Str}(h:BF y){i:Nat}(hi:i<y.cps.size):y.cps.getD i 0∈LK:=by
 have:y.cps.getD i 0=y.cps[i]:=by simp[Array.getD,hi]
 rw[this];exact h _ (by simp)
def BF.one{c:Nat}(h:c∈LK):BF ⟨#[c]⟩:=λz hz=>by
 have:z=c:=by simpa using hz
 rw[this];exact h
def AHB(x y:Str):(x++y).cps.toList=x.cps.toList++y.cps.toList:=by show(x.cps++y.cps).toList=_;simp
def AHC(x y:Str):(x++y).cps.size=x.cps.size+y.cps.size:=by show(x.cps++y.cps).size=_;simp
def OA(x y:Str):(x++y).length=x.length+y.length:=AHC x y
def BF.app{x y:Str}(hx:BF x)(hy:BF y):BF (x++y):=λc hc=>by
 rw[AHB,Bx] at hc;rcases hc with h|h
 .exact hx c h
 .exact hy c h
def ABd{x:Str}{l u:Option Int}{c:Nat}(h:c∈(Txt.slice x l u).cps.toList):c∈x.cps.toList:=by
 unfold Txt.slice at h;split at h
 .exact h
 .simp only[ALz] at h;obtain⟨j,_,hj⟩:=h;have:=AMf.mp hj;obtain⟨h1,rfl⟩:=this;simp
def BF.slice{x:Str}(h:BF x)(l u:Option Int):BF (Txt.slice x l u):=λc hc=>h c (ABd hc)
def BF.join:∀{ys:AM4},(∀y∈ys,BF y)->BF (Txt.join "" ys):=λ{ys} h=>by
 show BF (Builtin.Str.glued "" ys);rw[StrLaws.glued_eq_join]
 induction ys with
 |nil=>exact(by decide)
 |cons x r ih =>
  cases r with
  |nil=>exact h x Aw
  |cons y r =>
   show BF (x++("":Str)++Str.join "" (y::r));exact((h x Aw).app (by decide)).app (ih λz hz=>h z (Ax _ hz))
def WJ{c:Nat}:∀(l:List (Array Nat)) (a:Array Nat),c∈(l.foldl (·++·) a).toList->c∈a.toList\/∃b∈l,c∈b.toList
 |[],a,h=>.inl h
 |b::r,a,h=>by
  rw[ALt] at h;rcases WJ r _ h with h|⟨b',h1,h2⟩
  .rw[Array.toList_append,Bx] at h;rcases h with h|h
   .exact .inl h
   .exact .inr ⟨b,Aw,h⟩
  .exact .inr ⟨b',Ax _ h1,h2⟩
def AEL{x:Str}{n:Int}{c:Nat}(h:c∈(Txt.mul x n).cps.toList):c∈x.cps.toList:=by
 unfold Txt.mul at h;split at h
 .simp[Str.empty] at h
 .split at h
  .exact h
  .rcases WJ _ _ h with h|⟨b,h1,h2⟩
   .simp at h
   .rw[List.eq_of_mem_replicate h1] at h2;exact h2
def BF.mul{x:Str}(h:BF x)(n:Int):BF (Txt.mul x n):=λc hc=>h c (AEL hc)
def Ur:∀{ds:List D},(∀d∈ds,∃s:Str,d=.str s)->∃ys,CA ds=some ys/\ds=ys.map D.str
 |[],_=>⟨[],rfl,rfl⟩
 |d::ds,h=>by
  obtain⟨s,rfl⟩:=h d Aw;obtain⟨ys,e,e2⟩:=Ur λz hz=>h z (Ax _ hz);exact⟨s::ys,by simp[CA,e],by simp[<-e2]⟩
def ABQ{ys:AM4}{n:Nat}(h:∀y∈ys,y.length<=n):(ys.map (·.length)).sum<=ys.length*n:=by
 induction ys with
 |nil=>simp
 |cons y r ih =>
  have h1:=h y Aw;have h2:=ih λz hz=>h z (Ax _ hz);simp only[Ak,Ed,DQ,ALd];omega
abbrev FC:Nat->D->Bool
 |0,_=>false
 |n+1,.tup xs=>xs.all (FC n)
 |n+1,.fz xs=>xs.all (FC n)
 |_+1,.ref _=>false
 |_+1,.ty _=>false
 |_+1,_=>true
def Yk:∀{os:List (Option Bool)},(∀o∈os,o=some true)->Fu os=some true
 |[],_=>rfl
 |o::r,h=>by
  have h1:=h o Aw;subst h1;rw[Fu,Yk λo ho=>h o (Ax _ ho)];rfl
def Zq{xs:List D}{z:D×D}(h:z∈xs.zip xs):z.1=z.2/\z.1∈xs:=by
 induction xs with
 |nil=>simp at h
 |cons x r ih =>
  rw[List.zip_cons_cons] at h;rcases Aa.mp h with rfl|h
  .exact⟨rfl,Aw⟩
  .exact⟨(ih h).1,Ax _ (ih h).2⟩
def Xm:∀(n:Nat) (L:AB) (x:D),FC n x=true->Cg n L x x=some true
 |0,_,_,h=>by cases h
 |n+1,L,x,h=>by
  have seqs:∀xs:List D,xs.all (FC n)=true->Fu ((xs.zip xs).map λz=>Cg n L z.1 z.2)=some true:=λxs hx=>by
   refine Yk λo ho=>?_;rw[BA] at ho;obtain⟨z,hz,rfl⟩:=ho;obtain⟨e1,e2⟩:=Zq hz;rw[<-e1];exact Xm n L z.1 (CF.mp hx _ e2)
  rw[SK]
  cases x with
  |tup xs =>
   simp only[FC] at h;simp[BC,DA,seqs xs h]
  |fz xs =>
   simp only[FC] at h;simp[BC,DA,seqs xs h]
  |ref k=>simp[FC] at h
  |ty k=>simp[FC] at h
  |non=>simp only[BC,if_true];rw[LG rfl]
  |bl b=>simp only[BC,if_true];rw[LG rfl]
  |int b=>simp only[BC,if_true];rw[LG rfl]
  |str b=>simp only[BC,if_true];rw[LG rfl]
section
variable {Q:ANb}{L:AB}
abbrev DG(k:Nat)(L L':AB):Prop:=L.length<=L'.length/\∀j,j≠k->j<L.length->L'[j]?=L[j]?
def DG.refl(k:Nat)(L:AB):DG k L L:=⟨Ae _,λ_ _ _=>rfl⟩
def DG.trans{k:Nat}{L L1 L2:AB}(a:DG k L L1)(b:DG k L1 L2):DG k L L2:=⟨CD a.1 b.1,λj h1 h2=>by rw[b.2 j h1 (by have:=a.1;omega),a.2 j h1 h2]⟩
def DG.app(k:Nat)(L M:AB):DG k L (L++M):=⟨by simp,λj _ h=>by rw[Ee h]⟩
def DG.set(k:Nat)(L:AB)(o:Ob):DG k L (L.set k o):=⟨by simp,λj h _=>by rw[Dx (Ne.symm h)]⟩
def DG.get{k j:Nat}{L L':AB}{o:Ob}(h:DG k L L')(n:j≠k)(e:L[j]?=some o):L'[j]?=some o:=by rw[h.2 j n (Ay.mp e).1];exact e
def Qj{nx:Fm->AB->Prop}{rt:ANb}{bk ct:Fm->AB->Prop}{ok:AB->Bool}{gf:GF}{body:SF}(P:Fm->Prop)(k m B:Nat)(f:D->List D){items:List D}{ρ:Fm}{acc:List D}
  (hk:L[k]?=some (.lst acc)) (hp:P ρ) (hm:∀x∈items,(f x).length<=m) (hB:acc.length+items.length*m<=B)
  (turn:∀x∈items,∀ρ L' acc',P ρ->DG k L L'->L'[k]?=some (.lst acc')->acc'.length<=B->ok L'=true/\W1 (gf x ρ) λρ1=>WS (body ρ1 L') (λρ2 L2=>P ρ2/\DG k L' L2/\L2[k]?=some (.lst (acc'++f x))) rt (λ_ _=>False) (λρ2 L2=>P ρ2/\DG k L' L2/\L2[k]?=some (.lst (acc'++f x))))
  (fin:∀ρ L',P ρ->DG k L L'->L'[k]?=some (.lst (acc++items.flatMap f))->ok L'=true/\nx ρ L'):WS (DS ok gf body items ρ L) nx rt bk ct:=by
 refine Ce (λj ρ L'=>P ρ/\DG k L L'/\L'[k]?=some (.lst (acc++(items.take j).flatMap f))) items 0 ρ L ⟨hp,.refl k L,by simpa using hk⟩ ?_ ?_
 .rintro i x ρ L' hx ⟨hp,hkp,hl⟩;have hi:i<items.length:=(Ay.mp hx).1;have hxm:=Bj hx;have ht:items.take (0+i+1)=items.take (0+i)++[x]:=by rw[BW,ALw,hx];rfl
  have hlen:(acc++(items.take (0+i)).flatMap f).length<=B:=by
   have h1:∀(l:List D),(∀x∈l,(f x).length<=m)->(l.flatMap f).length<=l.length*m:=λl=>by
    induction l with
    |nil=>intro _;simp
    |cons y r ih =>
     intro h;have:=ih λz hz=>h z (Ax _ hz);have:=h y Aw;simp only[AL3,By,DQ,ALd];omega
   have h2:=h1 (items.take (0+i)) λx hx=>hm x (AME hx);have h3:(items.take (0+i)).length*m<=items.length*m:=ALk _ (by simp;omega);rw[By];omega
  obtain⟨h1,ρ1,e1,h2⟩:=turn x hxm ρ L' _ hp hkp hl hlen;refine⟨h1,ρ1,e1,?_⟩;have go:∀ρ2 L2,(P ρ2/\DG k L' L2/\L2[k]?=some (.lst ((acc++(items.take (0+i)).flatMap f)++f x)))->P ρ2/\DG k L L2/\L2[k]?=some (.lst (acc++(items.take (0+i+1)).flatMap f)):=λρ2 L2 z2_=>by obtain⟨a,b,c⟩:=z2_;exact⟨a,hkp.trans b,by rw[c,ht];simp⟩
  exact h2.mono go (λ_ _ h=>h) (λ_ _ h=>h.elim) go
 .rintro ρ L' ⟨hp,hkp,hl⟩;exact fin ρ L' hp hkp (by simpa using hl)
def AKK{x y:Int}(h:Q (.bl (decide (x=y))) L):W2 (IQ (.int x) (.int y) L) Q:=⟨_,_,by unfold IQ;rw[if_pos (show Eg (D.int x) (D.int y)=true from rfl),IT (show D.int x=D.int y↔x=y by simp)],h⟩
def AKJ{x y:Int}(h:Q (.bl (!decide (x=y))) L):W2 (Ek (.int x) (.int y) L) Q:=⟨_,_,by unfold Ek;rw[if_pos (show Eg (D.int x) (D.int y)=true from rfl),IT (show D.int x=D.int y↔x=y by simp)],h⟩
end
section
variable {ρ:Fm}{L:AB}{Q:ANb}{nx:Fm->AB->Prop}{rt:ANb}{bk ct:Fm->AB->Prop}
abbrev Sh(d:D)(L:AB)(n:Nat)(gs:EY)(ρ:Fm)(P:Fm->Prop):Prop:=∃ds,CW d L=some ds/\ds.length=n/\W1 (gs ds ρ) P
def AHo{e:EF}{n:Nat}{gs:EY}(h:W2 (e ρ L) λd L'=>Sh d L' n gs ρ λρ'=>nx ρ' L'):WS (IY e n gs ρ L) nx rt bk ct:=by obtain⟨d,L1,e1,ds,e2,e3,ρ',e4,q⟩:=h;exact WS.inx (by unfold IY;rw[e1,AS];simp only;rw[e2,AS,if_pos e3,e4];rfl) q
def AIP{ds:List D}{n:Nat}{gs:EY}{P:Fm->Prop}(e:ds.length=n)(h:W1 (gs ds ρ) P):Sh (.tup ds) L n gs ρ P:=⟨ds,rfl,e,h⟩
def AIQ{k:Nat}{ds:List D}{n:Nat}{gs:EY}{P:Fm->Prop}(e1:L[k]?=some (.lst ds))(e:ds.length=n)(h:W1 (gs ds ρ) P):Sh (.ref k) L n gs ρ P:=⟨ds,by simp[CW,e1],e,h⟩
def Bk{f g:SF}(P:Fm->AB->Prop)(h1:WS (f ρ L) P rt bk ct)(h2:∀ρ' L',P ρ' L'->WS (g ρ' L') nx rt bk ct):WS (AJ f g ρ L) nx rt bk ct:=Kb (h1.mono h2 (λ_ _ h=>h) (λ_ _ h=>h) (λ_ _ h=>h))
def AHf{fo fi fv:EF}(h:W2 (fv ρ L) λv L1=>W2 (fo ρ L1) λo L2=>W2 (fi ρ L2) λi L3=>W1 (JT o i v L3) λL4=>nx ρ L4):WS (CH fo fi fv ρ L) nx rt bk ct:=by obtain⟨v,L1,e1,o,L2,e2,i,L3,e3,L4,e4,q⟩:=h;exact WS.inx (by unfold CH;rw[e1,AS,e2,AS,e3,AS,e4];rfl) q
def XO{k n:Nat}{j:Int}{v:D}{xs:List D}{P:AB->Prop}(e:L[k]?=some (.lst xs))(hn:ixN xs.length j=some n)(h:P (L.set k (.lst (xs.set n v)))):W1 (JT (.ref k) (.int j) v L) P:=⟨_,by simp only[JT,e,hn],h⟩
def AFk{xs ys:List D}(h0:xs≠[])(hz:xs.length+ys.length<=16777216)(h:Q (.tup (xs++ys)) L):W2 (BM (.tup xs) (.tup ys) L) Q:=⟨_,_,by unfold BM;simp only;rw[if_neg h0,if_pos hz],h⟩
end
section
variable {Q:ANb}{ρ:Fm}{L:AB}{nx:Fm->AB->Prop}{rt:ANb}{bk ct:Fm->AB->Prop}{fo fv fe:EF}{af:AF}{cs:AM4}{f c m:Str}
def AKE{k:Nat}{fs:List (Str×D)}{d:D}(e:L[k]?=some (.ins c fs))(hc:cs.contains c=true)(hl:fs.lookup f=some d)(h:Q d L):W2 (BJ cs f (.ref k) L) Q :=
 ⟨d,L,by simp only[BJ,e];rw[if_pos (by simpa using hc),hl];rfl,h⟩
def AHe(h:W2 (fv ρ L) λv L1=>W2 (fo ρ L1) λx L2=>W1 (Kj cs f x v L2) λL3=>nx ρ L3):WS (Fh cs f fo fv ρ L) nx rt bk ct:=by obtain⟨v,L1,e1,x,L2,e2,L3,e3,q⟩:=h;exact WS.inx (by unfold Fh;rw[e1];simp only[AS];rw[e2];simp only[AS];rw[e3];rfl) q
def XN{k:Nat}{fs:List (Str×D)}{v:D}{P:AB->Prop}(e:L[k]?=some (.ins c fs))(hc:cs.contains c=true)(hl:Nat.blt fs.length 1000=true)(h:P (L.set k (.ins c (EI f v fs)))):W1 (Kj cs f (.ref k) v L) P:=by
 have h1:fs.length<=999:=by simpa[Nat.blt] using hl
 exact⟨_,by simp only[Kj,e];rw[if_pos ⟨by simpa using hc,by omega⟩],h⟩
def AIG{G:GL}(h:W2 (af ρ L) λys L1=>W2 (G (.ref L1.length::ys) (L1++[.ins c []])) λz L2=>z=.non/\Q (.ref L1.length) L2):W2 (HB c G af ρ L) Q:=by obtain⟨ys,L1,e1,z,L2,e2,rfl,q⟩:=h;exact⟨_,L2,by unfold HB;rw[e1];simp only[AS];rw[e2];rfl,q⟩
abbrev ZG(cs:AM4)(f:Str)(g:Int->Int->Int)(fv:EF)(ρ:Fm)(nx:Fm->AB->Prop)(x:D)(L:AB):Prop:=∃k c fs i,x=.ref k/\L[k]?=some (.ins c fs)/\c∈cs/\fs.lookup f=some (.int i) /\
 W2 (fv ρ L) λy L2=>∃j fs',y=.int j/\L2[k]?=some (.ins c fs')/\fs'.length<1000/\nx ρ (L2.set k (.ins c (EI f (.int (g i j)) fs')))
def AHm{g:Int->Int->Int}(h:W2 (fo ρ L) λx L1=>ZG cs f g fv ρ nx x L1):WS (LR cs f g fo fv ρ L) nx rt bk ct:=by obtain⟨x,L1,e1,k,c,fs,i,rfl,e2,hc,e3,y,L2,e4,j,fs',rfl,e5,hl,q⟩:=h;exact WS.inx (by unfold LR;rw[e1];simp only[AS];rw[e2];simp only;rw[if_pos hc,e3];simp only;rw[e4];simp only[AS];rw[e5];dsimp only;rw[if_pos ⟨rfl,hl⟩]) q
def AHn{i:Nat}{g:Int->Int->Int}{a:Int}(e:ρ[i]?=some (some (.int a)))(h:W2 (fe ρ L) λy L1=>Sr y λb=>nx (ρ.set i (some (.int (g a b)))) L1):WS (Je i g fe ρ L) nx rt bk ct:=by obtain⟨y,L1,e1,b,rfl,q⟩:=h;exact WS.inx (by unfold Je;rw[e];simp only;rw[e1];rfl) q
def Qi{t:TF}{b:SF}(I:Nat->Fm->AB->Prop)(st:∀n ρ L,I n ρ L->W2 (t ρ L) λx L1=>Br x (WS (b ρ L1) (λρ2 L2=>∃m,m<n/\I m ρ2 L2) rt nx (λρ2 L2=>∃m,m<n/\I m ρ2 L2)) (nx ρ L1)) :
  ∀(N n:Nat) (ρ:Fm) (L:AB),n<N->I n ρ L->WS (Fa t b N ρ L) nx rt bk ct
 |0,n,ρ,L,h,_=>absurd h (Nat.not_lt_zero _)
 |N+1,n,ρ,L,h,hI=>by
  obtain⟨x,L1,e1,hb⟩:=st n ρ L hI
  cases x with
  |false=>exact WS.inx (by unfold Fa;rw[e1];rfl) hb
  |true =>
   obtain⟨out,e2,q⟩:=(show WS (b ρ L1) _ _ _ _ from hb)
   cases out with
   |next ρ2 L2 =>
    obtain⟨m,hm,hI2⟩:=(show ∃m,m<n/\I m ρ2 L2 from q);obtain⟨o,e3,q3⟩:=Qi I st N m ρ2 L2 (by omega) hI2;exact⟨o,by unfold Fa;rw[e1];simp only[AS,if_true];rw[e2];exact e3,q3⟩
   |cont ρ2 L2 =>
    obtain⟨m,hm,hI2⟩:=(show ∃m,m<n/\I m ρ2 L2 from q);obtain⟨o,e3,q3⟩:=Qi I st N m ρ2 L2 (by omega) hI2;exact⟨o,by unfold Fa;rw[e1];simp only[AS,if_true];rw[e2];exact e3,q3⟩
   |brk ρ2 L2=>exact WS.inx (by unfold Fa;rw[e1];simp only[AS,if_true];rw[e2];rfl) q
   |ret d L2=>exact WS.irt (by unfold Fa;rw[e1];simp only[AS,if_true];rw[e2];rfl) q
def AAR{t:TF}{b:SF}(I:Nat->Fm->AB->Prop){n:Nat}(hn:n<1000000)(h0:I n ρ L)
  (st:∀n ρ L,I n ρ L->W2 (t ρ L) λx L1=>Br x (WS (b ρ L1) (λρ2 L2=>∃m,m<n/\I m ρ2 L2) rt nx (λρ2 L2=>∃m,m<n/\I m ρ2 L2)) (nx ρ L1)):WS (Qk t b ρ L) nx rt bk ct:=Qi I st 1000000 n ρ L hn h0
def XM{k:Nat}{ds:List D}{ns:ANA}(e:L[k]?=some (.lst ds))(e2:EB ds=some ns)(h:Q (.int ns.sum) L):W2 (Kv [.ref k] L) Q:=⟨_,_,by unfold Kv;rw[AEo e];simp only[AS];rw[e2];rfl,h⟩
def Kc{B:SF}{N:AM4}{n:Nat}{xs:List D}(hn:xs.length=n)(h:WS (B (Ff N xs) L) (λ_ L2=>(L <+: L2->Q .non L)/\Q .non L2) (λd L2=>(L <+: L2->d.noRef=true->Q d L)/\Q d L2) (λ_ _=>False) (λ_ _=>False)):W2 (Aj B N n xs L) Q:=by
 obtain⟨o,e,q⟩:=h
 cases o with
 |next ρ L2 =>
  by_cases c:L2.take L.length=L
  .exact⟨_,_,by unfold Aj;rw[if_pos hn,e];simp only;rw[if_pos c],q.1 (NJ c)⟩
  .exact⟨_,_,by unfold Aj;rw[if_pos hn,e];simp only;rw[if_neg c],q.2⟩
 |ret d L2 =>
  by_cases c:d.noRef=true/\L2.take L.length=L
  .exact⟨_,_,by unfold Aj;rw[if_pos hn,e];simp only;rw[if_pos c],q.1 (NJ c.2) c.1⟩
  .exact⟨_,_,by unfold Aj;rw[if_pos hn,e];simp only;rw[if_neg c],q.2⟩
 |brk _ _=>exact q.elim
 |cont _ _=>exact q.elim
end
section
variable {Q:ANb}{QI:List D->(AB->Bool)->AB->Prop}{ρ:Fm}{L:AB}{nx:Fm->AB->Prop}{rt:ANb}{bk ct:Fm->AB->Prop}{fo fi fv f:EF}{a:AF}{k ep:Nat}{kvs:List (NK×D)}{kk:NK}{y d:D}
def AAe(h:Q (.ref L.length) (L++[.dt [] 0])):W2 (Hn ρ L) Q:=⟨_,_,rfl,h⟩
def AIS(e:L[k]?=some (.dt kvs ep)){p:Prop}(h:p):OC "dict" (.ref k) L p:=⟨by simp[Iv,e],h⟩
def HF(e:L[k]?=some (.dt kvs ep))(ek:dNK y=some kk)(el:BL kvs kk=some d)(h:Q d L):W2 (El (.ref k) y L) Q:=⟨d,L,by simp only[El,e,ek,AS,el,ALv],h⟩
def Ry{neg:Bool}(e:L[k]?=some (.dt kvs ep))(ek:dNK y=some kk)(h:Q (.bl (neg != (BL kvs kk).isSome)) L):W2 (Gj neg y (.ref k) L) Q:=⟨_,L,by simp only[Gj,e,ek,ALv],h⟩
def AJ6(e:L[k]?=some (.dt kvs ep))(h:Q (.int (kvs.length:Int)) L):W2 (LA [.ref k] L) Q:=⟨_,L,by simp only[LA,e],h⟩
def AJ1(e:L[k]?=some (.dt kvs ep))(h:Q (.ref L.length) (L++[.lst (Fi kvs)])):W2 (Kz [.ref k] L) Q:=⟨_,_,by simp only[Kz,e],h⟩
def AFj(e:L[k]?=some (.dt kvs ep))(ek:dNK y=some kk)(h:Q ((BL kvs kk).getD .non) L):W2 (LD (.ref k) [y] L) Q:=⟨_,L,by simp only[LD,e,ek,ALv],h⟩
def AFc{v:D}(e:L[k]?=some (.dt kvs ep))(ek:dNK y=some kk)(el:BL kvs kk=some d)(h:Q d L):W2 (HG (.ref k) [y,v] L) Q:=⟨_,L,by simp only[HG,e,ek,AS,el],h⟩
def AFd{v:D}(e:L[k]?=some (.dt kvs ep))(ek:dNK y=some kk)(el:BL kvs kk=none)(hz:kvs.length<16777216)(h:Q v (L.set k (.dt (CO kvs kk v) (epN kvs kk ep)))):W2 (HG (.ref k) [y,v] L) Q:=⟨_,_,by simp only[HG,e,ek,AS,el];rw[if_pos hz],h⟩
def Rz{i j:Nat}{as bs:List D}(e1:L[i]?=some (.lst as))(e2:L[j]?=some (.lst bs))(hz:as.length+bs.length<=16777216)(h:Q .non (L.set i (.lst (as++bs)))):W2 (IP (.ref i) [.ref j] L) Q:=⟨_,_,by simp only[IP,e1,e2];rw[if_pos hz],h⟩
def AHk(h:W2 (fv ρ L) λv L1=>W2 (fo ρ L1) λo L2=>W2 (fi ρ L2) λi L3=>W1 (Hi o i v L3) λL4=>nx ρ L4):WS (Hl fo fi fv ρ L) nx rt bk ct:=by obtain⟨v,L1,e1,o,L2,e2,i,L3,e3,L4,e4,q⟩:=h;exact WS.inx (by unfold Hl;rw[e1,AS,e2,AS,e3,AS,e4];rfl) q
def Nk{v:D}{P:AB->Prop}(e:L[k]?=some (.dt kvs ep))(hz:kvs.length<16777216)(ek:dNK y=some kk)(h:P (L.set k (.dt (CO kvs kk v) (epN kvs kk ep)))):W1 (Hi (.ref k) y v L) P:=⟨_,by simp only[Hi,e];rw[if_pos hz,ek];rfl,h⟩
abbrev Sy(d:D)(L:AB)(P:Nat->List (NK×D)->Nat->Prop):Prop:=∃k kvs ep,d=.ref k/\L[k]?=some (.dt kvs ep)/\P k kvs ep
def AKr{P:Nat->List (NK×D)->Nat->Prop}(e:L[k]?=some (.dt kvs ep))(h:P k kvs ep):Sy (.ref k) L P:=⟨k,kvs,ep,rfl,e,h⟩
def AHv(h:W2 (f ρ L) λd L1=>Sy d L1 λk kvs ep=>QI (Fi kvs) (HV k kvs ep) L1):WI (JQ f ρ L) QI:=by obtain⟨d,L1,e1,k,kvs,ep,rfl,e2,q⟩:=h;exact⟨_,_,L1,by unfold JQ;rw[e1,AS];simp only[e2],q⟩
def AHu(h:W2 (f ρ L) λd L1=>Sy d L1 λk kvs ep=>QI (Eh kvs) (λL'=>decide (L'[k]?=some (.dt kvs ep))) L1):WI (Hf f ρ L) QI:=by obtain⟨d,L1,e1,k,kvs,ep,rfl,e2,q⟩:=h;exact⟨_,_,L1,by unfold Hf;rw[e1,AS];simp only[e2],q⟩
abbrev Yx(ds:List D)(L:AB)(P:Nat->List D->Prop):Prop:=∃k xs,ds=[.ref k]/\L[k]?=some (.lst xs)/\P k xs
def AJb{P:Nat->List D->Prop}{xs:List D}(e:L[k]?=some (.lst xs))(h:P k xs):Yx [.ref k] L P:=⟨k,xs,rfl,e,h⟩
def AHw(h:W2 (a ρ L) λds L1=>Yx ds L1 λk xs=>QI (Ep xs) (λL'=>decide (L'[k]?=some (.lst xs))) L1):WI (Kt a ρ L) QI:=by obtain⟨ds,L1,e1,k,xs,rfl,e2,q⟩:=h;exact⟨_,_,L1,by unfold Kt;rw[e1,AS];simp only[e2],q⟩
abbrev AHN(n:Nat)(ds:List D)(L:AB)(P:List D->List (List D)->Prop):Prop:=∃ys yss,seqs ds L=some (ys::yss)/\((yss.all λzs=>zs.length == ys.length)=true/\yss.length<100/\yss.length+1=n)/\P ys yss
def AAT{n:Nat}(h:W2 (a ρ L) λds L1=>∃ys yss,seqs ds L1=some (ys::yss)/\((yss.all λzs=>decide (ys.length<=zs.length))=true/\yss.length<100/\yss.length+1=n)/\QI (Ef ys.length (ys::yss)) (λL'=>decide (seqs ds L'=some (ys::yss))) L1):WI (He n a ρ L) QI:=by obtain⟨ds,L1,e1,ys,yss,e2,hc,q⟩:=h;exact⟨_,_,L1,by unfold He;rw[e1,AS];simp only[e2];rw[if_pos hc],q⟩
def AHp{n:Nat}(h:W2 (a ρ L) λds L1=>AHN n ds L1 λys yss=>QI (Ef ys.length (ys::yss)) (λL'=>decide (seqs ds L'=some (ys::yss))) L1):WI (He n a ρ L) QI:=by obtain⟨ds,L1,e1,ys,yss,e2,hc,q⟩:=h;exact AAT ⟨ds,L1,e1,ys,yss,e2,⟨CF.mpr λz hz=>decide_eq_true (ALT (beq_iff_eq.mp (CF.mp hc.1 z hz)).symm),hc.2⟩,q⟩
def AJq{x z:Str}(h:Q (.bl (Txt.startswith x z)) L):W2 (Nm (.str x) [.str z] L) Q:=⟨_,_,rfl,h⟩
def AG3{cs:AM4}{c fl:Str}{g:Int->Int->Int}{fs:List (Str×D)}{i:Int}(e:L[k]?=some (.ins c fs))(hc:c∈cs)(hl:fs.lookup fl=some (.int i))
  (h:W2 (fv ρ L) λy L2=>∃j fs',y=.int j/\L2[k]?=some (.ins c fs')/\fs'.length<1000/\nx ρ (L2.set k (.ins c (EI fl (.int (g i j)) fs')))):ZG cs fl g fv ρ nx (.ref k) L:=⟨k,c,fs,i,rfl,e,hc,hl,h⟩
end
end L3
set_option maxHeartbeats 8000000
namespace L3
open PySem PySem.Spec PyProof.Rows L2
abbrev zx:D:=D.tup [D.str "small",D.str "great",D.str "figure",D.str "mark",D.str "any"]
abbrev Lm:D:=D.tup [D.tup [D.str "small",D.str "abcdefghijklmnopqrstuvwxyz"],D.tup [D.str "great",D.str "ABCDEFGHIJKLMNOPQRSTUVWXYZ"],D.tup [D.str "figure",D.str "0123456789"],D.tup [D.str "mark",D.str " -.,/"]]
abbrev zy:D:=D.tup [D.int (1),D.int (2),D.int (-1),D.int (-2)]
abbrev zz:D:=D.tup [D.str "ahead",D.str "behind"]
abbrev KI:D:=D.tup [D.str "copy",D.str "raise",D.str "sink"]
abbrev Iu:D:=D.tup [D.int (1),D.int (2),D.int (3)]
abbrev Lj:D:=D.int (0)
abbrev KG:D:=D.int (1)
abbrev Lg:AM4:=[ANO,"_law_most","_law_signs","_law_some","_law_size",ANQ,"_law_k"]
abbrev Po:SF :=
 (AJ (AO 2 (AD (.str "abcdefghijklmnopqrstuvwxyzABCDEFGHIJKLMNOPQRSTUVWXYZ0123456789 -.,/")))
 (AJ (AO 3 (AE AU (Bd (AC (AD (.str "abAB12 -")) (AC (AD (.str "aB 1")) (AC (AD (.str "aab")) (AC (AA 2) AH))))) (AE BS (AE Bw (AA 0) (AD (.int 32))) (AD (.int 4)))))
 (AJ (AO 4 (AE BS (AA 0) (AE BM (AA 1) (AD (.int 1)))))
 (AJ (AO 0 (AE Bw (AA 0) (AD (.int 128))))
 (AJ (AO 5 (AD (.str "")))
 (AJ (Bh (Gh (AC (AA 4) AH)) (An 6) (AJ (AO 5 (AE BM (AA 5) (AE AU (AA 3) (AE BS (AA 0) (AL Be (AC (AA 3) AH))))))
 (AO 0 (AE Bw (AA 0) (AL Be (AC (AA 3) AH))))))
 (AV (AA 5))))))))
abbrev Ir:GL:=Aj Po Lg 2
abbrev Mo:AM4:=[ANO,ANR,ANV,"_law_part","_law_k","_law_word"]
abbrev Pj:SF :=
 (AJ (AO 1 (Bd AH))
 (AJ (AO 2 (AE BS (AA 0) (AD (.int 5))))
 (AJ (Au (Ab (AE BX (AE BS (AE Bw (AA 0) (AD (.int 5))) (AD (.int 4))) (AD (.int 1)))) (AO 2 (AE BM (AD (.int 5)) (AE BS (AA 0) (AD (.int 2))))) BB)
 (AJ (AO 3 (AE Bw (AA 0) (AD (.int 20))))
 (AJ (Bh (Gh (AC (AA 2) AH)) (An 4) (AJ (AO 5 (AL Ir (AC (AA 3) (AC (AE AU (Bd (AC (AD (.int 2)) (AC (AD (.int 3)) (AC (AD (.int 3)) (AC (AD (.int 8)) AH))))) (AE BS (AE Bw (AA 3) (AD (.int 7))) (AD (.int 4)))) AH))))
 (AJ (Au (Ab (AE GI (AA 2) (AD (.int 4)))) (AO 5 (Cz (AA 5) EK (CT (AD (.int 2))))) BB)
 (AJ (Au (Ab (AE BX (AA 5) (AD (.str "")))) (AO 5 (AD (.str "-"))) BB)
 (AJ (Au (Ab (AE (DC true) (AA 5) (AA 1))) (DU (Bg "list" Em (AA 1) (AC (AA 5) AH))) BB)
 (AO 3 (AE Bw (AA 3) (AE HI (AD (.int 10)) (AD (.int 6))))))))))
 (AV (AA 1)))))))
abbrev KC:GL:=Aj Pj Mo 1
abbrev Ml:AM4:=[ANO,"_law_kind_here"]
abbrev Pe:SF :=
 (AJ (AO 1 (AE AU (Bd (AC (AD (.str "small")) (AC (AD (.str "great")) (AC (AD (.str "figure")) (AC (AD (.str "mark")) (AC (AD (.str "any")) AH)))))) (AE BS (AA 0) (AD (.int 5)))))
 (AV (CG (AC (AA 1) (AC (AE AU (Bd (AC (AD (.int 1)) (AC (AD (.int 2)) (AC (BD IM (AD (.int 1))) (AC (BD IM (AD (.int 2))) AH))))) (AE BS (AE Bw (AA 0) (AD (.int 5))) (AD (.int 4)))) (AC (AE AU (Bd (AC (AD (.str "ahead")) (AC (AD (.str "behind")) AH))) (AE BS (AE Bw (AA 0) (AD (.int 20))) (AD (.int 2)))) AH))))))
abbrev Iq:GL:=Aj Pe Ml 1
abbrev Mh:AM4:=[ANO,ANR,"_law_deed"]
abbrev UI:SF :=
 (AJ (Au (Hs (Ab (AE BX (AE BS (AA 0) (AD (.int 7))) (AD (.int 0)))) (Ab (AE GI (AL Be (AC (AA 1) AH)) (AD (.int 0))))) (AV (CG (AC (AD (.str "word")) (AC (AE AU (AA 1) (AE BS (AE Bw (AA 0) (AD (.int 7))) (AL Be (AC (AA 1) AH)))) AH)))) BB)
 (AJ (AO 2 (AE AU (Bd (AC (AD (.str "copy")) (AC (AD (.str "raise")) (AC (AD (.str "sink")) (AC (AD (.str "copy")) AH))))) (AE BS (AE Bw (AA 0) (AD (.int 7))) (AD (.int 4)))))
 (AV (CG (AC (AA 2) (AC (AL Iq (AC (AE Bw (AA 0) (AD (.int 28))) AH)) (AC (AL Iq (AC (AE Bw (AA 0) (AD (.int 1120))) AH)) AH)))))))
abbrev KA:GL:=Aj UI Mh 2
abbrev Me:AM4:=["_law_sign"]
abbrev Pa:SF :=
 (AJ (Au (Ab (Bg "str" (HH Txt.islower) (AA 0) AH)) (AV (AD (.str "small"))) BB)
 (AJ (Au (Ab (Bg "str" (HH Txt.isupper) (AA 0) AH)) (AV (AD (.str "great"))) BB)
 (AJ (Au (Ab (Bg "str" (HH Txt.isdigit) (AA 0) AH)) (AV (AD (.str "figure"))) BB)
 (AV (AD (.str "mark"))))))
abbrev Jy:GL:=Aj Pa Me 1
abbrev Mb:AM4:=["_law_place_here",ANQ,"_law_kind_here","_law_nth","_law_edge","_law_found"]
abbrev PV:SF :=
 (AJ (IY (AA 0) 3 (Bf (An 2) (Bf (An 3) (Bf (An 4) ES))))
 (AJ (AO 5 (Bl (Gh (AC (AL Be (AC (AA 1) AH)) AH)) 1 [2,1] (An 0) (Ei (Ab (AE BX (AA 1) (AD (.str "any")))) (Ab (AE BX (AL Jy (AC (AE AU (AA 2) (AA 0)) AH)) (AA 1)))) (AA 0)))
 (AJ (Au (Ab (AE gLt (AL Be (AC (AA 5) AH)) (AL JV (AC (AA 3) AH)))) (AV (AD .non)) BB)
 (AJ (Au (Ab (AE GI (AA 3) (AD (.int 0)))) (AV (AE BM (AE AU (AA 5) (AE Fk (AA 3) (AD (.int 1)))) (AL LC (AC (AE BX (AA 4) (AD (.str "behind"))) AH)))) BB)
 (AV (AE BM (AE AU (AA 5) (AA 3)) (AL LC (AC (AE BX (AA 4) (AD (.str "behind"))) AH))))))))
abbrev zg:GL:=Aj PV Mb 2
abbrev MY:AM4:=[ANW,ANQ,"_law_start","_law_end"]
abbrev MV:SF :=
 (AJ (Au (Ab (AE BX (AE AU (AA 0) (AD (.int 0))) (AD (.str "word")))) (AV (AE AU (AA 0) (AD (.int 1)))) BB)
 (AJ (AO 2 (AL zg (AC (AE AU (AA 0) (AD (.int 1))) (AC (AA 1) AH))))
 (AJ (AO 3 (AL zg (AC (AE AU (AA 0) (AD (.int 2))) (AC (AA 1) AH))))
 (AJ (Au (Ei (Ab (AE Hh (AA 2) (AD .non))) (Ei (Ab (AE Hh (AA 3) (AD .non))) (Ab (AE No (AA 2) (AA 3))))) (AV (AD .non)) BB)
 (AJ (Au (Ab (AE BX (AE AU (AA 0) (AD (.int 0))) (AD (.str "raise")))) (AV (Bg "str" (gS0s Txt.upper) (Cz (AA 1) (CT (AA 2)) (CT (AA 3))) AH)) BB)
 (AJ (Au (Ab (AE BX (AE AU (AA 0) (AD (.int 0))) (AD (.str "sink")))) (AV (Bg "str" (gS0s Txt.lower) (Cz (AA 1) (CT (AA 2)) (CT (AA 3))) AH)) BB)
 (AV (Cz (AA 1) (CT (AA 2)) (CT (AA 3))))))))))
abbrev zh:GL:=Aj MV MY 2
abbrev MT:AM4:=[ANO,ANR,ANT,ANW,"_law_whole","_law_some"]
abbrev PP:SF :=
 (AJ (AO 3 (AL KA (AC (AA 0) (AC (AA 1) AH))))
 (AJ (Au (Ab (AE BX (AE AU (AA 3) (AD (.int 0))) (AD (.str "word")))) (AV (AA 3)) BB)
 (AJ (AO 4 (CG (AC (AE AU (AA 3) (AD (.int 0))) (AC (CG (AC (AD (.str "any")) (AC (AD (.int 1)) (AC (AD (.str "ahead")) AH)))) (AC (CG (AC (AD (.str "any")) (AC (BD IM (AD (.int 1))) (AC (AD (.str "behind")) AH)))) AH)))))
 (AJ (Bh (Ba (Bd (AC (AA 3) (AC (CG (AC (AE AU (AA 3) (AD (.int 0))) (AC (AE AU (AA 3) (AD (.int 2))) (AC (AE AU (AA 3) (AD (.int 1))) AH)))) (AC (AA 4) AH))))) (An 5) (Au (Ab (AE (DC true) (AD .non) (Bl (Ba (AA 2)) 1 [5] (An 0) Cn (AL zh (AC (AA 1) (AC (AA 0) AH)))))) (AV (AA 5)) BB))
 (AJ (Au (Ab (AE BX (AL Be (AC (AA 1) AH)) (AD (.int 0)))) (AV (AD .non)) BB)
 (AV (CG (AC (AD (.str "word")) (AC (AE AU (AA 1) (AE BS (AE Bw (AA 0) (AD (.int 28))) (AL Be (AC (AA 1) AH)))) AH)))))))))
abbrev Jw:GL:=Aj PP MT 3
abbrev MR:AM4:=[ANO,ANR,ANT,ANU,"_law_part","_law_k",ANW]
abbrev PK:SF :=
 (AJ (AO 3 (Bd AH))
 (AJ (AO 4 (AE Bw (AA 0) (AD (.int 3))))
 (AJ (Bh (Gh (AC (AE BM (AD (.int 1)) (AE BS (AA 0) (AD (.int 3)))) AH)) (An 5) (AJ (AO 6 (AL Jw (AC (AA 4) (AC (AA 1) (AC (AA 2) AH)))))
 (AJ (Au (Ab (AE IN (AA 6) (AD .non))) (DU (Bg "list" Em (AA 3) (AC (AA 6) AH))) BB)
 (AO 4 (AE Bw (AA 4) (AD (.int 1000003)))))))
 (AV (AL Fj (AC (AA 3) AH))))))
abbrev Ju:GL:=Aj PK MR 3
abbrev MP:AM4:=[ANS,"_law_k",ANV]
abbrev PD:SF :=
 (AJ (Au (Ab (AE gLt (AA 1) (AL Be (AC (AA 0) AH)))) (AV (AE BS (AE DY (AE BM (AE AU (AA 0) (AA 1)) (AD (.int 7919))) (AD (.int 2718281828459045235360287471352662497757))) (AE HI (AD (.int 10)) (AD (.int 40))))) BB)
 (AJ (AO 2 (AE BM (AE DY (AE DY (AA 1) (AA 1)) (AD (.int 7919))) (AD (.int 5))))
 (AJ (Au (Ab (AE GI (AL Be (AC (AA 0) AH)) (AD (.int 0)))) (AO 2 (AE BM (AA 2) (AE DY (AE BS (AE AU (AA 0) (AE BS (AE DY (AA 1) (AD (.int 7))) (AL Be (AC (AA 0) AH)))) (AE HI (AD (.int 10)) (AD (.int 40)))) (AD (.int 48271))))) BB)
 (AV (AE BS (AE DY (AE BS (AE DY (AA 2) (AA 2)) (AD (.int 2147483629))) (AD (.int 2718281828459045235360287471352662497757))) (AE HI (AD (.int 10)) (AD (.int 40))))))))
abbrev zb:GL:=Aj PD MP 2
abbrev MN:AM4:=[ANU,ANQ,"_law_found"]
abbrev Oy:SF :=
 (AJ (AO 2 (Bl (Ba (AA 0)) 1 [1] (An 0) Cn (AL zh (AC (AA 0) (AC (AA 1) AH)))))
 (AJ (Au (Ab (AE (DC false) (AD .non) (AA 2))) (AV (AD .non)) BB)
 (AV (Bg "str" LB (AD (.str "")) (AC (AA 2) AH)))))
abbrev Jr:GL:=Aj Oy MN 2
abbrev ML:AM4:=[ANU,ANT,ANO,"_law_examples","_law_at",ANQ,"_law_answer","_law_other"]
abbrev Ou:SF :=
 (AJ (AO 3 (Bl (Ba (AA 1)) 1 [0] (An 0) Cn (CG (AC (AA 0) (AC (AL Jr (AC (AA 1) (AC (AA 0) AH))) AH)))))
 (AJ (Au (Hs (Ab (AE BX (AE BS (AA 2) (AD (.int 4))) (AD (.int 1)))) (Ab (AE GI (AL Be (AC (AA 3) AH)) (AD (.int 0))))) (AJ (AO 4 (AE BS (AE Bw (AA 2) (AD (.int 4))) (AL Be (AC (AA 3) AH))))
 (AJ (IY (AE AU (AA 3) (AA 4)) 2 (Bf (An 5) (Bf (An 6) ES)))
 (AJ (AO 7 (AE AU (Bd (AC (Cz (AE BM (AA 6) (AD (.str "a"))) EK (CT (AD (.int 72)))) (AC (Cz (AA 6) EK (CT (BD IM (AD (.int 1))))) (AC (AE BM (Cz (AA 6) (CT (AD (.int 1))) EK) (Cz (AA 6) EK (CT (AD (.int 1))))) (AC (AD (.str "")) AH))))) (AE BS (AE Bw (AA 2) (AD (.int 16))) (AD (.int 4)))))
 (AO 3 (AE BM (AE BM (Cz (AA 3) EK (CT (AA 4))) (Bd (AC (CG (AC (AA 5) (AC (AA 7) AH))) AH))) (Cz (AA 3) (CT (AE BM (AA 4) (AD (.int 1)))) EK)))))) BB)
 (AV (AA 3))))
abbrev Jp:GL:=Aj Ou ML 3
abbrev MJ:AM4:=[ANS,"_law_start","_law_most",ANO,ANV,"_law_rows","_law_some","_law_k","_law_at","_law_sign",ANT,ANQ]
abbrev Op:SF :=
 (AJ (AO 3 (AL zb (AC (AA 0) (AC (AA 1) AH))))
 (AJ (AO 4 (AE BM (AD (.int 1)) (AE BS (AA 3) (AD (.int 3)))))
 (AJ (Au (Ab (AE BX (AE BS (AE Bw (AA 3) (AD (.int 24))) (AD (.int 4))) (AD (.int 1)))) (AJ (AO 4 (AE BM (AD (.int 4)) (AE BS (AA 3) (AD (.int 3)))))
 (AO 2 (AL Ky (AC (AA 2) (AC (AD (.int 6)) AH))))) BB)
 (AJ (AO 5 (Bl (Gh (AC (AA 4) AH)) 1 [] (An 0) Cn (AD (.str ""))))
 (AJ (AO 6 (AE AU (Bd (AC (AD (.str "aB1 -")) (AC (AD (.str "aab")) (AC (AD (.str "abAB12 -")) (AC (AD (.str "abcXYZ019 -.,/")) AH))))) (AE BS (AE Bw (AA 3) (AD (.int 6))) (AD (.int 4)))))
 (AJ (Au (Ab (AE BX (AE BS (AE Bw (AA 3) (AD (.int 3))) (AD (.int 2))) (AD (.int 0)))) (AO 5 (Bl (Gh (AC (AA 4) AH)) 1 [2,0,1] (An 0) Cn (AL Ir (AC (AL zb (AC (AA 2) (AC (AE BM (AE BM (AA 3) (AD (.int 1))) (AA 0)) AH))) (AC (AA 1) AH))))) (Bh (Ks (AC (AE BM (AA 1) (AD (.int 1))) (AC (AL Ky (AC (AL Be (AC (AA 0) AH)) (AC (AE BM (AE BM (AA 1) (AD (.int 1))) (AE DY (AA 2) (AA 4))) AH))) AH))) (An 7) (AJ (AO 8 (AE BS (AA 7) (AA 4)))
 (AJ (AO 9 (AE AU (AA 6) (AE BS (AL zb (AC (AA 0) (AC (AA 7) AH))) (AL Be (AC (AA 6) AH)))))
 (CH (AA 5) (AA 8) (AE BM (AE AU (AA 5) (AA 8)) (AA 9)))))))
 (AJ (Au (Ab (AE BX (AE BS (AE Bw (AA 3) (AD (.int 96))) (AD (.int 8))) (AD (.int 3)))) (CH (AA 5) (AD (.int 0)) (Cz (AE DY (Cz (AA 6) EK (CT (AE BM (AD (.int 1)) (AE BS (AE Bw (AA 3) (AD (.int 768))) (AD (.int 2)))))) (AD (.int 24))) EK (CT (AD (.int 24))))) BB)
 (AJ (AO 10 (Bd AH))
 (AJ (Bh (Ba (AA 5)) (An 11) (Au (Ab (AE (DC true) (AA 11) (AA 10))) (DU (Bg "list" Em (AA 10) (AC (AA 11) AH))) BB))
 (AV (AA 10)))))))))))
abbrev Jo:GL:=Aj Op MJ 3
abbrev MH:AM4:=[ANS,ANR,ANT,ANU]
abbrev Ol:SF :=
 (AJ (AO 1 (AL KC (AC (AL zb (AC (AA 0) (AC (AD (.int 0)) AH))) AH)))
 (AJ (AO 2 (Bl (Ba (AL Jo (AC (AA 0) (AC (AD (.int 4)) (AC (AD (.int 10)) AH))))) 1 [1] (An 0) (Ei (Ab (AE HJ (AA 0) (AD (.str "")))) (Ab (AE GI (AL Be (AC (AA 1) AH)) (AD (.int 0))))) (AA 0)))
 (AJ (AO 3 (AL Ju (AC (AL zb (AC (AA 0) (AC (AD (.int 1)) AH))) (AC (AA 1) (AC (AA 2) AH)))))
 (AV (Bd (AC (AA 1) (AC (AA 3) (AC (AL Jp (AC (AA 3) (AC (AA 2) (AC (AL zb (AC (AA 0) (AC (AD (.int 2)) AH))) AH)))) AH))))))))
abbrev Jn:GL:=Aj Ol MH 1
abbrev MF:AM4:=[ANF,ANK,ANN,"pieces",ANP,"piece"]
abbrev Og:SF :=
 (AJ (AO 1 Hn)
 (AJ (Bh (Hf (AA 0)) (Ej 2 (Bf (An 2) (Bf (An 3) ES))) (Bh (Kt (AC (AA 3) AH)) (Ej 2 (Bf (An 4) (Bf (An 5) ES))) (Hl (AA 1) (AA 5) (CG (AC (AA 2) (AC (AA 4) AH))))))
 (AV (AA 1))))
abbrev Ip:GL:=Aj Og MF 1
abbrev MD:AM4:=["self",ANE]
abbrev Oc:SF :=
 (AJ (Fh [AND] ANE (AA 0) (AA 1))
 (Fh [AND] ANH (AA 0) Hn))
abbrev zm:GL:=Aj Oc MD 2
abbrev MB:AM4:=["self",ANI,ANF]
abbrev OW:SF :=
 (AJ (Fh [ANC] ANI (AA 0) (AA 1))
 (AJ (Fh [ANC] ANF (AA 0) (AA 2))
 (AJ (Fh [ANC] ANK (AA 0) (AL Ip (AC (AA 2) AH)))
 (AJ (Fh [ANC] ANG (AA 0) (Bd (AC (HB AND zm (AC (AD (.int 1)) AH)) (AC (HB AND zm (AC (AD (.int 0)) AH)) AH))))
 (AJ (Fh [ANC] ANL (AA 0) Hn)
 (Fh [ANC] ANM (AA 0) (Bd AH)))))))
abbrev Jm:GL:=Aj OW MB 3
abbrev Lz:AM4:=["places","kind","nth","edge"]
abbrev OR:SF :=
 (AJ (AO 0 (Bd AH))
 (AJ (Bh (Ba (AD zx)) (An 1) (Bh (Ba (AD zy)) (An 2) (Bh (Ba (AD zz)) (An 3) (DU (Bg "list" Em (AA 0) (AC (CG (AC (AA 1) (AC (AA 2) (AC (AA 3) AH)))) AH))))))
 (AV (AA 0))))
abbrev Ka:GL:=Aj OR Lz 0
abbrev Lx:AM4:=["sign","kind","signs"]
abbrev Qh:SF :=
 (AJ (Bh (Ba (AD Lm)) (Ej 2 (Bf (An 1) (Bf (An 2) ES))) (Au (Ab (AE (DC false) (AA 0) (AA 2))) (AV (AA 1)) BB))
 (AV (AD .non)))
abbrev KZ:GL:=Aj Qh Lx 1
abbrev Lv:AM4:=["kind","sign"]
abbrev Qd:SF :=
 (AV (JD (AE BX (AA 0) (AD (.str "any"))) (AE BX (AL KZ (AC (AA 1) AH)) (AA 0))))
abbrev KY:GL:=Aj Qd Lv 2
abbrev Ls:AM4:=["place","text","kind","nth","numbers",ANP]
abbrev QZ:SF :=
 (AJ (AO 2 (AE AU (AA 0) (AD (.int 0))))
 (AJ (AO 3 (AE AU (AA 0) (AD (.int 1))))
 (AJ (AO 4 (Bl (Ku (AC (AA 1) AH)) 2 [2] (Ej 2 (Bf (An 0) (Bf (An 1) ES))) (Ab (AL KY (AC (AA 2) (AC (AA 1) AH)))) (AA 0)))
 (AJ (Au (Ab (AE gLt (AL Be (AC (AA 4) AH)) (AL JV (AC (AA 3) AH)))) (AV (AD .non)) BB)
 (AJ (AO 5 (FE (Ab (AE GI (AA 3) (AD (.int 0)))) (AE AU (AA 4) (AE Fk (AA 3) (AD (.int 1)))) (AE AU (AA 4) (AA 3))))
 (AV (FE (Ab (AE BX (AE AU (AA 0) (AD (.int 2))) (AD (.str "ahead")))) (AA 5) (AE BM (AA 5) (AD (.int 1))))))))))
abbrev zo:GL:=Aj QZ Ls 2
abbrev Lq:AM4:=["texts","places","place","spots"]
abbrev QV:SF :=
 (AJ (AO 1 Hn)
 (AJ (Bh (Ba (AL Ka AH)) (An 2) (AJ (AO 3 (AL Fj (AC (Bl (Ba (AA 0)) 1 [2] (An 0) Cn (AL zo (AC (AA 1) (AC (AA 0) AH)))) AH)))
 (Au (Ab (AE (DC true) (AD .non) (AA 3))) (DU (Bg "list" Em (Bg "dict" HG (AA 1) (AC (AA 3) (AC (Bd AH) AH))) (AC (AA 2) AH))) BB)))
 (AV (AA 1))))
abbrev KW:GL:=Aj QV Lq 1
abbrev Lo:AM4:=[ANN,"wanted"]
abbrev QQ:SF :=
 (AV (AL JU (AC (Bl (He 2 (AC (AA 0) (AC (AA 1) AH))) 2 [] (Ej 2 (Bf (An 0) (Bf (An 1) ES))) Cn (AE (DC false) (AA 0) (AA 1))) AH)))
abbrev KU:GL:=Aj QQ Lo 2
abbrev Ll:AM4:=[ANF,"wanted",ANN,"pieces"]
abbrev QL:SF :=
 (Au (Ab (AL KU (AC (AA 2) (AC (AA 1) AH)))) (DU (Bg "list" IP (Bg "dict" HG (AA 0) (AC (AA 2) (AC (Bd AH) AH))) (AC (AA 3) AH))) BB)
abbrev Io:GL:=Aj QL Ll 4
abbrev Li:AM4:=["texts","starts","ends","signs","text","start","end"]
abbrev QG:SF :=
 (AJ (AO 3 (Bd AH))
 (AJ (Bh (He 3 (AC (AA 0) (AC (AA 1) (AC (AA 2) AH)))) (Ej 3 (Bf (An 4) (Bf (An 5) (Bf (An 6) ES)))) (AJ (Au (Ab (AE No (AA 5) (AA 6))) (AV (AD .non)) BB)
 (DU (Bg "list" Em (AA 3) (AC (Cz (AA 4) (CT (AA 5)) (CT (AA 6))) AH)))))
 (AV (AA 3))))
abbrev KS:GL:=Aj QG Li 3
abbrev Lf:AM4:=["deed","starts","ends","pieces","start"]
abbrev QC:SF :=
 (AJ (AO 3 (Bd AH))
 (AJ (Bh (Ba (AA 1)) (An 4) (DU (Bg "list" IP (AA 3) (AC (Bl (Ba (AA 2)) 1 [0,4] (An 0) Cn (CG (AC (AA 1) (AC (AA 2) (AC (AA 0) AH))))) AH))))
 (AV (AA 3))))
abbrev KR:GL:=Aj QC Lf 3
abbrev Mn:AM4:=["deed","signs"]
abbrev Px:SF :=
 (AJ (Au (Ab (AE BX (AA 0) (AD (.str "copy")))) (AV (AA 1)) BB)
 (AV (FE (Ab (AE BX (AA 0) (AD (.str "raise")))) (Bg "str" (gS0s Txt.upper) (AA 1) AH) (Bg "str" (gS0s Txt.lower) (AA 1) AH))))
abbrev KQ:GL:=Aj Px Mn 2
abbrev Mj:AM4:=[ANI,"texts","wanted",ANF,"word","places","starts","ends","signs","deed",ANN]
abbrev Ps:SF :=
 (AJ (AO 3 Hn)
 (AJ (Bh (Ba (AA 0)) (An 4) (DU (AL Io (AC (AA 3) (AC (AA 2) (AC (AL Fj (AC (Bl (Ba (AA 1)) 1 [4] (An 0) Cn (AA 1)) AH)) (AC (Bd (AC (CG (AC (AD (.str "word")) (AC (AA 4) AH))) AH)) AH)))))))
 (AJ (AO 5 (AL KW (AC (AA 1) AH)))
 (AJ (Bh (JQ (AA 5)) (An 6) (Bh (JQ (AA 5)) (An 7) (AJ (AO 8 (AL KS (AC (AA 1) (AC (AA 6) (AC (AA 7) AH)))))
 (Au (Ab (AE IN (AA 8) (AD .non))) (Bh (Ba (AD KI)) (An 9) (AJ (AO 10 (AL Fj (AC (Bl (Ba (AA 8)) 1 [9] (An 0) Cn (AL KQ (AC (AA 1) (AC (AA 0) AH)))) AH)))
 (DU (AL Io (AC (AA 3) (AC (AA 2) (AC (AA 10) (AC (AL KR (AC (AA 9) (AC (AE El (AA 5) (AA 6)) (AC (AE El (AA 5) (AA 7)) AH)))) AH)))))))) BB))))
 (AV (AA 3))))))
abbrev KP:GL:=Aj Ps Mj 3
abbrev Mg:AM4:=[ANJ,"length","rest"]
abbrev Pn:SF :=
 (AJ (Au (Ab (AE BX (AA 1) (AD (.int 1)))) (AV (FE (Ab (AE (Gj false) (AA 2) (BD (BJ [ANC] ANF) (AA 0)))) (Bd (AC (AA 2) AH)) (Bd AH))) BB)
 (AV (AL Kz (AC (BD (BJ [ANC] ANF) (AA 0)) AH))))
abbrev KO:GL:=Aj Pn Mg 3
abbrev Md:AM4:=["rest",ANN,"parts","part","answer"]
abbrev Ph:SF :=
 (AJ (AO 2 (Bd AH))
 (AJ (Bh (He 2 (AC (AA 0) (AC (AA 1) AH))) (Ej 2 (Bf (An 3) (Bf (An 4) ES))) (AJ (Au (HA (Ab (Bg "str" Nm (AA 3) (AC (AA 4) AH)))) (AV (AD .non)) BB)
 (DU (Bg "list" Em (AA 2) (AC (Cz (AA 3) (CT (AL Be (AC (AA 4) AH))) EK) AH)))))
 (AV (AL Fj (AC (AA 2) AH)))))
abbrev KN:GL:=Aj Ph Md 2
abbrev Ma:AM4:=[ANJ,"length","rest","node",ANN,"behind",ANP]
abbrev Pd(ze:GL):SF :=
 (AJ (AO 3 (HB AND zm (AC (AD (.int 0)) AH)))
 (AJ (Bh (Ba (AL KO (AC (AA 0) (AC (AA 1) (AC (AA 2) AH))))) (An 4) (AJ (AO 5 (AL KN (AC (AA 2) (AC (AA 4) AH))))
 (Au (Ab (AE IN (AA 5) (AD .non))) (AJ (AO 6 (AL ze (AC (AA 0) (AC (AE Fk (AA 1) (AD (.int 1))) (AC (AA 5) AH)))))
 (Au (Ab (AE HJ (AA 6) (AD KG))) (AJ (Hl (BD (BJ [AND] ANH) (AA 3)) (AA 4) (CG (AC (BD (BJ [AND] ANE) (AA 3)) (AC (AA 6) AH))))
 (LR [AND] ANE (λi j=>i+j) (AA 3) (AE DY (AL Be (AC (AE El (BD (BJ [ANC] ANF) (AA 0)) (AA 4)) AH)) (BD (BJ [AND] ANE) (AE AU (BD (BJ [ANC] ANG) (AA 0)) (AA 6)))))) BB)) BB)))
 (AJ (Au (Ab (AE BX (BD (BJ [AND] ANE) (AA 3)) (AD (.int 0)))) (AV (AD KG)) BB)
 (AJ (DU (Bg "list" Em (BD (BJ [ANC] ANG) (AA 0)) (AC (AA 3) AH)))
 (AV (AE Fk (AL Be (AC (BD (BJ [ANC] ANG) (AA 0)) AH)) (AD (.int 1))))))))
abbrev MX(ze:GL):GL:=Aj (Pd ze) Ma 3
abbrev MU:AM4:=[ANJ,"length","rest","key"]
abbrev MS(zi4:GL):SF :=
 (AJ (Au (Ab (AE BX (AA 1) (AD (.int 0)))) (AV (AD Lj)) BB)
 (AJ (AO 3 (CG (AC (AA 1) (AC (AA 2) AH))))
 (AJ (Au (Ab (AE (Gj true) (AA 3) (BD (BJ [ANC] ANL) (AA 0)))) (Hl (BD (BJ [ANC] ANL) (AA 0)) (AA 3) (AL zi4 (AC (AA 0) (AC (AA 1) (AC (AA 2) AH))))) BB)
 (AV (AE El (BD (BJ [ANC] ANL) (AA 0)) (AA 3))))))
abbrev zi:Nat->GL
 |0=>λ_ _=>none
 |n+1=>Aj (MS (MX (zi n))) MU 3
abbrev ze:GL:=zi 5
abbrev MO:AM4:=[ANI,"examples","ordered","texts","wanted",ANJ]
abbrev PZ:SF :=
 (AJ (AO 2 (AL Kw (AC (AA 1) AH)))
 (AJ (AO 3 (Bl (Ba (AA 2)) 1 [] (An 0) Cn (AE AU (AA 0) (AD (.int 0)))))
 (AJ (AO 4 (AL Fj (AC (Bl (Ba (AA 2)) 1 [] (An 0) Cn (AE AU (AA 0) (AD (.int 1)))) AH)))
 (AJ (AO 5 (HB ANC Jm (AC (AL Fj (AC (AA 0) AH)) (AC (AL KP (AC (AA 0) (AC (AA 3) (AC (AA 4) AH)))) AH))))
 (AJ (DU (Bg "list" IP (BD (BJ [ANC] ANM) (AA 5)) (AC (Bl (Ba (AD Iu)) 1 [5,4] (An 0) Cn (AL ze (AC (AA 1) (AC (AA 0) (AC (AA 2) AH))))) AH)))
 (AV (AA 5)))))))
abbrev Im:GL:=Aj PZ MO 2
abbrev MM:AM4:=[ANJ]
abbrev PU:SF :=
 (AV (AL Kv (AC (Bl (Ba (BD (BJ [ANC] ANM) (AA 0))) 1 [0] (An 0) Cn (BD (BJ [AND] ANE) (AE AU (BD (BJ [ANC] ANG) (AA 1)) (AA 0)))) AH)))
abbrev Il:GL:=Aj PU MM 1
abbrev MK:AM4:=["find"]
abbrev PN:SF :=
 (AV (AE AU (AA 0) (AD (.int 0))))
abbrev zp:GL:=Aj PN MK 1
abbrev MI:AM4:=["finds"]
abbrev PJ:SF :=
 (AV (AL (Kx zp) (AC (AA 0) AH)))
abbrev zq:GL:=Aj PJ MI 1
abbrev MG:AM4:=["place","nth_price","kind_price"]
abbrev PC:SF :=
 (AJ (AO 1 (FE (Ab (AE BX (AL JV (AC (AE AU (AA 0) (AD (.int 1))) AH)) (AD (.int 1)))) (AD (.int 1)) (AD (.int 3))))
 (AJ (AO 2 (FE (Ab (AE BX (AE AU (AA 0) (AD (.int 0))) (AD (.str "any")))) (AD (.int 0)) (AD (.int 1))))
 (AV (AE BM (AA 1) (AA 2)))))
abbrev Ik:GL:=Aj PC MG 1
abbrev ME:AM4:=["piece","deed","deed_price"]
abbrev Ox:SF :=
 (AJ (AO 1 (AE AU (AA 0) (AD (.int 0))))
 (AJ (Au (Ab (AE BX (AA 1) (AD (.str "word")))) (AV (AE BM (AD (.int 3)) (AE DY (AD (.int 2)) (AL Be (AC (AE AU (AA 0) (AD (.int 1))) AH))))) BB)
 (AJ (AO 2 (FE (Ab (AE BX (AA 1) (AD (.str "copy")))) (AD (.int 0)) (AD (.int 2))))
 (AV (AE BM (AE BM (AA 2) (AL Ik (AC (AE AU (AA 0) (AD (.int 1))) AH))) (AL Ik (AC (AE AU (AA 0) (AD (.int 2))) AH)))))))
abbrev KM:GL:=Aj Ox ME 1
abbrev MC:AM4:=["pieces"]
abbrev Ot:SF :=
 (AV (AL zq (AC (Bl (Ba (AA 0)) 1 [] (An 0) Cn (CG (AC (AL KM (AC (AA 0) AH)) (AC (AA 0) AH)))) AH)))
abbrev KL:GL:=Aj Ot MC 1
abbrev MA:AM4:=["find","behind"]
abbrev Oo:SF :=
 (AV (CG (AC (AE BM (AE AU (AA 0) (AD (.int 0))) (AE AU (AA 1) (AD (.int 0)))) (AC (AE BM (CG (AC (AE AU (AA 0) (AD (.int 1))) AH)) (AE AU (AA 1) (AD (.int 1)))) AH))))
abbrev KJ:GL:=Aj Oo MA 2
abbrev Ly:AM4:=["node","piece_finds","finds"]
abbrev Oj:SF :=
 (AV (AL zq (AC (Bl (Hf (BD (BJ [AND] ANH) (AA 0))) 2 [1,2] (Ej 2 (Bf (An 0) (Bf (An 1) ES))) Cn (AL KJ (AC (AE El (AA 2) (AA 0)) (AC (AE AU (AA 3) (AE AU (AA 1) (AD (.int 1)))) AH)))) AH)))
abbrev KH:GL:=Aj Oj Ly 3
abbrev Lw:AM4:=[ANJ,"piece_finds",ANN,"pieces","finds","node"]
abbrev Of:SF :=
 (AJ (AO 1 Hn)
 (AJ (Bh (Hf (BD (BJ [ANC] ANF) (AA 0))) (Ej 2 (Bf (An 2) (Bf (An 3) ES))) (Hl (AA 1) (AA 2) (AL KL (AC (AA 3) AH))))
 (AJ (AO 4 (Bd (AC (CG (AC (AD (.int 0)) (AC (CG AH) AH))) (AC (AD .non) AH))))
 (AJ (Bh (Ba (Cz (BD (BJ [ANC] ANG) (AA 0)) (CT (AD (.int 2))) EK)) (An 5) (DU (Bg "list" Em (AA 4) (AC (AL KH (AC (AA 5) (AC (AA 1) (AC (AA 4) AH)))) AH))))
 (AV (AA 4))))))
abbrev KF:GL:=Aj Of Lw 1
abbrev Lu:AM4:=[ANJ,"finds","found"]
abbrev Oa:SF :=
 (AJ (AO 1 (AL KF (AC (AA 0) AH)))
 (AJ (AO 2 (AL zq (AC (Bl (Ba (BD (BJ [ANC] ANM) (AA 0))) 1 [1] (An 0) (Ab (AE IN (AE AU (AA 1) (AA 0)) (AD .non))) (AE AU (AA 1) (AA 0))) AH)))
 (AV (FE (Ab (AE Hh (AA 2) (AD .non))) (AD .non) (AE AU (AA 2) (AD (.int 1)))))))
abbrev zj:GL:=Aj Oa Lu 1
abbrev Lr:AM4:=["length","thing"]
abbrev OV:SF :=
 (AV (EX (AL Fl (AC (AA 1) (AC (AD (.ty "tuple")) AH))) (AE BX (AL Be (AC (AA 1) AH)) (AA 0))))
abbrev Ij:GL:=Aj OV Lr 2
abbrev Lp:AM4:=["thing",ANI]
abbrev OQ:SF :=
 (AV (EX (AL Fl (AC (AA 0) (AC (AD (.ty "str")) AH))) (AE (DC false) (AA 0) (AA 1))))
abbrev zf:GL:=Aj OQ Lp 2
abbrev Ln:AM4:=["thing"]
abbrev Qg:SF :=
 (AV (EX (AL Fl (AC (AA 0) (AC (AD (.ty "int")) AH))) (EX (Kl (AL Fl (AC (AA 0) (AC (AD (.ty "bool")) AH)))) (AE (DC false) (AA 0) (AD zy)))))
abbrev KB:GL:=Aj Qg Ln 1
abbrev Lk:AM4:=["thing"]
abbrev Qc:SF :=
 (AJ (Au (Ei (HA (Ab (AL Fl (AC (AA 0) (AC (AD (.ty "tuple")) AH))))) (Ab (AE HJ (AL Be (AC (AA 0) AH)) (AD (.int 3))))) (AV (AD (.bl false))) BB)
 (AV (EX (AL zf (AC (AE AU (AA 0) (AD (.int 0))) (AC (AD zx) AH))) (EX (AL KB (AC (AE AU (AA 0) (AD (.int 1))) AH)) (AL zf (AC (AE AU (AA 0) (AD (.int 2))) (AC (AD zz) AH)))))))
abbrev zr:GL:=Aj Qc Lk 1
abbrev Lh:AM4:=["thing"]
abbrev QY:SF :=
 (AV (EX (AL Ij (AC (AD (.int 3)) (AC (AA 0) AH))) (EX (AL zf (AC (AE AU (AA 0) (AD (.int 0))) (AC (AD KI) AH))) (EX (AL zr (AC (AE AU (AA 0) (AD (.int 1))) AH)) (AL zr (AC (AE AU (AA 0) (AD (.int 2))) AH))))))
abbrev Jz:GL:=Aj QY Lh 1
abbrev Le:AM4:=[ANJ,"piece"]
abbrev QU:SF :=
 (AJ (Au (Ab (AL Ij (AC (AD (.int 2)) (AC (AA 1) AH)))) (AV (EX (AL zf (AC (AE AU (AA 1) (AD (.int 0))) (AC (CG (AC (AD (.str "word")) AH)) AH))) (AL zf (AC (AE AU (AA 1) (AD (.int 1))) (AC (BD (BJ [ANC] ANI) (AA 0)) AH))))) BB)
 (AV (AL Jz (AC (AA 1) AH))))
abbrev Jx:GL:=Aj QU Le 2
abbrev Mm:AM4:=[ANJ,"row"]
abbrev QP:SF :=
 (AJ (Au (Ei (HA (Ab (AL Fl (AC (AA 1) (AC (AD (.ty "tuple")) AH))))) (Ab (AE (DC true) (AL Be (AC (AA 1) AH)) (AD Iu)))) (AV (AD (.bl false))) BB)
 (AV (AL JU (AC (Bl (Ba (AA 1)) 1 [0] (An 0) Cn (AL Jx (AC (AA 1) (AC (AA 0) AH)))) AH))))
abbrev Jv:GL:=Aj QP Mm 2
abbrev Mi:AM4:=[ANJ,"row","shorter",ANP,"node","piece","member","arm"]
abbrev QK:SF :=
 (AJ (Au (HA (Ab (AL Jv (AC (AA 0) (AC (AA 1) AH))))) (AV (AD .non)) BB)
 (AJ (AO 2 (AE Fk (AL Be (AC (AA 1) AH)) (AD (.int 1))))
 (AJ (AO 3 (AL Kv (AC (Bl (Ba (Cz (BD (BJ [ANC] ANM) (AA 0)) EK (CT (AA 2)))) 1 [0] (An 0) Cn (BD (BJ [AND] ANE) (AE AU (BD (BJ [ANC] ANG) (AA 1)) (AA 0)))) AH)))
 (AJ (AO 4 (AE AU (BD (BJ [ANC] ANG) (AA 0)) (AE AU (BD (BJ [ANC] ANM) (AA 0)) (AA 2))))
 (AJ (Bh (Ba (AA 1)) (An 5) (AJ (AO 6 (Bg "dict" LD (BD (BJ [ANC] ANK) (AA 0)) (AC (AA 5) AH)))
 (AJ (Au (Ei (Ab (AE Hh (AA 6) (AD .non))) (Ab (AE (Gj true) (AE AU (AA 6) (AD (.int 0))) (BD (BJ [AND] ANH) (AA 4))))) (AV (AD .non)) BB)
 (AJ (AO 7 (AE El (BD (BJ [AND] ANH) (AA 4)) (AE AU (AA 6) (AD (.int 0)))))
 (AJ (AO 4 (AE AU (BD (BJ [ANC] ANG) (AA 0)) (AE AU (AA 7) (AD (.int 1)))))
 (Je 3 (λi j=>i+j) (AE BM (AE AU (AA 7) (AD (.int 0))) (AE DY (AE AU (AA 6) (AD (.int 1))) (BD (BJ [AND] ANE) (AA 4))))))))))
 (AV (AA 3)))))))
abbrev Ii:GL:=Aj QK Mi 2
abbrev Mf:AM4:=["node",ANP,"found",ANN,"arm"]
abbrev QF:SF :=
 (AJ (AO 2 (AD .non))
 (AJ (Bh (Hf (BD (BJ [AND] ANH) (AA 0))) (Ej 2 (Bf (An 3) (Bf (An 4) ES))) (AJ (Au (Ab (AE GI (AE AU (AA 4) (AD (.int 0))) (AA 1))) SX BB)
 (AO 2 (AA 3))))
 (AV (AA 2))))
abbrev Js:GL:=Aj QF Mf 2
abbrev Mc:AM4:=[ANJ,"root",ANP,"pieces","node",ANN,"arm","behind","within"]
abbrev QB:SF :=
 (AJ (AO 3 (Bd AH))
 (AJ (AO 4 (AE AU (BD (BJ [ANC] ANG) (AA 0)) (AA 1)))
 (AJ (Qk (Ab (AE GI (AL LA (AC (BD (BJ [AND] ANH) (AA 4)) AH)) (AD (.int 0)))) (AJ (AO 5 (AL Js (AC (AA 4) (AC (AA 2) AH))))
 (AJ (AO 6 (AE El (BD (BJ [AND] ANH) (AA 4)) (AA 5)))
 (AJ (AO 7 (AE AU (BD (BJ [ANC] ANG) (AA 0)) (AE AU (AA 6) (AD (.int 1)))))
 (AJ (AO 8 (AE Fk (AA 2) (AE AU (AA 6) (AD (.int 0)))))
 (AJ (DU (Bg "list" Em (AA 3) (AC (AE AU (AE El (BD (BJ [ANC] ANF) (AA 0)) (AA 5)) (AE Bw (AA 8) (BD (BJ [AND] ANE) (AA 7)))) AH)))
 (AJ (AO 2 (AE BS (AA 8) (BD (BJ [AND] ANE) (AA 7))))
 (AO 4 (AA 7)))))))))
 (AV (AL Fj (AC (AA 3) AH))))))
abbrev Jq:GL:=Aj QB Mc 3
abbrev MZ:AM4:=[ANJ,ANP,"root",ANE]
abbrev Pw:SF :=
 (AJ (Au (Ab (AE gLt (AA 1) (AD (.int 0)))) RW BB)
 (AJ (Bh (Ba (BD (BJ [ANC] ANM) (AA 0))) (An 2) (AJ (AO 3 (BD (BJ [AND] ANE) (AE AU (BD (BJ [ANC] ANG) (AA 0)) (AA 2))))
 (AJ (Au (Ab (AE gLt (AA 1) (AA 3))) (AV (AL Jq (AC (AA 0) (AC (AA 2) (AC (AA 1) AH))))) BB)
 (Je 1 (λi j=>i-j) (AA 3)))))
 RW))
abbrev Ih:GL:=Aj Pw MZ 2
abbrev MW:AM4:=[ANS,ANR,ANU,"_law_examples","_law_other","_law_table","_law_turned","_law_size",ANV]
abbrev Pr:SF :=
 (AJ (IY (AL Jn (AC (AA 0) AH)) 3 (Bf (An 1) (Bf (An 2) (Bf (An 3) ES))))
 (AJ (AO 4 (AL JS (AC (AA 3) AH)))
 (AJ (Au (Ab (AE IQ (AE BS (AL zb (AC (AA 0) (AC (AD (.int 3)) AH))) (AD (.int 2))) (AD (.int 1)))) (AO 4 (AE BM (Cz (AA 3) (CT (AD (.int 1))) EK) (Cz (AA 3) EK (CT (AD (.int 1)))))) BB)
 (AJ (AO 5 (AL Im (AC (AA 1) (AC (AA 3) AH))))
 (AJ (AO 6 (AL Im (AC (AA 1) (AC (AA 4) AH))))
 (AJ (AO 7 (AL Il (AC (AA 5) AH)))
 (AJ (Au (Ei (Ab (AE Ek (AL Il (AC (AA 6) AH)) (AA 7))) (Ab (AE Ek (AL Ii (AC (AA 6) (AC (AA 2) AH))) (AL Ii (AC (AA 5) (AC (AA 2) AH)))))) (AV (AD (.bl false))) BB)
 (AJ (Au (Ab (AE Ek (AL zj (AC (AA 6) AH)) (AL zj (AC (AA 5) AH)))) (AV (AD (.bl false))) BB)
 (AJ (Au (Ab (AE IQ (AA 7) (AD (.int 0)))) (AV (AE Hh (AL zj (AC (AA 5) AH)) (AD .non))) BB)
 (AJ (Bh (Ba (Bd (AC (AE BS (AE Bw (AL zb (AC (AA 0) (AC (AD (.int 3)) AH))) (AD (.int 2))) (AA 7)) (AC (AD (.int 0)) (AC (AE Fk (AA 7) (AD (.int 1))) AH))))) (An 8) (Au (Ab (AE Ek (AL Ih (AC (AA 6) (AC (AA 8) AH))) (AL Ih (AC (AA 5) (AC (AA 8) AH))))) (AV (AD (.bl false))) BB))
 (AV (AD (.bl true)))))))))))))
abbrev Ig:GL:=Aj Pr MW 1
end L3
set_option maxHeartbeats 4000000
local macro_rules | `(tactic| wtm_at "z_lk") => `(tactic| first | (with_reducible assumption) | (with_reducible exact L3.Ac) | ((with_reducible refine L3.AT ?_); wtm_at "z_lk") | ((with_reducible refine L3.Cu ?_); wtm_at "z_lk") | fail)
local macro_rules | `(tactic| wtm_at "z_pf") => `(tactic| first | exact AR _ | assumption | ((with_reducible refine List.IsPrefix.trans ?_ (Am _ _)); wtm_at "z_pf") | ((with_reducible refine L3.NI ?_ ?_); (focus wtm_at "z_pf"); (focus (first | exact Ae _ | simp))) | fail)
local macro_rules | `(tactic| wtm_at "z_1") => do let k1 := Lean.mkIdent `k1; let k2 := Lean.mkIdent `k2; let k3 := Lean.mkIdent `k3; let f := fun (t : Lean.TSyntax `tactic) (s : String) (ks : Array Lean.Ident) (xs : List (Lean.TSyntax `tactic)) => (do let ks ← ks.mapM fun k => `(?$k:ident); let y ← (s.splitOn " ").foldr (fun n t => do let t ← t; `(tactic| first | refine' $(Lean.mkCIdent (.str `L3 n)) $ks* ?_ | $t:tactic)) `(tactic| fail); let y ← `(tactic| with_reducible $y:tactic); let y ← xs.foldlM (fun y x => `(tactic| ($y:tactic; $x:tactic))) y; `(tactic| first | $y:tactic | $t:tactic) : Lean.MacroM (Lean.TSyntax `tactic)); let x0 := fun (k : Lean.Ident) => `(tactic| (case $k:ident => first | rfl | assumption | decide | omega | (simp only [DQ, List.length_nil]; omega))); let x1 := fun (k : Lean.Ident) => `(tactic| (case $k:ident => first | decide | omega)); let x2 := fun (k : Lean.Ident) => `(tactic| (case $k:ident => wtm_at "z_lk")); let x3 := fun (k : Lean.Ident) => `(tactic| (case $k:ident => with_unfolding_all rfl)); let x4 := fun (k : Lean.Ident) => `(tactic| (case $k:ident => (first | with_unfolding_all rfl | (refine L3.ty_of_lst (xs := ?y1) ?y2; (case y2 => wtm_at "z_lk")) | (refine L3.ty_of_dk (xs := ?y1) ?y2; (case y2 => wtm_at "z_lk"))))); let x5 := fun (k : Lean.Ident) => `(tactic| (case $k:ident => first | rfl | (unfold L3.LM; rw [Bn]; constructor <;> refine decide_eq_true ?_ <;> omega))); let x6 := fun (k : Lean.Ident) => `(tactic| (case $k:ident => first | rfl | (unfold L3.Nu; refine decide_eq_true ?_; omega))); let t ← `(tactic| fail); let t ← f t "ALM" #[k1] [(← x0 k1)]; let t ← f t "ALL" #[k1] [(← x0 k1)]; let t ← f t "AIt AIs" #[k1] [(← x1 k1)]; let t ← f t "" #[k1, k2, k3] [(← x2 k1), (← x2 k2), (← x3 k3)]; let t ← f t "Ry AFj" #[k1, k2] [(← x2 k1), (← x3 k2)]; let t ← f t "AKr AIS AJ6 AJ1" #[k1] [(← x2 k1)]; let t ← f t "AKE XN" #[k1, k2, k3] [(← x2 k1), (← x3 k2), (← x3 k3)]; let t ← f t "AIQ" #[k1, k2] [(← x2 k1), (← x3 k2)]; let t ← f t "FG" #[k1, k2, k3] [(← x3 k1), (← x4 k2), (← x3 k3)]; let t ← f t "Rx" #[k1, k2, k3] [(← x3 k1), (← x4 k2), (← x3 k3)]; let t ← f t "AJ4 UV AHt AJo AJs AJb" #[k1] [(← x2 k1)]; let t ← f t "AFi" #[k1] [(← x5 k1)]; let t ← f t "XS" #[k1] [(← x6 k1)]; let t ← f t "UR AHz AE0 AJ7 Rw AIP AHn" #[k1] [(← x3 k1)]; let t ← f t "Kb Mp AHh AHd AHg AHj AHi AHl Ql Qm AIK AII AAc AIL AID AIO AIB AH8 AH7 AAd AIF AIH AIN AIA AIC AH9 AIE AIM AH6 AIJ AHy AHq AHs AHr AHx AKN ALE ALK ALF ALI ALJ ALG ALH AJe AJd AIR AAV AH0 AH1 AFl AJp AJw AJ0 AKC AKD AKH AKF AJy AJx AKG AJ9 AJ8 AKB AJr AJ3 AJ2 AJ5 AKI AJz AKA AJt AJv AJu AHf AHo AHe AIG AHm AAe AHk AHv AHu AHw AHp AJq AKK AKJ" #[] []; return t
local macro_rules | `(tactic| rfl') => `(tactic| wtm_at "z")
local macro_rules | `(tactic| wtm_at "z") => `(tactic| repeat' (wtm_at "z_1"))
namespace L3
open PySem PySem.Spec PyProof.Rows L2
abbrev LW(n:Int):Prop:=n=1\/n=2\/n=-1\/n=-2
abbrev Du(d:D):Prop:=∃(kind:Str) (nth:Int) (edge:Str),d=.tup [.str kind,.int nth,.str edge]/\LW nth/\(edge = "ahead"\/edge = "behind")/\kind∈([("small":Str),"great","figure","mark","any"]:AM4)
def Ho{Q:ANb}{L:AB}{ns:ANA}(hb:∀z∈ns,Builtin.Int.intBits z<=1048576)(hn:ns.length<=63){k:Int}(h0:0<=k)(h1:k<1000)(q:∀v:Int,0<=v->v<10000000000000000000000000000000000000000->Q (.int v) L):W2 (zb [.fz (ns.map .int),.int k] L) Q:=by
 have hC:Builtin.Int.intBits 2718281828459045235360287471352662497757<=132:=by decide
 have hlen:((ns.map D.int).length:Int)=ns.length:=by simp
 unfold zb;refine BR rfl ?_;unfold PD;have fin:∀x:Int,0<=x % 10000000000000000000000000000000000000000/\x % 10000000000000000000000000000000000000000<10000000000000000000000000000000000000000:=λx=>⟨GW _ (by decide),GY _ (by decide)⟩;rfl';refine BU (λhk=>?_) (λhk=>?_)
 .obtain⟨z,hz,ez⟩:=Ya h0 (hlen▸hk);rfl';refine XT ez ?_;rfl';refine FF (WC (m:=1048577) (PySem.intBits_add_le (m:=1048576) (n:=13) (hb z hz) (by decide)) hC (by decide)) ?_;rfl';exact⟨rfl,AR _,q _ (fin _).1 (fin _).2⟩
 .rfl'
  have hkk:0<=k*k/\k*k<=1000000:=by have a1:k*k<=1000*1000:=Int.mul_le_mul (by omega) (by omega) h0 (by omega);exact⟨Int.mul_nonneg h0 h0,by omega⟩
  refine FF (JG (by omega)) ?_;rfl';refine FF (RY (by omega)) ?_;rfl'
  have rest:∀v:Int,0<=v->v<100000000000000000000000000000000000000000000000->cMul v v=true/\∀x:Int,cMul (x % 2147483629) 2718281828459045235360287471352662497757=true:=λv a b=>by
   have hv:Builtin.Int.intBits v<=160:=AGs (by
    have:(v.natAbs:Int)<((2 ^ 160:Nat):Int):=by
     have e:((2 ^ 160:Nat):Int)=1461501637330902918203684832716283019655932542976:=by decide
     rw[e];omega
    exact Int.ofNat_lt.mp this)
   refine⟨WC hv hv (by decide),λx=>JG ?_⟩;have:=GW x (b:=2147483629) (by decide);have:=GY x (b:=2147483629) (by decide);omega
  refine BU (λhl=>?_) (λhl=>?_)
  .have hpos:0<(ns.length:Int):=by omega
   rfl';refine FF (RY (by omega)) ?_;rfl';obtain⟨z,hz,ez⟩:=Ya (ns:=ns) (k:=k*7 % ((ns.map D.int).length:Int)) (GW _ (by omega)) (by have:=GY (k*7) (b:=((ns.map D.int).length:Int)) (by omega);omega);refine XT ez ?_;rfl';refine FF (RY (by omega)) ?_;have hr:=fin z;rfl';obtain⟨f1,f2⟩:=rest (k*k*7919+5+z % 10000000000000000000000000000000000000000*48271) (by omega) (by omega);refine FF f1 ?_;rfl';refine FF (f2 _) ?_;rfl';exact⟨rfl,AR _,q _ (fin _).1 (fin _).2⟩
  .rfl';obtain⟨f1,f2⟩:=rest (k*k*7919+5) (by omega) (by omega);refine FF f1 ?_;rfl';refine FF (f2 _) ?_;rfl';exact⟨rfl,AR _,q _ (fin _).1 (fin _).2⟩
def Gd{L:AB}{Q:ANb}{k:Nat}{xs:List D}{n:Int}(c:Int)(e:L[k]?=some (.lst xs))(h0:0<n)(h:n<=xs.length)(q:∀d∈xs,Q d L):W2 (AU (.ref k) (.int (c % n)) L) Q:=by obtain⟨d,hd,e2⟩:=Nw (xs:=xs) c h0 h;exact DB e e2 (q d hd)
def WP{Q:ANb}{L:AB}(c:Int)(q:∀p,Du p->Q p L):W2 (Iq [.int c] L) Q:=by
 unfold Iq;refine BR rfl ?_;unfold Pe;rfl';refine Gd c Ac (by decide) (by decide) λd hd=>?_;rfl';refine Gd (c / 5) Ac (by decide) (by decide) λd2 hd2=>?_;rfl';refine Gd (c / 20) Ac (by decide) (by decide) λd3 hd3=>?_;rfl';simp only[Aa,Dw,or_false] at hd hd2 hd3
 have hk:∃kind:Str,d=.str kind/\kind∈([("small":Str),"great","figure","mark","any"]:AM4):=by
  rcases hd with rfl|rfl|rfl|rfl|rfl
  .exact⟨_,rfl,by decide⟩
  .exact⟨_,rfl,by decide⟩
  .exact⟨_,rfl,by decide⟩
  .exact⟨_,rfl,by decide⟩
  .exact⟨_,rfl,by decide⟩
 have hn:∃n:Int,d2=.int n/\LW n:=by
  rcases hd2 with rfl|rfl|rfl|rfl
  .exact⟨_,rfl,.inl rfl⟩
  .exact⟨_,rfl,.inr (.inl rfl)⟩
  .exact⟨_,rfl,.inr (.inr (.inl rfl))⟩
  .exact⟨_,rfl,.inr (.inr (.inr rfl))⟩
 have he:∃e:Str,d3=.str e/\(e = "ahead"\/e = "behind"):=by
  rcases hd3 with rfl|rfl
  .exact⟨_,rfl,.inl rfl⟩
  .exact⟨_,rfl,.inr rfl⟩
 obtain⟨kind,rfl,hk⟩:=hk;obtain⟨n,rfl,hn⟩:=hn;obtain⟨e,rfl,he⟩:=he;exact⟨rfl,by wtm_at "z_pf",q _ ⟨kind,n,e,rfl,hn,he,hk⟩⟩
def WM{Q:ANb}{L:AB}(c most:Int)(h0:0<=most)(h1:most<=100)(q:∀t:Str,BF t->(t.length:Int)<=most->Q (.str t) L):W2 (Ir [.int c,.int most] L) Q:=by
 unfold Ir;refine BR rfl ?_;unfold Po;have hS:("abcdefghijklmnopqrstuvwxyzABCDEFGHIJKLMNOPQRSTUVWXYZ0123456789 -.,/":Str)=Sc:=rfl;rw[hS];have hz1:0<=c % (most+1):=GW _ (by omega);have hz2:c % (most+1)<most+1:=GY _ (by omega);rfl';refine Gd _ Ac (by decide) (by decide) λd hd=>?_
 have hd':∃m:Str,d=.str m/\BF m/\0<m.length/\m.length<=67:=by simp only[Aa,Dw,or_false] at hd;rcases hd with rfl|rfl|rfl|rfl <;> exact⟨_,rfl,by decide +kernel,by decide +kernel,by decide +kernel⟩
 obtain⟨m,rfl,hm1,hm2,hm3⟩:=hd';rfl';generalize hL:L++[Ob.lst [D.str "abAB12 -",D.str "aB 1",D.str "aab",D.str Sc]]=L1;have hpre:L <+: L1:=by rw[<-hL];exact Am _ _
 refine Ce (λj ρ L'=>L'=L1/\∃(c':Int) (t:Str) (a:Option D),ρ=[some (.int c'),some (.int most),some (.str Sc),some (.str m),some (.int (c % (most+1))),some (.str t),a]/\BF t/\t.length<=j) _ 0 _ _ ⟨rfl,_,_,_,rfl,by decide,by decide⟩ ?_ ?_
 .rintro i x ρ L' hx ⟨rfl,c',t,a,rfl,ht1,ht2⟩;obtain⟨hi,rfl⟩:=NE hx;refine⟨rfl,?_⟩;rfl';obtain⟨k,hk1,hk2⟩:=Nw (xs:=m.cps.toList) (n:=(m.length:Int)) c' (by omega) (by simp[Str.length]);refine Rw hk2 ?_;have hone:(⟨#[k]⟩:Str).length=1:=rfl;refine Nl (by rw[hone];omega) ?_;rfl';refine⟨rfl,_,_,_,rfl,ht1.app (.one (hm1 _ hk1)),?_⟩;rw[OA,hone];omega
 .rintro ρ L' ⟨rfl,c',t,a,rfl,ht1,ht2⟩;refine⟨rfl,?_⟩;rfl';rw[Gz] at ht2;exact⟨rfl,hpre,q t ht1 (by omega)⟩
abbrev Da(ws:AM4):Prop:=ws.Nodup/\(∀w∈ws,BF w/\0<w.length/\w.length<=8)/\ws.length<=6
def Nd(w:Str):∀ws:AM4,DT (.str w) (ws.map D.str)=decide (w∈ws)
 |[]=>by simp[DT]
 |x::xs=>by
  have ih:=Nd w xs;unfold DT at ih ⊢;rw[Ak,ALZ,ih]
  have e:JX (.str x) (.str w)=decide (w=x):=by
   show(x == w)=decide (w=x)
   by_cases h:w=x
   .subst h;simp
   .have:¬x=w:=λz=>h z.symm;simp[h,this]
  rw[e]
  by_cases h:w=x <;> simp[h]
def SI(ws:AM4):(ws.map D.str).all BC=true:=by rw[List.all_map,CF];exact λ_ _=>rfl
def Uv{t:Str}(h:t≠""):0<t.length:=by
 rcases Nat.eq_zero_or_pos t.length with h0|h0
 .exfalso;apply h;obtain⟨a⟩:=t;have:a=#[]:=Array.eq_empty_of_size_eq_zero h0;subst this;rfl
 .exact h0
def Wk{L L':AB}{o:Ob}(h:DG L.length (L++[o]) L'):L <+: L':=by rw[List.prefix_iff_getElem?];intro j hj;rw[h.2 j (by omega) (by simp;omega),Ee hj];simp[hj]
def AEd{Q:ANb}{L:AB}(c:Int)(q:∀ws L',Da ws->L <+: L'->L'[L.length]?=some (.lst (ws.map D.str))->Q (.ref L.length) L'):W2 (KC [.int c] L) Q:=by
 unfold KC;refine Fb rfl ?_;unfold Pj;have m5:=GW c (b:=5) (by decide);have m5':=GY c (b:=5) (by decide);have m2:=GW c (b:=2) (by decide);have m2':=GY c (b:=2) (by decide);refine Kb (Mp (AAd (AAc (AE0 rfl ?_))));refine Kb (Mp (Qm (UR rfl (Ql (XS rfl ?_)))));refine Bk (λρ L'=>L'=L++[.lst []]/\∃n:Int,0<=n/\n<=6/\ρ=[some (.int c),some (.ref L.length),some (.int n),none,none,none]) ?_ ?_
 .rfl';refine BU (λh=>?_) (λh=>?_)
  .rfl';exact⟨rfl,_,by omega,by omega,rfl⟩
  .rfl';exact⟨rfl,_,m5,by omega,rfl⟩
 rintro ρ L' ⟨rfl,n,hn0,hn6,rfl⟩;rfl';refine Ce (λj ρ L'=>∃(ws:AM4) (p:Int) (a b:Option D),ρ=[some (.int c),some (.ref L.length),some (.int n),some (.int p),a,b]/\DG L.length (L++[.lst []]) L'/\L'[L.length]?=some (.lst (ws.map D.str))/\ws.Nodup/\(∀w∈ws,BF w/\0<w.length/\w.length<=8)/\ws.length<=j) _ 0 _ _ ⟨[],_,none,none,rfl,.refl _ _,Ac,ALb,λ_ h=>(nomatch h),Ae _⟩ ?_ ?_
 .rintro i x ρ L' hx ⟨ws,p,a,b,rfl,hkp,hg,hnd,hw,hl⟩;obtain⟨hi,rfl⟩:=NE hx;refine⟨rfl,AAV ?_⟩;refine Bk (λρ L2=>DG L.length (L++[.lst []]) L2/\L2[L.length]?=some (.lst (ws.map D.str))/\∃t:Str,BF t/\t.length<=8/\ρ=[some (.int c),some (.ref L.length),some (.int n),some (.int p),some (.int (0+(i:Int))),some (.str t)]) ?_ ?_
  .rfl';refine Gd _ Ac (by decide) (by decide) λd hd=>?_
   have hd':∃m:Int,d=.int m/\0<=m/\m<=8:=by simp only[Aa,Dw,or_false] at hd;rcases hd with rfl|rfl|rfl|rfl <;> exact⟨_,rfl,by decide,by decide⟩
   obtain⟨m,rfl,hm0,hm8⟩:=hd';rfl';refine WM _ _ hm0 (by omega) λt ht1 ht2=>?_;exact⟨hkp.trans (.app _ _ _),AT hg,t,ht1,by omega,rfl⟩
  rintro ρ L2 ⟨hkp2,hg2,t,ht1,ht2,rfl⟩;refine Bk (λρ L3=>L3=L2/\∃t:Str,BF t/\t.length<=8/\ρ=[some (.int c),some (.ref L.length),some (.int n),some (.int p),some (.int (0+(i:Int))),some (.str t)]) ?_ ?_
  .rfl';refine BU (λh=>?_) (λh=>?_)
   .rfl';exact⟨rfl,_,ht1.slice _ _,CD (Txt.slice_le _ _ _) ht2,rfl⟩
   .rfl';exact⟨rfl,t,ht1,ht2,rfl⟩
  clear ht1 ht2 t;rintro ρ L3 ⟨rfl,t,ht1,ht2,rfl⟩;refine Bk (λρ L4=>L4=L3/\∃t:Str,BF t/\t.length<=8/\0<t.length/\ρ=[some (.int c),some (.ref L.length),some (.int n),some (.int p),some (.int (0+(i:Int))),some (.str t)]) ?_ ?_
  .rfl';refine BU (λh=>?_) (λh=>?_)
   .rfl';exact⟨rfl,"-",by decide +kernel,by decide,by decide,rfl⟩
   .rfl';exact⟨rfl,t,ht1,ht2,Uv h,rfl⟩
  clear ht1 ht2 t;rintro ρ L4 ⟨rfl,w,hw1,hw2,hw3,rfl⟩;rfl';refine Rv hg2 (by rw[SI];rfl) ?_;rw[Nd];rfl';refine BU (λhm=>?_) (λhm=>?_)
  .rfl';exact⟨ws,_,_,_,rfl,hkp2,hg2,hnd,hw,by omega⟩
  .rfl';refine Gi hg2 (by simp;omega) ?_;rfl';refine⟨ws++[w],_,_,_,rfl,hkp2.trans (.set _ _ _),?_,?_,λy hy=>?_,by simp;omega⟩
   .rw[Cu hg2];simp
   .rw[ALa];refine⟨hnd,by simp,λa ha b hb=>?_⟩;have:b=w:=by simpa using hb
    rw[this];rintro rfl;exact hm ha
   .rcases Bx.mp hy with h|h
    .exact hw y h
    .have:y=w:=by simpa using h
     rw[this];exact⟨hw1,hw3,hw2⟩
 .rintro ρ L' ⟨ws,p,a,b,rfl,hkp,hg,hnd,hw,hl⟩;refine⟨rfl,?_⟩;rw[Gz] at hl;rfl';refine⟨rfl,q ws L' ⟨hnd,hw,by omega⟩ (Wk hkp) hg⟩
abbrev Hd(s:Str):D:=if Gf s "abcdefghijklmnopqrstuvwxyz"=true then .str "small" else if Gf s "ABCDEFGHIJKLMNOPQRSTUVWXYZ"=true then .str "great" else if Gf s "0123456789"=true then .str "figure" else if Gf s " -.,/"=true then .str "mark" else .non
def AE4{Q:ANb}{L:AB}(s:Str)(h:Q (Hd s) L):W2 (KZ [.str s] L) Q:=by
 unfold KZ;refine BR rfl ?_;unfold Hd at h;simp only[Qh,Lm];rfl';refine HQ rfl ?_;rfl';refine Go (λh1=>?_) (λh1=>?_)
 .rw[if_pos h1] at h;rfl';exact⟨rfl,AR _,h⟩
 rw[if_neg (by simp[h1])] at h;rfl';refine HQ rfl ?_;rfl';refine Go (λh1=>?_) (λh1=>?_)
 .rw[if_pos h1] at h;rfl';exact⟨rfl,AR _,h⟩
 rw[if_neg (by simp[h1])] at h;rfl';refine HQ rfl ?_;rfl';refine Go (λh1=>?_) (λh1=>?_)
 .rw[if_pos h1] at h;rfl';exact⟨rfl,AR _,h⟩
 rw[if_neg (by simp[h1])] at h;rfl';refine HQ rfl ?_;rfl';refine Go (λh1=>?_) (λh1=>?_)
 .rw[if_pos h1] at h;rfl';exact⟨rfl,AR _,h⟩
 rw[if_neg (by simp[h1])] at h;rfl';refine UP rfl ?_;rfl';exact⟨rfl,AR _,h⟩
abbrev FD(kind s:Str):Bool:=decide (kind = "any") || decide (Hd s=.str kind)
def AE6(s:Str):Hd s=.non\/∃k,Hd s=.str k:=by
 unfold Hd
 repeat' split
 all_goals first|exact .inl rfl|exact .inr ⟨_,rfl⟩
def AFL{Q:ANb}{L:AB}(kind s:Str)(h:Q (.bl (FD kind s)) L):W2 (KY [.str kind,.str s] L) Q:=by
 unfold KY;refine BR rfl ?_;unfold Qd;rfl';refine BU (λh1=>?_) (λh1=>?_)
 .have e:FD kind s=true:=by simp[FD,h1]
  rw[e] at h;exact⟨rfl,AR _,h⟩
 .rfl';refine AE4 _ ?_;have e:FD kind s=decide (Hd s=.str kind):=by simp[FD,h1]
  rw[e] at h;rcases AE6 s with e|⟨k,e⟩
  .rw[e] at h ⊢;rfl';rw[decide_eq_false (by intro z;cases z)] at h;exact⟨rfl,AR _,h⟩
  .rw[e] at h ⊢;rfl';rw[IT (show D.str k=D.str kind↔k=kind by simp)] at h;exact⟨rfl,AR _,h⟩
abbrev nums(p:Nat->Bool)(n:Nat):ANA:=(List.range n).filterMap λ(i:Nat)=>if p i=true then some (i:Int) else none
def AEB{p q:Nat->Bool}{n:Nat}(h:∀i,i<n->p i=q i):nums p n=nums q n:=by unfold nums;apply LF;intro i hi;rw[h i (CM.mp hi)]
def AEA{p:Nat->Bool}{n:Nat}{z:Int}(h:z∈nums p n):0<=z/\z<n:=by
 unfold nums at h;rw[ALz] at h;obtain⟨i,hi,h⟩:=h;have:=CM.mp hi;split at h
 .cases h;omega
 .cases h
abbrev Gb(ns:ANA)(nth:Int)(b:Bool):Option D:=if (ns.length:Int)<(if nth<0 then -nth else nth) then some .non else (atI ns (if nth>0 then nth-1 else nth)).map λi=>.int (if b then i+1 else i)
def VA{Q:ANb}{L:AB}{kind edge y:Str}{nth:Int}{d:D}(hy:y.length<=1000)(e:Gb (nums (λi=>FD kind (sg y i)) y.cps.size) nth (!decide (edge = "ahead"))=some d)(h:Q d L):W2 (zo [.tup [.str kind,.int nth,.str edge],.str y] L) Q:=by
 unfold zo;refine BR rfl ?_;unfold QZ;rfl';have hy':y.cps.size<=1000:=hy;rw[AGC]
 refine Mr (λρ=>∃a b,ρ=[a,b,some (.str kind)]) (λx=>match x with|.tup [.int i,.str s]=>if FD kind s=true then some (.int i) else none|_=>none) _ _ ⟨none,none,rfl⟩ (by simp;omega) ?_ ?_
 .rintro x hx ρ ⟨a,b,rfl⟩;rw[BA] at hx;obtain⟨i,_,rfl⟩:=hx;rfl';refine⟨⟨_,_,rfl⟩,λacc=>?_⟩;rfl';refine AFL _ _ ?_;rfl';refine⟨rfl,Go (λh=>?_) (λh=>?_)⟩
  .rfl';exact⟨rfl,if_pos h⟩
  .exact if_neg (by rw[h];exact Bz)
 have ef:AL4 (λx=>match x with|D.tup [.int i,.str s]=>if FD kind s=true then some (D.int i) else none|_=>none) ((List.range y.cps.size).map λ(i:Nat)=>D.tup [.int (i:Int),.str (sg y i)])=(nums (λi=>FD kind (sg y i)) y.cps.size).map D.int:=by rw[List.filterMap_map];unfold nums;rw[List.map_filterMap];apply LF;intro i _;simp only[Function.comp];split <;> simp
 rw[ef];generalize nums (λi=>FD kind (sg y i)) y.cps.size=ns at e ⊢;have hl:((ns.map D.int).length:Int)=ns.length:=by simp
 unfold Gb at e;rfl';rw[hl];refine BU (λhlt=>?_) (λhlt=>?_)
 .rw[if_pos hlt] at e;cases e;rfl';exact⟨rfl,Am _ _,h⟩
 .rw[if_neg hlt] at e;rfl';obtain⟨i,q,e⟩:=mS e;cases e
  have q2:atI (ns.map D.int) (if nth>0 then nth-1 else nth)=some (.int i):=by rw[YZ,q];rfl
  refine BU (λhp=>?_) (λhp=>?_)
  .rw[if_pos hp] at q2;rfl';refine DB Ac q2 ?_;rfl';refine BU (λhe=>?_) (λhe=>?_)
   .rfl';rw[decide_eq_true he] at h;exact⟨rfl,Am _ _,h⟩
   .rfl';rw[decide_eq_false he] at h;exact⟨rfl,Am _ _,h⟩
  .rw[if_neg hp] at q2;rfl';refine DB Ac q2 ?_;rfl';refine BU (λhe=>?_) (λhe=>?_)
   .rfl';rw[decide_eq_true he] at h;exact⟨rfl,Am _ _,h⟩
   .rfl';rw[decide_eq_false he] at h;exact⟨rfl,Am _ _,h⟩
abbrev NY(s:Str):Str:=if Txt.islower s=true then "small" else if Txt.isupper s=true then "great" else if Txt.isdigit s=true then "figure" else "mark"
def AEj{Q:ANb}{L:AB}(s:Str)(h:Q (.str (NY s)) L):W2 (Jy [.str s] L) Q:=by
 unfold Jy;refine BR rfl ?_;unfold Pa;unfold NY at h;rfl';refine Go (λh1=>?_) (λh1=>?_)
 .rw[if_pos h1] at h;rfl';exact⟨rfl,AR _,h⟩
 rw[if_neg (by simp[h1])] at h;rfl';refine Go (λh1=>?_) (λh1=>?_)
 .rw[if_pos h1] at h;rfl';exact⟨rfl,AR _,h⟩
 rw[if_neg (by simp[h1])] at h;rfl';refine Go (λh1=>?_) (λh1=>?_)
 .rw[if_pos h1] at h;rfl';exact⟨rfl,AR _,h⟩
 rw[if_neg (by simp[h1])] at h;rfl';exact⟨rfl,AR _,h⟩
def AE3:∀c∈LK,Hd ⟨#[c]⟩=.str (NY ⟨#[c]⟩):=by decide +kernel
abbrev Dm(kind s:Str):Bool:=decide (kind = "any") || decide (NY s=kind)
def Vu{y:Str}(h:BF y)(kind:Str):nums (λi=>FD kind (sg y i)) y.cps.size=nums (λi=>Dm kind (sg y i)) y.cps.size:=by apply AEB;intro i hi;unfold FD Dm sg;rw[AE3 _ (h.at hi)];simp
def ABk{y:Str}{i:Nat}(hi:i<y.cps.size):atI y.cps.toList (i:Int)=some (y.cps.getD i 0):=by apply DZ;simp[hi,Array.getD]
def WN{Q:ANb}{L:AB}{kind edge y:Str}{nth:Int}{d:D}(hy:y.length<=1000)(e:Gb (nums (λi=>Dm kind (sg y i)) y.cps.size) nth (decide (edge = "behind"))=some d)(h:Q d L):W2 (zg [.tup [.str kind,.int nth,.str edge],.str y] L) Q:=by
 unfold zg;refine BR rfl ?_;unfold PV;have hy':y.cps.size<=1000:=hy;have hyl:(y.length:Int)=(y.cps.size:Int):=rfl;rfl';rw[hyl,ALW,AB9]
 refine Mr (λρ=>∃a,ρ=[a,some (.str kind),some (.str y)]) (λx=>match x with|.int i=>if Dm kind (sg y i.toNat)=true then some (.int i) else none|_=>none) _ _ ⟨none,rfl⟩ (by simp;omega) ?_ ?_
 .rintro x hx ρ ⟨a,rfl⟩;rw[BA] at hx;obtain⟨i,hi,rfl⟩:=hx;have hi':=CM.mp hi;have hat:atI y.cps.toList (i:Int)=some (y.cps.getD i 0):=ABk hi';rfl';refine⟨⟨_,rfl⟩,λacc=>?_⟩;rfl';refine BU (λh1=>?_) (λh1=>?_)
  .rfl';refine⟨rfl,?_⟩;rfl';exact⟨rfl,if_pos (by rw[ALW];simp[Dm,h1])⟩
  .rfl';refine Rw hat ?_;rfl';refine AEj _ ?_;rfl';refine⟨rfl,BU (λh2=>?_) (λh2=>?_)⟩
   .rfl';exact⟨rfl,if_pos (by rw[ALW];unfold Dm sg;rw[decide_eq_true h2];simp)⟩
   .exact if_neg (by rw[ALW];unfold Dm sg;rw[decide_eq_false h2,decide_eq_false h1];simp)
 have ef:AL4 (λx=>match x with|D.int i=>if Dm kind (sg y i.toNat)=true then some (D.int i) else none|_=>none) ((List.range y.cps.size).map λ(i:Nat)=>D.int (i:Int))=(nums (λi=>Dm kind (sg y i)) y.cps.size).map D.int:=by rw[List.filterMap_map];unfold nums;rw[List.map_filterMap];apply LF;intro i _;simp only[Function.comp,ALW];split <;> simp
 rw[ef];generalize nums (λi=>Dm kind (sg y i)) y.cps.size=ns at e ⊢;have hl:((ns.map D.int).length:Int)=ns.length:=by simp
 unfold Gb at e;rfl';rw[hl];refine BU (λhlt=>?_) (λhlt=>?_)
 .rw[if_pos hlt] at e;cases e;rfl';exact⟨rfl,Am _ _,h⟩
 .rw[if_neg hlt] at e;rfl';obtain⟨i,q,e⟩:=mS e;cases e
  have q2:atI (ns.map D.int) (if nth>0 then nth-1 else nth)=some (.int i):=by rw[YZ,q];rfl
  have fin:(D.int (i+if decide (edge = "behind")=true then 1 else 0))=.int (if decide (edge = "behind")=true then i+1 else i):=by split <;> simp
  refine BU (λhp=>?_) (λhp=>?_)
  .rw[if_pos hp] at q2;rfl';refine DB Ac q2 ?_;rfl';rw[fin];exact⟨rfl,Am _ _,h⟩
  .rw[if_neg hp] at q2;rfl';refine DB Ac q2 ?_;rfl';rw[fin];exact⟨rfl,Am _ _,h⟩
def NA(p:Nat->Bool)(m:Nat){n:Int}(hn:LW n)(b:Bool):∃d,Gb (nums p m) n b=some d/\(d=.non\/∃i:Int,d=.int i/\0<=i/\i<=m):=by
 unfold Gb
 by_cases hlt:((nums p m).length:Int)<(if n<0 then -n else n)
 .rw[if_pos hlt];exact⟨_,rfl,.inl rfl⟩
 .rw[if_neg hlt]
  obtain⟨v,hv⟩:∃v,atI (nums p m) (if n>0 then n-1 else n)=some v:=YX (by
   rcases hn with rfl|rfl|rfl|rfl <;> simp at hlt ⊢ <;> omega)
  rw[hv];have:=AEA (YY hv);refine⟨_,rfl,.inr ⟨_,rfl,?_⟩⟩;cases b <;> simp <;> omega
def AIa{y:Str}{p:D}(hy:y.length<=1000)(hs:BF y)(hp:Du p):∃d,(d=.non\/∃i:Int,d=.int i/\0<=i/\i<=y.cps.size)/\(∀{Q:ANb} {L:AB},Q d L->W2 (zo [p,.str y] L) Q)/\(∀{Q:ANb} {L:AB},Q d L->W2 (zg [p,.str y] L) Q):=by
 obtain⟨kind,nth,edge,rfl,hn,he,_⟩:=hp;obtain⟨d,h1,h2⟩:=NA (λi=>FD kind (sg y i)) y.cps.size hn (!decide (edge = "ahead"));refine⟨d,h2,λ{Q L} h=>VA hy h1 h,λ{Q L} h=>WN hy ?_ h⟩;rw[<-Vu hs];have e:(decide (edge = "behind"))=!decide (edge = "ahead"):=by rcases he with rfl|rfl <;> decide
 rw[e];exact h1
abbrev La(s:Str):Prop:=s = "copy"\/s = "raise"\/s = "sink"
abbrev FS(d:D):Prop:=(∃w:Str,d=.tup [.str "word",.str w]/\BF w/\w.length<=8/\0<w.length)\/(∃(deed:Str) (p q:D),d=.tup [.str deed,p,q]/\La deed/\Du p/\Du q)
def Du.noRef{p:D}(h:Du p):p.noRef=true:=by obtain⟨_,_,_,rfl,_⟩:=h;rfl
def FS.noRef{p:D}(h:FS p):p.noRef=true:=by
 rcases h with⟨w,rfl,_⟩|⟨deed,p,q,rfl,_,hp,hq⟩
 .rfl
 .simp[D.noRef,D.noRefL,hp.noRef,hq.noRef]
def AGZ:∀c∈LK,c<128:=by decide
def BF.ascii{x:Str}(h:BF x):∀c∈x.cps.toList,c<128:=λc hc=>AGZ c (h c hc)
def Qq{x:Str}(h:BF x):(Txt.upper x).length=x.length:=by rw[upper_ascii h.ascii];show(x.cps.map _).size=x.cps.size;simp
def Rc{x:Str}(h:BF x):(Txt.lower x).length=x.length:=by rw[lower_ascii h.ascii];show(x.cps.map _).size=x.cps.size;simp
def Us:∀{xs:List D} {ys:AM4},CA xs=some ys->ys.length=xs.length
 |[],ys,h=>by cases h;rfl
 |x::xs,ys,h=>by
  cases x with
  |str s =>
   simp only[CA] at h
   cases e:CA xs with
   |none=>rw[e] at h;cases h
   |some a=>rw[e] at h;cases h;simp[Us e]
  |_=>simp[CA] at h
def Ut:∀{xs:List D} {ys:AM4} {P:Str->Prop},CA xs=some ys->(∀s,D.str s∈xs->P s)->∀y∈ys,P y
 |[],ys,P,h,_=>by cases h;exact λ_ hy=>(nomatch hy)
 |x::xs,ys,P,h,hP=>by
  cases x with
  |str s =>
   simp only[CA] at h
   cases e:CA xs with
   |none=>rw[e] at h;cases h
   |some a =>
    rw[e] at h;cases h;intro y hy;rcases Aa.mp hy with rfl|hy
    .exact hP y Aw
    .exact Ut e (λs hs=>hP s (Ax _ hs)) y hy
  |_=>simp[CA] at h
def Rp:∀{xs:List D},(∀d∈xs,d=.non\/∃t,d=.str t)->DT .non xs=(CA xs).isNone
 |[],_=>rfl
 |x::xs,h=>by
  have ih:=Rp λd hd=>h d (Ax _ hd);rcases h x Aw with rfl|⟨t,rfl⟩
  .rfl
  .have:DT .non (.str t::xs)=DT .non xs:=rfl;rw[this,ih];simp only[CA];cases CA xs <;> rfl
abbrev Di(p:D)(y:Str):D:=match p with
 |.tup [.str kind,.int nth,.str edge]=>(Gb (nums (λi=>Dm kind (sg y i)) y.cps.size) nth (decide (edge = "behind"))).getD .non
 |_=>.non
def Kg{kind edge y:Str}{nth:Int}:Di (.tup [.str kind,.int nth,.str edge]) y=(Gb (nums (λi=>Dm kind (sg y i)) y.cps.size) nth (decide (edge = "behind"))).getD .non:=rfl
def Kh{p:D}(hp:Du p)(y:Str):Di p y=.non\/∃i:Int,Di p y=.int i/\0<=i/\i<=y.length:=by obtain⟨kind,nth,edge,rfl,hn,he,_⟩:=hp;obtain⟨d,h1,h2⟩:=NA (λi=>Dm kind (sg y i)) y.cps.size hn (decide (edge = "behind"));simp only[Kg,h1,AMX];exact h2
def WO{Q:ANb}{L:AB}{p:D}{y:Str}(hy:y.length<=1000)(hp:Du p)(h:Q (Di p y) L):W2 (zg [p,.str y] L) Q:=by obtain⟨kind,nth,edge,rfl,hn,he,_⟩:=hp;obtain⟨d,h1,h2⟩:=NA (λi=>Dm kind (sg y i)) y.cps.size hn (decide (edge = "behind"));simp only[Kg,h1,AMX] at h;exact WN hy h1 h
abbrev EV(deed:Str)(t:Str):Str:=if deed = "raise" then Txt.upper t else if deed = "sink" then Txt.lower t else t
abbrev Cp(y:Str)(pc:D):D:=match pc with
 |.tup [_,q]=>(match q with|.str w=>.str w|_=>.non)
 |.tup [a,p,q]=>(match a with|.str deed=>(match Di p y,Di q y with|.int i,.int j=>if j<=i then .non else .str (EV deed (Txt.slice y (some i) (some j)))|_,_=>.non)|_=>.non)
 |_=>.non
def NO{y deed:Str}{p q:D}:Cp y (.tup [.str deed,p,q])=(match Di p y,Di q y with|.int i,.int j=>if j<=i then .non else .str (EV deed (Txt.slice y (some i) (some j)))|_,_=>.non):=rfl
def AGO{deed t:Str}(h:BF t):(EV deed t).length=t.length:=by
 unfold EV;split
 .exact Qq h
 .split
  .exact Rc h
  .rfl
def NP{y:Str}{pc:D}(hy:y.length<=1000)(hs:BF y)(hp:FS pc):Cp y pc=.non\/∃t:Str,Cp y pc=.str t/\t.length<=1000:=by
 rcases hp with⟨w,rfl,h1,h2,_⟩|⟨deed,p,q,rfl,hd,hp,hq⟩
 .exact .inr ⟨w,rfl,by omega⟩
 .obtain⟨k,n,e,rfl,_⟩:=id hq;rw[NO];rcases Kh hp y with e1|⟨i,e1,_⟩
  .rw[e1];exact .inl rfl
  .rcases Kh hq y with e2|⟨j,e2,_⟩
   .rw[e1,e2];exact .inl rfl
   .rw[e1,e2];simp only;split
    .exact .inl rfl
    .exact .inr ⟨_,rfl,by rw[AGO (hs.slice _ _)];exact CD (Txt.slice_le _ _ _) hy⟩
def WQ{Q:ANb}{L:AB}{y:Str}{pc:D}(hy:y.length<=1000)(hs:BF y)(hp:FS pc)(h:Q (Cp y pc) L):W2 (zh [pc,.str y] L) Q:=by
 rcases hp with⟨w,rfl,h1,h2,_⟩|⟨deed,p,q,rfl,hd,hp,hq⟩
 .unfold zh;refine BR rfl ?_;unfold MV;rfl';exact⟨rfl,AR _,h⟩
 .have hnw:deed≠"word":=by rcases hd with rfl|rfl|rfl <;> decide
  obtain⟨k,n,e,rfl,_⟩:=id hq;rw[NO] at h;unfold zh;refine BR rfl ?_;unfold MV;rfl';refine WO hy hp ?_;rfl';refine WO hy hq ?_;rcases Kh hp y with e1|⟨i,e1,hi⟩
  .rw[e1] at h ⊢;rfl';exact⟨rfl,AR _,h⟩
  rcases Kh hq y with e2|⟨j,e2,hj⟩
  .rw[e1,e2] at h ⊢;rfl';exact⟨rfl,AR _,h⟩
  rw[e1,e2] at h ⊢;simp only at h
  by_cases hij:j<=i
  .rw[if_pos hij] at h;rfl';exact⟨rfl,AR _,h⟩
  rw[if_neg hij] at h;have hts:=hs.slice (some i) (some j);have htl:(Txt.slice y (some i) (some j)).length<=1000:=CD (Txt.slice_le _ _ _) hy;unfold EV at h;rfl';refine BU (λh1=>?_) (λh1=>?_)
  .rw[if_pos h1] at h;rfl';refine Nj (by rw[Qq hts];omega) ?_;exact⟨rfl,AR _,h⟩
  rw[if_neg h1] at h;rfl';refine BU (λh2=>?_) (λh2=>?_)
  .rw[if_pos h2] at h;rfl';refine Nj (by rw[Rc hts];omega) ?_;exact⟨rfl,AR _,h⟩
  .rw[if_neg h2] at h;rfl';exact⟨rfl,AR _,h⟩
abbrev Iy(y:Str)(ps:List D):D:=match CA (ps.map (Cp y)) with|some ys=>.str (Txt.join "" ys)|none=>.non
def Ul{y:Str}{ps:List D}{ys:AM4}(hy:y.length<=1000)(hs:BF y)(hp:∀p∈ps,FS p)(e:CA (ps.map (Cp y))=some ys):(ys.map (·.length)).sum<=ps.length*1000:=by
 have hl:=Us e;rw[Ah] at hl;rw[<-hl];refine ABQ λz hz=>Ut (P:=λz=>z.length<=1000) e (λs hs'=>?_) z hz;rw[BA] at hs';obtain⟨p,hp',e⟩:=hs';rcases NP hy hs (hp p hp') with h|⟨t,h,ht⟩
 .rw[h] at e;cases e
 .rw[h] at e;cases e;exact ht
def AEg{Q:ANb}{L:AB}{y:Str}{ps:List D}(hy:y.length<=1000)(hs:BF y)(hp:∀p∈ps,FS p)(hl:ps.length<=1000)(h:Q (Iy y ps) L):W2 (Jr [.tup ps,.str y] L) Q:=by
 unfold Jr;refine BR rfl ?_;unfold Oy;rfl';refine Mr (λρ=>∃a,ρ=[a,some (.str y)]) (λx=>some (Cp y x)) _ _ ⟨none,rfl⟩ (by omega) ?_ ?_
 .rintro x hx ρ ⟨a,rfl⟩;rfl';refine⟨⟨_,rfl⟩,λacc=>?_⟩;rfl';refine⟨rfl,?_⟩;rfl';refine WQ hy hs (hp x hx) ?_;exact⟨rfl,rfl⟩
 have ef:AL4 (λx=>some (Cp y x)) ps=ps.map (Cp y):=by rw[<-List.filterMap_eq_map];rfl
 rw[ef]
 have hk:∀d∈ps.map (Cp y),d=.non\/∃t,d=.str t:=λd hd=>by
  rw[BA] at hd;obtain⟨p,hp',rfl⟩:=hd;rcases NP hy hs (hp p hp') with e|⟨t,e,_⟩
  .exact .inl e
  .exact .inr ⟨t,e⟩
 have hfl:(BC .non&&(ps.map (Cp y)).all BC)=true:=by rw[Bn,CF];refine⟨rfl,λd hd=>?_⟩;rcases hk d hd with rfl|⟨t,rfl⟩ <;> rfl
 rfl';refine AFh Ac hfl ?_;rw[Rp hk];unfold Iy at h
 cases e:CA (ps.map (Cp y)) with
 |none =>
  rw[e] at h;rfl';refine Nv rfl ?_;rfl';exact⟨rfl,Am _ _,h⟩
 |some ys =>
  rw[e] at h;rfl';refine Jb rfl ?_;rfl';have hsum:=Ul hy hs hp e;have e0:(Str.ofString "").length=0:=rfl;refine AFg Ac e (by rw[e0];omega) ?_;exact⟨rfl,Am _ _,h⟩
abbrev Dq(ws:AM4)(d:D):Prop:=(∃w∈ws,d=.tup [.str "word",.str w])\/(∃(deed:Str) (p q:D),d=.tup [.str deed,p,q]/\La deed/\Du p/\Du q)
def Dq.piece{ws:AM4}{d:D}(hw:Da ws)(h:Dq ws d):FS d:=by
 rcases h with⟨w,hm,rfl⟩|h
 .exact .inl ⟨w,rfl,(hw.2.1 w hm).1,(hw.2.1 w hm).2.2,(hw.2.1 w hm).2.1⟩
 .exact .inr h
def AEh{Q:ANb}{L:AB}{k:Nat}{ws:AM4}(c:Int)(hk:L[k]?=some (.lst (ws.map D.str)))(hw:Da ws)(q:∀p,Dq ws p->Q p L):W2 (KA [.int c,.ref k] L) Q:=by
 unfold KA;refine BR rfl ?_;refine Bk (λρ L'=>L'=L/\ρ=[some (.int c),some (.ref k),none]) ?_ ?_
 .rfl';refine BU (λh7=>?_) (λh7=>?_)
  .rfl';refine BU (λhl=>?_) (λhl=>?_)
   .rfl';refine Gd _ hk (by omega) (Int.le_refl _) λd hd=>?_;rw[BA] at hd;obtain⟨w,hm,rfl⟩:=hd;rfl';exact⟨rfl,AR _,q _ (.inl ⟨w,hm,rfl⟩)⟩
   .rfl';exact⟨rfl,rfl⟩
  .rfl';exact⟨rfl,rfl⟩
 rintro ρ L' ⟨rfl,rfl⟩;rfl';refine Gd _ Ac (by decide) (by decide) λd hd=>?_
 have hd':∃m:Str,d=.str m/\La m:=by
  simp only[Aa,Dw,or_false] at hd;rcases hd with rfl|rfl|rfl|rfl
  .exact⟨_,rfl,.inl rfl⟩
  .exact⟨_,rfl,.inr (.inl rfl)⟩
  .exact⟨_,rfl,.inr (.inr rfl)⟩
  .exact⟨_,rfl,.inl rfl⟩
 obtain⟨m,rfl,hm⟩:=hd';rfl';refine WP _ λp1 hp1=>?_;rfl';refine WP _ λp2 hp2=>?_;rfl';have hP:Dq ws (.tup [.str m,p1,p2]):=.inr ⟨m,p1,p2,rfl,hm,hp1,hp2⟩;exact⟨(hP.piece hw).noRef,by wtm_at "z_pf",q _ hP⟩
abbrev HL(ts:AM4):Prop:=∀y∈ts,BF y/\y.length<=100
abbrev Hy(ts:AM4)(d:D):Prop:=∀y∈ts,∃t,Cp y d=.str t
abbrev HR(deed:Str):D:=.tup [.str deed,.tup [.str "any",.int 1,.str "ahead"],.tup [.str "any",.int (-1),.str "behind"]]
def AHE:Du (.tup [.str "any",.int 1,.str "ahead"]):=⟨"any",1,"ahead",rfl,.inl rfl,.inl rfl,by decide⟩
def AHD:Du (.tup [.str "any",.int (-1),.str "behind"]):=⟨"any",-1,"behind",rfl,.inr (.inr (.inl rfl)),.inr rfl,by decide⟩
def Vt(y:Str):nums (λi=>Dm "any" (sg y i)) y.cps.size=(List.range y.cps.size).map λ(i:Nat)=>(i:Int):=by
 unfold nums;rw[<-List.filterMap_eq_map];apply LF;intro i _;have:Dm "any" (sg y i)=true:=by simp[Dm]
 simp only[this,if_true];rfl
def AAU{deed y:Str}(hd:La deed)(hy:y≠""):∃t,Cp y (HR deed)=.str t:=by
 have hpos:0<y.cps.size:=Uv hy
 have e1:Di (.tup [.str "any",.int 1,.str "ahead"]) y=.int 0:=by
  simp only[Kg,Vt];unfold Gb;rw[if_neg (by simp;omega)]
  have:atI ((List.range y.cps.size).map λ(i:Nat)=>(i:Int)) (if (1:Int)>0 then 1-1 else 1)=some 0:=by have:=DZ (xs:=(List.range y.cps.size).map λ(i:Nat)=>(i:Int)) (j:=0) (v:=0) (by simp[ALs,hpos]);simpa using this
  rw[this];have:decide (("ahead":Str) = "behind")=false:=by decide
  simp[this]
 have e2:Di (.tup [.str "any",.int (-1),.str "behind"]) y=.int (y.cps.size:Int):=by
  simp only[Kg,Vt];unfold Gb;rw[if_neg (by simp;omega)]
  have:atI ((List.range y.cps.size).map λ(i:Nat)=>(i:Int)) (if (-1:Int)>0 then -1-1 else -1)=some ((y.cps.size:Int)-1):=by
   have hs:y.cps.size=(y.cps.size-1)+1:=by omega
   rw[hs,ALe,Cd];have:=AG7 ((List.range (y.cps.size-1)).map λ(i:Nat)=>(i:Int)) (((y.cps.size-1:Nat):Int));simp only[Ak,AL1];rw[if_neg (by decide),this]
   congr 1
   omega
  rw[this];have:decide (("behind":Str) = "behind")=true:=by decide
  simp
 unfold HR;simp only[NO,e1,e2];exact⟨_,by rw[if_neg (by omega)]⟩
def Yh{ts:AM4}{d:D}(ht:HL ts)(hp:FS d):(CA (ts.map λy=>Cp y d)).isNone=false↔Hy ts d:=by
 induction ts with
 |nil=>simp[CA,Hy]
 |cons y r ih =>
  have ih:=ih λz hz=>ht z (Ax _ hz);have hy:=ht y Aw;rw[Ak];rcases NP (by omega) hy.1 hp with e|⟨t,e,_⟩
  .rw[e];simp only[CA,Option.isNone_none,Bool.true_eq_false,false_iff];intro h;obtain⟨t,h⟩:=h y Aw;rw[e] at h;cases h
  .rw[e];simp only[CA,Option.isNone_map,ih];constructor
   .intro h z hz;rcases Aa.mp hz with rfl|hz
    .exact⟨t,e⟩
    .exact h z hz
   .exact λh z hz=>h z (Ax _ hz)
def AEk{Q:ANb}{L:AB}{k t:Nat}{ws ts:AM4}(c:Int)(hk:L[k]?=some (.lst (ws.map D.str)))(htx:L[t]?=some (.lst (ts.map D.str)))(hw:Da ws)(ht:HL ts)(hl:ts.length<=1000)
  (hne:ws≠[]\/∀y∈ts,y≠"") (q:∀p,Dq ws p->Hy ts p->Q p L):W2 (Jw [.int c,.ref k,.ref t] L) Q:=by
 unfold Jw;refine BR rfl ?_;unfold PP;have wordAns:∀w:Str,Hy ts (.tup [.str "word",.str w]):=λw y _=>⟨w,rfl⟩;rfl';refine AEh _ hk hw λp hp=>?_;rcases hp with⟨w,hm,rfl⟩|⟨deed,p1,p2,rfl,hd,hp1,hp2⟩
 .rfl';exact⟨rfl,AR _,q _ (.inl ⟨w,hm,rfl⟩) (wordAns w)⟩
 have hnw:deed≠"word":=by rcases hd with rfl|rfl|rfl <;> decide
 rfl';have hW:(D.tup [D.str deed,D.tup [D.str "any",D.int 1,D.str "ahead"],D.tup [D.str "any",D.int (-1),D.str "behind"]])=HR deed:=rfl
 have hin:∀x∈[D.tup [.str deed,p1,p2],.tup [.str deed,p2,p1],HR deed],Dq ws x:=λx hx=>by
  simp only[Aa,Dw,or_false] at hx;rcases hx with rfl|rfl|rfl
  .exact .inr ⟨deed,p1,p2,rfl,hd,hp1,hp2⟩
  .exact .inr ⟨deed,p2,p1,rfl,hd,hp2,hp1⟩
  .exact .inr ⟨deed,_,_,rfl,hd,AHE,AHD⟩
 rw[hW];generalize hxs:[D.tup [.str deed,p1,p2],.tup [.str deed,p2,p1],HR deed]=xs at hin ⊢;have hlast:xs[2]?=some (HR deed):=by rw[<-hxs];rfl
 have hlen:xs.length=3:=by rw[<-hxs];rfl
 refine Ce (λj ρ L'=>L++[Ob.lst xs] <+: L'/\(3<=j->∃y∈ts,y = "")/\∃a:Option D,ρ=[some (.int c),some (.ref k),some (.ref t),some (.tup [.str deed,p1,p2]),some (HR deed),a]) _ 0 _ _ ⟨AR _,λh=>by omega,none,rfl⟩ ?_ ?_
 .rintro i x ρ L' hx ⟨hpre,_,a,rfl⟩;have hxp:=hin x (Bj hx);have hxi:=hxp.piece hw;have htx':=DJ hpre (AT (M:=[Ob.lst xs]) htx);refine⟨decide_eq_true (DJ hpre Ac),?_⟩;rfl';have hfin:∀p:Prop,p->p:=λ_ h=>h
  have comp:W1 (DE (λL''=>decide (L''[t]?=some (Ob.lst (ts.map D.str)))) (An 0) Cn (AL zh (AC (AA 1) (AC (AA 0) AH))) L'.length (ts.map D.str) [none,some x] (L'++[Ob.lst []])) (λL2=>L2=L'++[Ob.lst (ts.map λy=>Cp y x)]):=by
   refine FA (I:=λj ρ L2=>(∃a,ρ=[a,some x])/\L2=L'++[Ob.lst ((ts.take j).map λy=>Cp y x)]) _ 0 _ _ ⟨⟨none,rfl⟩,rfl⟩ ?_ ?_
   .rintro i2 z ρ L2 hz ⟨⟨a,rfl⟩,rfl⟩;rw[Ar] at hz;obtain⟨y,hy,hz⟩:=mS hz;cases hz;have hyt:=ht y (Bj hy);have hi2:i2<ts.length:=(Ay.mp hy).1;have htk:ts.take (0+i2+1)=ts.take (0+i2)++[y]:=by rw[BW,ALw,hy];rfl
    refine⟨decide_eq_true (AT htx'),?_⟩;rfl';refine WQ (by omega) hyt.1 hxi ?_;refine⟨_,Ac,by simp;omega,⟨_,rfl⟩,?_⟩;rw[htk];simp
   .rintro ρ L2 ⟨_,rfl⟩;refine⟨decide_eq_true (AT htx'),?_⟩;simp
  obtain⟨L2,ec,rfl⟩:=comp;refine⟨_,ec,?_⟩
  have hk2:∀d∈ts.map (λy=>Cp y x),d=.non\/∃t,d=.str t:=λd hd=>by
   rw[BA] at hd;obtain⟨y,hy,rfl⟩:=hd;rcases NP (by have:=ht y hy;omega) (ht y hy).1 hxi with e|⟨t,e,_⟩
   .exact .inl e
   .exact .inr ⟨t,e⟩
  have hfl:(BC .non&&(ts.map (λy=>Cp y x)).all BC)=true:=by rw[Bn,CF];refine⟨rfl,λd hd=>?_⟩;rcases hk2 d hd with rfl|⟨t,rfl⟩ <;> rfl
  refine Rv Ac hfl ?_;rw[Rp hk2];rfl';refine Go (λh=>?_) (λh=>?_)
  .rfl';refine⟨hpre.trans (Am _ _),λh3=>?_,_,rfl⟩;have:i=2:=by have:=(Ay.mp hx).1;omega
   subst this;rw[hlast] at hx;cases hx;refine Classical.byContradiction λhno=>?_;have:Hy ts (HR deed):=λy hy=>AAU hd λe=>hno ⟨y,hy,e⟩;rw[(Yh ht hxi).mpr this] at h;cases h
  .rfl';exact⟨hxi.noRef,(Am _ _).trans (hpre.trans (Am _ _)),q _ hxp ((Yh ht hxi).mp h)⟩
 .rintro ρ L' ⟨hpre,h3,a,rfl⟩;have hk':=DJ hpre (AT (M:=[Ob.lst xs]) hk);refine⟨decide_eq_true (DJ hpre Ac),?_⟩
  have hwne:ws≠[]:=by
   rcases hne with h|h
   .exact h
   .obtain⟨y,hy,e⟩:=h3 (by omega);exact absurd e (h y hy)
  have hwl:0<ws.length:=List.length_pos_iff.mpr hwne;have hwl':(((ws.map D.str).length:Nat):Int)=ws.length:=by simp
  rfl';refine Gd _ hk' (by omega) (Int.le_refl _) λd hd=>?_;rw[BA] at hd;obtain⟨w,hm,rfl⟩:=hd;rfl';exact⟨rfl,(Am _ _).trans hpre,q _ (.inl ⟨w,hm,rfl⟩) (wordAns w)⟩
abbrev Sj(ws ts:AM4)(ps:List D):Prop:=(∀p∈ps,Dq ws p)/\(∀p∈ps,Hy ts p)/\0<ps.length/\ps.length<=3
def RU:∀{ps:List D},(∀p∈ps,p.noRef=true)->D.noRefL ps=true
 |[],_=>rfl
 |p::ps,h=>by rw[D.noRefL,h p Aw,RU λq hq=>h q (Ax _ hq)];rfl
def AEf{Q:ANb}{L:AB}{k t:Nat}{ws ts:AM4}(c:Int)(hk:L[k]?=some (.lst (ws.map D.str)))(htx:L[t]?=some (.lst (ts.map D.str)))(hw:Da ws)(ht:HL ts)(hl:ts.length<=1000)
  (hne:ws≠[]\/∀y∈ts,y≠"") (q:∀ps,Sj ws ts ps->Q (.tup ps) L):W2 (Ju [.int c,.ref k,.ref t] L) Q:=by
 unfold Ju;refine BR rfl ?_;unfold PK;have hm:=GW c (b:=3) (by decide);have hm':=GY c (b:=3) (by decide);have hkl:k<L.length:=(Ay.mp hk).1;have htl:t<L.length:=(Ay.mp htx).1;rfl';refine Ce (λj ρ L'=>∃(ps:List D) (p:Int) (a b:Option D),ρ=[some (.int c),some (.ref k),some (.ref t),some (.ref L.length),some (.int p),a,b]/\L'=L++[Ob.lst ps]/\(∀p∈ps,Dq ws p)/\(∀p∈ps,Hy ts p)/\ps.length=j) _ 0 _ _ ⟨[],_,none,none,rfl,rfl,λ_ h=>(nomatch h),λ_ h=>(nomatch h),rfl⟩ ?_ ?_
 .rintro i x ρ L' hx ⟨ps,p,a,b,rfl,rfl,h1,h2,h3⟩;obtain⟨hi,rfl⟩:=NE hx;refine⟨rfl,?_⟩;rfl';refine AEk _ (AT hk) (AT htx) hw ht hl hne λd hd1 hd2=>?_
  have hnn:HC d=false:=by rcases hd1 with⟨w,_,rfl⟩|⟨_,_,_,rfl,_⟩ <;> rfl
  rfl';refine Jb hnn ?_;rfl';refine Gi Ac (by omega) ?_;rfl';refine⟨ps++[d],_,_,_,rfl,by simp,λr hr=>?_,λr hr=>?_,by simp;omega⟩
  .rcases Bx.mp hr with h|h
   .exact h1 r h
   .have:r=d:=by simpa using h
    rw[this];exact hd1
  .rcases Bx.mp hr with h|h
   .exact h2 r h
   .have:r=d:=by simpa using h
    rw[this];exact hd2
 .rintro ρ L' ⟨ps,p,a,b,rfl,rfl,h1,h2,h3⟩;refine⟨rfl,?_⟩;rw[Gz] at h3;rfl';have hR:Sj ws ts ps:=⟨h1,h2,by omega,by omega⟩;refine⟨?_,Am _ _,q ps hR⟩;rw[D.noRef];exact RU λp hp=>((h1 p hp).piece hw).noRef
def ABc(x:Str)(n:Int)(h:0<=n):((Txt.slice x none (some n)).length:Int)<=n:=by
 have hs:∀k:Nat,(Builtin.Str.strSliceIndices none (some (k:Int)) 1 x.length).length<=k:=λk=>by
  unfold Builtin.Str.strSliceIndices sliceRange;simp only[show(1:Int)>0 by decide,if_true,Ah,AMV]
  split <;> (try split) <;> (try simp only[Int.ediv_one]) <;> omega
 have hn:((n.toNat:Nat):Int)=n:=by omega
 rw[<-hn];have:=hs n.toNat;unfold Txt.slice;split
 .rename_i h;simp only[Bn,beq_iff_eq] at h;omega
 .show(((AL4 _ (Builtin.Str.strSliceIndices none (some (n.toNat:Int)) 1 x.length)).toArray.size:Nat):Int)<=_;rw[BZ];have:=AMh (λx_1=>x.cps[x_1]?) (Builtin.Str.strSliceIndices none (some (n.toNat:Int)) 1 x.length);omega
def AAX{g:GF}{elt:EF}{L0:AB}{Q:AB->Prop}(P:Fm->Prop)(E:D->Prop){items:List D}{ρ:Fm}(hp:P ρ)(hz:items.length<=16777216)
  (h:∀x∈items,∀ρ,P ρ->W1 (g x ρ) λρ1=>P ρ1/\∀acc,W2 (elt ρ1 (L0++[.lst acc])) λd L2=>L2=L0++[.lst acc]/\E d)
  (q:∀ds:List D,ds.length=items.length->(∀d∈ds,E d)->Q (L0++[.lst ds])):W1 (DE (λ_=>true) g Cn elt L0.length items ρ (L0++[.lst []])) Q:=by
 refine FA (I:=λj ρ L=>P ρ/\∃ds:List D,ds.length=j/\(∀d∈ds,E d)/\L=L0++[.lst ds]) items 0 ρ _ ⟨hp,[],rfl,λd hd=>(nomatch hd),rfl⟩ ?_ ?_
 .rintro i x ρ L e ⟨hp,ds,hl,hE,rfl⟩;refine⟨rfl,?_⟩;have hi:i<items.length:=(Ay.mp e).1;obtain⟨ρ1,e1,hp1,h2⟩:=h x (Bj e) ρ hp;obtain⟨d,L2,e3,rfl,q⟩:=h2 ds;refine⟨ρ1,e1,true,_,rfl,d,_,e3,ds,by simp,by omega,hp1,ds++[d],by simp;omega,λz hz=>?_,by simp⟩;rcases Bx.mp hz with h|h
  .exact hE z h
  .have:z=d:=by simpa using h
   rw[this];exact q
 .rintro ρ L ⟨_,ds,hl,hE,rfl⟩;exact⟨rfl,q ds (by omega) hE⟩
def AEe{Q:ANb}{L:AB}{ns:ANA}(hb:∀z∈ns,Builtin.Int.intBits z<=1048576)(hn:ns.length<=63)(st most:Int)(h0:0<=st)(h1:st<=20)(h2:0<=most)(h3:most<=24)
  (q:∀ts L',ts.Nodup->HL ts->0<ts.length->ts.length<=6->∀k,L <+: L'->L'[k]?=some (.lst (ts.map D.str))->Q (.ref k) L'):W2 (Jo [.fz (ns.map .int),.int st,.int most] L) Q:=by
 unfold Jo;refine Fb rfl ?_;unfold Op;have hlen:((ns.map D.int).length:Int)=ns.length:=by simp
 refine Bk (λρ L'=>L'=L/\∃c:Int,0<=c/\ρ=[some (.fz (ns.map .int)),some (.int st),some (.int most),some (.int c),none,none,none,none,none,none,none,none]) ?_ ?_
 .rfl';exact Ho hb hn h0 (by omega) λc hc1 hc2=>⟨rfl,c,hc1,rfl⟩
 rintro ρ L' ⟨rfl,c,hc1,rfl⟩;have c3:=GW c (b:=3) (by decide);have c3':=GY c (b:=3) (by decide);refine Kb (Mp (Qm (Ql (Qm (UR rfl (Ql (XS rfl (AFl ?_))))))));refine Bk (λρ L2=>L2=L'/\∃m n:Int,0<=m/\m<=24/\1<=n/\n<=6/\ρ=[some (.fz (ns.map .int)),some (.int st),some (.int m),some (.int c),some (.int n),none,none,none,none,none,none,none]) ?_ ?_
 .rfl';refine BU (λh=>?_) (λh=>?_)
  .rfl';exact⟨rfl,_,_,by split <;> omega,by split <;> omega,by omega,by omega,rfl⟩
  .rfl';exact⟨rfl,_,_,h2,h3,by omega,by omega,rfl⟩
 rintro ρ L' ⟨rfl,m,n,hm0,hm1,hn1,hn6,rfl⟩;refine Bk (λρ L1=>L1=L'++[Ob.lst (ALU n.toNat (D.str ""))]/\ρ=[some (.fz (ns.map .int)),some (.int st),some (.int m),some (.int c),some (.int n),some (.ref L'.length),none,none,none,none,none,none]) ?_ ?_
 .rfl';refine Mr (λρ=>∃a,ρ=[a]) (λ_=>some (D.str "")) _ _ ⟨none,rfl⟩ (by rw[Gz];omega) ?_ ?_
  .rintro x hx ρ ⟨a,rfl⟩;rfl';refine⟨⟨_,rfl⟩,λacc=>?_⟩;rfl';refine⟨rfl,?_⟩;rfl';exact⟨rfl,rfl⟩
  .have e:AL4 (λ_=>some (D.str "")) (EQ 0 n.toNat)=ALU n.toNat (D.str ""):=by
    have:∀l:List D,AL4 (λ_=>some (D.str "")) l=ALU l.length (D.str ""):=λl=>by
     induction l with
     |nil=>rfl
     |cons x r ih=>rw[ALy,ih];rfl
    rw[this,Gz]
   rw[e];exact⟨rfl,rfl⟩
 rintro ρ L1 ⟨rfl,rfl⟩;refine Bk (λρ L1=>L' <+: L1/\∃(sm:Str) (rows:AM4),BF sm/\0<sm.length/\sm.length<=20/\L1[L'.length]?=some (.lst (rows.map D.str))/\rows.length=n.toNat/\(∀y∈rows,y = "")/\ρ=[some (.fz (ns.map .int)),some (.int st),some (.int m),some (.int c),some (.int n),some (.ref L'.length),some (.str sm),none,none,none,none,none]) ?_ ?_
 .rfl';refine Gd _ Ac (by decide) (by decide) λd hd=>?_
  have hd':∃s:Str,d=.str s/\BF s/\0<s.length/\s.length<=20:=by simp only[Aa,Dw,or_false] at hd;rcases hd with rfl|rfl|rfl|rfl <;> exact⟨_,rfl,by decide +kernel,by decide +kernel,by decide +kernel⟩
  obtain⟨sm,rfl,e1,e2,e3⟩:=hd';refine⟨by wtm_at "z_pf",sm,ALU n.toNat "",e1,e2,e3,?_,by simp,λy hy=>List.eq_of_mem_replicate hy,rfl⟩;rw[List.map_replicate];exact AT Ac
 rintro ρ L1 ⟨hpre,sm,rows,hs1,hs2,hs3,hg,hrl,hre,rfl⟩
 -- the rows,filled
 refine Bk (λρ L2=>L' <+: L2/\∃(r:Nat) (rows:AM4) (a b e:Option D),L2[r]?=some (.lst (rows.map D.str))/\rows.length=n.toNat/\HL rows/\L'.length<=r/\ρ=[some (.fz (ns.map .int)),some (.int st),some (.int m),some (.int c),some (.int n),some (.ref r),some (.str sm),a,b,e,none,none]) ?_ ?_
 .rfl';refine BU (λh=>?_) (λh=>?_)
  .rfl';refine AAX (λρ=>∃a,ρ=[a,some (.int m),some (.fz (ns.map .int)),some (.int st)]) (λd=>∃s:Str,d=.str s/\BF s/\s.length<=100) ⟨none,rfl⟩ (by rw[Gz];omega) ?_ ?_
   .rintro x hx ρ ⟨a,rfl⟩;obtain⟨i,hi,rfl⟩:=ACA hx;rfl';refine⟨⟨_,rfl⟩,λacc=>?_⟩;rfl';refine Ho hb hn (by omega) (by omega) λv hv1 hv2=>?_;rfl';refine WM _ _ hm0 (by omega) λt ht1 ht2=>?_;exact⟨rfl,t,rfl,ht1,by omega⟩
   .intro ds hd hE;rw[Gz] at hd;obtain⟨ys,_,e3⟩:=Ur λd hd=>let ⟨s,a,_⟩:=hE d hd;⟨s,a⟩;refine⟨hpre.trans (Am _ _),L1.length,ys,none,none,none,by rw[<-e3];exact Ac,by rw[<-hd,e3];simp,λy hy=>?_,hpre.length_le,rfl⟩;obtain⟨s,a,b,c⟩:=hE (.str y) (by rw[e3];exact CN hy);cases a;exact⟨b,c⟩
  .rfl';refine FF (JG (by omega)) ?_;have hmn:0<=m*n/\m*n<=24*6:=⟨Int.mul_nonneg hm0 (by omega),Int.mul_le_mul hm1 hn6 (by omega) (by omega)⟩;rfl'
   generalize hN:((if st+1+m*n<((List.map D.int ns).length:Int) then st+1+m*n else ((List.map D.int ns).length:Int))-(st+1)).toNat=BV
   have hcnt:BV<=63:=by rw[<-hN];split <;> omega
   clear hN hmn;refine Ce (λj ρ L2=>L' <+: L2/\∃(rows:AM4) (a b e:Option D),L2[L'.length]?=some (.lst (rows.map D.str))/\rows.length=n.toNat/\(∀y∈rows,BF y/\y.length<=j)/\ρ=[some (.fz (ns.map .int)),some (.int st),some (.int m),some (.int c),some (.int n),some (.ref L'.length),some (.str sm),a,b,e,none,none]) _ 0 _ _ ⟨hpre,rows,none,none,none,hg,hrl,λy hy=>by rw[hre y hy];exact⟨by decide,by decide⟩,rfl⟩ ?_ ?_
   .rintro i x ρ L2 hx ⟨hpre2,rows,a,b,e,hg2,hrl2,hr2,rfl⟩;obtain⟨hi,rfl⟩:=NE hx;refine⟨rfl,?_⟩;rfl';refine Ho hb hn (by omega) (by omega) λv hv1 hv2=>?_;rfl';obtain⟨sg0,hk1,hk2⟩:=Nw (xs:=sm.cps.toList) (n:=(sm.length:Int)) v (by omega) (by simp[Str.length]);refine Rw hk2 ?_;rfl';obtain⟨d,hd,ed⟩:=Nw (xs:=rows.map D.str) (n:=n) (st+1+(i:Int)) (by omega) (by simp;omega);rw[BA] at hd;obtain⟨y,hy,rfl⟩:=hd;refine DB hg2 ed ?_;rfl';have hone:(⟨#[sg0]⟩:Str).length=1:=rfl;have hy2:=hr2 y hy;refine Nl (by rw[hone];omega) ?_;rfl';have a0:=GW (st+1+(i:Int)) (b:=n) (by omega);have a1:=GY (st+1+(i:Int)) (b:=n) (by omega)
    have hix:ixN (rows.map D.str).length ((st+1+(i:Int)) % n)=some ((st+1+(i:Int)) % n).toNat:=by unfold ixN;rw[if_pos a0,if_pos (by simp;omega)]
    refine XO hg2 hix ?_;refine⟨NI hpre2 (Ae _),rows.set ((st+1+(i:Int)) % n).toNat (y++⟨#[sg0]⟩),_,_,_,?_,by simp[hrl2],λz hz=>?_,rfl⟩
    .rw[Cu hg2,List.map_set]
    .rcases List.mem_or_eq_of_mem_set hz with h|h
     .have:=hr2 z h;exact⟨this.1,by omega⟩
     .rw[h];exact⟨hy2.1.app (.one (hs1 _ hk1)),by rw[OA,hone];omega⟩
   .rintro ρ L2 ⟨hpre2,rows,a,b,e,hg2,hrl2,hr2,rfl⟩;rw[Gz] at hr2;refine⟨rfl,hpre2,_,rows,_,_,_,hg2,hrl2,λy hy=>?_,Ae _,rfl⟩;have:=hr2 y hy;exact⟨this.1,by omega⟩
 clear hg hrl hre hpre rows;rintro ρ L2 ⟨hpre,r,rows,a,b,e,hg,hrl,hr,hrL,rfl⟩;refine Bk (λρ L3=>L' <+: L3/\∃(rows:AM4),L3[r]?=some (.lst (rows.map D.str))/\rows.length=n.toNat/\HL rows/\ρ=[some (.fz (ns.map .int)),some (.int st),some (.int m),some (.int c),some (.int n),some (.ref r),some (.str sm),a,b,e,none,none]) ?_ ?_
 .rfl';refine BU (λh=>?_) (λh=>?_)
  .rfl';have hsl:=Txt.slice_le sm none (some (1+c / 768 % 2));refine AFf ?_ ?_
   .unfold JF;simp only[Bn,decide_eq_true_eq];have e24:(24:Int).toNat=24:=rfl;rw[e24];refine⟨⟨by decide,by decide⟩,?_⟩;omega
   rfl'
   have hix:ixN (rows.map D.str).length 0=some 0:=by unfold ixN;rw[if_pos (by decide),if_pos (by simp;omega)];rfl
   refine XO hg hix ?_;refine⟨NI hpre hrL,rows.set 0 (Txt.slice (Txt.mul (Txt.slice sm none (some (1+c / 768 % 2))) 24) none (some 24)),?_,by simp[hrl],λz hz=>?_,rfl⟩
   .rw[Cu hg,List.map_set]
   .rcases List.mem_or_eq_of_mem_set hz with h|h
    .exact hr z h
    .rw[h];refine⟨((hs1.slice _ _).mul _).slice _ _,?_⟩;have:=ABc (Txt.mul (Txt.slice sm none (some (1+c / 768 % 2))) 24) 24 (by decide);omega
  .rfl';exact⟨hpre,rows,hg,hrl,hr,rfl⟩
 clear hg hrl hr hpre rows;rintro ρ L3 ⟨hpre,rows,hg,hrl,hr,rfl⟩;rfl';have hrlt:r<L3.length:=(Ay.mp hg).1;refine Ce (λj ρ L4=>∃(ts:AM4) (z:Option D),L4=L3++[Ob.lst (ts.map D.str)]/\ts.Nodup/\HL ts/\ts.length<=j/\(0<j->0<ts.length)/\ρ=[some (.fz (ns.map .int)),some (.int st),some (.int m),some (.int c),some (.int n),some (.ref r),some (.str sm),a,b,e,some (.ref L3.length),z]) _ 0 _ _ ⟨[],none,rfl,ALb,λ_ h=>(nomatch h),Ae _,λh=>absurd h (by decide),rfl⟩ ?_ ?_
 .rintro i x ρ L4 hx ⟨ts,z,rfl,hnd,hts,hl,hp,rfl⟩;rw[Ar] at hx;obtain⟨y,hy,hx⟩:=mS hx;cases hx;have hyr:=hr y (Bj hy);have hil:=(Ay.mp hy).1;refine⟨decide_eq_true (AT hg),?_⟩;rfl';refine Rv Ac (by rw[SI];rfl) ?_;rw[Nd];rfl';refine BU (λhm=>?_) (λhm=>?_)
  .rfl';exact⟨ts,_,rfl,hnd,hts,by omega,λ_=>List.length_pos_of_mem hm,rfl⟩
  .rfl';refine Gi Ac (by simp;omega) ?_;refine⟨ts++[y],_,by simp,?_,λw hw=>?_,by simp;omega,λ_=>by simp,rfl⟩
   .rw[ALa];refine⟨hnd,by simp,λa ha b hb=>?_⟩;have:b=y:=by simpa using hb
    rw[this];rintro rfl;exact hm ha
   .rcases Bx.mp hw with h|h
    .exact hts w h
    .have:w=y:=by simpa using h
     rw[this];exact hyr
 .rintro ρ L4 ⟨ts,z,rfl,hnd,hts,hl,hp,rfl⟩;refine⟨decide_eq_true (AT hg),?_⟩;rw[Ah,hrl] at hl hp;rfl';exact⟨rfl,q ts _ hnd hts (hp (by omega)) (by omega) _ (hpre.trans (Am _ _)) Ac⟩
abbrev OH(ws:AM4)(ps:List D):Prop:=(∀p∈ps,Dq ws p)/\0<ps.length/\ps.length<=3
noncomputable abbrev FT:=List (Str×Str)
abbrev BG(e:Str×Str):D:=.tup [.str e.1,.str e.2]
abbrev Hx(exs:FT):Prop:=∀e∈exs,BF e.1/\e.1.length<=100/\e.2.length<=10000
def Uu:∀{xs:List D},(∀x∈xs,∃t,x=D.str t)->∃ys,CA xs=some ys
 |[],_=>⟨[],rfl⟩
 |x::xs,h=>by
  obtain⟨t,rfl⟩:=h x Aw;obtain⟨ys,e⟩:=Uu λz hz=>h z (Ax _ hz);exact⟨t::ys,by simp[CA,e]⟩
def AB8{y:Str}{ps:List D}(hy:y.length<=1000)(hs:BF y)(hp:∀p∈ps,FS p)(ha:∀p∈ps,∃t,Cp y p=.str t)(hl:ps.length<=3):∃a:Str,Iy y ps=.str a/\a.length<=3000:=by
 obtain⟨ys,e⟩:=Uu (xs:=ps.map (Cp y)) λx hx=>by
  rw[BA] at hx;obtain⟨p,hp',rfl⟩:=hx;exact ha p hp'
 have hsum:=Ul hy hs hp e;refine⟨Txt.join "" ys,by unfold Iy;rw[e],?_⟩;have:=join_len "" ys;have e0:(Str.ofString "").length=0:=rfl;rw[e0] at this;have:ps.length*1000<=3*1000:=ALk _ hl;omega
abbrev IZ(ps:List D)(y:Str):Str:=match Iy y ps with|.str a=>a|_=>""
def SO(xs:List D)(k:Nat):cutD xs none (some (k:Int))=xs.take k:=by
 unfold cutD;have e:HT.sIx xs.length 0 none=0:=rfl;rw[e,AMC,Nat.sub_zero,HT.AIr]
 by_cases h:k<=xs.length
 .rw[Nat.min_eq_left h]
 .rw[Nat.min_eq_right (by omega),Ec,AMD (by omega)]
def SR(xs:List D)(k:Nat):cutD xs (some (k:Int)) none=xs.drop k:=by
 unfold cutD;have e:HT.sIx xs.length xs.length none=xs.length:=rfl;rw[e,HT.AIr]
 by_cases h:k<=xs.length
 .rw[Nat.min_eq_left h,AMD (by simp)]
 .rw[Nat.min_eq_right (by omega),AMB,List.drop_of_length_le (by omega)];simp
def AEl{Q:ANb}{L:AB}{ts:AM4}{ps:List D}{t:Nat}(c:Int)(htx:L[t]?=some (.lst (ts.map D.str)))(ht:HL ts)(hl:ts.length<=1000)(hp:∀p∈ps,FS p)(ha:∀p∈ps,Hy ts p)(hpl:ps.length<=3)
  (q:∀exs:FT,exs.map Prod.fst=ts->Hx exs->∀k L',L <+: L'->L'[k]?=some (.lst (exs.map BG))->Q (.ref k) L'):W2 (Jp [.tup ps,.ref t,.int c] L) Q:=by
 have hans:∀y∈ts,Iy y ps=.str (IZ ps y)/\(IZ ps y).length<=3000:=λy hy=>by
  obtain⟨a,e,hl⟩:=AB8 (by have:=ht y hy;omega) (ht y hy).1 hp (λp hp=>ha p hp y hy) hpl;have:IZ ps y=a:=by unfold IZ;rw[e]
  rw[this];exact⟨e,hl⟩
 unfold Jp;refine Fb rfl ?_;unfold Ou;refine Bk (λρ L'=>L'=L++[Ob.lst ((ts.map λy=>(y,IZ ps y)).map BG)]/\ρ=[some (.tup ps),some (.ref t),some (.int c),some (.ref L.length),none,none,none,none]) ?_ ?_
 .rfl';refine FA (I:=λj ρ L2=>(∃a,ρ=[a,some (.tup ps)])/\L2=L++[Ob.lst (((ts.take j).map λy=>(y,IZ ps y)).map BG)]) _ 0 _ _ ⟨⟨none,rfl⟩,rfl⟩ ?_ ?_
  .rintro i2 z ρ L2 hz ⟨⟨a,rfl⟩,rfl⟩;rw[Ar] at hz;obtain⟨y,hy,hz⟩:=mS hz;cases hz;have hym:=Bj hy;have hyt:=ht y hym;have hi2:i2<ts.length:=(Ay.mp hy).1;have htk:ts.take (0+i2+1)=ts.take (0+i2)++[y]:=by rw[BW,ALw,hy];rfl
   refine⟨decide_eq_true (AT htx),?_⟩;rfl';refine AEg (by omega) hyt.1 hp (by omega) ?_;rfl';refine⟨_,Ac,by simp;omega,⟨_,rfl⟩,?_⟩;rw[htk,(hans y hym).1];simp[BG]
  .rintro ρ L2 ⟨_,rfl⟩;refine⟨decide_eq_true (AT htx),?_⟩;rw[BW,Ah,Ec];exact⟨rfl,rfl⟩
 rintro ρ L' ⟨rfl,rfl⟩;generalize hxs:(ts.map λy=>(y,IZ ps y))=exs;have hfst:exs.map Prod.fst=ts:=by rw[<-hxs,Bt];exact List.map_id ts
 have hok:∀e∈exs,BF e.1/\e.1.length<=100/\e.2.length<=3000:=λe he=>by
  rw[<-hxs,BA] at he;obtain⟨y,hy,rfl⟩:=he;exact⟨(ht y hy).1,(ht y hy).2,(hans y hy).2⟩
 have hok':Hx exs:=λe he=>⟨(hok e he).1,(hok e he).2.1,by have:=(hok e he).2.2;omega⟩;have hxl:exs.length<=1000:=by rw[<-hxs];simpa using hl
 refine Bk (λρ L2=>∃(k:Nat) (exs:FT) (a b e f:Option D),L <+: L2/\L2[k]?=some (.lst (exs.map BG))/\exs.map Prod.fst=ts/\Hx exs/\ρ=[some (.tup ps),some (.ref t),some (.int c),some (.ref k),a,b,e,f]) ?_ ?_
 .have done:∀{p:Prop},p->p:=λh=>h;have keepIt:∃(k:Nat) (exs':FT) (a b e f:Option D),L <+: (L++[Ob.lst (exs.map BG)])/\(L++[Ob.lst (exs.map BG)])[k]?=some (.lst (exs'.map BG))/\exs'.map Prod.fst=ts/\Hx exs'/\[some (D.tup ps),some (.ref t),some (.int c),some (.ref L.length),none,none,none,none]=[some (.tup ps),some (.ref t),some (.int c),some (.ref k),a,b,e,f]:=⟨L.length,exs,none,none,none,none,Am _ _,Ac,hfst,hok',rfl⟩;rfl';refine BU (λh1=>?_) (λh1=>?_)
  .rfl';refine BU (λh2=>?_) (λh2=>?_)
   .have h2':0<exs.length:=by simpa using h2
    have hml:(((exs.map BG).length:Nat):Int)=exs.length:=by simp
    rfl';have a0:=GW (c / 4) (b:=((exs.map BG).length:Int)) (by omega);have a1:=GY (c / 4) (b:=((exs.map BG).length:Int)) (by omega);generalize hat:(c / 4 % ((exs.map BG).length:Int))=at0 at a0 a1 ⊢;obtain⟨n,rfl⟩:∃n:Nat,at0=(n:Int):=⟨at0.toNat,by omega⟩;have hlt:n<exs.length:=by omega
    obtain⟨ex,hex0⟩:∃ex,exs[n]?=some ex:=⟨exs[n],by simp[hlt]⟩
    have hsplit:exs=exs.take n++ex::exs.drop (n+1):=by obtain⟨h1,h2⟩:=Ay.mp hex0;rw[<-h2,List.getElem_cons_drop,AMS]
    have ex0:atI (exs.map BG) (n:Int)=some (BG ex):=DZ (by rw[Ar,hex0];rfl);have hex:=hok ex (Bj hex0);refine DB Ac ex0 ?_;rw[show BG ex=D.tup [.str ex.1,.str ex.2] from rfl];rfl';have ha1:(Str.ofString "a").length=1:=by decide
    have s1:=Txt.slice_le (ex.2++"a") none (some 72);have s2:=Txt.slice_le ex.2 none (some (-1));have s3:=Txt.slice_le ex.2 (some 1) none;have s4:=Txt.slice_le ex.2 none (some 1);rw[OA,ha1] at s1;refine Nl (by rw[ha1];omega) ?_;rfl';refine Nl (by omega) ?_;rfl';refine Gd _ Ac (by decide) (by simp) λd hd=>?_
    have hd':∃o:Str,d=.str o/\o.length<=10000:=by
     simp only[Aa,Dw,or_false] at hd;rcases hd with rfl|rfl|rfl|rfl
     .exact⟨_,rfl,by omega⟩
     .exact⟨_,rfl,by omega⟩
     .exact⟨_,rfl,by rw[OA];omega⟩
     .exact⟨_,rfl,by decide⟩
    obtain⟨o,rfl,ho⟩:=hd';rfl';rw[SO];refine SA (by wtm_at "z_lk") Ac (by simp;omega) ?_;rfl';have en1:((n:Int)+1)=((n+1:Nat):Int):=by omega
    rw[en1,SR];refine SA (by wtm_at "z_lk") Ac (by simp;omega) ?_;refine⟨_,exs.take n++(ex.1,o)::exs.drop (n+1),_,_,_,_,by wtm_at "z_pf",?_,?_,λe he=>?_,rfl⟩
    .rw[Ac];simp[BG,List.map_take,List.map_drop]
    .rw[<-hfst]
     conv=>rhs;rw[hsplit]
     simp
    .rcases Bx.mp he with h|h
     .exact hok' e (AME h)
     .rcases Aa.mp h with rfl|h
      .exact⟨hex.1,hex.2.1,ho⟩
      .exact hok' e (List.mem_of_mem_drop h)
   .rfl';exact keepIt
  .rfl';exact keepIt
 .rintro ρ L2 ⟨k,exs,a,b,e,f,hpre,hg,h1,h2,rfl⟩;rfl';exact⟨rfl,q exs h1 h2 k L2 hpre hg⟩
def AEi{Q:ANb}{L:AB}{ns:ANA}(hb:∀z∈ns,Builtin.Int.intBits z<=1048576)(hn:ns.length<=63)
  (q:∀(ws:AM4) (ps:List D) (exs:FT) L' kw ke kk,Da ws->OH ws ps->Hx exs->(exs.map Prod.fst).Nodup->exs.length<=6->L <+: L'->L'[kw]?=some (.lst (ws.map D.str))->L'[ke]?=some (.lst (exs.map BG))->L'[kk]?=some (.lst [.ref kw,.tup ps,.ref ke])->Q (.ref kk) L') :
  W2 (Jn [.fz (ns.map .int)] L) Q:=by
 unfold Jn;refine Fb rfl ?_;unfold Ol;refine Bk (λρ L'=>∃ws,Da ws/\L <+: L'/\L'[L.length]?=some (.lst (ws.map D.str))/\ρ=[some (.fz (ns.map .int)),some (.ref L.length),none,none]) ?_ ?_
 .rfl';refine Ho hb hn (by decide) (by decide) λc hc1 hc2=>?_;rfl';exact AEd _ λws L' h1 h2 h3=>⟨ws,h1,h2,h3,rfl⟩
 rintro ρ L1 ⟨ws,hws,hpre1,hkw,rfl⟩;have hwl:(((ws.map D.str).length:Nat):Int)=ws.length:=by simp
 refine Bk (λρ L'=>∃(ts:AM4) (kt:Nat),HL ts/\ts.Nodup/\ts.length<=6/\(ws≠[]\/∀y∈ts,y≠"")/\L1 <+: L'/\L'[kt]?=some (.lst (ts.map D.str))/\ρ=[some (.fz (ns.map .int)),some (.ref L.length),some (.ref kt),none]) ?_ ?_
 .rfl';refine AEe hb hn 4 10 (by decide) (by decide) (by decide) (by decide) λts L2 hnd hts hl0 hl6 k hpre hg=>?_;have hkw2:=DJ hpre hkw;rfl';refine FA (I:=λj ρ L3=>(∃a,ρ=[a,some (.ref L.length)])/\L3=L2++[Ob.lst (((ts.take j).filter λ(y:Str)=>decide (y≠("":Str)) || decide (ws≠[])).map D.str)]) _ 0 _ _ ⟨⟨none,rfl⟩,rfl⟩ ?_ ?_
  .rintro i2 z ρ L3 hz ⟨⟨a,rfl⟩,rfl⟩;rw[Ar] at hz;obtain⟨y,hy,hz⟩:=mS hz;cases hz;have hi2:i2<ts.length:=(Ay.mp hy).1;have htk:ts.take (0+i2+1)=ts.take (0+i2)++[y]:=by rw[BW,ALw,hy];rfl
   refine⟨decide_eq_true (AT hg),?_⟩;have hfl:((ts.take (0+i2)).filter λ(y:Str)=>decide (y≠("":Str)) || decide (ws≠[])).length<16777216:=Nat.lt_of_le_of_lt (List.length_filter_le _ _) (by simp;omega);rfl';refine BU (λh1=>?_) (λh1=>?_)
   .rfl';refine BU (λh2=>?_) (λh2=>?_)
    .rfl';refine⟨_,Ac,by simpa using hfl,⟨_,rfl⟩,?_⟩;have hw':ws≠[]:=by rintro rfl;simp at h2
     rw[htk,List.filter_append];simp[hw']
    .rfl';refine⟨⟨_,rfl⟩,?_⟩
     have hw':ws=[]:=by
      rcases ws with _|⟨x,r⟩
      .rfl
      .exfalso;apply h2;simp
     rw[htk,List.filter_append];simp[hw',h1]
   .rfl';refine⟨_,Ac,by simpa using hfl,⟨_,rfl⟩,?_⟩;rw[htk,List.filter_append];simp[h1]
  .rintro ρ L3 ⟨_,rfl⟩;refine⟨decide_eq_true (AT hg),?_⟩;rw[BW,Ah,Ec];refine⟨ts.filter λ(y:Str)=>decide (y≠("":Str)) || decide (ws≠[]),L2.length,λy hy=>hts y (AMJ.mp hy).1,hnd.filter _,CD (List.length_filter_le _ _) hl6,?_,hpre.trans (Am _ _),Ac,rfl⟩
   by_cases hw:ws=[]
   .refine .inr λy hy=>?_;have:=(AMJ.mp hy).2;simpa[hw] using this
   .exact .inl hw
 rintro ρ L2 ⟨ts,kt,hts,hnd,hl6,hne,hpre2,hkt,rfl⟩;have hkw2:=DJ hpre2 hkw;refine Bk (λρ L'=>L'=L2/\∃ps,Sj ws ts ps/\ρ=[some (.fz (ns.map .int)),some (.ref L.length),some (.ref kt),some (.tup ps)]) ?_ ?_
 .rfl';refine Ho hb hn (by decide) (by decide) λc hc1 hc2=>?_;rfl';exact AEf _ hkw2 hkt hws hts (by omega) hne λps hps=>⟨rfl,ps,hps,rfl⟩
 rintro ρ L3 ⟨rfl,ps,hps,rfl⟩;rfl';refine Ho hb hn (by decide) (by decide) λc hc1 hc2=>?_;rfl';refine AEl _ hkt hts (by omega) (λp hp=>(hps.1 p hp).piece hws) hps.2.1 hps.2.2.2 λexs he1 he2 ke L4 hpre4 hke=>?_;rfl';refine⟨rfl,q ws ps exs _ L.length ke _ hws ⟨hps.1,hps.2.2⟩ he2 (by rw[he1];exact hnd) ?_ ((hpre1.trans hpre2).trans (hpre4.trans (Am _ _))) (AT (DJ hpre4 hkw2)) (AT hke) Ac⟩;have:=congrArg List.length he1;simp at this;omega
abbrev Wg:List D:=[.str "small",.str "great",.str "figure",.str "mark",.str "any"]
abbrev SM:List D:=[.str "ahead",.str "behind"]
abbrev p1(k:D):List D:=[D.int 1,.int 2,.int (-1),.int (-2)].flatMap λn=>SM.flatMap λe=>[D.tup [k,n,e]]
abbrev DX:List D:=Wg.flatMap p1
def RI:∀p∈DX,Du p:=by
 intro p hp;simp only[DX,p1,Wg,SM,ALf,Aa,Dw,or_false] at hp;obtain⟨k,hk,n,hn,e,he,rfl⟩:=hp
 have h1:∃s:Str,k=.str s/\s∈([("small":Str),"great","figure","mark","any"]:AM4):=by rcases hk with rfl|rfl|rfl|rfl|rfl <;> exact⟨_,rfl,by decide +kernel⟩
 have h2:∃i:Int,n=.int i/\LW i:=by
  rcases hn with rfl|rfl|rfl|rfl
  .exact⟨_,rfl,.inl rfl⟩
  .exact⟨_,rfl,.inr (.inl rfl)⟩
  .exact⟨_,rfl,.inr (.inr (.inl rfl))⟩
  .exact⟨_,rfl,.inr (.inr (.inr rfl))⟩
 have h3:∃s:Str,e=.str s/\(s = "ahead"\/s = "behind"):=by
  clear hk hn h1 h2;rcases he with rfl|rfl
  .exact⟨_,rfl,.inl rfl⟩
  .exact⟨_,rfl,.inr rfl⟩
 obtain⟨s,rfl,hs⟩:=h1;obtain⟨i,rfl,hi⟩:=h2;obtain⟨e,rfl,he'⟩:=h3;exact⟨s,i,e,rfl,hi,he',hs⟩
def RH:DX.length=40:=by decide +kernel
def AHF{Q:ANb}{L:AB}(h:∀L',L'[L.length]?=some (.lst DX)->L <+: L'->Q (.ref L.length) L'):W2 (Ka [] L) Q:=by
 unfold Ka;refine Fb rfl ?_;simp only[OR,zx,zy,zz];rfl';refine Qj (λρ=>∃a b c,ρ=[some (.ref L.length),a,b,c]) L.length 8 40 p1 Ac ⟨none,none,none,rfl⟩ (λx _=>Ae _) (by decide) ?_ ?_
 .rintro x hx ρ L1 acc1 ⟨a,b,c,rfl⟩ hkp hl hB;refine⟨rfl,?_⟩;rfl';refine Qj (λρ=>∃b c,ρ=[some (.ref L.length),some x,b,c]) L.length 2 48 (λn=>SM.flatMap λe=>[D.tup [x,n,e]]) hl ⟨_,_,rfl⟩ (λx _=>Ae _) (by show acc1.length+8<=48;omega) ?_ ?_
  .rintro n hn ρ L2 acc2 ⟨b,c,rfl⟩ hkp2 hl2 hB2;refine⟨rfl,?_⟩;rfl';refine Qj (λρ=>∃c,ρ=[some (.ref L.length),some x,some n,c]) L.length 1 50 (λe=>[D.tup [x,n,e]]) hl2 ⟨_,rfl⟩ (λx _=>Ae _) (by show acc2.length+2<=50;omega) ?_ ?_
   .rintro e he ρ L3 acc3 ⟨c,rfl⟩ hkp3 hl3 hB3;refine⟨rfl,?_⟩;rfl';refine Gi hl3 (by omega) ?_;exact⟨⟨_,rfl⟩,.set _ _ _,Cu hl3⟩
   .rintro ρ L3 ⟨c,rfl⟩ hkp3 hl3;exact⟨rfl,⟨_,_,rfl⟩,hkp3,hl3⟩
  .rintro ρ L2 ⟨b,c,rfl⟩ hkp2 hl2;exact⟨rfl,⟨_,_,_,rfl⟩,hkp2,hl2⟩
 .rintro ρ L1 ⟨a,b,c,rfl⟩ hkp hl;refine⟨rfl,?_⟩;rfl';exact⟨rfl,h _ hl (Wk hkp)⟩
abbrev Aq(S:AM9)(L L':AB):Prop:=L.length<=L'.length/\∀j,j<L.length->j∉S->L'[j]?=L[j]?
def Aq.refl(S:AM9)(L:AB):Aq S L L:=⟨Ae _,λ_ _ _=>rfl⟩
def Aq.trans{S:AM9}{L L1 L2:AB}(a:Aq S L L1)(b:Aq S L1 L2):Aq S L L2:=⟨CD a.1 b.1,λj h1 h2=>by rw[b.2 j (Cm h1 a.1) h2,a.2 j h1 h2]⟩
def Aq.app(S:AM9)(L M:AB):Aq S L (L++M):=⟨by simp,λj h _=>by rw[Ee h]⟩
def Aq.set{S:AM9}{L L1:AB}{k:Nat}{o:Ob}(h:Aq S L L1)(hk:k∈S\/L.length<=k):Aq S L (L1.set k o):=⟨by rw[ALr];exact h.1,λj h1 h2=>by
 rw[Dx (λe=>by subst e;rcases hk with z|z;exact h2 z;omega),h.2 j h1 h2]⟩
def Aq.step{S S':AM9}{L L1 L2:AB}(a:Aq S L L1)(b:Aq S' L1 L2)(i:∀j∈S',j∈S\/L.length<=j):Aq S L L2:=⟨CD a.1 b.1,λj h1 h2=>by
 rw[b.2 j (Cm h1 a.1) (λz=>by rcases i j z with q|q;exact h2 q;omega),a.2 j h1 h2]⟩
def Aq.get{S:AM9}{L L':AB}{j:Nat}{o:Ob}(h:Aq S L L')(n:j∉S)(e:L[j]?=some o):L'[j]?=some o:=by rw[h.2 j (Ay.mp e).1 n];exact e
def Aq.pre{L L':AB}(h:Aq [] L L'):L <+: L':=by rw[List.prefix_iff_getElem?];intro j hj;rw[h.2 j hj (by simp)];simp[hj]
def Aq.of_pre{S:AM9}{L L':AB}(h:L <+: L'):Aq S L L':=by obtain⟨M,rfl⟩:=h;exact .app _ _ _
def Aq.mono{S S':AM9}{L L':AB}(h:Aq S L L')(i:∀j∈S,j∈S'\/L.length<=j):Aq S' L L':=⟨h.1,λj h1 h2=>h.2 j h1 λz=>by rcases i j z with q|q;exact h2 q;omega⟩
def CY{L L':AB}{j:Nat}{o:Ob}(h:L <+: L')(e:L[j]?=some o):L'[j]?=some o:=by obtain⟨M,rfl⟩:=h;exact AT e
def Ni{L:AB}{j k:Nat}{a o o':Ob}(hj:L[j]?=some o)(hk:L[k]?=some o')(ne:o≠o'):(L.set j a)[k]?=some o':=by rw[Dx (λe=>by subst e;rw[hj] at hk;exact ne (Option.some.inj hk))];exact hk
def Cs{L:AB}{j:Nat}{o:Ob}(h:L[j]?=some o):j<L.length:=(Ay.mp h).1
def HS{ok:AB->Bool}{g:GF}{elt:EF}{L0:AB}{Q:AB->Prop}(P:Fm->Prop)(f:D->D){items:List D}{ρ:Fm}(hok:∀acc,ok (L0++[.lst acc])=true)(hp:P ρ)(hz:items.length<=16777216)
  (h:∀x∈items,∀ρ,P ρ->W1 (g x ρ) λρ1=>P ρ1/\∀acc,W2 (elt ρ1 (L0++[.lst acc])) λd L2=>L2=L0++[.lst acc]/\d=f x)
  (q:Q (L0++[.lst (items.map f)])):W1 (DE ok g Cn elt L0.length items ρ (L0++[.lst []])) Q:=by
 refine FA (I:=λj ρ L=>P ρ/\L=L0++[.lst ((items.take j).map f)]) items 0 ρ _ ⟨hp,by simp⟩ ?_ ?_
 .rintro i x ρ L e ⟨hp,rfl⟩;refine⟨hok _,?_⟩;have hi:i<items.length:=(Ay.mp e).1;obtain⟨ρ1,e1,hp1,h2⟩:=h x (Bj e) ρ hp;obtain⟨d,L2,e3,rfl,rfl⟩:=h2 ((items.take (0+i)).map f);refine⟨ρ1,e1,true,_,rfl,f x,_,e3,(items.take (0+i)).map f,by simp,by simp;omega,hp1,?_⟩;have ht:items.take (0+i+1)=items.take (0+i)++[x]:=by rw[BW,ALw,e];rfl
  rw[ht,Cd];simp
 .rintro ρ L ⟨_,rfl⟩;exact⟨hok _,by simpa using q⟩
def Fd{α:Type}{xs:List α}{i:Nat}{x:α}(h:xs[i]?=some x):xs.take (0+i+1)=xs.take (0+i)++[x]:=by rw[BW,ALw,h];rfl
abbrev Ft(d:Str)(xs ys:List D):List D:=xs.flatMap λx=>ys.map λy=>.tup [.str d,x,y]
def IX(d:Str)(xs ys:List D):(Ft d xs ys).length=xs.length*ys.length:=by
 unfold Ft
 induction xs with
 |nil=>simp
 |cons x xs ih=>rw[AL3,By,ih,Ah,DQ,ALd];omega
def AGt{Q:ANb}{L:AB}{d:Str}{a b:Nat}{xs ys:List D}(ha:L[a]?=some (.lst xs))(hb:L[b]?=some (.lst ys))(hz:xs.length*ys.length<=10000000)(hy:ys.length<=1000000)
  (h:∀L2,L <+: L2->L2[L.length]?=some (.lst (Ft d xs ys))->Q (.ref L.length) L2):W2 (KR [.str d,.ref a,.ref b] L) Q:=by
 unfold KR;refine Fb rfl ?_;unfold QC;have hal:=Cs ha;have hbl:=Cs hb;rfl';refine Ce (λj ρ L'=>L <+: L'/\L'[L.length]?=some (.lst (Ft d (xs.take j) ys))/\∃e,ρ=[some (.str d),some (.ref a),some (.ref b),some (.ref L.length),e]) _ 0 _ _ ⟨Am _ _,Ac,none,rfl⟩ ?_ ?_
 .rintro i x ρ L' hx ⟨hp,hl,e,rfl⟩;refine⟨decide_eq_true (CY hp ha),?_⟩;have hb':=CY hp hb;have hi:i<xs.length:=(Ay.mp hx).1;rfl';refine HS (λρ=>∃e,ρ=[e,some (.str d),some x]) (λy=>.tup [.str d,x,y]) (λacc=>decide_eq_true (AT hb')) ⟨_,rfl⟩ (by omega) ?_ ?_
  .rintro y hy ρ ⟨e,rfl⟩;rfl';refine⟨⟨_,rfl⟩,λacc=>?_⟩;rfl';exact⟨rfl,rfl⟩
  .rfl';have hll:=Cs hl;refine Rz (AT hl) Ac ?_ ?_
   .rw[IX,Ah,FZ];have h1:min (0+i) xs.length*ys.length<=xs.length*ys.length:=ALm (Nat.min_le_right _ _) (Ae _);omega
   .rfl';refine⟨NI (hp.trans (Am _ _)) (Ae _),?_,_,rfl⟩;rw[Cu (AT hl),Fd hx];unfold Ft;rw[AMF];simp
 .rintro ρ L' ⟨hp,hl,e,rfl⟩;refine⟨decide_eq_true (CY hp ha),?_⟩;rfl';refine⟨rfl,h _ hp ?_⟩;simpa using hl
abbrev Mq(w:Str):D:=.tup [.str "word",.str w]
abbrev ED:AM4:=["copy","raise","sink"]
def NH{kvs:List (NK×D)}{k:NK}{d:D}{ep:Nat}(h:k∉kvs.map (·.1)):CO kvs k d=kvs++[(k,d)]/\epN kvs k ep=ep+1:=by
 have:(kvs.any λkv=>decide (kv.1=k))=false:=by rw[AMH];intro ha;obtain⟨x,hx,e⟩:=List.any_eq_true.mp ha;exact h (by rw[<-of_decide_eq_true e];exact CN hx)
 unfold CO epN;rw[this];exact⟨rfl,rfl⟩
def AEr{kvs:List (NK×D)}{k:NK}(h:k∉kvs.map (·.1)):BL kvs k=none:=by
 unfold BL;rw[AMT.mpr]
 .rfl
 .intro x hx hd;exact h (by rw[<-of_decide_eq_true hd];exact CN hx)
def WW{kvs:List (NK×D)}{i:Nat}{k:NK}{d:D}(nd:(kvs.map (·.1)).Nodup)(h:kvs[i]?=some (k,d)):BL kvs k=some d:=by
 induction kvs generalizing i with
 |nil=>simp at h
 |cons x xs ih =>
  rw[Ak,ALR] at nd;unfold BL
  cases i with
  |zero =>
   simp at h;subst h;simp
  |succ i =>
   have h':xs[i]?=some (k,d):=by simpa using h
   have hne:x.1≠k:=λe=>nd.1 (by rw[e];exact CN (f:=λz:NK×D=>z.1) (Bj h'));rw[Ez,decide_eq_false hne];exact ih nd.2 h'
abbrev Dd(L:AB)(r:Nat)(w:Int)(a:Nat)(kvs:List (NK×D))(ep:Nat):Prop:=L[r]?=some (.ins AND [(ANE,.int w),(ANH,.ref a)])/\L[a]?=some (.dt kvs ep)
def RS{Q:ANb}{L:AB}{k:Nat}{w:Int}(hk:L[k]?=some (.ins AND []))(h:∀L2,Dd L2 k w L.length [] 0->L2.length=L.length+1->Aq [k] L L2->Q .non L2):W2 (zm [.ref k,.int w] L) Q:=by
 unfold zm;refine Kc rfl ?_;unfold Oc;have hkl:=Cs hk;rfl';have e1:(L.set k (.ins AND (EI ANE (.int w) [])))[k]?=some (.ins AND [(ANE,.int w)]):=Cu hk;refine XN (AT e1) rfl rfl ?_;rfl'
 have e2:(((L.set k (.ins AND (EI ANE (.int w) [])))++[Ob.dt [] 0]).set k (.ins AND (EI ANH (.ref (L.set k (.ins AND (EI ANE (.int w) []))).length) [(ANE,.int w)])))[k]?=some (.ins AND [(ANE,.int w),(ANH,.ref L.length)]):=by rw[Cu (AT e1),ALr];rfl
 refine⟨λhp=>?_,h _ ⟨e2,?_⟩ (by simp) ?_⟩
 .have:=CY hp hk;rw[e2] at this;cases this
 .rw[Dx (by omega)];have:=Ac (L:=L.set k (.ins AND (EI ANE (.int w) []))) (a:=Ob.dt [] 0)
  rwa [ALr] at this
 .exact((((Aq.refl _ _).set (.inl (by simp))).trans (.app _ _ _)).set (.inl (by simp)))
abbrev Mx(W:D)(g m nd nn rt:Nat):List (Str×D):=[(ANI,W),(ANF,.ref g),(ANK,.ref m),(ANG,.ref nd),(ANL,.ref nn),(ANM,.ref rt)]
abbrev kfD(d:D):NK:=(dNK d).getD []
def Kq{d:D}(h:(dNK d).isSome=true):dNK d=some (kfD d):=by
 unfold kfD
 cases e:dNK d with
 |none=>rw[e] at h;cases h
 |some k=>rfl
def JE{α β:Type}{f:α->β}:∀{l:List α},(l.map f).Nodup->∀{a b},a∈l->b∈l->f a=f b->a=b
 |[],_,_,_,h,_,_=>nomatch h
 |x::l,h,a,b,ha,hb,e=>by
  rw[Ak,ALR] at h;rcases Aa.mp ha with ha'|ha'
  .rcases Aa.mp hb with hb'|hb'
   .rw[ha',hb']
   .exact absurd (by rw[<-ha',e];exact CN hb') h.1
  .rcases Aa.mp hb with hb'|hb'
   .exact absurd (by rw[<-hb',<-e];exact CN ha') h.1
   .exact JE h.2 ha' hb' e
structure KD {κ:Type} (kd:κ->D):Prop where
 key:∀a,dNK (kd a)=some (kfD (kd a))
 inj:∀a b,kd a=kd b->a=b
def KD.kf{κ:Type}{kd:κ->D}(K:KD kd){a b:κ}(h:kfD (kd a)=kfD (kd b)):a=b :=
 K.inj a b ((Nr (K.key a)).trans (by rw[h];exact(Nr (K.key b)).symm))
def KD.nk{κ:Type}{kd:κ->D}(K:KD kd)(a:κ):Dl (kfD (kd a))=kd a:=(Nr (K.key a)).symm
abbrev AZ(xs:AM4):D:=.tup (xs.map D.str)
abbrev Dz(xs:ANA):D:=.tup (xs.map D.int)
def Rb{α β:Type}{f:α->β}(hf:∀a b,f a=f b->a=b):∀{xs ys:List α},xs.map f=ys.map f->xs=ys
 |[],[],_=>rfl
 |[],_::_,h=>by cases h
 |_::_,[],h=>by cases h
 |x::xs,y::ys,h=>by
  rw[Ak,Ak] at h;have h1:=List.cons.inj h;rw[hf _ _ h1.1,Rb hf h1.2]
def Ct:KD AZ:=⟨λa=>Kq (by
  unfold AZ;show(Fq (a.map D.str)).isSome=true
  induction a with
  |nil=>rfl
  |cons x a ih =>
   rw[Ak];show((Ja (.str x)).bind λk=>(Fq (a.map D.str)).map (k::·)).isSome=true
   cases e:Fq (a.map D.str) with
   |none=>rw[e] at ih;cases ih
   |some y=>rfl),λa b h=>Rb (λ_ _ e=>D.str.inj e) (D.tup.inj h)⟩
def IK:KD Dz:=⟨λa=>Kq (by
  unfold Dz;show(Fq (a.map D.int)).isSome=true
  induction a with
  |nil=>rfl
  |cons x a ih =>
   rw[Ak];show((Ja (.int x)).bind λk=>(Fq (a.map D.int)).map (k::·)).isSome=true
   cases e:Fq (a.map D.int) with
   |none=>rw[e] at ih;cases ih
   |some y=>rfl),λa b h=>Rb (λ_ _ e=>D.int.inj e) (D.tup.inj h)⟩
abbrev CC{κ:Type}[DecidableEq κ](c:List (κ×List D))(k:κ)(ds:List D):List (κ×List D):=if k∈c.map (·.1) then c.map (λe=>if e.1=k then (e.1,e.2++ds) else e) else c++[(k,ds)]
abbrev DM{κ:Type}[DecidableEq κ](c:List (κ×List D))(k:κ):Option (List D):=(c.find? λe=>decide (e.1=k)).map (·.2)
abbrev cont{κ:Type}(es:List (κ×Nat×List D)):List (κ×List D):=es.map λe=>(e.1,e.2.2)
abbrev BK{κ:Type}(es:List (κ×Nat×List D)):AM9:=es.map (·.2.1)
abbrev CB{κ:Type}(kd:κ->D)(es:List (κ×Nat×List D)):List (NK×D):=es.map λe=>(kfD (kd e.1),D.ref e.2.1)
structure DL {κ:Type} (kd:κ->D) (L:AB) (g:Nat) (es:List (κ×Nat×List D)):Prop where
 at_:∃ep,L[g]?=some (.dt (CB kd es) ep)
 it:∀e∈es,L[e.2.1]?=some (.lst e.2.2)
 nd:(BK es).Nodup
 kn:(es.map (·.1)).Nodup
section
variable {κ:Type}[DecidableEq κ]{kd:κ->D}{L L':AB}{g:Nat}{es:List (κ×Nat×List D)}
def LI(es:List (κ×Nat×List D)):(cont es).map (·.1)=es.map (·.1):=by unfold cont;rw[Bt];rfl
def GK{e:κ×Nat×List D}(h:e∈es):e.2.1∈BK es:=CN h
def DL.same(h:DL kd L g es)(hg:L'[g]?=L[g]?)(ha:∀q∈BK es,L'[q]?=L[q]?):DL kd L' g es :=
 ⟨let ⟨ep,e⟩:=h.at_;⟨ep,hg.trans e⟩,λe he=>(ha _ (GK he)).trans (h.it e he),h.nd,h.kn⟩
def DL.lt(h:DL kd L g es){q:Nat}(hq:q∈BK es):q<L.length:=by obtain⟨e,he,rfl⟩:=BA.mp hq;exact Cs (h.it e he)
def DL.glt(h:DL kd L g es):g<L.length:=by obtain⟨ep,e⟩:=h.at_;exact Cs e
def DL.keep{S:AM9}(h:DL kd L g es)(k:Aq S L L')(hg:g∉S)(ha:∀q∈BK es,q∉S):DL kd L' g es:=h.same (k.2 g h.glt hg) λq hq=>k.2 q (h.lt hq) (ha q hq)
def DL.pre(h:DL kd L g es)(p:L <+: L'):DL kd L' g es:=h.keep (S:=[]) (.of_pre p) (by simp) (by simp)
def VQ(K:KD kd):∀{es es':List (κ×Nat×List D)},CB kd es=CB kd es'->(∀e∈es,L[e.2.1]?=some (.lst e.2.2))->(∀e∈es',L[e.2.1]?=some (.lst e.2.2))->es=es'
 |[],[],_,_,_=>rfl
 |[],_::_,h,_,_=>by cases h
 |_::_,[],h,_,_=>by cases h
 |(k,q,ds)::es,(k',q',ds')::es',h,h1,h2=>by
  unfold CB at h;rw[Ak,Ak] at h;have h0:=List.cons.inj h;have hk:=K.kf (congrArg Prod.fst h0.1);have hq:q=q':=by have:=congrArg Prod.snd h0.1;exact D.ref.inj this
  have a1:=h1 _ Aw;have a2:=h2 _ Aw;subst hk hq;rw[a1] at a2;have hd:ds=ds':=Ob.lst.inj (Option.some.inj a2);subst hd;rw[VQ K h0.2 (λe he=>h1 e (Ax _ he)) λe he=>h2 e (Ax _ he)]
def DL.uniq(K:KD kd){es':List (κ×Nat×List D)}(h:DL kd L g es)(h':DL kd L g es'):es=es':=by obtain⟨ep,e⟩:=h.at_;obtain⟨ep',e'⟩:=h'.at_;rw[e] at e';exact VQ K (Ob.dt.inj (Option.some.inj e')).1 h.it h'.it
def FH{β:Type}{es:List (κ×β)}{k:κ}(h:k∈es.map (·.1)):∃e,es.find? (λe=>decide (e.1=k))=some e/\e∈es/\e.1=k:=by
 cases hf:es.find? (λe=>decide (e.1=k)) with
 |none =>
  obtain⟨e,he,rfl⟩:=BA.mp h;have:=AMT.mp hf e he;simp at this
 |some e=>exact⟨e,rfl,AMY hf,by have:=List.find?_some hf;simpa using this⟩
def AF6{β:Type}{es:List (κ×β)}{k:κ}(h:k∉es.map (·.1)):es.find? (λe=>decide (e.1=k))=none:=by rw[AMT];intro e he hd;exact h (by rw[<-of_decide_eq_true hd];exact CN he)
def NW(K:KD kd)(es:List (κ×Nat×List D))(k:κ):BL (CB kd es) (kfD (kd k))=(es.find? λe=>decide (e.1=k)).map λe=>D.ref e.2.1:=by
 unfold BL CB
 induction es with
 |nil=>rfl
 |cons e es ih =>
  rw[Ak,Ez,Ez]
  by_cases h:e.1=k
  .subst h;simp
  .rw[decide_eq_false h,decide_eq_false (λz=>h (K.kf z))];exact ih
def AGW(es:List (κ×Nat×List D))(k:κ):(cont es).find? (λe=>decide (e.1=k))=(es.find? λe=>decide (e.1=k)).map λe=>(e.1,e.2.2):=by unfold cont;rw[List.find?_map];rfl
def DL.get(K:KD kd)(h:DL kd L g es){k:κ}{ds:List D}(e:DM (cont es) k=some ds):∃q,BL (CB kd es) (kfD (kd k))=some (.ref q)/\L[q]?=some (.lst ds):=by
 unfold DM at e;rw[AGW] at e;rw[NW K]
 cases hf:es.find? (λe=>decide (e.1=k)) with
 |none=>rw[hf] at e;cases e
 |some x =>
  rw[hf] at e;have e2:x.2.2=ds:=Option.some.inj e;exact⟨x.2.1,rfl,by rw[<-e2];exact h.it x (AMY hf)⟩
def AEs(K:KD kd)(es:List (κ×Nat×List D))(k:κ):(BL (CB kd es) (kfD (kd k))).isSome=decide (k∈(cont es).map (·.1)):=by
 rw[NW K,LI]
 by_cases h:k∈es.map (·.1)
 .obtain⟨e,he,_⟩:=FH h;rw[he,decide_eq_true h];rfl
 .rw[AF6 h,decide_eq_false h];rfl
def Ym(c:List (κ×List D)){k:κ}(h:k∈c.map (·.1)):CC c k []=c:=by
 unfold CC;rw[if_pos h]
 conv=>rhs;rw[<-List.map_id c]
 apply GV;intro e _
 by_cases z:e.1=k
 .rw[if_pos z];simp
 .rw[if_neg z];rfl
def Yn(c:List (κ×List D))(k:κ)(ds:List D):CC (CC c k []) k ds=CC c k ds:=by
 by_cases h:k∈c.map (·.1)
 .rw[Ym c h]
 .have e1:CC c k []=c++[(k,[])]:=by unfold CC;rw[if_neg h]
  have e2:CC c k ds=c++[(k,ds)]:=by unfold CC;rw[if_neg h]
  rw[e1,e2];unfold CC;rw[if_pos (by simp),Cd]
  congr 1
  .conv=>rhs;rw[<-List.map_id c]
   apply GV;intro e he;rw[if_neg (λz=>h (by rw[<-z];exact CN he))];rfl
  .simp
def Sf(c:List (κ×List D))(k:κ)(ds:List D):(CC c k ds).map (·.1)=if k∈c.map (·.1) then c.map (·.1) else c.map (·.1)++[k]:=by
 unfold CC
 by_cases h:k∈c.map (·.1)
 .rw[if_pos h,if_pos h,Bt];apply GV;intro e _
  show(if e.1=k then (e.1,e.2++ds) else e).1=e.1
  split <;> rfl
 .rw[if_neg h,if_neg h,Cd];rfl
def Se{c:List (κ×List D)}{k:κ}{ds:List D}(h:(c.map (·.1)).Nodup):((CC c k ds).map (·.1)).Nodup:=by
 rw[Sf]
 by_cases z:k∈c.map (·.1)
 .rw[if_pos z];exact h
 .rw[if_neg z,ALa]
  exact⟨h,by simp,λa ha b hb e=>z (by have:b=k:=by simpa using hb
                                      rw[<-this,<-e];exact ha)⟩
def Ia{c:List (κ×List D)}{k k':κ}{ds ps:List D}(h:(k',ps)∈CC c k ds):(k',ps)∈c\/k'=k/\((ps=ds)\/∃qs,(k,qs)∈c/\ps=qs++ds):=by
 unfold CC at h
 by_cases z:k∈c.map (·.1)
 .rw[if_pos z] at h;obtain⟨e,he,h⟩:=BA.mp h
  by_cases y:e.1=k
  .rw[if_pos y] at h;have h1:=congrArg Prod.fst h;have h2:=congrArg Prod.snd h;simp only at h1 h2;refine .inr ⟨by rw[<-h1,y],.inr ⟨e.2,?_,h2.symm⟩⟩;rw[<-y];exact he
  .rw[if_neg y] at h;rw[<-h];exact .inl he
 .rw[if_neg z] at h;rcases Bx.mp h with h|h
  .exact .inl h
  .have h':(k',ps)=(k,ds):=by simpa using h
   cases h';exact .inr ⟨rfl,.inl rfl⟩
abbrev De(c:List (κ×List D))(n b:Nat):Prop:=c.length<=n/\∀e∈c,e.2.length<=b
def De.add{c:List (κ×List D)}{n b m:Nat}{k:κ}{ds:List D}(h:De c n b)(hd:ds.length<=m):De (CC c k ds) (n+1) (b+m):=by
 refine⟨?_,λ⟨k',ps⟩ he=>?_⟩
 .have:=congrArg List.length (Sf c k ds);rw[Ah] at this;rw[this];have h1:=h.1;split
  .rw[Ah];omega
  .rw[By,Ah];simp;omega
 .rcases Ia he with h'|⟨_,h'|⟨qs,h',h2⟩⟩
  .have:=h.2 _ h';simp only at this ⊢;omega
  .simp only;rw[h'];omega
  .have:=h.2 _ h';simp only at this ⊢;rw[h2,By];omega
def De.mono{c:List (κ×List D)}{n b n' b':Nat}(h:De c n b)(h1:n<=n')(h2:b<=b'):De c n' b':=⟨CD h.1 h1,λe he=>CD (h.2 e he) h2⟩
def IW(es:List (κ×Nat×List D)):(cont es).length=es.length:=by unfold cont;rw[Ah]
def Xu{Q:ANb}(K:KD kd){k:κ}{q:Nat}(h:DL kd L g es)(hz:es.length<16777216)(hq:L[q]?=some (.lst []))(hqn:q∉BK es)
  (p:∀L2 q2 es2 old,DL kd L2 g es2->(k,q2,old)∈es2->cont es2=CC (cont es) k []->(∀x∈BK es2,x∈BK es\/x=q)->Aq [g] L L2->L2.length=L.length->Q (.ref q2) L2):W2 (HG (.ref g) [kd k,.ref q] L) Q:=by
 obtain⟨ep,ha⟩:=h.at_
 by_cases hk:k∈es.map (·.1)
 .obtain⟨e,hf,he,hek⟩:=FH hk;refine AFc ha (K.key _) (d:=.ref e.2.1) (by rw[NW K,hf];rfl) ?_;refine p L e.2.1 es e.2.2 h (by rw[<-hek];exact he) ?_ (λx hx=>.inl hx) (.refl _ _) rfl;rw[Ym _ (by rw[LI];exact hk)]
 .have hnk:kfD (kd k)∉(CB kd es).map (·.1):=λz=>by
   unfold CB at z;rw[Bt] at z;obtain⟨e,he,h2⟩:=BA.mp z;exact hk (by rw[<-K.kf h2];exact CN he)
  refine AFd ha (K.key _) (AEr hnk) (by unfold CB;rw[Ah];exact hz) ?_;have hput:=λd ep=>NH (d:=d) (ep:=ep) hnk;rw[(hput _ 0).1,(hput .non _).2];have hgq:g≠q:=λz=>by rw[z,hq] at ha;cases ha
  have er:CB kd es++[(kfD (kd k),D.ref q)]=CB kd (es++[(k,q,[])]):=by unfold CB;rw[Cd];rfl
  rw[er];refine p _ q (es++[(k,q,[])]) [] ⟨⟨_,Cu ha⟩,λe he=>?_,?_,?_⟩ (by simp) ?_ (λx hx=>?_) ((Aq.refl _ _).set (.inl (by simp))) (by simp)
  .rcases Bx.mp he with he|he
   .exact Ni ha (h.it e he) (by simp)
   .have:e=(k,q,[]):=by simpa using he
    subst this;exact HE hgq hq
  .unfold BK;rw[Cd,ALa]
   exact⟨h.nd,by simp,λa ha b hb z=>hqn (by have:b=q:=by simpa using hb
                                            rw[<-this,<-z];exact ha)⟩
  .rw[Cd,ALa]
   exact⟨h.kn,by simp,λa ha b hb z=>hk (by have:b=k:=by simpa using hb
                                           rw[<-this,<-z];exact ha)⟩
  .unfold CC;rw[LI,if_neg hk];unfold cont;rw[Cd];rfl
  .unfold BK at hx;rw[Cd] at hx;rcases Bx.mp hx with hx|hx
   .exact .inl hx
   .exact .inr (by simpa using hx)
def DL.grow{k:κ}{q:Nat}{old ds:List D}(h:DL kd L g es)(hm:(k,q,old)∈es):∃es2,DL kd (L.set q (.lst (old++ds))) g es2/\cont es2=CC (cont es) k ds/\BK es2=BK es:=by
 obtain⟨ep,ha⟩:=h.at_;have hgq:q≠g:=λz=>by have:=h.it _ hm;simp only at this;rw[z,ha] at this;cases this
 have hraw:CB kd (es.map λe=>if e.1=k then (e.1,e.2.1,e.2.2++ds) else e)=CB kd es:=by
  unfold CB;rw[Bt];apply GV;intro e _
  show(kfD (kd (if e.1=k then (e.1,e.2.1,e.2.2++ds) else e).1),D.ref (if e.1=k then (e.1,e.2.1,e.2.2++ds) else e).2.1)=_
  split <;> rfl
 have hadr:BK (es.map λe=>if e.1=k then (e.1,e.2.1,e.2.2++ds) else e)=BK es:=by
  unfold BK;rw[Bt];apply GV;intro e _
  show(if e.1=k then (e.1,e.2.1,e.2.2++ds) else e).2.1=_
  split <;> rfl
 refine⟨es.map λe=>if e.1=k then (e.1,e.2.1,e.2.2++ds) else e,⟨⟨ep,by rw[hraw];exact HE hgq ha⟩,λe he=>?_,by rw[hadr];exact h.nd,?_⟩,?_,hadr⟩
 .obtain⟨e0,he0,rfl⟩:=BA.mp he
  by_cases z:e0.1=k
  .rw[if_pos z];have:e0=(k,q,old):=JE (f:=λe=>e.1) h.kn he0 hm z;subst this;exact Cu (h.it _ hm)
  .rw[if_neg z];refine HE (λy=>z ?_) (h.it e0 he0);have:(k,q,old)=e0:=JE (l:=es) (f:=λe:κ×Nat×List D=>e.2.1) (show(es.map λe=>e.2.1).Nodup from h.nd) hm he0 y;rw[<-this]
 .rw[Bt]
  have:((λe:κ×Nat×List D=>e.1)∘λe=>if e.1=k then (e.1,e.2.1,e.2.2++ds) else e)=λe=>e.1:=by
   funext e
   show(if e.1=k then (e.1,e.2.1,e.2.2++ds) else e).1=e.1
   split <;> rfl
  rw[this];exact h.kn
 .unfold CC;rw[if_pos (by rw[LI];exact CN (f:=λe:κ×Nat×List D=>e.1) hm)];unfold cont;rw[Bt,Bt];apply GV;intro e _
  show((if e.1=k then (e.1,e.2.1,e.2.2++ds) else e).1,(if e.1=k then (e.1,e.2.1,e.2.2++ds) else e).2.2)=if e.1=k then (e.1,e.2.2++ds) else (e.1,e.2.2)
  split <;> rfl
end
def Kn{α β:Type}(f:α->β)(xs:List α)(i:Nat)(a:α)(b:β)(h:i<xs.length):(xs.map f)[i]?.getD b=f (xs.getD i a):=by simp[h]
def Pt{xs ys:AM4}{i:Nat}{x:D}(hl:ys.length=xs.length)(h:(Ef (xs.map D.str).length [xs.map D.str,ys.map D.str])[i]?=some x):i<xs.length/\x=.tup [.str (xs.getD i ""),.str (ys.getD i "")]:=by
 unfold Ef at h;rw[Ar,Ah] at h
 by_cases hi:i<xs.length
 .rw[ALs hi] at h;refine⟨hi,?_⟩;have h':=Option.some.inj h;rw[<-h'];simp only[Ak,AL1];rw[Kn D.str xs i "" .non hi,Kn D.str ys i "" .non (by omega)]
 .rw[ALg (by simp;omega)] at h;cases h
def MQ(n:Nat)(yss:List (List D)):(Ef n yss).length=n:=by unfold Ef;simp
abbrev Rq(as w:AM4):Bool:=(List.range as.length).all λi=>Gf (as.getD i "") (w.getD i "")
def AAS{Q:ANb}{L:AB}{as w:AM4}(hl:w.length=as.length)(hz:as.length<=1000)(h:Q (.bl (Rq as w)) L):W2 (KU [AZ as,AZ w] L) Q:=by
 unfold KU;refine BR rfl ?_;unfold QQ AZ;rfl';refine⟨as.map D.str,[w.map D.str],rfl,⟨by simp[hl],by simp,rfl⟩,?_⟩
 refine HS (λρ=>∃e1 e2,ρ=[e1,e2]) (λx=>match x with|.tup [.str a,.str b]=>.bl (Gf a b)|_=>.non) (λacc=>decide_eq_true rfl) ⟨none,none,rfl⟩ (by rw[MQ,Ah];omega) ?_ ?_
 .rintro x hx ρ ⟨e1,e2,rfl⟩;obtain⟨i,hi,hx⟩:=AL9 hx;obtain⟨hi2,rfl⟩:=Pt hl (x:=x) (i:=i) (by rw[List.getElem?_eq_getElem hi,hx]);rfl';refine⟨⟨_,_,rfl⟩,λacc=>?_⟩;rfl';exact⟨rfl,rfl⟩
 .rfl'
  have e0:(Ef (as.map D.str).length [as.map D.str,w.map D.str]).map (λx=>match x with|.tup [.str a,.str b]=>D.bl (Gf a b)|_=>.non)=((List.range as.length).map λi=>Gf (as.getD i "") (w.getD i "")).map D.bl:=by
   apply AMI;intro i;rw[Ar,Ar,Ar]
   cases hx:(Ef (as.map D.str).length [as.map D.str,w.map D.str])[i]? with
   |none =>
    have:as.length<=i:=by have:=List.getElem?_eq_none_iff.mp hx;rw[MQ,Ah] at this;exact this
    rw[ALg (by simp;exact this)];rfl
   |some x =>
    obtain⟨hi2,rfl⟩:=Pt hl hx;rw[ALs hi2];rfl
  rw[e0]
  have e2:∀l:List Bool,blsD (l.map D.bl)=some l:=λl=>by
   induction l with
   |nil=>rfl
   |cons x l ih=>rw[Ak];simp[blsD,ih]
  refine XW Ac (e2 _) ?_;refine⟨rfl,Am _ _,?_⟩;rw[List.all_map];exact h
abbrev Bo(w:AM4)(c:List (AM4×List D))(a:AM4×List D):List (AM4×List D):=if Rq a.1 w=true then CC c a.1 a.2 else c
def Yo{Q:ANb}{L:AB}{g p:Nat}{es:List (AM4×Nat×List D)}{as w:AM4}{ds:List D}(hg:DL AZ L g es)(hp:L[p]?=some (.lst ds))(hpn:p∉BK es)(hl:w.length=as.length)(hn:as.length<=1000)
  (hz:es.length<16777216) (hb:∀e∈cont es,e.2.length+ds.length<=16777216) (hd:ds.length<=16777216)
  (h:∀L2 es2,DL AZ L2 g es2->cont es2=Bo w (cont es) (as,ds)->(∀x∈BK es2,x∈BK es\/L.length<=x)->Aq (g::BK es) L L2->Q .non L2):W2 (Io [.ref g,AZ w,AZ as,.ref p] L) Q:=by
 unfold Io;refine Kc rfl ?_;unfold QL;obtain⟨ep0,hg0⟩:=hg.at_;rfl';refine AAS hl hn ?_
 by_cases hw:Rq as w=true
 .rw[hw];rfl';refine Xu (q:=L.length) Ct (hg.pre (Am _ _)) hz Ac (λz=>ALS _ (hg.lt z)) λL2 q2 es2 old h2 hm hc ha hk hlen=>?_;have hpl:=Cs hp
  have hp2:L2[p]?=some (.lst ds):=hk.get (λz=>by
   have:p=g:=by simpa using z
   obtain⟨ep,e⟩:=hg.at_
   rw[<-this,hp] at e;cases e) (AT hp)
  refine UV (h2.it _ hm) ?_;rfl';refine Rz (h2.it _ hm) hp2 ?_ ?_
  .have:(as,old)∈cont es2:=CN (f:=λe:AM4×Nat×List D=>(e.1,e.2.2)) hm;rw[hc] at this;rcases Ia this with h'|⟨_,h'|⟨qs,h',h3⟩⟩
   .exact hb _ h'
   .rw[h'];simpa using hd
   .rw[h3];simpa using hb _ h'
  .rfl';obtain⟨es3,h3,hc3,ha3⟩:=h2.grow (ds:=ds) hm
   have hcc:cont es3=Bo w (cont es) (as,ds):=by rw[hc3,hc,Yn];unfold Bo;rw[if_pos hw]
   refine⟨λhpre=>?_,h _ es3 h3 hcc (λx hx=>?_) ?_⟩
   .have e:=DL.uniq Ct (hg.pre hpre) h3;refine h L es hg ?_ (λx hx=>.inl hx) (.refl _ _);rw[<-hcc,<-e]
   .rw[ha3] at hx;rcases ha x hx with z|z
    .exact .inl z
    .exact .inr (ALT z.symm)
   .have k1:Aq (g::BK es) L L2:=(Aq.app _ _ _).step hk λj hj=>.inl (by simp at hj;simp[hj]);refine k1.set ?_;rcases ha q2 (GK hm) with z|z
    .exact .inl (Ax _ z)
    .exact .inr (ALT z.symm)
 .rw[Bool.not_eq_true] at hw;rw[hw];rfl';have hcc:cont es=Bo w (cont es) (as,ds):=by unfold Bo;rw[if_neg (by simp[hw])]
  exact⟨λ_=>h L es hg hcc (λx hx=>.inl hx) (.refl _ _),h L es hg hcc (λx hx=>.inl hx) (.refl _ _)⟩
def ABW{Q:ANb}{L:AB}{p:D}{y:Str}(hy:y.length<=1000)(hs:BF y)(hp:Du p)(h:Q (Di p y) L):W2 (zo [p,.str y] L) Q:=by
 obtain⟨kind,nth,edge,rfl,hn,he,_⟩:=hp;obtain⟨d,h1,h2⟩:=NA (λi=>Dm kind (sg y i)) y.cps.size hn (decide (edge = "behind"));simp only[Kg,h1,AMX] at h;refine VA hy ?_ h;rw[Vu hs];have e:(!decide (edge = "ahead"))=decide (edge = "behind"):=by rcases he with rfl|rfl <;> decide
 rw[e];exact h1
abbrev OD(ts:AM4):Prop:=(∀y∈ts,BF y/\y.length<=100)/\ts.length<=100
abbrev Ga(ts:AM4)(p:D):Option (ANA):=EB (ts.map λy=>Di p y)
def Nb:∀{xs:List D} {ys:ANA},EB xs=some ys->xs=ys.map D.int
 |[],ys,h=>by cases h;rfl
 |x::xs,ys,h=>by
  cases x with
  |int s =>
   simp only[EB] at h
   cases e:EB xs with
   |none=>rw[e] at h;cases h
   |some a=>rw[e] at h;cases h;simp[<-Nb e]
  |_=>simp[EB] at h
def Ww:∀{xs:List D},(∀d∈xs,d=.non\/∃t,d=.int t)->DT .non xs=(EB xs).isNone
 |[],_=>rfl
 |x::xs,h=>by
  have ih:=Ww λd hd=>h d (Ax _ hd);rcases h x Aw with rfl|⟨t,rfl⟩
  .rfl
  .have:DT .non (.int t::xs)=DT .non xs:=rfl;rw[this,ih];simp only[EB];cases EB xs <;> rfl
abbrev Co(ts:AM4)(c:List (ANA×List D))(p:D):List (ANA×List D):=match Ga ts p with|some ks=>CC c ks [p]|none=>c
abbrev CI(ts:AM4):List (ANA×List D):=DX.foldl (Co ts) []
def RL{ts:AM4}:∀(ps:List D) {c:List (ANA×List D)} {n b:Nat},De c n b->De (ps.foldl (Co ts) c) (n+ps.length) (b+ps.length)
 |[],c,n,b,h=>h
 |p::ps,c,n,b,h=>by
  have h1:De (Co ts c p) (n+1) (b+1):=by
   unfold Co;split
   .exact h.add (by simp)
   .exact h.mono (by omega) (by omega)
  exact(RL ps h1).mono (by simp;omega) (by simp;omega)
def LN{κ:Type}[DecidableEq κ]:De ([]:List (κ×List D)) 0 0:=⟨Ae _,(λ_ h=>(nomatch h))⟩
def SE{α β:Type}{f:β->α->β}{xs:List α}{i:Nat}{x:α}{b:β}(h:xs[i]?=some x):(xs.take (0+i+1)).foldl f b=f ((xs.take (0+i)).foldl f b) x:=by rw[Fd h,AMZ];rfl
def AGo{Q:ANb}{L:AB}{tx:Nat}{ts:AM4}(ht:L[tx]?=some (.lst (ts.map D.str)))(ok:OD ts)
  (h:∀L2 es,L <+: L2->DL Dz L2 L.length es->cont es=CI ts->(∀x∈BK es,L.length<x)->Q (.ref L.length) L2):W2 (KW [.ref tx] L) Q:=by
 unfold KW;refine Fb rfl ?_;unfold QV;rfl';refine AHF λL1 h1 hp1=>?_;rfl';have hlen1:=Cs h1;have ed1:L1[L.length]?=some (.dt [] 0):=CY hp1 Ac;have e0:(L++[Ob.dt [] 0]).length=L.length+1:=by simp
 have htl:=Cs ht
 refine Ce (λj ρ L'=>Aq [L.length] L1 L'/\(∃e1 e2,ρ=[some (.ref tx),some (.ref L.length),e1,e2])/\∃es,DL Dz L' L.length es/\cont es=(DX.take j).foldl (Co ts) []/\∀x∈BK es,L1.length<=x) _ 0 _ _
  ⟨.refl _ _,⟨none,none,rfl⟩,[],⟨⟨0,ed1⟩,(λ_ h=>(nomatch h)),ALb,ALb⟩,rfl,(λ_ h=>(nomatch h))⟩ ?_ ?_
 .rintro i x ρ L' hx ⟨hk,⟨e1,e2,rfl⟩,es,hd,hc,ha⟩;refine⟨decide_eq_true (hk.get (by simp) h1),?_⟩;have ht1:L'[tx]?=some (.lst (ts.map D.str)):=hk.get (by simp;omega) (CY hp1 (AT ht));have hpl:=RI x (Bj hx);have hi:i<40:=by have:=(Ay.mp hx).1;rw[RH] at this;exact this
  have hb:De (cont es) 40 40:=by
   rw[hc];have:=RL (ts:=ts) (DX.take (0+i)) LN;have hl:(DX.take (0+i)).length<=40:=by rw[FZ,RH];omega
   exact this.mono (by omega) (by omega)
  rfl'
  refine HS (λρ=>∃e,ρ=[e,some x]) (λy=>match y with|.str s=>Di x s|_=>.non) (λacc=>decide_eq_true (AT ht1)) ⟨_,rfl⟩ (by rw[Ah];have:=ok.2;omega) ?_ ?_
  .rintro y hy ρ ⟨e,rfl⟩;obtain⟨s,hs,rfl⟩:=BA.mp hy;rfl';refine⟨⟨_,rfl⟩,λacc=>?_⟩;rfl';refine ABW (by have:=(ok.1 s hs).2;omega) (ok.1 s hs).1 hpl ?_;exact⟨rfl,rfl⟩
  .have em:(ts.map D.str).map (λy=>match y with|.str s=>Di x s|_=>.non)=ts.map λy=>Di x y:=by rw[Bt];rfl
   rw[em]
   have hk2:∀d∈ts.map (λy=>Di x y),d=.non\/∃t,d=.int t:=λd hd=>by
    obtain⟨y,_,rfl⟩:=BA.mp hd;rcases Kh hpl y with e|⟨t,e,_⟩
    .exact .inl e
    .exact .inr ⟨t,e⟩
   rfl'
   refine XR (by
    rw[Bn,CF];refine⟨rfl,λd hd=>?_⟩
    rcases hk2 d hd with rfl|⟨t,rfl⟩ <;> rfl) ?_
   rw[Ww hk2];have hf:=SE (f:=Co ts) (b:=[]) hx
   cases e3:EB (ts.map λy=>Di x y) with
   |none =>
    have e4:Co ts ((DX.take (0+i)).foldl (Co ts) []) x=(DX.take (0+i)).foldl (Co ts) []:=by unfold Co Ga;rw[e3]
    rw[show(none:Option (ANA)).isNone=true from rfl];rfl';exact⟨hk.trans (.app _ _ _),⟨_,_,rfl⟩,es,hd.pre (Am _ _),by rw[hf,e4];exact hc,ha⟩
   |some ks =>
    have e4:Co ts ((DX.take (0+i)).foldl (Co ts) []) x=CC ((DX.take (0+i)).foldl (Co ts) []) ks [x]:=by unfold Co Ga;rw[e3]
    rw[show(some ks).isNone=false from rfl,Nb e3];obtain⟨epd,hd0⟩:=hd.at_;rfl';have hkl:=hk.1;refine Xu (k:=ks) (q:=(L'++[Ob.lst (ks.map D.int)]).length) IK ((hd.pre (Am _ [Ob.lst (ks.map D.int)])).pre (Am _ _)) (by have:=hb.1;rw[IW] at this;omega) Ac (λz=>by have:=hd.lt z;simp at this;omega) λL2 q2 es2 old h2 hm hcc haa hkk hlen=>?_;refine UV (h2.it _ hm) ?_;rfl';refine Gi (h2.it _ hm) ?_ ?_
    .have:(ks,old)∈cont es2:=CN (f:=λe:ANA×Nat×List D=>(e.1,e.2.2)) hm;rw[hcc] at this;have h9:old.length<=40+0:=(hb.add (m:=0) (ds:=[]) (k:=ks) (Ae _)).2 _ this;show old.length<16777216;omega
    .rfl';obtain⟨es3,h3,hc3,ha3⟩:=h2.grow (ds:=[x]) hm;have kk:Aq [L.length] L1 L2:=((hk.trans (.app _ _ _)).trans (.app _ _ _)).trans hkk
     have hq2:L1.length<=q2:=by
      rcases haa q2 (GK hm) with z|z
      .exact ha q2 z
      .rw[z];simp;omega
     refine⟨kk.set (.inr hq2),⟨_,_,rfl⟩,es3,h3,?_,λy hy=>?_⟩
     .rw[hc3,hcc,Yn,hf,e4,hc]
     .rw[ha3] at hy;rcases haa y hy with z|z
      .exact ha y z
      .rw[z];simp;omega
 .rintro ρ L' ⟨hk,⟨e1,e2,rfl⟩,es,hd,hc,ha⟩;refine⟨decide_eq_true (hk.get (by simp) h1),?_⟩;rfl';refine⟨rfl,h _ es ?_ hd ?_ λx hx=>?_⟩
  .have:Aq [L.length] (L++[Ob.dt [] 0]) L':=(Aq.of_pre hp1).trans hk;exact Aq.pre (((Aq.app _ _ _).trans this).mono λj hj=>.inr (by simp at hj;omega))
  .rw[hc,BW,Ec];rfl
  .have:=ha x hx;omega
abbrev FM(ts:AM4)(ss ee:ANA):Bool:=(List.range ts.length).all λi=>decide (ss.getD i 0<ee.getD i 0)
abbrev EW(ts:AM4)(ss ee:ANA)(n:Nat):AM4:=(List.range n).map λi=>Txt.slice (ts.getD i "") (some (ss.getD i 0)) (some (ee.getD i 0))
def Zv{ts:AM4}{ss ee:ANA}{i:Nat}{x:D}(h1:ss.length=ts.length)(h2:ee.length=ts.length)(h:(Ef (ts.map D.str).length [ts.map D.str,ss.map D.int,ee.map D.int])[i]?=some x):i<ts.length/\x=.tup [.str (ts.getD i ""),.int (ss.getD i 0),.int (ee.getD i 0)]:=by
 unfold Ef at h;rw[Ar,Ah] at h
 by_cases hi:i<ts.length
 .rw[ALs hi] at h;refine⟨hi,?_⟩;have h':=Option.some.inj h;rw[<-h'];simp only[Ak,AL1];rw[Kn D.str ts i "" .non hi,Kn D.int ss i 0 .non (by omega),Kn D.int ee i 0 .non (by omega)]
 .rw[ALg (by simp;omega)] at h;cases h
def ABT{Q:ANb}{L:AB}{tx:Nat}{ts:AM4}{ss ee:ANA}(ht:L[tx]?=some (.lst (ts.map D.str)))(hz:ts.length<=1000)(h1:ss.length=ts.length)(h2:ee.length=ts.length)
  (hn:FM ts ss ee=false->Q .non L) (hy:FM ts ss ee=true->Q (.ref L.length) (L++[.lst ((EW ts ss ee ts.length).map D.str)])):W2 (KS [.ref tx,Dz ss,Dz ee] L) Q:=by
 unfold KS;refine AAb rfl ?_;unfold QG Dz;rfl';have e0:∀M:AB,M[tx]?=some (.lst (ts.map D.str))->seqs [.ref tx,.tup (ss.map D.int),.tup (ee.map D.int)] M=some [ts.map D.str,ss.map D.int,ee.map D.int]:=λM hM=>by simp[seqs,CW,hM]
 refine⟨ts.map D.str,[ss.map D.int,ee.map D.int],e0 _ (AT ht),⟨by simp[h1,h2],by simp,rfl⟩,?_⟩;refine Ce (λj ρ L'=>L'=L++[.lst ((EW ts ss ee j).map D.str)]/\(∀i,i<j->i<ts.length->ss.getD i 0<ee.getD i 0)/\∃e1 e2 e3,ρ=[some (.ref tx),some (.tup (ss.map D.int)),some (.tup (ee.map D.int)),some (.ref L.length),e1,e2,e3]) _ 0 _ _ ⟨rfl,λi hi=>(by omega),none,none,none,rfl⟩ ?_ ?_
 .rintro i x ρ L' hx ⟨rfl,hlt,e1,e2,e3,rfl⟩;refine⟨decide_eq_true (e0 _ (AT ht)),?_⟩;obtain⟨hi,rfl⟩:=Zv h1 h2 hx;rfl';refine BU (λhge=>?_) (λhge=>?_)
  .rfl';refine⟨Am _ _,λ_=>hn ?_,λz=>by cases z⟩;rw[AMH];intro hall;unfold FM at hall;have:=CF.mp hall i (CM.mpr hi);have:=of_decide_eq_true this;omega
  .rfl';refine Gi Ac (by unfold EW;simp;omega) ?_;rfl';refine⟨?_,λk hk hkt=>?_,_,_,_,rfl⟩
   .have:EW ts ss ee (0+i+1)=EW ts ss ee (0+i)++[Txt.slice (ts.getD i "") (some (ss.getD i 0)) (some (ee.getD i 0))]:=by
     unfold EW;rw[ALe,Cd,BW];rfl
    rw[this,Cd];simp
   .by_cases z:k=i
    .subst z;omega
    .exact hlt k (by omega) hkt
 .rintro ρ L' ⟨rfl,hlt,e1,e2,e3,rfl⟩;refine⟨decide_eq_true (e0 _ (AT ht)),?_⟩;rw[MQ,Ah,BW] at *;rfl';refine⟨Am _ _,(λz=>by cases z),λ_=>hy ?_⟩;unfold FM;rw[CF];exact λi hi=>decide_eq_true (hlt i (CM.mp hi) (CM.mp hi))
def AGL{Q:ANb}{L:AB}{d y:Str}(hd:d∈ED)(hs:BF y)(hl:y.length<=1000)(h:Q (.str (EV d y)) L):W2 (KQ [.str d,.str y] L) Q:=by
 unfold KQ;refine BR rfl ?_;unfold Px;unfold EV at h;simp only[ED,Aa,Dw,or_false] at hd;rcases hd with rfl|rfl|rfl
 .rw[if_neg (by decide),if_neg (by decide)] at h;rfl';exact⟨rfl,AR _,h⟩
 .rw[if_pos rfl] at h;rfl';refine Nj (by rw[Qq hs];omega) ?_;exact⟨rfl,AR _,h⟩
 .rw[if_neg (by decide),if_pos rfl] at h;rfl';refine Nj (by rw[Rc hs];omega) ?_;exact⟨rfl,AR _,h⟩
abbrev DF(ws ts:AM4):List (AM4×List D):=ws.map λw=>(ts.map (λ_=>w),[Mq w])
abbrev Gk(ts:AM4)(s e:ANA×List D)(d:Str):AM4×List D:=((EW ts s.1 e.1 ts.length).map (EV d),Ft d s.2 e.2)
abbrev Cq(ts:AM4)(s e:ANA×List D):List (AM4×List D):=if FM ts s.1 e.1=true then ED.map (Gk ts s e) else []
abbrev Gq(ts:AM4)(P:List (ANA×List D)):List (AM4×List D):=P.flatMap λs=>P.flatMap λe=>Cq ts s e
abbrev EC(ws ts w:AM4):List (AM4×List D):=(DF ws ts++Gq ts (CI ts)).foldl (Bo w) []
def Ng{w:AM4}:∀(A:List (AM4×List D)) {c:List (AM4×List D)} {n b:Nat},De c n b->(∀a∈A,a.2.length<=1600)->De (A.foldl (Bo w) c) (n+A.length) (b+1600*A.length)
 |[],c,n,b,h,_=>h
 |a::A,c,n,b,h,hA=>by
  have h1:De (Bo w c a) (n+1) (b+1600):=by
   unfold Bo;split
   .exact h.add (hA a Aw)
   .exact h.mono (by omega) (by omega)
  exact(Ng A h1 λx hx=>hA x (Ax _ hx)).mono (by simp;omega) (by simp;omega)
def NN(ts:AM4):De (CI ts) 40 40:=by have:=RL (ts:=ts) DX LN;rw[RH] at this;exact this.mono (by omega) (by omega)
def Vd{ts:AM4}:∀(ps:List D) {c:List (ANA×List D)},(∀e∈c,e.1.length=ts.length)->∀e∈ps.foldl (Co ts) c,e.1.length=ts.length
 |[],c,h=>h
 |p::ps,c,h=>by
  refine Vd ps ?_;unfold Co
  cases e3:Ga ts p with
  |none=>exact h
  |some ks =>
   rintro⟨k,qs⟩ he;rcases Ia he with h'|⟨rfl,_⟩
   .exact h _ h'
   .have:=congrArg List.length (Nb e3);simpa using this.symm
def NM{ts:AM4}{e:ANA×List D}(h:e∈CI ts):e.1.length=ts.length:=Vd DX (by simp) e h
def Vn{ts:AM4}(s e:ANA×List D):(Cq ts s e).length<=3:=by
 unfold Cq;split
 .simp[ED]
 .simp
def Np{α β:Type}{f:α->List β}{m:Nat}:∀(l:List α),(∀x∈l,(f x).length<=m)->(l.flatMap f).length<=l.length*m
 |[],_=>by simp
 |x::l,h=>by
  rw[AL3,By,DQ,ALd];have h1:=h x Aw;have h2:=Np l λy hy=>h y (Ax _ hy);omega
def Vm{ts:AM4}{P:List (ANA×List D)}(hP:De P 40 40){s e:ANA×List D}(hs:s∈P)(he:e∈P):∀a∈Cq ts s e,a.2.length<=1600:=by
 intro a ha;unfold Cq at ha;split at ha
 .obtain⟨d,_,rfl⟩:=BA.mp ha;show(Ft d s.2 e.2).length<=1600;rw[IX];exact ALm (hP.2 s hs) (hP.2 e he)
 .cases ha
def Rh{κ:Type}{kd:κ->D}(K:KD kd)(es:List (κ×Nat×List D)):Fi (CB kd es)=es.map λe=>kd e.1:=by unfold Fi CB;rw[Bt];apply GV;intro e _;exact K.nk e.1
def DL.look_mem{κ:Type}[DecidableEq κ]{kd:κ->D}(K:KD kd){L:AB}{g:Nat}{es:List (κ×Nat×List D)}(h:DL kd L g es){e:κ×Nat×List D}(he:e∈es):BL (CB kd es) (kfD (kd e.1))=some (.ref e.2.1):=by rw[NW K];obtain⟨e',hf,he',hk⟩:=FH (CN (f:=λe:κ×Nat×List D=>e.1) he);rw[hf];have:e'=e:=JE (f:=λe=>e.1) h.kn he' he hk;rw[this];rfl
def AGS{ts:AM4}(ok:OD ts)(ss ee:ANA){n:Nat}{y:Str}(h:y∈EW ts ss ee n):BF y/\y.length<=100:=by
 unfold EW at h;obtain⟨i,_,rfl⟩:=BA.mp h
 by_cases hi:i<ts.length
 .have hm:ts.getD i ""∈ts:=by simp[hi]
  exact⟨(ok.1 _ hm).1.slice _ _,CD (Txt.slice_le _ _ _) (ok.1 _ hm).2⟩
 .have e:ts.getD i "" = "":=by simp[Nat.le_of_not_lt hi]
  rw[e];have h0:BF "":=λc hc=>by cases hc
  exact⟨h0.slice _ _,CD (Txt.slice_le _ _ _) (by decide)⟩
def YC(ts:AM4)(ss ee:ANA)(n:Nat):(EW ts ss ee n).length=n:=by unfold EW;simp
def AFZ{Q:ANb}{L:AB}{w tx:Nat}{ws ts wd:AM4}(hw:L[w]?=some (.lst (ws.map D.str)))(hl:ws.length<=6)(ht:L[tx]?=some (.lst (ts.map D.str)))(ok:OD ts)(hwd:wd.length=ts.length)
  (h:∀L2 es,L <+: L2->DL AZ L2 L.length es->cont es=EC ws ts wd->(∀x∈BK es,L.length<x)->Q (.ref L.length) L2):W2 (KP [.ref w,.ref tx,AZ wd] L) Q:=by
 unfold KP;refine Fb rfl ?_;unfold Ps;simp only[KI];have hwl:=Cs hw;have htl:=Cs ht;have htn:=ok.2;refine Kb (Mp (AAe ?_));generalize hL1:L++[Ob.dt [] 0]=L1;have hL1l:L1.length=L.length+1:=by rw[<-hL1];simp
 have hg1:L1[L.length]?=some (.dt [] 0):=by rw[<-hL1];exact Ac
 have hw1:L1[w]?=some (.lst (ws.map D.str)):=by rw[<-hL1];exact AT hw
 have ht1:L1[tx]?=some (.lst (ts.map D.str)):=by rw[<-hL1];exact AT ht
 have hAw:∀a∈DF ws ts,a.2.length<=1600:=λa ha=>by
  obtain⟨x,_,rfl⟩:=BA.mp ha;simp
 have hAl:(DF ws ts).length<=6:=by unfold DF;rw[Ah];exact hl
 refine Bk (λρ L'=>∃es,DL AZ L' L.length es/\cont es=(DF ws ts).foldl (Bo wd) []/\(∀x∈BK es,L1.length<=x)/\Aq [L.length] L1 L'/\∃e,ρ=[some (.ref w),some (.ref tx),some (AZ wd),some (.ref L.length),e,none,none,none,none,none,none]) ?_ ?_
 .rfl'
  refine Ce (λj ρ L'=>∃es,DL AZ L' L.length es/\cont es=((DF ws ts).take j).foldl (Bo wd) []/\(∀x∈BK es,L1.length<=x)/\Aq [L.length] L1 L'/\∃e,ρ=[some (.ref w),some (.ref tx),some (AZ wd),some (.ref L.length),e,none,none,none,none,none,none]) _ 0 _ _
   ⟨[],⟨⟨0,hg1⟩,(λ_ h=>(nomatch h)),ALb,ALb⟩,rfl,(λ_ h=>(nomatch h)),.refl _ _,none,rfl⟩ ?_ ?_
  .rintro i x ρ L' hx ⟨es,hd,hc,ha,hk,e,rfl⟩;refine⟨decide_eq_true (hk.get (by simp;omega) hw1),?_⟩;have ht':L'[tx]?=some (.lst (ts.map D.str)):=hk.get (by simp;omega) ht1;rw[Ar] at hx;obtain⟨wd1,hxw,hx⟩:=mS hx;cases hx
   have hb:De (cont es) 6 9600:=by
    rw[hc];have:=Ng (w:=wd) ((DF ws ts).take (0+i)) LN λa ha=>hAw a (AME ha);have hl:((DF ws ts).take (0+i)).length<=6:=by rw[FZ];omega
    exact this.mono (by omega) (by omega)
   rfl';refine HS (λρ=>∃e,ρ=[e,some (.str wd1)]) (λ_=>.str wd1) (λacc=>decide_eq_true (AT ht')) ⟨_,rfl⟩ (by rw[Ah];omega) ?_ ?_
   .rintro y hy ρ ⟨e,rfl⟩;rfl';refine⟨⟨_,rfl⟩,λacc=>?_⟩;rfl';exact⟨rfl,rfl⟩
   .have em:(ts.map D.str).map (λ_=>D.str wd1)=(ts.map λ_=>wd1).map D.str:=by rw[Bt,Bt];rfl
    rw[em];rfl';have hkl:=hk.1;refine Yo (as:=ts.map λ_=>wd1) (w:=wd) (ds:=[.tup [.str "word",.str wd1]]) ((hd.pre (Am _ _)).pre (Am _ _)) Ac (λz=>by have:=hd.lt z;simp at this;omega) (by simp[hwd]) (by simp;omega) (by have:=hb.1;rw[IW] at this;omega) (λe he=>by have:=hb.2 e he;simp;omega) (by simp) λL2 es2 h2 hc2 ha2 hk2=>?_;rfl';refine⟨es2,h2,?_,λy hy=>?_,?_,_,rfl⟩
    .have hxa:(DF ws ts)[i]?=some (ts.map (λ_=>wd1),[Mq wd1]):=by unfold DF;rw[Ar,hxw];rfl
     rw[SE hxa,<-hc];exact hc2
    .rcases ha2 y hy with z|z
     .exact ha y z
     .simp at z;omega
    .exact((hk.trans (.app _ _ _)).trans (.app _ _ _)).step hk2 (λj hj=>by
      rcases Aa.mp hj with e1|e1
      .exact .inl (by simp[e1])
      .exact .inr (ha j e1))
  .rintro ρ L' ⟨es,hd,hc,ha,hk,e,rfl⟩;refine⟨decide_eq_true (hk.get (by simp;omega) hw1),?_⟩;refine⟨es,hd,?_,ha,hk,_,rfl⟩;rw[hc,Ah,BW];have:(DF ws ts).length=ws.length:=by unfold DF;simp
   rw[<-this,Ec]
 rintro ρ L2 ⟨es1,hd1,hc1,ha1,hk1,e,rfl⟩;have ht2:L2[tx]?=some (.lst (ts.map D.str)):=hk1.get (by simp;omega) ht1;have hk1l:=hk1.1;rfl';refine AGo ht2 ok λL3 esP hp3 hdP hcP haP=>?_;have hL3:L2.length<L3.length:=hdP.glt;have hd3:=hd1.pre hp3;have ht3:L3[tx]?=some (.lst (ts.map D.str)):=CY hp3 ht2;obtain⟨epP,hP0⟩:=hdP.at_;have hPb:De (cont esP) 40 40:=by rw[hcP];exact NN ts
 have hPl:(cont esP).length<=40:=hPb.1
 have free:∀j,j≠L.length->(j<L1.length\/L2.length<=j)->j∉L.length::BK es1:=λj h1 h2 hj=>by
  rcases Aa.mp hj with e1|e1
  .exact h1 e1
  .have:=hd1.lt e1;have:=ha1 j e1;omega
 rfl';rw[Rh IK]
 refine Ce (λi ρ L'=>∃es,DL AZ L' L.length es/\cont es=(DF ws ts++((cont esP).take i).flatMap λs=>(cont esP).flatMap λe=>Cq ts s e).foldl (Bo wd) []/\(∀x∈BK es,x∈BK es1\/L3.length<=x)/\Aq (L.length::BK es1) L3 L' /\
   ∃e1 e2 e3 e4 e5,ρ=[some (.ref w),some (.ref tx),some (AZ wd),some (.ref L.length),e,some (.ref L2.length),e1,e2,e3,e4,e5]) _ 0 _ _ ⟨es1,hd3,by simpa using hc1,λx hx=>.inl hx,.refl _ _,none,none,none,none,none,rfl⟩ ?_ ?_
 .rintro i x ρ L' hx ⟨es,hd,hc,ha,hk,e1,e2,e3,e4,e5,rfl⟩;have hP':L'[L2.length]?=some (.dt (CB Dz esP) epP):=hk.get (free _ (by omega) (by omega)) hP0;refine⟨by simp[HV,hP'],?_⟩;rw[Ar] at hx;obtain⟨se,hse,hx⟩:=mS hx;cases hx;have hsm:=Bj hse;have hsc:(cont esP)[i]?=some (se.1,se.2.2):=by unfold cont;rw[Ar,hse];rfl
  have hscm:=Bj hsc;rfl';rw[Rh IK];generalize hA1:(DF ws ts++((cont esP).take (0+i)).flatMap λs=>(cont esP).flatMap λe=>Cq ts s e)=A1 at hc
  have hA1s:∀a∈A1,a.2.length<=1600:=λa ha=>by
   rw[<-hA1] at ha;rcases Bx.mp ha with ha|ha
   .exact hAw a ha
   .obtain⟨s,hs,ha⟩:=ALf.mp ha;obtain⟨e,he,ha⟩:=ALf.mp ha;exact Vm hPb (AME hs) he a ha
  have hA1l:A1.length<=6+4800:=by
   rw[<-hA1,By]
   have h1:=Np (m:=120) ((cont esP).take (0+i)) (f:=λs=>(cont esP).flatMap λe=>Cq ts s e) λs _=>by
    have:=Np (m:=3) (cont esP) (f:=λe=>Cq ts s e) λe _=>Vn s e;omega
   have h2:((cont esP).take (0+i)).length<=40:=by rw[FZ];omega
   have h3:=ALk 120 h2;omega
  refine Ce (λj ρ L'=>∃es,DL AZ L' L.length es/\cont es=(A1++((cont esP).take j).flatMap λe=>Cq ts (se.1,se.2.2) e).foldl (Bo wd) []/\(∀x∈BK es,x∈BK es1\/L3.length<=x)/\Aq (L.length::BK es1) L3 L' /\
   ∃e2 e3 e4 e5,ρ=[some (.ref w),some (.ref tx),some (AZ wd),some (.ref L.length),e,some (.ref L2.length),some (Dz se.1),e2,e3,e4,e5]) _ 0 _ _ ⟨es,hd,by simpa using hc,ha,hk,_,_,_,_,rfl⟩ ?_ ?_
  .clear hP' hk ha hc hd es;rintro j x ρ L' hx ⟨es,hd,hc,ha,hk,e2,e3,e4,e5,rfl⟩;have hP':L'[L2.length]?=some (.dt (CB Dz esP) epP):=hk.get (free _ (by omega) (by omega)) hP0;have ht':L'[tx]?=some (.lst (ts.map D.str)):=hk.get (free _ (by omega) (by omega)) ht3;refine⟨by simp[HV,hP'],?_⟩;rw[Ar] at hx;obtain⟨ee,hee,hx⟩:=mS hx;cases hx;have hem:=Bj hee;have hec:(cont esP)[j]?=some (ee.1,ee.2.2):=by unfold cont;rw[Ar,hee];rfl
   have hecm:=Bj hec;have hkl:=hk.1
   have htake:((cont esP).take (0+j+1)).flatMap (λe=>Cq ts (se.1,se.2.2) e)=((cont esP).take (0+j)).flatMap (λe=>Cq ts (se.1,se.2.2) e)++Cq ts (se.1,se.2.2) (ee.1,ee.2.2):=by rw[Fd hec,AMF];simp
   generalize hA2:(A1++((cont esP).take (0+j)).flatMap λe=>Cq ts (se.1,se.2.2) e)=A2 at hc
   have hA2s:∀a∈A2,a.2.length<=1600:=λa ha=>by
    rw[<-hA2] at ha;rcases Bx.mp ha with ha|ha
    .exact hA1s a ha
    .obtain⟨e,he,ha⟩:=ALf.mp ha;exact Vm hPb hscm (AME he) a ha
   have hA2l:A2.length<=6+4800+120:=by
    rw[<-hA2,By];have h1:=Np (m:=3) ((cont esP).take (0+j)) (f:=λe=>Cq ts (se.1,se.2.2) e) λe _=>Vn _ e;have h2:((cont esP).take (0+j)).length<=40:=by rw[FZ];omega
    omega
   rw[show A1++((cont esP).take (0+j+1)).flatMap (λe=>Cq ts (se.1,se.2.2) e)=A2++Cq ts (se.1,se.2.2) (ee.1,ee.2.2) by rw[htake,<-hA2,AL5]];rfl';refine ABT ht' (by omega) (NM (e:=(se.1,se.2.2)) (by rw[<-hcP];exact hscm)) (NM (e:=(ee.1,ee.2.2)) (by rw[<-hcP];exact hecm)) (λhno=>?_) (λhyes=>?_)
   .rfl';refine⟨es,hd,?_,ha,hk,_,_,_,_,rfl⟩;rw[hc];unfold Cq;rw[if_neg (by rw[hno];simp),ALq]
   .rfl';have hpa:Cq ts (se.1,se.2.2) (ee.1,ee.2.2)=ED.map (Gk ts (se.1,se.2.2) (ee.1,ee.2.2)):=by unfold Cq;rw[if_pos hyes]
    rw[hpa];generalize hcut:EW ts se.1 ee.1 ts.length=sgs;have hcl:sgs.length=ts.length:=by rw[<-hcut,YC]
    generalize hL4:L'++[Ob.lst (sgs.map D.str)]=L4;have hp4:L' <+: L4:=by rw[<-hL4];exact Am _ _
    have hL4l:L4.length=L'.length+1:=by rw[<-hL4];simp
    have hs4:L4[L'.length]?=some (.lst (sgs.map D.str)):=by rw[<-hL4];exact Ac
    have hd4:=hd.pre hp4;have hP4:=CY hp4 hP';have hxs:L4[se.2.1]?=some (.lst se.2.2):=CY hp4 (hk.get (free _ (by have:=haP _ (GK hsm);omega) (by have:=haP _ (GK hsm);omega)) (hdP.it se hsm));have hys:L4[ee.2.1]?=some (.lst ee.2.2):=CY hp4 (hk.get (free _ (by have:=haP _ (GK hem);omega) (by have:=haP _ (GK hem);omega)) (hdP.it ee hem))
    have outP:∀q,L2.length<=q->q<L3.length->q∉L.length::BK es:=λq h1 h2 hj=>by
     rcases Aa.mp hj with z|z
     .omega
     .rcases ha q z with y|y
      .have:=hd1.lt y;omega
      .omega
    have outS:L'.length∉L.length::BK es:=λhj=>by
     rcases Aa.mp hj with z|z
     .omega
     .have:=hd.lt z;omega
    have hsl:=hdP.lt (GK hsm);have hel:=hdP.lt (GK hem);have hsl2:=haP _ (GK hsm);have hel2:=haP _ (GK hem)
    refine Ce (λk ρ L'=>∃es',DL AZ L' L.length es'/\cont es'=(A2++(ED.take k).map (Gk ts (se.1,se.2.2) (ee.1,ee.2.2))).foldl (Bo wd) []/\(∀x∈BK es',x∈BK es\/L4.length<=x)/\Aq (L.length::BK es) L4 L' /\
     ∃e4 e5,ρ=[some (.ref w),some (.ref tx),some (AZ wd),some (.ref L.length),e,some (.ref L2.length),some (Dz se.1),some (Dz ee.1),some (.ref (L4.length-1)),e4,e5]) _ 0 _ _ ⟨es,hd4,by simpa using hc,λx hx=>.inl hx,.refl _ _,_,_,by rw[hL4l];rfl⟩ ?_ ?_
    .rintro k x ρ L5 hx ⟨es5,hd5,hc5,ha5,hk5,e4,e5,rfl⟩
     have hds:∃d,ED[k]?=some d/\x=.str d:=by
      have:(ED.map D.str)[k]?=some x:=hx;rw[Ar] at this
      cases hd:ED[k]? with
      |none=>rw[hd] at this;cases this
      |some d=>rw[hd] at this;exact⟨d,rfl,(Option.some.inj this).symm⟩
     obtain⟨d,hdk,rfl⟩:=hds;have hdm:=Bj hdk;refine⟨rfl,?_⟩;have el4:L4.length-1=L'.length:=by omega
     rw[el4];have hs5:L5[L'.length]?=some (.lst (sgs.map D.str)):=hk5.get outS hs4;have hP5:L5[L2.length]?=some (.dt (CB Dz esP) epP):=hk5.get (outP _ (by omega) (by omega)) hP4;have hxs5:L5[se.2.1]?=some (.lst se.2.2):=hk5.get (outP _ (by omega) hsl) hxs;have hys5:L5[ee.2.1]?=some (.lst ee.2.2):=hk5.get (outP _ (by omega) hel) hys;have hk5l:=hk5.1
     have hb5:De (cont es5) 10000 12000000:=by
      rw[hc5]
      have h3:((ED.take (0+k)).map (Gk ts (se.1,se.2.2) (ee.1,ee.2.2))).length<=3:=by rw[Ah,FZ];have:ED.length=3:=rfl;omega
      have:=Ng (w:=wd) (A2++(ED.take (0+k)).map (Gk ts (se.1,se.2.2) (ee.1,ee.2.2))) LN λa ha=>by
       rcases Bx.mp ha with ha|ha
       .exact hA2s a ha
       .obtain⟨d',_,rfl⟩:=BA.mp ha;show(Ft d' se.2.2 ee.2.2).length<=1600;rw[IX];exact ALm (hPb.2 _ hscm) (hPb.2 _ hecm)
      rw[By] at this;exact this.mono (by omega) (by omega)
     have hbw:(Ft d se.2.2 ee.2.2).length<=1600:=by rw[IX];exact ALm (hPb.2 _ hscm) (hPb.2 _ hecm)
     rfl'
     refine HS (λρ=>∃e,ρ=[e,some (.str d)]) (λy=>match y with|.str s=>.str (EV d s)|_=>.non) (λacc=>decide_eq_true (AT hs5)) ⟨_,rfl⟩ (by rw[Ah,hcl];omega) ?_ ?_
     .rintro y hy ρ ⟨e,rfl⟩;obtain⟨s,hs,rfl⟩:=BA.mp hy;rw[<-hcut] at hs;have hso:=AGS ok _ _ hs;rfl';refine⟨⟨_,rfl⟩,λacc=>?_⟩;rfl';refine AGL hdm hso.1 (by omega) ?_;exact⟨rfl,rfl⟩
     .have em:(sgs.map D.str).map (λy=>match y with|.str s=>D.str (EV d s)|_=>.non)=(sgs.map (EV d)).map D.str:=by rw[Bt,Bt];rfl
      rw[em];rfl';refine HF (kk:=kfD (Dz se.1)) (AT hP5) (IK.key _) (hdP.look_mem IK hsm) ?_;rfl';refine HF (kk:=kfD (Dz ee.1)) (AT hP5) (IK.key _) (hdP.look_mem IK hem) ?_;rfl';refine AGt (AT hxs5) (AT hys5) (by have:=hbw;rw[IX] at this;omega) (by have:=hPb.2 _ hecm;simp only at this;omega) λL6 hp6 hl6=>?_;have hp56:L5 <+: L6:=(Am _ _).trans hp6;have hp6l:=hp6.length_le;simp only[By,DQ,List.length_nil] at hp6l;rfl';refine Yo (as:=sgs.map (EV d)) (w:=wd) (hd5.pre hp56) hl6 (λz=>by have:=hd5.lt z;simp at this;omega) (by simp[hwd,hcl]) (by simp[hcl];omega) (by have:=hb5.1;rw[IW] at this;omega) (λe he=>by have:=hb5.2 e he;omega) (by omega) λL7 es7 h7 hc7 ha7 hk7=>?_;rfl';refine⟨es7,h7,?_,λy hy=>?_,?_,_,_,rfl⟩
      .rw[Fd hdk,Cd,<-AL5,AMZ,<-hc5,hc7];show _=Bo wd (cont es5) (Gk ts (se.1,se.2.2) (ee.1,ee.2.2) d);unfold Gk;rw[hcut]
      .rcases ha7 y hy with z|z
       .exact ha5 y z
       .exact .inr (by omega)
      .refine(hk5.trans (.of_pre hp56)).step hk7 λj hj=>?_;rcases Aa.mp hj with z|z
       .exact .inl (by simp[z])
       .rcases ha5 j z with y|y
        .exact .inl (Ax _ y)
        .exact .inr y
    .rintro ρ L5 ⟨es5,hd5,hc5,ha5,hk5,e4,e5,rfl⟩;refine⟨rfl,?_⟩;refine⟨es5,hd5,?_,λy hy=>?_,?_,_,_,_,_,rfl⟩
     .rw[hc5]
      congr 2
     .rcases ha5 y hy with z|z
      .exact ha y z
      .exact .inr (by omega)
     .refine(hk.trans (.of_pre hp4)).step hk5 λj hj=>?_;rcases Aa.mp hj with z|z
      .exact .inl (by simp[z])
      .rcases ha j z with y|y
       .exact .inl (Ax _ y)
       .exact .inr y
  .rintro ρ L' ⟨es,hd,hc,ha,hk,e2,e3,e4,e5,rfl⟩;have hP':L'[L2.length]?=some (.dt (CB Dz esP) epP):=hk.get (free _ (by omega) (by omega)) hP0;refine⟨by simp[HV,hP'],es,hd,?_,ha,hk,_,_,_,_,_,rfl⟩;rw[hc,Ah,BW];have:esP.length=(cont esP).length:=(IW esP).symm;rw[this,Ec,Fd hsc,AMF,<-hA1,AL5];simp
 .rintro ρ L' ⟨es,hd,hc,ha,hk,e1,e2,e3,e4,e5,rfl⟩;have hP':L'[L2.length]?=some (.dt (CB Dz esP) epP):=hk.get (free _ (by omega) (by omega)) hP0;refine⟨by simp[HV,hP'],?_⟩;rfl';refine⟨rfl,h L' es ?_ hd ?_ λx hx=>?_⟩
  .have k1:Aq [L.length] L L':=by
    have a1:Aq [L.length] L L1:=by rw[<-hL1];exact .app _ _ _
    have a2:=(a1.trans hk1).trans (Aq.of_pre hp3);refine a2.step hk λj hj=>?_;rcases Aa.mp hj with e8|e8
    .exact .inl (by simp[e8])
    .exact .inr (by have:=ha1 j e8;omega)
   exact(k1.mono λj hj=>.inr (by simp at hj;omega)).pre
  .rw[hc,Ah,BW];have:esP.length=(cont esP).length:=(IW esP).symm;rw[this,Ec,hcP];rfl
  .rcases ha x hx with z|z
   .have:=ha1 x z;omega
   .omega
abbrev EU(a:AM4)(ps:List D):List (NK×D):=ps.zipIdx.map λq=>(kfD q.1,D.tup [AZ a,.int (q.2:Int)])
def AGB{a:AM4}{ps:List D}{i:Nat}{x:D}(h:ps[i]?=some x):EU a (ps.take (0+i+1))=EU a (ps.take (0+i))++[(kfD x,.tup [AZ a,.int (i:Int)])]:=by have hi:i<ps.length:=(Ay.mp h).1;rw[Fd h];unfold EU;rw[List.zipIdx_append,Cd];simp[Nat.min_eq_left (AL6 hi)]
abbrev DD(G:List (AM4×List D)):List (NK×D):=G.flatMap λe=>EU e.1 e.2
abbrev Bb(xs:List (NK×D)):List (NK×D):=xs.foldl (λm x=>CO m x.1 x.2) []
def ACU(m:List (NK×D))(k:NK)(d:D):(CO m k d).length<=m.length+1:=by
 unfold CO;split
 .rw[Ah];omega
 .simp
def VY(xs:List (NK×D)):(Bb xs).length<=xs.length:=by
 have:∀(xs:List (NK×D)) (m:List (NK×D)),(xs.foldl (λm x=>CO m x.1 x.2) m).length<=m.length+xs.length:=by
  intro xs
  induction xs with
  |nil=>intro m;simp
  |cons x xs ih =>
   intro m;rw[ALt,DQ];have h1:=ih (CO m x.1 x.2);have h2:=ACU m x.1 x.2;omega
 have h:=this xs [];simpa[Bb] using h
abbrev EG{κ:Type}(c:List (κ×List D)):Nat:=(c.map λe=>e.2.length).sum
def AF4(G:List (AM4×List D)):(DD G).length=EG G:=by
 unfold DD EG
 induction G with
 |nil=>rfl
 |cons e G ih =>
  rw[AL3,By,ih,Ak,Ed];unfold EU;simp
def AAv{κ:Type}[DecidableEq κ]{c:List (κ×List D)}{k:κ}{ds:List D}(nd:(c.map (·.1)).Nodup):EG (CC c k ds)=EG c+ds.length:=by
 by_cases h:k∈c.map (·.1)
 .have e:CC c k ds=c.map (λe=>if e.1=k then (e.1,e.2++ds) else e):=by unfold CC;rw[if_pos h]
  rw[e];clear e
  induction c with
  |nil=>cases h
  |cons x c ih =>
   rw[Ak,ALR] at nd;rw[Ak];unfold EG;rw[Ak,Ed,Ak,Ed]
   by_cases hx:x.1=k
   .rw[if_pos hx]
    have e2:c.map (λe=>if e.1=k then (e.1,e.2++ds) else e)=c:=by
     conv=>rhs;rw[<-List.map_id c]
     apply GV;intro e he;rw[if_neg (λz=>nd.1 (by rw[hx,<-z];exact CN he))];rfl
    rw[e2];simp only[By];omega
   .rw[if_neg hx]
    have h':k∈c.map (·.1):=by
     rw[Ak] at h;rcases Aa.mp h with z|z
     .exact absurd z.symm hx
     .exact z
    have:=ih nd.2 h';unfold EG at this;omega
 .have e:CC c k ds=c++[(k,ds)]:=by unfold CC;rw[if_neg h]
  rw[e];unfold EG;simp
def XA{w:AM4}:∀(A:List (AM4×List D)) {c:List (AM4×List D)},(c.map (·.1)).Nodup->((A.foldl (Bo w) c).map (·.1)).Nodup
 |[],_,h=>h
 |a::A,c,h=>XA A (by unfold Bo;split;exact Se h;exact h)
def Wy{w:AM4}{m:Nat}:∀(A:List (AM4×List D)) {c:List (AM4×List D)},(c.map (·.1)).Nodup->(∀a∈A,a.2.length<=m)->EG (A.foldl (Bo w) c)<=EG c+A.length*m
 |[],c,_,_=>by simp
 |a::A,c,h,hA=>by
  have h1:EG (Bo w c a)<=EG c+m:=by
   unfold Bo;split
   .rw[AAv h];have:=hA a Aw;omega
   .omega
  have h2:=Wy (w:=w) A (c:=Bo w c a) (by unfold Bo;split;exact Se h;exact h) λx hx=>hA x (Ax _ hx);rw[ALt,DQ,ALd];omega
def Vj{κ:Type}{kd:κ->D}(K:KD kd)(es:List (κ×Nat×List D)):Eh (CB kd es)=es.map λe=>.tup [kd e.1,.ref e.2.1]:=by unfold Eh CB;rw[Bt];apply GV;intro e _;show D.tup [Dl (kfD (kd e.1)),.ref e.2.1]=_;rw[K.nk e.1]
def AF3{G:List (AM4×List D)}{i:Nat}{e:AM4×List D}(h:G[i]?=some e):DD (G.take (0+i+1))=DD (G.take (0+i))++EU e.1 e.2:=by unfold DD;rw[Fd h,AMF];simp
def AF2(G:List (AM4×List D))(i:Nat):(DD (G.take i)).length<=EG G:=by
 rw[<-AF4 G]
 conv=>rhs;rw[<-AMS i G]
 unfold DD;rw[AMF,By];omega
def AES{Q:ANb}{L:AB}{g:Nat}{es:List (AM4×Nat×List D)}(hg:DL AZ L g es)(hk:∀e∈cont es,∀p∈e.2,dNK p=some (kfD p))(hz:EG (cont es)<=8000000)(hb:∀e∈cont es,e.2.length<=8000000)
  (h:∀ep,Q (.ref L.length) (L++[.dt (Bb (DD (cont es))) ep])):W2 (Ip [.ref g] L) Q:=by
 unfold Ip;refine Fb rfl ?_;unfold Og;obtain⟨ep0,hg0⟩:=hg.at_;rfl';rw[Vj Ct];refine Ce (λj ρ L'=>(∃ep,L'=L++[.dt (Bb (DD ((cont es).take j))) ep])/\∃e1 e2 e3 e4,ρ=[some (.ref g),some (.ref L.length),e1,e2,e3,e4]) _ 0 _ _ ⟨⟨0,rfl⟩,none,none,none,none,rfl⟩ ?_ ?_
 .rintro i x ρ L' hx ⟨⟨ep,rfl⟩,e1,e2,e3,e4,rfl⟩;refine⟨decide_eq_true (AT hg0),?_⟩;rw[Ar] at hx;obtain⟨e,hse,hx⟩:=mS hx;cases hx;have hem:=Bj hse;have hq:=hg.it e hem;have hec:(cont es)[i]?=some (e.1,e.2.2):=by unfold cont;rw[Ar,hse];rfl
  have hecm:=Bj hec;rfl';refine Ce (λj ρ L'=>(∃ep,L'=L++[.dt (Bb (DD ((cont es).take (0+i))++EU e.1 (e.2.2.take j))) ep])/\∃e3 e4,ρ=[some (.ref g),some (.ref L.length),some (AZ e.1),some (.ref e.2.1),e3,e4]) _ 0 _ _ ⟨⟨ep,by simp[EU]⟩,_,_,rfl⟩ ?_ ?_
  .rintro j x ρ L' hx ⟨⟨ep,rfl⟩,e3,e4,rfl⟩;refine⟨decide_eq_true (AT hq),?_⟩;rw[Xp] at hx;obtain⟨p,hp,hx⟩:=mS hx;cases hx;rfl';refine Nk (kk:=kfD p) Ac ?_ (hk _ hecm p (Bj hp)) ?_
   .have h1:=VY (DD ((cont es).take (0+i))++EU e.1 (e.2.2.take (0+j)));have h2:=AF2 (cont es) (0+i)
    have h3:(EU e.1 (e.2.2.take (0+j))).length<=8000000:=by unfold EU;rw[Ah,List.length_zipIdx,FZ];have:=hb _ hecm;simp only at this;omega
    rw[By] at h1;omega
   .have e5:Bb (DD ((cont es).take (0+i))++EU e.1 (e.2.2.take (0+j+1)))=CO (Bb (DD ((cont es).take (0+i))++EU e.1 (e.2.2.take (0+j)))) (kfD p) (.tup [AZ e.1,.int (j:Int)]):=by
     rw[AGB hp,<-AL5];unfold Bb;rw[AMZ];rfl
    rfl';rw[e5];refine⟨⟨epN (Bb (DD ((cont es).take (0+i))++EU e.1 (e.2.2.take (0+j)))) (kfD p) ep,?_⟩,_,_,rfl⟩;simp
  .rintro ρ L' ⟨⟨ep,rfl⟩,e3,e4,rfl⟩;refine⟨decide_eq_true (AT hq),⟨ep,?_⟩,_,_,_,_,rfl⟩;have e6:(Ep e.2.2).length=e.2.2.length:=by simp[Ep]
   rw[e6,BW e.2.2.length,Ec,AF3 hec]
 .rintro ρ L' ⟨⟨ep,rfl⟩,e1,e2,e3,e4,rfl⟩;refine⟨decide_eq_true (AT hg0),?_⟩;rfl';refine⟨rfl,?_⟩;rw[Ah,BW];have:es.length=(cont es).length:=(IW es).symm;rw[this,Ec];exact h ep
def AAx{Q:ANb}{L:AB}{k g:Nat}{W:D}{M:List (NK×D)}(hk:L[k]?=some (.ins ANC []))(hgl:g<L.length)(hm:∀(L':AB) (Q':ANb),Aq [k] L L'->L'.length=L.length->(∀ep,Q' (.ref L'.length) (L'++[.dt M ep]))->W2 (Ip [.ref g] L') Q')
  (h:∀L2,L2.length=L.length+8->Aq [k] L L2->L2[k]?=some (.ins ANC (Mx W g L.length (L.length+5) (L.length+6) (L.length+7)))->(∃ep,L2[L.length]?=some (.dt M ep)) ->
   L2[L.length+5]?=some (.lst [.ref (L.length+1),.ref (L.length+3)])->Dd L2 (L.length+1) 1 (L.length+2) [] 0->Dd L2 (L.length+3) 0 (L.length+4) [] 0->L2[L.length+6]?=some (.dt [] 0)->L2[L.length+7]?=some (.lst [])->Q .non L2) :
  W2 (Jm [.ref k,W,.ref g] L) Q:=by
 unfold Jm;refine Kc rfl ?_;unfold OW;have hkl:=Cs hk;refine Bk (λρ L'=>ρ=[some (.ref k),some W,some (.ref g)]/\L'.length=L.length/\Aq [k] L L'/\L'[k]?=some (.ins ANC [(ANI,W)])) ?_ ?_
 .rfl';exact⟨rfl,by simp,(Aq.refl _ _).set (.inl (by simp)),Cu hk⟩
 rintro ρ L1 ⟨rfl,l1,k1,t1⟩;refine Bk (λρ L'=>ρ=[some (.ref k),some W,some (.ref g)]/\L'.length=L.length/\Aq [k] L L'/\L'[k]?=some (.ins ANC [(ANI,W),(ANF,.ref g)])) ?_ ?_
 .rfl';exact⟨rfl,by simp[l1],k1.set (.inl (by simp)),Cu t1⟩
 rintro ρ L2 ⟨rfl,l2,k2,t2⟩;refine Bk (λρ L'=>ρ=[some (.ref k),some W,some (.ref g)]/\L'.length=L.length+1/\Aq [k] L L'/\L'[k]?=some (.ins ANC [(ANI,W),(ANF,.ref g),(ANK,.ref L.length)])/\(∃ep,L'[L.length]?=some (.dt M ep))) ?_ ?_
 .rfl';refine hm _ _ k2 l2 λep=>?_;rfl';refine⟨rfl,by simp[l2],(k2.trans (.app _ _ _)).set (.inl (by simp)),?_,?_⟩
  .rw[Cu (AT t2),l2];rfl
  .exact⟨ep,by rw[<-l2,Dx (by omega)];exact Ac⟩
 rintro ρ L3 ⟨rfl,l3,k3,t3,ep,m3⟩;have stayK:∀{L4 L5:AB} {j:Nat} {o:Ob},Aq [j] L4 L5->L4.length<=j->∀i,i<L4.length->L4[i]?=some o->L5[i]?=some o:=λ{L4 L5 j o} hk hj i hi e=>hk.get (by simp;omega) e
 refine Bk (λρ L'=>ρ=[some (.ref k),some W,some (.ref g)]/\L'.length=L.length+6/\Aq [k] L L'/\L'[k]?=some (.ins ANC [(ANI,W),(ANF,.ref g),(ANK,.ref L.length),(ANG,.ref (L.length+5))])/\(∃ep,L'[L.length]?=some (.dt M ep)) /\
  L'[L.length+5]?=some (.lst [.ref (L.length+1),.ref (L.length+3)])/\Dd L' (L.length+1) 1 (L.length+2) [] 0/\Dd L' (L.length+3) 0 (L.length+4) [] 0) ?_ ?_
 .rfl';refine RS Ac λL4 n4 l4 k4=>?_;have l4':L4.length=L.length+3:=by rw[l4];simp;omega
  have p4:∀i o,i<L3.length->L3[i]?=some o->L4[i]?=some o:=λi o hi e=>k4.get (by simp;omega) (AT e);refine⟨rfl,?_⟩;rfl';refine RS Ac λL5 n5 l5 k5=>?_;have l5':L5.length=L.length+5:=by rw[l5];simp;omega
  have p5:∀i o,i<L4.length->L4[i]?=some o->L5[i]?=some o:=λi o hi e=>k5.get (by simp;omega) (AT e);refine⟨rfl,?_⟩;have t5:=p5 _ _ (by omega) (p4 _ _ (by omega) t3);have m5:=p5 _ _ (by omega) (p4 _ _ (by omega) m3);have a5:=p5 _ _ (by omega) n4.1;have b5:=p5 _ _ (by simp at *;omega) n4.2;rfl';have e1:L3.length=L.length+1:=l3;have e2:(L3++[Ob.ins AND []]).length=L.length+2:=by simp[l3]
  have e3:L4.length=L.length+3:=l4';have e4:(L4++[Ob.ins AND []]).length=L.length+4:=by simp[l4']
  rw[e1] at n4 a5;rw[e2] at n4 b5 a5;rw[e3,e4] at n5;have far:∀(i:Nat) (o o':Ob) (M:AB),i≠k->L5[i]?=some o->((L5++M).set k o')[i]?=some o:=λi o o' M hi e=>by rw[Dx (Ne.symm hi)];exact AT e
  refine⟨rfl,by simp[l5'],?_,?_,⟨ep,far _ _ _ _ (by omega) m5⟩,?_,⟨far _ _ _ _ (by omega) a5,far _ _ _ _ (by omega) b5⟩,⟨far _ _ _ _ (by omega) n5.1,far _ _ _ _ (by omega) n5.2⟩⟩
  .have q1:Aq [k] L L4:=(k3.trans (.app _ _ _)).step k4 λj hj=>.inr (by simp at hj;omega);have q2:Aq [k] L L5:=(q1.trans (.app _ _ _)).step k5 λj hj=>.inr (by simp at hj;omega);exact(q2.trans (.app _ _ _)).set (.inl (by simp))
  .rw[Cu (AT t5),l5'];rfl
  .rw[Dx (by omega),<-l5',e1,e3];exact Ac
 rintro ρ L4 ⟨rfl,l4,k4,t4,⟨ep,m4⟩,n4,a4,b4⟩;rfl';have far:∀(i:Nat) (o o':Ob) (N M:AB),i≠k->N[i]?=some o->((N++M).set k o')[i]?=some o:=λi o o' N M hi e=>by rw[Dx (Ne.symm hi)];exact AT e
 have f2:∀(i:Nat) (o o' o'':Ob) (M M':AB),i≠k->L4[i]?=some o->((((L4++M).set k o')++M').set k o'')[i]?=some o:=λi o o' o'' M M' hi e=>far i o o'' _ _ hi (far i o o' _ _ hi e)
 have t5:((L4++[Ob.dt [] 0]).set k (.ins ANC (EI ANL (.ref L4.length) [(ANI,W),(ANF,.ref g),(ANK,.ref L.length),(ANG,.ref (L.length+5))])))[k]?=some (.ins ANC [(ANI,W),(ANF,.ref g),(ANK,.ref L.length),(ANG,.ref (L.length+5)),(ANL,.ref (L.length+6))]):=by rw[Cu (AT t4),l4];rfl
 refine XN (AT t5) rfl rfl ?_;rfl';refine⟨λhp=>?_,h _ (by simp[l4]) ?_ ?_ ⟨ep,f2 _ _ _ _ _ _ (by omega) m4⟩ (f2 _ _ _ _ _ _ (by omega) n4) ⟨f2 _ _ _ _ _ _ (by omega) a4.1,f2 _ _ _ _ _ _ (by omega) a4.2⟩ ⟨f2 _ _ _ _ _ _ (by omega) b4.1,f2 _ _ _ _ _ _ (by omega) b4.2⟩ (far _ _ _ _ _ (by omega) ?_) ?_⟩
 .have:=CY hp hk;rw[Cu (AT t5)] at this;cases this
 .exact(((k4.trans (.app _ _ _)).set (.inl (by simp))).trans (.app _ _ _)).set (.inl (by simp))
 .rw[Cu (AT t5),ALr,By,l4];rfl
 .rw[Dx (by omega),<-l4];exact Ac
 .rw[Dx (by omega)];have e6:((L4++[Ob.dt [] 0]).set k (.ins ANC (EI ANL (.ref L4.length) [(ANI,W),(ANF,.ref g),(ANK,.ref L.length),(ANG,.ref (L.length+5))]))).length=L.length+7:=by simp[l4]
  rw[<-e6];exact Ac
noncomputable abbrev Ag:=List (AM4×List D)
abbrev Bv(G:Ag)(a:AM4):Nat:=((DM G a).getD []).length
abbrev RG(rest a:AM4):Bool:=(List.range rest.length).all λi=>Txt.startswith (rest.getD i "") (a.getD i "")
abbrev IR(rest a:AM4)(n:Nat):AM4:=(List.range n).map λi=>Txt.slice (rest.getD i "") (some ((a.getD i "").length:Int)) none
abbrev Do(rest a:AM4):Option (AM4):=if RG rest a=true then some (IR rest a rest.length) else none
def AGy{rest a b:AM4}(h:Do rest a=some b):b.length=rest.length:=by
 unfold Do at h;split at h
 .cases h;unfold IR;simp
 .cases h
def Uq(xs:AM4):(AZ xs).noRef=true:=by
 unfold AZ;show D.noRefL (xs.map D.str)=true
 induction xs with
 |nil=>rfl
 |cons x xs ih=>rw[Ak,D.noRefL,ih];rfl
def AGx{Q:ANb}{L:AB}{rest a:AM4}(hl:a.length=rest.length)(hz:rest.length<=1000)(hn:Do rest a=none->Q .non L)(hy:∀b,Do rest a=some b->Q (AZ b) L):W2 (KN [AZ rest,AZ a] L) Q:=by
 unfold KN;refine BR rfl ?_;unfold Ph;have et:∀xs:AM4,AZ xs=.tup (xs.map D.str):=λ_=>rfl;rw[et rest,et a];rfl';refine⟨rest.map D.str,[a.map D.str],rfl,⟨by simp[hl],by simp,rfl⟩,?_⟩;refine Ce (λj ρ L'=>L'=L++[.lst ((IR rest a j).map D.str)]/\(∀i,i<j->i<rest.length->Txt.startswith (rest.getD i "") (a.getD i "")=true)/\∃e1 e2,ρ=[some (.tup (rest.map D.str)),some (.tup (a.map D.str)),some (.ref L.length),e1,e2]) _ 0 _ _ ⟨rfl,λi hi=>(by omega),none,none,rfl⟩ ?_ ?_
 .rintro i x ρ L' hx ⟨rfl,hlt,e1,e2,rfl⟩;refine⟨decide_eq_true rfl,?_⟩;obtain⟨hi,rfl⟩:=Pt hl hx;rfl';refine Go (λhs=>?_) (λhs=>?_)
  .rfl';refine Gi Ac (by unfold IR;simp;omega) ?_;rfl';refine⟨?_,λk hk hkt=>?_,_,_,rfl⟩
   .have:IR rest a (0+i+1)=IR rest a (0+i)++[Txt.slice (rest.getD i "") (some ((a.getD i "").length:Int)) none]:=by
     unfold IR;rw[ALe,Cd,BW];rfl
    rw[this,Cd];simp
   .by_cases z:k=i
    .subst z;exact hs
    .exact hlt k (by omega) hkt
  .rfl';refine⟨rfl,Am _ _,hn ?_⟩;unfold Do;rw[if_neg];intro hall;unfold RG at hall;have:=CF.mp hall i (CM.mpr hi);rw[hs] at this;cases this
 .rintro ρ L' ⟨rfl,hlt,e1,e2,rfl⟩;refine⟨decide_eq_true rfl,?_⟩;rw[MQ,Ah,BW] at *;rfl';refine⟨Uq _,Am _ _,hy _ ?_⟩;unfold Do;rw[if_pos];unfold RG;rw[CF];exact λi hi=>hlt i (CM.mp hi) (CM.mp hi)
abbrev BO(G:Ag)(l:Nat)(rest:AM4):List (AM4):=if l=1 then (if rest∈G.map (·.1) then [rest] else []) else G.map (·.1)
abbrev AQ(G:Ag):Nat->AM4->Nat
 |0,_=>1
 |l+1,rest=>((BO G (l+1) rest).map λa=>match Do rest a with|some b=>Bv G a*AQ G l b|none=>0).sum
abbrev DV(G:Ag)(l:Nat)(rest:AM4)(st:List (AM4×Nat×AM4)×Nat)(a:AM4):List (AM4×Nat×AM4)×Nat:=match Do rest a with
 |none=>st
 |some b=>if AQ G l b=0 then st else (st.1++[(a,st.2,b)],st.2+Bv G a*AQ G l b)
abbrev Ch(G:Ag)(l:Nat)(rest:AM4)(xs:List (AM4)):List (AM4×Nat×AM4)×Nat:=xs.foldl (DV G l rest) ([],0)
abbrev Bp(G:Ag)(l:Nat)(rest:AM4):List (AM4×Nat×AM4):=(Ch G l rest (BO G (l+1) rest)).1
def Ye{G:Ag}{l:Nat}{rest:AM4}:∀(xs:List (AM4)) (st:List (AM4×Nat×AM4)×Nat),(xs.foldl (DV G l rest) st).2=st.2+(xs.map λa=>match Do rest a with|some b=>Bv G a*AQ G l b|none=>0).sum
 |[],st=>by simp
 |x::xs,st=>by
  rw[ALt,Ye xs,Ak,Ed];unfold DV
  cases e:Do rest x with
  |none=>simp
  |some b =>
   simp only
   by_cases z:AQ G l b=0
   .rw[if_pos z,z];simp
   .rw[if_neg z];simp only;omega
def Yc(G:Ag)(l:Nat)(rest:AM4):(Ch G l rest (BO G (l+1) rest)).2=AQ G (l+1) rest:=by unfold Ch;rw[Ye];simp[AQ]
def Yf{G:Ag}{l:Nat}{rest:AM4}:∀(xs:List (AM4)) (st:List (AM4×Nat×AM4)×Nat),∃ys,ys.Sublist xs/\((xs.foldl (DV G l rest) st).1).map (·.1)=st.1.map (·.1)++ys
 |[],st=>⟨[],List.Sublist.refl _,by simp⟩
 |x::xs,st=>by
  rw[ALt]
  have key:(DV G l rest st x).1.map (·.1)=st.1.map (·.1)\/(DV G l rest st x).1.map (·.1)=st.1.map (·.1)++[x]:=by
   unfold DV
   cases e:Do rest x with
   |none=>exact .inl rfl
   |some b =>
    simp only
    by_cases z:AQ G l b=0
    .rw[if_pos z];exact .inl rfl
    .rw[if_neg z];exact .inr (by simp)
  obtain⟨ys,h1,h2⟩:=Yf xs (DV G l rest st x);rcases key with k|k
  .exact⟨ys,h1.cons x,by rw[h2,k]⟩
  .exact⟨x::ys,h1.cons₂ x,by rw[h2,k];simp⟩
def Ny(G:Ag)(l:Nat)(rest:AM4)(xs:List (AM4)):((Ch G l rest xs).1.map (·.1)).Sublist xs:=by obtain⟨ys,h1,h2⟩:=Yf (G:=G) (l:=l) (rest:=rest) xs ([],0);unfold Ch;rw[h2];simpa using h1
def Uc{G:Ag}(h:(G.map (·.1)).Nodup)(l:Nat)(rest:AM4):(BO G l rest).Nodup:=by
 unfold BO;split
 .split
  .simp
  .exact .nil
 .exact h
def GB{G:Ag}{l:Nat}{rest a:AM4}(h:a∈BO G l rest):a∈G.map (·.1):=by
 unfold BO at h;split at h
 .split at h
  .have:a=rest:=by simpa using h
   subst this;assumption
  .cases h
 .exact h
def Qs{G:Ag}{l:Nat}{rest:AM4}:(BO G l rest).length<=G.length:=by
 unfold BO;split
 .split
  .rename_i h
   cases G with
   |nil=>cases h
   |cons=>simp
  .simp
 .simp
abbrev Cr(G:Ag)(sp:List (Nat×AM4))(k:Nat):Nat->AM4->Prop
 |0,_=>k=0
 |l+1,rest=>(AQ G (l+1) rest=0/\k=1)\/(AQ G (l+1) rest≠0/\∃j,k=j+2/\sp[j]?=some (l,rest))
def Cr.mono{G:Ag}{sp sp':List (Nat×AM4)}{k l:Nat}{rest:AM4}(h:Cr G sp k l rest)(p:sp <+: sp'):Cr G sp' k l rest:=by
 cases l with
 |zero=>exact h
 |succ l =>
  rcases h with h|⟨h1,j,h2,h3⟩
  .exact .inl h
  .exact .inr ⟨h1,j,h2,DJ p h3⟩
def Cr.one{G:Ag}{sp:List (Nat×AM4)}{k l:Nat}{rest:AM4}(h:Cr G sp k l rest):k=1↔AQ G l rest=0:=by
 cases l with
 |zero =>
  have:k=0:=h;subst this;simp[AQ]
 |succ l =>
  rcases h with⟨h1,h2⟩|⟨h1,j,h2,h3⟩
  .simp[h1,h2]
  .constructor
   .intro z;omega
   .intro z;exact absurd z h1
abbrev EM(G:Ag)(sp:List (Nat×AM4))(l:Nat)(x:AM4×Nat×AM4)(y:NK×D):Prop:=∃num:Nat,y=(kfD (AZ x.1),.tup [.int (x.2.1:Int),.int (num:Int)])/\Cr G sp num l x.2.2
def RO{α β:Type}{R S:α->β->Prop}{xs:List α}{ys:List β}(h:Paired R xs ys)(i:∀a b,R a b->S a b):Paired S xs ys:=by
 induction h with
 |nil=>exact .nil
 |cons r _ ih=>exact .cons (i _ _ r) ih
def ADl{α β:Type}{R:α->β->Prop}{xs:List α}{ys:List β}{x:α}{y:β}(h:Paired R xs ys)(r:R x y):Paired R (xs++[x]) (ys++[y]):=by
 induction h with
 |nil=>exact .cons r .nil
 |cons q _ ih=>exact .cons q ih
def EM.mono{G:Ag}{sp sp':List (Nat×AM4)}{l:Nat}{x:AM4×Nat×AM4}{y:NK×D}(p:sp <+: sp')(h:EM G sp l x y):EM G sp' l x y:=let ⟨n,e,k⟩:=h;⟨n,e,k.mono p⟩
def LS{G:Ag}{sp:List (Nat×AM4)}{l:Nat}{xs:List (AM4×Nat×AM4)}{ys:List (NK×D)}(h:Paired (EM G sp l) xs ys):ys.map (·.1)=xs.map λx=>kfD (AZ x.1):=by
 induction h with
 |nil=>rfl
 |cons r _ ih=>obtain⟨n,rfl,_⟩:=r;rw[Ak,Ak,ih]
abbrev Dn(k:Nat×AM4):D:=.tup [.int (k.1:Int),AZ k.2]
def IJ:KD Dn:=⟨λa=>Kq (by
  have h:(IU (a.2.map D.str)).isSome=true:=by
   induction a.2 with
   |nil=>rfl
   |cons x a ih =>
    rw[Ak]
    cases e:IU (a.map D.str) with
    |none=>rw[e] at ih;cases ih
    |some y=>simp[IU,LH,e]
  obtain⟨y,hy⟩:=AMN.mp h;show(Fq [.int (a.1:Int),.tup (a.2.map D.str)]).isSome=true
  simp[Fq,Ja,LH,hy]),λa b h=>by
  have h1:=D.tup.inj h;have h2:=List.cons.inj h1;have h3:=List.cons.inj h2.2;have e1:a.1=b.1:=by have:=D.int.inj h2.1;omega
  have e2:=Ct.inj _ _ h3.1
  exact Prod.ext e1 e2⟩
abbrev Dk(mk:List ((Nat×AM4)×Nat)):List (NK×D):=mk.map λe=>(kfD (Dn e.1),D.int (e.2:Int))
def WV(mk:List ((Nat×AM4)×Nat))(k:Nat×AM4):BL (Dk mk) (kfD (Dn k))=(mk.find? λe=>decide (e.1=k)).map λe=>D.int (e.2:Int):=by
 unfold BL Dk
 induction mk with
 |nil=>rfl
 |cons e es ih =>
  rw[Ak,Ez,Ez]
  by_cases h:e.1=k
  .subst h;simp
  .rw[decide_eq_false h,decide_eq_false (λz=>h (IJ.kf z))];exact ih
abbrev Jj(G:Ag)(sp:List (Nat×AM4))(L:AB)(r a:Nat):Nat->Prop
 |0=>∃ep,Dd L r 1 a [] ep
 |1=>∃ep,Dd L r 0 a [] ep
 |i+2=>∃l rest kvs ep,sp[i]?=some (l,rest)/\Dd L r (AQ G (l+1) rest:Int) a kvs ep/\l<=1000/\Paired (EM G (sp.take i) l) (Bp G l rest) kvs
def Jj.mono{G:Ag}{sp sp':List (Nat×AM4)}{L L':AB}{r a i:Nat}(h:Jj G sp L r a i)(p:sp <+: sp')(h1:L'[r]?=L[r]?)(h2:L'[a]?=L[a]?):Jj G sp' L' r a i:=by
 match i,h with
 |0,⟨ep,n⟩=>exact⟨ep,h1.trans n.1,h2.trans n.2⟩
 |1,⟨ep,n⟩=>exact⟨ep,h1.trans n.1,h2.trans n.2⟩
 |i+2,⟨l,rest,kvs,ep,e,n,hl,k⟩ =>
  refine⟨l,rest,kvs,ep,DJ p e,⟨h1.trans n.1,h2.trans n.2⟩,hl,?_⟩;obtain⟨q,rfl⟩:=p;rw[List.take_append_of_le_length (AL6 (Ay.mp e).1)];exact k
def Jj.node{G:Ag}{sp:List (Nat×AM4)}{L:AB}{r a i:Nat}(h:Jj G sp L r a i):∃w kvs ep,Dd L r w a kvs ep:=by
 match i,h with
 |0,⟨ep,n⟩=>exact⟨_,_,ep,n⟩
 |1,⟨ep,n⟩=>exact⟨_,_,ep,n⟩
 |i+2,⟨l,rest,kvs,ep,e,n,_,k⟩=>exact⟨_,_,ep,n⟩
structure BP (G:Ag) (X:AM9) (L:AB) (t g m nd nn rt:Nat) (W:D) (es:List (AM4×Nat×List D)) (sp:List (Nat×AM4)) (rs:List (Nat×Nat)) (mk:List ((Nat×AM4)×Nat)):Prop where
 t_:L[t]?=some (.ins ANC (Mx W g m nd nn rt))
 g_:DL AZ L g es
 gc:cont es=G
 nd_:L[nd]?=some (.lst (rs.map λp=>D.ref p.1))
 nn_:∃ep,L[nn]?=some (.dt (Dk mk) ep)
 mk_:∀e∈mk,Cr G sp e.2 e.1.1 e.1.2
 len:rs.length=sp.length+2
 rsl:rs.length<=16000000
 nod:∀i r a,rs[i]?=some (r,a)->Jj G sp L r a i
 ndg:nd∉BK es
 nng:nn≠g
 nnr:∀p∈rs,nn≠p.2
 out:∀x∈X,x≠t/\x≠g/\x∉BK es/\x≠nd/\x≠nn/\∀p∈rs,x≠p.1/\x≠p.2
section
variable {G:Ag}{X:AM9}{L L':AB}{t g m nd nn rt:Nat}{W:D}{es:List (AM4×Nat×List D)}{sp:List (Nat×AM4)}{rs:List (Nat×Nat)}{mk:List ((Nat×AM4)×Nat)}
def BP.same(T:BP G X L t g m nd nn rt W es sp rs mk)(h:∀j,(j=t\/j=g\/j∈BK es\/j=nd\/j=nn\/∃p∈rs,j=p.1\/j=p.2)->L'[j]?=L[j]?):BP G X L' t g m nd nn rt W es sp rs mk :=
 ⟨(h t (.inl rfl)).trans T.t_,T.g_.same (h g (.inr (.inl rfl))) λq hq=>h q (.inr (.inr (.inl hq))),T.gc,(h nd (.inr (.inr (.inr (.inl rfl))))).trans T.nd_,let ⟨ep,e⟩:=T.nn_;⟨ep,(h nn (.inr (.inr (.inr (.inr (.inl rfl)))))).trans e⟩,T.mk_,T.len,T.rsl,
   λi r a e=>(T.nod i r a e).mono (AR _) (h r (.inr (.inr (.inr (.inr (.inr ⟨_,Bj e,.inl rfl⟩)))))) (h a (.inr (.inr (.inr (.inr (.inr ⟨_,Bj e,.inr rfl⟩)))))),T.ndg,T.nng,T.nnr,T.out⟩
def BP.lt(T:BP G X L t g m nd nn rt W es sp rs mk){j:Nat}(h:j=t\/j=g\/j∈BK es\/j=nd\/j=nn\/∃p∈rs,j=p.1\/j=p.2):j<L.length:=by
 rcases h with rfl|rfl|h|rfl|rfl|⟨p,hp,h⟩
 .exact Cs T.t_
 .exact T.g_.glt
 .exact T.g_.lt h
 .exact Cs T.nd_
 .obtain⟨ep,e⟩:=T.nn_;exact Cs e
 .obtain⟨i,hi⟩:=AMi hp;obtain⟨w,kvs,ep,n⟩:=(T.nod i p.1 p.2 hi).node;rcases h with rfl|rfl
  .exact Cs n.1
  .exact Cs n.2
def BP.pre(T:BP G X L t g m nd nn rt W es sp rs mk)(p:L <+: L'):BP G X L' t g m nd nn rt W es sp rs mk:=T.same λj hj=>by
 have:=T.lt hj;obtain⟨M,rfl⟩:=p;rw[Ee this]
def BP.setX(T:BP G X L t g m nd nn rt W es sp rs mk){x:Nat}(hx:x∈X)(o:Ob):BP G X (L.set x o) t g m nd nn rt W es sp rs mk:=T.same λj hj=>by
 have hne:x≠j:=λz=>by
  obtain⟨h1,h2,h3,h4,h5,h6⟩:=T.out x hx;rcases hj with rfl|rfl|h|rfl|rfl|⟨p,hp,h⟩
  .exact h1 z
  .exact h2 z
  .exact h3 (z▸h)
  .exact h4 z
  .exact h5 z
  .rcases h with rfl|rfl
   .exact(h6 p hp).1 z
   .exact(h6 p hp).2 z
 rw[Dx hne]
def BP.more(T:BP G X L t g m nd nn rt W es sp rs mk){Y_:AM9}(h:∀y∈Y_,y∈X\/L.length<=y):BP G Y_ L t g m nd nn rt W es sp rs mk :=
 ⟨T.t_,T.g_,T.gc,T.nd_,T.nn_,T.mk_,T.len,T.rsl,T.nod,T.ndg,T.nng,T.nnr,λy hy=>by
  rcases h y hy with z|z
  .exact T.out y z
  .have lt:∀j,(j=t\/j=g\/j∈BK es\/j=nd\/j=nn\/∃p∈rs,j=p.1\/j=p.2)->y≠j:=λj hj e=>by have:=T.lt hj;omega
   exact⟨lt _ (.inl rfl),lt _ (.inr (.inl rfl)),λhm=>lt y (.inr (.inr (.inl hm))) rfl,lt _ (.inr (.inr (.inr (.inl rfl)))),lt _ (.inr (.inr (.inr (.inr (.inl rfl))))),λp hp=>⟨lt _ (.inr (.inr (.inr (.inr (.inr ⟨p,hp,.inl rfl⟩))))),lt _ (.inr (.inr (.inr (.inr (.inr ⟨p,hp,.inr rfl⟩)))))⟩⟩⟩
def BP.node(T:BP G X L t g m nd nn rt W es sp rs mk){k l:Nat}{rest:AM4}(h:Cr G sp k l rest)(h1:k≠1):∃r a kvs ep,rs[k]?=some (r,a)/\Dd L r (AQ G l rest:Int) a kvs ep/\(l=0->kvs=[])/\∀l',l=l'+1->Paired (EM G sp l') (Bp G l' rest) kvs:=by
 cases l with
 |zero =>
  have hk:k=0:=h;subst hk;have hlt:0<rs.length:=by rw[T.len];omega
  obtain⟨ep,n⟩:=T.nod 0 rs[0].1 rs[0].2 (by simp[hlt]);exact⟨_,_,[],ep,by simp[hlt],n,λ_=>rfl,λl' e=>by omega⟩
 |succ l =>
  rcases h with⟨_,h2⟩|⟨h2,j,rfl,h3⟩
  .exact absurd h2 h1
  .have hj:j<sp.length:=(Ay.mp h3).1;have hlt:j+2<rs.length:=by rw[T.len];omega
   obtain⟨l',rest',kvs,ep,e,n,_,k⟩:=T.nod (j+2) rs[j+2].1 rs[j+2].2 (by simp[hlt]);rw[h3] at e;cases e;exact⟨_,_,kvs,ep,by simp[hlt],n,λz=>by omega,λl' e=>by cases e;exact RO k λ_ _=>EM.mono (List.take_prefix _ _)⟩
def XJ{k:AM4}(h:k∈G.map (·.1)):∃ds,DM G k=some ds/\Bv G k=ds.length:=by
 obtain⟨e,hf,_⟩:=FH h;have:DM G k=some e.2:=by unfold DM;rw[hf];rfl
 exact⟨e.2,this,by unfold Bv;rw[this];rfl⟩
end
abbrev BV(g:Nat):Nat->Nat
 |0=>0
 |l+1=>1+g*BV g l
section
variable {G:Ag}{X:AM9}{L:AB}{t g m nd nn rt:Nat}{W:D}{es:List (AM4×Nat×List D)}{sp:List (Nat×AM4)}{rs:List (Nat×Nat)}{mk:List ((Nat×AM4)×Nat)}{Q:ANb}
def AAu(T:BP G X L t g m nd nn rt W es sp rs mk)(l:Nat)(rest:AM4)(h:Q (.ref L.length) (L++[.lst ((BO G l rest).map AZ)])):W2 (KO [.ref t,.int (l:Int),AZ rest] L) Q:=by
 unfold KO;refine Fb rfl ?_;unfold Pn;have ht:=T.t_;obtain⟨ep,hg⟩:=T.g_.at_;unfold BO at h;rfl';refine BU (λh0=>?_) (λh0=>?_)
 .rw[if_pos (by omega)] at h;rfl';refine Ry hg (Ct.key rest) ?_;have e1:(BL (CB AZ es) (kfD (AZ rest))).isSome=decide (rest∈G.map (·.1)):=by rw[AEs Ct,T.gc];exact decide_eq_decide.mpr Iff.rfl
  rw[e1]
  by_cases hm:rest∈G.map (·.1)
  .rw[if_pos hm] at h;rw[decide_eq_true hm];rfl';refine Nv rfl ?_;rfl';exact⟨rfl,h⟩
  .rw[if_neg hm] at h;rw[decide_eq_false hm];rfl';refine Jb rfl ?_;rfl';exact⟨rfl,h⟩
 .rw[if_neg (by omega)] at h;rfl';rw[Rh Ct];refine⟨rfl,?_⟩;have e2:es.map (λe=>AZ e.1)=(G.map (·.1)).map AZ:=by rw[<-T.gc,LI,Bt];rfl
  rw[e2];exact h
end
abbrev Sm(G:Ag)(n l:Nat)(f:Nat):Prop:=∀{X:AM9} {L:AB} {t g m nd nn rt:Nat} {W:D} {es:List (AM4×Nat×List D)} {sp:List (Nat×AM4)} {rs:List (Nat×Nat)} {mk:List ((Nat×AM4)×Nat)} {Q:ANb} {rest:AM4},
 BP G X L t g m nd nn rt W es sp rs mk->(∀x∈X,x<L.length)->rest.length=n->mk.length+BV G.length l<=16000000->rs.length+BV G.length l<=16000000 ->
 (∀L2 sp' rs' mk' k,BP G X L2 t g m nd nn rt W es sp' rs' mk'->sp <+: sp'->mk'.length<=mk.length+BV G.length l->rs'.length<=rs.length+BV G.length l->Cr G sp' k l rest->Aq [nd,nn] L L2->Q (.int (k:Int)) L2) ->
 W2 (zi f [.ref t,.int (l:Int),AZ rest] L) Q
def VB{G:Ag}{X X':AM9}{L L2:AB}{t g m nd nn rt:Nat}{W:D}{es:List (AM4×Nat×List D)}{sp sp':List (Nat×AM4)}{rs rs':List (Nat×Nat)}{mk mk':List ((Nat×AM4)×Nat)}(T:BP G X L t g m nd nn rt W es sp rs mk)(T':BP G X' L2 t g m nd nn rt W es sp' rs' mk')(p:sp <+: sp')(hp:L <+: L2):sp'=sp:=by have h1:=CY hp T.nd_;rw[T'.nd_] at h1;have h2:=congrArg List.length (Ob.lst.inj (Option.some.inj h1));rw[Ah,Ah,T.len,T'.len] at h2;exact(p.eq_of_length (by omega)).symm
def AEH{G:Ag}{n l f:Nat}(hl1:l<=1000)(ih:Sm G n l f)(hG:(G.map (·.1)).Nodup)(hGn:∀a∈G.map (·.1),a.length=n)(hn:n<=1000)(hGl:G.length<=16000000)(hGs:∀a∈G.map (·.1),Bv G a<=16777216)
  {X:AM9} {L:AB} {t g m nd nn rt:Nat} {W:D} {es:List (AM4×Nat×List D)} {sp:List (Nat×AM4)} {rs:List (Nat×Nat)} {mk:List ((Nat×AM4)×Nat)} {Q:ANb} {rest:AM4}
  (T:BP G X L t g m nd nn rt W es sp rs mk) (hX:∀x∈X,x<L.length) (hr:rest.length=n) (hz:mk.length+BV G.length (l+1)<=16000000) (hrs:rs.length+BV G.length (l+1)<=16000000)
  (h:∀L2 sp' rs' mk' k,BP G X L2 t g m nd nn rt W es sp' rs' mk'->sp <+: sp'->mk'.length<=mk.length+G.length*BV G.length l->rs'.length<=rs.length+BV G.length (l+1)->Cr G sp' k (l+1) rest->Aq [nd,nn] L L2->Q (.int (k:Int)) L2) :
  W2 (MX (zi f) [.ref t,.int ((l+1:Nat):Int),AZ rest] L) Q:=by
 unfold MX;refine Kc rfl ?_;unfold Pd;simp only[KG];refine Bk (λρ L1=>Dd L1 L.length 0 (L.length+1) [] 0/\L1.length=L.length+2/\L <+: L1/\ρ=[some (.ref t),some (.int ((l+1:Nat):Int)),some (AZ rest),some (.ref L.length),none,none,none]) ?_ ?_
 .rfl';refine RS Ac λL1 n1 l1 k1=>⟨rfl,?_⟩;have e1:(L++[Ob.ins AND []]).length=L.length+1:=by simp
  rw[e1] at n1 l1;have p1:L <+: L1:=(((Aq.app [L.length] L [Ob.ins AND []]).trans k1).mono λj hj=>.inr (by simp at hj;omega)).pre;rfl';exact⟨n1,by omega,p1,rfl⟩
 rintro ρ L1 ⟨n1,l1,p1,rfl⟩;have T1:=T.pre p1;have htl:=Qs (G:=G) (l:=l+1) (rest:=rest)
 have hfree:∀x,L.length<=x->x∉[nd,nn]:=λx hx hm=>by
  have h1:=Cs T.nd_;obtain⟨ep,h2⟩:=T.nn_;have h2:=Cs h2;simp only[Aa,Dw,or_false] at hm;omega
 refine Bk (λρ L'=>∃sp' rs' mk' kvs ep,BP G (L.length::(L.length+1)::(L.length+2)::X) L' t g m nd nn rt W es sp' rs' mk'/\sp <+: sp'/\mk'.length<=mk.length+G.length*BV G.length l/\rs'.length<=rs.length+G.length*BV G.length l /\
  Dd L' L.length (AQ G (l+1) rest:Int) (L.length+1) kvs ep/\Paired (EM G sp' l) (Bp G l rest) kvs/\Aq [nd,nn] L L'/\∃e4 e5 e6,ρ=[some (.ref t),some (.int ((l+1:Nat):Int)),some (AZ rest),some (.ref L.length),e4,e5,e6]) ?_ ?_
 .have ht1:=T1.t_;rfl';refine AAu T1 (l+1) rest ?_;rfl';generalize hL2:L1++[Ob.lst ((BO G (l+1) rest).map AZ)]=L2;have p2:L1 <+: L2:=by rw[<-hL2];exact Am _ _
  have l2:L2.length=L.length+3:=by rw[<-hL2];simp[l1]
  have a2:L2[L1.length]?=some (.lst ((BO G (l+1) rest).map AZ)):=by rw[<-hL2];exact Ac
  have n2:Dd L2 L.length 0 (L.length+1) [] 0:=⟨CY p2 n1.1,CY p2 n1.2⟩
  have T2:BP G (L.length::(L.length+1)::(L.length+2)::X) L2 t g m nd nn rt W es sp rs mk:=by
   refine(T.more λy hy=>?_).pre (p1.trans p2);simp only[Aa] at hy;rcases hy with rfl|rfl|rfl|hy
   .exact .inr (by omega)
   .exact .inr (by omega)
   .exact .inr (by omega)
   .exact .inl hy
  rw[l1] at a2 ⊢
  refine Ce (λj ρ L'=>∃sp' rs' mk' kvs ep,BP G (L.length::(L.length+1)::(L.length+2)::X) L' t g m nd nn rt W es sp' rs' mk'/\sp <+: sp'/\mk'.length<=mk.length+j*BV G.length l/\rs'.length<=rs.length+j*BV G.length l /\
   Dd L' L.length ((Ch G l rest ((BO G (l+1) rest).take j)).2:Int) (L.length+1) kvs ep/\Paired (EM G sp' l) (Ch G l rest ((BO G (l+1) rest).take j)).1 kvs/\L'[L.length+2]?=some (.lst ((BO G (l+1) rest).map AZ))/\Aq [nd,nn] L L' /\
   ∃e4 e5 e6,ρ=[some (.ref t),some (.int ((l+1:Nat):Int)),some (AZ rest),some (.ref L.length),e4,e5,e6]) _ 0 _ _ ⟨sp,rs,mk,[],0,T2,AR _,by omega,by omega,n2,.nil,a2,.of_pre (p1.trans p2),none,none,none,rfl⟩ ?_ ?_
  .rintro i x ρ L' hx ⟨sp',rs',mk',kvs,ep,T',psp,hmk,hrs',nA,pA,hL',hk,e4,e5,e6,rfl⟩;refine⟨decide_eq_true hL',?_⟩;rw[Ar] at hx;obtain⟨a,hse,hx⟩:=mS hx;cases hx;have hi:i<(BO G (l+1) rest).length:=(Ay.mp hse).1;have haG:=GB (Bj hse)
   have hst:Ch G l rest ((BO G (l+1) rest).take (0+i+1))=DV G l rest (Ch G l rest ((BO G (l+1) rest).take (0+i))) a:=by unfold Ch;rw[SE hse]
   have hmul:(i+1)*BV G.length l<=G.length*BV G.length l:=ALk _ (by omega);have hcn:BV G.length (l+1)=1+G.length*BV G.length l:=rfl;rw[ALd,Nat.one_mul] at hmul;have hstep:(0+i+1)*BV G.length l=(0+i)*BV G.length l+BV G.length l:=by rw[ALd (0+i) 1,Nat.one_mul]
   have hzi:(0+i)*BV G.length l=i*BV G.length l:=by rw[BW]
   have hmk2:mk'.length+BV G.length l<=16000000:=by omega
   have hrs2:rs'.length+BV G.length l<=16000000:=by omega
   rfl';refine AGx (by rw[hGn a haG,hr]) (by omega) (λhb=>?_) (λb hb=>?_)
   .have e7:DV G l rest (Ch G l rest ((BO G (l+1) rest).take (0+i))) a=Ch G l rest ((BO G (l+1) rest).take (0+i)):=by unfold DV;rw[hb]
    rw[hst,e7];rfl';exact⟨sp',rs',mk',kvs,ep,T',psp,by omega,by omega,nA,pA,hL',hk,_,_,_,rfl⟩
   .rfl';refine Jb rfl ?_;have ec:((l+1:Nat):Int)-1=(l:Int):=by omega
    rfl';rw[ec];refine ih T' (λy hy=>?_) (by rw[AGy hb,hr]) hmk2 hrs2 λL3 sp3 rs3 mk3 k3 T3 psp3 hmk3' hrs3 nk3 hk3=>?_
    .have hkl:=hk.1;have hl2:=Cs hL';simp only[Aa] at hy;rcases hy with rfl|rfl|rfl|hy
     .omega
     .omega
     .omega
     .have:=hX y hy;omega
    have nA3:Dd L3 L.length ((Ch G l rest ((BO G (l+1) rest).take (0+i))).2:Int) (L.length+1) kvs ep:=⟨hk3.get (hfree _ (Ae _)) nA.1,hk3.get (hfree _ (by omega)) nA.2⟩;have hL3:L3[L.length+2]?=some (.lst ((BO G (l+1) rest).map AZ)):=hk3.get (hfree _ (by omega)) hL';have pA3:Paired (EM G sp3 l) (Ch G l rest ((BO G (l+1) rest).take (0+i))).1 kvs:=RO pA λ_ _=>EM.mono psp3;have hone:=nk3.one;rfl';refine BU (λhne=>?_) (λhne=>?_)
    .have hk1:k3=1:=by omega
     have hw0:=hone.mp hk1;have e7:DV G l rest (Ch G l rest ((BO G (l+1) rest).take (0+i))) a=Ch G l rest ((BO G (l+1) rest).take (0+i)):=by unfold DV;rw[hb];simp only;rw[if_pos hw0]
     rw[hst,e7];rfl';exact⟨sp3,rs3,mk3,kvs,ep,T3,psp.trans psp3,by omega,by omega,nA3,pA3,hL3,hk.trans hk3,_,_,_,rfl⟩
    .have hk1:k3≠1:=by omega
     have hw0:AQ G l b≠0:=λz=>hk1 (hone.mpr z)
     have e7:DV G l rest (Ch G l rest ((BO G (l+1) rest).take (0+i))) a=((Ch G l rest ((BO G (l+1) rest).take (0+i))).1++[(a,(Ch G l rest ((BO G (l+1) rest).take (0+i))).2,b)],(Ch G l rest ((BO G (l+1) rest).take (0+i))).2+Bv G a*AQ G l b):=by unfold DV;rw[hb];simp only;rw[if_neg hw0]
     rw[hst,e7]
     have hknew:kfD (AZ a)∉kvs.map (·.1):=by rw[LS pA3];intro hm;obtain⟨y,hy,hy2⟩:=BA.mp hm;have hya:=Ct.kf hy2;have hsub:=(Ny G l rest ((BO G (l+1) rest).take (0+i))).subset (CN (f:=λx:AM4×Nat×AM4=>x.1) hy);have hnd:((BO G (l+1) rest).take (0+i+1)).Nodup:=List.Sublist.nodup (List.take_sublist _ _) (Uc hG _ _);rw[Fd hse,ALa] at hnd;exact hnd.2.2 _ hsub a (by simp) hya
     have hkvl:kvs.length<=i:=by have h1:=congrArg List.length (LS pA3);rw[Ah,Ah] at h1;have h2:=(Ny G l rest ((BO G (l+1) rest).take (0+i))).length_le;rw[Ah,FZ] at h2;omega
     generalize hwz:(Ch G l rest ((BO G (l+1) rest).take (0+i))).2=wz at *;generalize haz:(Ch G l rest ((BO G (l+1) rest).take (0+i))).1=az at *;have n3a:=nA3.1;rfl';refine Nk (kk:=kfD (AZ a)) nA3.2 (by omega) (Ct.key a) ?_;have hput:=λd ep=>NH (d:=d) (ep:=ep) hknew;rw[(hput _ 0).1,(hput .non _).2];generalize hL4:L3.set (L.length+1) (.dt (kvs++[(kfD (AZ a),.tup [.int (wz:Int),.int (k3:Int)])]) (ep+1))=L4;have T4:BP G (L.length::(L.length+1)::(L.length+2)::X) L4 t g m nd nn rt W es sp3 rs3 mk3:=by rw[<-hL4];exact T3.setX (by simp) _
     have nA4:Dd L4 L.length (wz:Int) (L.length+1) (kvs++[(kfD (AZ a),.tup [.int (wz:Int),.int (k3:Int)])]) (ep+1):=by rw[<-hL4];exact⟨HE (by omega) nA3.1,Cu nA3.2⟩
     have hL4':L4[L.length+2]?=some (.lst ((BO G (l+1) rest).map AZ)):=by rw[<-hL4];exact HE (by omega) hL3
     have hk4:Aq [nd,nn] L L4:=by rw[<-hL4];exact(hk.trans hk3).set (.inr (by omega))
     have ht4:=T4.t_;obtain⟨epg,hg4⟩:=T4.g_.at_;have hnd4:=T4.nd_;obtain⟨ds,hds,hsz⟩:=XJ haG;obtain⟨q,hq1,hq2⟩:=T4.g_.get Ct (k:=a) (ds:=ds) (by rw[T4.gc];exact hds);obtain⟨r0,a0,kv0,ep0,hr0,m0,_⟩:=T4.node nk3 hk1;have n4a:=nA4.1;have m0a:=m0.1;rfl';refine AG3 nA4.1 (by simp) rfl ?_;rfl';refine HF (kk:=kfD (AZ a)) hg4 (Ct.key a) hq1 ?_;rfl';refine DB (d:=.ref r0) hnd4 (DZ (by rw[Ar,hr0];rfl)) ?_;rfl';refine FF (JG (by have:=hGs a haG;rw[hsz] at this;omega)) ?_;refine⟨_,_,rfl,n4a,by show 2<1000;decide,?_⟩;refine⟨sp3,rs3,mk3,_,ep+1,T4.setX (by simp) _,psp.trans psp3,by omega,by omega,⟨?_,HE (by omega) nA4.2⟩,ADl pA3 ⟨k3,rfl,nk3⟩,HE (by omega) hL4',hk4.set (.inr (Ae _)),_,_,_,rfl⟩;rw[Cu n4a,hsz];push_cast;rfl
  .rintro ρ L' ⟨sp',rs',mk',kvs,ep,T',psp,hmk,hrs',nA,pA,hL',hk,e4,e5,e6,rfl⟩;rw[Ah,BW] at hmk hrs';have hmx:=ALk (BV G.length l) htl;refine⟨decide_eq_true hL',sp',rs',mk',kvs,ep,T',psp,by omega,by omega,?_,?_,hk,_,_,_,rfl⟩
   .rw[Ah,BW,Ec,Yc] at nA;exact nA
   .rw[Ah,BW,Ec] at pA;exact pA
 rintro ρ L3 ⟨sp',rs',mk',kvs,ep,T',psp,hmk,hrs',nA,pA,hk,e4,e5,e6,rfl⟩;have TX:BP G X L3 t g m nd nn rt W es sp' rs' mk':=T'.more λy hy=>.inl (by simp[hy]);have n3a:=nA.1;have ht3:=TX.t_;have hnd3:=TX.nd_;rfl';refine BU (λhw0=>?_) (λhw0=>?_)
 .have hw:AQ G (l+1) rest=0:=by omega
  rfl';have hcn:BV G.length (l+1)=1+G.length*BV G.length l:=rfl;refine⟨λhp _=>?_,h L3 sp' rs' mk' 1 TX psp hmk (by omega) (.inl ⟨hw,rfl⟩) hk⟩;exact h L sp rs mk 1 T (AR _) (by omega) (by omega) (.inl ⟨hw,rfl⟩) (.refl _ _)
 .have hw:AQ G (l+1) rest≠0:=by omega
  have hmx:=hz;have hcn:BV G.length (l+1)=1+G.length*BV G.length l:=rfl;rfl';refine Gi hnd3 (by rw[Ah];omega) ?_;have hnd5:(L3.set nd (.lst (rs'.map (λp=>D.ref p.1)++[.ref L.length])))[nd]?=some (.lst (rs'.map (λp=>D.ref p.1)++[.ref L.length])):=Cu hnd3;have ht5:(L3.set nd (.lst (rs'.map (λp=>D.ref p.1)++[.ref L.length])))[t]?=some (.ins ANC (Mx W g m nd nn rt)):=Ni hnd3 ht3 (by simp);rfl';have el:(((rs'.map (λp=>D.ref p.1)++[D.ref L.length]).length:Nat):Int)-1=((sp'.length+2:Nat):Int):=by rw[By,Ah,T'.len];simp
  rw[el];have hndn:nd≠L.length/\nd≠L.length+1:=by have:=Cs T.nd_;omega
  have pq:sp' <+: sp'++[(l,rest)]:=Am _ _
  have T5:BP G X (L3.set nd (.lst (rs'.map (λp=>D.ref p.1)++[.ref L.length]))) t g m nd nn rt W es (sp'++[(l,rest)]) (rs'++[(L.length,L.length+1)]) mk':=by
   have stay:∀j,j≠nd->(L3.set nd (.lst (rs'.map (λp=>D.ref p.1)++[.ref L.length])))[j]?=L3[j]?:=λj hj=>Dx (Ne.symm hj);obtain⟨epg,hg0⟩:=TX.g_.at_;obtain⟨epn,hnn0⟩:=TX.nn_;have ne1:g≠nd:=λz=>by rw[z,hnd3] at hg0;cases hg0
   have ne2:nn≠nd:=λz=>by rw[z,hnd3] at hnn0;cases hnn0
   refine⟨ht5,TX.g_.same (stay g ne1) λq hq=>stay q λz=>TX.ndg (z▸hq),TX.gc,by rw[hnd5];simp,⟨epn,(stay nn ne2).trans hnn0⟩,λe he=>(TX.mk_ e he).mono pq,by rw[By,By,TX.len];simp,?rsl,λi r a hi=>?_,TX.ndg,TX.nng,λp hp=>?_,λx hx=>?_⟩
   case rsl =>
    have hcn:BV G.length (l+1)=1+G.length*BV G.length l:=rfl;rw[By];simp only[List.length_singleton];omega
   .by_cases hlt:i<rs'.length
    .rw[Ee hlt] at hi;have hN:=TX.nod i r a hi;obtain⟨w0,kv0,ep0,m0⟩:=hN.node;refine hN.mono pq (stay r λz=>?_) (stay a λz=>?_)
     .have:=m0.1;rw[z,hnd3] at this;cases this
     .have:=m0.2;rw[z,hnd3] at this;cases this
    .have hi':i=sp'.length+2:=by
      have:=(Ay.mp hi).1;rw[By,TX.len] at this;rw[TX.len] at hlt;simp at this;omega
     subst hi';rw[ALV (by rw[TX.len];exact Ae _),TX.len,Nat.sub_self] at hi;cases hi;exact⟨l,rest,kvs,ep,by simp,⟨(stay _ (Ne.symm hndn.1)).trans nA.1,(stay _ (Ne.symm hndn.2)).trans nA.2⟩,hl1,RO pA λ_ _=>EM.mono (by rw[List.take_left];exact AR _)⟩
   .rcases Bx.mp hp with hp|hp
    .exact TX.nnr p hp
    .have:p=(L.length,L.length+1):=by simpa using hp
     subst this;obtain⟨ep0,h0⟩:=T.nn_;have:=Cs h0;show nn≠L.length+1;omega
   .obtain⟨h1,h2,h3,h4,h5,h6⟩:=TX.out x hx;refine⟨h1,h2,h3,h4,h5,λp hp=>?_⟩;rcases Bx.mp hp with hp|hp
    .exact h6 p hp
    .have:p=(L.length,L.length+1):=by simpa using hp
     subst this;have:=hX x hx;exact⟨by show x≠L.length;omega,by show x≠L.length+1;omega⟩
  refine⟨λhp _=>?_,h _ (sp'++[(l,rest)]) (rs'++[(L.length,L.length+1)]) mk' (sp'.length+2) T5 (psp.trans pq) hmk (by simp;omega) (.inr ⟨hw,sp'.length,rfl,by simp⟩) (hk.set (.inl (by simp)))⟩;have hbad:=VB T T5 (psp.trans pq) hp;have:=congrArg List.length hbad;have hl:=psp.length_le;rw[By] at this;simp at this;omega
abbrev EA(mk:List ((Nat×AM4)×Nat))(k:Nat×AM4)(v:Nat):List ((Nat×AM4)×Nat):=if k∈mk.map (·.1) then mk.map (λe=>if e.1=k then (e.1,v) else e) else mk++[(k,v)]
def ACX(mk:List ((Nat×AM4)×Nat))(k:Nat×AM4)(v:Nat):(EA mk k v).length<=mk.length+1:=by
 unfold EA;split
 .rw[Ah];omega
 .simp
def ACW{mk:List ((Nat×AM4)×Nat)}{k:Nat×AM4}{v:Nat}{e:(Nat×AM4)×Nat}(h:e∈EA mk k v):e∈mk\/e=(k,v):=by
 unfold EA at h;split at h
 .obtain⟨x,hx,rfl⟩:=BA.mp h
  by_cases z:x.1=k
  .rw[if_pos z];exact .inr (by rw[z])
  .rw[if_neg z];exact .inl hx
 .rcases Bx.mp h with h|h
  .exact .inl h
  .exact .inr (by simpa using h)
def ACD(mk:List ((Nat×AM4)×Nat))(k:Nat×AM4)(v:Nat):Dk (EA mk k v)=CO (Dk mk) (kfD (Dn k)) (.int (v:Int)):=by
 by_cases h:k∈mk.map (·.1)
 .have h2:((Dk mk).any λkv=>decide (kv.1=kfD (Dn k)))=true:=by
   obtain⟨e,he,rfl⟩:=BA.mp h;rw[List.any_eq_true];exact⟨(kfD (Dn e.1),.int (e.2:Int)),CN (f:=λe:(Nat×AM4)×Nat=>(kfD (Dn e.1),D.int (e.2:Int))) he,by simp⟩
  unfold CO;rw[if_pos h2];unfold EA;rw[if_pos h];unfold Dk;rw[Bt,Bt];apply GV;intro e _
  show(kfD (Dn (if e.1=k then (e.1,v) else e).1),D.int ((if e.1=k then (e.1,v) else e).2:Int))=if kfD (Dn e.1)=kfD (Dn k) then (kfD (Dn e.1),D.int (v:Int)) else (kfD (Dn e.1),D.int (e.2:Int))
  by_cases z:e.1=k
  .rw[if_pos z,if_pos (by rw[z])]
  .rw[if_neg z,if_neg (λy=>z (IJ.kf y))]
 .have hn:kfD (Dn k)∉(Dk mk).map (·.1):=λhm=>by
   unfold Dk at hm;rw[Bt] at hm;obtain⟨e,he,h2⟩:=BA.mp hm;exact h (by rw[<-IJ.kf h2];exact CN he)
  rw[(NH (ep:=0) hn).1];unfold EA;rw[if_neg h];unfold Dk;rw[Cd];rfl
def AEq(mk:List ((Nat×AM4)×Nat))(k:Nat×AM4)(v:Nat):BL (Dk (EA mk k v)) (kfD (Dn k))=some (.int (v:Int)):=by
 rw[WV]
 have hin:k∈(EA mk k v).map (·.1):=by
  unfold EA
  by_cases h:k∈mk.map (·.1)
  .rw[if_pos h,Bt];obtain⟨e,he,hek⟩:=BA.mp h;refine BA.mpr ⟨e,he,?_⟩
   show(if e.1=k then (e.1,v) else e).1=k
   rw[if_pos hek];exact hek
  .rw[if_neg h];simp
 obtain⟨e,hf,he,hk⟩:=FH hin;rw[hf];unfold EA at he
 by_cases h:k∈mk.map (·.1)
 .rw[if_pos h] at he;obtain⟨x,_,rfl⟩:=BA.mp he
  by_cases z:x.1=k
  .rw[if_pos z];rfl
  .rw[if_neg z] at hk;exact absurd hk z
 .rw[if_neg h] at he;rcases Bx.mp he with he|he
  .exact absurd (by rw[<-hk];exact CN he) h
  .have:e=(k,v):=by simpa using he
   rw[this];rfl
def Vv{G:Ag}{n:Nat}(hG:(G.map (·.1)).Nodup)(hGn:∀a∈G.map (·.1),a.length=n)(hn:n<=1000)(hGl:G.length<=16000000)(hGs:∀a∈G.map (·.1),Bv G a<=16777216):∀(l f:Nat),l<f->f<=1000->Sm G n l f
 |0,0,hf,_=>absurd hf (by omega)
 |0,f+1,hf,hf1=>by
  intro T hX hr hz hrs h;rename_i X L t g m nd nn rt W es sp rs mk Q rest;unfold zi;refine BR rfl ?_;unfold MS;simp only[Lj];rfl';exact⟨rfl,AR _,h L sp rs mk 0 T (AR _) (by omega) (by omega) rfl (.refl _ _)⟩
 |l+1,0,hf,_=>absurd hf (by omega)
 |l+1,f+1,hf,hf1=>by
  intro T hX hr hz hrs h;rename_i X L t g m nd nn rt W es sp rs mk Q rest;have ih:Sm G n l f:=Vv hG hGn hn hGl hGs l f (by omega) (by omega);unfold zi;refine Kc rfl ?_;unfold MS;have ht:=T.t_;obtain⟨epn,hnn⟩:=T.nn_;have hcn:BV G.length (l+1)=1+G.length*BV G.length l:=rfl;rfl';refine Ry hnn (IJ.key (l+1,rest)) ?_;have hlk:=WV mk (l+1,rest)
  cases hf:mk.find? (λe=>decide (e.1=(l+1,rest))) with
  |some e =>
   rw[hf] at hlk;have hem:=AMY hf;have hek:e.1=(l+1,rest):=by have:=List.find?_some hf;simpa using this
   have hnum:=T.mk_ e hem;rw[hek] at hnum;rw[hlk];rfl';refine Jb rfl ?_;rfl';refine HF (kk:=kfD (Dn (l+1,rest))) hnn (IJ.key (l+1,rest)) hlk ?_;refine⟨λ_ _=>h L sp rs mk e.2 T (AR _) (by omega) (by omega) hnum (.refl _ _),h L sp rs mk e.2 T (AR _) (by omega) (by omega) hnum (.refl _ _)⟩
  |none =>
   rw[hf] at hlk;rw[hlk];rfl';refine Nv rfl ?_;rfl';refine AEH (by omega) ih hG hGn hn hGl hGs T hX hr hz hrs λL2 sp2 rs2 mk2 k2 T2 psp2 hmk2 hrs2 nk2 hk2=>?_;have ht2:=T2.t_;obtain⟨ep2,hnn2⟩:=T2.nn_;rfl';refine Nk (kk:=kfD (Dn (l+1,rest))) hnn2 (by unfold Dk;rw[Ah];omega) (IJ.key (l+1,rest)) ?_;have hput:=ACD mk2 (l+1,rest) k2;rw[<-hput];have hlk3:=AEq mk2 (l+1,rest) k2;have ne1:nn≠nd:=λz=>by have:=T2.nd_;rw[<-z,hnn2] at this;cases this
   generalize hep:epN (Dk mk2) (kfD (Dn (l+1,rest))) ep2=ep3;have hnn3:(L2.set nn (.dt (Dk (EA mk2 (l+1,rest) k2)) ep3))[nn]?=some (.dt (Dk (EA mk2 (l+1,rest) k2)) ep3):=Cu hnn2;have stay:∀j,j≠nn->(L2.set nn (.dt (Dk (EA mk2 (l+1,rest) k2)) ep3))[j]?=L2[j]?:=λj hj=>Dx (Ne.symm hj);have ht3:(L2.set nn (.dt (Dk (EA mk2 (l+1,rest) k2)) ep3))[t]?=some (.ins ANC (Mx W g m nd nn rt)):=Ni hnn2 ht2 (by simp)
   have T3:BP G X (L2.set nn (.dt (Dk (EA mk2 (l+1,rest) k2)) ep3)) t g m nd nn rt W es sp2 rs2 (EA mk2 (l+1,rest) k2):=by
    refine⟨ht3,T2.g_.same (stay g (Ne.symm T2.nng)) λq hq=>stay q λz=>?_,T2.gc,(stay nd (Ne.symm ne1)).trans T2.nd_,⟨ep3,hnn3⟩,λe he=>?_,T2.len,T2.rsl,λi r a hi=>?_,T2.ndg,T2.nng,T2.nnr,T2.out⟩
    .obtain⟨e,he,rfl⟩:=BA.mp hq;have:=T2.g_.it e he;rw[z,hnn2] at this;cases this
    .rcases ACW he with h'|rfl
     .exact T2.mk_ e h'
     .exact nk2
    .have hN:=T2.nod i r a hi;obtain⟨w0,kv0,ep0,m0⟩:=hN.node;refine hN.mono (AR _) (stay r λz=>?_) (stay a λz=>?_)
     .have:=m0.1;rw[z,hnn2] at this;cases this
     .exact T2.nnr _ (Bj hi) z.symm
   have hml:=ACX mk2 (l+1,rest) k2;rfl';refine HF (kk:=kfD (Dn (l+1,rest))) hnn3 (IJ.key (l+1,rest)) hlk3 ?_;refine⟨λhp _=>?_,h _ sp2 rs2 _ k2 T3 psp2 (by omega) (by omega) nk2 (hk2.set (.inl (by simp)))⟩;have hsp:=VB T T3 psp2 hp;rw[hsp] at nk2;exact h L sp rs mk k2 T (AR _) (by omega) (by omega) nk2 (.refl _ _)
def XB{w:AM4}:∀(A:List (AM4×List D)) {c:List (AM4×List D)} {a:AM4} {ps:List D},(a,ps)∈A.foldl (Bo w) c->∀p∈ps,(∃qs,(a,qs)∈c/\p∈qs)\/∃x∈A,x.1=a/\p∈x.2
 |[],c,a,ps,h,p,hp=>.inl ⟨ps,h,hp⟩
 |x::A,c,a,ps,h,p,hp=>by
  rcases XB A (c:=Bo w c x) h p hp with⟨qs,h1,h2⟩|⟨y,hy,h1,h2⟩
  .unfold Bo at h1;split at h1
   .rcases Ia h1 with h'|⟨h3,h'|⟨zs,h',h4⟩⟩
    .exact .inl ⟨qs,h',h2⟩
    .exact .inr ⟨x,Aw,h3.symm,by rw[<-h'];exact h2⟩
    .rw[h4] at h2;rcases Bx.mp h2 with h2|h2
     .exact .inl ⟨zs,by rw[h3];exact h',h2⟩
     .exact .inr ⟨x,Aw,h3.symm,h2⟩
   .exact .inl ⟨qs,h1,h2⟩
  .exact .inr ⟨y,Ax _ hy,h1,h2⟩
def Vc{ts:AM4}:∀(A:List D) {c:List (ANA×List D)} {a:ANA} {ps:List D},(a,ps)∈A.foldl (Co ts) c->∀p∈ps,(∃qs,(a,qs)∈c/\p∈qs)\/(p∈A/\Ga ts p=some a)
 |[],c,a,ps,h,p,hp=>.inl ⟨ps,h,hp⟩
 |x::A,c,a,ps,h,p,hp=>by
  rcases Vc A (c:=Co ts c x) h p hp with⟨qs,h1,h2⟩|⟨h1,h2⟩
  .unfold Co at h1
   cases e:Ga ts x with
   |none=>rw[e] at h1;exact .inl ⟨qs,h1,h2⟩
   |some ks =>
    rw[e] at h1
    have hx:∀p,p∈[x]->(p∈x::A/\Ga ts p=some ks):=λp hp=>by
     have:p=x:=by simpa using hp
     subst this;exact⟨Aw,e⟩
    rcases Ia h1 with h'|⟨h3,h'|⟨zs,h',h4⟩⟩
    .exact .inl ⟨qs,h',h2⟩
    .rw[h'] at h2;rw[h3];exact .inr (hx p h2)
    .rw[h4] at h2;rcases Bx.mp h2 with h2|h2
     .exact .inl ⟨zs,by rw[h3];exact h',h2⟩
     .rw[h3];exact .inr (hx p h2)
  .exact .inr ⟨Ax _ h1,h2⟩
def Vb{ts:AM4}{ks:ANA}{ps:List D}(h:(ks,ps)∈CI ts){p:D}(hp:p∈ps):p∈DX/\Ga ts p=some ks:=by
 rcases Vc DX h p hp with⟨_,h1,_⟩|h1
 .cases h1
 .exact h1
def XC{w:AM4}:∀(A:List (AM4×List D)) {c:List (AM4×List D)} {a:AM4},a∈(A.foldl (Bo w) c).map (·.1)->a∈c.map (·.1)\/∃x∈A,x.1=a
 |[],c,a,h=>.inl h
 |x::A,c,a,h=>by
  rcases XC A (c:=Bo w c x) h with h1|⟨y,hy,h1⟩
  .unfold Bo at h1;split at h1
   .rw[Sf] at h1;split at h1
    .exact .inl h1
    .rcases Bx.mp h1 with h1|h1
     .exact .inl h1
     .have h5:a=x.1:=by simpa using h1
      exact .inr ⟨x,Aw,h5.symm⟩
   .exact .inl h1
  .exact .inr ⟨y,Ax _ hy,h1⟩
def OB{ws ts:AM4}{x:AM4×List D}(h:x∈DF ws ts++Gq ts (CI ts)):(∃w∈ws,x=(ts.map (λ_=>w),[Mq w]))\/∃s∈CI ts,∃e∈CI ts,∃d∈ED,FM ts s.1 e.1=true/\x=Gk ts s e d:=by
 rcases Bx.mp h with h|h
 .obtain⟨w,hw,rfl⟩:=BA.mp h;exact .inl ⟨w,hw,rfl⟩
 .obtain⟨s,hs,h⟩:=ALf.mp h;obtain⟨e,he,h⟩:=ALf.mp h;unfold Cq at h;split at h
  .obtain⟨d,hd,rfl⟩:=BA.mp h;exact .inr ⟨s,hs,e,he,d,hd,by assumption,rfl⟩
  .cases h
def XG{ws ts w:AM4}{a:AM4}(h:a∈(EC ws ts w).map (·.1)):a.length=ts.length:=by
 rcases XC _ h with h|⟨x,hx,rfl⟩
 .cases h
 .rcases OB hx with⟨w,_,rfl⟩|⟨s,_,e,_,d,_,_,rfl⟩
  .simp
  .unfold Gk;simp[YC]
def XF(ws ts w:AM4):((EC ws ts w).map (·.1)).Nodup:=XA _ .nil
abbrev Yq(ws ts:AM4)(a:AM4)(p:D):Prop:=Dq ws p/\dNK p=some (kfD p)/\∀i,i<ts.length->Cp (ts.getD i "") p=.str (a.getD i "")
def Wu{ts:AM4}{p:D}{ks:ANA}(h:Ga ts p=some ks){i:Nat}(hi:i<ts.length):Di p (ts.getD i "")=.int (ks.getD i 0):=by
 have e:=Nb h;have hl:ks.length=ts.length:=by have:=congrArg List.length e;simpa using this.symm
 have h1:=congrArg (λl=>l[i]?) e;simp only[Ar] at h1;have e1:ts[i]?=some (ts.getD i ""):=by simp[hi]
 have e2:ks[i]?=some (ks.getD i 0):=by simp[hl,hi]
 rw[e1,e2] at h1;exact Option.some.inj h1
def XE{ws ts w:AM4}{a:AM4}{ps:List D}(h:(a,ps)∈EC ws ts w){p:D}(hp:p∈ps):Yq ws ts a p:=by
 rcases XB _ h p hp with⟨_,h1,_⟩|⟨x,hx,rfl,h2⟩
 .cases h1
 .rcases OB hx with⟨w,hw,rfl⟩|⟨s,hs,e,he,d,hd,hlt,rfl⟩
  .have:p=Mq w:=by simpa using h2
   subst this;refine⟨.inl ⟨w,hw,rfl⟩,Kq rfl,λi hi=>?_⟩;have:(ts.map λ_=>w).getD i ""=w:=by simp[hi]
   rw[this];rfl
  .unfold Gk Ft at h2;simp only[ALf,BA] at h2;obtain⟨x,hx,y,hy,rfl⟩:=h2;obtain⟨hx1,hx2⟩:=Vb (ks:=s.1) (ps:=s.2) hs hx;obtain⟨hy1,hy2⟩:=Vb (ks:=e.1) (ps:=e.2) he hy;have px:=RI x hx1;have py:=RI y hy1
   have hdd:La d:=by simp only[ED,Aa,Dw,or_false] at hd;exact hd
   refine⟨.inr ⟨d,x,y,rfl,hdd,px,py⟩,?_,λi hi=>?_⟩
   .obtain⟨k,n,e,rfl,_⟩:=px;obtain⟨k',n',e',rfl,_⟩:=py;exact Kq rfl
   .have i1:=Wu hx2 hi;have i2:=Wu hy2 hi;have hl:=of_decide_eq_true (CF.mp hlt i (CM.mpr hi))
    have ec:((EW ts s.1 e.1 ts.length).map (EV d)).getD i ""=EV d (Txt.slice (ts.getD i "") (some (s.1.getD i 0)) (some (e.1.getD i 0))):=by unfold EW;simp[hi]
    show Cp (ts.getD i "") (.tup [.str d,x,y])=.str (((EW ts s.1 e.1 ts.length).map (EV d)).getD i "");rw[ec];obtain⟨k',n',e',rfl,_⟩:=py;rw[NO];rw[i1,i2];simp only;rw[if_neg (by omega)]
def YE{α:Type}{p q:α->Bool}(h:∀x,p x=true->q x=false):∀l:List α,l.countP p+l.countP q<=l.length
 |[]=>by simp
 |x::l=>by
  have ih:=YE h l;rw[ALn,ALn,DQ]
  cases hp:p x with
  |false=>cases hq:q x <;> simp <;> omega
  |true=>rw[h x hp];simp;omega
abbrev GD{α:Type}(r:α->α->Bool)(l m:List α):Nat:=(l.map λx=>m.countP (r x)).sum
def ADn{α:Type}(r:α->α->Bool)(x:α)(l m:List α):GD r l (x::m)=GD r l m+l.countP (λy=>r y x):=by
 unfold GD
 induction l with
 |nil=>rfl
 |cons y l ih =>
  rw[Ak,Ak,Ed,Ed,ih,ALn,ALn];omega
def Vo{α:Type}{r:α->α->Bool}(h:∀x y,r x y=true->r y x=false):∀l:List α,2*GD r l l<=l.length*l.length
 |[]=>by simp[GD]
 |x::l=>by
  have ih:=Vo h l
  have hx:r x x=false:=by
   cases e:r x x with
   |false=>rfl
   |true=>rw[h x x e] at e;cases e
  have e1:GD r (x::l) (x::l)=(x::l).countP (r x)+GD r l (x::l):=by unfold GD;rw[Ak,Ed]
  rw[e1,ADn,ALn,hx];have h2:=YE (p:=r x) (q:=λy=>r y x) (λy hy=>h x y hy) l;simp only[ALc,if_false,DQ]
  have e3:(l.length+1)*(l.length+1)=l.length*l.length+2*l.length+1:=by rw[ALd,Nat.mul_add];omega
  omega
def Xg{α β:Type}(f:α->List β)(n:α->Nat)(h:∀x,(f x).length=n x):∀l:List α,(l.flatMap f).length=(l.map n).sum
 |[]=>rfl
 |x::l=>by rw[AL3,By,h,Xg f n h l,Ak,Ed]
def Vp(ts:AM4)(s:ANA×List D):∀P:List (ANA×List D),(P.flatMap λe=>Cq ts s e).length=3*P.countP λe=>FM ts s.1 e.1
 |[]=>rfl
 |e::P=>by
  rw[AL3,By,Vp ts s P,ALn];unfold Cq
  by_cases h:FM ts s.1 e.1=true
  .rw[if_pos h,if_pos h];simp[ED];omega
  .rw[if_neg h,if_neg h];simp
def Um{α:Type}(f:α->Nat):∀l:List α,(l.map λx=>3*f x).sum=3*(l.map f).sum
 |[]=>rfl
 |x::l=>by rw[Ak,Ed,Um f l,Ak,Ed];omega
def AHL(ts:AM4):(Gq ts (CI ts)).length<=2400:=by
 have hb:=NN ts
 have e1:(Gq ts (CI ts)).length=3*GD (λs e=>FM ts s.1 e.1) (CI ts) (CI ts):=by unfold Gq;rw[Xg _ (λs=>3*(CI ts).countP λe=>FM ts s.1 e.1) (λs=>Vp ts s _),Um];rfl
 rw[e1]
 cases ts with
 |nil =>
  have hlen:(CI []).length<=1:=by
   have hnd:((CI []).map (·.1)).Nodup:=by
    have:∀(A:List D) (c:List (ANA×List D)),(c.map (·.1)).Nodup->((A.foldl (Co []) c).map (·.1)).Nodup:=by
     intro A
     induction A with
     |nil=>intro c h;exact h
     |cons x A ih =>
      intro c h;refine ih _ ?_;unfold Co;split
      .exact Se h
      .exact h
    exact this DX [] .nil
   match h:CI [] with
   |[]=>simp
   |[_]=>simp
   |a::b::r =>
    rw[h] at hnd;have h1:a.1=[]:=ALu.mp (NM (ts:=[]) (by rw[h];simp));have h2:b.1=[]:=ALu.mp (NM (ts:=[]) (by rw[h];simp));rw[Ak,Ak,ALR] at hnd;exact absurd (by rw[h1,h2];simp) hnd.1
  have h2:GD (λs e:ANA×List D=>FM [] s.1 e.1) (CI []) (CI [])<=1:=by
   unfold GD
   match h:CI [] with
   |[]=>simp
   |[a] =>
    simp only[Ak,AL1,Ed,List.sum_nil];have:=List.countP_le_length (p:=λe:ANA×List D=>FM [] a.1 e.1) (l:=[a]);simp at this ⊢;omega
   |a::b::r=>rw[h] at hlen;simp at hlen
  omega
 |cons t ts =>
  have h:=Vo (r:=λs e:ANA×List D=>FM (t::ts) s.1 e.1) (λs e hse=>by
   rw[AMH];intro hes;have h1:=of_decide_eq_true (CF.mp hse 0 (CM.mpr (by simp)));have h2:=of_decide_eq_true (CF.mp hes 0 (CM.mpr (by simp)))
   omega) (CI (t::ts))
  have h3:(CI (t::ts)).length*(CI (t::ts)).length<=40*40:=ALm hb.1 hb.1;omega
def Yl{ws ts:AM4}{x:AM4×List D}(h:x∈DF ws ts++Gq ts (CI ts)):x.2.length<=1600:=by
 rcases OB h with⟨w,_,rfl⟩|⟨s,hs,e,he,d,_,_,rfl⟩
 .simp
 .show(Ft d s.2 e.2).length<=1600;rw[IX];exact ALm ((NN ts).2 s hs) ((NN ts).2 e he)
def Ru{ws:AM4}(hw:ws.length<=6)(ts w:AM4):(EC ws ts w).length<=2406/\EG (EC ws ts w)<=4000000/\∀e∈EC ws ts w,e.2.length<=4000000:=by
 have hl:(DF ws ts++Gq ts (CI ts)).length<=2406:=by
  rw[By];have:=AHL ts;have:(DF ws ts).length=ws.length:=by unfold DF;simp
  omega
 have h1:=Ng (w:=w) (DF ws ts++Gq ts (CI ts)) LN λa ha=>Yl ha;have h2:=Wy (w:=w) (m:=1600) (DF ws ts++Gq ts (CI ts)) (c:=[]) .nil λa ha=>Yl ha;have h3:=ALk 1600 hl;have e0:EG ([]:List (AM4×List D))=0:=rfl;refine⟨?_,?_,λe he=>?_⟩
 .have:=h1.1;unfold EC;omega
 .unfold EC;omega
 .have:=h1.2 e he;omega
def Uk{ws:AM4}(hw:ws.length<=6)(ts w:AM4){a:AM4}(h:a∈(EC ws ts w).map (·.1)):Bv (EC ws ts w) a<=4000000:=by
 obtain⟨e,hf,he,_⟩:=FH h;have:Bv (EC ws ts w) a=e.2.length:=by unfold Bv DM;rw[hf];rfl
 rw[this];exact(Ru hw ts w).2.2 e he
abbrev EH(exs:FT):FT:=(CP (exs.map BG)).map λi=>exs.getD i ("","")
def Qw(exs:FT):sortP (exs.map BG)=(EH exs).map BG:=by unfold sortP EH;rw[Bt];apply GV;intro i hi;have hi2:=CM.mp ((JC (exs.map BG)).mem_iff.mp hi);rw[Ah] at hi2;show(exs.map BG).getD i D.non=BG (exs.getD i ("",""));simp[hi2]
def VE(exs:FT):(EH exs).Perm exs:=by have h:=(JC (exs.map BG)).map λi=>exs.getD i (("",""):Str×Str);rw[Ah,NF] at h;exact h
def Yj(exs:FT):(exs.map BG).all isPr=true:=by rw[CF];intro d hd;obtain⟨e,_,rfl⟩:=BA.mp hd;exact decide_eq_true rfl
def AFb{Q:ANb}{L:AB}{k:Nat}{exs:FT}(e:L[k]?=some (.lst (exs.map BG)))(hz:exs.length<64)(h:Q (.ref L.length) (L++[.lst ((EH exs).map BG)])):W2 (Kw [.ref k] L) Q:=by refine⟨_,_,?_,h⟩;unfold Kw;simp only[e];rw[if_pos (by rw[Yj,Ah];simp[hz]),Qw]
abbrev cs(g:Nat):Nat->Nat
 |0=>0
 |j+1=>cs g j+BV g (j+1)
abbrev FN(L:AB)(t:Nat)(ws:AM4)(G:Ag)(wd:AM4):Prop:=∃g m nd nn rt es sp rs mk,∃ks:AM9,BP G [] L t g m nd nn rt (AZ ws) es sp rs mk/\(∃ep,L[m]?=some (.dt (Bb (DD G)) ep))/\L[rt]?=some (.lst (ks.map λ(k:Nat)=>D.int (k:Int)))/\ks.length=3/\∀i k,ks[i]?=some k->Cr G sp k (i+1) wd
def FN.pre{L L':AB}{t:Nat}{ws:AM4}{G:Ag}{wd:AM4}(T:FN L t ws G wd)(p:L <+: L'):FN L' t ws G wd:=by obtain⟨g,m,nd,nn,rt,es,sp,rs,mk,ks,T,⟨ep,hm⟩,hr,hk,hn⟩:=T;exact⟨g,m,nd,nn,rt,es,sp,rs,mk,ks,T.pre p,⟨ep,CY p hm⟩,CY p hr,hk,hn⟩
abbrev HM(b:Nat)(L:AB)(t:Nat)(ws:AM4)(G:Ag)(wd:AM4):Prop:=∃g m nd nn rt es sp rs mk,∃ks:AM9,BP G (List.range b) L t g m nd nn rt (AZ ws) es sp rs mk/\(b<=m/\b<=rt)/\(∃ep,L[m]?=some (.dt (Bb (DD G)) ep))/\L[rt]?=some (.lst (ks.map λ(k:Nat)=>D.int (k:Int)))/\ks.length=3/\∀i k,ks[i]?=some k->Cr G sp k (i+1) wd
def HM.tab{b:Nat}{L:AB}{t:Nat}{ws:AM4}{G:Ag}{wd:AM4}(T:HM b L t ws G wd):FN L t ws G wd:=by obtain⟨g,m,nd,nn,rt,es,sp,rs,mk,ks,T,_,h1,h2,h3,h4⟩:=T;exact⟨g,m,nd,nn,rt,es,sp,rs,mk,ks,T.more (λ_ hy=>(nomatch hy)),h1,h2,h3,h4⟩
def HM.pre{b:Nat}{L L':AB}{t:Nat}{ws:AM4}{G:Ag}{wd:AM4}(T:HM b L t ws G wd)(p:L <+: L'):HM b L' t ws G wd:=by obtain⟨g,m,nd,nn,rt,es,sp,rs,mk,ks,T,hb,⟨ep,hm⟩,hr,hk,hn⟩:=T;exact⟨g,m,nd,nn,rt,es,sp,rs,mk,ks,T.pre p,hb,⟨ep,CY p hm⟩,CY p hr,hk,hn⟩
def HM.set{b:Nat}{L:AB}{t k:Nat}{ws:AM4}{G:Ag}{wd:AM4}(T:HM b L t ws G wd)(h:k<b)(o:Ob):HM b (L.set k o) t ws G wd:=by obtain⟨g,m,nd,nn,rt,es,sp,rs,mk,ks,T,hb,⟨ep,hm⟩,hr,hk,hn⟩:=T;exact⟨g,m,nd,nn,rt,es,sp,rs,mk,ks,T.setX (CM.mpr h) o,hb,⟨ep,HE (by omega) hm⟩,HE (by omega) hr,hk,hn⟩
def AF7{x l N g:Nat}(h:x<l\/x=N+1+7\/x=N+1+8)(hg:g=l+3)(hN:g<N)(n:Nat)(hn:n<=7):x≠N+n:=by omega
def AF9{x l N g:Nat}(h:x<l\/x=N+1+7\/x=N+1+8)(hg:g=l+3)(hN:g<N):x≠g:=by omega
def AF8{x l N g:Nat}(h:x<l\/x=N+1+7\/x=N+1+8)(hg:g=l+3)(h1:x<N)(h2:g<x):False:=by omega
def Ue{Q:ANb}{L:AB}{w ex:Nat}{ws:AM4}{exs:FT}(hw:L[w]?=some (.lst (ws.map D.str)))(hl:ws.length<=6)(he:L[ex]?=some (.lst (exs.map BG)))(hx:Hx exs)(hxl:exs.length<60)
  (h:∀L2 t,L <+: L2->HM L.length L2 t ws (EC ws ((EH exs).map (·.1)) ((EH exs).map (·.2))) ((EH exs).map (·.2))->Q (.ref t) L2):W2 (Im [.ref w,.ref ex] L) Q:=by
 unfold Im;refine Fb rfl ?_;unfold PZ;simp only[Iu];have hsl:(EH exs).length=exs.length:=(VE exs).length_eq;generalize hts:(EH exs).map (·.1)=ts at h;generalize hwd:(EH exs).map (·.2)=wd at h;have htl:ts.length=exs.length:=by rw[<-hts,Ah,hsl]
 have hwl:wd.length=ts.length:=by rw[<-hts,<-hwd,Ah,Ah]
 have ok:OD ts:=⟨λy hy=>by
  rw[<-hts] at hy;obtain⟨e,he,rfl⟩:=BA.mp hy;have:=hx e ((VE exs).mem_iff.mp he)
  exact⟨this.1,this.2.1⟩,by omega⟩
 generalize hS:EH exs=S at hts hwd hsl;rfl';refine AFb he (by omega) ?_;rw[hS];rfl'
 refine HS (λρ=>∃e,ρ=[e]) (λx=>match x with|.tup [.str a,.str b]=>.str a|_=>.non) (λacc=>decide_eq_true (AT Ac)) ⟨_,rfl⟩ (by rw[Ah];omega) ?_ ?_
 .rintro x hx ρ ⟨e,rfl⟩;obtain⟨y,_,rfl⟩:=BA.mp hx;unfold BG;rfl';refine⟨⟨_,rfl⟩,λacc=>?_⟩;rfl';exact⟨rfl,rfl⟩
 have em1:(S.map BG).map (λx=>match x with|.tup [.str a,.str b]=>D.str a|_=>.non)=ts.map D.str:=by rw[<-hts,Bt,Bt];rfl
 rw[em1];rfl'
 refine HS (λρ=>∃e,ρ=[e]) (λx=>match x with|.tup [.str a,.str b]=>.str b|_=>.non) (λacc=>decide_eq_true (AT (AT Ac))) ⟨_,rfl⟩ (by rw[Ah];omega) ?_ ?_
 .rintro x hx ρ ⟨e,rfl⟩;obtain⟨y,_,rfl⟩:=BA.mp hx;unfold BG;rfl';refine⟨⟨_,rfl⟩,λacc=>?_⟩;rfl';exact⟨rfl,rfl⟩
 have em2:(S.map BG).map (λx=>match x with|.tup [.str a,.str b]=>D.str b|_=>.non)=wd.map D.str:=by rw[<-hwd,Bt,Bt];rfl
 rw[em2];rfl';refine AFZ (AT (AT (AT hw))) hl (AT Ac) ok hwl λL1 es p1 g1 c1 a1=>?_;generalize hGg:EC ws ts wd=G at c1 h;have hGb:G.length<=2406/\EG G<=4000000/\∀e∈G,e.2.length<=4000000:=by rw[<-hGg];exact Ru hl ts wd
 have hGnd:(G.map (·.1)).Nodup:=by rw[<-hGg];exact XF ws ts wd
 have hGn:∀a∈G.map (·.1),a.length=ts.length:=λa ha=>by rw[<-hGg] at ha;exact XG ha
 have hGs:∀a∈G.map (·.1),Bv G a<=16777216:=λa ha=>by
  rw[<-hGg] at ha ⊢;have:=Uk hl ts wd ha;omega
 have hGp:∀e∈G,∀p∈e.2,dNK p=some (kfD p):=λe he p hp=>by
  rw[<-hGg] at he;exact(XE (a:=e.1) (ps:=e.2) he hp).2.1
 generalize hG:(L++[Ob.lst (S.map BG)]++[Ob.lst (ts.map D.str)]++[Ob.lst (wd.map D.str)]).length=g at g1 a1 ⊢;have hG':g=L.length+3:=by rw[<-hG];simp
 have p1':L <+: L1:=((Am _ _).trans ((Am _ _).trans (Am _ _))).trans p1;have hl1:=p1'.length_le;have gl:=g1.glt;rfl';have g1':DL AZ (L1++[Ob.ins ANC []]) g es:=g1.pre (Am _ _);refine AAx (M:=Bb (DD G)) Ac g1'.glt (λL' Q' kL lL q=>?_) λL2 l2 k2 t2 m2 n2 a2 b2 nn2 rt2=>⟨rfl,?_⟩
 .have hLn:L1.length∉g::BK es:=λhm=>by
   rcases Aa.mp hm with z|z
   .omega
   .have:=g1.lt z;omega
  have gL:DL AZ L' g es:=g1'.keep kL (by simp;omega) λq hq z=>by
   have z':q=L1.length:=by simpa using z
   exact hLn (Ax _ (by rw[<-z'];exact hq))
  refine AES gL (by rw[c1];exact hGp) (by rw[c1];omega) (by rw[c1];exact λe he=>by have:=hGb.2.2 e he;omega) λep=>?_;rw[c1];exact q ep
 have e1:(L1++[Ob.ins ANC []]).length=L1.length+1:=by simp
 rw[e1] at t2 m2 n2 a2 b2 nn2 rt2 l2;clear e1;generalize hN:L1.length=N at *;have adl:∀q∈BK es,q<N:=λq hq=>by rw[<-hN];exact g1.lt hq
 have g2:DL AZ L2 g es:=g1'.keep k2 (by simp;omega) λq hq z=>by
  have:q=N:=by simpa using z
  have:=adl q hq;omega
 have T2:BP G (List.range L.length++[N+1+7,L2.length]) L2 N g (N+1) (N+1+5) (N+1+6) (N+1+7) (AZ ws) es [] [(N+1+1,N+1+2),(N+1+3,N+1+4)] []:=by
  refine⟨t2,g2,c1,n2,⟨0,nn2⟩,(λ_ hm=>(nomatch hm)),rfl,(by show 2<=16000000;decide),λi r a hr=>?_,λhm=>?_,by omega,λp hp=>?_,λx hx=>?_⟩
  .match i,hr with
   |0,hr=>cases hr;exact⟨_,a2⟩
   |1,hr=>cases hr;exact⟨_,b2⟩
   |i+2,hr=>simp at hr
  .have:=adl _ hm;omega
  .simp only[Aa,Dw,or_false] at hp;rcases hp with rfl|rfl
   .exact λh=>absurd (Nat.add_left_cancel h) (by decide)
   .exact λh=>absurd (Nat.add_left_cancel h) (by decide)
  .have hx2:x<L.length\/x=N+1+7\/x=N+1+8:=by
    rcases Bx.mp hx with hx|hx
    .exact .inl (CM.mp hx)
    .simp only[Aa,Dw,or_false] at hx;rcases hx with rfl|rfl
     .exact .inr (.inl rfl)
     .exact .inr (.inr (by omega))
   have far:∀n,n<=7->x≠N+n:=AF7 hx2 hG' gl;refine⟨far 0 (Dg _),AF9 hx2 hG' gl,λhm=>AF8 hx2 hG' (adl _ hm) (a1 _ hm),far 6 (by decide),far 7 (by decide),λp hp=>?_⟩;simp only[Aa,Dw,or_false] at hp;rcases hp with rfl|rfl
   .exact⟨far 2 (by decide),far 3 (by decide)⟩
   .exact⟨far 4 (by decide),far 5 (by decide)⟩
 have p2:L <+: L2:=by have:Aq [N] L1 L2:=(Aq.app _ _ _).trans k2;exact p1'.trans (this.mono λj hj=>.inr (by simp at hj;omega)).pre
 have ht2:=T2.t_;rfl';generalize hM:L2.length=M at *
 have hcs:∀j,j<=3->cs G.length j<=6000000:=λj hj=>by
  have hg:=hGb.1
  have e3:cs G.length 3=3+2*G.length+G.length*G.length:=by simp only[cs,BV];simp only[Nat.mul_zero,Nat.add_zero,Nat.mul_one,Nat.mul_add];omega
  have h4:G.length*G.length<=2406*2406:=ALm hg hg
  have:cs G.length j<=cs G.length 3:=by
   match j,hj with
   |0,_=>exact Dg _
   |1,_=>simp only[cs];omega
   |2,_=>simp only[cs];omega
   |3,_=>exact Ae _
  omega
 refine FA (I:=λj ρ L'=>(∃e,ρ=[e,some (.ref N),some (AZ wd)])/\∃sp rs mk,∃ks:AM9,BP G (List.range L.length++[N+1+7,M]) L' N g (N+1) (N+1+5) (N+1+6) (N+1+7) (AZ ws) es sp rs mk/\mk.length<=cs G.length j/\rs.length<=2+cs G.length j/\ks.length=j/\(∀i k,ks[i]?=some k->Cr G sp k (i+1) wd) /\
  Aq [N+1+5,N+1+6] L2 L'/\L'[M]?=some (.lst (ks.map λ(k:Nat)=>D.int (k:Int)))) _ 0 _ _ ⟨⟨_,rfl⟩,[],_,[],[],T2.pre (Am _ _),Ae _,Ae _,rfl,λi k hk=>by simp at hk,.app _ _ _,by rw[<-hM];exact Ac⟩ ?_ ?_
 .rintro i x ρ L' hx ⟨⟨e,rfl⟩,sp,rs,mk,ks,T,hmk,hrs,hks,hkn,k',hM'⟩;refine⟨rfl,?_⟩
  have hi:i<3/\x=.int ((i+1:Nat):Int):=by
   match i,hx with
   |0,hx=>cases hx;exact⟨by decide,rfl⟩
   |1,hx=>cases hx;exact⟨by decide,rfl⟩
   |2,hx=>cases hx;exact⟨by decide,rfl⟩
   |i+3,hx=>simp at hx
  obtain⟨hi,rfl⟩:=hi;have hc:=hcs (0+i+1) (by omega);have hce:cs G.length (0+i+1)=cs G.length (0+i)+BV G.length (i+1):=by rw[BW];rfl
  rfl';refine Vv hGnd hGn (by omega) (by omega) hGs (i+1) 5 (by omega) (by omega) T (λy hy=>?_) hwl (by omega) (by omega) λL3 sp3 rs3 mk3 k3 T3 psp3 hmk3 hrs3 nk3 hk3=>?_
  .have hM2:=Cs hM';rcases Bx.mp hy with hy|hy
   .have:=CM.mp hy;have:=p2.length_le;omega
   .simp only[Aa,Dw,or_false] at hy;rcases hy with rfl|rfl <;> omega
  have hM3:L3[M]?=some (.lst (ks.map λ(k:Nat)=>D.int (k:Int))):=hk3.get (by simp;omega) hM';refine⟨_,hM3,by rw[Ah,hks];omega,⟨_,rfl⟩,sp3,rs3,mk3,ks++[k3],T3.setX (by simp) _,by omega,by omega,by simp[hks],λj k hj=>?_,(k'.trans hk3).set (.inr (by omega)),?_⟩
  .by_cases hlt:j<ks.length
   .rw[Ee hlt] at hj;exact(hkn j k hj).mono psp3
   .have hj':j=ks.length:=by
     have:=(Ay.mp hj).1;simp at this;omega
    subst hj';rw[ALV (Ae _),Nat.sub_self] at hj;cases hj;rw[hks,BW];exact nk3
  .rw[Cu hM3];simp
 .rintro ρ L' ⟨⟨e,rfl⟩,sp,rs,mk,ks,T,hmk,hrs,hks,hkn,k',hM'⟩;refine⟨rfl,?_⟩;have hks3:ks.length=3:=hks;have rt':L'[N+1+7]?=some (.lst []):=k'.get (by simp) rt2;obtain⟨epm,m2⟩:=m2;have m':L'[N+1]?=some (.dt (Bb (DD G)) epm):=k'.get (by simp) m2;have htk:=T.t_;rfl';refine Rz rt' hM' (by simp[hks3]) ?_;rfl';refine⟨rfl,h _ N ?_ ⟨g,N+1,N+1+5,N+1+6,N+1+7,es,sp,rs,mk,ks,(T.setX (by simp) _).more (λy hy=>.inl (AMa _ hy)),⟨by omega,by omega⟩,⟨epm,Ni rt' m' (by simp)⟩,?_,hks3,hkn⟩⟩
  .exact(((Aq.of_pre p2).step k' λj hj=>.inr (by simp at hj;omega)).set (.inr (by omega))).pre
  .rw[Cu rt'];simp
noncomputable abbrev DH:=AM4×Nat×AM4
abbrev FJ(z:Nat):Option DH->List DH->Option DH
 |o,[]=>o
 |o,x::r=>if z<x.2.1 then o else FJ z (some x) r
abbrev EO(G:Ag):Nat->AM4->Nat->List D
 |0,_,_=>[]
 |l+1,rest,z=>match FJ z none (Bp G l rest) with
  |none=>[]
  |some x=>(((DM G x.1).getD [])[(z-x.2.1) / AQ G l x.2.2]?.getD .non)::EO G l x.2.2 ((z-x.2.1) % AQ G l x.2.2)
abbrev Hz(G:Ag)(l:Nat)(x:DH):Nat:=Bv G x.1*AQ G l x.2.2
abbrev HK(G:Ag)(l:Nat):Nat->List DH->Nat->Prop
 |s,[],e=>s=e
 |s,x::r,e=>x.2.1=s/\0<Hz G l x/\HK G l (s+Hz G l x) r e
def YI{G:Ag}{l:Nat}{x:DH}:∀{r:List DH} {s e:Nat},HK G l s r e->x.2.1=e->0<Hz G l x->HK G l s (r++[x]) (e+Hz G l x)
 |[],s,e,h,h1,h2=>⟨h1.trans (Eq.symm h),h2,by show _=_;rw[show s=e from h]⟩
 |y::r,s,e,h,h1,h2=>⟨h.1,h.2.1,YI h.2.2 h1 h2⟩
def Sa{G:Ag}{l:Nat}{rest:AM4}(hp:∀a∈G.map (·.1),0<Bv G a):HK G l 0 (Bp G l rest) (AQ G (l+1) rest):=by
 rw[<-Yc];unfold Bp Ch
 have:∀(xs:List (AM4)) (st:List DH×Nat),(∀a∈xs,a∈G.map (·.1))->HK G l 0 st.1 st.2->HK G l 0 (xs.foldl (DV G l rest) st).1 (xs.foldl (DV G l rest) st).2:=by
  intro xs
  induction xs with
  |nil=>intro st _ h;exact h
  |cons x xs ih =>
   intro st hm h;refine ih _ (λa ha=>hm a (Ax _ ha)) ?_;unfold DV
   cases e:Do rest x with
   |none=>exact h
   |some b =>
    simp only
    by_cases z:AQ G l b=0
    .rw[if_pos z];exact h
    .rw[if_neg z];exact YI h rfl (Nat.mul_pos (hp x (hm x Aw)) (Nat.pos_of_ne_zero z))
 exact this _ ([],0) (λa ha=>GB ha) rfl
def AF5{G:Ag}{l z:Nat}{x:DH}:∀{r:List DH} {s e:Nat},HK G l s r e->z<s->FJ z (some x) r=some x
 |[],s,e,_,_=>rfl
 |y::r,s,e,h,hz=>by
  unfold FJ;rw[if_pos (by rw[h.1];exact hz)]
def Xj{G:Ag}{l z:Nat}:∀{r:List DH} {s e:Nat} {o:Option DH},HK G l s r e->s<=z->z<e->∃x∈r,FJ z o r=some x/\x.2.1<=z/\z<x.2.1+Hz G l x
 |[],s,e,o,h,h1,h2=>by have:s=e:=h;omega
 |y::r,s,e,o,h,h1,h2=>by
  unfold FJ;rw[if_neg (by rw[h.1];omega)]
  by_cases hz:z<s+Hz G l y
  .exact⟨y,Aw,AF5 h.2.2 hz,by rw[h.1];exact h1,by rw[h.1];exact hz⟩
  .obtain⟨x,hx,h3⟩:=Xj (o:=some y) h.2.2 (by omega) h2;exact⟨x,Ax _ hx,h3⟩
def Hr{G:Ag}{l:Nat}{rest:AM4}{x:DH}(h:x∈Bp G l rest):x.1∈BO G (l+1) rest/\Do rest x.1=some x.2.2/\AQ G l x.2.2≠0:=by
 unfold Bp Ch at h
 have:∀(xs:List (AM4)) (st:List DH×Nat),x∈(xs.foldl (DV G l rest) st).1->x∈st.1\/(x.1∈xs/\Do rest x.1=some x.2.2/\AQ G l x.2.2≠0):=by
  intro xs
  induction xs with
  |nil=>intro st h;exact .inl h
  |cons y xs ih =>
   intro st h;rcases ih _ h with h1|⟨h1,h2⟩
   .unfold DV at h1
    cases e:Do rest y with
    |none=>rw[e] at h1;exact .inl h1
    |some b =>
     rw[e] at h1;simp only at h1
     by_cases z:AQ G l b=0
     .rw[if_pos z] at h1;exact .inl h1
     .rw[if_neg z] at h1;rcases Bx.mp h1 with h1|h1
      .exact .inl h1
      .have h1':x=(y,st.2,b):=by simpa using h1
       subst h1';exact .inr ⟨Aw,e,z⟩
   .exact .inr ⟨Ax _ h1,h2⟩
 rcases this _ _ h with h1|h1
 .cases h1
 .exact h1
def Uo{α:Type}{f:α->Nat}{m:Nat}:∀(l:List α),(∀x∈l,f x<=m)->(l.map f).sum<=l.length*m
 |[],_=>by simp
 |x::l,h=>by
  rw[Ak,Ed,DQ,ALd];have h1:=h x Aw;have h2:=Uo l λy hy=>h y (Ax _ hy);omega
structure DO (ws ts:AM4) (G:Ag):Prop where
 nd:(G.map (·.1)).Nodup
 ln:G.length<=2406
 sz:∀a∈G.map (·.1),Bv G a<=4000000
 pos:∀a∈G.map (·.1),0<Bv G a
 snd:∀e∈G,∀p∈e.2,Yq ws ts e.1 p
 len:∀a∈G.map (·.1),a.length=ts.length
def RK{ts:AM4}:∀(A:List D) {c:List (ANA×List D)},(∀e∈c,e.2≠[])->∀e∈A.foldl (Co ts) c,e.2≠[]
 |[],c,h=>h
 |x::A,c,h=>by
  refine RK A ?_;unfold Co
  cases e:Ga ts x with
  |none=>exact h
  |some ks =>
   rintro⟨k,qs⟩ he;rcases Ia he with h'|⟨_,h'|⟨zs,h',h4⟩⟩
   .exact h _ h'
   .simp only;rw[h'];simp
   .simp only;rw[h4];simp
def Wz{w:AM4}:∀(A:List (AM4×List D)) {c:List (AM4×List D)},(∀a∈A,a.2≠[])->(∀e∈c,e.2≠[])->∀e∈A.foldl (Bo w) c,e.2≠[]
 |[],c,_,h=>h
 |x::A,c,hA,h=>by
  refine Wz A (λa ha=>hA a (Ax _ ha)) ?_;unfold Bo;split
  .rintro⟨k,qs⟩ he;have hx:=hA x Aw;rcases Ia he with h'|⟨_,h'|⟨zs,h',h4⟩⟩
   .exact h _ h'
   .simp only;rw[h'];exact hx
   .simp only;rw[h4];simp[hx]
  .exact h
def AFY{ws:AM4}(hw:ws.length<=6)(ts w:AM4):DO ws ts (EC ws ts w):=by
 refine⟨XF ws ts w,(Ru hw ts w).1,λa ha=>Uk hw ts w ha,λa ha=>?_,λe he p hp=>XE (a:=e.1) (ps:=e.2) he hp,λa ha=>XG ha⟩;obtain⟨e,hf,he,_⟩:=FH ha;have:Bv (EC ws ts w) a=e.2.length:=by unfold Bv DM;rw[hf];rfl
 rw[this];refine List.length_pos_iff.mpr (Wz (w:=w) (DF ws ts++Gq ts (CI ts)) (c:=[]) (λx hx=>?_) (by simp) e he);rcases OB hx with⟨w,_,rfl⟩|⟨s,hs,e,he,d,_,_,rfl⟩
 .simp
 .have h1:=RK (ts:=ts) DX (c:=[]) (by simp) s hs;have h2:=RK (ts:=ts) DX (c:=[]) (by simp) e he;intro z;have z':(Ft d s.2 e.2).length=0:=congrArg List.length z;rw[IX] at z';rcases Nat.mul_eq_zero.mp z' with q|q
  .exact h1 (ALu.mp q)
  .exact h2 (ALu.mp q)
def UQ{ws ts:AM4}{G:Ag}(K:DO ws ts G):∀(l:Nat) (rest:AM4),AQ G l rest<=10000000000 ^ l
 |0,_=>by simp[AQ]
 |l+1,rest=>by
  have h:=Uo (m:=4000000*10000000000 ^ l) (f:=λa=>match Do rest a with|some b=>Bv G a*AQ G l b|none=>0) (BO G (l+1) rest) λa ha=>by
   cases e:Do rest a with
   |none=>exact Dg _
   |some b=>exact ALm (K.sz a (GB ha)) (UQ K l b)
  have h2:(BO G (l+1) rest).length<=2406:=CD Qs K.ln;have h3:=ALk (4000000*10000000000 ^ l) h2;rw[Nat.pow_succ]
  show((BO G (l+1) rest).map λa=>match Do rest a with|some b=>Bv G a*AQ G l b|none=>0).sum<=_
  generalize 10000000000 ^ l=B at *;omega
def AAZ{ws ts:AM4}{G:Ag}(K:DO ws ts G){l:Nat}(hl:l<=3)(rest:AM4):AQ G l rest<=1000000000000000000000000000000:=by refine CD (UQ K l rest) (CD (Nat.pow_le_pow_right (by decide) hl) (by decide))
def VL{G:Ag}(hp:∀a∈G.map (·.1),0<Bv G a){l z:Nat}{rest:AM4}(hz:z<AQ G (l+1) rest):∃x∈Bp G l rest,FJ z none (Bp G l rest)=some x/\x.2.1<=z/\(z-x.2.1) / AQ G l x.2.2<Bv G x.1/\(z-x.2.1) % AQ G l x.2.2<AQ G l x.2.2:=by obtain⟨x,hx,h1,h2,h3⟩:=Xj (o:=none) (Sa (l:=l) (rest:=rest) hp) (Dg z) hz;have hw:=(Hr hx).2.2;refine⟨x,hx,h1,h2,Nat.div_lt_of_lt_mul ?_,Nat.mod_lt _ (Nat.pos_of_ne_zero hw)⟩;unfold Hz at h3;rw[Nat.mul_comm];omega
def Ki{ws ts:AM4}{G:Ag}(K:DO ws ts G):∀{l z:Nat} {rest:AM4},z<AQ G l rest->(EO G l rest z).length=l/\∀p∈EO G l rest z,Dq ws p
 |0,z,rest,_=>⟨rfl,(λ_ h=>(nomatch h))⟩
 |l+1,z,rest,hz=>by
  obtain⟨x,hx,h1,h2,h3,h4⟩:=VL K.pos hz;have ih:=Ki K h4;unfold EO;rw[h1];refine⟨by simp[ih.1],λp hp=>?_⟩;rcases Aa.mp hp with hp|hp
  .obtain⟨e,hf,he,hek⟩:=FH (GB (Hr hx).1);have hg:DM G x.1=some e.2:=by unfold DM;rw[hf];rfl
   have hlt:(z-x.2.1) / AQ G l x.2.2<e.2.length:=by unfold Bv at h3;rw[hg] at h3;exact h3
   rw[hg] at hp;have:p∈e.2:=by rw[hp];simp[hlt]
   exact(K.snd e he p this).1
  .exact ih.2 p hp
section
variable {G:Ag}{X:AM9}{L:AB}{t g m nd nn rt:Nat}{W:D}{es:List (AM4×Nat×List D)}{sp:List (Nat×AM4)}{rs:List (Nat×Nat)}{mk:List ((Nat×AM4)×Nat)}{Q:ANb}
def BP.ways(T:BP G X L t g m nd nn rt W es sp rs mk){k l:Nat}{rest:AM4}(h:Cr G sp k (l+1) rest):∃r a,rs[k]?=some (r,a)/\L[r]?=some (.ins AND [(ANE,.int (AQ G (l+1) rest:Int)),(ANH,.ref a)]):=by
 by_cases h1:k=1
 .subst h1;have hw:=h.one.mp rfl;have hlt:1<rs.length:=by rw[T.len];omega
  obtain⟨ep,n⟩:=T.nod 1 rs[1].1 rs[1].2 (by simp[hlt]);exact⟨rs[1].1,rs[1].2,by simp[hlt],by rw[hw];exact n.1⟩
 .obtain⟨r,a,kvs,ep,e,n,_⟩:=T.node h h1;exact⟨r,a,e,n.1⟩
def Vl{α β:Type}{R:α->β->Prop}{xs:List α}{ys:List β}(h:Paired R xs ys):∀{i:Nat} {y:β},ys[i]?=some y->∃x,xs[i]?=some x/\R x y:=by
 induction h with
 |nil=>intro i y e;simp at e
 |cons r _ ih =>
  intro i y e
  cases i with
  |zero=>simp at e;subst e;exact⟨_,rfl,r⟩
  |succ i=>obtain⟨x,h1,h2⟩:=ih (i:=i) (y:=y) (by simpa using e);exact⟨x,by simpa using h1,h2⟩
def ADm{α β:Type}{R:α->β->Prop}{xs:List α}{ys:List β}(h:Paired R xs ys):∀{i:Nat} {x:α},xs[i]?=some x->∃y,ys[i]?=some y/\R x y:=by
 induction h with
 |nil=>intro i y e;simp at e
 |cons r _ ih =>
  intro i y e
  cases i with
  |zero=>simp at e;subst e;exact⟨_,rfl,r⟩
  |succ i=>obtain⟨x,h1,h2⟩:=ih (i:=i) (x:=y) (by simpa using e);exact⟨x,by simpa using h1,h2⟩
abbrev Nz:Option DH->D
 |none=>.non
 |some x=>AZ x.1
def Yg(o:Option DH):(Nz o).noRef=true:=by
 cases o with
 |none=>rfl
 |some x=>exact Uq _
def AG9{r a ep l z:Nat}{w:Int}{kvs:List (NK×D)}{arms:List DH}(hn:Dd L r w a kvs ep)(pA:Paired (EM G sp l) arms kvs)(h:Q (Nz (FJ z none arms)) L):W2 (Js [.ref r,.int (z:Int)] L) Q:=by
 unfold Js;refine BR rfl ?_;unfold QF;have n1:=hn.1;have n2:=hn.2;rfl';refine Ce (λj ρ L'=>L'=L/\∃o e3 e4,FJ z o (arms.drop j)=FJ z none arms/\ρ=[some (.ref r),some (.int (z:Int)),some (Nz o),e3,e4]) _ 0 _ _ ⟨rfl,none,none,none,by rw[AMC],rfl⟩ ?_ ?_
 .rintro i x ρ L' hx ⟨rfl,o,e3,e4,ho,rfl⟩;refine⟨decide_eq_true n2,?_⟩;unfold Eh at hx;rw[Ar] at hx;obtain⟨kv,hkv,hx⟩:=mS hx;cases hx;obtain⟨y,hy,num,rfl,_⟩:=Vl pA hkv;dsimp only;rw[Ct.nk]
  have hdr:arms.drop (0+i)=y::arms.drop (0+i+1):=by rw[BW];exact(List.getElem_cons_drop (h:=(Ay.mp hy).1)).symm.trans (by rw[(Ay.mp hy).2])
  have hstep:FJ z o (y::arms.drop (0+i+1))=if z<y.2.1 then o else FJ z (some y) (arms.drop (0+i+1)):=rfl
  rw[hdr,hstep] at ho;rfl';refine BU (λhgt=>?_) (λhgt=>?_)
  .rw[if_pos (by omega)] at ho;rfl';rw[ho];exact⟨Yg _,AR _,h⟩
  .rw[if_neg (by omega)] at ho;rfl';exact⟨rfl,some y,_,_,ho,rfl⟩
 .rintro ρ L' ⟨rfl,o,e3,e4,ho,rfl⟩;refine⟨decide_eq_true n2,?_⟩
  have hl:kvs.length=arms.length:=by have:=congrArg List.length (LS pA);rw[Ah,Ah] at this;exact this
  have e5:(Eh kvs).length=arms.length:=by unfold Eh;rw[Ah,hl]
  rw[e5,BW,AMB] at ho;have ho':o=FJ z none arms:=ho;rfl';rw[ho'];exact⟨Yg _,AR _,h⟩
def RB{ws ts:AM4}(K:DO ws ts G)(T:BP G X L t g m nd nn rt W es sp rs mk){k l z:Nat}{rest:AM4}(hk:Cr G sp k l rest)(hl3:l<=3)(hz:z<AQ G l rest)(hrow:(D.tup (EO G l rest z)).noRef=true)(h:Q (.tup (EO G l rest z)) L):W2 (Jq [.ref t,.int (k:Int),.int (z:Int)] L) Q:=by
 unfold Jq;refine BR rfl ?_;unfold QB;have ht:=T.t_;have hnd:=T.nd_;obtain⟨epg,hg⟩:=T.g_.at_
 have notone:∀{k' l' z':Nat} {rest':AM4},Cr G sp k' l' rest'->z'<AQ G l' rest'->k'≠1:=λh1 h2 e=>by
  have:=h1.one.mp e;omega
 rfl';obtain⟨r1,a1,kv1,ep1,hr1,n1,_,_⟩:=T.node hk (notone hk hz);refine DB (d:=.ref r1) (AT hnd) (DZ (by rw[Ar,hr1];rfl)) ?_;rfl';refine AAR (λj ρ L'=>j<=3/\∃(acc:List D) (z' k' r:Nat) (rest':AM4) (a':Nat) (e1 e2 e3 e4:Option D),L'=L++[.lst acc]/\Cr G sp k' j rest'/\rs[k']?=some (r,a')/\z'<AQ G j rest'/\acc++EO G j rest' z'=EO G l rest z/\acc.length+j<=3/\ρ=[some (.ref t),some (.int (k:Int)),some (.int (z':Int)),some (.ref L.length),some (.ref r),e1,e2,e3,e4]) (n:=l) (by omega) ⟨hl3,[],z,k,r1,rest,a1,none,none,none,none,rfl,hk,hr1,hz,rfl,by simpa using hl3,rfl⟩ ?_;rintro j ρ L' ⟨hj3,acc,z',k',r,rest',a',e1,e2,e3,e4,rfl,hnk,hrk,hzk,hacc,hal,rfl⟩;obtain⟨r',a'',kvs,ep',hr',n',hn0,hnS⟩:=T.node hnk (notone hnk hzk);rw[hrk] at hr';cases hr';have n'a:(L++[Ob.lst acc])[r]?=_:=AT n'.1;have n'b:(L++[Ob.lst acc])[a']?=_:=AT n'.2;have ht':(L++[Ob.lst acc])[t]?=_:=AT ht
 cases j with
 |zero =>
  rw[hn0 rfl] at n'b;have n'c:(L++[Ob.lst acc])[a']?=some (.dt [] ep'):=n'b;rfl';have ea:acc=EO G l rest z:=by simpa[EO] using hacc
  rw[ea];exact⟨hrow,Am _ _,h⟩
 |succ j =>
  have pA:=hnS j rfl;obtain⟨x,hx,hf,hle,hdv,hmd⟩:=VL K.pos hzk;have hxm:=Hr hx;obtain⟨i,hi⟩:=AMi hx;obtain⟨y,hy,num,rfl,hnum⟩:=ADm pA hi;have hlen:0<kvs.length:=by have:=(Ay.mp hy).1;omega
  have hknd:(kvs.map (·.1)).Nodup:=by rw[LS pA];have h1:((Bp G j rest').map (·.1)).Nodup:=List.Sublist.nodup (Ny G j rest' (BO G (j+1) rest')) (Uc K.nd _ _);unfold List.Nodup at h1 ⊢;rw[AMG] at h1 ⊢;exact h1.imp λhne e=>hne (Ct.kf e)
  have hlk:=WW hknd hy;rfl';refine AG9 (z:=z') ⟨n'a,n'b⟩ pA ?_;rw[hf];show WS _ _ _ _ _;have eD:Nz (some x)=AZ x.1:=rfl;rw[eD];rfl';refine HF (kk:=kfD (AZ x.1)) n'b (Ct.key _) hlk ?_;rfl';obtain⟨r2,a2,kv2,ep2,hr2,n2,_,_⟩:=T.node hnum (notone hnum hmd);have n2a:(L++[Ob.lst acc])[r2]?=_:=AT n2.1;refine DB (d:=.ref r2) (AT hnd) (DZ (by rw[Ar,hr2];rfl)) ?_;rfl';obtain⟨ds,hds,hsz⟩:=XJ (GB hxm.1);obtain⟨q,hq1,hq2⟩:=T.g_.get Ct (k:=x.1) (ds:=ds) (by rw[T.gc];exact hds);refine HF (kk:=kfD (AZ x.1)) (AT hg) (Ct.key _) hq1 ?_;rfl';have hwb:=AAZ K (l:=j) (by omega) x.2.2;have hwp:0<AQ G j x.2.2:=Nat.pos_of_ne_zero hxm.2.2;generalize hN:AQ G j x.2.2=N at *;refine AFi (by unfold LM;rw[Bn];exact⟨decide_eq_true (by omega),decide_eq_true (by omega)⟩) ?_;have es0:(z':Int)-(x.2.1:Int)=((z'-x.2.1:Nat):Int):=by omega
  have e0:((z'-x.2.1:Nat):Int) / (N:Int)=(((z'-x.2.1) / N:Nat):Int):=by push_cast;rfl
  have e1':((z'-x.2.1:Nat):Int) % (N:Int)=(((z'-x.2.1) % N:Nat):Int):=by push_cast;rfl
  rw[es0,e0];rw[hsz] at hdv;refine DB (d:=ds[(z'-x.2.1) / N]?.getD .non) (AT hq2) (DZ (by simp[hdv])) ?_;rfl';refine Gi Ac (by omega) ?_;have es1:(L++[Ob.lst acc]).set L.length (.lst (acc++[ds[(z'-x.2.1) / N]?.getD .non]))=L++[Ob.lst (acc++[ds[(z'-x.2.1) / N]?.getD .non])]:=by simp
  rw[es1];have n3a:(L++[Ob.lst (acc++[ds[(z'-x.2.1) / N]?.getD .non])])[r2]?=some (.ins AND [(ANE,.int (N:Int)),(ANH,.ref a2)]):=AT n2.1;rfl';rw[e1'];refine⟨j,by omega,by omega,acc++[ds[(z'-x.2.1) / N]?.getD .non],(z'-x.2.1) % N,num,r2,x.2.2,a2,_,_,_,_,rfl,hnum,hr2,by rw[hN];exact hmd,?_,by simp;omega,rfl⟩;rw[<-hacc,AL5]
  congr 1
  conv=>rhs;unfold EO
  rw[hf];simp only;rw[hds,hN];rfl
end
abbrev Cf(G:Ag)(wd:AM4):Nat:=AQ G 1 wd+AQ G 2 wd+AQ G 3 wd
abbrev ND(G:Ag)(wd:AM4)(z:Nat):List D:=if z<AQ G 1 wd then EO G 1 wd z else if z-AQ G 1 wd<AQ G 2 wd then EO G 2 wd (z-AQ G 1 wd) else EO G 3 wd (z-AQ G 1 wd-AQ G 2 wd)
section
variable {L:AB}{t:Nat}{ws ts wd:AM4}{G:Ag}{Q:ANb}
def WL(T:FN L t ws G wd)(h:Q (.int (Cf G wd:Int)) L):W2 (Il [.ref t] L) Q:=by
 obtain⟨g,m,nd,nn,rt,es,sp,rs,mk,ks,T,hm,hr,hk3,hkn⟩:=T;unfold Il;refine BR rfl ?_;unfold PU;have ht:=T.t_;rfl';refine FA (I:=λj ρ L'=>(∃e,ρ=[e,some (.ref t)])/\L'=L++[.lst ((List.range j).map λi=>D.int (AQ G (i+1) wd:Int))]) _ 0 _ _ ⟨⟨_,rfl⟩,rfl⟩ ?_ ?_
 .rintro i x ρ L' hx ⟨⟨e,rfl⟩,rfl⟩;refine⟨decide_eq_true (AT hr),?_⟩;rw[Ar] at hx;obtain⟨k,hse,hx⟩:=mS hx;cases hx;have hi:i<3:=by rw[<-hk3];exact(Ay.mp hse).1
  obtain⟨r,a,h1,h2⟩:=T.ways (hkn i k hse);have ht':(L++[Ob.lst ((List.range (0+i)).map λi=>D.int (AQ G (i+1) wd:Int))])[t]?=_:=AT ht;have h2':(L++[Ob.lst ((List.range (0+i)).map λi=>D.int (AQ G (i+1) wd:Int))])[r]?=_:=AT h2;rfl';refine DB (d:=.ref r) (AT T.nd_) (DZ (by rw[Ar,h1];rfl)) ?_;rfl';refine⟨_,Ac,by simp;omega,⟨_,rfl⟩,?_⟩;rw[ALe,Cd,BW];simp
 .rintro ρ L' ⟨⟨e,rfl⟩,rfl⟩;refine⟨decide_eq_true (AT hr),?_⟩;have e3:(0+(ks.map λ(k:Nat)=>D.int (k:Int)).length)=3:=by rw[Ah,hk3]
  rw[e3];have e4:((List.range 3).map λi=>D.int (AQ G (i+1) wd:Int))=[.int (AQ G 1 wd:Int),.int (AQ G 2 wd:Int),.int (AQ G 3 wd:Int)]:=rfl;rw[e4];rfl';refine XM Ac rfl ?_;refine⟨rfl,Am _ _,?_⟩
  have e5:([(AQ G 1 wd:Int),(AQ G 2 wd:Int),(AQ G 3 wd:Int)]:ANA).sum=(Cf G wd:Int):=by unfold Cf;simp only[Ed,List.sum_nil];omega
  rw[e5];exact h
def Ix(K:DO ws ts G)(hw:Da ws){l z:Nat}{rest:AM4}(hz:z<AQ G l rest):(D.tup (EO G l rest z)).noRef=true:=RU λp hp=>(((Ki K hz).2 p hp).piece hw).noRef
def VM(K:DO ws ts G)(hw:Da ws)(T:FN L t ws G wd){z:Nat}(hz:z<Cf G wd)(h:Q (.tup (ND G wd z)) L):W2 (Ih [.ref t,.int (z:Int)] L) Q:=by
 obtain⟨g,m,nd,nn,rt,es,sp,rs,mk,ks,T,hm,hr,hk3,hkn⟩:=T
 match ks,hk3 with
 |[k1,k2,k3],_ =>
 have hr':L[rt]?=some (.lst [.int (k1:Int),.int (k2:Int),.int (k3:Int)]):=hr;have n1:=hkn 0 k1 rfl;have n2:=hkn 1 k2 rfl;have n3:=hkn 2 k3 rfl;obtain⟨r1,a1,hr1,w1'⟩:=T.ways n1;have w1:L[r1]?=some (.ins AND [(ANE,.int (AQ G 1 wd:Int)),(ANH,.ref a1)]):=w1';obtain⟨r2,a2,hr2,w2'⟩:=T.ways n2;have w2:L[r2]?=some (.ins AND [(ANE,.int (AQ G 2 wd:Int)),(ANH,.ref a2)]):=w2';obtain⟨r3,a3,hr3,w3'⟩:=T.ways n3;have w3:L[r3]?=some (.ins AND [(ANE,.int (AQ G 3 wd:Int)),(ANH,.ref a3)]):=w3';unfold Ih;refine BR rfl ?_;unfold Pw;have ht:=T.t_;have hnd:=T.nd_;unfold Cf at hz;unfold ND at h;rfl';refine HQ (decide_eq_true hr') ?_;rfl';refine DB (d:=.ref r1) hnd (DZ (by rw[Ar,hr1];rfl)) ?_;rfl';refine BU (λh1=>?_) (λh1=>?_)
 .have h1':z<AQ G 1 wd:=by omega
  rw[if_pos h1'] at h;rfl';refine RB K T n1 (by decide) h1' (Ix K hw h1') ?_;exact⟨Ix K hw h1',AR _,h⟩
 .have h1':¬z<AQ G 1 wd:=by omega
  rw[if_neg h1'] at h;have e1:(z:Int)-(AQ G 1 wd:Int)=((z-AQ G 1 wd:Nat):Int):=by omega
  rfl';refine HQ (decide_eq_true hr') ?_;rfl';refine DB (d:=.ref r2) hnd (DZ (by rw[Ar,hr2];rfl)) ?_;rfl';rw[e1];refine BU (λh2=>?_) (λh2=>?_)
  .have h2':z-AQ G 1 wd<AQ G 2 wd:=by omega
   rw[if_pos h2'] at h;rfl';refine RB K T n2 (by decide) h2' (Ix K hw h2') ?_;exact⟨Ix K hw h2',AR _,h⟩
  .have h2':¬z-AQ G 1 wd<AQ G 2 wd:=by omega
   have h3':z-AQ G 1 wd-AQ G 2 wd<AQ G 3 wd:=by omega
   rw[if_neg h2'] at h;have e2:((z-AQ G 1 wd:Nat):Int)-(AQ G 2 wd:Int)=((z-AQ G 1 wd-AQ G 2 wd:Nat):Int):=by omega
   rfl';refine HQ (decide_eq_true hr') ?_;rfl';refine DB (d:=.ref r3) hnd (DZ (by rw[Ar,hr3];rfl)) ?_;rfl';rw[e2];refine RB K T n3 (by decide) h3' (Ix K hw h3') ?_;exact⟨Ix K hw h3',AR _,h⟩
end
abbrev Gg(d:D)(ws:List D):Bool:=match d with|.str _=>DT d ws|_=>false
abbrev NT(d:D):Bool:=match d with|.int i=>DT (.int i) [.int 1,.int 2,.int (-1),.int (-2)]|_=>false
abbrev NZ:List D:=[.str "small",.str "great",.str "figure",.str "mark",.str "any"]
abbrev SN:List D:=[.str "ahead",.str "behind"]
def Sb{Q:ANb}{L:AB}{d:D}{ws:List D}{t:String}(ht:FB d L=some t)(hw:ws.all BC=true)(h:Q (.bl (Gg d ws)) L):W2 (zf [d,.tup ws] L) Q:=by
 unfold zf;refine BR rfl ?_;unfold OQ;rfl'
 cases d with
 |str s =>
  refine Rx rfl rfl rfl ?_;rfl';refine XV (by rw[hw];rfl) ?_;exact⟨rfl,AR _,h⟩
 |non=>refine FG rfl rfl rfl ?_;rfl';exact⟨rfl,AR _,h⟩
 |bl b=>refine FG rfl rfl rfl ?_;rfl';exact⟨rfl,AR _,h⟩
 |int b=>refine FG rfl rfl rfl ?_;rfl';exact⟨rfl,AR _,h⟩
 |tup b=>refine FG rfl rfl rfl ?_;rfl';exact⟨rfl,AR _,h⟩
 |fz b=>refine FG rfl rfl rfl ?_;rfl';exact⟨rfl,AR _,h⟩
 |ty b=>cases ht
 |ref k =>
  have:t = "list"\/t = "dict":=by
   simp only[FB] at ht;split at ht
   .cases ht;exact .inl rfl
   .cases ht;exact .inr rfl
   .cases ht
  rcases this with rfl|rfl
  .refine FG rfl ht rfl ?_;rfl';exact⟨rfl,AR _,h⟩
  .refine FG rfl ht rfl ?_;rfl';exact⟨rfl,AR _,h⟩
def AEC{Q:ANb}{L:AB}{d:D}{t:String}(ht:FB d L=some t)(h:Q (.bl (NT d)) L):W2 (KB [d] L) Q:=by
 unfold KB;refine BR rfl ?_;simp only[Qg,zy];rfl'
 cases d with
 |int i =>
  refine Rx rfl rfl rfl ?_;rfl';refine XV rfl ?_;exact⟨rfl,AR _,h⟩
 |non=>refine FG rfl rfl rfl ?_;rfl';exact⟨rfl,AR _,h⟩
 |bl b=>refine Rx rfl rfl rfl ?_;rfl';exact⟨rfl,AR _,h⟩
 |str b=>refine FG rfl rfl rfl ?_;rfl';exact⟨rfl,AR _,h⟩
 |tup b=>refine FG rfl rfl rfl ?_;rfl';exact⟨rfl,AR _,h⟩
 |fz b=>refine FG rfl rfl rfl ?_;rfl';exact⟨rfl,AR _,h⟩
 |ty b=>cases ht
 |ref k =>
  have:t = "list"\/t = "dict":=by
   simp only[FB] at ht;split at ht
   .cases ht;exact .inl rfl
   .cases ht;exact .inr rfl
   .cases ht
  rcases this with rfl|rfl
  .refine FG rfl ht rfl ?_;rfl';exact⟨rfl,AR _,h⟩
  .refine FG rfl ht rfl ?_;rfl';exact⟨rfl,AR _,h⟩
def ACy{Q:ANb}{L:AB}{a b c:D}{ta tb tc:String}(ha:FB a L=some ta)(hb:FB b L=some tb)(hc:FB c L=some tc)(h:Q (.bl (Gg a NZ&&(NT b&&Gg c SN))) L):W2 (zr [.tup [a,b,c]] L) Q:=by
 unfold zr;refine BR rfl ?_;simp only[Qc,zx,zz];rfl';refine Sb ha rfl ?_;rfl';have ea:Gg a [.str "small",.str "great",.str "figure",.str "mark",.str "any"]=Gg a NZ:=rfl;have ec:Gg c [.str "ahead",.str "behind"]=Gg c SN:=rfl;rw[ea]
 cases h1:Gg a NZ with
 |false=>rw[h1] at h;rfl';exact⟨rfl,AR _,h⟩
 |true =>
  rw[h1,Bool.true_and] at h;rfl';refine AEC hb ?_;rfl'
  cases h2:NT b with
  |false=>rw[h2] at h;rfl';exact⟨rfl,AR _,h⟩
  |true =>
   rw[h2,Bool.true_and] at h;rfl';refine Sb hc rfl ?_;rw[ec];exact⟨rfl,AR _,h⟩
def AE5{kind:Str}(h:kind∈([("small":Str),"great","figure","mark","any"]:AM4)):Gg (.str kind) NZ=true:=by simp only[Aa,Dw,or_false] at h;rcases h with rfl|rfl|rfl|rfl|rfl <;> decide +kernel
def AGJ{edge:Str}(h:edge = "ahead"\/edge = "behind"):Gg (.str edge) SN=true:=by rcases h with rfl|rfl <;> decide +kernel
def AED{n:Int}(h:LW n):NT (.int n)=true:=by rcases h with rfl|rfl|rfl|rfl <;> decide +kernel
def Wo{Q:ANb}{L:AB}{p:D}(hp:Du p)(h:Q (.bl true) L):W2 (zr [p] L) Q:=by obtain⟨kind,nth,edge,rfl,hn,he,hk⟩:=hp;refine ACy rfl rfl rfl ?_;rw[AE5 hk,AED hn,AGJ he];exact h
def YJ{G:Ag}{l:Nat}:∀{r:List DH} {s e:Nat},HK G l s r e->s<=e
 |[],s,e,h=>ALT h
 |x::r,s,e,h=>by have:=YJ h.2.2;omega
def Yd{G:Ag}(hp:∀a∈G.map (·.1),0<Bv G a){l:Nat}{rest:AM4}{x:DH}(hx:x∈Bp G l rest):AQ G (l+1) rest≠0:=by
 have h:=Sa (l:=l) (rest:=rest) hp
 cases e:Bp G l rest with
 |nil=>rw[e] at hx;cases hx
 |cons y r =>
  rw[e] at h;have h1:=h.2.1;have:=YJ h.2.2;omega
def ACT{P:D->Prop}{m:List (NK×D)}{k:NK}{d:D}(hm:∀e∈m,P e.2)(hd:P d):∀e∈CO m k d,P e.2:=by
 unfold CO;intro e he;split at he
 .obtain⟨x,hx,rfl⟩:=BA.mp he;split
  .exact hd
  .exact hm x hx
 .rcases Bx.mp he with h|h
  .exact hm e h
  .rw[FW.mp h];exact hd
def VX{P:D->Prop}:∀{xs m:List (NK×D)},(∀e∈m,P e.2)->(∀e∈xs,P e.2)->∀e∈xs.foldl (λm x=>CO m x.1 x.2) m,P e.2
 |[],m,hm,_=>hm
 |x::xs,m,hm,hx=>VX (xs:=xs) (ACT hm (hx x Aw)) λe he=>hx e (Ax _ he)
def AET{ws ts:AM4}{G:Ag}(K:DO ws ts G){k:NK}{d:D}(h:BL (Bb (DD G)) k=some d):∃(a:AM4) (i:Nat),d=.tup [AZ a,.int (i:Int)]/\i<16777216:=by unfold BL at h;obtain⟨e,he,rfl⟩:=GU.mp h;refine VX (P:=λd=>∃(a:AM4) (i:Nat),d=.tup [AZ a,.int (i:Int)]/\i<16777216) (xs:=DD G) (m:=[]) (λe h=>by cases h) (λe he=>?_) e (AMY he);obtain⟨⟨a,ps⟩,hG,he⟩:=ALf.mp he;unfold EU at he;obtain⟨⟨p,i⟩,hp,rfl⟩:=BA.mp he;have hp:=List.mk_mem_zipIdx_iff_getElem?.mp hp;refine⟨a,i,rfl,?_⟩;have h1:i<ps.length:=(Ay.mp hp).1;obtain⟨e,hf,he,hek⟩:=FH (CN (f:=λe:AM4×List D=>e.1) hG);have:e=(a,ps):=JE (f:=λe:AM4×List D=>e.1) K.nd he hG hek;have hs:=K.sz a (CN (f:=λe:AM4×List D=>e.1) hG);unfold Bv DM at hs;rw[hf,this] at hs;have:ps.length<=4000000:=hs;omega
abbrev armAt(G:Ag)(l:Nat)(rest:AM4)(k:NK):Option DH:=(Bp G l rest).find? λx=>decide (kfD (AZ x.1)=k)
abbrev HY(G:Ag):Nat->AM4->List D->Nat->Option Nat
 |l+1,rest,p::row,z=>match BL (Bb (DD G)) (kfD p) with
  |some (.tup [A,.int i])=>(match armAt G l rest (kfD A) with
   |some x=>HY G l x.2.2 row (z+(x.2.1+i.toNat*AQ G l x.2.2))
   |none=>none)
  |_=>none
 |_,_,_,z=>some z
def AHA{G:Ag}{sp:List (Nat×AM4)}{l:Nat}(k:NK):∀{xs:List DH} {kvs:List (NK×D)},Paired (EM G sp l) xs kvs ->
  ((xs.find? λx=>decide (kfD (AZ x.1)=k))=none/\BL kvs k=none)\/∃(x:DH) (num:Nat),(xs.find? λx=>decide (kfD (AZ x.1)=k))=some x/\x∈xs/\BL kvs k=some (.tup [.int (x.2.1:Int),.int (num:Int)])/\Cr G sp num l x.2.2:=by
 intro xs kvs h
 induction h with
 |nil=>exact .inl ⟨rfl,rfl⟩
 |@cons x y xs kvs r h ih =>
  obtain⟨num,rfl,hn⟩:=r;unfold BL at ih ⊢
  by_cases e:kfD (AZ x.1)=k
  .exact .inr ⟨x,num,by simp[e],Aw,by simp[e],hn⟩
  .rcases ih with⟨h1,h2⟩|⟨x',n',h1,hm,h2,h3⟩
   .exact .inl ⟨by simp[e,h1],by simp[e];simpa using h2⟩
   .exact .inr ⟨x',n',by simp[e,h1],Ax _ hm,by simp[e];simpa using h2,h3⟩
def AC2{ws:AM4}{p:D}(h:Dq ws p):dNK p=some (kfD p):=by
 rcases h with⟨w,_,rfl⟩|⟨d,x,y,rfl,_,hx,hy⟩
 .rfl
 .obtain⟨a,b,c,rfl,_⟩:=hx;obtain⟨a',b',c',rfl,_⟩:=hy;rfl
def BP.nodeA{G:Ag}{X:AM9}{L:AB}{t g m nd nn rt:Nat}{W:D}{es:List (AM4×Nat×List D)}{sp:List (Nat×AM4)}{rs:List (Nat×Nat)}{mk:List ((Nat×AM4)×Nat)}(hp:∀a∈G.map (·.1),0<Bv G a)(T:BP G X L t g m nd nn rt W es sp rs mk){k l:Nat}{rest:AM4}(h:Cr G sp k (l+1) rest):∃r a kvs ep w,rs[k]?=some (r,a)/\Dd L r w a kvs ep/\Paired (EM G sp l) (Bp G l rest) kvs:=by
 by_cases h1:k=1
 .have hw:=h.one.mp h1;subst h1;have hlt:1<rs.length:=by rw[T.len];omega
  obtain⟨ep,n⟩:=T.nod 1 rs[1].1 rs[1].2 (by simp[hlt])
  have:Bp G l rest=[]:=by
   cases e:Bp G l rest with
   |nil=>rfl
   |cons x r=>exact absurd hw (Yd hp (x:=x) (by rw[e];exact Aw))
  rw[this];exact⟨_,_,[],ep,_,by simp[hlt],n,.nil⟩
 .obtain⟨r,a,kvs,ep,e,n,_,q⟩:=T.node h h1;exact⟨r,a,kvs,ep,_,e,n,q l rfl⟩
section
variable {L:AB}{t:Nat}{ws ts wd:AM4}{G:Ag}{Q:ANb}
def Qr{n:Int}{xs:List D}(h:Q (.bl (decide ((xs.length:Int)=n))) L):W2 (Ij [.int n,.tup xs] L) Q:=by unfold Ij;refine BR rfl ?_;unfold OV;rfl';exact⟨rfl,AR _,h⟩
def Rl{w:Str}{ws:AM4}(h:Q (.bl (decide (w∈ws))) L):W2 (zf [.str w,.tup (ws.map D.str)] L) Q:=by refine Sb (t:="str") rfl (SI ws) ?_;show Q (.bl (DT (.str w) (ws.map D.str))) L;rw[Nd];exact h
def ABS{d:Str}{x y:D}(hd:d∈ED)(hx:Du x)(hy:Du y)(h:Q (.bl true) L):W2 (Jz [.tup [.str d,x,y]] L) Q:=by unfold Jz;refine BR rfl ?_;unfold QY;rfl';refine Qr ?_;rfl';refine Rl (ws:=ED) ?_;rw[decide_eq_true hd];rfl';refine Wo hx ?_;rfl';refine Wo hy ?_;exact⟨rfl,AR _,h⟩
def AAf{p:D}(T:FN L t ws G wd)(hp:Dq ws p)(h:Q (.bl true) L):W2 (Jx [.ref t,p] L) Q:=by
 obtain⟨g,m,nd,nn,rt,es,sp,rs,mk,ks,T,hm,hr,hk3,hkn⟩:=T;have ht:=T.t_;unfold Jx;refine BR rfl ?_;unfold QU;rcases hp with⟨w,hw,rfl⟩|⟨d,x,y,rfl,hd,hx,hy⟩
 .rfl';refine Qr ?_;rfl';refine Rl (ws:=["word"]) ?_;rfl';refine Rl ?_;rw[decide_eq_true hw];exact⟨rfl,AR _,h⟩
 .rfl';refine Qr ?_;rfl';refine ABS (by rcases hd with rfl|rfl|rfl <;> decide +kernel) hx hy ?_;exact⟨rfl,AR _,h⟩
def AB7{ps:List D}(T:FN L t ws G wd)(hr:OH ws ps)(h:Q (.bl true) L):W2 (Jv [.ref t,.tup ps] L) Q:=by
 unfold Jv;refine BR rfl ?_;unfold QP;simp only[Iu];rfl';refine XR rfl ?_;have h1:=hr.2.1;have h3:=hr.2.2
 have e1:DT (.int (ps.length:Int)) [.int 1,.int 2,.int 3]=true:=by
  match ps,h1,h3 with
  |[_],_,_=>rfl
  |[_,_],_,_=>rfl
  |[_,_,_],_,_=>rfl
 rw[e1];rfl';refine HS (λρ=>∃e,ρ=[e,some (.ref t)]) (λp=>.bl true) (λacc=>rfl) ⟨_,rfl⟩ (by omega) ?_ ?_
 .rintro x hx ρ ⟨e,rfl⟩;rfl';refine⟨⟨_,rfl⟩,λacc=>?_⟩;rfl';exact AAf (T.pre (Am _ _)) (hr.1 x hx) ⟨rfl,rfl⟩
 .rfl'
  have e2:∀l:List D,blsD (l.map λ_=>.bl true)=some (l.map λ_=>true):=λl=>by
   induction l with
   |nil=>rfl
   |cons x l ih=>simp[blsD,ih]
  refine XW Ac (e2 ps) ?_;refine⟨rfl,Am _ _,?_⟩;have:((ps.map λ_=>true).all id)=true:=by simp
  rw[this];exact h
abbrev LQ(G:Ag)(wd:AM4)(l:Nat):Nat:=((List.range l).map λi=>AQ G (i+1) wd).sum
def Up{α:Type}(f:α->Nat):∀xs:List α,(xs.map λi=>((f i:Nat):Int)).sum=(((xs.map f).sum:Nat):Int)
 |[]=>rfl
 |x::xs=>by rw[Ak,Ak,Ed,Ed,Up f xs];omega
def Wv{α:Type}(f:α->Int):∀xs:List α,EB (xs.map λi=>D.int (f i))=some (xs.map f)
 |[]=>rfl
 |x::xs=>by rw[Ak];simp only[EB,Wv f xs];rfl
def RR(K:DO ws ts G)(T:FN L t ws G wd){row:List D}{l:Nat}(hr:OH ws row)(hl:row.length=l+1)(hy:∀n,HY G (l+1) wd row (LQ G wd l)=some n->Q (.int (n:Int)) L)(hn:HY G (l+1) wd row (LQ G wd l)=none->Q .non L):W2 (Ii [.ref t,.tup row] L) Q:=by
 have hl3:l<3:=by have:=hr.2.2;omega
 have T':=T;obtain⟨g,m,nd,nn,rt,es,sp,rs,mk,ks,T,⟨epm,hm⟩,hrt,hk3,hkn⟩:=T;unfold Ii;refine BR rfl ?_;unfold QK;rfl';refine AB7 T' hr ?_;have ht:=T.t_;have es0:(row.length:Int)-1=((l:Nat):Int):=by omega
 rfl';rw[es0,SO];have htk:(ks.map λ(k:Nat)=>D.int (k:Int)).take l=(ks.take l).map λ(k:Nat)=>D.int (k:Int):=by rw[List.map_take]
 rw[htk];generalize hL1:L++[Ob.lst ((ks.take l).map λ(k:Nat)=>D.int (k:Int))]=L1;have p1:L <+: L1:=by rw[<-hL1];exact Am _ _
 have hc1:L1[L.length]?=some (.lst ((ks.take l).map λ(k:Nat)=>D.int (k:Int))):=by rw[<-hL1];exact Ac
 have T1:=T.pre p1;have ht1:=T1.t_;refine FA (I:=λj ρ L'=>(∃e,ρ=[e,some (.ref t)])/\L'=L1++[.lst ((List.range j).map λi=>D.int ((AQ G (i+1) wd:Nat):Int))]) _ 0 _ _ ⟨⟨_,rfl⟩,rfl⟩ ?_ ?_
 .rintro i x ρ L' hx ⟨⟨e,rfl⟩,rfl⟩;refine⟨decide_eq_true (AT hc1),?_⟩;rw[Ar] at hx;obtain⟨k,hse,hx⟩:=mS hx;cases hx;have hi:i<l:=by have:=(Ay.mp hse).1;rw[FZ] at this;omega
  rw[List.getElem?_take_of_lt hi] at hse;obtain⟨r,a,h1,h2⟩:=T1.ways (hkn i k hse);have ht':(L1++[Ob.lst ((List.range (0+i)).map λi=>D.int ((AQ G (i+1) wd:Nat):Int))])[t]?=_:=AT ht1;have h2':(L1++[Ob.lst ((List.range (0+i)).map λi=>D.int ((AQ G (i+1) wd:Nat):Int))])[r]?=_:=AT h2;rfl';refine DB (d:=.ref r) (AT T1.nd_) (DZ (by rw[Ar,h1];rfl)) ?_;rfl';refine⟨_,Ac,by simp;omega,⟨_,rfl⟩,?_⟩;rw[ALe,Cd,BW];simp
 .rintro ρ L' ⟨⟨e,rfl⟩,rfl⟩;refine⟨decide_eq_true (AT hc1),?_⟩;have e3:(0+((ks.take l).map λ(k:Nat)=>D.int (k:Int)).length)=l:=by rw[Ah,FZ];omega
  rw[e3];rfl';refine XM Ac (Wv _ _) ?_;rw[Up];have e4:((List.range l).map λi=>AQ G (i+1) wd).sum=LQ G wd l:=rfl;rw[e4];generalize hL0:L1++[Ob.lst ((List.range l).map λi=>D.int ((AQ G (i+1) wd:Nat):Int))]=L0;have p0:L <+: L0:=by rw[<-hL0];exact p1.trans (Am _ _)
  have T0:=T.pre p0;have ht0:=T0.t_;have hr0:=CY p0 hrt;have hm0:=CY p0 hm;obtain⟨k0,hk0⟩:∃k0,ks[l]?=some k0:=⟨ks[l]'(by omega),by simp[hk3,hl3]⟩;have nk0:=hkn l k0 hk0;obtain⟨r1,a1,kv1,ep1,w1,hr1,n1,_⟩:=T0.nodeA K.pos nk0;rfl';refine DB (d:=.int (k0:Int)) hr0 (DZ (by rw[Ar,hk0];rfl)) ?_;rfl';refine DB (d:=.ref r1) T0.nd_ (DZ (by rw[Ar,hr1];rfl)) ?_;rfl';refine Ce (λj ρ L'=>L'=L0/\∃(r a k z:Nat) (rest':AM4) (e1 e2 e3:Option D),Cr G sp k (l+1-j) rest'/\rs[k]?=some (r,a)/\HY G (l+1-j) rest' (row.drop j) z=HY G (l+1) wd row (LQ G wd l)/\ρ=[some (.ref t),some (.tup row),some (.int ((l:Nat):Int)),some (.int (z:Int)),some (.ref r),e1,e2,e3]) _ 0 _ _ ⟨rfl,r1,a1,k0,LQ G wd l,wd,none,none,none,nk0,hr1,rfl,rfl⟩ ?_ ?_
  .rintro j x ρ L' hx ⟨rfl,r,a,k,z,rest',e1,e2,e3,hnk,hrk,hnr,rfl⟩;refine⟨rfl,?_⟩;rw[BW] at hnk hnr;have hj:j<row.length:=(Ay.mp hx).1;obtain⟨l',hl'⟩:∃l',l+1-j=l'+1:=⟨l-j,by omega⟩
   have hd:row.drop j=x::row.drop (j+1):=by
    rw[AMA hj]
    congr 1
    exact(Ay.mp hx).2
   rw[hl'] at hnk;rw[hl',hd] at hnr;obtain⟨r',a2,kvs,ep',w',hr',nA,pA⟩:=T0.nodeA K.pos hnk;rw[hrk] at hr';cases hr';have nAa:=nA.1;have nAb:=nA.2;have hkx:=AC2 (hr.1 x (Bj hx));rfl';refine AFj (kk:=kfD x) hm0 hkx ?_
   cases hlx:BL (Bb (DD G)) (kfD x) with
   |none =>
    simp only[Option.getD_none];rfl';refine⟨rfl,p0,hn ?_⟩;rw[<-hnr];simp only[HY,hlx]
   |some d =>
    obtain⟨a',i,rfl,hib⟩:=AET K hlx;simp only[AMX];rfl';refine Ry nAb (Ct.key a') ?_;rcases AHA (kfD (AZ a')) pA with⟨f1,f2⟩|⟨y,num,f1,hym,f2,hnum⟩
    .rw[f2];rfl';refine Nv rfl ?_;rfl';refine⟨rfl,p0,hn ?_⟩;rw[<-hnr];simp only[HY,hlx,armAt,f1]
    .rw[f2];have hne:=(Hr hym).2.2;obtain⟨r2,a3,kv2,ep2,hr2,nB,_⟩:=T0.node hnum (λe=>hne (hnum.one.mp e));have nBa:=nB.1;rfl';refine Jb rfl ?_;rfl';refine HF (kk:=kfD (AZ a')) nAb (Ct.key a') f2 ?_;rfl';refine DB (d:=.ref r2) T0.nd_ (DZ (by rw[Ar,hr2];rfl)) ?_;rfl';refine FF (JG (by omega)) ?_;rfl';have eN:(z:Int)+((y.2.1:Int)+(i:Int)*((AQ G l' y.2.2:Nat):Int))=((z+(y.2.1+i*AQ G l' y.2.2):Nat):Int):=by push_cast;rfl
     rw[eN];refine⟨rfl,r2,a3,num,z+(y.2.1+i*AQ G l' y.2.2),y.2.2,_,_,_,?_,hr2,?_,rfl⟩
     .rw[BW,show l+1-(j+1)=l' by omega];exact hnum
     .rw[BW,show l+1-(j+1)=l' by omega,<-hnr];simp only[HY,hlx,armAt,f1,ALW]
  .rintro ρ L' ⟨rfl,r,a,k,z,rest',e1,e2,e3,hnk,hrk,hnr,rfl⟩;refine⟨rfl,?_⟩;rw[BW,hl,Nat.sub_self] at hnr;rfl';refine⟨rfl,p0,hy z ?_⟩;rw[<-hnr];rfl
end
abbrev JA(d:D):Int:=match d with
 |.tup [.str k,.int n,_]=>(if n=1\/n=-1 then 1 else 3)+(if k = "any" then 0 else 1)
 |_=>0
abbrev AC6(x y:D):List D->Int
 |[]=>3+2*((Mt y).length:Int)
 |q::_=>(if Mt x = "copy" then 0 else 2)+JA y+JA q
abbrev ID(d:D):Int:=AC6 ((Kr d).headD .non) ((Kr d).tail.headD .non) (Kr d).tail.tail
def AC4(x:D)(w:Str):ID (.tup [x,.str w])=3+2*(w.length:Int):=rfl
def AC5(d:Str)(p q:D):ID (.tup [.str d,p,q])=(if d = "copy" then 0 else 2)+JA p+JA q:=rfl
def Iz{Q:ANb}{L:AB}{d:D}(h:Du d)(q:Q (.int (JA d)) L):W2 (Ik [d] L) Q:=by
 obtain⟨k,n,e,rfl,hn,he,hk⟩:=h;unfold Ik;refine BR rfl ?_;unfold PC;unfold JA at q;simp only at q;rcases hn with rfl|rfl|rfl|rfl
 all_goals
  rfl';refine BU (λhk=>?_) (λhk=>?_)
  .rw[if_pos hk] at q;rfl';exact⟨rfl,AR _,by simpa using q⟩
  .rw[if_neg hk] at q;rfl';exact⟨rfl,AR _,by simpa using q⟩
def AC1{Q:ANb}{L:AB}{d:D}(h:FS d)(q:Q (.int (ID d)) L):W2 (KM [d] L) Q:=by
 unfold KM;refine BR rfl ?_;unfold Ox;rcases h with⟨w,rfl,_,h2,_⟩|⟨deed,p1,p2,rfl,hd,hp,hq⟩
 .rw[AC4] at q;rfl';refine FF (JG (by omega)) ?_;rfl';exact⟨rfl,AR _,q⟩
 .rw[AC5] at q;rcases hd with rfl|rfl|rfl
  .rw[if_pos rfl] at q;rfl';refine Iz hp ?_;rfl';refine Iz hq ?_;rfl';exact⟨rfl,AR _,q⟩
  .rw[if_neg (by decide)] at q;rfl';refine Iz hp ?_;rfl';refine Iz hq ?_;rfl';exact⟨rfl,AR _,q⟩
  .rw[if_neg (by decide)] at q;rfl';refine Iz hp ?_;rfl';refine Iz hq ?_;rfl';exact⟨rfl,AR _,q⟩
abbrev DN(f:Int×D):D:=.tup [.int f.1,f.2]
abbrev fD:Option (Int×D)->D
 |some f=>DN f
 |none=>.non
def SJ{o:Option (Int×D)}(h:∀f,o=some f->f.2.noRef=true):(fD o).noRef=true:=by
 cases o with
 |none=>rfl
 |some f =>
  show D.noRefL [.int f.1,f.2]=true;simp[D.noRefL,D.noRef,h f rfl]
def ACq{Q:ANb}{L:AB}{f:Int×D}(h:Q (.int f.1) L):W2 (zp [DN f] L) Q:=by unfold zp;refine BR rfl ?_;unfold PN DN;rfl';exact⟨rfl,AR _,h⟩
def ACr(f:Int×D)(L:AB):zp [DN f] L=some (.int f.1,L):=by obtain⟨d,L',e,rfl,rfl⟩:=ACq (f:=f) (L:=L) (Q:=λd L'=>d=.int f.1/\L'=L) ⟨rfl,rfl⟩;exact e
def Wi(L:AB):∀fs:List (Int×D),keysG zp L (fs.map DN)=some (fs.map λf=>(f.1,DN f))
 |[]=>rfl
 |f::fs=>by
  rw[Ak,Ak];unfold keysG;rw[ACr f L];simp only[if_true];rw[Wi L fs];rfl
def YV(g:Int×D->D):∀fs:List (Int×D),bestK (fs.map λf=>(f.1,g f))=(bestK fs).map λf=>(f.1,g f)
 |[]=>rfl
 |f::fs=>by
  rw[Ak];unfold bestK;rw[YV g fs]
  cases bestK fs with
  |none=>rfl
  |some y =>
   simp only[ALv];split <;> rfl
def Gp:∀{fs:List (Int×D)} {f:Int×D},bestK fs=some f->f∈fs
 |[],f,h=>by cases h
 |x::fs,f,h=>by
  unfold bestK at h
  cases e:bestK fs with
  |none=>rw[e] at h;cases h;exact Aw
  |some y =>
   rw[e] at h;simp only at h;split at h
   .cases h;exact Ax _ (Gp e)
   .cases h;exact Aw
def YU{fs:List (Int×D)}(h:fs≠[]):∃f,bestK fs=some f:=by
 cases fs with
 |nil=>exact absurd rfl h
 |cons x fs =>
  unfold bestK
  cases bestK fs with
  |none=>exact⟨_,rfl⟩
  |some y=>simp only;split <;> exact⟨_,rfl⟩
def SV{Q:ANb}{L:AB}{k:Nat}{fs:List (Int×D)}(e:L[k]?=some (.lst (fs.map DN)))(hr:∀f∈fs,f.2.noRef=true)(h:Q (fD (bestK fs)) L):W2 (zq [.ref k] L) Q:=by unfold zq;refine BR rfl ?_;unfold PJ;rfl';refine⟨fD (bestK fs),L,?_,SJ λf hf=>hr f (Gp hf),AR _,h⟩;unfold Kx;simp only[e,Wi,YV,ALv];cases bestK fs <;> rfl
abbrev IV(ps:List D):Option (Int×D):=bestK (ps.map λp=>(ID p,p))
def AGe{Q:ANb}{L:AB}{k:Nat}{ps:List D}(e:L[k]?=some (.lst ps))(hp:∀p∈ps,FS p)(hz:ps.length<=4000000)(h:Q (fD (IV ps)) L):W2 (KL [.ref k] L) Q:=by
 have hnr:∀p∈ps,p.noRef=true:=λp h=>(hp p h).noRef;unfold KL;refine BR rfl ?_;unfold Ot;rfl';refine FA (I:=λj ρ L'=>(∃e,ρ=[e])/\L'=L++[.lst ((ps.take j).map λp=>DN (ID p,p))]) _ 0 _ _ ⟨⟨_,rfl⟩,rfl⟩ ?_ ?_
 .rintro i x ρ L' hx ⟨⟨e1,rfl⟩,rfl⟩;refine⟨decide_eq_true (AT e),?_⟩;have hxm:=Bj hx;have hi:=(Ay.mp hx).1;rfl';refine AC1 (hp x hxm) ?_;rfl';refine⟨_,Ac,by simp;omega,⟨_,rfl⟩,?_⟩;rw[Fd hx,Cd];simp[DN]
 .rintro ρ L' ⟨⟨e1,rfl⟩,rfl⟩;refine⟨decide_eq_true (AT e),?_⟩;rw[BW,Ec];rfl';refine SV (fs:=ps.map λp=>(ID p,p)) (by rw[Bt];exact Ac) (λf hf=>?_) ?_
  .obtain⟨p,hpm,rfl⟩:=BA.mp hf;exact hnr p hpm
  .rfl';exact⟨SJ λf hf=>by obtain⟨p,hpm,rfl⟩:=BA.mp (Gp hf);exact hnr p hpm,Am _ _,h⟩
abbrev behF(f g:Int×D):Int×D:=(f.1+g.1,match g.2 with|.tup r=>.tup (f.2::r)|d=>d)
def AGw{Q:ANb}{L:AB}{z y:Int}{p:D}{r:List D}(hp:p.noRef=true)(hr:(D.tup r).noRef=true)(hz:r.length<=1000)(h:Q (DN (z+y,.tup (p::r))) L):W2 (KJ [DN (z,p),DN (y,.tup r)] L) Q:=by unfold KJ;refine BR rfl ?_;unfold Oo DN;rfl';show W2 (BM (.tup [p]) (.tup r) L) _;refine AFk (by simp) (by simp;omega) ?_;rfl';refine⟨?_,AR _,h⟩;have h2:D.noRefL r=true:=hr;show D.noRefL [.int (z+y),.tup (p::r)]=true;simp[D.noRefL,D.noRef,hp,h2]
def XD{ws ts:AM4}{G:Ag}(K:DO ws ts G)(hw:Da ws){a:AM4}(ha:a∈G.map (·.1)):∃ps,DM G a=some ps/\ps≠[]/\ps.length<=4000000/\∀p∈ps,FS p:=by
 obtain⟨e,hf,he,hk⟩:=FH ha;have h1:DM G a=some e.2:=by unfold DM;rw[hf];rfl
 have h2:=K.pos a ha;have h3:=K.sz a ha;unfold Bv at h2 h3;rw[h1] at h2 h3;exact⟨e.2,h1,λz=>by rw[z] at h2;simp at h2,h3,λp hp=>(K.snd e he p hp).1.piece hw⟩
abbrev FL(G:Ag)(a:AM4):Option (Int×D):=IV ((DM G a).getD [])
def Nt{ws ts:AM4}{G:Ag}(K:DO ws ts G)(hw:Da ws){a:AM4}(ha:a∈G.map (·.1)):∃z p,FL G a=some (z,p)/\p.noRef=true:=by obtain⟨ps,h1,h2,_,h4⟩:=XD K hw ha;unfold FL IV;rw[h1];obtain⟨f,hf⟩:=YU (fs:=ps.map λp=>(ID p,p)) (by simpa using h2);refine⟨f.1,f.2,hf,?_⟩;obtain⟨p,hp,rfl⟩:=BA.mp (Gp hf);exact(h4 p hp).noRef
abbrev Jd(o q:Option (Int×D)):Int×D:=match o,q with
 |some f,some g=>behF f g
 |_,_=>(0,.non)
abbrev CJ(G:Ag):Nat->AM4->Option (Int×D)
 |0,_=>some (0,.tup [])
 |l+1,rest=>bestK ((Bp G l rest).map λx=>Jd (FL G x.1) (CJ G l x.2.2))
def LO{ws ts:AM4}{G:Ag}(K:DO ws ts G)(hw:Da ws):∀{l:Nat} {rest:AM4},AQ G l rest≠0->∃z r,CJ G l rest=some (z,.tup r)/\r.length=l/\(D.tup r).noRef=true
 |0,_,_=>⟨0,[],rfl,rfl,rfl⟩
 |l+1,rest,h=>by
  have hne:Bp G l rest≠[]:=λe=>by
   have h2:=Sa (l:=l) (rest:=rest) K.pos;rw[e] at h2;exact h h2.symm
  obtain⟨f,hf⟩:=YU (fs:=(Bp G l rest).map λx=>Jd (FL G x.1) (CJ G l x.2.2)) (by simpa using hne);obtain⟨x,hx,e⟩:=BA.mp (Gp hf);obtain⟨h1,_,h3⟩:=Hr hx;obtain⟨z,p,e1,n1⟩:=Nt K hw (GB h1);obtain⟨y,r,e2,hl,n2⟩:=LO K hw h3;rw[e1,e2] at e;subst e;refine⟨z+y,p::r,hf,by simp[hl],?_⟩;have n2:D.noRefL r=true:=n2;show D.noRefL (p::r)=true;simp[D.noRefL,n1,n2]
section
variable {L:AB}{ws ts:AM4}{G:Ag}{sp:List (Nat×AM4)}{Q:ANb}
def AGf(K:DO ws ts G)(hw:Da ws){r a ep l pf fl:Nat}{w:Int}{rest:AM4}{kvs kp:List (NK×D)}{epp:Nat}{Fs:List D}(hl3:l<=1000)(hn:Dd L r w a kvs ep)(pA:Paired (EM G sp l) (Bp G l rest) kvs)
  (hp:L[pf]?=some (.dt kp epp)) (hkp:∀x∈G.map (·.1),BL kp (kfD (AZ x))=some (fD (FL G x))) (hf:L[fl]?=some (.lst Fs)) (hF:∀(num:Nat) (b:AM4),Cr G sp num l b->Fs[num]?=some (fD (CJ G l b)))
  (h:Q (fD (CJ G (l+1) rest)) L):W2 (KH [.ref r,.ref pf,.ref fl] L) Q:=by
 have n1:=hn.1;have n2:=hn.2
 have hlen:kvs.length=(Bp G l rest).length:=by have:=congrArg List.length (LS pA);rw[Ah,Ah] at this;exact this
 have hal:(Bp G l rest).length<=2406:=by have h1:=(Ny G l rest (BO G (l+1) rest)).length_le;rw[Ah] at h1;have h2:=Qs (G:=G) (l:=l+1) (rest:=rest);have h3:=K.ln;unfold Bp;omega
 unfold KH;refine BR rfl ?_;unfold Oj;rfl';refine FA (I:=λj ρ L'=>(∃e1 e2,ρ=[e1,e2,some (.ref pf),some (.ref fl)])/\L'=L++[.lst (((Bp G l rest).take j).map λx=>DN (Jd (FL G x.1) (CJ G l x.2.2)))]) _ 0 _ _ ⟨⟨_,_,rfl⟩,rfl⟩ ?_ ?_
 .rintro i x ρ L' hx ⟨⟨e1,e2,rfl⟩,rfl⟩;refine⟨decide_eq_true (AT n2),?_⟩;unfold Eh at hx;rw[Ar] at hx;obtain⟨kv,hkv,hx⟩:=mS hx;cases hx;obtain⟨y,hy,num,rfl,hnum⟩:=Vl pA hkv;dsimp only;rw[Ct.nk];have hym:=Bj hy;obtain⟨m1,_,m3⟩:=Hr hym;obtain⟨z,p,c1,c2⟩:=Nt K hw (GB m1);obtain⟨u,rr,b1,b2,b3⟩:=LO K hw m3;have hlk:=hkp y.1 (GB m1);have hFn:=hF num y.2.2 hnum;rw[c1] at hlk;rw[b1] at hFn;rfl';refine HF (kk:=kfD (AZ y.1)) (AT hp) (Ct.key y.1) hlk ?_;rfl';refine DB (d:=DN (u,.tup rr)) (AT hf) (DZ hFn) ?_;rfl';refine AGw c2 b3 (by omega) ?_;rfl';have hi:=(Ay.mp hy).1;refine⟨_,Ac,by simp;omega,⟨_,_,rfl⟩,?_⟩;rw[Fd hy,Cd];simp[c1,b1,Jd,behF]
 .rintro ρ L' ⟨⟨e1,e2,rfl⟩,rfl⟩;refine⟨decide_eq_true (AT n2),?_⟩;have e5:(Eh kvs).length=(Bp G l rest).length:=by unfold Eh;rw[Ah,hlen]
  rw[e5,BW,Ec]
  have hnr:∀f∈(Bp G l rest).map (λx=>Jd (FL G x.1) (CJ G l x.2.2)),f.2.noRef=true:=λf hf=>by
   obtain⟨x,hx,rfl⟩:=BA.mp hf;obtain⟨m1,_,m3⟩:=Hr hx;obtain⟨z,p,c1,c2⟩:=Nt K hw (GB m1);obtain⟨u,rr,b1,b2,b3⟩:=LO K hw m3;rw[c1,b1];have b3:D.noRefL rr=true:=b3;show D.noRefL (p::rr)=true;simp[D.noRefL,c2,b3]
  rfl';refine SV (fs:=(Bp G l rest).map λx=>Jd (FL G x.1) (CJ G l x.2.2)) (by rw[Bt];exact Ac) hnr ?_;rfl';exact⟨SJ λf hf=>hnr f (Gp hf),Am _ _,h⟩
end
def ACR{xs:List (NK×D)}:∀{m:List (NK×D)},((m++xs).map (·.1)).Nodup->xs.foldl (λm x=>CO m x.1 x.2) m=m++xs:=by
 induction xs with
 |nil=>intro m _;simp
 |cons x xs ih =>
  intro m h;rw[ALt]
  have hx:x.1∉m.map (·.1):=λz=>by
   rw[Cd,ALa] at h;exact h.2.2 _ z x.1 (by simp) rfl
  rw[(NH (ep:=0) hx).1,ih (by simpa using h)];simp
def ACY{xs:List (NK×D)}(h:(xs.map (·.1)).Nodup):Bb xs=xs:=by unfold Bb;rw[ACR (m:=[]) (by simpa using h)];rfl
abbrev Cv(c:Ag):List (NK×D):=c.map λe=>(kfD (AZ e.1),fD (IV e.2))
def YD(c:Ag)(h:(c.map (·.1)).Nodup):((Cv c).map (·.1)).Nodup:=by unfold Cv;rw[Bt];unfold List.Nodup at h ⊢;rw[AMG] at h ⊢;exact h.imp λhne e=>hne (Ct.kf e)
def AGU{G:Ag}(h:(G.map (·.1)).Nodup){x:AM4}(hx:x∈G.map (·.1)):BL (Bb (Cv G)) (kfD (AZ x))=some (fD (FL G x)):=by
 rw[ACY (YD G h)];obtain⟨e,hf,he,rfl⟩:=FH hx;have h1:DM G e.1=some e.2:=by unfold DM;rw[hf];rfl
 obtain⟨i,hi⟩:=AMi he;have h2:(Cv G)[i]?=some (kfD (AZ e.1),fD (IV e.2)):=by unfold Cv;rw[Ar,hi];rfl
 rw[WW (YD G h) h2];unfold FL;rw[h1];rfl
def LP{G:Ag}(hp:∀a∈G.map (·.1),0<Bv G a){l:Nat}{rest:AM4}(h:AQ G (l+1) rest=0):CJ G (l+1) rest=none:=by
 have:Bp G l rest=[]:=by
  cases e:Bp G l rest with
  |nil=>rfl
  |cons x r=>exact absurd h (Yd hp (x:=x) (by rw[e];exact Aw))
 unfold CJ;rw[this];rfl
abbrev Fo(G:Ag)(sp:List (Nat×AM4)):List D:=[DN (0,.tup []),.non]++sp.map λq=>fD (CJ G (q.1+1) q.2)
def Xc{G:Ag}(hp:∀a∈G.map (·.1),0<Bv G a){sp:List (Nat×AM4)}{k l:Nat}{rest:AM4}(h:Cr G sp k l rest):(Fo G sp)[k]?=some (fD (CJ G l rest)):=by
 cases l with
 |zero =>
  have hk:k=0:=h;subst hk;rfl
 |succ l =>
  rcases h with⟨h1,rfl⟩|⟨h1,j,rfl,h3⟩
  .rw[LP hp h1];rfl
  .show(sp.map λq=>fD (CJ G (q.1+1) q.2))[j]?=_;rw[Ar,h3];rfl
def ABm(L:AB)(a b c b2:Ob):(L++[a,b,c]).set (L.length+1) b2=L++[a,b2,c]:=by rw[List.set_append_right _ _ (by omega)];simp
def XI(L:AB)(a b c:Ob):(L++[a,b,c])[L.length]?=some a/\(L++[a,b,c])[L.length+1]?=some b/\(L++[a,b,c])[L.length+2]?=some c:=by refine⟨by simp,by rw[ALV (by omega)];simp,by rw[ALV (by omega)];simp⟩
section
variable {G:Ag}{X:AM9}{L:AB}{t g m nd nn rt:Nat}{W:D}{es:List (AM4×Nat×List D)}{sp:List (Nat×AM4)}{rs:List (Nat×Nat)}{mk:List ((Nat×AM4)×Nat)}{Q:ANb}{ws ts:AM4}
def AEF(K:DO ws ts G)(hw:Da ws)(T:BP G X L t g m nd nn rt W es sp rs mk)(hrl:rs.length<=16000000)(h:∀L2,L <+: L2->L2[L.length+1]?=some (.lst (Fo G sp))->Q (.ref (L.length+1)) L2):W2 (KF [.ref t] L) Q:=by
 have ht:=T.t_;obtain⟨ep0,hg0⟩:=T.g_.at_;unfold KF;refine Fb rfl ?_;unfold Of;rfl';rw[Vj Ct];refine Ce (λj ρ L'=>(∃ep,L'=L++[.dt (Bb (Cv ((cont es).take j))) ep])/\∃e1 e2,ρ=[some (.ref t),some (.ref L.length),e1,e2,none,none]) _ 0 _ _ ⟨⟨0,rfl⟩,none,none,rfl⟩ ?_ ?_
 .rintro i x ρ L' hx ⟨⟨ep,rfl⟩,e1,e2,rfl⟩;refine⟨decide_eq_true (AT hg0),?_⟩;rw[Ar] at hx;obtain⟨e,hse,hx⟩:=mS hx;cases hx;have hem:=Bj hse;have hq:=T.g_.it e hem;have hec:(cont es)[i]?=some (e.1,e.2.2):=by unfold cont;rw[Ar,hse];rfl
  have hecm:=Bj hec;have hGm:(e.1,e.2.2)∈G:=by rw[<-T.gc];exact hecm
  obtain⟨ps,hp1,hp2,hp3,hp4⟩:=XD K hw (CN (f:=λe:AM4×List D=>e.1) hGm)
  have hps:ps=e.2.2:=by obtain⟨e',hf,he',hek⟩:=FH (CN (f:=λe:AM4×List D=>e.1) hGm);have:e'=(e.1,e.2.2):=JE (f:=λe:AM4×List D=>e.1) K.nd he' hGm hek;unfold DM at hp1;rw[hf,this] at hp1;exact(Option.some.inj hp1).symm
  subst hps
  have hln:(Bb (Cv ((cont es).take (0+i)))).length<=2406:=by
   have h1:=VY (Cv ((cont es).take (0+i)));have h2:(Cv ((cont es).take (0+i))).length<=G.length:=by unfold Cv;rw[Ah,FZ,T.gc];omega
   have:=K.ln;omega
  rfl';refine AGe (AT hq) hp4 hp3 ?_;rfl';refine Nk (kk:=kfD (AZ e.1)) Ac (by omega) (Ct.key e.1) ?_;rfl';refine⟨⟨epN (Bb (Cv ((cont es).take (0+i)))) (kfD (AZ e.1)) ep,?_⟩,_,_,rfl⟩
  have e5:Bb (Cv ((cont es).take (0+i+1)))=CO (Bb (Cv ((cont es).take (0+i)))) (kfD (AZ e.1)) (fD (IV e.2.2)):=by rw[Fd hec];unfold Cv;rw[Cd];unfold Bb;rw[AMZ];rfl
  rw[e5];simp
 .rintro ρ L' ⟨⟨ep,rfl⟩,e1,e2,rfl⟩;refine⟨decide_eq_true (AT hg0),?_⟩;rw[Ah,BW];have hl0:es.length=(cont es).length:=(IW es).symm;rw[hl0,Ec,T.gc];have hnd:=T.nd_;rfl';have ec:cutD (rs.map λp=>D.ref p.1) (some 2) none=(rs.drop 2).map λp=>D.ref p.1:=by rw[show cutD (rs.map λp=>D.ref p.1) (some 2) none=(rs.map λp=>D.ref p.1).drop 2 from SR _ 2,List.map_drop]
  rw[ec];have hkp:∀x∈G.map (·.1),BL (Bb (Cv G)) (kfD (AZ x))=some (fD (FL G x)):=λx hx=>AGU K.nd hx;have hst:L++[Ob.dt (Bb (Cv G)) ep]++[Ob.lst [D.tup [D.int 0,D.tup []],D.non]]++[Ob.lst ((rs.drop 2).map λp=>D.ref p.1)]=L++[Ob.dt (Bb (Cv G)) ep,Ob.lst (Fo G []),Ob.lst ((rs.drop 2).map λp=>D.ref p.1)]:=by simp[Fo,DN]
  have hle:(L++[Ob.dt (Bb (Cv G)) ep]++[Ob.lst [D.tup [D.int 0,D.tup []],D.non]]).length=L.length+2:=by simp
  have hle1:(L++[Ob.dt (Bb (Cv G)) ep]).length=L.length+1:=by simp
  rw[hle,hle1];refine Ce (λj ρ L'=>L'=L++[Ob.dt (Bb (Cv G)) ep,Ob.lst (Fo G (sp.take j)),Ob.lst ((rs.drop 2).map λp=>D.ref p.1)]/\∃e,ρ=[some (.ref t),some (.ref L.length),e1,e2,some (.ref (L.length+1)),e]) _ 0 _ _ ⟨by rw[List.take_zero];exact hst,none,rfl⟩ ?_ ?_
  .rintro i x ρ L' hx ⟨rfl,e,rfl⟩;have gm:=XI L (Ob.dt (Bb (Cv G)) ep) (Ob.lst (Fo G (sp.take (0+i)))) (Ob.lst ((rs.drop 2).map λp=>D.ref p.1));have g0:=gm.1;have g1:=gm.2.1;refine⟨decide_eq_true gm.2.2,?_⟩;rw[Ar,List.getElem?_drop] at hx;obtain⟨q,hse,hx⟩:=mS hx;cases hx;have T1:=T.pre (L':=L++[Ob.dt (Bb (Cv G)) ep,Ob.lst (Fo G (sp.take (0+i))),Ob.lst ((rs.drop 2).map λp=>D.ref p.1)]) (Am _ _);rw[Nat.add_comm] at hse;obtain⟨l,rest,kvs,epn,hsp,nA,hl1,pA⟩:=T1.nod (i+2) q.1 q.2 hse;have hi:=(Ay.mp hse).1;rfl';refine AGf K hw hl1 nA pA gm.1 hkp gm.2.1 (λnum b hnb=>by rw[BW];exact Xc K.pos hnb) ?_;rfl';refine Gi gm.2.1 (by unfold Fo;simp;omega) ?_;rfl';refine⟨?_,_,rfl⟩;rw[ABm]
   have e7:Fo G (sp.take (0+i+1))=Fo G (sp.take (0+i))++[fD (CJ G (l+1) rest)]:=by unfold Fo;rw[Fd hsp,Cd,AL5];rfl
   rw[e7]
  .rintro ρ L' ⟨rfl,e,rfl⟩;have hlen:((rs.drop 2).map λp=>D.ref p.1).length=sp.length:=by rw[Ah,List.length_drop,T.len];omega
   rw[hlen,BW,Ec];have gm:=XI L (Ob.dt (Bb (Cv G)) ep) (Ob.lst (Fo G sp)) (Ob.lst ((rs.drop 2).map λp=>D.ref p.1));refine⟨decide_eq_true gm.2.2,?_⟩;rfl';refine⟨rfl,?_⟩;exact h _ (Am _ _) gm.2.1
end
abbrev Hq(G:Ag)(wd:AM4):D:=match bestK ((List.range 3).filterMap λi=>CJ G (i+1) wd) with
 |some f=>f.2
 |none=>.non
section
variable {G:Ag}{X:AM9}{L:AB}{t g m nd nn rt:Nat}{W:D}{es:List (AM4×Nat×List D)}{sp:List (Nat×AM4)}{rs:List (Nat×Nat)}{mk:List ((Nat×AM4)×Nat)}{Q:ANb}{ws ts wd:AM4}{ks:AM9}
def AGd(K:DO ws ts G)(hw:Da ws)(T:BP G X L t g m nd nn rt W es sp rs mk)(hrl:rs.length<=16000000)(hrt:L[rt]?=some (.lst (ks.map λ(k:Nat)=>D.int (k:Int))))(hk3:ks.length=3)(hkn:∀i k,ks[i]?=some k->Cr G sp k (i+1) wd)
  (h:Q (Hq G wd) L):W2 (zj [.ref t] L) Q:=by
 unfold zj;refine BR rfl ?_;unfold Oa;rfl';refine AEF K hw T hrl λL2 p2 hfs=>?_;have ht2:=(T.pre p2).t_;have hr2:=CY p2 hrt;rfl'
 have hnr:∀(i:Nat) (f:Int×D),CJ G (i+1) wd=some f->∃r,f.2=.tup r/\f.2.noRef=true:=λi f hf=>by
  have hne:AQ G (i+1) wd≠0:=λz=>by rw[LP K.pos z] at hf;cases hf
  obtain⟨z,r,e,_,n⟩:=LO K hw hne;rw[e] at hf;cases hf;exact⟨r,rfl,n⟩
 refine FA (I:=λj ρ L'=>(∃e,ρ=[e,some (.ref (L.length+1))])/\L'=L2++[.lst (((List.range j).filterMap λi=>CJ G (i+1) wd).map DN)]) _ 0 _ _ ⟨⟨_,rfl⟩,rfl⟩ ?_ ?_
 .rintro i x ρ L' hx ⟨⟨e,rfl⟩,rfl⟩;refine⟨decide_eq_true (AT hr2),?_⟩;rw[Ar] at hx;obtain⟨k,hse,hx⟩:=mS hx;cases hx;have hi:i<3:=by have:=(Ay.mp hse).1;omega
  have hFk:=Xc K.pos (hkn i k hse)
  have hsm:((List.range (0+i)).filterMap λi=>CJ G (i+1) wd).length<=3:=by have:=AMh (λi=>CJ G (i+1) wd) (List.range (0+i));rw[AMV] at this;omega
  rfl';refine DB (d:=fD (CJ G (i+1) wd)) (AT hfs) (DZ hFk) ?_
  cases hb:CJ G (i+1) wd with
  |none =>
   show W2 (_) _;rfl';refine⟨⟨_,rfl⟩,?_⟩;rw[ALe,AMW];simp[hb]
  |some f =>
   rw[hb] at hFk;show W2 (_) _;unfold fD DN;rfl';refine DB (d:=DN f) (AT hfs) (DZ hFk) ?_;rfl';refine⟨_,Ac,by rw[Ah];omega,⟨_,rfl⟩,?_⟩;rw[ALe,AMW,Cd];simp[hb];rfl
 .rintro ρ L' ⟨⟨e,rfl⟩,rfl⟩;refine⟨decide_eq_true (AT hr2),?_⟩;rw[Ah,hk3,BW]
  have hm:∀f∈(List.range 3).filterMap (λi=>CJ G (i+1) wd),∃r,f.2=.tup r/\f.2.noRef=true:=λf hf=>by
   obtain⟨i,_,hi⟩:=ALz.mp hf;exact hnr i f hi
  rfl';refine SV Ac (λf hf=>by obtain⟨r,_,n⟩:=hm f hf;exact n) ?_;unfold Hq at h
  cases hb:bestK ((List.range 3).filterMap λi=>CJ G (i+1) wd) with
  |none =>
   rw[hb] at h;unfold fD;rfl';exact⟨rfl,p2.trans (Am _ _),h⟩
  |some f =>
   rw[hb] at h;obtain⟨r,e1,n1⟩:=hm f (Gp hb);unfold fD DN;rfl';exact⟨n1,p2.trans (Am _ _),h⟩
def SU(K:DO ws ts G)(hw:Da ws)(T:FN L t ws G wd)(h:Q (Hq G wd) L):W2 (zj [.ref t] L) Q:=by obtain⟨g,m,nd,nn,rt,es,sp,rs,mk,ks,T,_,hrt,hk3,hkn⟩:=T;exact AGd K hw T T.rsl hrt hk3 hkn h
end
open PySem.W (KasT kas_sort)
def Bm.congr{α:Type}{n:Nat}{R:α->Prop}{c c':Nat->Nat->Bool}(h:∀i j,i<n->j<n->c i j=c' i j):∀{t:KasT α},Bm n R t->kEval c t=kEval c' t
 |.ret _,_=>rfl
 |.ask i j k,⟨hi,hj,hk⟩=>by
  show kEval c (k (c i j))=kEval c' (k (c' i j));rw[h i j hi hj];exact Bm.congr h (hk _)
abbrev Nc(x:Nat):AM9->List (AM9)
 |[]=>[[x]]
 |y::ys=>(x::y::ys)::(Nc x ys).map (y::·)
abbrev NQ:Nat->List (AM9)
 |0=>[[]]
 |n+1=>(NQ n).flatMap (Nc n)
def WH(x:Nat)(b:AM9):∀a:AM9,a++x::b∈Nc x (a++b)
 |[]=>by cases b <;> simp[Nc]
 |y::a=>Ax _ (CN (WH x b a))
def WG:∀(n:Nat) (l:AM9),l.Perm (List.range n)->l∈NQ n
 |0,l,h=>by have:=h.eq_nil;subst this;simp[NQ]
 |n+1,l,h=>by
  have hm:n∈l:=h.mem_iff.mpr (by simp);obtain⟨a,b,rfl⟩:=List.append_of_mem hm
  have h2:(n::(a++b)).Perm (n::List.range n):=by refine(List.perm_middle.symm).trans (h.trans ?_);rw[ALe];exact AMj
  exact ALf.mpr ⟨a++b,WG n _ h2.cons_inv,WH n b a⟩
abbrev AGc(n:Nat):Bool:=(NQ n).all λp=>((kEval (λi j=>decide (p.getD i 0<p.getD j 0)) (kas_sort n)).toList.map (p.getD · 0)) == List.range n
def AGb:(List.range 5).all (λn=>AGc (n+2))=true:=by decide +kernel
def Ux(a:Str):Fe a a=false:=decide_eq_false (List.lt_irrefl _)
def My{a b c:Str}(h:Fe a b=true)(g:Fe b c=true):Fe a c=true:=decide_eq_true (List.lt_trans (of_decide_eq_true h) (of_decide_eq_true g))
def Uw{a b:Str}(h:a≠b):Fe a b=true\/Fe b a=true:=by
 by_cases h1:a.cps.toList<b.cps.toList
 .exact .inl (decide_eq_true h1)
 .by_cases h2:b.cps.toList<a.cps.toList
  .exact .inr (decide_eq_true h2)
  .exfalso;apply h;have e:a.cps.toList=b.cps.toList:=List.le_antisymm h2 h1;obtain⟨⟨a⟩⟩:=a;obtain⟨⟨b⟩⟩:=b;cases e;rfl
def WT{x:D}(h:isPr x=true):ltP x x=false:=by obtain⟨a,b,rfl⟩:=IB h;simp[JI]
def WR{x y:D}(hx:isPr x=true)(hy:isPr y=true)(h:x≠y):ltP x y=true\/ltP y x=true:=by
 obtain⟨a,b,rfl⟩:=IB hx;obtain⟨c,d,rfl⟩:=IB hy
 by_cases e:a=c
 .subst e
  by_cases e2:b=d
  .subst e2;exact absurd rfl h
  .have e3:¬d=b:=λz=>e2 z.symm;rcases Uw e2 with z|z
   .left;simp[JI,e2,z]
   .right;simp[JI,e3,z]
 .have e3:¬c=a:=λz=>e z.symm;rcases Uw e with z|z
  .left;simp[JI,e,z]
  .right;simp[JI,e3,z]
def AEn{x y z:D}(hx:isPr x=true)(hy:isPr y=true)(hz:isPr z=true)(h:ltP x y=true)(g:ltP y z=true):ltP x z=true:=by
 obtain⟨a,b,rfl⟩:=IB hx;obtain⟨c,d,rfl⟩:=IB hy;obtain⟨e,f,rfl⟩:=IB hz;simp only[JI] at h g ⊢
 by_cases h1:a=c
 .subst h1;rw[if_pos rfl] at h
  by_cases h2:a=e
  .subst h2;rw[if_pos rfl] at g ⊢;split at h
   .cases h
   .split at g
    .cases g
    .rename_i n1 n2;rw[if_neg (λz=>by subst z;have:=My h g;rw[Ux] at this;cases this)];exact My h g
  .rw[if_neg h2] at g ⊢;exact g
 .rw[if_neg h1] at h
  by_cases h2:c=e
  .subst h2;rw[if_neg h1];exact h
  .rw[if_neg h2] at g;rw[if_neg (λz=>by subst z;have:=My h g;rw[Ux] at this;cases this)];exact My h g
abbrev Dj(ds:List D)(x:D):Nat:=ds.countP λy=>ltP y x
def SS{α:Type}{p q:α->Bool}:∀{l:List α},(∀x∈l,p x=true->q x=true)->(∃x∈l,p x=false/\q x=true)->l.countP p<l.countP q
 |[],_,h=>by obtain⟨_,h,_⟩:=h;cases h
 |a::l,h,⟨x,hx,h1,h2⟩=>by
  have hm:l.countP p<=l.countP q:=List.countP_mono_left λy hy=>h y (by simp[hy]);rw[ALn,ALn];rcases Aa.mp hx with rfl|hx
  .simp[h1,h2];omega
  .have:=SS (λy hy=>h y (by simp[hy])) ⟨x,hx,h1,h2⟩
   by_cases ha:p a=true
   .simp[ha,h a (by simp) ha];omega
   .simp[ha];split <;> omega
def rkP_lt{ds:List D}(hp:∀x∈ds,isPr x=true){x y:D}(hx:x∈ds)(hy:y∈ds)(h:ltP x y=true):Dj ds x<Dj ds y :=
 SS (λz hz hl=>AEn (hp z hz) (hp x hx) (hp y hy) hl h) ⟨x,hx,WT (hp x hx),h⟩
def ACC{ds:List D}(hp:∀x∈ds,isPr x=true){x y:D}(hx:x∈ds)(hy:y∈ds):ltP x y=decide (Dj ds x<Dj ds y):=by
 cases h:ltP x y with
 |true=>exact(decide_eq_true (rkP_lt hp hx hy h)).symm
 |false =>
  refine(decide_eq_false λhl=>?_).symm
  by_cases e:x=y
  .subst e;omega
  .rcases WR (hp x hx) (hp y hy) e with z|z
   .rw[z] at h;cases h
   .have:=rkP_lt hp hy hx z;omega
def VO{ds:List D}(hp:∀x∈ds,isPr x=true){x y:D}(hx:x∈ds)(hy:y∈ds)(h:Dj ds x=Dj ds y):x=y:=by
 by_cases e:x=y
 .exact e
 .rcases WR (hp x hx) (hp y hy) e with z|z
  .have:=rkP_lt hp hx hy z;omega
  .have:=rkP_lt hp hy hx z;omega
def WB{n:Nat}{l:AM9}(hn:l.Nodup)(hl:∀x∈l,x<n+1)(hm:n∈l):∃m:AM9,l.Perm (n::m)/\m.Nodup/\∀x∈m,x<n:=by obtain⟨a,b,rfl⟩:=List.append_of_mem hm;have h:=(List.perm_middle (a:=n) (l₁:=a) (l₂:=b));have h2:=ALR.mp (h.nodup_iff.mp hn);refine⟨a++b,h,h2.2,λx hx=>?_⟩;have h3:=hl x (h.mem_iff.mpr (Ax _ hx));have h4:x≠n:=λe=>h2.1 (e▸hx);omega
def RX:∀(n:Nat) {l:AM9},l.Nodup->(∀x∈l,x<n)->l.length<=n
 |0,l,_,hl=>by
  cases l with
  |nil=>exact Ae _
  |cons x _=>exact absurd (hl x (by simp)) (Nat.not_lt_zero _)
 |n+1,l,hn,hl=>by
  by_cases hm:n∈l
  .obtain⟨m,h,h1,h2⟩:=WB hn hl hm;have:=RX n h1 h2;rw[h.length_eq,DQ];omega
  .have:=RX n hn (λx hx=>by have:=hl x hx;have:x≠n:=λe=>hm (e▸hx);omega);omega
def Vh:∀(n:Nat) {l:AM9},l.Nodup->(∀x∈l,x<n)->l.length=n->l.Perm (List.range n)
 |0,l,_,_,e=>by have:=List.eq_nil_of_length_eq_zero e;subst this;exact .nil
 |n+1,l,hn,hl,e=>by
  by_cases hm:n∈l
  .obtain⟨m,h,h1,h2⟩:=WB hn hl hm;have e2:=h.length_eq;rw[DQ] at e2;have:=Vh n h1 h2 (by omega);rw[ALe];exact h.trans ((this.cons n).trans (AMj (l₁:=[n])))
  .have:=RX n hn (λx hx=>by have:=hl x hx;have:x≠n:=λe=>hm (e▸hx);omega);omega
def ADH{l:AM9}(hn:l.Nodup)(hl:∀x∈l,x<l.length):l.Perm (List.range l.length):=Vh _ hn hl rfl
def ACB{ds:List D}(hp:∀x∈ds,isPr x=true)(hd:ds.Nodup):(ds.map (Dj ds)).Perm (List.range ds.length):=by
 have h1:(ds.map (Dj ds)).Nodup:=by rw[List.Nodup,AMG];refine List.Pairwise.imp_of_mem (λ{a b} ha hb hne e=>hne (VO hp ha hb e)) hd
 have h2:∀x∈ds.map (Dj ds),x<(ds.map (Dj ds)).length:=by intro x hx;obtain⟨y,hy,rfl⟩:=BA.mp hx;rw[Ah];have:=SS (p:=λz=>ltP z y) (q:=λ_=>true) (l:=ds) (λ_ _ _=>rfl) ⟨y,hy,WT (hp y hy),rfl⟩;rw[List.countP_true] at this;exact this
 have:=ADH h1 h2
 rwa [Ah] at this
def VC{ds:List D}(hp:∀x∈ds,isPr x=true)(hd:ds.Nodup)(hn:ds.length<=6):(sortP ds).map (Dj ds)=List.range ds.length:=by
 have hk:=ACB hp hd;have hg:∀i,i<ds.length->Dj ds (ds.getD i .non)=(ds.map (Dj ds)).getD i 0:=λi hi=>by simp[hi]
 unfold sortP CP
 by_cases h2:ds.length<2
 .rw[if_pos h2,NF]
  match ds,h2,hk with
  |[],_,_=>rfl
  |[x],_,hk=>exact List.perm_singleton.mp hk
 .rw[if_neg h2]
  have hc:=Bm.congr (c:=λi j=>ltP (ds.getD i .non) (ds.getD j .non)) (c':=λi j=>decide ((ds.map (Dj ds)).getD i 0<(ds.map (Dj ds)).getD j 0)) (n:=ds.length) (λi j hi hj=>by
   show ltP _ _=decide _
   rw[ACC hp (by simp[hi]) (by simp[hj]),hg i hi,hg j hj]) (NB (n:=ds.length) (by omega))
  rw[hc,Bt];have hm:=CF.mp (CF.mp AGb (ds.length-2) (CM.mpr (by omega))) (ds.map (Dj ds)) (by rw[show ds.length-2+2=ds.length by omega];exact WG _ _ hk);rw[show ds.length-2+2=ds.length by omega] at hm;have hm:=beq_iff_eq.mp hm;refine Eq.trans (GV λi hi=>?_) hm;have hi:i<ds.length:=CM.mp (((NB (n:=ds.length) (by omega)).eval _).mem_iff.mp hi);exact hg i hi
def Ra{α β:Type}{f:α->β}:∀{l m:List α},(∀x∈l,∀y∈m,f x=f y->x=y)->l.map f=m.map f->l=m
 |[],[],_,_=>rfl
 |[],_::_,_,h=>by cases h
 |_::_,[],_,h=>by cases h
 |a::l,b::m,h,e=>by
  simp only[Ak,List.cons.injEq] at e;rw[h a (by simp) b (by simp) e.1,Ra (λx hx y hy=>h x (by simp[hx]) y (by simp[hy])) e.2]
def ABa{ds es:List D}(h:ds.Perm es)(hp:∀x∈ds,isPr x=true)(hd:ds.Nodup)(hn:ds.length<=6):sortP ds=sortP es:=by have hp2:∀x∈es,isPr x=true:=λx hx=>hp x (h.mem_iff.mpr hx);have h1:=VC hp hd hn;have h2:=VC hp2 (h.nodup_iff.mp hd) (by rw[<-h.length_eq];exact hn);have e:Dj es=Dj ds:=funext λx=>(h.countP_eq _).symm;rw[e,<-h.length_eq,<-h1] at h2;exact Ra (λx hx y hy hxy=>VO hp ((VD ds).mem_iff.mp hx) (h.mem_iff.mpr ((VD es).mem_iff.mp hy)) hxy) h2.symm
def XY{Q:ANb}{L:AB}{a b:D}(hs:Eg a b=true)(h:Q (.bl (!decide (a=b))) L):W2 (Ek a b L) Q:=⟨_,_,by unfold Ek;rw[if_pos hs],h⟩
def AEJ{Q:ANb}{L:AB}{z:Int}(q:Q (.bl false) L):W2 (Ek (.int z) (.int z) L) Q:=XY rfl (by simpa using q)
def WA{Q:ANb}{L:AB}(q:Q (.bl false) L):W2 (Ek .non .non L) Q:=XY rfl (by simpa using q)
def Vz{Q:ANb}{L:AB}{xs:List D}(h:FC 30 (.tup xs)=true)(q:Q (.bl false) L):W2 (Ek (.tup xs) (.tup xs) L) Q:=by refine⟨_,_,?_,q⟩;unfold Ek;rw[if_neg (by simp[Eg,BC]),if_pos (by simp[HU,DA])];simp only[Xm 30 L _ h];rfl
def ABb{exs exs2:FT}(h:exs.Perm exs2)(nd:exs.Nodup)(hl:exs.length<=6):EH exs=EH exs2:=by
 have inj:∀x y:Str×Str,BG x=BG y->x=y:=λx y e=>by
  unfold BG at e;simp only[D.tup.injEq,List.cons.injEq,D.str.injEq,and_true] at e;exact Prod.ext e.1 e.2
 have h1:=ABa (h.map BG) (λx hx=>CF.mp (Yj exs) x hx) (by
  unfold List.Nodup at nd ⊢;rw[AMG]
  exact nd.imp λhne e=>hne (inj _ _ e)) (by rw[Ah];exact hl)
 rw[Qw,Qw] at h1;exact Ra (λx _ y _ e=>inj x y e) h1
def AAj{α:Type}(xs:List α):xs.Perm (xs.drop 1++xs.take 1):=by
 conv=>lhs;rw[<-AMS 1 xs]
 exact AMj
def AC3{ws:AM4}{p:D}(h:Dq ws p):FC 29 p=true:=by
 rcases h with⟨w,_,rfl⟩|⟨d,x,y,rfl,_,hx,hy⟩
 .rfl
 .obtain⟨k,n,e,rfl,_⟩:=hx;obtain⟨k',n',e',rfl,_⟩:=hy;rfl
def AFe{Q:ANb}{L:AB}{k:Nat}{ds:List D}(e:L[k]?=some (.lst ds))(h:Q (.ref L.length) (L++[.lst ds.reverse])):W2 (JS [.ref k] L) Q:=⟨_,_,by simp only[JS,e],h⟩
def AGT{ws ts:AM4}{G:Ag}(K:DO ws ts G){a:AM4}(ha:a∈G.map (·.1)){f:Int×D}(h:FL G a=some f):Dq ws f.2:=by
 obtain⟨e,hf,he,hk⟩:=FH ha;have h1:DM G a=some e.2:=by unfold DM;rw[hf];rfl
 unfold FL IV at h;rw[h1] at h;obtain⟨p,hp,rfl⟩:=BA.mp (Gp h);exact(K.snd e he p hp).1
def YT{ws ts:AM4}{G:Ag}(K:DO ws ts G)(hw:Da ws):∀{l:Nat} {rest:AM4} {f:Int×D},CJ G l rest=some f->∃r,f.2=.tup r/\∀p∈r,Dq ws p
 |0,_,f,h=>by cases h;exact⟨[],rfl,λp hp=>by cases hp⟩
 |l+1,rest,f,h=>by
  obtain⟨x,hx,e⟩:=BA.mp (Gp h);obtain⟨h1,_,h3⟩:=Hr hx;obtain⟨z,p,e1,n1⟩:=Nt K hw (GB h1);obtain⟨y,r,e2,hl,n2⟩:=LO K hw h3;obtain⟨r2,e3,h4⟩:=YT K hw e2;cases e3;rw[e1,e2] at e;subst e;refine⟨p::r,rfl,λq hq=>?_⟩;rcases Aa.mp hq with rfl|hq
  .exact AGT K (GB h1) e1
  .exact h4 q hq
def AGu{ws ts:AM4}{G:Ag}(K:DO ws ts G){wd:AM4}(h:Cf G wd=0):Hq G wd=.non:=by
 unfold Cf at h;have h1:=LP (rest:=wd) K.pos (show AQ G (0+1) wd=0 by show AQ G 1 wd=0;omega);have h2:=LP (rest:=wd) K.pos (show AQ G (1+1) wd=0 by show AQ G 2 wd=0;omega);have h3:=LP (rest:=wd) K.pos (show AQ G (2+1) wd=0 by show AQ G 3 wd=0;omega);unfold Hq
 have:(List.range 3).filterMap (λi=>CJ G (i+1) wd)=[]:=by show[0,1,2].filterMap (λi=>CJ G (i+1) wd)=[];simp[h1,h2,h3]
 rw[this];rfl
def AGv{ws ts:AM4}{G:Ag}(K:DO ws ts G)(hw:Da ws)(wd:AM4):Hq G wd=.non\/∃r,Hq G wd=.tup r/\∀p∈r,Dq ws p:=by
 unfold Hq
 cases e:bestK ((List.range 3).filterMap λi=>CJ G (i+1) wd) with
 |none=>exact .inl rfl
 |some f =>
  obtain⟨i,_,hi⟩:=ALz.mp (Gp e);exact .inr (YT K hw hi)
def NS{ws:AM4}{r:List D}(h:∀p∈r,Dq ws p):FC 30 (.tup r)=true:=by show r.all (FC 29)=true;rw[CF];exact λp hp=>AC3 (h p hp)
def AE1(ns:ANA)(hn:ns.length<=63)(hb:∀z∈ns,Builtin.Int.intBits z<=1048576):W2 (Ig [.fz (ns.map .int)] []) λd _=>d=.bl true:=by
 unfold Ig;refine BR rfl ?_;unfold Pr;refine Bk (λρ L'=>∃ws exs ps kw ke,Da ws/\Hx exs/\OH ws ps/\exs.length<=6/\exs.Nodup/\L'[kw]?=some (.lst (ws.map D.str))/\L'[ke]?=some (.lst (exs.map BG))/\ρ=[some (.fz (ns.map .int)),some (.ref kw),some (.tup ps),some (.ref ke),none,none,none,none,none]) ?_ ?_
 .rfl';refine AEi hb hn λws ps exs L' kw ke kk h1 h2 h3 h4 h5 h6 h7 h8 h9=>?_;rfl';exact⟨ws,exs,ps,kw,ke,h1,h3,h2,h5,List.Pairwise.imp (λh e=>h (by rw[e])) (AMG.mp h4),h7,h8,rfl⟩
 rintro ρ L1 ⟨ws,exs,ps,kw,ke,hw,hx,hrow,hxl,hnd,hkw1,hke1,rfl⟩;refine Bk (λρ L'=>L'=L1++[.lst (exs.map BG).reverse]/\ρ=[some (.fz (ns.map .int)),some (.ref kw),some (.tup ps),some (.ref ke),some (.ref L1.length),none,none,none,none]) ?_ ?_
 .rfl';refine AFe hke1 ?_;rfl';exact⟨rfl,rfl⟩
 rintro ρ L' ⟨rfl,rfl⟩;have hke2:(L1++[Ob.lst (exs.map BG).reverse])[ke]?=some (.lst (exs.map BG)):=AT hke1;refine Bk (λρ L'=>∃exs2 k4,exs.Perm exs2/\L1 <+: L'/\L'[k4]?=some (.lst (exs2.map BG))/\ρ=[some (.fz (ns.map .int)),some (.ref kw),some (.tup ps),some (.ref ke),some (.ref k4),none,none,none,none]) ?_ ?_
 .rfl';refine Ho hb hn (by decide) (by decide) λc _ _=>?_;rfl';refine BU (λhc=>?_) (λhc=>?_)
  .rfl';have c1:cutD (exs.map BG) (some 1) none=(exs.drop 1).map BG:=by rw[show cutD (exs.map BG) (some 1) none=(exs.map BG).drop 1 from SR _ 1,List.map_drop]
   have c2:cutD (exs.map BG) none (some 1)=(exs.take 1).map BG:=by rw[show cutD (exs.map BG) none (some 1)=(exs.map BG).take 1 from SO _ 1,List.map_take]
   rw[c1,c2];refine SA (AT Ac) Ac (by simp;omega) ?_;exact⟨exs.drop 1++exs.take 1,_,AAj exs,(((Am _ _).trans (Am _ _)).trans (Am _ _)).trans (Am _ _),by rw[Cd];exact Ac,rfl⟩
  .rfl';exact⟨exs.reverse,L1.length,(List.reverse_perm exs).symm,Am _ _,by rw[List.map_reverse];exact Ac,rfl⟩
 rintro ρ L2 ⟨exs2,k4,hp,p2,hk4,rfl⟩;have hkw2:=CY p2 hkw1;have hke3:=CY p2 hke1;have hx2:Hx exs2:=λe he=>hx e (hp.mem_iff.mpr he);have hs:=ABb hp hnd hxl;generalize hwd:(EH exs).map (·.2)=wd;generalize hG:EC ws ((EH exs).map (·.1)) wd=G;have K:DO ws ((EH exs).map (·.1)) G:=by rw[<-hG];exact AFY hw.2.2 _ _
 refine Bk (λρ L'=>∃t,L2 <+: L'/\FN L' t ws G wd/\ρ=[some (.fz (ns.map .int)),some (.ref kw),some (.tup ps),some (.ref ke),some (.ref k4),some (.ref t),none,none,none]) ?_ ?_
 .rfl';refine Ue hkw2 hw.2.2 hke3 hx (by omega) λL3 t p3 T3=>?_;rw[hwd,hG] at T3;rfl';exact⟨t,p3,T3.tab,rfl⟩
 rintro ρ L3 ⟨t,p3,T3,rfl⟩;refine Bk (λρ L'=>∃t2,FN L' t ws G wd/\FN L' t2 ws G wd/\ρ=[some (.fz (ns.map .int)),some (.ref kw),some (.tup ps),some (.ref ke),some (.ref k4),some (.ref t),some (.ref t2),none,none]) ?_ ?_
 .rfl';refine Ue (CY p3 hkw2) hw.2.2 (CY p3 hk4) hx2 (by rw[<-hp.length_eq];omega) λL4 t2 p4 T4=>?_;rw[<-hs,hwd,hG] at T4;rfl';exact⟨t2,T3.pre p4,T4.tab,rfl⟩
 rintro ρ L4 ⟨t2,T1,T2,rfl⟩;refine Bk (λρ L'=>L'=L4/\ρ=[some (.fz (ns.map .int)),some (.ref kw),some (.tup ps),some (.ref ke),some (.ref k4),some (.ref t),some (.ref t2),some (.int (Cf G wd:Int)),none]) ?_ ?_
 .rfl';refine WL T1 ?_;rfl';exact⟨rfl,rfl⟩
 rintro ρ L5 ⟨rfl,rfl⟩;have hrl:∃l,ps.length=l+1:=⟨ps.length-1,by have:=hrow.2.1;omega⟩;obtain⟨l,hl⟩:=hrl;refine Bk (λρ L'=>L'=L5/\ρ=[some (.fz (ns.map .int)),some (.ref kw),some (.tup ps),some (.ref ke),some (.ref k4),some (.ref t),some (.ref t2),some (.int (Cf G wd:Int)),none]) ?_ ?_
 .rfl';refine WL T2 ?_;rfl';refine RR K T2 hrow hl (λn hn1=>?_) (λhn1=>?_)
  .rfl';refine RR K T1 hrow hl (λn2 hn2=>?_) (λhn2=>by rw[hn1] at hn2;cases hn2);have e:n2=n:=by rw[hn1] at hn2;exact(Option.some.inj hn2).symm
   subst e;refine AEJ ?_;rfl';exact⟨rfl,rfl⟩
  .rfl';refine RR K T1 hrow hl (λn2 hn2=>by rw[hn1] at hn2;cases hn2) (λhn2=>?_);refine WA ?_;rfl';exact⟨rfl,rfl⟩
 rintro ρ L6 ⟨rfl,rfl⟩;refine Bk (λρ L'=>L'=L6/\ρ=[some (.fz (ns.map .int)),some (.ref kw),some (.tup ps),some (.ref ke),some (.ref k4),some (.ref t),some (.ref t2),some (.int (Cf G wd:Int)),none]) ?_ ?_
 .rfl';refine SU K hw T2 ?_;rfl';refine SU K hw T1 ?_;rcases AGv K hw wd with e|⟨r,e,hr⟩
  .rw[e];refine WA ?_;rfl';exact⟨rfl,rfl⟩
  .rw[e];refine Vz (NS hr) ?_;rfl';exact⟨rfl,rfl⟩
 rintro ρ L7 ⟨rfl,rfl⟩;rfl';refine BU (λh0=>?_) (λh0=>?_)
 .rfl';refine SU K hw T1 ?_;rw[AGu K (by omega)];rfl';exact⟨rfl,List.nil_prefix,rfl⟩
 .rfl';refine Ho hb hn (by decide) (by decide) λc hc0 _=>?_;rfl';have hpos:0<Cf G wd:=by omega
  refine Ce (λj ρ L'=>L'=L7++[.lst [D.int (c / 2 % (Cf G wd:Int)),D.int 0,D.int ((Cf G wd:Int)-1)]]/\∃e,ρ=[some (.fz (ns.map .int)),some (.ref kw),some (.tup ps),some (.ref ke),some (.ref k4),some (.ref t),some (.ref t2),some (.int (Cf G wd:Int)),e]) _ 0 _ _ ⟨rfl,none,rfl⟩ ?_ ?_
  .rintro i x ρ L' hx ⟨rfl,e,rfl⟩;refine⟨decide_eq_true Ac,?_⟩
   have hk:∃k:Nat,x=.int (k:Int)/\k<Cf G wd:=by
    have h1:=GW (c / 2) (b:=(Cf G wd:Int)) (by omega);have h2:=GY (c / 2) (b:=(Cf G wd:Int)) (by omega);have hm:=Bj hx;simp only[Aa,Dw,or_false] at hm;rcases hm with rfl|rfl|rfl
    .exact⟨(c / 2 % (Cf G wd:Int)).toNat,by rw[Int.toNat_of_nonneg h1],by omega⟩
    .exact⟨0,rfl,hpos⟩
    .exact⟨Cf G wd-1,by congr 1;omega,by omega⟩
   obtain⟨k,rfl,hkz⟩:=hk;have T1':=T1.pre (L':=L7++[.lst [D.int (c / 2 % (Cf G wd:Int)),D.int 0,D.int ((Cf G wd:Int)-1)]]) (Am _ _);have T2':=T2.pre (L':=L7++[.lst [D.int (c / 2 % (Cf G wd:Int)),D.int 0,D.int ((Cf G wd:Int)-1)]]) (Am _ _)
   have hok:FC 30 (.tup (ND G wd k))=true:=by
    unfold Cf at hkz;unfold ND;split
    .exact NS (Ki K (by assumption)).2
    .split
     .exact NS (Ki K (by assumption)).2
     .exact NS (Ki K (by omega)).2
   rfl';refine VM K hw T2' hkz ?_;rfl';refine VM K hw T1' hkz ?_;refine Vz hok ?_;rfl';exact⟨rfl,_,rfl⟩
  .rintro ρ L' ⟨rfl,e,rfl⟩;refine⟨decide_eq_true Ac,?_⟩;rfl';exact⟨rfl,List.nil_prefix,rfl⟩
def law_true(ns:ANA)(hn:ns.length<=63)(hb:∀z∈ns,Builtin.Int.intBits z<=1048576):∃L',Ig [.fz (ns.map .int)] []=some (.bl true,L'):=by obtain⟨d,L',e,rfl⟩:=AE1 ns hn hb;exact⟨L',e⟩
end L3
set_option maxHeartbeats 8000000
namespace L3
open PySem PySem.Spec PyProof.Rows L2
local macro_rules | `(tactic| wtm_at "sc") => `(tactic| exact ⟨rfl, rfl, rfl, by decide +kernel, rfl, by decide +kernel, by decide +kernel⟩)
local macro_rules | `(tactic| wtm_at "b0") => `(tactic| (intro _ _ _ _ _ _ us hl; obtain e := L3.AEz hl; subst e; rfl))
local macro_rules | `(tactic| wtm_at "b1") => `(tactic| (intro _ _ _ _ _ _ us hl; obtain ⟨_, e⟩ := L3.Wb hl; subst e; rfl))
local macro_rules | `(tactic| wtm_at "b2") => `(tactic| (intro _ _ _ _ _ _ us hl; obtain ⟨_, _, e⟩ := L3.JK hl; subst e; rfl))
local macro_rules | `(tactic| wtm_at "b3") => `(tactic| (intro _ _ _ _ _ _ us hl; obtain ⟨_, _, _, e⟩ := L3.HZ hl; subst e; rfl))
local macro_rules | `(tactic| wtm_at "b4") => `(tactic| (intro _ _ _ _ _ _ us hl; obtain ⟨_, _, _, _, e⟩ := L3.AEy hl; subst e; rfl))
local macro_rules | `(tactic| wtm_at "bi") => `(tactic| first | wtm_at "b0" | wtm_at "b1" | wtm_at "b2" | wtm_at "b3" | wtm_at "b4")
noncomputable abbrev pW:=PySem.Challenge.pw_byexample_k35_order_of_examples
seal AW Et Hu Ds Dc Eu Gu Jh Dr Hv LV Ci Ex OK MtD
seal AA AD AE BD AC AH AL Bg CG Bd AJ AO Au Bh AV DU BB Ab Hs Ei HA Ba Bl An AU El BX IQ DC Gj AFo Be AFs BM DY BS Bw Fk
local macro_rules | `(tactic| wtm_at $s:str) => do let w := s.getString.toList; (if w.take 2 == ['d', ' '] then pure () else Lean.Macro.throwUnsupported); let T := "vv.a ALP.ea.b ALO.c AKc.d AIZ.sS.e AIX.s.f AKT.Oee.g AIc.ne.h AId.e.i ixq.ee.j AKm.FFa.k AJl.n.l AIW.Oeer.m AIh.tSS.n AKQ.o AIY.p AKM.Fl.q AKL.r AKf.el.s AKk.Omba.t AJE.u AJP.v AI4.e.w AJj.gG.x AJO.y AKa.a.z AIi.prigS.A AK8.B AKy.C AKW.D AJM.E AKP.a.F AI5.e.G AKR.eoo.H AIv.I AIj.e.J AKh.iB.K AKe.F.L AI6.M AJi.N AJD.O AK4.P AKj.Omba.Q AKq.ee.R AKo.fOea:list_append.S AJk.rG.T AJa.U AIU.e.V AKi.Oeer.W AJK.X AIT.w.Y AKs.Z AKd.tee.0 AGG.Oeex.1 AIl.niB.2 AIe.eel.3 AH2.tw.4 AHc.u.5 AKU.e.6 AI7.7 AH3.t.8 AK9.9 AK0.! AKp.# AKg.$ AKO.mb.& AIz.ma.( AJJ.) AJH.* AJF.+ AJA., AKZ.FFa.; AKX.e.< AJG.= AJB.u.> AI8.? AI0.e.^ AIu.t._ AIk.ueee.{ AIV.t.| ALD.} ALA.~ AK2.' AKo.fOea:list_extend.À AJY.Á AJC.Â AIx.zma.Ã AIp.reG.Ä ALC.Å AGp.Æ AK5.Ç AK1.r.È AKz.É AKv.r.Ê AKt.r.Ë AKo.fOea:dict_setdefault.Ì AKn.fOe:str_lower.Í AKn.fOe:str_upper.Î AJT.Ï AJS.u.Ð AJQ.Ñ AJN.u.Ò AJL.Ó AI9.u.Ô AI1.e.Õ AIo.neP.Ö AIg.× AIf.eee.Ø AH5.tw.Ù AH4.t.Ú AHb.Û ALB.Ü AGq.Ý AK7.Þ AK6.ß AKx.à AKw.r.á AKu.â AKo.fOea:dict_get.ã AKo.fOea:str_join.ä AKo.fOea:str_startswith.å AKn.fOe:str_isdigit.æ AKn.fOe:str_islower.ç AKn.fOe:str_isupper.è AKl.FF.é AKb.mma.ê AKY.FFma.ë AKV.e.ì AKS.ee.í AJh.î AJg.ï AJf.ð AJZ.u.ñ AJX.ò AJW.ó AJV.ô AJU.õ AJR.ö AJI.u.÷ AI3.ma.ø AI2.ma.ù AIy.ma.ú AIn.eelP.û AIm.ü AIb.ptS.ý AHa.þ".splitOn " "; let st ← (w.drop 2).foldrM (fun n st => do let v := (((T.find? (·.back == n)).getD "").dropEnd 2).toString.splitOn ":"; let m := (v.headD "").splitOn "."; let q ← (m.getD 1 "").toList.foldlM (fun (q : Array Lean.Term × List Lean.Term) k => do let p ← (match k with | 'F' => return #[← `(by assumption)] | 'r' => return #[← `(rfl)] | 'p' => return #[← `(PassesOwn.never)] | 'u' => return #[← `(Room.units (by assumption))] | 'm' => return #[← `(BlOk.get (by assumption) _)] | 'x' => return #[← `(fun _ _ => rfl)] | 'n' => return #[← `(by first | assumption | exact nqC)] | 'f' => return (let u := v.getD 1 ""; #["plainAttrs_" ++ (u.splitOn "_").headD "", "slot_" ++ u, "type_" ++ u].map fun u => ⟨Lean.mkIdent (.str `PySem.F u)⟩) | _ => return #[]); let a := q.2; (match k, a with | 'B', x :: y :: z :: a => return (q.1.push (← `(fun _ _ _ _ _ _ => ⟨$x, $y, $z⟩)), a) | _, x :: b => return (if p.isEmpty then (q.1.push x, b) else (q.1 ++ p, a)) | _, [] => return (q.1 ++ p, a))) (#[], st); let c := Lean.mkIdent (.mkSimple (m.headD "")); return (← (if q.1.isEmpty then `($c) else `($c $(q.1)*))) :: q.2) ([] : List Lean.Term); let t := st.headD ⟨.missing⟩; `(tactic| exact fun _ _ _ _ _ _ _ _ _ => $t)
abbrev So:AM4:=["abs","all","bool","enumerate","int","isinstance","len","list","min","range","reversed","sorted","str","sum","tuple","zip"]
section
variable {P:Program}{w:World}{K:AK}{mg:AM3}{base:Heap}{k:Nat}(hb:BlOk mg So)
 (zk7:Dv K mg "DEEDS" KI)
 (zl7:Dv K mg "EDGES" zz)
 (zd10:Dv K mg "END" Lj)
 (zm7:Dv K mg "KINDS" zx)
 (ze10:Dv K mg "NOWHERE" KG)
 (zn7:Dv K mg "NTHS" zy)
 (zo7:Dv K mg "ROW_LENGTHS" Iu)
 (zf10:Dv K mg "SIGNS_BY_KIND" Lm)
 (zt:Cj K AND ANH)
 (zu:Cj K AND ANE)
 (zm1:Cj K ANC ANF)
 (zp7:Cj K ANC ANK)
 (zq7:Cj K ANC ANL)
 (zk:Cj K ANC ANG)
 (zw:Cj K ANC ANM)
 (zr7:Cj K ANC ANI)
 (zs7:Ao P w K mg base k "_law_text" Ir)
 (zg10:Ao P w K mg base k "_law_words" KC)
 (zh10:Ao P w K mg base k "_law_place" Iq)
 (zi10:Ao P w K mg base k "_law_piece" KA)
 (zj10:Ao P w K mg base k "_law_kind" Jy)
 (zk10:Ao P w K mg base k "_law_spot" zg)
 (zt7:Ao P w K mg base k ANX zh)
 (zl10:Ao P w K mg base k "_law_fitting" Jw)
 (zm10:Ao P w K mg base k "_law_row" Ju)
 (zg5:Ao P w K mg base k "_law_cell" zb)
 (zn10:Ao P w K mg base k ANY Jr)
 (zo10:Ao P w K mg base k ANZ Jp)
 (zp10:Ao P w K mg base k ANa Jo)
 (zq10:Ao P w K mg base k "_law_made" Jn)
 (zr10:Ao P w K mg base k "members_of" Ip)
 (zu7:Fw P w K mg base k AND zm)
 (zs10:Fw P w K mg base k ANC Jm)
 (zt10:Ao P w K mg base k "all_places" Ka)
 (zu10:Ao P w K mg base k "kind_of" KZ)
 (zv10:Ao P w K mg base k "is_of" KY)
 (zw10:Ao P w K mg base k "spot" zo)
 (zx10:Ao P w K mg base k "places_by_spots" KW)
 (zy10:Ao P w K mg base k "stand_within" KU)
 (zz10:Ao P w K mg base k "add_to_group" Io)
 (za11:Ao P w K mg base k "stretches" KS)
 (zb11:Ao P w K mg base k "pieces_between" KR)
 (zc11:Ao P w K mg base k "done_to" KQ)
 (zd11:Ao P w K mg base k "groups_of" KP)
 (ze11:Ao P w K mg base k "answers_to_try" KO)
 (zf11:Ao P w K mg base k "rest_behind" KN)
 (zv7:Ao P w K mg base k "node_number" ze)
 (zg11:Ao P w K mg base k "table_of" Im)
 (zh11:Ao P w K mg base k "many" Il)
 (zi11:Ao P w K mg base k "price_found" zp)
 (zh5:Ao P w K mg base k "cheapest_of" zq)
 (zj11:Ao P w K mg base k "place_price" Ik)
 (zk11:Ao P w K mg base k "piece_price" KM)
 (zl11:Ao P w K mg base k "cheapest_piece" KL)
 (zm11:Ao P w K mg base k "find_behind" KJ)
 (zn11:Ao P w K mg base k "cheapest_in" KH)
 (zo11:Ao P w K mg base k "node_finds" KF)
 (zp11:Ao P w K mg base k "cheapest" zj)
 (zw7:Ao P w K mg base k "is_tuple_of" Ij)
 (zi5:Ao P w K mg base k "is_word_among" zf)
 (zq11:Ao P w K mg base k "is_nth" KB)
 (zr11:Ao P w K mg base k "is_place" zr)
 (zs11:Ao P w K mg base k "is_stretch" Jz)
 (zt11:Ao P w K mg base k "may_be_used" Jx)
 (zu11:Ao P w K mg base k "is_row_of_its_pieces" Jv)
 (zv11:Ao P w K mg base k "row_number" Ii)
 (zw11:Ao P w K mg base k "arm_answers" Js)
 (zx11:Ao P w K mg base k "row_from" Jq)
 (zy11:Ao P w K mg base k "row_at" Ih)
 {zw2:Addr}
 (zg14:ZC K "NoNumber" zw2)
noncomputable abbrev OZ:Stmt:=BE pW 60
def TC:As Lg (Lg.take 2) (Ad OZ):=by wtm_at "sc"
abbrev AAB:Az P w K mg base k Lg "_law_text" OZ Po:=dk TC (by wtm_at "d ehoehjzbobobobacgugEaddehguagvadehgEadehoeA(baclehgvajaguatCBbacfhgEatCBbacfia")
noncomputable abbrev OU:Stmt:=BE pW 61
def UO:As Mo (Mo.take 1) (Ad OU):=by wtm_at "sc"
abbrev Zy:Az P w K mg base k Mo "_law_words" OU Pj:=dk UO (by wtm_at "d ehzcehguadenmygugEadddfhgvdguadpehgEadeA(baclehkbabjzbdbdbdbdcgugEaddcenmXadfhHaMGdpenmyaofhopenm,aafJSUabacpfhgEag?ddfia")
noncomputable abbrev OP:Stmt:=BE pW 62
def UL:As Ml (Ml.take 1) (Ad OP):=by wtm_at "sc"
abbrev Zp:Az P w K mg base k Ml "_law_place" OP Pe:=dk UL (by wtm_at "d ehjzbobobobobocguadfiFbabjzbdbdb<db<dcgugEaddbjzbobocgugEaddc")
noncomputable abbrev Qf:Stmt:=BE pW 63
def UH:As Mh (Mh.take 2) (Ad Qf):=by wtm_at "sc"
abbrev Zm:Az P w K mg base k Mh "_law_piece" Qf UI:=dk UH (by wtm_at "d enYÙmyguaddÚmXtCBbacdfiFbobjagugEadtCBbaccpehjzbobobobocgugEaddfiFbabkbgEadcbkbgEadcc")
noncomputable abbrev Qb:Stmt:=BE pW 64
def UF:As Me (Me.take 1) (Ad Qb):=by wtm_at "sc"
abbrev Zk:Az P w K mg base k Me "_law_kind" Qb Pa:=dk UF (by wtm_at "d enVçóafiopenVèôafiopenVæòafiopfio")
noncomputable abbrev QX:Stmt:=BE pW 65
def UD:As Mb (Mb.take 2) (Ad QX):=by wtm_at "sc"
abbrev Zi:Az P w K mg base k Mb "_law_spot" QX PV:=dk UD (by wtm_at "d eÄaxlxlxlNe2(btCBbaccl_Y4myao8mykbjaacaaenm+tCBbact'}bacfiDpenmXadfigvjag7adQÉ~bWyaocpfigvjaaQÉ~bWyaoc")
noncomputable abbrev QS:Stmt:=BE pW 66
def UB:As MY (MY.take 2) (Ad QS):=by wtm_at "sc"
abbrev Zg:Az P w K mg base k MY ANX QS MV:=dk UB (by wtm_at "d enmyjadofijadpehkbjadbacehkbjadbacenY4m*aD4m*aD8mÓaafiDpenmyjadofiÎÑHaGaGapenmyjadofiÍÏHaGaGapfiHaGaGa")
noncomputable abbrev QN:Stmt:=BE pW 68
def Tz:As MT (MT.take 3) (Ad QN):=by wtm_at "sc"
abbrev Ze:Az P w K mg base k MT "_law_fitting" QN PP:=dk Tz (by wtm_at "d ehkbabacenmyjadofiapehFbjadbFbobdbocbFbob<dbocceAwzbabFbjadbjadbjadcbaclfnm,DKwalIkbabacfiapenmytCBbacdfiDpfiFbobjagugEadtCBbacc")
noncomputable abbrev QJ:Stmt:=BE pW 69
def Tw:As MR (MR.take 3) (Ad QJ):=by wtm_at "sc"
abbrev Zc:Az P w K mg base k MR "_law_row" QJ PK:=dk Tw (by wtm_at "d ehzcehgEadeA(bgvdguadclehkbababacenm=aDfJSUabacpfhgEadfiQZPbac")
noncomputable abbrev QE:Stmt:=BE pW 59
def Tu:As MP (MP.take 2) (Ad QE):=by wtm_at "sc"
abbrev Za:Az P w K mg base k MP "_law_cell" QE PD:=dk Tu (by wtm_at "d enm+atCBbacfigugOgvjaaddg?ddpehgvgOgOaaddenmXtCBbacdfhgvagOgujagugOadtCBbacg?dddpfigugOgugOaaddg?dd")
noncomputable abbrev Pz:Stmt:=BE pW 67
def Ts:As MN (MN.take 2) (Ad Pz):=by wtm_at "sc"
abbrev ZY:Az P w K mg base k MN ANY Pz Oy:=dk Ts (by wtm_at "d e2walIkbabacenm)DafiDpfiäõobac")
noncomputable abbrev Pv:Stmt:=BE pW 71
def Tq:As ML (ML.take 3) (Ad Pv):=by wtm_at "sc"
abbrev ZW:Az P w K mg base k ML ANZ Pv Ou:=dk Tq (by wtm_at "d e2walIFbabkbabaccenYÙmyguaddÚmXtCBbacdehgugEadtCBbaceÄjaaxlxlNehjzbHgvaoMGdbHaMG<dbgvHaGdMHaMGdbocgugEaddfhgvgvHaMGazbFbabaccHaGgvadMpfia")
noncomputable abbrev Pq:Stmt:=BE pW 70
def To:As MJ (MJ.take 3) (Ad Pq):=by wtm_at "sc"
abbrev ZU:Az P w K mg base k MJ ANa Pq Op:=dk To (by wtm_at "d ehkbabacehgvdguadenmygugEadddehgvdguadfhtÊÆbabdcpe2(baclIoehjzbobobobocgugEaddenmygugEadddf2(baclIkbkbabgvgvadacbacfAúbgvadbtÊÆbtCBbacbgvgvadgOaacclehguaaehjagukbabactCBbacfØaagvjaaaenmygugEadddfØadHgOHaMGgvdgugEadddMGdpehzceAwalfnm,aafJSUabacpfia")
noncomputable abbrev Pl:Stmt:=BE pW 72
def Tl:As MH (MH.take 1) (Ad Pl):=by wtm_at "sc"
abbrev ZS:Az P w K mg base k MH "_law_made" Pl Ol:=dk Tl (by wtm_at "d ehkbkbabdcce2wkbabdbdcl_Y4mÂao8mXtCBbacdaehkbkbabdcbabacfizbababkbababkbabdccc")
noncomputable abbrev Pg:Stmt:=BE pW 30
def Tj:As MF (MF.take 1) (Ad Pg):=by wtm_at "sc"
abbrev ZQ:Az P w K mg base k MF "members_of" Pg Og:=dk Tj (by wtm_at "d eh$eA^aTxlxlNfAøbacTxlxlNf{aaFbabacfia")
noncomputable abbrev Pc:Stmt:=Wx pW 28 0
def Th:As MD (MD.take 2) (Ad Pc):=by wtm_at "sc"
abbrev ZO:Az P w K mg base k MD "Node.__init__" Pc Oc:=dk Th (by wtm_at "d e3aaqrf3a$qr")
noncomputable abbrev PY:Stmt:=Wx pW 29 0
def Tf:As MB (MB.take 3) (Ad PY):=by wtm_at "sc"
abbrev ZM:Az P w K mg base k MB "Table.__init__" PY OW:=dk Tf (by wtm_at "d e3aaqre3aaqre3akbacqre3azb;bdcb;bdccqre3a$qrf3azcqr")
noncomputable abbrev PR:Stmt:=BE pW 8
def Td:As Lz (Lz.take 0) (Ad PR):=by wtm_at "sc"
abbrev ZK:Az P w K mg base k Lz "all_places" PR OR:=dk Td (by wtm_at "d ehzceAwLlfAwLlfAwLlfJSUabFbababaccfia")
noncomputable abbrev PM:Stmt:=BE pW 3
def Tb:As Lx (Lx.take 1) (Ad PM):=by wtm_at "sc"
abbrev ZI:Az P w K mg base k Lx "kind_of" PM Qh:=dk Tb (by wtm_at "d eAwLTxlxlNfnm)aafiapfiD")
noncomputable abbrev PH:Stmt:=BE pW 4
def TZ:As Lv (Lv.take 2) (Ad PH):=by wtm_at "sc"
abbrev AAP:Az P w K mg base k Lv "is_of" PH Qd:=dk TZ (by wtm_at "d fiíWyao6Wykbaca")
noncomputable abbrev PB:Stmt:=BE pW 12
def TW:As Ls (Ls.take 2) (Ad PB):=by wtm_at "sc"
abbrev AAN:Az P w K mg base k Ls "spot" PB QZ:=dk TW (by wtm_at "d ehjadehjade2ùbacTxlxlN_Vkbabacaenm+tCBbact'}bacfiDpeh0mXadjag7adjaafi0myjadoagvad")
noncomputable abbrev Ow:Stmt:=BE pW 31
def TU:As Lq (Lq.take 1) (Ad Ow):=by wtm_at "sc"
abbrev AAL:Az P w K mg base k Lq "places_by_spots" Ow QV:=dk TU (by wtm_at "d eh$eAwélehQZPbKwalIkbabaccfnm,DafJSUÌÐababzccbacpfia")
noncomputable abbrev Os:Stmt:=BE pW 33
def TQ:As Lo (Lo.take 2) (Ad Os):=by wtm_at "sc"
abbrev AAJ:Az P w K mg base k Lo "stand_within" Os QQ:=dk TQ (by wtm_at "d fitÈÅbKÃÛbabacTxlxlNIW)aac")
noncomputable abbrev On:Stmt:=BE pW 34
def TM:As Ll (Ll.take 4) (Ad On):=by wtm_at "sc"
abbrev AAH:Az P w K mg base k Ll "add_to_group" On QL:=dk TM (by wtm_at "d fnVkbabacfJÀÁÌÐababzccbacp")
noncomputable abbrev Oi:Stmt:=BE pW 32
def TK:As Li (Li.take 3) (Ad Oi):=by wtm_at "sc"
abbrev AAF:Az P w K mg base k Li "stretches" Oi QG:=dk TK (by wtm_at "d ehzceAÃþbababacTxlxlxlNenmÓaafiDpfJSUabHaGaGacfia")
noncomputable abbrev Oe:Stmt:=BE pW 35
def TH:As Lf (Lf.take 3) (Ad Oe):=by wtm_at "sc"
abbrev AAD:Az P w K mg base k Lf "pieces_between" Oe QC:=dk TH (by wtm_at "d ehzceAwalfJÀÁabKwalIFbababaccfia")
noncomputable abbrev OY:Stmt:=BE pW 15
def TB:As Mn (Mn.take 2) (Ad OY):=by wtm_at "sc"
abbrev AAA:Az P w K mg base k Mn "done_to" OY Px:=dk TB (by wtm_at "d enmyaofiapfi0myaoÎÑaÍÏa")
noncomputable abbrev OT:Stmt:=BE pW 36
def UN:As Mj (Mj.take 3) (Ad OT):=by wtm_at "sc"
abbrev Zx:Az P w K mg base k Mj "groups_of" OT Ps:=dk UN (by wtm_at "d eh$eAwalfJkbababQZPbKwalIacbzbFbobacccehkbaceAÕalfAÕalehkbababacfnm=aDfAwLlehQZPbKwalIkbabaccfJkbabababkbab15aab15aaccpfia")
noncomputable abbrev OO:Stmt:=BE pW 38
def UK:As Mg (Mg.take 3) (Ad OO):=by wtm_at "sc"
abbrev Zo:Az P w K mg base k Mg "answers_to_try" OO Pn:=dk UK (by wtm_at "d enmyadfi0m÷asaqrzbaczcpfiQáÝbsaqrc")
noncomputable abbrev Qe:Stmt:=BE pW 37
def UG:As Md (Md.take 2) (Ad Qe):=by wtm_at "sc"
abbrev Zl:Az P w K mg base k Md "rest_behind" Qe Ph:=dk UG (by wtm_at "d ehzceAÃÛbabacTxlxlNen|VåöabacfiDpfJSUabHaGtCBbacMcfiQZPbac")
noncomputable abbrev Qa:Stmt:=BE pW 39
def UE:As Ma (Ma.take 3) (Ad Qa):=by wtm_at "sc"
abbrev Zj{ze:GL}(zv7:Ao P w K mg base k "node_number" ze):Az P w K mg base k Ma "new_node" Qa (Pd ze):=dk UE (by wtm_at "d eh;bdceAwkbababaclehkbabacfnm=aDehkbabg7adbacfnmÂaLe{saqraFbsaqrbacfûagOtCBb15saqracsjsaqraqrqrîppenmysaqrdfiLpeJSUsaqrbacfig7tCBbsaqrcd")
noncomputable abbrev QW:Stmt:=BE pW 40
def UC:As MU (MU.take 3) (Ad QW):=by wtm_at "sc"
abbrev Zh{zi4:GL}(zv18:Ao P w K mg base k "new_node" zi4):Az P w K mg base k MU "node_number" QW (MS zi4):=dk UC (by wtm_at "d enmyadfiLpehFbabacenmÔasaqrf{saqrakbababacpfi15saqra")
noncomputable abbrev QR:Stmt:=BE pW 41
def UA:As MO (MO.take 2) (Ad QR):=by wtm_at "sc"
abbrev Zf:Az P w K mg base k MO "table_of" QR PZ:=dk UA (by wtm_at "d ehtâÞbace2walIjadehQZPbKwalIjadceh;bQZPbacbkbababacceJÀÁsaqrbKwLlIkbababaccfia")
noncomputable abbrev QM:Stmt:=BE pW 51
def Tx:As MM (MM.take 1) (Ad QM):=by wtm_at "sc"
abbrev Zd:Az P w K mg base k MM "many" QM PU:=dk Tx (by wtm_at "d fitËÇbKwsaqrlIsjsaqraqrc")
noncomputable abbrev QH:Stmt:=BE pW 43
def Tv:As MK (MK.take 1) (Ad QH):=by wtm_at "sc"
abbrev Zb:Az P w K mg base k MK "price_found" QH PN:=dk Tv (by wtm_at "d fijad")
noncomputable abbrev QD:Stmt:=BE pW 44
def Tt:As MI (MI.take 1) (Ad QD):=by wtm_at "sc"
abbrev ZZ:Az P w K mg base (k+1) MI "cheapest_of" QD PJ:=dk Tt (by wtm_at "d fiëbac")
noncomputable abbrev Py:Stmt:=BE pW 16
def Tr:As MG (MG.take 1) (Ad Py):=by wtm_at "sc"
abbrev ZX:Az P w K mg base k MG "place_price" Py PC:=dk Tr (by wtm_at "d eh0myt'}bjadcdddeh0myjadoddfigvaa")
noncomputable abbrev Pu:Stmt:=BE pW 17
def Tp:As ME (ME.take 1) (Ad Pu):=by wtm_at "sc"
abbrev ZV:Az P w K mg base k ME "piece_price" Pu Ox:=dk Tp (by wtm_at "d ehjadenmyaofigvdgOdtCBbjadcpeh0myaoddfigvgvakbjadckbjadc")
noncomputable abbrev Pp:Stmt:=BE pW 45
def Tn:As MC (MC.take 1) (Ad Pp):=by wtm_at "sc"
abbrev ZT:Az P w K mg base k MC "cheapest_piece" Pp Ot:=dk Tn (by wtm_at "d fikbKwalIFbkbacbacc")
noncomputable abbrev Pk:Stmt:=BE pW 46
def Tk:As MA (MA.take 2) (Ad Pk):=by wtm_at "sc"
abbrev ZR:Az P w K mg base k MA "find_behind" Pk Oo:=dk Tk (by wtm_at "d fiFbgvjadjadbgvFbjadcjadc")
noncomputable abbrev Pf:Stmt:=BE pW 47
def Ti:As Ly (Ly.take 3) (Ad Pf):=by wtm_at "sc"
abbrev ZP:Az P w K mg base k Ly "cheapest_in" Pf Oj:=dk Ti (by wtm_at "d fikbK^saqrTxlxlNIkb15aabjajadcc")
noncomputable abbrev Pb:Stmt:=BE pW 48
def Tg:As Lw (Lw.take 1) (Ad Pb):=by wtm_at "sc"
abbrev ZN:Az P w K mg base k Lw "node_finds" Pb Of:=dk Tg (by wtm_at "d eh$eA^saqrTxlxlNf{aakbacehzbFbdbFccbDceAwHsaqrGdMlfJSUabkbababaccfia")
noncomputable abbrev PX:Stmt:=BE pW 49
def Te:As Lu (Lu.take 1) (Ad PX):=by wtm_at "sc"
abbrev ZL:Az P w K mg base k Lu "cheapest" PX Oa:=dk Te (by wtm_at "d ehkbacehkbKwsaqrl_m=jaaDjaacfi0m*aDDjad")
noncomputable abbrev PQ:Stmt:=BE pW 23
def Tc:As Lr (Lr.take 2) (Ad PQ):=by wtm_at "sc"
abbrev ZJ:Az P w K mg base k Lr "is_tuple_of" PQ OV:=dk Tc (by wtm_at "d fiRt!9bab&Pc6WytCBbaca")
noncomputable abbrev PL:Stmt:=BE pW 9
def Ta:As Lp (Lp.take 2) (Ad PL):=by wtm_at "sc"
abbrev ZH:Az P w K mg base k Lp "is_word_among" PL OQ:=dk Ta (by wtm_at "d fiRt!9bab&ßc6W)aa")
noncomputable abbrev PF:Stmt:=BE pW 10
def TY:As Ln (Ln.take 1) (Ad PF):=by wtm_at "sc"
abbrev AAO:Az P w K mg base k Ln "is_nth" PF Qg:=dk TY (by wtm_at "d fiRt!9bab&~cRìt!9bab&Üc6W)aL")
noncomputable abbrev Oz:Stmt:=BE pW 11
def TV:As Lk (Lk.take 1) (Ad Oz):=by wtm_at "sc"
abbrev AAM:Az P w K mg base k Lk "is_place" Oz Qc:=dk TV (by wtm_at "d enY4|Vt!9bab&Pc8mÂtCBbacdfi#pfiRkbjadbLcRkbjadc6kbjadbLc")
noncomputable abbrev Ov:Stmt:=BE pW 24
def TR:As Lh (Lh.take 1) (Ad Ov):=by wtm_at "sc"
abbrev AAK:Az P w K mg base k Lh "is_stretch" Ov QY:=dk TR (by wtm_at "d fiRkbdbacRkbjadbLcRkbjadc6kbjadc")
noncomputable abbrev Oq:Stmt:=BE pW 55
def TN:As Le (Le.take 2) (Ad Oq):=by wtm_at "sc"
abbrev AAI:Az P w K mg base k Le "may_be_used" Oq QU:=dk TN (by wtm_at "d enVkbdbacfiRkbjadbFbocc6kbjadbsaqrcpfikbac")
noncomputable abbrev Om:Stmt:=BE pW 56
def TL:As Mm (Mm.take 2) (Ad Om):=by wtm_at "sc"
abbrev AAG:Az P w K mg base k Mm "is_row_of_its_pieces" Om QP:=dk TL (by wtm_at "d enY4|Vt!9bab&Pc8m,tCBbacLfi#pfitÈÅbKwalIkbabacc")
noncomputable abbrev Oh:Stmt:=BE pW 57
def TJ:As Mi (Mi.take 2) (Ad Oh):=by wtm_at "sc"
abbrev AAE:Az P w K mg base k Mi "row_number" Oh QK:=dk TJ (by wtm_at "d en|VkbabacfiDpehg7tCBbacdehtËÇbKwHsaqrMGalIsjsaqraqrcehjsaqrjsaqraeAwalehãñsaqrbacenY4m*aD8mÔjadsaqrfiDpeh15saqrjadehjsaqrjadfÖgvjadgOjadsaqrïfia")
noncomputable abbrev Od:Stmt:=BE pW 52
def TD:As Mf (Mf.take 2) (Ad Od):=by wtm_at "sc"
abbrev AAC:Az P w K mg base k Mf "arm_answers" Od QF:=dk TD (by wtm_at "d ehDeA^saqrTxlxlNenmXjadafüpfhafia")
noncomputable abbrev OX:Stmt:=BE pW 53
def Sz:As Mc (Mc.take 3) (Ad OX):=by wtm_at "sc"
abbrev Zz:Az P w K mg base k Mc "row_from" OX QB:=dk Sz (by wtm_at "d ehzcehjsaqraeýmXtàBbsaqrcdehkbabaceh15saqraehjsaqrjadehg7ajadeJSUabj15saqragEasaqrcehguasaqrfhafiQZPbac")
noncomputable abbrev OS:Stmt:=BE pW 54
def UM:As MZ (MZ.take 2) (Ad OS):=by wtm_at "sc"
abbrev Zw:Az P w K mg base k MZ "row_at" OS Pw:=dk UM (by wtm_at "d enm+adf×peAwsaqrlehsjsaqraqrenm+aafikbababacpfÖaðf×")
noncomputable abbrev Ie:Stmt:=BE pW 73
def UJ:As MW (MW.take 1) (Ad Ie):=by wtm_at "sc"
abbrev Zn:Az P w K mg base k MW "law" Ie Pr:=dk UJ (by wtm_at "d eÄkbacxlxlxlNehêbacenmÒgukbabdcddfhgvHaGdMHaMGdpehkbabacehkbabacehkbacenY4m>kbaca8m>kbabackbabacfi#penm>kbackbacfi#penmÒadfiW*kbacDpeAwzbgugEkbabdcdabdbg7adclfnm>kbabackbabacfi#pfi#")
end
def AHG{l:PySem.W.OpenLaw}{w:World}{K:AK}{h:Heap}{mg:AM3}{fa:Addr}(X:K.In h)(G:h.Ns mainGlobals mg)(hfa:mg "law"=some (.ref fa)){r1 r7 r14 r24 r31 r37 r38 r42 r46 r50 zc za zw2 zk16 zl16 zm16 zn16 zo16 zp16 zq16 zr16 zs16 zt16 zu16 zv16 zw16 zx16 zy16 zz9 za10 zz16 za17 zb17 zc17 zd17 ze17 zf17 zg17 zh17 zi17 zj17 zk17 zl17 zm17 zn17 zo17 zp17 zq17 zr17 zs17 zt17 zu17 zv17 zw17 zx17 zy17 zz17 za18 zb18 zc18 zd18 ze18 zf18 zg18 zh18 zi18 zj18 zk18:Addr}{o1 o7 o14 o24 o31 o37 o38 o42 o46 o50:Option Addr}{n1 n7 n14 n24 n31 n37 n38 n42 n46 n50:Nat}{l1 l7 l14 l24 l31 l37 l38 l42 l46 l50:Array (Option Value)}{t2 t3 t4 t8 t9 t12 t15 t16 t17 t18 t19 t22 t25 t26 t27 t28 t32 t33 t34 t39 t40 t43 t44 t47 t48 t51 t52:Tok}(q6:Bs K mainGlobals "DEEDS"=some (some (.ref r1)))(q5:K.lookup r1=some ⟨.type "tuple",o1,.seq ([.str "copy" t2,.str "raise" t3,.str "sink" t4]:AM5).toArray n1,l1⟩)(q11:Bs K mainGlobals "EDGES"=some (some (.ref r7)))(q10:K.lookup r7=some ⟨.type "tuple",o7,.seq ([.str "ahead" t8,.str "behind" t9]:AM5).toArray n7,l7⟩)(q13:Bs K mainGlobals "END"=some (some (.int (0) t12)))(q21:Bs K mainGlobals "KINDS"=some (some (.ref r14)))(q20:K.lookup r14=some ⟨.type "tuple",o14,.seq ([.str "small" t15,.str "great" t16,.str "figure" t17,.str "mark" t18,.str "any" t19]:AM5).toArray n14,l14⟩)(q23:Bs K mainGlobals "NOWHERE"=some (some (.int (1) t22)))(q30:Bs K mainGlobals "NTHS"=some (some (.ref r24)))(q29:K.lookup r24=some ⟨.type "tuple",o24,.seq ([.int (1) t25,.int (2) t26,.int (-1) t27,.int (-2) t28]:AM5).toArray n24,l24⟩)(q36:Bs K mainGlobals "ROW_LENGTHS"=some (some (.ref r31)))(q35:K.lookup r31=some ⟨.type "tuple",o31,.seq ([.int (1) t32,.int (2) t33,.int (3) t34]:AM5).toArray n31,l31⟩)(q55:Bs K mainGlobals "SIGNS_BY_KIND"=some (some (.ref r37)))(q54:K.lookup r37=some ⟨.type "tuple",o37,.seq ([.ref r38,.ref r42,.ref r46,.ref r50]:AM5).toArray n37,l37⟩)(q41:K.lookup r38=some ⟨.type "tuple",o38,.seq ([.str "small" t39,.str "abcdefghijklmnopqrstuvwxyz" t40]:AM5).toArray n38,l38⟩)(q45:K.lookup r42=some ⟨.type "tuple",o42,.seq ([.str "great" t43,.str "ABCDEFGHIJKLMNOPQRSTUVWXYZ" t44]:AM5).toArray n42,l42⟩)(q49:K.lookup r46=some ⟨.type "tuple",o46,.seq ([.str "figure" t47,.str "0123456789" t48]:AM5).toArray n46,l46⟩)(q53:K.lookup r50=some ⟨.type "tuple",o50,.seq ([.str "mark" t51,.str " -.,/" t52]:AM5).toArray n50,l50⟩)(q56:Bs K mainGlobals "abs"=some none)(q57:Bs K mainGlobals "all"=some none)(q58:Bs K mainGlobals "bool"=some none)(q59:Bs K mainGlobals "enumerate"=some none)(q60:Bs K mainGlobals "int"=some none)(q61:Bs K mainGlobals "isinstance"=some none)(q62:Bs K mainGlobals "len"=some none)(q63:Bs K mainGlobals "list"=some none)(q64:Bs K mainGlobals "min"=some none)(q65:Bs K mainGlobals "range"=some none)(q66:Bs K mainGlobals "reversed"=some none)(q67:Bs K mainGlobals "sorted"=some none)(q68:Bs K mainGlobals "str"=some none)(q69:Bs K mainGlobals "sum"=some none)(q70:Bs K mainGlobals "tuple"=some none)(q71:Bs K mainGlobals "zip"=some none)(q72:Bs K mainGlobals AND=some (some (.ref zc)))(q73:AL7 K zc Str.empty=true)(q74:AL8 K zc=true)(q75:AML K zc=true)(q76:DP K (.ref zc) "__setattr__"=some (some (.builtin "object.__setattr__")))(q77:AMM K zc=true)(q78:Fz K (.ref zc)=true)(q79:Bs K mainGlobals ANC=some (some (.ref za)))(q80:AL7 K za Str.empty=true)(q81:AL8 K za=true)(q82:AML K za=true)(q83:DP K (.ref za) "__setattr__"=some (some (.builtin "object.__setattr__")))(q84:AMM K za=true)(q85:Fz K (.ref za)=true)(q86:DP K (.ref zc) ANH=some none)(q87:DP K (.ref zc) ANE=some none)(q88:DP K (.ref za) ANF=some none)(q89:DP K (.ref za) ANK=some none)(q90:DP K (.ref za) ANL=some none)(q91:DP K (.ref za) ANG=some none)(q92:DP K (.ref za) ANM=some none)(q93:DP K (.ref za) ANI=some none)(q94:Bs K mainGlobals "NoNumber"=some (some (.ref zw2)))(q95:PySem.W.excIn K zw2 YL "ValueError.__new__"=true)(q96:FQ K "_law_text" OZ zk16)(q97:FQ K "_law_words" OU zl16)(q98:FQ K "_law_place" OP zm16)(q99:FQ K "_law_piece" Qf zn16)(q100:FQ K "_law_kind" Qb zo16)(q101:FQ K "_law_spot" QX zp16)(q102:FQ K ANX QS zq16)(q103:FQ K "_law_fitting" QN zr16)(q104:FQ K "_law_row" QJ zs16)(q105:FQ K "_law_cell" QE zt16)(q106:FQ K ANY Pz zu16)(q107:FQ K ANZ Pv zv16)(q108:FQ K ANa Pq zw16)(q109:FQ K "_law_made" Pl zx16)(q110:FQ K "members_of" Pg zy16)(q111:DP K (.ref zc) "__init__"=some (some (.ref zz9)))(q112:PySem.W.isFn K (.ref zz9)=true)(q113:Lc K "__init__" "Node.__init__" Pc zz9)(q114:DP K (.ref za) "__init__"=some (some (.ref za10)))(q115:PySem.W.isFn K (.ref za10)=true)(q116:Lc K "__init__" "Table.__init__" PY za10)(q117:FQ K "all_places" PR zz16)(q118:FQ K "kind_of" PM za17)(q119:FQ K "is_of" PH zb17)(q120:FQ K "spot" PB zc17)(q121:FQ K "places_by_spots" Ow zd17)(q122:FQ K "stand_within" Os ze17)(q123:FQ K "add_to_group" On zf17)(q124:FQ K "stretches" Oi zg17)(q125:FQ K "pieces_between" Oe zh17)(q126:FQ K "done_to" OY zi17)(q127:FQ K "groups_of" OT zj17)(q128:FQ K "answers_to_try" OO zk17)(q129:FQ K "rest_behind" Qe zl17)(q130:FQ K "new_node" Qa zm17)(q131:FQ K "node_number" QW zn17)(q132:FQ K "table_of" QR zo17)(q133:FQ K "many" QM zp17)(q134:FQ K "price_found" QH zq17)(q135:FQ K "cheapest_of" QD zr17)(q136:FQ K "place_price" Py zs17)(q137:FQ K "piece_price" Pu zt17)(q138:FQ K "cheapest_piece" Pp zu17)(q139:FQ K "find_behind" Pk zv17)(q140:FQ K "cheapest_in" Pf zw17)(q141:FQ K "node_finds" Pb zx17)(q142:FQ K "cheapest" PX zy17)(q143:FQ K "is_tuple_of" PQ zz17)(q144:FQ K "is_word_among" PL za18)(q145:FQ K "is_nth" PF zb18)(q146:FQ K "is_place" Oz zc18)(q147:FQ K "is_stretch" Ov zd18)(q148:FQ K "may_be_used" Oq ze18)(q149:FQ K "is_row_of_its_pieces" Om zf18)(q150:FQ K "row_number" Oh zg18)(q151:FQ K "arm_answers" Od zh18)(q152:FQ K "row_from" OX zi18)(q153:FQ K "row_at" OS zj18)
  (q154:FQ K "law" Ie zk18) :
  ∃fd:FuncData,(∀(s:Shared) (v:Value),BindsTo s fd ⟨[v],[]⟩ [(ANS,v)])/\∀base:Heap,K.In base->base.Ns mainGlobals mg->Cc l.prog w K mg base CX0 14 fa fd [ANS] (Fg K Ig):=by
 have zk7:Dv K mg "DEEDS" KI:=Hg (Ey X G q6) (GZ q5 (by show 3<=sizeLine;decide) (.cons (Dh (by decide)) (.cons (Dh (by decide)) (.cons (Dh (by decide)) .nil))));have zl7:Dv K mg "EDGES" zz:=Hg (Ey X G q11) (GZ q10 (by show 2<=sizeLine;decide) (.cons (Dh (by decide)) (.cons (Dh (by decide)) .nil)));have zd10:Dv K mg "END" Lj:=Hg (Ey X G q13) Gx;have zm7:Dv K mg "KINDS" zx:=Hg (Ey X G q21) (GZ q20 (by show 5<=sizeLine;decide) (.cons (Dh (by decide)) (.cons (Dh (by decide)) (.cons (Dh (by decide)) (.cons (Dh (by decide)) (.cons (Dh (by decide)) .nil))))));have ze10:Dv K mg "NOWHERE" KG:=Hg (Ey X G q23) Gx;have zn7:Dv K mg "NTHS" zy:=Hg (Ey X G q30) (GZ q29 (by show 4<=sizeLine;decide) (.cons Gx (.cons Gx (.cons Gx (.cons Gx .nil)))));have zo7:Dv K mg "ROW_LENGTHS" Iu:=Hg (Ey X G q36) (GZ q35 (by show 3<=sizeLine;decide) (.cons Gx (.cons Gx (.cons Gx .nil))));have zf10:Dv K mg "SIGNS_BY_KIND" Lm:=Hg (Ey X G q55) (GZ q54 (by show 4<=sizeLine;decide) (.cons (GZ q41 (by show 2<=sizeLine;decide) (.cons (Dh (by decide)) (.cons (Dh (by decide)) .nil))) (.cons (GZ q45 (by show 2<=sizeLine;decide) (.cons (Dh (by decide)) (.cons (Dh (by decide)) .nil))) (.cons (GZ q49 (by show 2<=sizeLine;decide) (.cons (Dh (by decide)) (.cons (Dh (by decide)) .nil))) (.cons (GZ q53 (by show 2<=sizeLine;decide) (.cons (Dh (by decide)) (.cons (Dh (by decide)) .nil))) .nil)))))
 have hb:BlOk mg So:=by
  intro x hx;simp only[So,Aa,Dw,or_false] at hx;rcases hx with rfl|rfl|rfl|rfl|rfl|rfl|rfl|rfl|rfl|rfl|rfl|rfl|rfl|rfl|rfl|rfl
  .exact Ea X G q56
  .exact Ea X G q57
  .exact Ea X G q58
  .exact Ea X G q59
  .exact Ea X G q60
  .exact Ea X G q61
  .exact Ea X G q62
  .exact Ea X G q63
  .exact Ea X G q64
  .exact Ea X G q65
  .exact Ea X G q66
  .exact Ea X G q67
  .exact Ea X G q68
  .exact Ea X G q69
  .exact Ea X G q70
  .exact Ea X G q71
 have ca_Node:FU K AND zc:=q72;have cl_Node:Cls K zc:=⟨q73,q74,q75,q76⟩;have ca_Table:FU K ANC za:=q79;have cl_Table:Cls K za:=⟨q80,q81,q82,q83⟩;have zt:Cj K AND ANH:=Hk ca_Node cl_Node q86;have zu:Cj K AND ANE:=Hk ca_Node cl_Node q87;have zm1:Cj K ANC ANF:=Hk ca_Table cl_Table q88;have zp7:Cj K ANC ANK:=Hk ca_Table cl_Table q89;have zq7:Cj K ANC ANL:=Hk ca_Table cl_Table q90;have zk:Cj K ANC ANG:=Hk ca_Table cl_Table q91;have zw:Cj K ANC ANM:=Hk ca_Table cl_Table q92;have zr7:Cj K ANC ANI:=Hk ca_Table cl_Table q93;have zg14:ZC K "NoNumber" zw2:=⟨q94,q95⟩;obtain⟨zw18,zc14⟩:=q113;have zl18:=zc14.binds (ps:=["self",ANE]) λ_ _ _ _ _ _ us hl=>by obtain⟨_,_,rfl⟩:=JK hl;rfl
 obtain⟨zx18,zd14⟩:=q116;have zm18:=zd14.binds (ps:=["self",ANI,ANF]) λ_ _ _ _ _ _ us hl=>by obtain⟨_,_,_,rfl⟩:=HZ hl;rfl
 obtain⟨zy18,zb10⟩:=q130.b;have zn18:=zb10.binds (ps:=[ANJ,"length","rest"]) λ_ _ _ _ _ _ us hl=>by obtain⟨_,_,_,rfl⟩:=HZ hl;rfl
 obtain⟨zz18,zj5⟩:=q131.b;have ze14:=zj5.binds (ps:=[ANJ,"length","rest"]) λ_ _ _ _ _ _ us hl=>by obtain⟨_,_,_,rfl⟩:=HZ hl;rfl
 obtain⟨za19,zf14⟩:=q154.b;obtain⟨_,_,zo18,zp18,zq18,zr18,zs18,zt18,_,rfl,_,_⟩:=id zf14.ex;have e0:=hfa.symm.trans (Ey X G q154.a);cases e0;refine⟨ALY "law" "law" (IS Ie) (FK Ie) (Ad Ie) .none zo18 zp18 zq18 zr18 zs18 zt18,λs v=>.of_eq rfl,λbase _ _=>?_⟩;have fq:=@AFz l.prog w K mg base h X G;have zs7:=fq Ir q96 TC (AAB (k:=0) hb);have zg10:=fq KC q97 UO (Zy (k:=1) hb zs7.mn);have zh10:=fq Iq q98 UL (Zp (k:=0));have zi10:=fq KA q99 UH (Zm (k:=1) hb zh10.mn);have zj10:=fq Jy q100 UF (Zk (k:=0));have zk10:=fq zg q101 UD (Zi (k:=1) hb zj10.mn);have zt7:=fq zh q102 UB (Zg (k:=2) zk10.mn);have zl10:=fq Jw q103 Tz (Ze (k:=3) hb zi10.mn zt7.mn);have zm10:=fq Ju q104 Tw (Zc (k:=4) hb zl10.mn);have zg5:=fq zb q105 Tu (Za (k:=0) hb);have zn10:=fq Jr q106 Ts (ZY (k:=3) zt7.mn);have zo10:=fq Jp q107 Tq (ZW (k:=4) hb zn10.mn);have zp10:=fq Jo q108 To (ZU (k:=1) hb zs7.mn zg5.mn);have zq10:=fq Jn q109 Tl (ZS (k:=5) hb zg10.mn zm10.mn zg5.mn zo10.mn zp10.mn);have zr10:=fq Ip q110 Tj (ZQ (k:=0) hb);have zu7:Fw l.prog w K mg base 2 AND zm:=Xe zc14 Th (λcdv A outer s H E hr=>ZO zt zu cdv _ A outer s H E hr) zl18 (Ey X G q72) ca_Node ⟨q77,q111,q112,q78⟩;have zs10:Fw l.prog w K mg base 4 ANC Jm:=Xe zd14 Tf (λcdv A outer s H E hr=>ZM zm1 zp7 zq7 zk zw zr7 (zr10.mono (by decide:1<=2)) (zu7.mono (by decide:2<=2)) cdv _ A outer s H E hr) zm18 (Ey X G q79) ca_Table ⟨q84,q114,q115,q85⟩;have zt10:=fq Ka q117 Td (ZK (k:=0) zl7 zm7 zn7);have zu10:=fq KZ q118 Tb (ZI (k:=0) zf10);have zv10:=fq KY q119 TZ (AAP (k:=1) zu10.mn);have zw10:=fq zo q120 TW (AAN (k:=2) hb zv10.mn);have zx10:=fq KW q121 TU (AAL (k:=3) hb zt10.mn zw10.mn);have zy10:=fq KU q122 TQ (AAJ (k:=0) hb);have zz10:=fq Io q123 TM (AAH (k:=1) zy10.mn);have za11:=fq KS q124 TK (AAF (k:=0) hb);have zb11:=fq KR q125 TH (AAD (k:=0));have zc11:=fq KQ q126 TB (AAA (k:=0));have zd11:=fq KP q127 UN (Zx (k:=4) hb zk7 zx10.mn zz10.mn za11.mn zb11.mn zc11.mn);have ze11:=fq KO q128 UK (Zo (k:=0) hb zm1);have zf11:=fq KN q129 UG (Zl (k:=0) hb)
 have zu18:∀n,Ao l.prog w K mg base (2+2*n) "node_number" (zi n):=λn=>by
  induction n with
  |zero=>exact fnd_none ze14 (Ey X G q131.a) zj5.kp
  |succ n ih =>
   have FI:Ao l.prog w K mg base (2+2*n+1) "new_node" (MX (zi n)):=SG zb10 UE (λcdv A outer s H E hr=>Zj hb ze10 zt zu zm1 zk (zu7.mono (by omega:2<=2+2*n)) (ze11.mono (by omega:1<=2+2*n)) (zf11.mono (by omega:1<=2+2*n)) ih cdv _ A outer s H E hr) zn18 (Ey X G q130.a) zb10.kp;exact SG zj5 UC (λcdv A outer s H E hr=>Zh zd10 zq7 FI cdv _ A outer s H E hr) ze14 (Ey X G q131.a) zj5.kp
 have zv7:Ao l.prog w K mg base 12 "node_number" ze:=zu18 5;have zg11:=fq Im q132 UA (Zf (k:=12) hb zo7 zw zs10.mn zd11.mn zv7.mn);have zh11:=fq Il q133 Tx (Zd (k:=0) hb zu zk zw);have zi11:=fq zp q134 Tv (Zb (k:=0));have zh5:=fq zq q135 Tt (ZZ (k:=1) hb zi11.mn);have zj11:=fq Ik q136 Tr (ZX (k:=0) hb);have zk11:=fq KM q137 Tp (ZV (k:=1) hb zj11.mn);have zl11:=fq KL q138 Tn (ZT (k:=3) zh5.mn zk11.mn);have zm11:=fq KJ q139 Tk (ZR (k:=0));have zn11:=fq KH q140 Ti (ZP (k:=3) zt zh5.mn zm11.mn);have zo11:=fq KF q141 Tg (ZN (k:=4) zm1 zk zl11.mn zn11.mn);have zp11:=fq zj q142 Te (ZL (k:=5) zw zh5.mn zo11.mn);have zw7:=fq Ij q143 Tc (ZJ (k:=0) hb);have zi5:=fq zf q144 Ta (ZH (k:=0) hb);have zq11:=fq KB q145 TY (AAO (k:=0) hb zn7);have zr11:=fq zr q146 TV (AAM (k:=1) hb zl7 zm7 zi5.mn zq11.mn);have zs11:=fq Jz q147 TR (AAK (k:=2) zk7 zw7.mn zi5.mn zr11.mn);have zt11:=fq Jx q148 TN (AAI (k:=3) zr7 zw7.mn zi5.mn zs11.mn);have zu11:=fq Jv q149 TL (AAG (k:=4) hb zo7 zt11.mn);have zv11:=fq Ii q150 TJ (AAE (k:=5) hb zt zu zp7 zk zw zu11.mn);have zw11:=fq Js q151 TD (AAC (k:=0) zt);have zx11:=fq Jq q152 Sz (Zz (k:=1) hb zt zu zm1 zk zw11.mn);have zy11:=fq Ih q153 UM (Zw (k:=2) zu zk zw zx11.mn);exact SH zf14 UJ Ig _ (λ_ _ _ h=>RA h) (λcdv A outer s H E hr=>Zn hb (zg5.mono (by decide:1<=13)) (zq10.mono (by decide:6<=13)) (zg11.mono (by decide:13<=13)) (zh11.mono (by decide:1<=13)) (zp11.mono (by decide:6<=13)) (zv11.mono (by decide:6<=13)) (zy11.mono (by decide:3<=13)) cdv _ A outer s H E hr) (λ_ _ _ _ h=>Qz h)
end L3
open PySem PySem.W PyProof.Rows
namespace PySem.Challenge.cw_byexample_k35_order_of_examples_holds
#check "9481466444797524228 9685541349186895926 13220591156994021227 13429149224879727222 6985387553018481743 10410171631841353246 14454877563620031904 11080485295466936470 10605071753192984771 9081568908508458897 15249889268517065918 1876425638313843459 10164779474450793627 17886719007898454680 9356498882044919947 16615700576099040066 10480596716284151209 11017127604931020558 7585527033434780318 13657139197516751427 11709563922935727363 17973438578615400075 2769300403911781429 511231115935161624 11960152604767581325 8572175009741626841 13200297601746524066 5299044121943500215 9519601127530193350 8803176577595422696 16466336226944109148 12741486080770248555 8661186464002357676 12943410080000972490 16486780903585642434 8698710103755861131 2863743134975733475 17719558164590971842 9122927465669629056 14583306807720376128 14497281242007994997 17903303261899763903 6050011214999822750 2971546635561687465 5938700814635034530 11192457933525985551 16078784811893225677 8637484661242346257 17952201378533094671 8831008875805221528 17836189555452629549 5229439061136647345 15766876478873807546 13013193631609591250 2049801587426667610 972693984041064026 2949795981375792507 6113285902362816661 10512646689748515265 14104524837198206588 6174305534655807165 4301000197531459800 12923578892443073900 16315709128104489458 9722687527673889127 3897834605301054472 5411077714243230247 3995980493928660099 16159267955783953685 4391650359385164453 13104087872432262402 7206399096540518615 7276393678826515423 4847807870135636756 10983076773738549235 6115577503355758152 14252659959835373228 6738236860557413480 13589510900600390329 1060524180885680444 652626594813393921 18207809718106438801 2404798231412606172 13464480173054843720 17436293660068291900 2732230264363347279 13062223587902776753 1283056245407514714 15062812174046405842 2807286052547954183 2711007640668391149 6676760024035856620 6008985821829880342 17905466404064020887 3691516201211035309 10833475057671158712 8268300216219837536 15328450565153856295 2975268813340522459 4326792848270832271 8807650106022252762 14926477320088416938 11903423508005104794 5168618781124252078 15746043701748314404 10830930933812696362 13775213398283119084 17994782082257118150 2481702817980909811 5999118519750849638 566923176179636552 5396777411538218963 4442982071882016864 7836314039726754822 17381778799547224146 7290077234532687817 4219822300853269792 16859203578943122444 12921345609025478766 4308987709748457818 4904228289113089214 18144650282644645490 1109753297406393056 4050174515688628412 14436678646026724381 408962214945165639 11166673470631356175 7282402881318538934 12048027817953912484 806453622093951656 628293453806221637 16182159061725524830 16124901931133191885 12474722540547836514 16988546741200156301 8039897039354182632 2648602663938504269 6781139831291670632 15985852824177753162 9407823419796374730 1193550939224892386 17984310633183433967 18302416321967902741 9762422752590694653 5931406474118787292 2003176855914837468 10648620083516469749 12582791290365340581 8842396070341208801 3082916749270591847 16969133521857437684 8346588745472449248 977490698652237545 16331406624045486202 141963586870579348 17260647305631886061 12697410603294120008 5587945937970251860 4088148333019914558 5358774388372543516 16033582513605359628 13961341956769554923 12352236332456950484 11136567048238288112 5839212011631812644 14804732427592915384 10462341821291232581 10033124900425246373 3776706093788893920 3846928036786450789 7771042471675396175 18303557372520880278 15262292091869994765 1330832089124403093 9649654455619797011 7940916795565816879 14984468285376529183 196576946006000409 9069194818320618786 12942687236699007854 9877358755040618676 4207698253719710980 17304587050778259546 14310018037339636322 11309298422837925874 4029687190355349443 6141083976960750347 842762209072677043 14216173605592445470 17185532344240892271 16261563806398564472 15983066242231385035 15016180644644859216 7382595521112282542 15628019124379845009 15076753718451616785 10178133861564772050 1310772416429612947 1256977769934831582 14726070497363352936 14440416070627766609 17083457382139934655 6315306578220172458 17676596235867682101 12258213550123434789 17039561934385645516 3153812534814118265 13469784179230207705 2953777435748076372 2146841260494338678 12978508927764278082 14754675091362300445 17342454871245604420 16620536351722000937 2871172565880997249 6401060705149804370 16811074677534782244 17296933334992907796 7746998002906480945 6464250746187041112 774594049451942557 17359250512430885092 12671910088706922603 3232526822589070043 4178950708066658522 4608734474582744456 3014409956428340753 980617480921883451 10948937421320026773 17355376780546669980 17067876534860198440 10529766762952909050 18202572670171414422 11702756179036660246 17424092797945075225 6611247093274651493 13337660254570840790 14081125668714254367 18026339611416017362 17575110340364957501 5151973209250998517 7588652587489795853 8213674081344553235 12980435697409090974 13630797145765404004 8810726827782787843 1944232145720666234 11861477802213384527 14481993332984950943 12074246261421757269 8998469956409433166 9569174570192950417 16097600243622114431 14863178890120137313 6145762136042029687 2256652069381563400 13824820063416000084 6850469686292558118 253322318867387139 3741125891800851155 14020156227004168262 2897057850257838867 10652901866904865796 18395108467953072644 15162037729353638237 3619605158733977576 12373198245342953351 17374774325068414826 18058718390235431832 16745704493354185445 12032246383921579664 6088169275134945656 11342220710277266083 15680592282078395641 10971187179242252623 6040127764616837694 4712639754933764620 5455318728306376445 17316330643066644440 13317767693654493196 591936252141152588 8547391415479152396 16767236238423607767 14573586094950614685 816255647912059300 5198208674758617338 323875415253789166 12929187348982415296 5394393894038624746 3251136056289021683 16364479452314795952 11757267065817151375 17209994873362063680 18240094069686314718 14941394011906616525 17931438122861542281 12107445405837476401 428234301574698512 9292893209935656446 15975335684967714573 18216001123894380796 3906725862316948839 16695868769065413190 8222904821306930419 7744858155748212348 16965912196353073435 13187594384792112410 628374978626917729 14681170755627422959 9143928314407611797 5721196146031439426 6513969258708795688 2459208606811254861 17118991393798424193 7838992351662791708 2861132049544606022 8784412774669793062 14528820827308667616 12389378085483508871 4469007572982559226 7287814699094530529 16638470902257882756 15924858794497195655 5588445957032819993 12661046773289281059 3586911438227015795 12197413700034234179 466996111839988220 12744828411240039663 7773552680977481278 1023100970649970193 15214359279822824729 2118442228623976681 10646412119837695367 12620498040017358756 10086464819624809175 7570768595602598432 13227569921781263173 7666208655153180285 16589263132387123086 14464884871206909250 12283659044621126855 9104754383548427348 4938610653845456074 3680259646387156510 9082518669427670009 13964131149592301638 10718496449807883861 601084667360563761 8140722054045251146 9212762416924870473 11899456132347370064 9797948877446298170 17755241056338909822 9713401586484190833 9823735211524298635 11316952572510738965 14491495814677276226 13895351016581671828 10314539097608479452 6280334905013595092 12541506776175726318 10564924615402534869 2216759932152995518 6128393248271982074 6466183529305989614 1487175435589810436 9963236722660002193 15378008004078032066 8121189666435787936 15818953418153928611 10457638725139562801 90606610631977738 15156647165009295431 4670478622010531606 16773508311650105378 3297274293454575151 8406382494681138387 887819364258206510 14853536447785833967 5141675537965309299 14013063964253017900 6551943209852739187 14718664126518667193 4778322508905292992 2484856024976668839 3308467519387023282 5452690253935038815 18148188142806871330"
end PySem.Challenge.cw_byexample_k35_order_of_examples_holds
set_option Elab.async true in
set_option maxRecDepth 100000 in
set_option maxHeartbeats 0 in
theorem PySem.Challenge.cw_byexample_k35_order_of_examples_holds : PySem.Challenge.rw_byexample_k35_order_of_examples.Holds := by
 w_on;o_law;k_head;(case hw=>w_witness2)
 k_fill
 refine L3.walk_f (l:=PySem.Challenge.rw_byexample_k35_order_of_examples) (n:=63) (k:=14) (x:="_law_script") (G:=L3.Ig) rfl (by decide) rfl ⟨rfl,by decide,by decide⟩ (λw h Y_=>PySem.W.kIn_of Y_) ?F L3.law_true
 case F =>
  intro w mg fa h KX G hmg
  refine' L3.AHG KX G hmg ?_ ?_ ?_ ?_ ?_ ?_ ?_ ?_ ?_ ?_ ?_ ?_ ?_ ?_ ?_ ?_ ?_ ?_ ?_ ?_ ?_ ?_ ?_ ?_ ?_ ?_ ?_ ?_ ?_ ?_ ?_ ?_ ?_ ?_ ?_ ?_ ?_ ?_ ?_ ?_ ?_ ?_ ?_ ?_ ?_ ?_ ?_ ?_ ?_ ?_ ?_ ?_ ?_ ?_ ?_ ?_ ?_ ?_ ?_ ?_ ?_ ?_ ?_ ?_ ?_ ?_ ?_ ?_ ?_ ?_ ?_ ?_ ?_ ?_ ?_ ?_ ?_ ?_ ?_ ?_ ?_ ?_ ?_ ?_ ?_ ?_ ?_ ?_ ?_ ?_ ?_ ?_ ?_ ?_ ?_ ?_ ?_ ?_ ?_ ?_ ?_ ?_ ?_ ?_ ?_ ?_ ?_ ?_ ?_ ?_ ?_ ?_ ?_ ?_ ?_ ?_ ?_
  all_goals first|k_is|(unfold L3.Sn;k_is)|(refine' ⟨?a,L3.Xd ?l ?c ?k⟩;(case a=>unfold L3.Sn;k_is);(case l=>k_is);(case c=>k_is);(case k=>k_is))|(refine' L3.Xd ?l ?c ?k;(case l=>k_is);(case c=>k_is);(case k=>k_is))|k_exc|kernel_rfl|rfl|decide|skip
