import PyProof.Rows.All
import KE.IntBitsLaws
import KE.KDictList
import KE.KIsAll
import KE.KMinKey
import KE.KRevIter
import KE.KSortTup
import PyProof.Rows.SetFrom
import PyProof.Rows.SetListFold
import PySem.Challenge.RW_byexample_k32_whole_fitting_row_is_in
set_option compiler.extract_closed false
set_option bootstrap.genMatcherCode false
local macro_rules | `(command| #check $s:str) => do return Lean.mkNullNode (← (Array.range (s.getString.length / 10)).mapM fun n => do return (← `(command| abbrev $(Lean.mkIdent (.mkSimple ("tw" ++ toString (((s.getString.toList.drop (10*n)).take 10).foldl (fun a c => a*86 + "0123456789ABCDEFGHIJKLMNOPQRSTUVWXYZabcdefghijklmnopqrstuvwxyz!$%&*+.:;<=>?^_|~,()[]{}".toList.idxOf c) 0)))):ident := ())).raw)
local macro_rules | `(command| def $i:declId $b:bracketedBinder* : $t:term $v:declVal) => do return (← `(command| theorem $i:declId $b:bracketedBinder* : $t:term $v:declVal)).raw.rewriteBottomUp fun s => s.setInfo .none
local macro_rules | `(command| abbrev $i:declId $s:optDeclSig $v:declVal) => do return (← `(command| noncomputable def $i:declId $s:optDeclSig $v:declVal)).raw.rewriteBottomUp fun s => s.setInfo .none
local macro_rules | `(tactic| omega) => do let f := fun (s : String) (t : Lean.TSyntax `tactic) (g : Lean.Ident → Lean.MacroM (Lean.TSyntax `term)) => (s.splitOn " ").foldr (fun n t => do let t ← t; let a ← g (Lean.mkCIdent (.str `Nat n)); `(tactic| first | exact $a | $t:tactic)) (pure t); let t ← `(tactic| fail); let t ← f "le_trans lt_of_le_of_lt" t fun c => `($c (m := OfNat.ofNat _) (by assumption) (by decide)); let t ← f "le_of_lt ne_of_lt ne_of_gt le_of_eq lt_succ_of_le succ_le_of_lt" t fun c => `($c (by assumption)); let t ← f "le_refl le_add_right le_add_left zero_le succ_pos" t fun c => `($c ..); `(tactic| first | with_reducible (first | assumption | $t:tactic) | omega +splitMinMax)
set_option Elab.async false
set_option linter.all false
set_option maxRecDepth 100000
open PySem.W renaming Frag → AL, nsIn → CC, findIn → Da, mg_none_of → Eh, mg_of → FL, keepIn → GA, kia_one → Fz, emptyDict → ALi, fnOf → ALj, instObj → ALo, plainGet → AMI, hasDictIn → AMJ, plainOver → AMc, makesIn → AMd, codeIn → AMg
open Option renaming bind_some → AT, map_eq_some_iff → Gj, bind_eq_some_iff → ALl, map_some → AMC, getD_some → AMn
open List renaming prefix_refl → AW, mem_cons → AX, length_map → Aa, prefix_append → Ai, map_cons → Aj, mem_map → Aq, getElem?_map → Ar, getElem?_eq_some_iff → Ax, mem_cons_self → Az, mem_cons_of_mem → BA, size_toArray → Be, mem_append → Bi, mem_of_getElem? → Bk, all_eq_true → Bu, length_append → By, mem_map_of_mem → CG, map_map → CH, mem_range → CM, map_append → DM, length_cons → Dd, not_mem_nil → Db, mem_flatMap → Dc, mem_singleton → Dt, flatMap_cons → Du, getElem?_set_ne → EI, length_take → EW, mem_append_right → Ej, take_length → Ei, getElem?_append_left → Ey, sum_cons → Ex, find?_cons → FM, lookup → Fb, map_congr_left → GB, nodup_cons → Go, nodup_append → Gp, nodup_nil → Gm, take_add_one → Gk, foldl_cons → ALa, mem_of_mem_take → ALb, append_assoc → ALc, replicate → ALf, mem_append_left → ALh, any_cons → ALk, getElem?_eq_none → ALn, getElem?_append_right → ALp, all_cons → ALq, drop_zero → ALr, flatMap_append → ALv, getElem?_set_self → ALx, append_nil → ALy, length_drop → AL0, length_set → AL1, filter_cons → AL2, getElem?_range → AL3, length_eq_zero_iff → AL4, mem_of_find?_eq_some → AL6, forIn_cons → AL7, filterMap_cons → AL9, map_nil → AMB, take_of_length_le → AMD, filterMap → AME, range_succ → AMF, countP_cons → AMG, ext_getElem? → AMH, of_mem_zip → AMK, getElem_of_mem → AML, drop_eq_getElem_cons → AMM, drop_length → AMN, find?_eq_none → AMO, mem_of_mem_drop → AMS, map_id → AMT, find?_some → AMU, getElem?_of_mem → AMV, flatMap_map → AMW, pairwise_flatMap → AMX, mem_filter → AMZ, mem_filterMap → AMb, getElem?_replicate → AMf, reverse_cons → AMh, lookup_cons → AMi, getElem_mem → AMj, take_append_drop → AMk, length_range → AMm, pairwise_map → AMo, length_replicate → AMp, getElem?_eq_none_iff → AMv, mk_mem_zipIdx_iff_getElem? → AMw
open Nat renaming le_refl → Af, zero_add → BR, ne_of_lt → BV, le_trans → CV, lt_of_lt_of_le → DE, zero_le → EH, ne_of_gt → Fa, lt_irrefl → ALd, le_of_eq → ALe, add_mul → ALg, mul_le_mul_right → ALm, le_add_right → ALs, mul_le_mul → ALu, add_assoc → ALw, le_succ → ALz, le_of_lt → AL8, lt_succ_of_lt → AMP, lt_succ_self → AMe
open Bool renaming and_eq_true → Bz, false_ne_true → Cf, noConfusion → GC, false_eq_true → AL5, eq_iff_iff → AMA, eq_false_iff → AMY
open Int renaming emod_nonneg → DN, emod_lt_of_pos → EX, toNat_natCast → Gq, mul_le_mul → AMQ, mul_nonneg → AMR
open PySem.F renaming called_set → ALt, slot_zip_next → AMl, slot_tuple_add → AMq, entry_tuple_add → AMr, args_tuple_add_2 → AMs, slot_dict_itemiterator_iter → AMx, slot_tuple_iterator_next → AMy
open Array renaming length_toList → AMa, getElem?_eq_some_iff → AMt, getElem?_eq_none → AMu
open PySem renaming wpAny_bind → AH, wpAny_pure → AN, wpAny_rule → AMz, wpAny_call_entry → Fy, wpAny_seqItems → AM0, wpAny_mono → Ef, wpAny_truthy_bool → AM1, wpAny_holding → DZ, wpAny_passesOwn → AM2, wpAny_pyIter_list → AM3, wpAny_Call_Name_kw → AM4, wpAny_field → Eg, wpAny_callSpecial?_slot → AM5, wpAny_newObj_type → AM6, wpAny_getItem_str_slice → AM7, wpAny_notOrdered_dict → AM8, wpAny_dictEntries → AM9, wpAny_typeNameOfWhole_keyiter → ANA, wpAny_typeNameOfWhole_itemiter → ANB, wpAny_setField_rec → ANC
noncomputable abbrev AND:=PySem.Str->Option PySem.Value
noncomputable abbrev ANE:=List PySem.Str
noncomputable abbrev ANF:=List PySem.Value
noncomputable abbrev ANG:=List PySem.Addr
noncomputable abbrev ANH:=List PySem.Expr
noncomputable abbrev ANI:=List PySem.Stmt
noncomputable abbrev ANJ:=List Nat
noncomputable abbrev ANK:=List Int
noncomputable abbrev ANL:=PySem.Value->PySem.Shared->Prop
noncomputable section
namespace L2
open PySem PySem.Spec PyProof.Rows
noncomputable abbrev Key:=Sum Int Str
abbrev IP:Key->Value->Bool
 |.inl k,v=>Value.isInt k v
 |.inr x,v=>Value.isStrOf x v
abbrev JJ(w:World):Key->Int
 |.inl k=>hashInt k
 |.inr x=>hashStr w x
def Em:∀{k:Key} {v:Value},IP k v=true->(∃i t,k=Sum.inl i/\v=Value.int i t)\/(∃x t,k=Sum.inr x/\v=Value.str x t)
 |.inl i,v,h=>by
  obtain⟨t,e⟩:=Value.isInt_shape (k:=i) (v:=v) h;exact .inl ⟨i,t,rfl,e⟩
 |.inr x,v,h=>by
  obtain⟨t,e⟩:=Value.isStrOf_shape (x:=x) (v:=v) h;exact .inr ⟨x,t,rfl,e⟩
def AFE(i:Int)(t:Tok):IP (.inl i) (.int i t)=true:=by simp[IP,Value.isInt]
def AFD(x:Str)(t:Tok):IP (.inr x) (.str x t)=true:=by simp[IP,Value.isStrOf]
def AFC(a b:Int):decide ((Sum.inl a:Key)=Sum.inl b)=(a == b):=by
 by_cases e:a=b
 .subst e;simp
 .have h:¬(Sum.inl a:Key)=Sum.inl b:=λq=>e (Sum.inl.inj q);rw[decide_eq_false h];exact(beq_eq_false_iff_ne.mpr e).symm
def AE9(a b:Str):decide ((Sum.inr a:Key)=Sum.inr b)=decide (a=b):=by
 by_cases e:a=b
 .subst e;simp
 .have h:¬(Sum.inr a:Key)=Sum.inr b:=λq=>e (Sum.inr.inj q);rw[decide_eq_false h,decide_eq_false e]
def AFB(a:Int)(b:Str):decide ((Sum.inl a:Key)=Sum.inr b)=false:=decide_eq_false (λq=>nomatch q)
def AFA(a:Str)(b:Int):decide ((Sum.inr a:Key)=Sum.inl b)=false:=decide_eq_false (λq=>nomatch q)
abbrev NR(prog:Program)(w:World):PySem.KeyKind prog w Key where
 is:=IP
 hash:=JJ w
 inj:=λv a b ha hb=>by
  rcases Em ha with⟨i,t,rfl,rfl⟩|⟨x,t,rfl,rfl⟩
  .rcases Em hb with⟨j,u,rfl,e⟩|⟨y,u,rfl,e⟩
   .injection e with e1 _;rw[e1]
   .exact nomatch e
  .rcases Em hb with⟨j,u,rfl,e⟩|⟨y,u,rfl,e⟩
   .exact nomatch e
   .injection e with e1 _;rw[e1]
 byValue:=λk v h=>by
  rcases Em h with⟨i,t,rfl,rfl⟩|⟨x,t,rfl,rfl⟩ <;> rfl
 pyHash:=λhv h=>by
  rcases Em hv with⟨i,t,rfl,rfl⟩|⟨x,t,rfl,rfl⟩
  .exact wpAny_pyHash_int h
  .exact wpAny_pyHash_str h
 eqBool:=λhu hv h=>by
  rcases Em hu with⟨i,t,rfl,rfl⟩|⟨x,t,rfl,rfl⟩
  .rcases Em hv with⟨j,u,rfl,rfl⟩|⟨y,u,rfl,rfl⟩
   .rw[AFC] at h;exact wpAny_eqBool_int h
   .rw[AFB] at h;exact SeqAt.EqAt.int_str i t y u _ _ _ _ h
  .rcases Em hv with⟨j,u,rfl,rfl⟩|⟨y,u,rfl,rfl⟩
   .rw[AFA] at h;exact SeqAt.EqAt.str_int x t j u _ _ _ _ h
   .rw[AE9] at h;exact wpAny_eqBool_str h
 «strs»:=λk x t v h=>by
  rcases Em h with⟨i,u,rfl,e⟩|⟨y,u,rfl,e⟩
  .exact nomatch e
  .injection e with e1 _
   subst e1;cases v <;> rfl
inductive V where
 |non|bl (b:Bool)|int (i:Int)|str (x:Str)|byt (b:Array UInt8)|flt (b:UInt64)|ref (a:Addr)|ty (n:String)
 deriving DecidableEq
abbrev Ac:V->Value->Prop
 |.non,u=>u=Value.none
 |.bl b,u=>u=Value.bool b
 |.int i,u=>∃t,u=Value.int i t
 |.str x,u=>∃t,u=Value.str x t
 |.byt b,u=>∃t,u=Value.bytes b t
 |.flt b,u=>∃t,u=Value.float b t
 |.ref a,u=>u=Value.ref a
 |.ty n,u=>u=Value.type n
noncomputable abbrev Ab:List V->ANF->Prop:=Paired Ac
def Ab.length{xs:List V}{us:ANF}(r:Ab xs us):xs.length=us.length:=Paired.length r
def Ab.get:∀{xs:List V} {us:ANF} {i:Nat} {x:V},Ab xs us->xs[i]?=some x->∃u,us[i]?=some u/\Ac x u
 |_,_,_,_,.nil,e=>by simp at e
 |_,_,0,_,.cons r _,e=>by simp at e;subst e;exact⟨_,rfl,r⟩
 |_,_,i+1,x,.cons _ t,e=>by
  obtain⟨u,h1,h2⟩:=Ab.get (i:=i) (x:=x) t (by simpa using e);exact⟨u,by simpa using h1,h2⟩
def Ab.set{x:V}{u:Value}(r:Ac x u):∀{xs:List V} {us:ANF} (i:Nat),Ab xs us->Ab (xs.set i x) (us.set i u)
 |_,_,_,.nil=>.nil
 |_,_,0,.cons _ t=>.cons r t
 |_,_,i+1,.cons q t=>.cons q (Ab.set r i t)
def Ab.append:∀{xs ys:List V} {us ws:ANF},Ab xs us->Ab ys ws->Ab (xs++ys) (us++ws)
 |_,_,_,_,.nil,s=>s
 |_,_,_,_,.cons r t,s=>.cons r (Ab.append t s)
def Ab.take:∀{xs:List V} {us:ANF} (n:Nat),Ab xs us->Ab (xs.take n) (us.take n)
 |_,_,0,_=>.nil
 |_,_,_+1,.nil=>.nil
 |_,_,n+1,.cons r t=>.cons r (Ab.take n t)
def Ab.drop:∀{xs:List V} {us:ANF} (n:Nat),Ab xs us->Ab (xs.drop n) (us.drop n)
 |_,_,0,r=>r
 |_,_,_+1,.nil=>.nil
 |_,_,n+1,.cons _ t=>Ab.drop n t
abbrev FX:Option V->Option Value->Prop
 |some v,some u=>Ac v u
 |none,none=>True
 |_,_=>False
abbrev KV{κ:Type}:List (κ×V)->List (κ×Value)->Prop:=Paired λ(p:κ×V) (q:κ×Value)=>p.1=q.1/\Ac p.2 q.2
abbrev kV:Key->V
 |.inl i=>.int i
 |.inr x=>.str x
abbrev Jm(M:Model)(A:Around)(h:Heap)(v:Value)(q:Int×Nat):Prop:=∀(E:ANL) (s:Shared) (Q:Int->Shared->Prop),s.heap=h->Q q.1 {s with toks:=s.toks+q.2}->wpAny M A (pyHash v) Q E s
section
variable {prog:Program}{w:World}{A:Around}{E:ANL}{s:Shared}
def Ug{a:Addr}{its:ANF}{qs:List (Int×Nat)}(hu:A.units<cLine)(t:s.heap.IsTuple a its.toArray)(each:Paired (Jm (model prog w) A.in1 s.heap) its qs) :
  Jm (model prog w) A s.heap (.ref a) (reduceHash (Builtin.Tuple.tupleHashOf (qs.map (·.1))),(qs.map (·.2)).sum+1):=λE s' Q e0 fin=>by
 have ty:s'.TypeIs (.ref a) "tuple":=by obtain⟨o,g,c,_⟩:=t;exact⟨o,by rw[e0];exact g,c⟩
 have own:∀{R:ANL} {F:ANL},R (.int (Builtin.Tuple.tupleHashOf (qs.map (·.1))) (s'.toks+(qs.map (·.2)).sum)) {s' with toks:=s'.toks+(qs.map (·.2)).sum+1}->wpAny (model prog w) A.in1 (Builtin.«tuple.__hash__» ⟨[.ref a],[]⟩) (λfi s2=>∃v,fi=PySem.Fin.done (Flow.ret v)/\R v s2) F s':=λ{R F} k=>by
  obtain⟨o,g,_,n,dat⟩:=t;show wpAny _ _ (Builtin.Tuple.tupleItemsOf (.ref a) >>= _) _ F s';refine AH (wpAny_tupleItemsOf (by rw[e0];exact g) dat (AH ?_))
  have walk:∀{l:ANF} {m:List (Int×Nat)} (p:Paired (Jm (model prog w) A.in1 s.heap) l m) (acc:Array Int) (u:Nat) {G:Array Int->Shared->Prop},
    G (acc++(m.map (·.1)).toArray) {s' with toks:=u+(m.map (·.2)).sum}->wpAny (model prog w) A.in1 (forIn l acc λx hs=>do let __do_lift <-pyHash x;pure (ForInStep.yield (hs.push __do_lift))) G F {s' with toks:=u}:=by
   intro l m p
   induction p with
   |nil=>intro acc u G hG;exact AN (by simpa using hG)
   |@cons x q l m hx _ ih =>
    intro acc u G hG;rw[AL7];refine AH (AH (hx F {s' with toks:=u} _ e0 (AN ?_)));refine ih (acc.push q.1) (u+q.2) ?_;simpa[ALw] using hG
  have go:=walk each #[] s'.toks (G:=λb s2=>wpAny (model prog w) A.in1 (retInt (Builtin.Tuple.tupleHashOf b.toList)) (λfi s2=>∃v,fi=PySem.Fin.done (Flow.ret v)/\R v s2) F s2) (by
   have e9:((#[]:Array Int)++(qs.map (·.1)).toArray).toList=qs.map (·.1):=by simp
   rw[e9];refine wpAny_ret_mkInt ?_
   exact k)
  simpa using go
 have turn:∀{i:Int} {u:Nat},Q (reduceHash i) {s' with toks:=u}->wpAny (model prog w) A (pyHashByItsType.reduced i) Q E {s' with toks:=u}:=λ{i u} hQ=>by
  unfold reduceHash at hQ
  show wpAny _ _ (if (decide (-(2:Int) ^ 63<=i)&&decide (i<2 ^ 63))=true then _ else _) Q E _
  split at hQ
  .rename_i c;rw[if_pos c];exact AN hQ
  .rename_i c;rw[if_neg c];exact AH (AMz (AN hQ))
 have look:=PySem.F.slot_tuple_hash;unfold pyHash pyHashByItsType;refine AH (wpAny_cRoomFor_or (.inr hu) (AH (wpAny_specialOf ty look.lookup ?_)));refine iteN (AH (wpAny_specialOf ty look.lookup (AH (wpAny_callSpecialIfBoundUnlessNone?_slot ty look (Fy look ty PySem.F.entry_tuple_hash (own (turn (by simpa[ALw] using fin))) (PySem.F.args_tuple_hash_1 _))))))
where
 iteN {U:Type} {M:Model} {A:Around} {x y:Sem U} {Q:U->Shared->Prop} {E:ANL} {s:Shared} {id:String} (h:wpAny M A y Q E s):wpAny M A (if (some (Value.builtin id) == some Value.none)=true then x else y) Q E s:=by rw[if_neg (by rw[beq_builtin_none];simp)];exact h
def AHM{U:Type}[DecidableEq U](x y:List U):((List.range (min x.length y.length)).all (λj=>decide (x[j]?=y[j]?))&&x.length == y.length)=decide (x=y):=by
 by_cases h:x=y
 .subst h;simp
 .rw[decide_eq_false h]
  by_cases hl:x.length=y.length
  .rw[Bool.and_eq_false_iff];left;rw[AMY];intro ha;refine h (AMH λj=>?_)
   by_cases hj:j<x.length
   .exact of_decide_eq_true (Bu.mp ha j (CM.mpr (by omega)))
   .rw[ALn (by omega),ALn (by omega)]
  .simp[hl]
def Paired.both{U β:Type}{R:U->β->Prop}:∀{l:List U} {m:List β} {j:Nat} (h:j<m.length),Paired R l m->∃a,l[j]?=some a/\R a m[j]
 |_,_,0,_,.cons r _=>⟨_,rfl,r⟩
 |_,_,j+1,h,.cons _ t=>by
  obtain⟨a,e,r⟩:=Paired.both (j:=j) (by simpa using h) t;exact⟨a,by simpa using e,by simpa using r⟩
def Paired.one{U β:Type}{R:U->β->Prop}(inj:∀a a' b,R a b->R a' b->a=a'):∀{l l':List U} {m:List β},Paired R l m->Paired R l' m->l=l'
 |_,_,_,.nil,p=>by cases p;rfl
 |_,_,_,.cons r t,p=>by
  cases p with
  |cons r' t'=>rw[inj _ _ _ r r',Paired.one inj t t']
def Ue{U:Type}[DecidableEq U]{R:U->Value->Prop}{a b:Addr}{x y:List U}{us vs:ANF}(hu:A.units<cLine)(inj:∀k k' u,R k u->R k' u->k=k')(each:∀k k' u v,R k u->R k' v->SeqAt.EqAt A.in1 s u v (decide (k=k')))
  (ta:s.heap.IsTuple a us.toArray) (tb:s.heap.IsTuple b vs.toArray) (px:Paired R x us) (py:Paired R y vs):SeqAt.EqAt A s (.ref a) (.ref b) (decide (x=y)):=by
 by_cases ab:a=b
 .subst ab;obtain⟨o,g,_,n,dd⟩:=ta;obtain⟨o',g',_,n',dd'⟩:=tb;rw[g] at g';cases g';rw[dd] at dd';cases dd';rw[Paired.one inj px py,decide_eq_true rfl];exact .same _
 .refine .of_refs ab ?_
  have rc:=SeqAt.RcAt.tuples (e:=λj=>decide (x[j]?=y[j]?)) ta tb hu λj h1 h2=>by
   obtain⟨k,ek,rk⟩:=Paired.both (j:=j) (by simpa using h1) px;obtain⟨k',ek',rk'⟩:=Paired.both (j:=j) (by simpa using h2) py;rw[ek,ek',show decide (some k=some k')=decide (k=k') from decide_eq_decide.mpr (by simp)];exact each k k' _ _ (by simpa using rk) (by simpa using rk')
  rw[Be,Be,<-Paired.length px,<-Paired.length py,AHM] at rc;exact rc
def Uf{M:Model}{n:Nat}{a:Addr}{its:ANF}{Q:Bool->Shared->Prop}(t:s.heap.IsTuple a its.toArray)(each:∀v∈its,∀(G:Bool->Shared->Prop),G true s->wpAny M A (eqIsQuiet n v) G E s)(h:Q true s):wpAny M A (eqIsQuiet (n+1) (.ref a)) Q E s:=by
 obtain⟨o,g,c,m,dd⟩:=t;have ty:s.TypeIs (.ref a) "tuple":=⟨o,g,c⟩
 have walk:∀l:ANF,(∀v∈l,v∈its)->wpAny M A (forIn l ((none:Option Bool),PUnit.unit) λy _=>do let __do_lift <-eqIsQuiet n y;if (!__do_lift)=true then pure (ForInStep.done (some false,PUnit.unit)) else pure (ForInStep.yield (none,PUnit.unit)))
   (λr s2=>r.1=none/\s2=s) E s:=by
  intro l
  induction l with
  |nil=>intro _;exact AN ⟨rfl,rfl⟩
  |cons v l ih =>
   intro hl;rw[AL7];refine AH (AH (each v (hl v (by simp)) _ (iteF (by decide) (AN (ih λz hz=>hl z (by simp[hz]))))))
 unfold eqIsQuiet;refine AH (wpAny_specialOf ty PySem.F.slot_tuple_eq.lookup ?_);show wpAny M A (isInstance (.ref a) (.type "tuple") >>= _) Q E s;refine AH (wpAny_isInstance ty isSubtype_tuple_tuple (iteF (by decide) (AH (AM0 g dd (AH ?_)))));have w0:=walk its λ_ z=>z;show wpAny M A (forIn its.toArray _ _) _ E s;rw[List.forIn_toArray];refine Ef w0 (λr s2 z2_=>?_) λ_ _ z=>z;obtain⟨e1,e2⟩:=z2_;rw[e2];simp only[e1];exact AN h
where
 iteF {U:Type} {M:Model} {A:Around} {x y:Sem U} {Q:U->Shared->Prop} {E:ANL} {s:Shared} {c:Prop} [Decidable c] (hc:¬c) (h:wpAny M A y Q E s):wpAny M A (if c then x else y) Q E s:=by rw[if_neg hc];exact h
end
noncomputable abbrev NK:=List (Key ⊕ List Key)
abbrev EE(k:Key)(v:Value):Prop:=IP k v=true
abbrev Gi(h:Heap):Key ⊕ List Key->Value->Prop
 |.inl k,v=>EE k v
 |.inr ks,v=>∃b its,v=.ref b/\h.IsTuple b its.toArray/\Paired EE ks its
abbrev AHX(h:Heap)(k:NK)(a:Addr):Prop:=∃its,h.IsTuple a its.toArray/\Paired (Gi h) k its
abbrev Ru(w:World):Key ⊕ List Key->Int×Nat
 |.inl k=>(JJ w k,1)
 |.inr ks=>(reduceHash (Builtin.Tuple.tupleHashOf ((ks.map λk=>(JJ w k,1)).map (·.1))),((ks.map λk=>(JJ w k,1)).map (·.2)).sum+1)
section
variable {prog:Program}{w:World}{A:Around}{E:ANL}{s:Shared}{h:Heap}
def EE.inj{k k':Key}{u:Value}(x:EE k u)(y:EE k' u):k=k':=by rcases Em x with⟨_,_,rfl,rfl⟩|⟨_,_,rfl,rfl⟩ <;> rcases Em y with⟨_,_,rfl,e⟩|⟨_,_,rfl,e⟩ <;> cases e <;> rfl
def IsTuple.same{a:Addr}{us vs:ANF}(x:h.IsTuple a us.toArray)(y:h.IsTuple a vs.toArray):us=vs:=by obtain⟨o,g,_,n,dd⟩:=x;obtain⟨o',g',_,n',dd'⟩:=y;rw[g] at g';cases g';rw[dd] at dd';cases dd';rfl
def EE.noRef{k:Key}{a:Addr}(x:EE k (.ref a)):False:=by rcases Em x with⟨_,_,_,e⟩|⟨_,_,_,e⟩ <;> cases e
def Gi.inj{k k':Key ⊕ List Key}{u:Value}(x:Gi h k u)(y:Gi h k' u):k=k':=by
 cases k with
 |inl k =>
  cases k' with
  |inl k'=>rw[EE.inj x y]
  |inr ks=>obtain⟨b,_,rfl,_⟩:=y;exact x.noRef.elim
 |inr ks =>
  obtain⟨b,its,rfl,t,p⟩:=x
  cases k' with
  |inl k'=>exact(EE.noRef y).elim
  |inr ks' =>
   obtain⟨b',its',e,t',p'⟩:=y;cases e;rw[IsTuple.same t t'] at p;rw[Paired.one (R:=EE) (λ_ _ _ a b=>a.inj b) p p']
def Wk{k k':Key}{u v:Value}(x:EE k u)(y:EE k' v):SeqAt.EqAt A s u v (decide (k=k')):=λprog w E Q hQ=>(NR prog w).eqBool x y hQ
def AFK{k k':Key ⊕ List Key}{u v:Value}(hu:A.units<cLine)(x:Gi s.heap k u)(y:Gi s.heap k' v):SeqAt.EqAt A s u v (decide (k=k')):=by
 cases k with
 |inl k =>
  cases k' with
  |inl k' =>
   rw[show decide ((Sum.inl k:Key ⊕ List Key)=Sum.inl k')=decide (k=k') from decide_eq_decide.mpr (by simp)];exact Wk x y
  |inr ks =>
   obtain⟨b,its,rfl,t,p⟩:=y;rw[decide_eq_false (by simp)];rcases Em x with⟨i,t',rfl,rfl⟩|⟨z,t',rfl,rfl⟩
   .exact .int_tuple i t' t hu
   .exact .str_tuple z t' t hu
 |inr ks =>
  obtain⟨a,its,rfl,t,p⟩:=x
  cases k' with
  |inl k' =>
   rw[decide_eq_false (by simp)];rcases Em y with⟨i,t',rfl,rfl⟩|⟨z,t',rfl,rfl⟩
   .exact .tuple_int i t' t hu
   .exact .tuple_str z t' t hu
  |inr ks' =>
   obtain⟨b,its',rfl,t',p'⟩:=y;rw[show decide ((Sum.inr ks:Key ⊕ List Key)=Sum.inr ks')=decide (ks=ks') from decide_eq_decide.mpr (by simp)];exact Ue (R:=EE) hu (λ_ _ _ a b=>a.inj b) (λ_ _ _ _ a b=>Wk a b) t t' p p'
def Wj{k:Key}{v:Value}(x:EE k v):Jm (model prog w) A h v (JJ w k,1):=λE s Q _ hQ=>(NR prog w).pyHash x hQ
def Wi:∀{ks:List Key} {vs:ANF},Paired EE ks vs->Paired (Jm (model prog w) A h) vs (ks.map λk=>(JJ w k,1))
 |_,_,.nil=>.nil
 |_,_,.cons x t=>.cons (Wj x) (Wi t)
def Rj(hu:A.units<cLine):∀{ks:NK} {vs:ANF},Paired (Gi s.heap) ks vs->Paired (Jm (model prog w) A s.heap) vs (ks.map (Ru w))
 |_,_,.nil=>.nil
 |.inl k::_,_,.cons x t=>.cons (Wj x) (Rj hu t)
 |.inr ks::_,_,.cons x t=>by
  obtain⟨b,its,rfl,tb,p⟩:=x;exact .cons (Ug hu tb (Wi p)) (Rj hu t)
def Wh{M:Model}{n:Nat}{ks:List Key}{vs:ANF}(p:Paired EE ks vs):∀v∈vs,∀(G:Bool->Shared->Prop),G true s->wpAny M A (eqIsQuiet n v) G E s:=by
 induction p with
 |nil=>intro v hv;cases hv
 |cons x _ ih =>
  intro v hv G hG;rcases AX.mp hv with e|hv
  .subst e;have:eqIsQuiet n v=pure true:=by rcases Em x with⟨_,_,_,rfl⟩|⟨_,_,_,rfl⟩ <;> (unfold eqIsQuiet;rfl)
   rw[this];exact AN hG
  .exact ih v hv G hG
def AFJ{M:Model}{n:Nat}{ks:NK}{vs:ANF}(p:Paired (Gi s.heap) ks vs):∀v∈vs,∀(G:Bool->Shared->Prop),G true s->wpAny M A (eqIsQuiet (n+1) v) G E s:=by
 induction p with
 |nil=>intro v hv;cases hv
 |@cons k u _ _ x _ ih =>
  intro v hv G hG;rcases AX.mp hv with e|hv
  .subst e
   cases k with
   |inl k=>exact Wh (ks:=[k]) (vs:=[v]) (.cons x .nil) v (by simp) G hG
   |inr ks =>
    obtain⟨b,its,rfl,tb,p⟩:=x;exact Uf tb (Wh p) hG
  .exact ih v hv G hG
def IsTuple.other{h':Heap}{a d:Addr}{its:Array Value}{o:Obj}{es:Array DictEntry}{ep:Nat}(x:h.IsTuple a its)(ho:h.get? d=some o)(hd:o.data=.dict es ep)(hs:Heap.SameBut d h h'):h'.IsTuple a its:=by
 obtain⟨o',g,c,n,dd⟩:=x;have ne:a≠d:=λe=>by subst e;rw[g] at ho;cases ho;rw[dd] at hd;cases hd
 exact⟨o',(hs.2 a ne).trans g,c,n,dd⟩
def Paired.to{U β:Type}{F G:U->β->Prop}:∀{l₁:List U} {l₂:List β},Paired F l₁ l₂->(∀a b,F a b->G a b)->Paired G l₁ l₂
 |_,_,.nil,_=>.nil
 |_,_,.cons r t,f=>.cons (f _ _ r) (Paired.to t f)
end
abbrev Gy(prog:Program)(w:World):HeapKind prog w NK where
 is:=AHX
 hash:=λk=>reduceHash (Builtin.Tuple.tupleHashOf ((k.map (Ru w)).map (·.1)))
 draws:=λk=>((k.map (Ru w)).map (·.2)).sum+1
 room:=λA=>A.units+1<cLine
 inj:=λz0_ z1_=>by
  obtain⟨_,t,p⟩:=z0_;obtain⟨_,t',p'⟩:=z1_;rw[IsTuple.same t t'] at p;exact Paired.one (R:=Gi _) (λ_ _ _ a b=>a.inj b) p p'
 keeps:=λ⟨its,t,p⟩ ho hd hs=>⟨its,IsTuple.other t ho hd hs,Paired.to p λk v x=>by
  cases k with
  |inl k=>exact x
  |inr ks=>obtain⟨b,l,e,tb,q⟩:=x;exact⟨b,l,e,IsTuple.other tb ho hd hs,q⟩⟩
 pyHash:=λhu z1_ hQ=>by obtain⟨_,t,p⟩:=z1_;exact Ug (Nat.lt_of_succ_lt hu) t (Rj hu p) _ _ _ rfl hQ
 eqBool:=λhu z1_ z2_ hQ=>by obtain⟨_,t,p⟩:=z1_;obtain⟨_,t',p'⟩:=z2_;exact Ue (R:=Gi _) (Nat.lt_of_succ_lt hu) (λ_ _ _ a b=>a.inj b) (λ_ _ _ _ a b=>AFK hu a b) t t' p p' _ _ _ _ hQ
 quiet:=λz0_ hQ=>by obtain⟨_,t,p⟩:=z0_;exact Uf t (AFJ p) hQ
inductive HO where
 /-- a list -/
 |lst (xs:List V)
 /-- a tuple (never changes) -/
 |tup (xs:List V)
 /-- a dict whose keys are ints and texts;one whose keys are tuples of ints and texts (the empty one is both) -/
 |dK (kvs:List (Key×V))|dT (kvs:List (List Key×V))
 /-- a dict whose keys are tuples: each key,its address,the value;how often its keys have changed -/
 |dN (kvs:List (NK×Addr×V)) (ep:Nat)
 /-- a set of ints: its members,its size -/
 |set (S:Int->Bool) (n:Nat)
 /-- an instance of the class at C,its dict at dx,its attributes -/
 |ins (C dx:Addr) (fs:List (Str×V))
 /-- the dict of the instance at x -/
 |own (x:Addr)
 /-- the dict of an exception -/
 |xd (fs:List (Str×V))
 /-- a bound method,f of x -/
 |met (f x:Addr)
 /-- a range object lo,lo+1,.. below hi -/
 |rng (lo hi:Int)
 /-- a thing that is known to the object (the script;a dict while a loop walks it): read,never written while it is so -/
 |frz (o:Obj) (u:HO)
 /-- a code object's table -/
 |tbl (ps:Array Value)
 /-- any other thing,by what is true of its one object (a def of one's own: SetO a S n:=HO.ext λh=>..) -/
 |ext (φ:Heap->Prop)
noncomputable abbrev Hp:=Addr->Option HO
abbrev upd(H:Hp)(a:Addr)(o:HO):Hp:=λb=>if b=a then some o else H b
def CI{H:Hp}{a:Addr}{o:HO}:upd H a o a=some o:=by unfold upd;rw[if_pos rfl]
def BU{H:Hp}{a b:Addr}{o:HO}(h:b≠a):upd H a o b=H b:=by unfold upd;rw[if_neg h]
def DT{H:Hp}{a b:Addr}{o:HO}(h:H a=some o)(h':H b=none):a≠b:=by intro e;subst e;rw[h] at h';cases h'
section
variable (P:Program)(w:World)
abbrev CB(H:Hp)(h:Heap)(a:Addr):HO->Prop
 |.lst xs=>xs.length<=sizeLine/\∃(its:ANF) (n:Nat),Ab xs its/\h.get? a=some {cls:=.type "list",data:=.seq its.toArray n}
 |.tup xs=>xs.length<=sizeLine/\∃its:ANF,Ab xs its/\IsTup h a its.toArray
 |.dK kvs=>kvs.length<=sizeLine/\(a == sysModules)=false/\∃vs,KV kvs vs/\h.DictOf (NR P w) a vs
 |.dT kvs=>kvs.length<=sizeLine/\(a == sysModules)=false/\∃xs:List (List Key×Addr×Value),
   Paired (λ(p:List Key×V) (q:List Key×Addr×Value)=>p.1=q.1/\H q.2.1=some (.tup (p.1.map kV))/\Ac p.2 q.2.2) kvs xs /\
   ∃o es ep,h.get? a=some o/\o.ExactDict/\o.data=.dict es ep/\es.toList=xs.map (entryOfKey (tupleKind (NR P w)))/\(xs.map (·.1)).Nodup
 |.dN kvs ep=>kvs.length<=sizeLine/\(a == sysModules)=false/\∃xs:List (NK×Addr×Value),
   Paired (λ(p:NK×Addr×V) (q:NK×Addr×Value)=>p.1=q.1/\p.2.1=q.2.1/\Ac p.2.2 q.2.2) kvs xs /\
   ∃o es,h.get? a=some o/\o.ExactDict/\o.data=.dict es ep/\es.toList=xs.map (entryOfKey (Gy P w))/\(xs.map (·.1)).Nodup
 |.set S n=>h.SetOf (intKind P w) a S n
 |.ins C dx fs=>H dx=some (.own a)/\fs.length<=1000/\dx≠a/\h.get? a=some (ALo C dx) /\
   ∃mA,h.Ns1 dx mA/\(∀f,FX (fs.lookup f) (mA f))/\PySem.Within mA (fs.map (·.1))
 |.own _=>∃o,h.get? a=some o
 |.xd fs=>∃mA,h.Ns1 a mA/\∀f,FX (fs.lookup f) (mA f)
 |.rng lo hi=>∃t u v,h.get? a=some {cls:=.type "range",data:=.fields #[.int lo t,.int hi u,.int 1 v]}
 |.frz o u=>h.get? a=some o/\CB H h a u
 |.tbl ps=>h.get? a=some {cls:=.none,data:=.fields ps}
 |.met f x=>h.get? a=some (PySem.W.methodObj (.ref f) (.ref x))
 |.ext φ=>φ h/\(∃o,h.get? a=some o)/\∀h1 h2:Heap,φ h1->(∀o,h1.get? a=some o->h2.get? a=some o)->φ h2
abbrev Cu(H:Hp)(h:Heap):Prop:=∀a o,H a=some o->CB P w H h a o
end
section
variable {P:Program}{w:World}{H H':Hp}{h h':Heap}{a:Addr}{o:HO}
def CB.lt(x:CB P w H h a o):a<h.objs.size:=by
 cases o with
 |lst xs=>obtain⟨_,_,_,_,e⟩:=x;exact Heap.lt_size e
 |tup xs=>obtain⟨_,_,_,p⟩:=x;exact p.lt
 |dK kvs=>obtain⟨_,_,_,_,o,_,_,e,_⟩:=x;exact Heap.lt_size e
 |dT kvs=>obtain⟨_,_,_,_,o,_,_,e,_⟩:=x;exact Heap.lt_size e
 |dN kvs ep=>obtain⟨_,_,_,_,o,_,e,_⟩:=x;exact Heap.lt_size e
 |set S n=>obtain⟨o,_,_,_,e,_⟩:=x;exact Heap.lt_size e
 |ins C dx fs=>obtain⟨_,_,_,e,_⟩:=x;exact Heap.lt_size e
 |own y=>obtain⟨_,e⟩:=x;exact Heap.lt_size e
 |xd fs=>obtain⟨_,⟨_,_,_,e,_⟩,_⟩:=x;exact Heap.lt_size e
 |rng lo hi=>obtain⟨_,_,_,e⟩:=x;exact Heap.lt_size e
 |frz ob u=>obtain⟨e,_⟩:=x;exact Heap.lt_size e
 |tbl ps=>exact Heap.lt_size (show h.get? a=some _ from x)
 |met f y=>exact Heap.lt_size (show h.get? a=some _ from x)
 |ext φ=>obtain⟨_,⟨_,e⟩,_⟩:=x;exact Heap.lt_size e
def Paired.mapP{U β:Type}{F G:U->β->Prop}:∀{l₁:List U} {l₂:List β},Paired F l₁ l₂->(∀a b,F a b->G a b)->Paired G l₁ l₂
 |_,_,.nil,_=>.nil
 |_,_,.cons r t,f=>.cons (f _ _ r) (Paired.mapP t f)
def CB.stay(x:CB P w H h a o)(k:∀b u,(b=a\/H b=some (.own a))->h.get? b=some u->h'.get? b=some u)
  (ho:∀b,H b=some (.own a)->H' b=some (.own a)) (ht:∀b xs,H b=some (.tup xs)->H' b=some (.tup xs)):CB P w H' h' a o:=by
 induction o with
 |lst xs=>obtain⟨z,its,n,r,e⟩:=x;exact⟨z,its,n,r,k _ _ (.inl rfl) e⟩
 |tup xs=>obtain⟨z,its,r,ob,e,c⟩:=x;exact⟨z,its,r,ob,k _ _ (.inl rfl) e,c⟩
 |dK kvs=>obtain⟨z,y,vs,r,ob,es,ep,e,c⟩:=x;exact⟨z,y,vs,r,ob,es,ep,k _ _ (.inl rfl) e,c⟩
 |dT kvs =>
  obtain⟨z,y,xs,r,ob,es,ep,e,c⟩:=x;exact⟨z,y,xs,Paired.mapP r λp q z=>⟨z.1,ht _ _ z.2.1,z.2.2⟩,ob,es,ep,k _ _ (.inl rfl) e,c⟩
 |dN kvs ep=>obtain⟨z,y,xs,r,ob,es,e,c⟩:=x;exact⟨z,y,xs,r,ob,es,k _ _ (.inl rfl) e,c⟩
 |set S n=>obtain⟨ob,es,ep,t,e,c⟩:=x;exact⟨ob,es,ep,t,k _ _ (.inl rfl) e,c⟩
 |ins C dx fs =>
  obtain⟨d,z,ne,e,mA,⟨od,es,ep,e2,c⟩,r⟩:=x;exact⟨ho _ d,z,ne,k _ _ (.inl rfl) e,mA,⟨od,es,ep,k _ _ (.inr d) e2,c⟩,r⟩
 |own y=>obtain⟨ob,e⟩:=x;exact⟨ob,k _ _ (.inl rfl) e⟩
 |xd fs=>obtain⟨mA,⟨od,es,ep,e,c⟩,r⟩:=x;exact⟨mA,⟨od,es,ep,k _ _ (.inl rfl) e,c⟩,r⟩
 |rng lo hi=>obtain⟨t,u,v,e⟩:=x;exact⟨t,u,v,k _ _ (.inl rfl) e⟩
 |frz ob u ih=>obtain⟨e,q⟩:=x;exact⟨k _ _ (.inl rfl) e,ih q⟩
 |tbl ps =>
  have e:h.get? a=some {cls:=.none,data:=.fields ps}:=x;show h'.get? a=some {cls:=.none,data:=.fields ps};exact k a _ (.inl rfl) e
 |met f y =>
  have e:h.get? a=some (PySem.W.methodObj (.ref f) (.ref y)):=x;show h'.get? a=some (PySem.W.methodObj (.ref f) (.ref y));exact k a _ (.inl rfl) e
 |ext φ=>obtain⟨p,⟨o,e⟩,st⟩:=x;exact⟨st _ _ p λo q=>k _ _ (.inl rfl) q,⟨o,k _ _ (.inl rfl) e⟩,st⟩
def Cu.lt(x:Cu P w H h)(e:H a=some o):a<h.objs.size:=(x a o e).lt
def Cu.fresh(x:Cu P w H h)(e:h.objs.size<=a):H a=none:=by
 cases q:H a with
 |none=>rfl
 |some u=>exact absurd (DE (x.lt q) e) (ALd _)
def Cu.kept(x:Cu P w H h)(k:∀b u,h.get? b=some u->h'.get? b=some u):Cu P w H h':=λa o e =>
 (x a o e).stay (λb u _ q=>k b u q) (λ_ q=>q) λ_ _ q=>q
def Cu.laid(x:Cu P w H h)(k:∀b u,h.get? b=some u->h'.get? b=some u)(hp:h.objs.size<=a)(new:CB P w (upd H a o) h' a o):Cu P w (upd H a o) h':=λb u e=>by
 have hn:=x.fresh hp
 by_cases hb:b=a
 .subst hb;rw[CI] at e;cases e;exact new
 .rw[BU hb] at e;exact(x b u e).stay (λc v _ q=>k c v q) (λc q=>by rw[BU (DT q hn)];exact q) λc xs q=>by rw[BU (DT q hn)];exact q
end
abbrev Rd(H:Hp)(a:Addr)(u:HO):Prop:=H a=some u\/∃o,H a=some (.frz o u)
def Rd.of{H:Hp}{a:Addr}{u:HO}(h:H a=some u):Rd H a u:=.inl h
def Rd.ok{P:Program}{w:World}{H:Hp}{h:Heap}{a:Addr}{u:HO}(r:Rd H a u)(x:Cu P w H h):CB P w H h a u:=by
 rcases r with r|⟨o,r⟩
 .exact x a u r
 .obtain⟨_,q⟩:=x a _ r;exact q
abbrev LZ:Option HO->Prop
 |some (.lst _)=>True
 |some (.dK _)=>True
 |some (.dT _)=>True
 |some (.dN _ _)=>True
 |some (.set _ _)=>True
 |some (.ins _ _ _)=>True
 |some (.ext _)=>True
 |_=>False
section
variable {P:Program}{w:World}{H:Hp}{h h':Heap}{x e:Addr}{o':HO}
def Cu.write(ok:Cu P w H h)(mu:LZ (H x))(he:e=x\/H e=some (.own x))(k:∀b u,b≠e->h.get? b=some u->h'.get? b=some u)(heo:∃u,h'.get? e=some u)
  (new:CB P w (upd H x o') h' x o'):Cu P w (upd H x o') h':=λb u q=>by
 have nown:∀c y,H c=some (.own y)->c≠x:=λc y r z=>by subst z;rw[r] at mu;exact mu
 have ntup:∀c xs,H c=some (.tup xs)->c≠x:=λc xs r z=>by subst z;rw[r] at mu;exact mu
 by_cases hb:b=x
 .subst hb;rw[CI] at q;cases q;exact new
 .rw[BU hb] at q
  by_cases hbe:b=e
  .have q':H b=some (.own x):=by
    rcases he with z|z
    .exact absurd (hbe.trans z) hb
    .rw[hbe];exact z
   rw[q] at q';cases q';obtain⟨v,hv⟩:=heo;exact⟨v,by rw[hbe];exact hv⟩
  .refine(ok b u q).stay (λc v hc r=>k c v ?_ r) (λc r=>by rw[BU (nown c b r)];exact r) λc xs r=>by rw[BU (ntup c xs r)];exact r
   rcases hc with rfl|hc
   .exact hbe
   .rintro rfl;rcases he with z|z
    .exact nown c b hc z
    .rw[hc] at z;cases z;exact hb rfl
end
structure Un (fs ex:ANG) (H H':Hp) (h h':Heap):Prop where
 keep:∀b o,h.get? b=some o->H b=none->b∉fs->b∉ex->h'.get? b=some o
 slot:∀b o,h.get? b=some o->H b=none->b∈fs->b∉ex->∃sl,h'.get? b=some {o with slots:=sl}
 free:∀b o,h.get? b=some o->H b=none->b∉ex->H' b=none
 there:∀b o,h.get? b=some o->b∉ex->∃o',h'.get? b=some o'
 tups:∀b xs,H b=some (.tup xs)->H' b=some (.tup xs)
 frzs:∀b o u,H b=some (.frz o u)->H' b=some (.frz o u)
 tbls:∀b ps,H b=some (.tbl ps)->∃more,H' b=some (.tbl (ps++more))
section
variable {fs fs' ex ex':ANG}{H H1 H2:Hp}{h h1 h2 h':Heap}{a x e:Addr}{o:HO}
def Un.any(u:Un fs ex H H1 h h1){b:Addr}{ob:Obj}(q:h.get? b=some ob)(n:H b=none)(hx:b∉ex):∃sl,h1.get? b=some {ob with slots:=sl}:=by
 by_cases hb:b∈fs
 .exact u.slot b ob q n hb hx
 .exact⟨ob.slots,u.keep b ob q n hb hx⟩
def Un.trans(a:Un fs ex H H1 h h1)(b:Un fs ex H1 H2 h1 h2):Un fs ex H H2 h h2 where
 keep:=λc ob q n hc hx=>b.keep c ob (a.keep c ob q n hc hx) (a.free c ob q n hx) hc hx
 slot:=λc ob q n hc hx=>by
  obtain⟨sl,e1⟩:=a.slot c ob q n hc hx;obtain⟨sl',e2⟩:=b.slot c _ e1 (a.free c ob q n hx) hc hx;exact⟨sl',e2⟩
 free:=λc ob q n hx=>by
  obtain⟨o',e1⟩:=a.there c ob q hx;exact b.free c o' e1 (a.free c ob q n hx) hx
 there:=λc ob q hx=>by
  obtain⟨o',e1⟩:=a.there c ob q hx;exact b.there c o' e1 hx
 tups:=λc xs q=>b.tups c xs (a.tups c xs q)
 frzs:=λc ob xs q=>b.frzs c ob xs (a.frzs c ob xs q)
 tbls:=λc ps q=>by
  obtain⟨m1,e1⟩:=a.tbls c ps q;obtain⟨m2,e2⟩:=b.tbls c _ e1;exact⟨m1++m2,by rw[e2,Array.append_assoc]⟩
def Un.kept(k:∀b u,h.get? b=some u->h'.get? b=some u):Un fs ex H H h h' :=
 ⟨λb ob q _ _ _=>k b ob q,λb ob q _ _ _=>⟨ob.slots,k b ob q⟩,λ_ _ _ n _=>n,λb ob q _=>⟨ob,k b ob q⟩,λ_ _ q=>q,λ_ _ _ q=>q,λ_ ps q=>⟨#[],by rw[q];simp⟩⟩
def Un.refl:Un fs ex H H h h:=Un.kept λ_ _ q=>q
def Un.laid(k:∀b u,h.get? b=some u->h'.get? b=some u)(hp:h.objs.size<=a)(hn:H a=none):Un fs ex H (upd H a o) h h' where
 keep:=λb u q _ _ _=>k b u q
 slot:=λb u q _ _ _=>⟨u.slots,k b u q⟩
 free:=λb u q n _=>by rw[BU (BV (DE (Heap.lt_size q) hp))];exact n
 there:=λb u q _=>⟨u,k b u q⟩
 tups:=λb xs q=>by rw[BU (DT q hn)];exact q
 frzs:=λb u xs q=>by rw[BU (DT q hn)];exact q
 tbls:=λb ps q=>⟨#[],by rw[BU (DT q hn),q];simp⟩
def Un.write(mu:LZ (H x))(he:e=x\/H e=some (.own x))(k:∀b u,b≠e->h.get? b=some u->h'.get? b=some u)(heo:∃u,h'.get? e=some u):Un fs ex H (upd H x o) h h':=by
 have hx:∀b,H b=none->b≠x:=λb n z=>by subst z;rw[n] at mu;exact mu
 have hb:∀b,H b=none->b≠e:=λb n z=>by
  subst z;rcases he with r|r
  .exact hx b n r
  .rw[n] at r;cases r
 have hm:∀b u,H b=some u->¬LZ (some u)->b≠x:=λb u q nm z=>by subst z;rw[q] at mu;exact nm mu
 refine⟨λb u q n _ _=>k b u (hb b n) q,λb u q n _ _=>⟨u.slots,k b u (hb b n) q⟩,λb u q n _=>by rw[BU (hx b n)];exact n,λb u q _=>?_,
  λb xs q=>by rw[BU (hm b _ q λz=>z)];exact q,λb u xs q=>by rw[BU (hm b _ q λz=>z)];exact q,λb ps q=>⟨#[],by rw[BU (hm b _ q λz=>z),q];simp⟩⟩
 by_cases hbe:b=e
 .subst hbe;exact heo
 .exact⟨u,k b u hbe q⟩
def Un.mono(u:Un fs ex H H1 h h1)(hs:∀b∈fs,b∈fs')(hx:∀b∈ex,b∈ex'):Un fs' ex' H H1 h h1 :=
 ⟨λb ob q n hb he=>u.keep b ob q n (λz=>hb (hs b z)) λz=>he (hx b z),λ_ _ q n _ he=>u.any q n λz=>he (hx _ z),λb ob q n he=>u.free b ob q n λz=>he (hx b z),λb ob q he=>u.there b ob q λz=>he (hx b z),u.tups,u.frzs,u.tbls⟩
end
abbrev Mv(h:Heap)(H:Hp):ANG:=(List.range h.objs.size).filter λa=>(H a).isSome
abbrev HW(h:Heap)(H:Hp):Heap:=PySem.W.hideAll h (Mv h H)
def AFY(h:Heap)(H:Hp):(HW h H).objs.size=h.objs.size:=PySem.W.hideAll_size _ _
def AFZ{h:Heap}{H:Hp}{b:Addr}{o:Obj}(e:h.get? b=some o)(n:H b=none):(HW h H).get? b=some o :=
 PySem.W.hideAll_get _ e λhm=>by
  have q:(H b).isSome=true:=(AMZ.mp hm).2;rw[n] at q;simp at q
def AEA{h:Heap}{H:Hp}{b:Addr}{o:Obj}(e:(HW h H).get? b=some o):h.get? b=some o/\H b=none:=by
 have e':h.get? b=some o:=PySem.W.of_hideAll (Mv h H) e;refine⟨e',?_⟩
 cases q:H b with
 |none=>rfl
 |some x =>
  have hm:b∈Mv h H:=AMZ.mpr ⟨CM.mpr (Heap.lt_size e'),by simp[q]⟩;have z:(HW h H).get? b=none:=PySem.W.hideAll_none (Mv h H) hm;rw[z] at e;cases e
abbrev AHO(g h:Heap)(L:Addr):List (Addr×Obj):=(List.range h.objs.size).filterMap λa=>if a=L\/(g.get? a).isSome=true then none else (h.get? a).map λo=>(a,o)
abbrev rest(g h:Heap)(L d:Addr):List (Addr×Obj):=(AHO g h L).filter λp=>decide (p.1≠d)
structure OP (K:AL) (mg:AND) (base:Heap):Prop where
 kin:K.In base
 glob:base.Ns mainGlobals mg
 blt:∃mb,base.Ns builtinsNs mb/\∀x:Str,x≠"__name__"->mb x=bootBuiltins x
 nolimit:base.NoLimit
structure Cx where
 prog:Program
 w:World
 K:AL
 mg:AND
 base:Heap
 A:Around
 N:ANE
 s₀:Shared
 H₀:Hp
 env:Env
 outer:List Env
 stack:List Env
 ex:ANG
 fn:Str->Bool
 calm:Bool
 pn:List (Addr×Obj)
 xe:ANL
abbrev FA(l:List Env):ANG:=l.filterMap (·.frame)
noncomputable abbrev Cx.fs(X:Cx):ANG:=FA X.outer
abbrev Je(sc:Scope)(x:Str):Prop:=sc.names.lookup x=some .local\/sc.names.lookup x=some .cell\/sc.names.lookup x=some .free
abbrev HJ(sc:Scope)(x:Str):Prop:=sc.names.lookup x=some .local\/sc.names.lookup x=some .cell
abbrev AHW(env:Env)(h:Heap)(m:AND)(x:Str)(u:Value):Prop :=
 (env.kindOf x=some .local/\m x=some u)\/((env.kindOf x=some .cell\/env.kindOf x=some .free)/\∃c,env.cells.lookup x=some c/\h.IsCell c (some u))
structure Cx.Ok (X:Cx):Prop where
 mod:OP X.K X.mg X.base
 kind:X.env.scope.kind=.function
 glob:X.env.globals=mainGlobals
 blt:X.env.builtins=builtinsNs
 above:X.s₀.heap.objs.size<=X.env.locals
 inj:∀x y c,X.env.cells.lookup x=some c->X.env.cells.lookup y=some c->x=y
 has:∀x,(X.env.kindOf x=some .cell\/X.env.kindOf x=some .free)->∃c,X.env.cells.lookup x=some c
 cab:∀x c,X.fn x=true->X.env.cells.lookup x=some c->X.s₀.heap.objs.size<=c
 hd:X.calm=true->X.A.handled=none
 frames:X.A.frames=some X.stack
 stk:X.stack=X.outer\/(X.stack=X.env::X.outer/\X.env.frame=some X.env.locals)
 exf:∀b∈X.ex,b≠X.env.locals/\∀x c,X.env.cells.lookup x=some c->c≠b
 bs:∀b o,X.base.get? b=some o->X.s₀.heap.get? b=some o/\X.H₀ b=none
 bsz:X.base.objs.size<=X.s₀.heap.objs.size
 noex:∀b o,X.base.get? b=some o->b∉X.ex
 exfs:∀b∈X.ex,b∉X.fs
 funs:X.s₀.heap.FunFrames X.base X.outer
 frf:∀b∈X.fs,X.H₀ b=none
structure AI (X:Cx) (pins:List (Addr×Obj)) (Y:List (Option V)) (H:Hp) (s:Shared):Prop where
 ok:X.Ok
 os:s.os=X.s₀.os
 bare:AllBare s.gens
 base:Un X.fs X.ex X.H₀ H X.s₀.heap s.heap
 loc:∃m,s.heap.Ns X.env.locals m/\∀(i:Nat) (x:Str) (v:V),X.N[i]?=some x->Y[i]?=some (some v)->Je X.env.scope x->∃u,Ac v u/\AHW X.env s.heap m x u
 cell:∀x c,X.env.cells.lookup x=some c->∃v,s.heap.IsCell c v
 free:H X.env.locals=none
 freeC:∀x c,X.env.cells.lookup x=some c->H c=none
 pin:∀p∈X.pn++pins,s.heap.get? p.1=some p.2/\H p.1=none/\p.1≠X.env.locals/\p.1∉X.fs/\∀v,p.2.data≠.cell v
 hok:Cu X.prog X.w H s.heap
 len:Y.length=X.N.length
section
variable {X:Cx}{pins:List (Addr×Obj)}{Y:List (Option V)}{H H':Hp}{s:Shared}{h':Heap}
def Cx.Ok.nofr(ok:X.Ok){b:Addr}{o:Obj}(e:X.base.get? b=some o):b∉X.fs:=λhb=>by
 have:=(ok.funs.mem hb).1;rw[e] at this;cases this
def AI.bs(I:AI X pins Y H s):∀b o,X.base.get? b=some o->s.heap.get? b=some o/\H b=none:=λb o e =>
 ⟨I.base.keep b o (I.ok.bs b o e).1 (I.ok.bs b o e).2 (I.ok.nofr e) (I.ok.noex b o e),I.base.free b o (I.ok.bs b o e).1 (I.ok.bs b o e).2 (I.ok.noex b o e)⟩
def AI.bk(I:AI X pins Y H s):∀b o,X.base.get? b=some o->s.heap.get? b=some o:=λb o e=>(I.bs b o e).1
def AI.mod(I:AI X pins Y H s):OP X.K X.mg X.base:=I.ok.mod
def AI.kIn(I:AI X pins Y H s):X.K.In s.heap:=I.ok.mod.kin.keeps I.bk
def AI.nolimit(I:AI X pins Y H s):s.heap.NoLimit:=I.ok.mod.nolimit.keeps I.bk
def AI.lt(I:AI X pins Y H s):X.env.locals<s.heap.objs.size:=let ⟨_,hn,_⟩:=I.loc;hn.lt
def AI.sz(I:AI X pins Y H s):X.s₀.heap.objs.size<=s.heap.objs.size:=CV I.ok.above (AL8 I.lt)
def AI.nofs(I:AI X pins Y H s){a:Addr}(h:s.heap.objs.size<=a):a∉X.fs:=λhb=>by
 obtain⟨_,o,ho,_⟩:=I.ok.funs.mem hb;exact absurd (DE (Heap.lt_size ho) (CV I.sz h)) (ALd _)
def AI.cne(I:AI X pins Y H s):∀x c,X.env.cells.lookup x=some c->c≠X.env.locals:=λx c e z=>by
 obtain⟨v,o,ho,hd⟩:=I.cell x c e;obtain⟨m,⟨o',es,ep,ho',hd',_⟩,_⟩:=I.loc;rw[z,ho'] at ho;cases ho;rw[hd'] at hd;cases hd
def AI.funs(I:AI X pins Y H s):s.heap.FunFrames X.base X.outer:=by
 have all:∀(l:List Env),(∀b∈FA l,b∈X.fs)->X.s₀.heap.FunFrames X.base l->s.heap.FunFrames X.base l:=by
  intro l
  induction l with
  |nil=>intro _ _;trivial
  |cons env r ih =>
   intro hs hl;obtain⟨hk,⟨L,o,hf,hn,ho,hd⟩,hr⟩:=hl;have hL:L∈X.fs:=hs L (by unfold FA;rw[AL9,hf];exact Az);obtain⟨sl,e⟩:=I.base.slot L o ho (I.ok.frf L hL) hL λz=>I.ok.exfs L z hL;exact⟨hk,⟨L,_,hf,hn,e,hd⟩,ih (λb hb=>hs b (by unfold FA;rw[AL9,hf];exact BA _ hb)) hr⟩
 exact all X.outer (λ_ hb=>hb) I.ok.funs
def AI.stack(I:AI X pins Y H s):s.heap.FunFrames X.base X.stack:=by
 rcases I.ok.stk with e|⟨e,hf⟩
 .rw[e];exact I.funs
 .rw[e];obtain⟨m,hn,_⟩:=I.loc;refine .cons (by rw[I.ok.kind];decide) hf hn ?_ I.funs;exact Heap.get?_none_of_le (CV I.ok.bsz I.ok.above)
def AI.stkSub(I:AI X pins Y H s):∀b∈FA X.stack,b∈X.env.locals::X.fs:=λb hb=>by
 rcases I.ok.stk with e|⟨e,hf⟩
 .rw[e] at hb;exact BA _ hb
 .rw[e] at hb;unfold FA at hb;rw[AL9,hf] at hb;exact hb
def AI.stkFree(I:AI X pins Y H s):∀b∈FA X.stack,H b=none:=λb hb=>by
 rcases AX.mp (I.stkSub b hb) with e|hb
 .rw[e];exact I.free
 .obtain⟨_,o,ho,_⟩:=I.ok.funs.mem hb;exact I.base.free b o ho (I.ok.frf b hb) λz=>I.ok.exfs b z hb
def AI.step{g':Array GenState}{t':Nat}{d':Drawn}{ch:ANG}(I:AI X pins Y H s)
  (hch:∀b∈ch,(b∈X.ex\/X.s₀.heap.objs.size<=b)/\b≠X.env.locals/\(∀x c,X.env.cells.lookup x=some c->c≠b)/\∀p∈X.pn++pins,p.1≠b)
  (keep:∀b o,b≠X.env.locals->b∉X.fs->b∉ch->s.heap.get? b=some o->H b=none->h'.get? b=some o)
  (slot:∀b o,b≠X.env.locals->b∈X.fs->b∉ch->s.heap.get? b=some o->H b=none->∃sl,h'.get? b=some {o with slots:=sl}) (free:∀b o,b∉ch->s.heap.get? b=some o->H b=none->H' b=none)
  (there:∀b o,b∉ch->s.heap.get? b=some o->∃o',h'.get? b=some o')
  (tups:∀b xs,H b=some (.tup xs)->H' b=some (.tup xs)) (frzs:∀b o u,H b=some (.frz o u)->H' b=some (.frz o u)) (tbls:∀b ps,H b=some (.tbl ps)->∃more,H' b=some (.tbl (ps++more)))
  (ns:∀m,s.heap.Ns X.env.locals m->h'.Ns X.env.locals m) (hok:Cu X.prog X.w H' h') (hg:AllBare g') :
  AI X pins Y H' {s with heap:=h',gens:=g',drawn:=d',toks:=t'}:=by
 have neL:∀b o,X.s₀.heap.get? b=some o->b≠X.env.locals:=λb o e=>BV (DE (Heap.lt_size e) I.ok.above)
 have neC:∀b o,X.s₀.heap.get? b=some o->b∉X.ex->b∉ch:=λb o e hx hb=>by
  rcases(hch b hb).1 with z|z
  .exact hx z
  .exact absurd (DE (Heap.lt_size e) z) (ALd _)
 have cellK:∀x c,X.env.cells.lookup x=some c->∀v,s.heap.IsCell c v->h'.IsCell c v:=λx c e v z4_=>by
  obtain⟨o,ho,hd⟩:=z4_;have nch:c∉ch:=λz=>(hch c z).2.2.1 x c e rfl
  by_cases hc:c∈X.fs
  .obtain⟨sl,q⟩:=slot c o (I.cne x c e) hc nch ho (I.freeC x c e);exact⟨_,q,hd⟩
  .exact⟨o,keep c o (I.cne x c e) hc nch ho (I.freeC x c e),hd⟩
 refine⟨I.ok,I.os,hg,⟨λb o e n hb hx=>?_,λb o e n hb hx=>?_,λb o e n hx=>?_,λb o e hx=>?_,λb xs e=>tups b xs (I.base.tups b xs e),λb o xs e=>frzs b o xs (I.base.frzs b o xs e),λb ps e=>?_⟩,?_,λx c e=>?_,?_,λx c e=>?_,λp hp=>?_,hok,I.len⟩
 .exact keep b o (neL b o e) hb (neC b o e hx) (I.base.keep b o e n hb hx) (I.base.free b o e n hx)
 .obtain⟨sl,e1⟩:=I.base.slot b o e n hb hx;obtain⟨sl',e2⟩:=slot b _ (neL b o e) hb (neC b o e hx) e1 (I.base.free b o e n hx);exact⟨sl',e2⟩
 .obtain⟨o',e1⟩:=I.base.there b o e hx;exact free b o' (neC b o e hx) e1 (I.base.free b o e n hx)
 .obtain⟨o',e1⟩:=I.base.there b o e hx;exact there b o' (neC b o e hx) e1
 .obtain⟨m1,e1⟩:=I.base.tbls b ps e;obtain⟨m2,e2⟩:=tbls b _ e1;exact⟨m1++m2,by rw[e2,Array.append_assoc]⟩
 .obtain⟨m,hn,hl⟩:=I.loc;refine⟨m,ns m hn,λi x v e1 e2 e3=>?_⟩;obtain⟨u,r,l⟩:=hl i x v e1 e2 e3;refine⟨u,r,?_⟩;rcases l with l|⟨k,c,e,z⟩
  .exact .inl l
  .exact .inr ⟨k,c,e,cellK x c e _ z⟩
 .obtain⟨v,z⟩:=I.cell x c e;exact⟨v,cellK x c e v z⟩
 .obtain⟨m,⟨o,_,_,ho,_⟩,_⟩:=I.loc;exact free _ o (λz=>(hch _ z).2.1 rfl) ho I.free
 .obtain⟨v,o,ho,hd⟩:=I.cell x c e;exact free c o (λz=>(hch c z).2.2.1 x c e rfl) ho (I.freeC x c e)
 .obtain⟨e,n,ne,nf,d⟩:=I.pin p hp;have nch:p.1∉ch:=λz=>(hch p.1 z).2.2.2 p hp rfl;exact⟨keep p.1 p.2 ne nf nch e n,free p.1 p.2 nch e n,ne,nf,d⟩
def AI.un{t':Nat}(I:AI X pins Y H s)(u:Un X.fs [] H H' s.heap h')(hok:Cu X.prog X.w H' h'):AI X pins Y H' {s with heap:=h',toks:=t'}:=by
 obtain⟨m,⟨o,es,ep,ho,r⟩,_⟩:=id I.loc;obtain⟨sl,hL⟩:=u.any ho I.free (by simp)
 exact I.step (g':=s.gens) (d':=s.drawn) (ch:=[]) (λ_ z=>nomatch z) (λb o _ hb _ e n=>u.keep b o e n hb (by simp)) (λb o _ hb _ e n=>u.slot b o e n hb (by simp)) (λb o _ e n=>u.free b o e n (by simp)) (λb o _ e=>u.there b o e (by simp)) u.tups u.frzs u.tbls (λm' hm=>by
  obtain⟨o',es',ep',ho',r'⟩:=hm;rw[ho] at ho';cases ho'
  exact⟨_,es',ep',hL,r'⟩) hok I.bare
def AI.call{g':Array GenState}{t':Nat}{d':Drawn}{ch:ANG}(I:AI X pins Y H s)(u:Un (FA X.stack) ch H H' s.heap h')(hok:Cu X.prog X.w H' h')(hg:AllBare g')
  (hch:∀b∈ch,(b∈X.ex\/X.s₀.heap.objs.size<=b)/\b≠X.env.locals/\(∀x c,X.env.cells.lookup x=some c->c≠b)/\∀p∈X.pn++pins,p.1≠b) :
  AI X pins Y H' {s with heap:=h',gens:=g',drawn:=d',toks:=t'}:=by
 obtain⟨m,⟨o,es,ep,ho,r⟩,_⟩:=id I.loc;obtain⟨sl,hL⟩:=u.any ho I.free λz=>(hch _ z).2.1 rfl
 exact I.step (ch:=ch) hch (λb o hL hb hc e n=>u.keep b o e n (λz=>(AX.mp (I.stkSub b z)).elim hL hb) hc) (λb o _ _ hc e n=>u.any e n hc) (λb o hc e n=>u.free b o e n hc) (λb o hc e=>u.there b o e hc) u.tups u.frzs u.tbls (λm' hm=>by
  obtain⟨o',es',ep',ho',r'⟩:=hm;rw[ho] at ho';cases ho'
  exact⟨_,es',ep',hL,r'⟩) hok hg
def AI.turned{t':Nat}{it:Addr}(I:AI X pins Y H s)(k:∀b o,b≠it->s.heap.get? b=some o->h'.get? b=some o)(hn:H it=none)(hL:it≠X.env.locals)
  (h1:it∈X.ex\/X.s₀.heap.objs.size<=it) (h2:∀x c,X.env.cells.lookup x=some c->c≠it) (h3:∀p∈X.pn++pins,p.1≠it):AI X pins Y H {s with heap:=h',toks:=t'}:=by
 have nit:∀b u,H b=some u->b≠it:=λb u e z=>by rw[z,hn] at e;cases e
 refine I.step (g':=s.gens) (d':=s.drawn) (ch:=[it]) (λb hb=>?_) (λb o _ _ hc e _=>k b o (λz=>hc (by simp[z])) e) (λb o _ _ hc e _=>⟨o.slots,k b o (λz=>hc (by simp[z])) e⟩) (λ_ _ _ _ n=>n)
  (λb o hc e=>⟨o,k b o (λz=>hc (by simp[z])) e⟩) (λ_ _ e=>e) (λ_ _ _ e=>e) (λb ps e=>⟨#[],by rw[e];simp⟩) (λm hm=>?_) (λb u e=>?_) I.bare
 .have e:b=it:=by simpa using hb
  subst e;exact⟨h1,hL,h2,h3⟩
 .obtain⟨o,es,ep,ho,r⟩:=hm;exact⟨o,es,ep,k _ o (Ne.symm hL) ho,r⟩
 .refine(I.hok b u e).stay (λc v hc q=>k c v ?_ q) (λ_ q=>q) λ_ _ q=>q;rcases hc with z|z
  .rw[z];exact nit b u e
  .exact nit c _ z
def AI.tok(I:AI X pins Y H s)(t:Nat):AI X pins Y H {s with toks:=t}:=I.un (h':=s.heap) (t':=t) Un.refl I.hok
def AI.kept{t':Nat}(I:AI X pins Y H s)(k:∀b u,s.heap.get? b=some u->h'.get? b=some u):AI X pins Y H {s with heap:=h',toks:=t'}:=I.un (Un.kept k) (I.hok.kept k)
def AI.laid{a:Addr}{o:HO}{t':Nat}(I:AI X pins Y H s)(k:∀b u,s.heap.get? b=some u->h'.get? b=some u)(hp:s.heap.objs.size<=a)(new:CB X.prog X.w (upd H a o) h' a o) :
  AI X pins Y (upd H a o) {s with heap:=h',toks:=t'}:=I.un (Un.laid k hp (I.hok.fresh hp)) (I.hok.laid k hp new)
def AI.write{x e:Addr}{o:HO}{t':Nat}(I:AI X pins Y H s)(mu:LZ (H x))(he:e=x\/H e=some (.own x))(k:∀b u,b≠e->s.heap.get? b=some u->h'.get? b=some u)(heo:∃u,h'.get? e=some u)
  (new:CB X.prog X.w (upd H x o) h' x o):AI X pins Y (upd H x o) {s with heap:=h',toks:=t'}:=I.un (Un.write mu he k heo) (I.hok.write mu he k heo new)
def AI.pins_of{pins':List (Addr×Obj)}(I:AI X pins Y H s)(h:∀p∈pins',s.heap.get? p.1=some p.2/\H p.1=none/\p.1≠X.env.locals/\p.1∉X.fs/\∀v,p.2.data≠.cell v):AI X pins' Y H s :=
 ⟨I.ok,I.os,I.bare,I.base,I.loc,I.cell,I.free,I.freeC,λp hp=>(Bi.mp hp).elim (λz=>I.pin p (ALh _ z)) (h p),I.hok,I.len⟩
def WK{N:ANE}(hN:N.Nodup){i j:Nat}{x:Str}(a:N[i]?=some x)(b:N[j]?=some x):i=j:=by obtain⟨h1,e1⟩:=Ax.mp a;obtain⟨h2,e2⟩:=Ax.mp b;exact(List.getElem_inj hN).mp (e1.trans e2.symm)
def VG{M:Model}{A:Around}{E:ANL}{i:Nat}{x:Str}{v:V}{u:Value}{Q:Unit->Shared->Prop}(I:AI X pins Y H s)(hN:X.N.Nodup)(hi:X.N[i]?=some x)(hx:HJ X.env.scope x)(r:Ac v u)
  (h:∀s',AI X pins (Y.set i (some v)) H s'->(∃a,Heap.SameBut a s.heap s'.heap/\(a=X.env.locals\/X.env.cells.lookup x=some a))->Q () s') (hf:X.fn x=true\/X.env.scope.names.lookup x=some .local):wpAny M A (storeName X.env x u) Q E s:=by
 obtain⟨m,hn,hl⟩:=id I.loc;have hcls:(X.env.scope.kind == .class || (X.env.scope.kind == .module&&X.env.locals != X.env.globals))=false:=by rw[I.ok.kind];rfl
 have hiY:i<Y.length:=by rw[I.len];exact(Ax.mp hi).1
 have cne:=I.cne
 have tracked:∀{a:Addr} {h':Heap},(∃o,s.heap.get? a=some o/\H a=none)->Heap.SameBut a s.heap h'->Cu X.prog X.w H h':=λ{a h'} ha hs b ob e=>by
  obtain⟨_,_,hfree⟩:=ha;refine(I.hok b ob e).stay (λc w' hc q=>(hs.2 c ?_).trans q) (λ_ q=>q) λ_ _ q=>q;rintro rfl;rcases hc with rfl|hc
  .rw[hfree] at e;cases e
  .rw[hfree] at hc;cases hc
 rcases hx with hk|hk
 .refine wpAny_storeName_local hk hn (λh' hn' hs=>?_) hcls;obtain⟨oL,_,_,hoL,_⟩:=id hn;refine h _ ⟨I.ok,I.os,I.bare,⟨λb o e n hb hx=>?_,λb o e n hb hx=>?_,I.base.free,λb o e hx=>?_,I.base.tups,I.base.frzs,I.base.tbls⟩,⟨_,hn',λj y v' e1 e2 e3=>?_⟩,λy c e=>?_,I.free,I.freeC,λp hp=>?_,tracked ⟨oL,hoL,I.free⟩ hs,by simpa using I.len⟩ ⟨_,hs,.inl rfl⟩
  .exact(hs.2 b (BV (DE (Heap.lt_size e) I.ok.above))).trans (I.base.keep b o e n hb hx)
  .obtain⟨sl,e1⟩:=I.base.slot b o e n hb hx;exact⟨sl,(hs.2 b (BV (DE (Heap.lt_size e) I.ok.above))).trans e1⟩
  .obtain⟨o',e1⟩:=I.base.there b o e hx;exact⟨o',(hs.2 b (BV (DE (Heap.lt_size e) I.ok.above))).trans e1⟩
  .by_cases hj:j=i
   .subst hj;rw[hi] at e1;cases e1;rw[ALx hiY] at e2;cases e2;exact⟨u,r,.inl ⟨hk,by simp⟩⟩
   .rw[EI (Ne.symm hj)] at e2;obtain⟨u',r',q⟩:=hl j y v' e1 e2 e3;refine⟨u',r',?_⟩;rcases q with⟨k,e⟩|⟨k,c,e,z⟩
    .refine .inl ⟨k,?_⟩;have:y≠x:=λe=>hj (WK hN e1 (e▸hi));simp[this,e]
    .exact .inr ⟨k,c,e,z.sameBut hs (cne y c e)⟩
  .obtain⟨w',z⟩:=I.cell y c e;exact⟨w',z.sameBut hs (cne y c e)⟩
  .obtain⟨e,n,ne,nf,d⟩:=I.pin p hp;exact⟨(hs.2 p.1 ne).trans e,n,ne,nf,d⟩
 .have hfn:X.fn x=true:=by
   rcases hf with z|z
   .exact z
   .rw[z] at hk;cases hk
  obtain⟨c,hc⟩:=I.ok.has x (.inl hk);obtain⟨w',z⟩:=I.cell x c hc;refine wpAny_storeName_cell I.ok.kind hk hc z (λh' hc' hs=>?_);obtain⟨oc,hoc,hocd⟩:=id z;refine h {s with heap:=h'} ⟨I.ok,I.os,I.bare,⟨λb o e n hb hx=>?_,λb o e n hb hx=>?_,I.base.free,λb o e hx=>?_,I.base.tups,I.base.frzs,I.base.tbls⟩,⟨m,hn.sameBut hs (Ne.symm (cne x c hc)),λj y v' e1 e2 e3=>?_⟩,λy c' e=>?_,I.free,I.freeC,λp hp=>?_,tracked ⟨oc,hoc,I.freeC x c hc⟩ hs,by simpa using I.len⟩ ⟨c,hs,.inr hc⟩
  .exact(hs.2 b (BV (DE (Heap.lt_size e) (I.ok.cab x c hfn hc)))).trans (I.base.keep b o e n hb hx)
  .obtain⟨sl,e1⟩:=I.base.slot b o e n hb hx;exact⟨sl,(hs.2 b (BV (DE (Heap.lt_size e) (I.ok.cab x c hfn hc)))).trans e1⟩
  .obtain⟨o',e1⟩:=I.base.there b o e hx;exact⟨o',(hs.2 b (BV (DE (Heap.lt_size e) (I.ok.cab x c hfn hc)))).trans e1⟩
  .by_cases hj:j=i
   .subst hj;rw[hi] at e1;cases e1;rw[ALx hiY] at e2;cases e2;exact⟨u,r,.inr ⟨.inl hk,c,hc,hc'⟩⟩
   .rw[EI (Ne.symm hj)] at e2;obtain⟨u',r',q⟩:=hl j y v' e1 e2 e3;refine⟨u',r',?_⟩;rcases q with q|⟨k,c',e,z'⟩
    .exact .inl q
    .refine .inr ⟨k,c',e,z'.sameBut hs ?_⟩;rintro rfl;exact hj (WK hN e1 (I.ok.inj _ _ _ e hc▸hi))
  .by_cases hcc:c'=c
   .subst hcc;exact⟨_,hc'⟩
   .obtain⟨w2,z2⟩:=I.cell y c' e;exact⟨w2,z2.sameBut hs hcc⟩
  .obtain⟨e,n,ne,nf,d⟩:=I.pin p hp;refine⟨(hs.2 p.1 ?_).trans e,n,ne,nf,d⟩;intro q;rw[q,hoc] at e;have q':oc=p.2:=Option.some.inj e;exact d w' (by rw[<-q'];exact hocd)
def Qx{M:Model}{A:Around}{E:ANL}{i:Nat}{x:Str}{v:V}{u:Value}{Q:Unit->Shared->Prop}(I:AI X pins Y H s)(hN:X.N.Nodup)(hi:X.N[i]?=some x)(hx:HJ X.env.scope x)(r:Ac v u)
  (h:∀s',AI X pins (Y.set i (some v)) H s'->Q () s') (hf:X.fn x=true\/X.env.scope.names.lookup x=some .local):wpAny M A (storeName X.env x u) Q E s :=
 VG I hN hi hx r (λs' I' _=>h s' I') hf
def AI.call'{s':Shared}{ch:ANG}(I:AI X pins Y H s)(ho:s'.os=s.os)(u:Un (FA X.stack) ch H H' s.heap s'.heap)(hok:Cu X.prog X.w H' s'.heap)(hg:AllBare s'.gens)
  (hch:∀b∈ch,(b∈X.ex\/X.s₀.heap.objs.size<=b)/\b≠X.env.locals/\(∀x c,X.env.cells.lookup x=some c->c≠b)/\∀p∈X.pn++pins,p.1≠b):AI X pins Y H' s':=by
 obtain⟨h',g',d',t',o'⟩:=s';have e:o'=s.os:=ho;subst e;exact I.call (g':=g') (t':=t') (d':=d') u hok hg hch
end
noncomputable abbrev XK:=Value->Option Addr->Hp->Prop
noncomputable abbrev St:=List (Option V)
noncomputable abbrev VK:=V->Hp->Prop
noncomputable abbrev TE:=St->Hp->VK->Prop
noncomputable abbrev TT:=St->Hp->(Bool->Hp->Prop)->Prop
noncomputable abbrev TA:=St->Hp->(List V->Hp->Prop)->Prop
structure Ik where
 nx:St->Hp->Prop
 rt:VK
 bk:St->Hp->Prop:=λ_ _=>False
 ct:St->Hp->Prop:=λ_ _=>False
noncomputable abbrev TS:=Ik->St->Hp->Prop
abbrev EP(X:Cx)(pins:List (Addr×Obj))(Y:St)(Q:VK)(u:Value)(s':Shared):Prop:=∃v H',AI X pins Y H' s'/\Ac v u/\Q v H'
abbrev TP(X:Cx)(pins:List (Addr×Obj))(Y:St)(Q:Bool->Hp->Prop)(b:Bool)(s':Shared):Prop:=∃H',AI X pins Y H' s'/\Q b H'
abbrev AP(X:Cx)(pins:List (Addr×Obj))(Y:St)(Q:List V->Hp->Prop)(us:ANF)(s':Shared):Prop:=∃vs H',AI X pins Y H' s'/\Ab vs us/\Q vs H'
abbrev SP(X:Cx)(pins:List (Addr×Obj))(D:Ik)(f:Flow)(s':Shared):Prop :=
 match f with
 |.next=>∃Y' H',AI X pins Y' H' s'/\D.nx Y' H'
 |.brk=>∃Y' H',AI X pins Y' H' s'/\D.bk Y' H'
 |.cont=>∃Y' H',AI X pins Y' H' s'/\D.ct Y' H'
 |.ret u=>∃v Y' H',AI X pins Y' H' s'/\Ac v u/\D.rt v H'
abbrev PE(X:Cx)(e:Expr)(t:TE):Prop :=
 ∀(pins:List (Addr×Obj)) (s:Shared) (Y:St) (H:Hp) (Q:VK),AI X pins Y H s->t Y H Q->wpAny (model X.prog X.w) X.A (eval e X.env) (EP X pins Y Q) X.xe s
abbrev PT(X:Cx)(e:Expr)(t:TT):Prop :=
 ∀(pins:List (Addr×Obj)) (s:Shared) (Y:St) (H:Hp) (Q:Bool->Hp->Prop),AI X pins Y H s->t Y H Q->wpAny (model X.prog X.w) X.A (isTrue e X.env (eval e X.env)) (TP X pins Y Q) X.xe s
abbrev PW(X:Cx)(e:Expr)(t:TT):Prop :=
 ∀(whole:Sem Value) (pins:List (Addr×Obj)) (s:Shared) (Y:St) (H:Hp) (Q:Bool->Hp->Prop),AI X pins Y H s->t Y H Q->wpAny (model X.prog X.w) X.A (isTrue e X.env whole) (TP X pins Y Q) X.xe s
def PW.pt{X:Cx}{e:Expr}{t:TT}(h:PW X e t):PT X e t:=h _
abbrev PA(X:Cx)(es:ANH)(t:TA):Prop :=
 ∀(pos:Pos) (pins:List (Addr×Obj)) (s:Shared) (Y:St) (H:Hp) (Q:List V->Hp->Prop),AI X pins Y H s->t Y H Q->wpAny (model X.prog X.w) X.A (spliced (backTo pos (starEach es X.env))) (AP X pins Y Q) X.xe s
abbrev PS(X:Cx)(st:Stmt)(t:TS):Prop :=
 ∀(pins:List (Addr×Obj)) (s:Shared) (Y:St) (H:Hp) (D:Ik),AI X pins Y H s->t D Y H->wpAny (model X.prog X.w) X.A (exec st X.env) (SP X pins D) X.xe s
abbrev Dj(X:Cx)(st:ANI)(t:TS):Prop :=
 ∀(pins:List (Addr×Obj)) (s:Shared) (Y:St) (H:Hp) (D:Ik),AI X pins Y H s->t D Y H->wpAny (model X.prog X.w) X.A (execs st X.env) (SP X pins D) X.xe s
def Ae{U:Type}{t:Sem U}{Q Q':U->Shared->Prop}{M:Model}{A:Around}{E:ANL}{s:Shared}(h:wpAny M A t Q E s)(hQ:∀a s,Q a s->Q' a s):wpAny M A t Q' E s:=Ef h hQ λ_ _ x=>x
section
variable {X:Cx}
abbrev Qu(i:Nat):TE:=λY H Q=>∃v,Y[i]?=some (some v)/\Q v H
abbrev tC(v:V):TE:=λ_ H Q=>Q v H
def ADC{i:Nat}{x:Str}{pos:Pos}(hN:X.N[i]?=some x)(hv:Je X.env.scope x)(hd:(x == ("__debug__":Str))=false)(hcd:(x == ("__classdict__":Str))=false):PE X (.Name x pos) (Qu i):=by
 intro pins s Y H Q I h;obtain⟨v,e,h⟩:=h;obtain⟨m,hn,hl⟩:=I.loc;obtain⟨u,r,l⟩:=hl i x v hN e hv;have fin:EP X pins Y Q u s:=⟨v,H,I,r,h⟩;rcases l with⟨hk,hm⟩|⟨hk,c,hc,hcell⟩
 .exact wpAny_Name (wpAny_loadName_local I.ok.kind hk hn hm fin) hd
 .rcases hk with hk|hk
  .exact wpAny_Name (wpAny_loadName_cell I.ok.kind hk hc hcell fin) hd
  .exact wpAny_Name (wpAny_loadName_free I.ok.kind hk hc hcell fin hcd) hd
def ADP{i j pos}:PE X (.Constant (.int i) j pos) (tC (.int i)):=λ_ _ _ H _ I h=>wpAny_Constant_int ⟨.int i,H,I.tok _,⟨_,rfl⟩,h⟩
def ADb{b j pos}:PE X (.Constant (.bool b) j pos) (tC (.bl b)):=λ_ _ _ H _ I h=>Constant_bool ⟨.bl b,H,I,rfl,h⟩
def ADL{j pos}:PE X (.Constant .none j pos) (tC .non):=λ_ _ _ H _ I h=>Constant_none ⟨.non,H,I,rfl,h⟩
def ADF{x j pos}:PE X (.Constant (.str x) j pos) (tC (.str x)):=λ_ _ _ H _ I h=>Calls.Constant_str ⟨.str x,H,I.tok _,⟨_,rfl⟩,h⟩
abbrev Gl(X:Cx)(x:Str):Prop:=X.env.kindOf x=some .globalImplicit
def NV{E:ANL}{pins:List (Addr×Obj)}{s:Shared}{Y:St}{H:Hp}{x:Str}{u:Value}{pos:Pos}{Q:ANL}(I:AI X pins Y H s)(hg:Gl X x)(hm:X.mg x=some u)(h:Q u s)
  (hd:(x == ("__debug__":Str))=false:=by decide):wpAny (model X.prog X.w) X.A (eval (.Name x pos) X.env) Q E s :=
 Calls.Name_function_global I.ok.kind hg (Calls.loadGlobal_global (by rw[I.ok.glob];exact I.mod.glob.keeps I.bk) hm h) hd
def Gx{E:ANL}{pins:List (Addr×Obj)}{s:Shared}{Y:St}{H:Hp}{x:Str}{u:Value}{pos:Pos}{Q:ANL}(I:AI X pins Y H s)(hg:Gl X x)(hm:X.mg x=none)(hv:bootBuiltins x=some u)(h:Q u s)
  (hn:x≠"__name__":=by decide) (hd:(x == ("__debug__":Str))=false:=by decide):wpAny (model X.prog X.w) X.A (eval (.Name x pos) X.env) Q E s:=by
 obtain⟨mb,h1,h2⟩:=I.mod.blt;exact Calls.Name_function_global I.ok.kind hg (Calls.loadGlobal_builtin (by rw[I.ok.glob];exact I.mod.glob.keeps I.bk) hm (by rw[I.ok.blt];exact h1.keeps I.bk) ((h2 x hn).trans hv) h) hd
def ADR{x:Str}{v:V}{u:Value}{pos:Pos}(hg:Gl X x)(hm:X.mg x=some u)(r:Ac v u)(hd:(x == ("__debug__":Str))=false:=by decide):PE X (.Name x pos) (tC v) :=
 λ_ _ _ H _ I h=>NV I hg hm ⟨v,H,I,r,h⟩ hd
def ADa{x:Str}{v:V}{u:Value}{pos:Pos}(hg:Gl X x)(hm:X.mg x=none)(hv:bootBuiltins x=some u)(r:Ac v u)(hn:x≠"__name__":=by decide)(hd:(x == ("__debug__":Str))=false:=by decide):PE X (.Name x pos) (tC v) :=
 λ_ _ _ H _ I h=>Gx I hg hm hv ⟨v,H,I,r,h⟩ hn hd
variable {a b:Expr}{ta tb:TE}{pos:Pos}
abbrev tB(t:TE):TT:=λY H Q=>t Y H λx H1=>∃c,x=.bl c/\Q c H1
def ACV{e:Expr}{t:TE}(h:PE X e t)(he:∀whole,isTrue e X.env whole=(do let v <-whole;standAt e.pos;holding [v] (truthy v))):PT X e (tB t):=by intro pins s Y H Q I hw;refine isTrue_plain (Ae (h pins s Y H _ I hw) λv s1 z2_=>?_) (he _);obtain⟨x,H1,I1,r1,q1⟩:=z2_;obtain⟨d,rfl,q⟩:=q1;cases r1;exact AM1 ⟨H1,I1,q⟩
variable {tA tB':TT}{rest:ANH}
abbrev ABK(t u:TT):TT:=λY H Q=>t Y H λc H1=>if c=true then u Y H1 Q else Q false H1
abbrev tOr(t u:TT):TT:=λY H Q=>t Y H λc H1=>if c=true then Q true H1 else u Y H1 Q
abbrev AA4(t:TT):TT:=λY H Q=>t Y H λc H1=>Q (!c) H1
def ACL(ha:PT X a tA):PW X (.BoolOp .And [a] pos) tA:=by
 intro wh pins s Y H Q I h;refine isTrue_and (Ae (ha pins s Y H Q I h) λc s1 e=>?_)
 cases c with
 |true=>exact isTrue_and_nil e
 |false=>exact e
def ACJ(ha:PT X a tA):PW X (.BoolOp .Or [a] pos) tA:=by
 intro wh pins s Y H Q I h;refine isTrue_or (Ae (ha pins s Y H Q I h) λc s1 e=>?_)
 cases c with
 |false=>exact isTrue_or_nil e
 |true=>exact e
def ACM(ha:PT X a tA)(hb:PW X (.BoolOp .And (b::rest) pos) tB'):PW X (.BoolOp .And (a::b::rest) pos) (ABK tA tB'):=by
 intro wh pins s Y H Q I h;refine isTrue_and (Ae (ha pins s Y H _ I h) λc s1 z2_=>?_);obtain⟨H1,I1,q1⟩:=z2_
 cases c with
 |true=>exact hb wh pins s1 Y H1 Q I1 q1
 |false=>exact⟨H1,I1,q1⟩
def ACK(ha:PT X a tA)(hb:PW X (.BoolOp .Or (b::rest) pos) tB'):PW X (.BoolOp .Or (a::b::rest) pos) (tOr tA tB'):=by
 intro wh pins s Y H Q I h;refine isTrue_or (Ae (ha pins s Y H _ I h) λc s1 z2_=>?_);obtain⟨H1,I1,q1⟩:=z2_
 cases c with
 |true=>exact⟨H1,I1,q1⟩
 |false=>exact hb wh pins s1 Y H1 Q I1 q1
def ACW(ha:PT X a tA):PT X (.UnaryOp .Not a pos) (AA4 tA):=by intro pins s Y H Q I h;exact isTrue_not (ha pins s Y H (λc H1=>Q (!c) H1) I h)
abbrev ABJ(ta tb:TE):TE:=λY H Q=>ta Y H λx H1=>∃c,x=.bl c/\if c=true then tb Y H1 Q else Q (.bl false) H1
abbrev AA1(ta tb:TE):TE:=λY H Q=>ta Y H λx H1=>∃c,x=.bl c/\if c=true then Q (.bl true) H1 else tb Y H1 Q
abbrev AA3(ta:TE):TE:=λY H Q=>ta Y H λx H1=>∃c,x=.bl c/\Q (.bl (!c)) H1
def ADJ{op}{t:TE}(h:PE X a t):PE X (.BoolOp op [a] pos) t:=λpins s Y H Q I hw=>BoolOp_one (h pins s Y H Q I hw)
def ADc(ha:PE X a ta)(hb:PE X (.BoolOp .And (b::rest) pos) tb):PE X (.BoolOp .And (a::b::rest) pos) (ABJ ta tb):=by
 intro pins s Y H Q I h;refine BoolOp_and (Ae (ha pins s Y H _ I h) λv s1 z2_=>?_);obtain⟨x,H1,I1,r1,q1⟩:=z2_;obtain⟨c,rfl,q1⟩:=q1;cases r1;refine AM1 ?_
 cases c with
 |true=>exact hb pins s1 Y H1 Q I1 q1
 |false=>exact⟨.bl false,H1,I1,rfl,q1⟩
def ADH(ha:PE X a ta)(hb:PE X (.BoolOp .Or (b::rest) pos) tb):PE X (.BoolOp .Or (a::b::rest) pos) (AA1 ta tb):=by
 intro pins s Y H Q I h;refine BoolOp_or (Ae (ha pins s Y H _ I h) λv s1 z2_=>?_);obtain⟨x,H1,I1,r1,q1⟩:=z2_;obtain⟨c,rfl,q1⟩:=q1;cases r1;refine AM1 ?_
 cases c with
 |false=>exact hb pins s1 Y H1 Q I1 q1
 |true=>exact⟨.bl true,H1,I1,rfl,q1⟩
def ADK(ha:PE X a ta):PE X (.UnaryOp .Not a pos) (AA3 ta):=by intro pins s Y H Q I h;refine UnaryOp_ (Ae (ha pins s Y H _ I h) λv s1 z2_=>?_);obtain⟨x,H1,I1,r1,q1⟩:=z2_;obtain⟨c,rfl,q1⟩:=q1;cases r1;exact not_of (AM1 ⟨.bl (!c),H1,I1,rfl,q1⟩)
abbrev tIf(t:TT)(ta tb:TE):TE:=λY H Q=>t Y H λc H1=>if c=true then ta Y H1 Q else tb Y H1 Q
def ADQ{c:Expr}(hc:PT X c tA)(ha:PE X a ta)(hb:PE X b tb):PE X (.IfExp c a b pos) (tIf tA ta tb):=by
 intro pins s Y H Q I h;refine wpAny_IfExp (Ae (hc pins s Y H _ I h) λd s1 z2_=>?_);obtain⟨H1,I1,q1⟩:=z2_
 cases d with
 |true=>exact ha pins s1 Y H1 Q I1 q1
 |false=>exact hb pins s1 Y H1 Q I1 q1
end
abbrev BJ(K:AL)(H:Hp)(a:Addr)(xs:List V):Prop :=
 Rd H a (.lst xs) \/
  ∃(o:Obj) (its:Array Value) (n:Nat),K.lookup a=some o/\o.cls=.type "list"/\o.dict=none/\o.data=.seq its n/\its.size<=sizeLine/\Ab xs its.toList
abbrev Bd(K:AL)(H:Hp)(a:Addr)(xs:List V):Prop :=
 Rd H a (.tup xs) \/
  ∃(o:Obj) (its:Array Value) (n:Nat),K.lookup a=some o/\o.cls=.type "tuple"/\o.data=.seq its n/\its.size<=sizeLine/\Ab xs its.toList
abbrev AHT:Value->Option V
 |.none=>some .non
 |.bool b=>some (.bl b)
 |.int i _=>some (.int i)
 |.str x _=>some (.str x)
 |.bytes b _=>some (.byt b)
 |.float b _=>some (.flt b)
 |.ref a=>some (.ref a)
 |.type n=>some (.ty n)
 |_=>none
def Ac.abs{x:V}{u:Value}(r:Ac x u):AHT u=some x:=by
 cases x with
 |non=>cases r;rfl
 |bl _=>cases r;rfl
 |int _=>obtain⟨t,rfl⟩:=r;rfl
 |str _=>obtain⟨t,rfl⟩:=r;rfl
 |byt _=>obtain⟨t,rfl⟩:=r;rfl
 |flt _=>obtain⟨t,rfl⟩:=r;rfl
 |ref _=>cases r;rfl
 |ty _=>cases r;rfl
def Ac.inj{x y:V}{u:Value}(r:Ac x u)(q:Ac y u):x=y:=Option.some.inj (r.abs.symm.trans q.abs)
def Ab.inj:∀{xs ys:List V} {us:ANF},Ab xs us->Ab ys us->xs=ys
 |_,_,_,.nil,.nil=>rfl
 |_,_,_,.cons r t,.cons r' t'=>by rw[r.inj r',Ab.inj t t']
section
variable {X:Cx}{pins:List (Addr×Obj)}{Y:St}{H:Hp}{s:Shared}{a:Addr}{xs ys:List V}
def BJ.of{K:AL}(h:H a=some (.lst xs)):BJ K H a xs:=.inl (.inl h)
def Bd.of{K:AL}(h:H a=some (.tup xs)):Bd K H a xs:=.inl (.inl h)
def AI.list(I:AI X pins Y H s)(h:BJ X.K H a xs):∃its:ANF,Ab xs its/\PlainL s.heap a its.toArray/\xs.length<=sizeLine:=by
 rcases h with h|⟨o,its,n,hk,hc,hd,hs,hz,r⟩
 .obtain⟨z,its,n,r,e⟩:=h.ok I.hok;exact⟨its,r,⟨_,n,e,rfl,rfl,rfl⟩,z⟩
 .refine⟨its.toList,r,⟨o,n,I.kIn a o hk,hc,hd,by simpa using hs⟩,?_⟩;have e:=r.length;simp only[AMa] at e;omega
def AI.tuple(I:AI X pins Y H s)(h:Bd X.K H a xs):∃its:ANF,Ab xs its/\IsTup s.heap a its.toArray/\xs.length<=sizeLine:=by
 rcases h with h|⟨o,its,n,hk,hc,hs,hz,r⟩
 .obtain⟨z,its,r,p⟩:=h.ok I.hok;exact⟨its,r,p,z⟩
 .refine⟨its.toList,r,⟨o,I.kIn a o hk,hc,n,by simpa using hs⟩,?_⟩;have e:=r.length;simp only[AMa] at e;omega
def AI.list_inj(I:AI X pins Y H s)(h:BJ X.K H a xs)(h':BJ X.K H a ys):xs=ys:=by
 obtain⟨its,r,⟨o,n,e,_,_,d⟩,_⟩:=I.list h;obtain⟨its',r',⟨o',n',e',_,_,d'⟩,_⟩:=I.list h';rw[e] at e';cases e';rw[d] at d'
 injection d' with d1 _
 have:its=its':=by simpa using congrArg Array.toList d1
 subst this;exact r.inj r'
def AI.tuple_inj(I:AI X pins Y H s)(h:Bd X.K H a xs)(h':Bd X.K H a ys):xs=ys:=by
 obtain⟨its,r,⟨o,e,_,n,d⟩,_⟩:=I.tuple h;obtain⟨its',r',⟨o',e',_,n',d'⟩,_⟩:=I.tuple h';rw[e] at e';cases e';rw[d] at d'
 injection d' with d1 _
 have:its=its':=by simpa using congrArg Array.toList d1
 subst this;exact r.inj r'
end
noncomputable abbrev Cx.wish(X:Cx)(E:ANL):Cx:={X with xe:=E}
noncomputable abbrev Cx.nox(X:Cx):Cx:=X.wish λ_ _=>False
def Cx.Ok.wish{X:Cx}(ok:X.Ok)(E:ANL):(X.wish E).Ok :=
 ⟨ok.mod,ok.kind,ok.glob,ok.blt,ok.above,ok.inj,ok.has,ok.cab,ok.hd,ok.frames,ok.stk,ok.exf,ok.bs,ok.bsz,ok.noex,ok.exfs,ok.funs,ok.frf⟩
def Cx.Ok.unwish{X:Cx}{E:ANL}(ok:(X.wish E).Ok):X.Ok :=
 ⟨ok.mod,ok.kind,ok.glob,ok.blt,ok.above,ok.inj,ok.has,ok.cab,ok.hd,ok.frames,ok.stk,ok.exf,ok.bs,ok.bsz,ok.noex,ok.exfs,ok.funs,ok.frf⟩
section
variable {X:Cx}{pins:List (Addr×Obj)}{Y:St}{H:Hp}{s:Shared}{E:ANL}
def AI.wish(I:AI X pins Y H s)(E:ANL):AI (X.wish E) pins Y H s:=⟨I.ok.wish E,I.os,I.bare,I.base,I.loc,I.cell,I.free,I.freeC,I.pin,I.hok,I.len⟩
def AI.unwish(I:AI (X.wish E) pins Y H s):AI X pins Y H s:=⟨I.ok.unwish,I.os,I.bare,I.base,I.loc,I.cell,I.free,I.freeC,I.pin,I.hok,I.len⟩
def SP.unwish{D:Ik}{f:Flow}{s':Shared}(h:SP (X.wish E) pins D f s'):SP X pins D f s':=by
 cases f with
 |next=>obtain⟨Y',H',I,q⟩:=h;exact⟨Y',H',I.unwish,q⟩
 |brk=>obtain⟨Y',H',I,q⟩:=h;exact⟨Y',H',I.unwish,q⟩
 |cont=>obtain⟨Y',H',I,q⟩:=h;exact⟨Y',H',I.unwish,q⟩
 |ret u=>obtain⟨v,Y',H',I,r,q⟩:=h;exact⟨v,Y',H',I.unwish,r,q⟩
def PE.nox{e:Expr}{t:TE}(h:PE X.nox e t):PE X e t:=λpins s Y H Q I hw =>
 Ef (h pins s Y H Q (I.wish _) hw) (λ_ _ z2_=>(by obtain⟨v,H',I',r,q⟩:=z2_;exact⟨v,H',I'.unwish,r,q⟩)) λ_ _ z=>False.elim z
def PT.nox{e:Expr}{t:TT}(h:PT X.nox e t):PT X e t:=λpins s Y H Q I hw =>
 Ef (h pins s Y H Q (I.wish _) hw) (λ_ _ z2_=>(by obtain⟨H',I',q⟩:=z2_;exact⟨H',I'.unwish,q⟩)) λ_ _ z=>False.elim z
def Dj.nox{st:ANI}{t:TS}(h:Dj X.nox st t):Dj X st t:=λpins s Y H D I hw =>
 Ef (h pins s Y H D (I.wish _) hw) (λ_ _ q=>q.unwish) λ_ _ z=>False.elim z
end
section
variable {X:Cx}{st:Stmt}{rest:ANI}{t u:TS}{e:Expr}{te:TE}{pos:Pos}
abbrev AA6:TS:=λD Y H=>D.nx Y H
abbrev AAy(t u:TS):TS:=λD Y H=>t {D with nx:=u D} Y H
def ACa:Dj X [] AA6:=λ_ _ Y H _ I h=>wpAny_execs_nil ⟨Y,H,I,h⟩
def ACb(h1:PS X st t)(h2:Dj X rest u):Dj X (st::rest) (AAy t u):=by
 intro pins s Y H D I h;refine wpAny_execs_cons (Ae (h1 pins s Y H {D with nx:=u D} I h) λf s1 q=>?_)
 cases f with
 |next =>
  obtain⟨Y',H',I',q⟩:=q;exact h2 pins s1 Y' H' D I' q
 |ret v=>exact q
 |brk=>exact q
 |cont=>exact q
def ACZ(h1:PS X st t):Dj X [st] t:=by
 intro pins s Y H D I h;refine wpAny_execs_cons (Ae (h1 pins s Y H D I h) λf s1 q=>?_)
 cases f with
 |next=>exact wpAny_execs_nil q
 |ret v=>exact q
 |brk=>exact q
 |cont=>exact q
abbrev ABF:TS:=λD Y H=>D.bk Y H
def ACl:PS X (.Break pos) ABF:=λ_ _ Y H _ I h=>wpAny_Break ⟨Y,H,I,h⟩
def AI.quiet{pins:List (Addr×Obj)}{Y:St}{H:Hp}{s:Shared}(I:AI X pins Y H s):interactive X.env=false:=by simp[interactive,I.ok.kind]
abbrev ABD(te:TE):TS:=λD Y H=>te Y H λ_ H1=>D.nx Y H1
def ACk(he:PE X e te)(hs:swapsWith e none pos.line X.env=pure false):PS X (.Expr e pos) (ABD te):=by intro pins s Y H D I h;exact wpAny_Expr_any (Ae (he pins s Y H _ I h) λv s1 z2_=>(by obtain⟨x,H1,I1,r1,q1⟩:=z2_;exact⟨Y,H1,I1,q1⟩)) I.quiet hs
abbrev AAz(te:TE):TS:=λD Y H=>te Y H D.rt
def ACe(he:PE X e te):PS X (.Return (some e) pos) (AAz te):=by intro pins s Y H D I h;exact wpAny_Return_some (Ae (he pins s Y H _ I h) λv s1 z2_=>(by obtain⟨x,H1,I1,r1,q1⟩:=z2_;exact⟨x,Y,H1,I1,r1,q1⟩))
abbrev AA9(c:TT)(t u:TS):TS:=λD Y H=>c Y H λb H1=>if b=true then t D Y H1 else u D Y H1
def ACg{c:Expr}{a b:ANI}{tc:TT}(hc:PT X c tc)(ha:Dj X a t)(hb:Dj X b u):PS X (.If c a b pos) (AA9 tc t u):=by
 intro pins s Y H D I h;refine wpAny_If (Ae (hc pins s Y H _ I h) λd s1 z2_=>?_);obtain⟨H1,I1,q1⟩:=z2_
 cases d with
 |true=>exact ha pins s1 Y H1 D I1 q1
 |false=>exact hb pins s1 Y H1 D I1 q1
abbrev AA7:TS:=λ_ _ _=>False
def ACf:PS X st AA7:=λ_ _ _ _ _ _ h=>h.elim
end
noncomputable abbrev TG:=V->St->Hp->(St->Hp->Prop)->Prop
noncomputable abbrev Gc:=List V->St->Hp->(St->Hp->Prop)->Prop
abbrev PG(X:Cx)(target:Expr)(t:TG):Prop :=
 ∀(pins:List (Addr×Obj)) (s:Shared) (Y:St) (H:Hp) (v:V) (u:Value) (Q:St->Hp->Prop),AI X pins Y H s->Ac v u->t v Y H Q ->
  wpAny (model X.prog X.w) X.A (assign target X.env u) (λ_ s'=>∃Y' H',AI X pins Y' H' s'/\Q Y' H') X.xe s
abbrev Gf(X:Cx)(ts:ANH)(t:Gc):Prop :=
 ∀(pins:List (Addr×Obj)) (s:Shared) (Y:St) (H:Hp) (vs:List V) (us:ANF) (Q:St->Hp->Prop),AI X pins Y H s->Ab vs us->t vs Y H Q ->
  wpAny (model X.prog X.w) X.A (assignInOrder ((assignEach ts X.env).map (·.2)) us) (λ_ s'=>∃Y' H',AI X pins Y' H' s'/\Q Y' H') X.xe s
noncomputable abbrev OL:=V->V->V->Hp->(Hp->Prop)->Prop
abbrev Sl(X:Cx)(t:OL):Prop :=
 ∀(pins:List (Addr×Obj)) (s:Shared) (Y:St) (H:Hp) (o i v:V) (ov iv u:Value) (Q:Hp->Prop),AI X pins Y H s->Ac o ov->Ac i iv->Ac v u->t o i v H Q ->
  wpAny (model X.prog X.w) X.A (setItem ov iv u) (λ_ s'=>∃H',AI X pins Y H' s'/\Q H') X.xe s
noncomputable abbrev OM:=V->V->Hp->VK->Prop
abbrev OO(X:Cx)(op:Operator)(t:OM):Prop :=
 ∀(pins:List (Addr×Obj)) (s:Shared) (Y:St) (H:Hp) (x y:V) (v u:Value) (Q:VK),AI X pins Y H s->Ac x v->Ac y u->t x y H Q ->
  wpAny (model X.prog X.w) X.A (inplaceOp op v u) (EP X pins Y Q) X.xe s
section
variable {X:Cx}{pos:Pos}
abbrev XY(i:Nat):TG:=λv Y H Q=>Q (Y.set i (some v)) H
def ADA{i:Nat}{x:Str}(hN:X.N.Nodup)(hi:X.N[i]?=some x)(hx:HJ X.env.scope x)(hf:X.fn x=true\/X.env.scope.names.lookup x=some .local):PG X (.Name x pos) (XY i):=by intro pins s Y H v u Q I r h;exact wpAny_assign_Name (Qx I hN hi hx r (λs' I'=>⟨_,H,I',h⟩) hf)
abbrev AFw:Gc:=λvs Y H Q=>vs=[]/\Q Y H
abbrev AF3(t:TG)(u:Gc):Gc:=λvs Y H Q=>∃v r,vs=v::r/\t v Y H λY' H'=>u r Y' H' Q
def AC8:Gf X [] AFw:=by intro pins s Y H vs us Q I r h;obtain⟨e,h⟩:=h;subst e;cases r;exact assignInOrder_nil ⟨Y,H,I,h⟩
def AC9{e:Expr}{es:ANH}{t:TG}{u:Gc}(h1:PG X e t)(h2:Gf X es u)
  (hs:(assignEach (e::es) X.env).map (·.2)=assign e X.env::(assignEach es X.env).map (·.2):=by rfl):Gf X (e::es) (AF3 t u):=by
 intro pins s Y H vs us Q I r h;obtain⟨v,vr,e1,h⟩:=h;subst e1
 cases r with
 |cons r rr =>
  rw[hs];refine assignInOrder_cons (Ae (h1 pins s Y H _ _ _ I r h) λ_ s1 z2_=>?_);obtain⟨Y1,H1,I1,q1⟩:=z2_;exact h2 pins s1 Y1 H1 _ _ Q I1 rr q1
abbrev AFu(K:AL)(n:Nat)(t:Gc):TG:=λv Y H Q=>∃a xs,v=.ref a/\Bd K H a xs/\xs.length=n/\t xs Y H Q
def Vq{es:ANH}{k:Nat}{t:Gc}{n:Nat}(hc:X.calm=true)(h:Gf X es t)
  (hn:(assignEach es X.env).length=n:=by rfl) (hst:(assignEach es X.env).findIdx? (·.1)=none:=by rfl):PG X (.Tuple es k pos) (AFu X.K n t):=by
 intro pins s Y H v u Q I r hw;obtain⟨a,xs,e1,hq,hl,hw⟩:=hw;subst e1;cases r;obtain⟨its,rv,ht,hz⟩:=I.tuple hq;refine assign_Tuple_tuple (I.ok.hd hc) ht (by simp[hn,<-hl,rv.length]) hst λh' hx=>?_;have I1:AI X pins Y H {s with heap:=h'}:=I.kept (t':=s.toks) λb o e=>hx b o (BV (Heap.lt_size e)) e;exact h pins _ Y H xs _ Q I1 (by simpa using rv) hw
abbrev FT(to ti:TE)(t:OL):TG:=λv Y H Q=>to Y H λo H1=>ti Y H1 λi H2=>t o i v H2 λH3=>Q Y H3
def Vr{o i:Expr}{to ti:TE}{t:OL}(ho:PE X o to)(hi:PE X i ti)(hs:Sl X t)
  (ha:∀v,assign (.Subscript o i pos) X.env v=(do
   let ov <-holding [v] (eval o X.env)
   let iv <-holding [v,ov] (eval i X.env)
   standAt pos
   holding [v,ov,iv] (setItem ov iv v)
   release [v,ov,iv] []):=by intro _;rfl):PG X (.Subscript o i pos) (FT to ti t):=by
 intro pins s Y H v u Q I r h;rw[ha];refine AH (DZ (Ae (ho pins s Y H _ I h) λov s1 z2_=>?_));obtain⟨x,H1,I1,r1,q1⟩:=z2_;refine AH (DZ (Ae (hi pins s1 Y H1 _ I1 q1) λiv s2 z2_=>?_));obtain⟨y,H2,I2,r2,q2⟩:=z2_;refine AH (wpAny_standAt (AH (DZ (Ae (hs pins s2 Y H2 x y v ov iv u _ I2 r1 r2 r q2) λ_ s3 z2_=>?_))));obtain⟨H3,I3,q3⟩:=z2_;exact wpAny_release ⟨Y,H3,I3,q3⟩
abbrev Ur(te:TE)(g:TG):TS:=λD Y H=>te Y H λx H1=>g x Y H1 D.nx
def RG{tg e:Expr}{te:TE}{g:TG}(he:PE X e te)(hg:PG X tg g)(hs:swapsWithSole [tg] e pos.line X.env=pure false)(hw:swappedStores [tg] e X.env=pure none)
  (h1:(assignEach [tg] X.env).map (·.2)=[assign tg X.env]):PS X (.Assign [tg] e pos) (Ur te g):=by
 intro pins s Y H D I h;refine wpAny_Assign_stores (Ae (he pins s Y H _ I h) λv s1 z2_=>?_) hs hw;obtain⟨x,H1,I1,r1,q1⟩:=z2_;rw[h1];exact Ae (hg pins s1 Y H1 x v _ I1 r1 q1) λ_ s2 q=>q
def ACd{i:Nat}{x:Str}{e:Expr}{te:TE}{pos':Pos}(hN:X.N.Nodup)(hi:X.N[i]?=some x)(hx:HJ X.env.scope x)(he:PE X e te)(hs:swapsWith e (some (.Name x pos')) pos.line X.env=pure false)(hf:X.fn x=true\/X.env.scope.names.lookup x=some .local) :
  PS X (.Assign [.Name x pos'] e pos) (Ur te (XY i)):=by
 intro pins s Y H D I h;refine wpAny_Assign_Name (Ae (he pins s Y H _ I h) λv s1 z2_=>?_) hs;obtain⟨y,H1,I1,r1,q1⟩:=z2_;exact Qx I1 hN hi hx r1 (λs2 I2=>⟨_,H1,I2,q1⟩) hf
abbrev ABI(i:Nat)(te:TE)(ti:OM):TS:=λD Y H=>∃x,Y[i]?=some (some x)/\te Y H λy H1=>ti x y H1 λz H2=>D.nx (Y.set i (some z)) H2
def ACm{i:Nat}{x:Str}{e:Expr}{te:TE}{op:Operator}{ti:OM}{pos':Pos}(hN:X.N.Nodup)(hi:X.N[i]?=some x)(hx:HJ X.env.scope x)(he:PE X e te)(ho:OO X op ti)(hf:X.fn x=true\/X.env.scope.names.lookup x=some .local) :
  PS X (.AugAssign (.Name x pos') op e pos) (ABI i te ti):=by
 intro pins s Y H D I h;obtain⟨v,e1,h⟩:=h;obtain⟨m,hn,hl⟩:=I.loc;have vis:Je X.env.scope x:=by rcases hx with k|k;exact .inl k;exact .inr (.inl k)
 obtain⟨u,r,l⟩:=hl i x v hi e1 vis;refine wpAny_AugAssign_Name ?_
 have go:wpAny (model X.prog X.w) X.A (eval e X.env) (λw s₂=>wpAny (model X.prog X.w) X.A (inplaceOp op u w) (λr s₃=>wpAny (model X.prog X.w) X.A (storeName X.env x r) (λ_=>SP X pins D .next) X.xe s₃) X.xe s₂) X.xe s:=by refine Ae (he pins s Y H _ I h) λw s1 z2_=>?_;obtain⟨y,H1,I1,r1,q1⟩:=z2_;refine Ae (ho pins s1 Y H1 v y u w _ I1 r r1 q1) λz s2 z2_=>?_;obtain⟨zv,H2,I2,r2,q2⟩:=z2_;exact Qx I2 hN hi hx r2 (λs3 I3=>⟨_,H2,I3,q2⟩) hf
 rcases l with⟨hk,hm⟩|⟨hk,c,hc,hcell⟩
 .exact wpAny_loadName_local I.ok.kind hk hn hm go
 .rcases hk with hk|hk
  .exact wpAny_loadName_cell I.ok.kind hk hc hcell go
  .rcases hx with k|k
   .have:X.env.scope.names.lookup x=some .free:=hk;rw[k] at this;cases this
   .have:X.env.scope.names.lookup x=some .free:=hk;rw[k] at this;cases this
abbrev Rm(f:Int->Int->Int):OM:=λx y H Q=>∃i j,x=.int i/\y=.int j/\Q (.int (f i j)) H
def AJn:OO X .Add (Rm λi j=>i+j):=by intro pins s Y H x y v u Q I r1 r2 h;obtain⟨i,j,e1,e2,q⟩:=h;subst e1;subst e2;obtain⟨t,rfl⟩:=r1;obtain⟨t',rfl⟩:=r2;exact iadd_int ⟨.int _,H,I.tok _,⟨_,rfl⟩,q⟩
def AJm:OO X .Sub (Rm λi j=>i-j):=by intro pins s Y H x y v u Q I r1 r2 h;obtain⟨i,j,e1,e2,q⟩:=h;subst e1;subst e2;obtain⟨t,rfl⟩:=r1;obtain⟨t',rfl⟩:=r2;exact isub_int ⟨.int _,H,I.tok _,⟨_,rfl⟩,q⟩
end
section
variable {X:Cx}{pos:Pos}
abbrev AAu(c:TT)(tb:TS):TS:=λD Y H=>∃W:Nat->St->Hp->Prop,(∃m,W m Y H)/\∀m Y H,W m Y H ->
 c Y H λb H1=>if b=true then ∃N:St->Hp->Prop,(∀Y' H',N Y' H'->∃m',m'<m/\W m' Y' H')/\tb {D with nx:=N,ct:=N,bk:=D.nx} Y H1 else D.nx Y H1
def ACc{c:Expr}{body:ANI}{tc:TT}{tb:TS}(hp:PassesOwn (model X.prog X.w) X.A X.env X.xe)(hc:PT X c tc)(hb:Dj X body tb):PS X (.While c body [] pos) (AAu tc tb):=by
 intro pins s Y H D I h;obtain⟨W,⟨m0,w0⟩,turn⟩:=h;refine wpAny_While (codeAny_whileLoop (λn s'=>∃Y' H',AI X pins Y' H' s'/\W n Y' H') ?_ m0 ⟨Y,H,I,w0⟩);rintro n s1 ⟨Y1,H1,I1,w1⟩;refine AM2 hp (Ae (hc pins s1 Y1 H1 _ I1 (turn n Y1 H1 w1)) λb s2 z2_=>?_);obtain⟨H2,I2,q2⟩:=z2_
 cases b with
 |true =>
  obtain⟨N,hN,q2⟩:=q2;rw[if_pos rfl];refine AM2 hp (Ae (hb pins s2 Y1 H2 _ I2 q2) λf s3 q3=>?_)
  cases f with
  |next =>
   obtain⟨Y3,H3,I3,n3⟩:=q3;obtain⟨m',hm,w3⟩:=hN Y3 H3 n3;exact⟨m',hm,Y3,H3,I3,w3⟩
  |cont =>
   obtain⟨Y3,H3,I3,n3⟩:=q3;obtain⟨m',hm,w3⟩:=hN Y3 H3 n3;exact⟨m',hm,Y3,H3,I3,w3⟩
  |brk=>exact q3
  |ret v=>exact q3
 |false =>
  rw[if_neg Cf];exact wpAny_execs_nil ⟨Y1,H2,I2,q2⟩
end
structure It where
 go:Nat->Hp->Prop
 yld:Nat->Hp->V->Hp->Prop
 stop:Nat->Hp->Prop
abbrev ET(X:Cx)(pins:List (Addr×Obj))(H:Hp)(b:Addr):Prop :=
 H b=none/\b≠X.env.locals/\b∉X.fs/\(b∈X.ex\/X.s₀.heap.objs.size<=b)/\(∀x c,X.env.cells.lookup x=some c->c≠b)/\∀p∈X.pn++pins,p.1≠b
def AI.fpOk{X:Cx}{pins:List (Addr×Obj)}{Y:St}{H H':Hp}{s:Shared}{b:Addr}(I:AI X pins Y H s)(hb:s.heap.objs.size<=b)(hn:H' b=none):ET X pins H' b:=by
 refine⟨hn,Fa (DE I.lt hb),I.nofs hb,.inr (CV I.sz hb),λx c e z=>?_,λp hp z=>?_⟩
 .obtain⟨v,q⟩:=I.cell x c e;exact absurd (DE q.lt (by rw[z];exact hb)) (ALd _)
 .exact absurd (DE (Heap.lt_size (I.pin p hp).1) (by rw[z];exact hb)) (ALd _)
structure HE (P:Program) (w:World) (K:AL) (tg:Expr) (J:It) (fp:ANG) (it:Addr) (tn:Nat->Heap->Prop):Prop where
 mem:it∈fp
 obj:∀i h,tn i h->∀b∈fp,∃o,h.get? b=some o/\∀v,o.data≠.cell v
 keep:∀i h h',tn i h->(∀b∈fp,∀o,h.get? b=some o->h'.get? b=some o)->tn i h'
 item:∀(X:Cx),X.prog=P->X.w=w->X.K=K->X.calm=true->∀(i:Nat) (pins:List (Addr×Obj)) (s:Shared) (Y:St) (H:Hp) (E:ANL),AI X pins Y H s->(∀b∈fp,ET X pins H b)->tn i s.heap->J.go i H ->
  wpAny (model P w) X.A (pyNext (.ref it)) (λr s1=>∃u,r=some u /\
   wpAny (model P w) X.A (letOwnedTupleGo tg (.ref it) u) (λ_ s2=>∃x H',AI X pins Y H' s2/\Ac x u/\J.yld i H x H'/\tn (i+1) s2.heap/\∀b∈fp,H' b=none) E s1) E s
 done:∀(X:Cx),X.prog=P->X.w=w->X.K=K->X.calm=true->∀(i:Nat) (pins:List (Addr×Obj)) (s:Shared) (Y:St) (H:Hp) (E:ANL),AI X pins Y H s->(∀b∈fp,ET X pins H b)->tn i s.heap->J.stop i H ->
  wpAny (model P w) X.A (pyNext (.ref it)) (λr s1=>r=none/\AI X pins Y H s1) E s
 self:∀(A:Around) (i:Nat) (s:Shared) (Q:ANL) (E:ANL),tn i s.heap->Q (.ref it) s->wpAny (model P w) A (pyIter (.ref it)) Q E s
noncomputable abbrev TI:=St->Hp->(It->Hp->Prop)->Prop
abbrev Yr(X:Cx)(pins:List (Addr×Obj))(Y:St)(tg:Expr)(R:It->Hp->Prop)(itv:Value)(s2:Shared):Prop :=
 ∃(it:Addr) (fp:ANG) (tn:Nat->Heap->Prop) (J:It) (H':Hp),itv=.ref it/\AI X pins Y H' s2/\HE X.prog X.w X.K tg J fp it tn/\tn 0 s2.heap/\(∀b∈fp,ET X pins H' b)/\R J H'
abbrev PI(X:Cx)(tg iter:Expr)(wi:TI):Prop :=
 ∀(pins:List (Addr×Obj)) (s:Shared) (Y:St) (H:Hp) (R:It->Hp->Prop),AI X pins Y H s->wi Y H R ->
  wpAny (model X.prog X.w) X.A (eval iter X.env) (λv s1=>wpAny (model X.prog X.w) X.A (pyIter v) (Yr X pins Y tg R) X.xe s1) X.xe s
def Nc{M:Model}{A:Around}{E:ANL}{s:Shared}{tg:Expr}{it:Addr}{u:Value}{o:Obj}{n:String}{vs:Array Value}{Q:Unit->Shared->Prop}(ho:s.heap.get? it=some o)(hc:o.cls=.type n)(hd:o.data=.fields vs)
  (hn:["enumerate","zip","dict_itemiterator","dict_reverseitemiterator","odict_iterator","itertools.zip_longest","itertools.pairwise"].contains n=false) (hQ:Q () s):wpAny M A (letOwnedTupleGo tg (.ref it) u) Q E s:=by
 unfold letOwnedTupleGo
 cases tg <;> first
  |exact AN hQ
  |(cases u <;> first
    |exact AN hQ
    |(refine AH (wpAny_load ho ?_)
      rw[hc,hd]
      show wpAny M A (if (["enumerate","zip","dict_itemiterator","dict_reverseitemiterator","odict_iterator","itertools.zip_longest","itertools.pairwise"].contains n&&vs[0]? == some (rawInt _))=true then _ else _) Q E s
      rw[if_neg (by intro h;rw[hn,Bool.false_and] at h;cases h)]
      exact AN hQ))
abbrev Yx(K:AL)(a:Addr):It :=
 ⟨λi H=>∃xs x,BJ K H a xs/\xs[i]?=some x,λi H x H'=>H'=H/\∀xs,BJ K H a xs->xs[i]?=some x,λi H=>∃xs,BJ K H a xs/\xs.length<=i⟩
abbrev Yv(K:AL)(a:Addr):It :=
 ⟨λi H=>∃xs x,Bd K H a xs/\xs[i]?=some x,λi H x H'=>H'=H/\∀xs,Bd K H a xs->xs[i]?=some x,λi H=>∃xs,Bd K H a xs/\xs.length<=i⟩
abbrev La(lo:Int)(n:Nat):It:=⟨λi _=>i<n,λi H x H'=>H'=H/\x=.int (lo+i),λi _=>n<=i⟩
def AAk{P:Program}{w:World}{K:AL}{tg:Expr}(a it:Addr):HE P w K tg (Yx K a) [it] it (λi h=>h.IsListIter it a i) where
 mem:=by simp
 obj:=λi h st b hb=>by
  have e:b=it:=by simpa using hb
  subst e;obtain⟨o,e,c,d⟩:=st;exact⟨o,e,λv z=>by rw[d] at z;cases z⟩
 keep:=λi h h' st k=>st.at λo e=>k it (by simp) o e
 item:=by intro X hP hw hK hc i pins s Y H E I hf st hg;subst hP hw hK;obtain⟨xs,x,hq,hx⟩:=hg;obtain⟨its,rv,p,hz⟩:=I.list hq;obtain⟨u,hu,ru⟩:=rv.get hx;obtain⟨f0,f1,f2,f3,f4,f5⟩:=hf it (by simp);refine wpAny_pyNext_list_item st p.isList (x:=u) (by simpa using hu) λh' st' sb=>?_;have I1:AI X pins Y H {s with heap:=h'}:=I.turned (t':=s.toks) (λb o hb e=>(sb.2 b hb).trans e) f0 f1 f3 f4 f5;obtain⟨o,e,c,d⟩:=id st';exact⟨u,rfl,Nc (s:={s with heap:=h'}) e c d (by decide) ⟨x,H,I1,ru,⟨rfl,λys hy=>by rw[I.list_inj hy hq];exact hx⟩,st',λb hb=>(hf b hb).1⟩⟩
 done:=by intro X hP hw hK hc i pins s Y H E I hf st hg;subst hP hw hK;obtain⟨xs,hq,hx⟩:=hg;obtain⟨its,rv,p,hz⟩:=I.list hq;obtain⟨f0,f1,f2,f3,f4,f5⟩:=hf it (by simp);have hl:=rv.length;exact wpAny_pyNext_list_end (I.ok.hd hc) st p.isList (by simp;omega) λh' eb=>⟨rfl,I.turned (t':=s.toks) (λb o hb e=>eb b o hb e) f0 f1 f3 f4 f5⟩
 self:=λ_ _ _ _ _ st h=>wpAny_pyIter_listiter st h
def AAh{P:Program}{w:World}{K:AL}{tg:Expr}(a it:Addr):HE P w K tg (Yv K a) [it] it (λi h=>h.IsTupleIter it a i) where
 mem:=by simp
 obj:=λi h st b hb=>by
  have e:b=it:=by simpa using hb
  subst e;obtain⟨o,e,c,d⟩:=st;exact⟨o,e,λv z=>by rw[d] at z;cases z⟩
 keep:=λi h h' st k=>st.at λo e=>k it (by simp) o e
 item:=by intro X hP hw hK hc i pins s Y H E I hf st hg;subst hP hw hK;obtain⟨xs,x,hq,hx⟩:=hg;obtain⟨its,rv,p,hz⟩:=I.tuple hq;obtain⟨u,hu,ru⟩:=rv.get hx;obtain⟨f0,f1,f2,f3,f4,f5⟩:=hf it (by simp);refine wpAny_pyNext_tuple_item st (show s.heap.IsTuple a its.toArray from p) (x:=u) (by simpa using hu) λh' st' sb=>?_;have I1:AI X pins Y H {s with heap:=h'}:=I.turned (t':=s.toks) (λb o hb e=>(sb.2 b hb).trans e) f0 f1 f3 f4 f5;obtain⟨o,e,c,d⟩:=id st';exact⟨u,rfl,Nc (s:={s with heap:=h'}) e c d (by decide) ⟨x,H,I1,ru,⟨rfl,λys hy=>by rw[I.tuple_inj hy hq];exact hx⟩,st',λb hb=>(hf b hb).1⟩⟩
 done:=by intro X hP hw hK hc i pins s Y H E I hf st hg;subst hP hw hK;obtain⟨xs,hq,hx⟩:=hg;obtain⟨its,rv,p,hz⟩:=I.tuple hq;obtain⟨f0,f1,f2,f3,f4,f5⟩:=hf it (by simp);have hl:=rv.length;exact wpAny_pyNext_tuple_end (I.ok.hd hc) st (show s.heap.IsTuple a its.toArray from p) (by simp;omega) λh' eb=>⟨rfl,I.turned (t':=s.toks) (λb o hb e=>eb b o hb e) f0 f1 f3 f4 f5⟩
 self:=λ_ _ _ _ _ st h=>wpAny_pyIter_tupleiter st h
def AAi{P:Program}{w:World}{K:AL}{tg:Expr}(it:Addr)(lo:Int)(n:Nat):HE P w K tg (La lo n) [it] it (λi h=>IsRangeIter h it (lo+(i:Nat)*1) ((n:Int)-(i:Nat)) 1) where
 mem:=by simp
 obj:=λi h st b hb=>by
  have e:b=it:=by simpa using hb
  subst e
  exact⟨_,st,λv z=>by
   have z':Data.fields _=Data.cell v:=z
   cases z'⟩
 keep:=λi h h' st k=>k it (by simp) _ st
 item:=by intro X hP hw hK hc i pins s Y H E I hf st hg;subst hP hw hK;obtain⟨f0,f1,f2,f3,f4,f5⟩:=hf it (by simp);have W:=Walks.range (prog:=X.prog) (w:=X.w) (I.ok.hd hc) it lo 1 n;refine W.item i s _ _ hg st λv h' tk hv st' kk=>?_;obtain⟨t,rfl⟩:=hv;have I1:AI X pins Y H {s with heap:=h',toks:=tk}:=I.turned (λb o hb e=>kk b o (by simpa using hb) e) f0 f1 f3 f4 f5;refine⟨_,rfl,Nc (s:={s with heap:=h',toks:=tk}) (n:="range_iterator") st' rfl rfl (by decide) ⟨.int (lo+i),H,I1,⟨t,?_⟩,⟨rfl,rfl⟩,st',λb hb=>(hf b hb).1⟩⟩;rw[Int.mul_one]
 done:=by intro X hP hw hK hc i pins s Y H E I hf st hg;subst hP hw hK;obtain⟨f0,f1,f2,f3,f4,f5⟩:=hf it (by simp);exact wpAny_pyNext_range_end (I.ok.hd hc) st (by have:n<=i:=hg;omega) λh' eb=>⟨rfl,I.turned (t':=s.toks) (λb o hb e=>eb b o hb e) f0 f1 f3 f4 f5⟩
 self:=λ_ _ _ _ _ st h=>wpAny_pyIter_rangeiter st h
section
variable {X:Cx}{tg:Expr}
abbrev AFX(K:AL)(tl:TE):TI:=λY H R=>tl Y H λx H1=>∃a,x=.ref a/\(∃xs,BJ K H1 a xs)/\R (Yx K a) H1
abbrev AFT(K:AL)(tl:TE):TI:=λY H R=>tl Y H λx H1=>∃a,x=.ref a/\(∃xs,Bd K H1 a xs)/\R (Yv K a) H1
def AC7{l:Expr}{tl:TE}(hl:PE X l tl):PI X tg l (AFX X.K tl):=by
 intro pins s Y H R I h;refine Ae (hl pins s Y H _ I h) λv s1 z2_=>?_;obtain⟨x,H1,I1,r1,q1⟩:=z2_;obtain⟨a,e,⟨xs,hq⟩,q⟩:=q1;subst e;cases r1;obtain⟨its,rv,p,hz⟩:=I1.list hq;refine AM3 p.isList ?_;refine⟨s1.heap.objs.size,[s1.heap.objs.size],_,_,H1,rfl,I1.kept (t':=s1.toks) λb o e=>Heap.get?_push_of_some _ e,AAk a _,⟨_,Heap.get?_push_size _ rfl,rfl,rfl⟩,λb hb=>?_,q⟩;have e:b=s1.heap.objs.size:=by simpa using hb
 subst e;exact I1.fpOk (Af _) (I1.hok.fresh (Af _))
def AC3{l:Expr}{tl:TE}(hl:PE X l tl):PI X tg l (AFT X.K tl):=by
 intro pins s Y H R I h;refine Ae (hl pins s Y H _ I h) λv s1 z2_=>?_;obtain⟨x,H1,I1,r1,q1⟩:=z2_;obtain⟨a,e,⟨xs,hq⟩,q⟩:=q1;subst e;cases r1;obtain⟨its,rv,p,hz⟩:=I1.tuple hq;refine wpAny_pyIter_tuple (show s1.heap.IsTuple a its.toArray from p) ?_;refine⟨s1.heap.objs.size,[s1.heap.objs.size],_,_,H1,rfl,I1.kept (t':=s1.toks) λb o e=>Heap.get?_push_of_some _ e,AAh a _,⟨_,Heap.get?_push_size _ rfl,rfl,rfl⟩,λb hb=>?_,q⟩;have e:b=s1.heap.objs.size:=by simpa using hb
 subst e;exact I1.fpOk (Af _) (I1.hok.fresh (Af _))
def VY{pins:List (Addr×Obj)}{Y:St}{H:Hp}{s:Shared}{R:It->Hp->Prop}{E:ANL}{lo hi:Int}{t u v:Tok}{tk:Nat}(I:AI X pins Y H s)(h1:-(2 ^ 62)<=lo)(h2:lo<2 ^ 62)(h3:-(2 ^ 62)<=hi)(h4:hi<2 ^ 62)
  (q:R (La lo (hi-lo).toNat) H):wpAny (model X.prog X.w) X.A (pyIter (.ref s.heap.objs.size)) (Yr X pins Y tg R) E {s with heap:=s.heap.push {cls:=.type "range",data:=.fields #[.int lo t,.int hi u,.int 1 v]},toks:=tk}:=by
 refine wpAny_pyIter_range (IsRange.new ..) (small_one h1 h2 h3 h4) ?_;have I1:AI X pins Y H {s with heap:=s.heap.push {cls:=.type "range",data:=.fields #[.int lo t,.int hi u,.int 1 v]},toks:=tk}:=I.kept λb o e=>Heap.get?_push_of_some _ e
 refine⟨(s.heap.push {cls:=.type "range",data:=.fields #[.int lo t,.int hi u,.int 1 v]}).objs.size,[(s.heap.push {cls:=.type "range",data:=.fields #[.int lo t,.int hi u,.int 1 v]}).objs.size],_,_,H,rfl,
  I1.kept (t':=tk) λb o e=>Heap.get?_push_of_some _ e,AAi _ lo (hi-lo).toNat,?_,λb hb=>?_,q⟩
 .have e1:lo+((0:Nat):Int)*1=lo:=by simp
  have e2:(((hi-lo).toNat:Nat):Int)-((0:Nat):Int)=Builtin.Range.rangeSize lo hi 1:=by rw[rangeSize_one];split <;> omega
  show IsRangeIter _ _ (lo+((0:Nat):Int)*1) ((((hi-lo).toNat:Nat):Int)-((0:Nat):Int)) 1;rw[e1,e2];exact Heap.get?_push_size _ rfl
 .have e:b=(s.heap.push {cls:=.type "range",data:=.fields #[.int lo t,.int hi u,.int 1 v]}).objs.size:=by simpa using hb
  subst e;exact I1.fpOk (Af _) (I1.hok.fresh (Af _))
abbrev AFW(ta:TA):TI:=λY H R=>ta Y H λvs H1=>∃j:Int,vs=[.int j]/\-(2 ^ 62)<=j/\j<2 ^ 62/\R (La 0 j.toNat) H1
abbrev AFV(ta:TA):TI:=λY H R=>ta Y H λvs H1=>∃i j:Int,vs=[.int i,.int j]/\(-(2 ^ 62)<=i/\i<2 ^ 62/\-(2 ^ 62)<=j/\j<2 ^ 62)/\R (La i (j-i).toNat) H1
def AC6{a:Expr}{ta:TA}{p pos:Pos}(hg:Gl X "range")(hm:X.mg "range"=none)(ha:PA X [a] ta)(hs:starEach [a] X.env=[(false,eval a X.env)]):PI X tg (.Call (.Name "range" p) [a] [] pos) (AFW ta):=by
 intro pins s Y H R I h;refine Call_ (Gx I hg hm boot_range (PyProof.Rows.callWith_type1 (Ae (ha pos pins s Y H _ I h) λus s1 z2_=>?_) hs rfl));obtain⟨vs,H1,I1,r1,q1⟩:=z2_;obtain⟨j,e,q1,q2,q⟩:=q1;subst e
 cases r1 with
 |cons r rr =>
  cases rr;obtain⟨t,rfl⟩:=r;exact call_range_1 (VY I1 (by omega) (by omega) q1 q2 (by simpa using q))
def AC5{a b:Expr}{ta:TA}{p pos:Pos}(hg:Gl X "range")(hm:X.mg "range"=none)(ha:PA X [a,b] ta)(hs:starEach [a,b] X.env=[(false,eval a X.env),(false,eval b X.env)])(hs2:starEach [b] X.env=[(false,eval b X.env)]) :
  PI X tg (.Call (.Name "range" p) [a,b] [] pos) (AFV ta):=by
 intro pins s Y H R I h;refine Call_ (Gx I hg hm boot_range (PyProof.Rows.callWith_type1 (Ae (ha pos pins s Y H _ I h) λus s1 z2_=>?_) (by rw[hs,hs2]) (by rw[hs2];rfl)));obtain⟨vs,H1,I1,r1,q1⟩:=z2_;obtain⟨i,j,e,⟨q1,q2,q3,q4⟩,q⟩:=q1;subst e
 cases r1 with
 |cons r rr =>
  cases rr with
  |cons r' rr =>
   cases rr;obtain⟨t,rfl⟩:=r;obtain⟨t',rfl⟩:=r';exact call_range_2 (VY I1 q1 q2 q3 q4 q)
abbrev ABB(wi:TI)(g:TG)(tb:TS):TS:=λD Y H=>wi Y H λJ H1=>∃W:Nat->Nat->St->Hp->Prop,(∃m,W 0 m Y H1)/\∀i m Y H,W i m Y H ->
 (J.stop i H/\D.nx Y H)\/(J.go i H/\∃N:St->Hp->Prop,(∀Y' H',N Y' H'->∃m',m'<m/\W (i+1) m' Y' H')/\∀x H',J.yld i H x H'->g x Y H' λY2 H2=>tb {D with nx:=N,ct:=N,bk:=D.nx} Y2 H2)
abbrev JA(fp:ANG)(h:Heap):List (Addr×Obj):=fp.filterMap λb=>(h.get? b).map λo=>(b,o)
def JF{fp:ANG}{h:Heap}{b:Addr}{o:Obj}(hb:b∈fp)(e:h.get? b=some o):(b,o)∈JA fp h:=AMb.mpr ⟨b,hb,by rw[e];rfl⟩
def AD9{fp:ANG}{h:Heap}{p:Addr×Obj}(hp:p∈JA fp h):p.1∈fp/\h.get? p.1=some p.2:=by
 obtain⟨b,hb,e⟩:=AMb.mp hp
 cases q:h.get? b with
 |none=>rw[q] at e;cases e
 |some o =>
  rw[q] at e;have e':(b,o)=p:=Option.some.inj e;subst e';exact⟨hb,q⟩
def AI.pinned{pins:List (Addr×Obj)}{Y:St}{H:Hp}{s:Shared}{fp:ANG}(I:AI X pins Y H s)(hf:∀b∈fp,ET X pins H b)(ho:∀b∈fp,∃o,s.heap.get? b=some o/\∀v,o.data≠.cell v):AI X (pins++JA fp s.heap) Y H s :=
 I.pins_of λp hp=>(Bi.mp hp).elim (λz=>I.pin p (Ej _ z)) λz=>by
  obtain⟨hb,e⟩:=AD9 z;obtain⟨f0,f1,f2,_⟩:=hf p.1 hb;obtain⟨o,e',d⟩:=ho p.1 hb;rw[e] at e';cases e';exact⟨e,f0,f1,f2,d⟩
def AI.unpinned{pins pl:List (Addr×Obj)}{Y:St}{H:Hp}{s:Shared}(I:AI X (pins++pl) Y H s):AI X pins Y H s:=I.pins_of λp hp=>I.pin p (Ej _ (ALh _ hp))
def ACh{iter:Expr}{body:ANI}{wi:TI}{g:TG}{tb:TS}{pos:Pos}(hp:PassesOwn (model X.prog X.w) X.A X.env X.xe)(hc:X.calm=true)(hi:PI X tg iter wi)(hg:PG X tg g)(hb:Dj X body tb)
  (hs:∀x,foldedSetIterable iter X.env x=pure x:=by intro _;rfl):PS X (.For tg iter body [] pos) (ABB wi g tb):=by
 intro pins s Y H D I h;refine wpAny_For (Ae (hi pins s Y H _ I h) λv s1 h1=>Ae h1 λitv s2 h2=>?_) hs;obtain⟨it,fp,tn,J,H2,e,I2,T,st2,f2,W,⟨m0,w0⟩,turn⟩:=h2;subst e
 -- what stays true of the iterator's objects through the loop
 have stat:∀{H':Hp},(∀b∈fp,H' b=none)->∀b∈fp,ET X pins H' b:=λhn b hb=>⟨hn b hb,(f2 b hb).2⟩;refine codeAny_forLoop_any (λn s'=>∃i Y' H',AI X pins Y' H' s'/\tn i s'.heap/\(∀b∈fp,H' b=none)/\W i n Y' H') ?_ m0 ⟨0,Y,H2,I2,st2,λb hb=>(f2 b hb).1,w0⟩;rintro n s3 ⟨i,Y3,H3,I3,st3,fr3,w3⟩;rcases turn i n Y3 H3 w3 with⟨stop,qn⟩|⟨go,N,hN,step⟩
 .refine AM2 hp (Ae (T.done X rfl rfl rfl hc i pins s3 Y3 H3 X.xe I3 (stat fr3) st3 stop) λr s4 z2_=>?_);obtain⟨hr,I4⟩:=z2_;subst hr;exact wpAny_execs_nil ⟨Y3,H3,I4,qn⟩
 .refine AM2 hp (Ae (T.item X rfl rfl rfl hc i pins s3 Y3 H3 X.xe I3 (stat fr3) st3 go) λr s4 z2_=>?_);obtain⟨u,hr,h4⟩:=z2_;subst hr;refine AM2 hp (Ae h4 λ_ s5 z2_=>?_);obtain⟨x,H5,I5,r5,y5,st5,fr5⟩:=z2_;have I5':=I5.pinned (stat fr5) (T.obj _ _ st5);refine AM2 hp (Ae (hg _ s5 Y3 H5 x u _ I5' r5 (step x H5 y5)) λ_ s6 z2_=>?_);obtain⟨Y6,H6,I6,q6⟩:=z2_;refine AM2 hp (Ae (hb _ s6 Y6 H6 _ I6 q6) λf s7 q7=>?_)
  have again:∀{Y7:St} {H7:Hp},AI X (pins++JA fp s5.heap) Y7 H7 s7->N Y7 H7->∃m,m<n/\∃i Y' H',AI X pins Y' H' s7/\tn i s7.heap/\(∀b∈fp,H' b=none)/\W i m Y' H':=λ{Y7 H7} I7 n7=>by
   obtain⟨m',hm,w7⟩:=hN Y7 H7 n7;refine⟨m',hm,i+1,Y7,H7,I7.unpinned,T.keep _ _ _ st5 λb hb o e=>(I7.pin (b,o) (Ej _ (Ej _ (JF hb e)))).1,λb hb=>?_,w7⟩;obtain⟨o,e,d⟩:=T.obj _ _ st5 b hb;exact(I7.pin (b,o) (Ej _ (Ej _ (JF hb e)))).2.1
  cases f with
  |next=>obtain⟨Y7,H7,I7,n7⟩:=q7;exact again I7 n7
  |cont=>obtain⟨Y7,H7,I7,n7⟩:=q7;exact again I7 n7
  |brk=>obtain⟨Y7,H7,I7,q7⟩:=q7;exact⟨Y7,H7,I7.unpinned,q7⟩
  |ret v=>obtain⟨x7,Y7,H7,I7,r7,q7⟩:=q7;exact⟨x7,Y7,H7,I7.unpinned,r7,q7⟩
end
noncomputable abbrev R2:=V->V->Hp->VK->Prop
abbrev Au(X:Cx)(f:Value->Value->Sem Value)(r:R2):Prop :=
 ∀(pins:List (Addr×Obj)) (s:Shared) (Y:St) (H:Hp) (x y:V) (v u:Value) (Q:VK),AI X pins Y H s->Ac x v->Ac y u->r x y H Q ->
  wpAny (model X.prog X.w) X.A (f v u) (EP X pins Y Q) X.xe s
abbrev Si(X:Cx)(f:Value->Sem Value)(r:V->Hp->VK->Prop):Prop :=
 ∀(pins:List (Addr×Obj)) (s:Shared) (Y:St) (H:Hp) (x:V) (v:Value) (Q:VK),AI X pins Y H s->Ac x v->r x H Q ->
  wpAny (model X.prog X.w) X.A (f v) (EP X pins Y Q) X.xe s
abbrev Bx(X:Cx)(f:Value)(r:List V->Hp->VK->Prop):Prop :=
 ∀(pins:List (Addr×Obj)) (s:Shared) (Y:St) (H:Hp) (xs:List V) (us:ANF) (Q:VK),AI X pins Y H s->Ab xs us->r xs H Q ->
  wpAny (model X.prog X.w) X.A (call f us) (EP X pins Y Q) X.xe s
abbrev Kh(r:R2)(ta tb:TE):TE:=λY H Q=>ta Y H λx H1=>tb Y H1 λy H2=>r x y H2 Q
abbrev tUn(r:V->Hp->VK->Prop)(ta:TE):TE:=λY H Q=>ta Y H λx H1=>r x H1 Q
abbrev rI(C:Int->Int->Prop)(g:Int->Int->V):R2:=λx y H Q=>∃i j,x=.int i/\y=.int j/\C i j/\Q (g i j) H
abbrev HP(g:Int->Int->V):R2:=λx y H Q=>∃i j,x=.int i/\y=.int j/\Q (g i j) H
abbrev rU(g:Int->V):V->Hp->VK->Prop:=λx H Q=>∃i,x=.int i/\Q (g i) H
section
variable {X:Cx}{a b c:Expr}{ta tb tc:TE}{pos:Pos}
def SW(ha:PE X a ta)(hb:PE X b tb){pins:List (Addr×Obj)}{s:Shared}{Y:St}{H:Hp}{R:V->V->Hp->Prop}(I:AI X pins Y H s)
  (h:ta Y H λx H1=>tb Y H1 λy H2=>R x y H2) {Q:ANL} {f:Value->Value->Sem Value}
  (hf:∀v u s2 x y H2,AI X pins Y H2 s2->Ac x v->Ac y u->R x y H2->wpAny (model X.prog X.w) X.A (f v u) Q X.xe s2) :
  wpAny (model X.prog X.w) X.A (eval a X.env) (λv s₁=>wpAny (model X.prog X.w) X.A (eval b X.env) (λu s₂=>wpAny (model X.prog X.w) X.A (f v u) Q X.xe s₂) X.xe s₁) X.xe s:=by
 refine Ae (ha pins s Y H _ I h) λv s1 z2_=>?_;obtain⟨x,H1,I1,r1,q1⟩:=z2_;refine Ae (hb pins s1 Y H1 _ I1 q1) λu s2 z2_=>?_;obtain⟨y,H2,I2,r2,q2⟩:=z2_;exact hf v u s2 x y H2 I2 r1 r2 q2
def ADI{op:Operator}{r:R2}(ho:Au X (binaryOp op) r)(ha:PE X a ta)(hb:PE X b tb):PE X (.BinOp a op b pos) (Kh r ta tb):=by intro pins s Y H Q I h;exact wpAny_BinOp (SW ha hb I h λv u s2 x y H2 I2 rx ry q=>ho pins s2 Y H2 x y v u Q I2 rx ry q)
def ADD{op:UnaryOp}{r:V->Hp->VK->Prop}(ho:Si X (unaryOp op) r)(ha:PE X a ta):PE X (.UnaryOp op a pos) (tUn r ta):=by intro pins s Y H Q I h;exact UnaryOp_ (Ae (ha pins s Y H _ I h) λv s1 z2_=>(by obtain⟨x,H1,I1,r1,q1⟩:=z2_;exact ho pins s1 Y H1 x v Q I1 r1 q1))
def NM{f:Value->Value->Sem Value}{C:Int->Int->Prop}{g:Int->Int->Int}
  (rule:∀(i j:Int) (t u:Tok) (s:Shared) (Q:ANL) (E:ANL),C i j->Q (.int (g i j) s.toks) {s with toks:=s.toks+1}->wpAny (model X.prog X.w) X.A (f (.int i t) (.int j u)) Q E s) :
  Au X f (rI C λi j=>.int (g i j)):=by
 intro pins s Y H x y v u Q I rx ry h;obtain⟨i,j,rfl,rfl,hc,q⟩:=h;obtain⟨t,rfl⟩:=rx;obtain⟨t',rfl⟩:=ry;exact rule i j t t' s _ _ hc ⟨.int (g i j),H,I.tok _,⟨_,rfl⟩,q⟩
def WA{f:Value->Value->Sem Value}{g:Int->Int->Int}
  (rule:∀(i j:Int) (t u:Tok) (s:Shared) (Q:ANL) (E:ANL),Q (.int (g i j) s.toks) {s with toks:=s.toks+1}->wpAny (model X.prog X.w) X.A (f (.int i t) (.int j u)) Q E s) :
  Au X f (HP λi j=>.int (g i j)):=by
 intro pins s Y H x y v u Q I rx ry h;obtain⟨i,j,rfl,rfl,q⟩:=h;obtain⟨t,rfl⟩:=rx;obtain⟨t',rfl⟩:=ry;exact rule i j t t' s _ _ ⟨.int (g i j),H,I.tok _,⟨_,rfl⟩,q⟩
def NN{f:Value->Value->Sem Value}{g:Int->Int->Bool}
  (rule:∀(i j:Int) (t u:Tok) (s:Shared) (Q:ANL) (E:ANL),Q (.bool (g i j)) s->wpAny (model X.prog X.w) X.A (f (.int i t) (.int j u)) Q E s) :
  Au X f (HP λi j=>.bl (g i j)):=by
 intro pins s Y H x y v u Q I rx ry h;obtain⟨i,j,rfl,rfl,q⟩:=h;obtain⟨t,rfl⟩:=rx;obtain⟨t',rfl⟩:=ry;exact rule i j t t' s _ _ ⟨.bl (g i j),H,I,rfl,q⟩
abbrev AHg(i j:Int):Prop:=0<=j/\j<=1000000/\i.natAbs<2 ^ 64
abbrev ZB(i j:Int):Prop:=(-(2 ^ 64)<i/\i<2 ^ 64)\/(-(2 ^ 64)<j/\j<2 ^ 64)
def ZB.ok{i j:Int}(h:ZB i j):IntMulOk i j:=by
 rcases h with⟨h1,h2⟩|⟨h1,h2⟩
 .exact .of_left (intBits_le_64 h1 h2)
 .exact .of_right (intBits_le_64 h1 h2)
def AD5:Au X (binaryOp .Add) (HP λi j=>.int (i+j)):=WA λ_ _ _ _ _ _ _ q=>add_int q
def ADn:Au X (binaryOp .Sub) (HP λi j=>.int (i-j)):=WA λ_ _ _ _ _ _ _ q=>sub_int q
def ADt:Au X (binaryOp .Mod) (rI (λ_ j=>0<j) λi j=>.int (i % j)):=NM λi j _ _ _ _ _ hc q=>by
 have h1:(0:Int)<j:=hc;exact mod_int' (by omega) (by rw[Int.fmod_eq_emod_of_nonneg i (by omega)];exact q)
def ADo:Au X (binaryOp .Pow) (rI AHg λi j=>.int (i ^ j.toNat)):=NM λ_ _ _ _ _ _ _ hc q=>pow_int_small hc.1 hc.2.1 hc.2.2 q
def unI{f:Value->Sem Value}{g:Int->Int}
  (rule:∀(i:Int) (t:Tok) (s:Shared) (Q:ANL) (E:ANL),Q (.int (g i) s.toks) {s with toks:=s.toks+1}->wpAny (model X.prog X.w) X.A (f (.int i t)) Q E s) :
  Si X f (rU λi=>.int (g i)):=by
 intro pins s Y H x v Q I rx h;obtain⟨i,rfl,q⟩:=h;obtain⟨t,rfl⟩:=rx;exact rule i t s _ _ ⟨.int (g i),H,I.tok _,⟨_,rfl⟩,q⟩
def AAd:Si X (unaryOp .USub) (rU λi=>.int (-i)):=unI λ_ _ _ _ _ q=>neg_int q
end
abbrev Qy:V->V->Bool
 |.non,.non=>true|.non,.int _=>true|.int _,.non=>true|.non,.bl _=>true|.bl _,.non=>true|.non,.str _=>true|.str _,.non=>true
 |.int _,.int _=>true|.bl _,.bl _=>true|.str _,.str _=>true|.byt _,.byt _=>true
 |.int _,.str _=>true|.str _,.int _=>true|.bl _,.str _=>true|.str _,.bl _=>true
 |_,_=>false
abbrev rEq:R2:=λx y H Q=>Qy x y=true/\Q (.bl (decide (x=y))) H
abbrev rNe:R2:=λx y H Q=>Qy x y=true/\Q (.bl (!decide (x=y))) H
def YC{i j:Int}:decide (V.int i=V.int j)=(i == j):=by rw[AMA];simp
def YE{i j:Bool}:decide (V.bl i=V.bl j)=(i == j):=by rw[AMA];simp
def YB{i j:Str}:decide (V.str i=V.str j)=(i == j):=by rw[AMA];simp
def YD{i j:Array UInt8}:decide (V.byt i=V.byt j)=(i.toList == j.toList):=by rw[AMA];cases i;cases j;simp
section
variable {X:Cx}{a b c:Expr}{ta tb tc:TE}{pos:Pos}
def BK{pins:List (Addr×Obj)}{Y:St}{H:Hp}{s:Shared}{Q:VK}{k k':Bool}(I:AI X pins Y H s)(q:Q (.bl k) H)(e:k=k'):EP X pins Y Q (.bool k') s:=by subst e;exact⟨.bl k,H,I,rfl,q⟩
def AD1:Au X (compareOp .Eq) rEq:=by
 intro pins s Y H x y v u Q I rx ry h;obtain⟨hs,q⟩:=h
 cases x with
 |non =>
  cases rx
  cases y with
  |non=>cases ry;exact PySem.EqNone.eq_none_none (BK I q (by simp))
  |bl j=>cases ry;exact PySem.EqNone.eq_none_bool (BK I q (by simp))
  |int j=>obtain⟨t',rfl⟩:=ry;exact PySem.EqNone.eq_none_int (BK I q (by simp))
  |str j=>obtain⟨t',rfl⟩:=ry;exact PySem.EqNone.eq_none_str (BK I q (by simp))
  |_=>exact absurd (show false=true from hs) Cf
 |bl i =>
  cases rx
  cases y with
  |non=>cases ry;exact PySem.EqNone.eq_bool_none (BK I q (by simp))
  |bl j=>cases ry;exact eq_bool (BK I q YE)
  |str j=>obtain⟨t',rfl⟩:=ry;exact PySem.EqMixed.eq_bool_str (BK I q (by simp))
  |_=>exact absurd (show false=true from hs) Cf
 |int i =>
  obtain⟨t,rfl⟩:=rx
  cases y with
  |non=>cases ry;exact PySem.EqNone.eq_int_none (BK I q (by simp))
  |int j=>obtain⟨t',rfl⟩:=ry;exact eq_int (BK I q YC)
  |str j=>obtain⟨t',rfl⟩:=ry;exact PySem.EqMixed.eq_int_str (BK I q (by simp))
  |_=>exact absurd (show false=true from hs) Cf
 |str i =>
  obtain⟨t,rfl⟩:=rx
  cases y with
  |non=>cases ry;exact PySem.EqNone.eq_str_none (BK I q (by simp))
  |bl j=>cases ry;exact PySem.EqMixed.eq_str_bool (BK I q (by simp))
  |int j=>obtain⟨t',rfl⟩:=ry;exact PySem.EqMixed.eq_str_int (BK I q (by simp))
  |str j=>obtain⟨t',rfl⟩:=ry;exact eq_str (BK I q YB)
  |_=>exact absurd (show false=true from hs) Cf
 |byt i =>
  obtain⟨t,rfl⟩:=rx
  cases y with
  |byt j=>obtain⟨t',rfl⟩:=ry;exact PySem.W.eq_bytes (BK I q YD)
  |_=>exact absurd (show false=true from hs) Cf
 |_=>cases y <;> exact absurd (show false=true from hs) Cf
def Vz:Au X (compareOp .NotEq) rNe:=by
 intro pins s Y H x y v u Q I rx ry h;obtain⟨hs,q⟩:=h
 cases x with
 |non =>
  cases rx
  cases y with
  |non=>cases ry;exact PySem.EqNone.ne_none_none (BK I q (by simp))
  |bl j=>cases ry;exact PySem.EqNone.ne_none_bool (BK I q (by simp))
  |int j=>obtain⟨t',rfl⟩:=ry;exact PySem.EqNone.ne_none_int (BK I q (by simp))
  |str j=>obtain⟨t',rfl⟩:=ry;exact PySem.EqNone.ne_none_str (BK I q (by simp))
  |_=>exact absurd (show false=true from hs) Cf
 |bl i =>
  cases rx
  cases y with
  |non=>cases ry;exact PySem.EqNone.ne_bool_none (BK I q (by simp))
  |bl j=>cases ry;exact ne_bool (BK I q (congrArg not YE))
  |str j=>obtain⟨t',rfl⟩:=ry;exact PySem.EqMixed.ne_bool_str (BK I q (by simp))
  |_=>exact absurd (show false=true from hs) Cf
 |int i =>
  obtain⟨t,rfl⟩:=rx
  cases y with
  |non=>cases ry;exact PySem.EqNone.ne_int_none (BK I q (by simp))
  |int j=>obtain⟨t',rfl⟩:=ry;exact ne_int (BK I q (congrArg not YC))
  |str j=>obtain⟨t',rfl⟩:=ry;exact PySem.EqMixed.ne_int_str (BK I q (by simp))
  |_=>exact absurd (show false=true from hs) Cf
 |str i =>
  obtain⟨t,rfl⟩:=rx
  cases y with
  |non=>cases ry;exact PySem.EqNone.ne_str_none (BK I q (by simp))
  |bl j=>cases ry;exact PySem.EqMixed.ne_str_bool (BK I q (by simp))
  |int j=>obtain⟨t',rfl⟩:=ry;exact PySem.EqMixed.ne_str_int (BK I q (by simp))
  |str j=>obtain⟨t',rfl⟩:=ry;exact ne_str (BK I q (congrArg not YB))
  |_=>exact absurd (show false=true from hs) Cf
 |byt i =>
  obtain⟨t,rfl⟩:=rx
  cases y with
  |byt j=>obtain⟨t',rfl⟩:=ry;exact PySem.W.ne_bytes (BK I q (congrArg not YD))
  |_=>exact absurd (show false=true from hs) Cf
 |_=>cases y <;> exact absurd (show false=true from hs) Cf
def op_lt:Au X (compareOp .Lt) (HP λi j=>.bl (decide (i<j))):=NN λ_ _ _ _ _ _ _ q=>lt_int q
def ADu:Au X (compareOp .LtE) (HP λi j=>.bl (decide (i<=j))):=NN λ_ _ _ _ _ _ _ q=>le_int q
def ADy:Au X (compareOp .Gt) (HP λi j=>.bl (decide (j<i))):=NN λ_ _ _ _ _ _ _ q=>gt_int q
def ADz:Au X (compareOp .GtE) (HP λi j=>.bl (decide (j<=i))):=NN λ_ _ _ _ _ _ _ q=>ge_int q
def ADw:Au X (compareOp .In) (λx y H Q=>∃i j,x=.str i/\y=.str j/\Q (.bl (!(Builtin.Str.occurrences j i 0 j.length 1).isEmpty)) H):=by intro pins s Y H x y v u Q I rx ry h;obtain⟨i,j,rfl,rfl,q⟩:=h;obtain⟨t,rfl⟩:=rx;obtain⟨t',rfl⟩:=ry;exact in_str (BK I q rfl)
def op_isN:Au X (compareOp .Is) (λx y H Q=>y=.non/\Q (.bl (decide (x=.non))) H):=by
 intro pins s Y H x y v u Q I rx ry h;obtain⟨rfl,q⟩:=h;cases ry;refine is_none_gen (BK I q ?_)
 cases x <;> first
  |(cases rx;rfl)
  |(obtain⟨t,rfl⟩:=rx;rfl)
def ADp:Au X (compareOp .IsNot) (λx y H Q=>y=.non/\Q (.bl (!decide (x=.non))) H):=by
 intro pins s Y H x y v u Q I rx ry h;obtain⟨rfl,q⟩:=h;cases ry;refine isnot_none_gen (BK I q ?_)
 cases x <;> first
  |(cases rx;rfl)
  |(obtain⟨t,rfl⟩:=rx;rfl)
def op_notin_str:Au X (compareOp .NotIn) (λx y H Q=>∃i j,x=.str i/\y=.str j/\Q (.bl (!(!(Builtin.Str.occurrences j i 0 j.length 1).isEmpty))) H):=by intro pins s Y H x y v u Q I rx ry h;obtain⟨i,j,rfl,rfl,q⟩:=h;obtain⟨t,rfl⟩:=rx;obtain⟨t',rfl⟩:=ry;exact notIn_str (BK I q rfl)
def Au.or{f:Value->Value->Sem Value}{r r':R2}(h:Au X f r)(h':Au X f r'):Au X f (λx y H Q=>r x y H Q\/r' x y H Q):=by
 intro pins s Y H x y v u Q I rx ry q;rcases q with q|q
 .exact h pins s Y H x y v u Q I rx ry q
 .exact h' pins s Y H x y v u Q I rx ry q
def ADT{op:CmpOp}{r:R2}(ho:Au X (compareOp op) r)(ha:PE X a ta)(hb:PE X b tb)(hm:behindInMarks op b=false):PE X (.Compare a [op] [b] pos) (Kh r ta tb):=by intro pins s Y H Q I h;exact wpAny_Compare1 (SW ha hb I h λv u s2 x y H2 I2 rx ry q=>ho pins s2 Y H2 x y v u Q I2 rx ry q) hm
abbrev Uk(t:TE):TT:=λY H Q=>t Y H λx H'=>∃k,x=.bl k/\Q k H'
def ACX{op:CmpOp}{r:R2}(ho:Au X (compareOp op) r)(ha:PE X a ta)(hb:PE X b tb)(hm:behindInMarks op b=false):PT X (.Compare a [op] [b] pos) (Uk (Kh r ta tb)):=by
 intro pins s Y H Q I h
 refine wpAny_isTrue_Compare1 (Ae (ha pins s Y H _ I h) λv s1 ⟨x,H1,I1,r1,q1⟩=>Ae (hb pins s1 Y H1 _ I1 q1) λu s2 ⟨y,H2,I2,r2,q2⟩ =>
  Ae (ho pins s2 Y H2 x y v u _ I2 r1 r2 q2) λc s3 ⟨z,H3,I3,r3,k,e,q3⟩=>?_) hm
 subst e;cases r3;exact AM1 ⟨H3,I3,q3⟩
abbrev Uo(r r':R2)(ta tb tc:TE):TE:=λY H Q=>ta Y H λx H1=>tb Y H1 λy H2=>r x y H2 λz H3=>∃k,z=.bl k /\
 (if k=true then tc Y H3 λw' H4=>r' y w' H4 Q else Q (.bl false) H3)
def ACY{op op':CmpOp}{r r':R2}(ho:Au X (compareOp op) r)(ho':Au X (compareOp op') r')(ha:PE X a ta)(hb:PE X b tb)(hc:PE X c tc)
  (hm:lastMarks [op,op'] [b,c]=false):PT X (.Compare a [op,op'] [b,c] pos) (Uk (Uo r r' ta tb tc)):=by
 intro pins s Y H Q I h
 refine isTrue_chain (Ae (ha pins s Y H _ I h) λv s1 ⟨x,H1,I1,r1,q1⟩=>test_link (Ae (hb pins s1 Y H1 _ I1 q1) λu s2 ⟨y,H2,I2,r2,q2⟩ =>
  Ae (ho pins s2 Y H2 x y v u _ I2 r1 r2 q2) λd s3 ⟨z,H3,I3,r3,k,e,q3⟩=>?_)) hm
 subst e;cases r3;refine AM1 ?_
 cases k with
 |false =>
  obtain⟨k',e',q'⟩:=q3;cases e';exact ite_ff ⟨H3,I3,q'⟩
 |true =>
  refine ite_tt (test_last (Ae (hc pins s3 Y H3 _ I3 q3) λw' s4 z2_=>?_));obtain⟨z',H4,I4,r4,q4⟩:=z2_;refine Ae (ho' pins s4 Y H4 y z' u w' _ I4 r2 r4 q4) λd' s5 z2_=>?_;obtain⟨z2,H5,I5,r5,k2,e2,q5⟩:=z2_;subst e2;cases r5;exact AM1 ⟨H5,I5,q5⟩
def JH:(sizeLine:Nat)<2 ^ 63:=by rw[sizeLine_eq];decide
def AD4:Au X (binaryOp .Add) (λx y H Q=>∃i j,x=.str i/\y=.str j/\i.length+j.length<=sizeLine/\Q (.str (i++j)) H):=by intro pins s Y H x y v u Q I rx ry h;obtain⟨i,j,rfl,rfl,hz,q⟩:=h;obtain⟨t,rfl⟩:=rx;obtain⟨t',rfl⟩:=ry;exact add_str (λt' tk=>⟨.str (i++j),H,I.tok _,⟨_,rfl⟩,q⟩) hz
def Dk{x:V}{us:ANF}(r:Ab [x] us):∃u,us=[u]/\Ac x u:=by
 cases r with
 |cons r1 r2=>cases r2;exact⟨_,rfl,r1⟩
def Qo{x y:V}{us:ANF}(r:Ab [x,y] us):∃u w',us=[u,w']/\Ac x u/\Ac y w':=by
 cases r with
 |cons r1 r2 =>
  cases r2 with
  |cons r3 r4=>cases r4;exact⟨_,_,rfl,r1,r3⟩
def AGw:Bx X (.builtin "abs") (λxs H Q=>∃i,xs=[.int i]/\Q (.int (if i<0 then -i else i)) H):=by
 intro pins s Y H xs us Q I r h;obtain⟨i,rfl,q⟩:=h;obtain⟨u,rfl,t,rfl⟩:=Dk r
 exact call_abs_int λu tk=>⟨.int (if i<0 then -i else i),H,I.tok _,⟨_,rfl⟩,q⟩
def AGq(hc:X.calm=true):Bx X (.builtin "max") (λxs H Q=>∃i j,xs=[.int i,.int j]/\Q (.int (if j>i then j else i)) H):=by
 intro pins s Y H xs us Q I r h;obtain⟨i,j,rfl,q⟩:=h;obtain⟨u,w',rfl,⟨t,rfl⟩,⟨t',rfl⟩⟩:=Qo r;refine max_two_ints (I.ok.hd hc) λh' tk k=>⟨_,H,I.kept k,?_,q⟩
 by_cases hj:j>i
 .rw[if_pos hj,if_pos hj];exact⟨_,rfl⟩
 .rw[if_neg hj,if_neg hj];exact⟨_,rfl⟩
def AGp(hc:X.calm=true):Bx X (.builtin "min") (λxs H Q=>∃i j,xs=[.int i,.int j]/\Q (.int (if j<i then j else i)) H):=by
 intro pins s Y H xs us Q I r h;obtain⟨i,j,rfl,q⟩:=h;obtain⟨u,w',rfl,⟨t,rfl⟩,⟨t',rfl⟩⟩:=Qo r;refine min_two_ints (I.ok.hd hc) λh' tk k=>⟨_,H,I.kept k,?_,q⟩
 by_cases hj:j<i
 .rw[if_pos hj,if_pos hj];exact⟨_,rfl⟩
 .rw[if_neg hj,if_neg hj];exact⟨_,rfl⟩
def AGu:Bx X (.type "int") (λxs H Q=>(∃i,xs=[.int i]/\Q (.int i) H)\/∃k,xs=[.bl k]/\Q (.int (if k then 1 else 0)) H):=by
 intro pins s Y H xs us Q I r h;rcases h with⟨i,rfl,q⟩|⟨k,rfl,q⟩
 .obtain⟨u,rfl,t,rfl⟩:=Dk r;exact call_int_int ⟨.int i,H,I,⟨_,rfl⟩,q⟩
 .obtain⟨u,rfl,r1⟩:=Dk r;cases r1
  exact call_int_bool ⟨.int (if k then 1 else 0),H,I.tok _,⟨_,rfl⟩,q⟩
end
structure Ji (h:Heap) (x dx C:Addr) (mA:AND):Prop where
 obj:h.get? x=some (ALo C dx)
 ns:h.Ns1 dx mA
 ne:dx≠x
def AEv{h:Heap}{dx:Addr}{mA:AND}(n:h.Ns1 dx mA):∃od,h.get? dx=some od/\∀name,PySem.W.lookIn name od=some (mA name):=by
 obtain⟨o,es,ep,ho,hd,hk,_,hm⟩:=n;refine⟨o,ho,λname=>?_⟩;have e:=hm name;unfold nsFind findBy at e;rw[<-Array.find?_toList] at e;unfold PySem.W.lookIn;rw[hd];dsimp only;split
 .rename_i y q;rw[q] at e;exact congrArg some e
 .rename_i q;rw[q] at e
  have a:es.toList.any (·.refKey)=false:=by rw[List.any_eq_false];intro y hy;obtain⟨z,t,hkey⟩:=hk y (Array.mem_toList_iff.mp hy);simp[DictEntry.refKey,hkey]
  have a':¬es.toList.any (·.refKey)=true:=by rw[a];exact Cf
  rw[if_neg a'];exact congrArg some e
def Ji.look{h:Heap}{x dx C:Addr}{mA:AND}(I:Ji h x dx C mA):∃od,PySem.W.InstAt h x (ALo C dx) C (some od)/\∀name,PySem.W.lookIn name od=some (mA name) :=
 let ⟨od,ho,hl⟩:=AEv I.ns
 ⟨od,⟨I.obj,rfl,rfl,ho⟩,hl⟩
section
variable {prog:Program}{w:World}{A:Around}{E:ANL}{s:Shared}{K:AL}{x dx C f:Addr}{mA:AND}{name:Str}{v:Value}
def AFd{expr:Bool}{Q:ANL}(X:K.In s.heap)(I:Ji s.heap x dx C mA)(hg:AMI K C name=true)(hh:AMJ K C=true)
  (ha:Da K (.ref C) name=some none) (hv:mA name=some v) (hv':PySem.W.handedIn v=true) (h:Q v {s with toks:=s.toks+1}) :
  wpAny (model prog w) A (getAttr (.ref x) name expr) Q E s:=by
 obtain⟨od,J,hl⟩:=I.look;exact PySem.W.get_value X J (PySem.W.plainGet_of hg).1 (PySem.W.findObj_own hh ha rfl (by rw[hl,hv])) hv' h
def ABl{ns:ANE}{Q:Unit->Shared->Prop}(X:K.In s.heap)(I:Ji s.heap x dx C mA)
  (hs:Da K (.ref C) "__setattr__"=some (some (.builtin "object.__setattr__"))) (hp:AMc K C=true) (ht:PySem.W.takerIn K C name=some none) (hh:AMJ K C=true)
  (hw:PySem.Within mA ns) (hsz:ns.length<=sizeLine)
  (h:∀h',Ji h' x dx C (λy=>if y=name then some v else mA y)->Heap.SameBut dx s.heap h'->Q () {s with heap:=h',toks:=s.toks+2}) :
  wpAny (model prog w) A (setAttr (.ref x) name v) Q E s:=by
 obtain⟨od,J,hl⟩:=I.look;refine PySem.W.set_plain X J hs (PySem.W.osa_open (s:={s with toks:=s.toks+1}) (r:=none) X J hp ht λb=>?_);obtain⟨cd,hc,hd'⟩:=PySem.W.any_some hh;have hx:s.heap.get? x=some ⟨.ref C,some dx,.plain,#[]⟩:=I.obj;refine AH (AN (AH (AH (wpAny_loadPart hx (AH (PySem.W.Looks.here (s:={s with toks:=s.toks+1}) (PySem.W.looks_clsIn X hc) ?_))))));rw[hd'];refine AN (a:=some dx) (AH (AN (AH ?_)));refine wpAny_nsSet1 (s:={s with toks:=s.toks+1}) I.ns λh' hn2 hs2=>?_;obtain⟨oD,esD,epD,hoD,hdD,hcD⟩:=hn2.count (PySem.Within.cons name v hw);refine AH (wpAny_lookBehind hoD (by rw[hdD];exact pastItsLine_dict (CV hcD (by rw[Dd];omega))) ?_);exact AN (h _ ⟨(hs2.2 _ (Ne.symm I.ne)).trans I.obj,hn2,I.ne⟩ hs2)
def AEc{R:Result->Shared->Prop}{vs:ANF}{kw:List (Str×Value)}(X:K.In s.heap)(hm:AMd K C=true)
  (hi:Da K (.ref C) "__init__"=some (some (.ref f))) (hf:PySem.W.typeIn K (.ref f)=some (.type "function"))
  (h:codeAny (model prog w) (A.under (.builtin "type.__call__" ⟨.ref C::vs,kw⟩)) (.call (.ref f) ⟨.ref (s.heap.objs.size+1)::vs,kw⟩) (PySem.W.InitBack (s.heap.objs.size+1) R)
   {s with heap:=(s.heap.push ALi).push (ALo C s.heap.objs.size)}) :
  codeAny (model prog w) A (.call (.ref C) ⟨vs,kw⟩) R s:=by
 obtain⟨hh,g,d,t,os⟩:=s;exact PySem.W.make_core (PySem.W.makes_of X hm) (PySem.W.looks_findIn X hi) (λself=>PySem.W.bind_fn X self hf) (.inl rfl) h
end
abbrev CJ(f:Str)(v:V):List (Str×V)->List (Str×V)
 |[]=>[(f,v)]
 |(g,x)::r=>if g=f then (g,v)::r else (g,x)::CJ f v r
def WZ(f g:Str)(v:V):∀fs:List (Str×V),(CJ f v fs).lookup g=if g=f then some v else fs.lookup g
 |[]=>by
  show Fb g [(f,v)]=_
  by_cases h:g=f
  .have hb:(g == f)=true:=beq_iff_eq.mpr h;simp only[Fb,hb,if_pos h]
  .have hb:(g == f)=false:=beq_eq_false_iff_ne.mpr h;simp only[Fb,hb,if_neg h]
 |(k,x)::r=>by
  have ih:=WZ f g v r
  rw[show CJ f v ((k,x)::r)=(if k=f then (k,v)::r else (k,x)::CJ f v r) from rfl]
  by_cases hk:k=f
  .rw[if_pos hk]
   by_cases h:g=k
   .have hb:(g == k)=true:=beq_iff_eq.mpr h;simp only[Fb,hb,if_pos (h.trans hk)]
   .have hb:(g == k)=false:=beq_eq_false_iff_ne.mpr h;simp only[Fb,hb,if_neg (λe:g=f=>h (e.trans hk.symm))]
  .rw[if_neg hk]
   by_cases h:g=k
   .have hb:(g == k)=true:=beq_iff_eq.mpr h;simp only[Fb,hb,if_neg (λe:g=f=>hk (h.symm.trans e))]
   .have hb:(g == k)=false:=beq_eq_false_iff_ne.mpr h;simp only[Fb,hb];exact ih
def Ri(f:Str)(v:V):∀fs:List (Str×V),f∈(CJ f v fs).map (·.1)/\∀g,g∈fs.map (·.1)->g∈(CJ f v fs).map (·.1)
 |[]=>⟨by simp[CJ],λg h=>by simp at h⟩
 |(k,x)::r=>by
  obtain⟨i1,i2⟩:=Ri f v r
  rw[show CJ f v ((k,x)::r)=(if k=f then (k,v)::r else (k,x)::CJ f v r) from rfl]
  by_cases hk:k=f
  .rw[if_pos hk];subst hk;exact⟨by simp,λg h=>by simpa using h⟩
  .rw[if_neg hk];refine⟨?_,λg h=>?_⟩
   .rw[Aj];exact BA _ i1
   .rw[Aj] at h ⊢;rcases AX.mp h with e|e
    .exact AX.mpr (.inl e)
    .exact BA _ (i2 g e)
def We(f:Str)(v:V):∀fs:List (Str×V),(CJ f v fs).length<=fs.length+1
 |[]=>by simp[CJ]
 |(k,x)::r=>by
  have ih:=We f v r
  rw[show CJ f v ((k,x)::r)=(if k=f then (k,v)::r else (k,x)::CJ f v r) from rfl]
  by_cases hk:k=f
  .rw[if_pos hk,Dd,Dd];omega
  .rw[if_neg hk,Dd,Dd];omega
def FX.some_of{v:V}{o:Option Value}(r:FX (some v) o):∃u,o=some u/\Ac v u:=by
 cases o with
 |none=>exact(show False from r).elim
 |some u=>exact⟨u,rfl,r⟩
def AFa{v:V}{u:Value}(r:Ac v u):PySem.W.handedIn u=true:=by
 cases v with
 |non=>cases (show u=Value.none from r);rfl
 |bl b=>cases (show u=Value.bool b from r);rfl
 |int i=>obtain⟨t,e⟩:=(show ∃t,u=Value.int i t from r);cases e;rfl
 |str x=>obtain⟨t,e⟩:=(show ∃t,u=Value.str x t from r);cases e;rfl
 |byt b=>obtain⟨t,e⟩:=(show ∃t,u=Value.bytes b t from r);cases e;rfl
 |flt b=>obtain⟨t,e⟩:=(show ∃t,u=Value.float b t from r);cases e;rfl
 |ref a=>cases (show u=Value.ref a from r);rfl
 |ty n=>cases (show u=Value.type n from r);rfl
section
variable {P:Program}{w:World}{H H':Hp}{h h':Heap}{a C dx:Addr}{fs fs':List (Str×V)}
def Rp(hok:Cu P w H h)(e:H a=some (.ins C dx fs)):∃mA,Ji h a dx C mA/\(∀f,FX (fs.lookup f) (mA f))/\PySem.Within mA (fs.map (·.1))/\fs.length<=1000/\H dx=some (.own a):=by obtain⟨d,z,ne,ob,mA,n,r,q⟩:=(show CB P w H h a (.ins C dx fs) from hok a _ e);exact⟨mA,⟨ob,n,ne⟩,r,q,z,d⟩
end
structure Cls (K:AL) (C:Addr):Prop where
 pg:AMI K C Str.empty=true
 hd:AMJ K C=true
 po:AMc K C=true
 sa:Da K (.ref C) "__setattr__"=some (some (.builtin "object.__setattr__"))
def Cls.get{K:AL}{C:Addr}(c:Cls K C)(f:Str):AMI K C f=true:=c.pg
abbrev IH(K:AL)(C:Addr)(f:Str):Prop:=Da K (.ref C) f=some none
def IH.taker{K:AL}{C:Addr}{f:Str}(n:IH K C f):PySem.W.takerIn K C f=some none:=by unfold PySem.W.takerIn;rw[show Da K (.ref C) f=some none from n];rfl
structure AHV (K:AL) (C:Addr) (m:Str) (f:Addr):Prop where
 at_:Da K (.ref C) m=some (some (.ref f))
 fn:PySem.W.isFn K (.ref f)=true
 kp:GA K (.ref f)=true
section
variable {X:Cx}{pins:List (Addr×Obj)}{Y:St}{H:Hp}{s:Shared}{a C dx:Addr}{fs:List (Str×V)}{f:Str}{v:V}{A:Around}{E:ANL}
def XO{b:Bool}{Q:ANL}(I:AI X pins Y H s)(e:H a=some (.ins C dx fs))(c:Cls X.K C)(n:IH X.K C f)(l:fs.lookup f=some v)
  (h:∀u s',AI X pins Y H s'->Ac v u->Q u s'):wpAny (model X.prog X.w) A (getAttr (.ref a) f b) Q E s:=by
 obtain⟨mA,O,r,_,_,_⟩:=Rp I.hok e;obtain⟨u,hu,ru⟩:=FX.some_of (v:=v) (o:=mA f) (by rw[<-l];exact r f);exact AFd I.kIn O (c.get f) c.hd n hu (AFa ru) (h u _ (I.tok _) ru)
def VQ{y:V}{u:Value}{Q:Unit->Shared->Prop}(I:AI X pins Y H s)(e:H a=some (.ins C dx fs))(c:Cls X.K C)(n:IH X.K C f)(hl:fs.length<1000)(ry:Ac y u)
  (h:∀s',AI X pins Y (upd H a (.ins C dx (CJ f y fs))) s'->Q () s'):wpAny (model X.prog X.w) A (setAttr (.ref a) f u) Q E s:=by
 obtain⟨mA,O,r,wi,_,ho⟩:=Rp I.hok e;have hz:(fs.map (·.1)).length<=sizeLine:=by rw[Aa,sizeLine_eq];omega
 refine ABl I.kIn O c.sa c.po n.taker c.hd wi hz λh' O' sb=>h _ ?_;have hd:∃o,h'.get? dx=some o:=let ⟨o,_,_,e',_⟩:=O'.ns;⟨o,e'⟩;refine I.write (x:=a) (e:=dx) (by rw[e];exact True.intro) (.inr ho) (λb q hb z=>(sb.2 b hb).trans z) hd ?_;refine⟨by rw[BU O.ne];exact ho,?_,O.ne,O'.obj,_,O'.ns,λg=>?_,λg hg=>?_⟩
 .have:=We f y fs;omega
 .show FX ((CJ f y fs).lookup g) (if g=f then some u else mA g)
  rw[WZ]
  by_cases q:g=f
  .rw[if_pos q,if_pos q];exact ry
  .rw[if_neg q,if_neg q];exact r g
 .by_cases q:g=f
  .rw[q];exact(Ri f y fs).1
  .refine(Ri f y fs).2 g (wi g λz=>hg ?_)
   show(if g=f then some u else mA g)=none
   rw[if_neg q];exact z
def AI.made(I:AI X pins Y H s):AI X pins Y (upd (upd H s.heap.objs.size (.own (s.heap.objs.size+1))) (s.heap.objs.size+1) (.ins C s.heap.objs.size []))
  {s with heap:=(s.heap.push ALi).push (ALo C s.heap.objs.size)}:=by
 have e1:(s.heap.push ALi).get? s.heap.objs.size=some ALi:=Heap.get?_push_size s.heap rfl
 have e2:((s.heap.push ALi).push (ALo C s.heap.objs.size)).get? (s.heap.objs.size+1)=some (ALo C s.heap.objs.size):=by
  have:=Heap.get?_push_size (s.heap.push ALi) (o:=ALo C s.heap.objs.size) rfl
  rwa [Heap.size_push] at this
 have e3:(s.heap.push ALi).Ns s.heap.objs.size (λ_=>none):=⟨ALi,#[],_,e1,rfl,(λe he=>absurd he (by simp)),λ_=>rfl⟩;have I1:=I.laid (a:=s.heap.objs.size) (o:=.own (s.heap.objs.size+1)) (h':=s.heap.push ALi) (t':=s.toks) (λb u q=>Heap.get?_push_of_some _ q) (Af _) ⟨_,e1⟩;refine I1.laid (a:=s.heap.objs.size+1) (o:=.ins C s.heap.objs.size []) (t':=s.toks) (λb u q=>Heap.get?_push_of_some _ q) (ALe (Heap.size_push _ _)) ?_;have ne:s.heap.objs.size≠s.heap.objs.size+1:=BV (AMe _);refine⟨by rw[BU ne,CI],EH _,ne,e2,λ_=>none,(Heap.Ns1.of_empty e3).at λo q=>Heap.get?_push_of_some _ q,λ_=>True.intro,λy hy=>absurd rfl hy⟩
def AG8{prog:Program}{w:World}{env:Env}{e:Expr}{f:Str}{pos:Pos}{s:Shared}{Q:ANL}(hb:attributeBase e f env (eval e env)=eval e env)
  (h:wpAny (model prog w) A (eval e env) (λo s₁=>wpAny (model prog w) A (getAttr o f true) Q E s₁) E s):wpAny (model prog w) A (eval (.Attribute e f pos) env) Q E s :=
 Attribute_any_ h (by rw[arm_eval_Attribute,hb])
end
abbrev ABC(K:AL)(ta:TE)(f:Str):TE:=λY H Q=>ta Y H λx H1=>∃a C dx fs v,x=.ref a/\H1 a=some (.ins C dx fs)/\Cls K C/\IH K C f/\fs.lookup f=some v/\Q v H1
abbrev ABy(K:AL)(ta tv:TE)(f:Str):TS:=λD Y H=>tv Y H λy H1=>ta Y H1 λx H2=>∃a C dx fs,x=.ref a/\H2 a=some (.ins C dx fs)/\Cls K C/\IH K C f/\fs.length<1000 /\
 D.nx Y (upd H2 a (.ins C dx (CJ f y fs)))
abbrev OR(X:Cx)(op:Operator)(rd:V->V->Hp->VK->Prop):Prop :=
 ∀(pins:List (Addr×Obj)) (s:Shared) (Y:St) (H:Hp) (x y:V) (u v:Value) (Q:VK),AI X pins Y H s->Ac x u->Ac y v->rd x y H Q->wpAny (model X.prog X.w) X.A (inplaceOp op u v) (EP X pins Y Q) X.xe s
abbrev ABx(K:AL)(ta tv:TE)(rd:V->V->Hp->VK->Prop)(f:Str):TS:=λD Y H=>ta Y H λx H1=>∃a C dx fs v,x=.ref a/\H1 a=some (.ins C dx fs)/\Cls K C/\IH K C f/\fs.lookup f=some v /\
 tv Y H1 λy H2=>rd v y H2 λz H3=>∃dx' fs',H3 a=some (.ins C dx' fs')/\fs'.length<1000/\D.nx Y (upd H3 a (.ins C dx' (CJ f z fs')))
section
variable {X:Cx}{o e value:Expr}{f:Str}{pos pos' tpos:Pos}{ta tv:TE}
def ADS(he:PE X e ta)(hb:attributeBase e f X.env (eval e X.env)=eval e X.env):PE X (.Attribute e f pos) (ABC X.K ta f):=by intro pins s Y H Q I h;refine AG8 hb (Ae (he pins s Y H _ I h) λu s1 z2_=>?_);obtain⟨x,H1,I1,rx,a,C,dx,fs,v,ex,ea,c,n,l,q⟩:=z2_;subst ex;obtain rfl:u=Value.ref a:=rx;exact XO I1 ea c n l λu' s2 I2 ru=>⟨v,H1,I2,ru,q⟩
def ACj(ha:PE X o ta)(hv:PE X value tv)(hs:swapsWith value (some (.Attribute o f pos')) pos.line X.env=pure false):PS X (.Assign [.Attribute o f pos'] value pos) (ABy X.K ta tv f):=by intro pins s Y H D I h;refine plainObj_wpAny_Assign_Attribute (Ae (hv pins s Y H _ I h) λu s1 z2_=>?_) hs;obtain⟨y,H1,I1,ry,q⟩:=z2_;refine Ae (ha pins s1 Y H1 _ I1 q) λov s2 z2_=>?_;obtain⟨x,H2,I2,rx,a,C,dx,fs,ex,ea,c,n,l,q2⟩:=z2_;subst ex;obtain rfl:ov=Value.ref a:=rx;exact VQ I2 ea c n l ry λs3 I3=>⟨Y,_,I3,q2⟩
def ACi{op:Operator}{rd:V->V->Hp->VK->Prop}(ha:PE X o ta)(hv:PE X value tv)(hop:OR X op rd):PS X (.AugAssign (.Attribute o f tpos) op value pos) (ABx X.K ta tv rd f):=by intro pins s Y H D I h;refine wpAny_AugAssign_AttributeAny (Ae (ha pins s Y H _ I h) λov s1 z2_=>?_);obtain⟨x,H1,I1,rx,a,C,dx,fs,v,ex,ea,c,n,l,q⟩:=z2_;subst ex;obtain rfl:ov=Value.ref a:=rx;refine XO I1 ea c n l λu s2 I2 ru=>Ae (hv pins s2 Y H1 _ I2 q) λw3 s3 z2_=>?_;obtain⟨y,H2,I3,ry,q3⟩:=z2_;refine Ae (hop pins s3 Y H2 v y u w3 _ I3 ru ry q3) λw4 s4 z2_=>?_;obtain⟨z,H3,I4,rz,dx',fs',ea',l',q4⟩:=z2_;exact VQ I4 ea' c n l' rz λs5 I5=>⟨Y,_,I5,q4⟩
abbrev ACI:V->V->Hp->VK->Prop:=λx y H Q=>∃i j,x=.int i/\y=.int j/\Q (.int (i+j)) H
def AFQ:OR X .Add ACI:=by rintro pins s Y H x y u v Q I rx ry ⟨i,j,rfl,rfl,q⟩;obtain⟨t,rfl⟩:=(show ∃t,u=Value.int i t from rx);obtain⟨t',rfl⟩:=(show ∃t',v=Value.int j t' from ry);exact PyProof.Rows.iadd_int ⟨.int (i+j),H,I.tok _,⟨_,rfl⟩,q⟩
end
section
variable {X:Cx}{pins:List (Addr×Obj)}{Y:St}{H:Hp}{s:Shared}{A:Around}{E:ANL}{Q:ANL}{c:Value}{b:Bool}
inductive TyOf (K:AL) (H:Hp):V->Value->Prop where
 |non:TyOf K H .non (.type "NoneType")
 |bl (x:Bool):TyOf K H (.bl x) (.type "bool")
 |int (i:Int):TyOf K H (.int i) (.type "int")
 |str (x:Str):TyOf K H (.str x) (.type "str")
 |flt (x:UInt64):TyOf K H (.flt x) (.type "float")
 |lst {a:Addr} {xs:List V} (e:H a=some (.lst xs)):TyOf K H (.ref a) (.type "list")
 |frz {a:Addr} {o:Obj} {xs:List V} (e:H a=some (.frz o (.lst xs))):TyOf K H (.ref a) (.type "list")
 |tup {a:Addr} {xs:List V} (e:H a=some (.tup xs)):TyOf K H (.ref a) (.type "tuple")
 |dK {a:Addr} {kvs:List (Key×V)} (e:H a=some (.dK kvs)):TyOf K H (.ref a) (.type "dict")
 |dT {a:Addr} {kvs:List (List Key×V)} (e:H a=some (.dT kvs)):TyOf K H (.ref a) (.type "dict")
 |ins {a C dx:Addr} {fs:List (Str×V)} (e:H a=some (.ins C dx fs)) (cl:Cls K C) (ha:Da K (.ref C) "__class__"=some (some (.builtin "object.__class__")))
   (hn:PySem.W.specialIn K (.builtin "object.__class__") "__get__"=some (some (.builtin "getset_descriptor.__get__"))) (htk:PySem.W.takesIn K (.builtin "object.__class__")=some true)
   (hm:PySem.W.mroIn K C (.type "object")=some true):TyOf K H (.ref a) (.ref C)
def JL{x:V}{u t:Value}(I:AI X pins Y H s)(rx:Ac x u)(ty:TyOf X.K H x t)(e:PySem.W.kitOne X.K t c=some b)(h:∀tk,Q (.bool b) {s with toks:=tk}) :
  wpAny (model X.prog X.w) A (call (.builtin "isinstance") [u,c]) Q E s:=by
 cases ty with
 |non=>cases (show u=Value.none from rx);exact Fz PySem.W.kitx_none I.kIn True.intro e (λz=>nomatch z) h
 |bl y=>cases (show u=Value.bool y from rx);exact Fz PySem.W.kitx_bool I.kIn True.intro e (λz=>nomatch z) h
 |int i=>obtain⟨t,q⟩:=(show ∃t,u=Value.int i t from rx);cases q;exact Fz PySem.W.kitx_int I.kIn True.intro e (λz=>nomatch z) h
 |str y=>obtain⟨t,q⟩:=(show ∃t,u=Value.str y t from rx);cases q;exact Fz PySem.W.kitx_str I.kIn True.intro e (λz=>nomatch z) h
 |flt y=>obtain⟨t,q⟩:=(show ∃t,u=Value.float y t from rx);cases q;exact Fz PySem.W.kitx_float I.kIn True.intro e (λz=>nomatch z) h
 |@lst a xs ea =>
  cases (show u=Value.ref a from rx);obtain⟨_,_,n,_,h1⟩:=(show CB X.prog X.w H s.heap a (.lst xs) from I.hok a _ ea);exact Fz PySem.W.kitx_list I.kIn ⟨_,h1,rfl⟩ e (λz=>nomatch z) h
 |@frz a ob xs ea =>
  cases (show u=Value.ref a from rx);obtain⟨_,_,_,n,_,h1⟩:=(show CB X.prog X.w H s.heap a (.frz ob (.lst xs)) from I.hok a _ ea);exact Fz PySem.W.kitx_list I.kIn ⟨_,h1,rfl⟩ e (λz=>nomatch z) h
 |@tup a xs ea =>
  cases (show u=Value.ref a from rx);obtain⟨_,_,_,p⟩:=(show CB X.prog X.w H s.heap a (.tup xs) from I.hok a _ ea);obtain⟨o,h1,h2,_⟩:=p;exact Fz PySem.W.kitx_tuple I.kIn ⟨o,h1,h2⟩ e (λz=>nomatch z) h
 |@dK a kvs ea =>
  cases (show u=Value.ref a from rx);obtain⟨_,_,vs,_,p⟩:=(show CB X.prog X.w H s.heap a (.dK kvs) from I.hok a _ ea);obtain⟨o,es,ep,h1,h2,_⟩:=p;exact Fz PySem.W.kitx_dict I.kIn ⟨o,h1,h2.1⟩ e (λz=>nomatch z) h
 |@dT a kvs ea =>
  cases (show u=Value.ref a from rx);obtain⟨_,_,xs,_,o,es,ep,h1,h2,_⟩:=(show CB X.prog X.w H s.heap a (.dT kvs) from I.hok a _ ea);exact Fz PySem.W.kitx_dict I.kIn ⟨o,h1,h2.1⟩ e (λz=>nomatch z) h
 |@ins a C dx fs ea cl ha hn htk hm =>
  cases (show u=Value.ref a from rx);obtain⟨mA,O,_⟩:=Rp I.hok ea;obtain⟨od,J,_⟩:=O.look;exact Fz (PySem.W.kitx_own (cl.get _) cl.hd ha hn htk hm) I.kIn J e (λz=>nomatch z) h
end
structure Room (k:Nat) (A:Around):Prop where
 hd:A.handled=none
 dp:A.depth+3*k+5<recursionLimit
 un:A.units+16*k+200<cLine
def Room.mono{j k:Nat}{A:Around}(r:Room k A)(h:j<=k):Room j A:=⟨r.hd,by have:=r.dp;omega,by have:=r.un;omega⟩
def Room.deeper{k:Nat}{A:Around}(r:Room (k+1) A)(env:Env):Room k (A.deeper env) :=
 ⟨r.hd,by have:=r.dp;show A.depth+1+3*k+5<_;omega,by have:=r.un;show A.units+3+16*k+200<_;omega⟩
def Room.in1{k:Nat}{A:Around}(r:Room (k+1) A):Room k A.in1 :=
 ⟨r.hd,by have:=r.dp;show A.depth+3*k+5<_;omega,by have:=r.un;show A.units+1+16*k+200<_;omega⟩
def AEe{A:Around}{C:Addr}{us:ANF}{kw:List (Str×Value)}:(A.under (.builtin "type.__call__" ⟨.ref C::us,kw⟩)).depth=A.depth+1:=by first|rfl|simp[Around.under,Code.weight,Code.isCreation,Code.isGuard,Code.isCaller,Code.frames,Code.isFrame,guardIds]
def AEb{A:Around}{C:Addr}{us:ANF}{kw:List (Str×Value)}:(A.under (.builtin "type.__call__" ⟨.ref C::us,kw⟩)).units=A.units+1:=by first|rfl|simp[Around.under,Code.cUnits,Code.frames,Code.isFrame]
def Room.make{k:Nat}{A:Around}(r:Room (k+1) A)(C:Addr)(us:ANF)(kw:List (Str×Value)):Room k (A.under (.builtin "type.__call__" ⟨.ref C::us,kw⟩)) :=
 ⟨r.hd,by have:=r.dp;rw[AEe];omega,by have:=r.un;rw[AEb];omega⟩
def Room.depth{k:Nat}{A:Around}(r:Room k A):A.depth<recursionLimit:=by have:=r.dp;omega
def Room.units{k:Nat}{A:Around}(r:Room k A):A.units+64<cLine:=by have:=r.un;omega
abbrev Ul:TA:=λ_ H Q=>Q [] H
abbrev ABE(ta:TE)(tr:TA):TA:=λY H Q=>ta Y H λx H1=>tr Y H1 λxs H2=>Q (x::xs) H2
section
variable {X:Cx}{e:Expr}{es:ANH}{te:TE}{t:TA}{pos:Pos}
def ADl:PA X [] Ul:=λ_ _ _ _ H Q I h=>Calls.spliced_nil ⟨[],H,I,.nil,h⟩
def ADm(ha:PE X e te)(hr:PA X es t)(hs:starEach (e::es) X.env=(false,eval e X.env)::starEach es X.env:=by rfl):PA X (e::es) (ABE te t):=by intro pos pins s Y H Q I h;rw[hs];show wpAny _ _ (spliced ((false,eval e X.env)::backTo pos (starEach es X.env))) _ _ s;refine Calls.spliced_cons (Ae (ha pins s Y H _ I h) λu s1 z2_=>?_);obtain⟨x,H1,I1,r1,q1⟩:=z2_;exact Ae (hr pos pins s1 Y H1 _ I1 q1) λus s2 z2_=>by obtain⟨xs,H2,I2,r2,q2⟩:=z2_;exact⟨x::xs,H2,I2,.cons r1 r2,q2⟩
abbrev AAw(t:TA):TE:=λY H Q=>t Y H λxs H1=>xs.length<=sizeLine/\∀p,H1 p=none->Q (.ref p) (upd H1 p (.tup xs))
abbrev AA8(t:TA):TE:=λY H Q=>t Y H λxs H1=>xs.length<=sizeLine/\∀p,H1 p=none->Q (.ref p) (upd H1 p (.lst xs))
def ADE{x1}(h:PA X es t):PE X (.Tuple es x1 pos) (AAw t):=by intro pins s Y H Q I hq;refine wpAny_Tuple_spliced (Ae (h pos pins s Y H _ I hq) λus s1 z2_=>?_);obtain⟨xs,H1,I1,r,z,q⟩:=z2_;refine⟨by rw[<-r.length];exact z,?_⟩;have hf:H1 s1.heap.objs.size=none:=I1.hok.fresh (Af _);refine⟨.ref s1.heap.objs.size,upd H1 s1.heap.objs.size (.tup xs),I1.laid (t':=s1.toks) (λb u e=>Heap.get?_push_of_some _ e) (Af _) ?_,rfl,q _ hf⟩;exact⟨z,us,r,⟨_,Heap.get?_push_size _ rfl,rfl,_,rfl⟩⟩
def ADN(h:PA X es t):PE X (.List es pos) (AA8 t):=by intro pins s Y H Q I hq;refine wpAny_List_spliced (Ae (h pos pins s Y H _ I hq) λus s1 z2_=>?_);obtain⟨xs,H1,I1,r,z,q⟩:=z2_;refine⟨by rw[<-r.length];exact z,?_⟩;have hf:H1 s1.heap.objs.size=none:=I1.hok.fresh (Af _);refine⟨.ref s1.heap.objs.size,upd H1 s1.heap.objs.size (.lst xs),I1.laid (t':=s1.toks) (λb u e=>Heap.get?_push_of_some _ e) (Af _) ?_,rfl,q _ hf⟩;exact⟨z,us,0,r,Heap.get?_push_size _ rfl⟩
end
noncomputable abbrev Sp:=List V->Hp->VK->XK->Prop
noncomputable abbrev FZ:=List Env->Hp->Shared->XK->ANL
structure HK (P:Program) (w:World) (K:AL) (mg:AND) (base:Heap) (A:Around) (outer:List Env) (s:Shared) (H:Hp):Prop where
 frames:A.frames=some outer
 mod:OP K mg base
 bs:∀b o,base.get? b=some o->s.heap.get? b=some o/\H b=none
 bsz:base.objs.size<=s.heap.objs.size
 funs:s.heap.FunFrames base outer
 frf:∀b∈FA outer,H b=none
 hok:Cu P w H s.heap
 bare:AllBare s.gens
abbrev CE(outer:List Env)(P:Program)(w:World)(H:Hp)(s:Shared)(Q:VK)(u:Value)(s':Shared):Prop :=
 ∃v H',s'.os=s.os/\AllBare s'.gens/\Un (FA outer) [] H H' s.heap s'.heap/\Cu P w H' s'.heap/\Ac v u/\Q v H'
abbrev CR(CX:FZ)(outer:List Env)(P:Program)(w:World)(H:Hp)(s:Shared)(Q:VK)(E:XK)(r:Result)(s':Shared):Prop :=
 match r with
 |.ok (.ret u)=>CE outer P w H s Q u s'
 |.ok _=>False
 |.error e=>CX outer H s E e s'
structure DK (P:Program) (w:World) (K:AL) (mg:AND) (base:Heap) (CX:FZ) (k:Nat) (f:Addr) (fd:FuncData) (ps:ANE) (sp:Sp):Prop where
 len:∀vs H Q E,sp vs H Q E->vs.length=ps.length
 run:∀(A:Around) (outer:List Env) (s:Shared) (H:Hp) (args:Args) (us:ANF) (vs:List V) (Q:VK) (E:XK),Room k A->HK P w K mg base A outer s H->BindsTo s fd args (ps.zip us)->Ab vs us->sp vs H Q E ->
  codeAny (model P w) A (.call (.ref f) args) (CR CX outer P w H s Q E) s
def DK.mono{P:Program}{w:World}{K:AL}{mg:AND}{base:Heap}{CX:FZ}{j k:Nat}{f:Addr}{fd:FuncData}{ps:ANE}{sp:Sp}(F:DK P w K mg base CX j f fd ps sp)(h:j<=k) :
  DK P w K mg base CX k f fd ps sp:=⟨F.len,λA outer s H args us vs Q E hr=>F.run A outer s H args us vs Q E (hr.mono h)⟩
def DK.imp{P:Program}{w:World}{K:AL}{mg:AND}{base:Heap}{CX:FZ}{k:Nat}{f:Addr}{fd:FuncData}{ps:ANE}{sp sp':Sp}(F:DK P w K mg base CX k f fd ps sp)
  (h:∀vs H Q E,sp' vs H Q E->sp vs H Q E):DK P w K mg base CX k f fd ps sp' :=
 ⟨λvs H Q E q=>F.len vs H Q E (h _ _ _ _ q),λA outer s H args us vs Q E hr he hb hv hs=>F.run A outer s H args us vs Q E hr he hb hv (h _ _ _ _ hs)⟩
def HK.make{P:Program}{w:World}{K:AL}{mg:AND}{base:Heap}{A:Around}{outer:List Env}{s:Shared}{H:Hp}(e:HK P w K mg base A outer s H)(C:Addr)(us:ANF)(kw:List (Str×Value)) :
  HK P w K mg base (A.under (.builtin "type.__call__" ⟨.ref C::us,kw⟩)) outer s H:=⟨by first|exact e.frames|(simpa[Around.under,Code.envs,Code.isFrame,pushEnvs] using e.frames),e.mod,e.bs,e.bsz,e.funs,e.frf,e.hok,e.bare⟩
def HK.in1{P:Program}{w:World}{K:AL}{mg:AND}{base:Heap}{A:Around}{outer:List Env}{s:Shared}{H:Hp}(e:HK P w K mg base A outer s H) :
  HK P w K mg base A.in1 outer s H:=⟨e.frames,e.mod,e.bs,e.bsz,e.funs,e.frf,e.hok,e.bare⟩
section
variable {X:Cx}{pins:List (Addr×Obj)}{Y:St}{H:Hp}{s s':Shared}
def AI.env0(I:AI X pins Y H s):HK X.prog X.w X.K X.mg X.base X.A X.stack s H :=
 ⟨I.ok.frames,I.ok.mod,I.bs,CV I.ok.bsz I.sz,I.stack,I.stkFree,I.hok,I.bare⟩
def AI.after{Q:VK}{u:Value}(I:AI X pins Y H s)(h:CE X.stack X.prog X.w H s Q u s'):EP X pins Y Q u s':=by obtain⟨v,H',os,bare,un,hok,r,q⟩:=h;obtain⟨hh,g,d,t,os'⟩:=s';obtain rfl:os'=s.os:=os;exact⟨v,H',I.call (h':=hh) (g':=g) (d':=d) (t':=t) (ch:=[]) un hok bare (λb z=>absurd z (by simp)),r,q⟩
end
abbrev Up(sp:Sp)(dvs:List V)(E:XK)(t:TA):TE:=λY H Q=>t Y H λvs H1=>sp (vs++dvs) H1 Q E
abbrev Um(C:Addr)(sp:Sp)(dvs:List V)(E:XK)(t:TA):TE:=λY H Q=>t Y H λvs H1=>∀x dx,H1 x=none->H1 dx=none->dx≠x ->
 sp (.ref x::(vs++dvs)) (upd (upd H1 dx (.own x)) x (.ins C dx [])) (λv H2=>v=.non/\Q (.ref x) H2) E
abbrev EV(K:AL)(fd:FuncData)(ps:ANE)(ds:ANF):Prop :=
 ∀(s:Shared) (us:ANF),K.In s.heap->(us++ds).length=ps.length->BindsTo s fd ⟨us,[]⟩ (ps.zip (us++ds))
def EV.all{K:AL}{fd:FuncData}{ps:ANE}(h:∀us:ANF,us.length=ps.length->bindArgs fd ⟨us,[]⟩=pure (ps.zip us)):EV K fd ps []:=λs us _ hl=>by
 rw[ALy] at hl ⊢;exact .of_eq (h us hl)
abbrev Jg(CX:FZ)(X:Cx)(E:XK):Prop:=∀(pins:List (Addr×Obj)) (Y:St) (H:Hp) (s:Shared) (e:Value) (s':Shared),AI X pins Y H s->CX X.stack H s E e s'->X.xe e s'
section
variable {X:Cx}{CX:FZ}{k:Nat}{f C:Addr}{fd:FuncData}{ps:ANE}{sp:Sp}{dvs:List V}{ds:ANF}{E:XK}{x m:Str}{p pos apos:Pos}{e o:Expr}{es:ANH}{ta:TE}{t:TA}
def VT{pins:List (Addr×Obj)}{Y:St}{H:Hp}{s:Shared}{Q:VK}{us:ANF}{vs:List V}(F:DK X.prog X.w X.K X.mg X.base CX k f fd ps sp)(hr:Room k X.A)(hb:EV X.K fd ps ds)(hd:Ab dvs ds)(hx:Jg CX X E)
  (I:AI X pins Y H s) (r:Ab vs us) (h:sp (vs++dvs) H Q E):wpAny (model X.prog X.w) X.A (call (.ref f) us) (EP X pins Y Q) X.xe s:=by
 have r2:Ab (vs++dvs) (us++ds):=r.append hd;have hl:(us++ds).length=ps.length:=by rw[<-r2.length];exact F.len _ _ _ _ h
 refine wpAny_call (codeAny_mono (F.run X.A X.stack s H ⟨us,[]⟩ (us++ds) (vs++dvs) Q E hr I.env0 (hb s us I.kIn hl) r2 h) λr s' hq=>?_)
 cases r with
 |error e=>exact hx pins Y H s e s' I hq
 |ok fl =>
  cases fl with
  |ret u=>exact I.after hq
  |next=>exact False.elim hq
  |brk=>exact False.elim hq
  |cont=>exact False.elim hq
def ADX(F:DK X.prog X.w X.K X.mg X.base CX k f fd ps sp)(hr:Room k X.A)(hg:Gl X x)(hm:X.mg x=some (.ref f))(hk:GA X.K (.ref f)=true)(hb:EV X.K fd ps ds)(hd:Ab dvs ds)(hx:Jg CX X E)
  (ha:PA X (e::es) t) (hdb:(x == ("__debug__":Str))=false:=by decide) (he:starEach (e::es) X.env=(false,eval e X.env)::starEach es X.env:=by rfl) (hpl:(backTo pos (starEach es X.env)).any (·.1)=false:=by rfl) :
  PE X (.Call (.Name x p) (e::es) [] pos) (Up sp dvs E t):=by
 intro pins s Y H Q I h;refine AM4 (NV I hg hm ?_ hdb);refine PySem.W.callWith_K (h₀:=X.base) I.ok.mod.kin hk (Ae (ha pos pins s Y H _ I h) λus s1 z2_=>?_) he hpl;obtain⟨vs,H1,I1,r,q⟩:=z2_;refine⟨I1.kIn,?_⟩;exact VT F hr hb hd hx I1 r q
def ADW(F:DK X.prog X.w X.K X.mg X.base CX k f fd ps sp)(hr:Room k X.A)(hg:Gl X x)(hm:X.mg x=some (.ref f))(hk:GA X.K (.ref f)=true)(hb:EV X.K fd ps ds)(hd:Ab dvs ds)(hx:Jg CX X E)
  (hdb:(x == ("__debug__":Str))=false:=by decide):PE X (.Call (.Name x p) [] [] pos) (Up sp dvs E Ul):=by
 intro pins s Y H Q I h;refine AM4 (NV I hg hm ?_ hdb);exact PySem.W.callWith_K0 I.kIn hk (VT (us:=[]) F hr hb hd hx I .nil h)
structure Mk (K:AL) (C f:Addr):Prop where
 makes:AMd K C=true
 init:Da K (.ref C) "__init__"=some (some (.ref f))
 fn:PySem.W.isFn K (.ref f)=true
 kp:GA K (.ref C)=true
def ABz{pins:List (Addr×Obj)}{Y:St}{H:Hp}{s:Shared}{Q:VK}{us:ANF}{vs:List V}(M:Mk X.K C f)(F:DK X.prog X.w X.K X.mg X.base CX k f fd ps sp)(hr:Room (k+1) X.A)(hb:EV X.K fd ps ds)(hd:Ab dvs ds)
  (hx:Jg CX X E) (I:AI X pins Y H s) (r:Ab vs us)
  (h:∀x dx,H x=none->H dx=none->dx≠x->sp (.ref x::(vs++dvs)) (upd (upd H dx (.own x)) x (.ins C dx [])) (λv H2=>v=.non/\Q (.ref x) H2) E) :
  wpAny (model X.prog X.w) X.A (call (.ref C) us) (EP X pins Y Q) X.xe s:=by
 have hq:=h (s.heap.objs.size+1) s.heap.objs.size (I.hok.fresh (ALz _)) (I.hok.fresh (Af _)) (BV (AMe _));have I2:=AI.made (C:=C) I;have r2:Ab (V.ref (s.heap.objs.size+1)::(vs++dvs)) (Value.ref (s.heap.objs.size+1)::(us++ds)):=.cons rfl (r.append hd)
 have hl:(Value.ref (s.heap.objs.size+1)::us++ds).length=ps.length:=by have e:=r2.length;rw[F.len _ _ _ _ hq] at e;exact e.symm
 refine wpAny_call (AEc (f:=f) I.kIn M.makes M.init (beq_iff_eq.mp M.fn) (codeAny_mono (F.run _ X.stack _ _ ⟨Value.ref (s.heap.objs.size+1)::us,[]⟩ (Value.ref (s.heap.objs.size+1)::(us++ds)) _ _ E (hr.make C us [])
  (I2.env0.make C us []) (hb _ (Value.ref (s.heap.objs.size+1)::us) I2.kIn hl) r2 hq) λr s' hq'=>?_))
 cases r with
 |error e=>exact hx pins Y _ _ e s' I2 hq'
 |ok fl =>
  cases fl with
  |ret u =>
   obtain⟨v,H',I3,rv,ev,q3⟩:=I2.after hq';subst ev;exact⟨rv,⟨V.ref (s.heap.objs.size+1),H',I3,rfl,q3⟩⟩
  |next=>exact False.elim hq'
  |brk=>exact False.elim hq'
  |cont=>exact False.elim hq'
def ADM(M:Mk X.K C f)(F:DK X.prog X.w X.K X.mg X.base CX k f fd ps sp)(hr:Room (k+1) X.A)(hg:Gl X x)(hm:X.mg x=some (.ref C))(hb:EV X.K fd ps ds)(hd:Ab dvs ds)(hx:Jg CX X E)
  (ha:PA X (e::es) t) (hdb:(x == ("__debug__":Str))=false:=by decide) (he:starEach (e::es) X.env=(false,eval e X.env)::starEach es X.env:=by rfl) (hpl:(backTo pos (starEach es X.env)).any (·.1)=false:=by rfl) :
  PE X (.Call (.Name x p) (e::es) [] pos) (Um C sp dvs E t):=by
 intro pins s Y H Q I h;refine AM4 (NV I hg hm ?_ hdb);refine PySem.W.callWith_K (h₀:=X.base) I.ok.mod.kin M.kp (Ae (ha pos pins s Y H _ I h) λus s1 z2_=>?_) he hpl;obtain⟨vs,H1,I1,r,q⟩:=z2_;refine⟨I1.kIn,?_⟩;exact ABz M F hr hb hd hx I1 r q
end
structure Aw (N P:ANE) (sc:Scope):Prop where
 kind:sc.kind=.function
 co:sc.isCoroutine=false
 gen:sc.isGenerator=false
 nd:N.Nodup
 pre:N.take P.length=P
 par:∀x∈P,sc.names.lookup x=some .local\/sc.names.lookup x=some .cell
 nofree:∀y∈sc.names,y.2≠.free
def YS{kindOf:Str->Option NameKind}{x:Str}:∀{binds:List (Str×Value)} {m:AND},(∀v,(x,v)∉binds)->bindL kindOf binds m x=m x
 |[],_,_=>rfl
 |(n,v)::r,m,h=>by
  unfold bindL;rw[YS λw hw=>h w (BA _ hw)];split
  .have:x≠n:=by rintro rfl;exact h v Az
   simp[this]
  .rfl
def YU{kindOf:Str->Option NameKind}{x:Str}:∀{binds:List (Str×Value)} {m:AND},(∀v,(x,v)∉binds)->bindC kindOf binds m x=m x
 |[],_,_=>rfl
 |(n,v)::r,m,h=>by
  unfold bindC;rw[YU λw hw=>h w (BA _ hw)];split
  .rfl
  .have:x≠n:=by rintro rfl;exact h v Az
   simp[this]
def YT{kindOf:Str->Option NameKind}{x:Str}{v:Value}:∀{P:ANE} {vs:ANF} {i:Nat} {m:AND},P.Nodup->P[i]?=some x->vs[i]?=some v->kindOf x=some .local ->
  bindL kindOf (P.zip vs) m x=some v
 |[],_,_,_,_,h,_,_=>by simp at h
 |_::_,[],_,_,_,_,h,_=>by simp at h
 |p::P,w::vs,0,m,nd,h1,h2,hk=>by
  simp at h1 h2;subst h1;subst h2;show bindL kindOf ((p,w)::P.zip vs) m p=_;unfold bindL;rw[YS λv hv=>(Go.mp nd).1 (AMK hv).1,if_pos hk];simp
 |p::P,w::vs,i+1,m,nd,h1,h2,hk=>by
  show bindL kindOf ((p,w)::P.zip vs) m x=_;unfold bindL;exact YT (i:=i) (Go.mp nd).2 (by simpa using h1) (by simpa using h2) hk
def YV{kindOf:Str->Option NameKind}{x:Str}{v:Value}:∀{P:ANE} {vs:ANF} {i:Nat} {m:AND},P.Nodup->P[i]?=some x->vs[i]?=some v->kindOf x≠some .local ->
  bindC kindOf (P.zip vs) m x=some v
 |[],_,_,_,_,h,_,_=>by simp at h
 |_::_,[],_,_,_,_,h,_=>by simp at h
 |p::P,w::vs,0,m,nd,h1,h2,hk=>by
  simp at h1 h2;subst h1;subst h2;show bindC kindOf ((p,w)::P.zip vs) m p=_;unfold bindC;rw[YU λv hv=>(Go.mp nd).1 (AMK hv).1,if_neg hk];simp
 |p::P,w::vs,i+1,m,nd,h1,h2,hk=>by
  show bindC kindOf ((p,w)::P.zip vs) m x=_;unfold bindC;exact YV (i:=i) (Go.mp nd).2 (by simpa using h1) (by simpa using h2) hk
abbrev GH(N:ANE)(vs:List V):St:=vs.map some++ALf (N.length-vs.length) none
abbrev Ci(CX:FZ)(P:Program)(w:World)(K:AL)(mg:AND)(base:Heap)(N:ANE)(qual:Str)(scope:Scope)(f:Addr)(cd:Value)(A:Around)(outer:List Env)(s:Shared)(H:Hp)(E:XK):Cx where
 prog:=P
 w:=w
 K:=K
 mg:=mg
 base:=base
 A:=A.deeper (envOfC qual scope s.heap.objs.size f cd)
 N:=N
 s₀:=s
 H₀:=H
 env:=envOfC qual scope s.heap.objs.size f cd
 outer:=outer
 stack:=envOfC qual scope s.heap.objs.size f cd::outer
 ex:=[]
 calm:=true
 fn:=λ_=>true
 pn:=[]
 xe:=λe s'=>wpAny (model P w) (A.deeper (envOfC qual scope s.heap.objs.size f cd)) (leaving (envOfC qual scope s.heap.objs.size f cd) e) (λ_ s''=>CX outer H s E e s'') (λe' s''=>CX outer H s E e' s'') s'
def YO{sc:Scope}{n:Nat}{x:Str}(h:sc.names.lookup x=some .cell):∃c,(cellsFrom n sc.names []).lookup x=some c:=by have q:=PySem.W.cellsFrom_some sc.names n [] (.inl h);exact Option.isSome_iff_exists.mp q
def AFO{CX:FZ}{P:Program}{w:World}{K:AL}{mg:AND}{base:Heap}{N ps:ANE}{qual:Str}{scope:Scope}{f:Addr}{cd:Value}{A:Around}{outer:List Env}{s s1:Shared}{H:Hp}{E:XK}{us:ANF}{vs:List V}
  (S:Aw N ps scope) (hd:A.handled=none) (e0:HK P w K mg base A outer s H) (hl:vs.length=ps.length) (r:Ab vs us)
  (x:InCallC s s.heap.objs.size (bindL (envOfC qual scope s.heap.objs.size f cd).kindOf (ps.zip us) λ_=>none) (cellsFrom (s.heap.objs.size+1) scope.names []) (bindC (envOfC qual scope s.heap.objs.size f cd).kindOf (ps.zip us) λ_=>none) s1) :
  AI (Ci CX P w K mg base N qual scope f cd A outer s H E) [] (GH N vs) H s1:=by
 have hpl:ps.length<=N.length:=by have:=congrArg List.length S.pre;rw[EW] at this;omega
 obtain⟨h1,tk,rfl,hk⟩:=x.done;have noA:∀b:Addr,b∉(Ci CX P w K mg base N qual scope f cd A outer s H E).ex:=λb z=>absurd (show b∈([]:ANG) from z) (by simp)
 refine⟨⟨e0.mod,S.kind,rfl,rfl,Af _,λy z c h1 h2=>?_,λy hy=>?_,λy c _ h=>?_,λ_=>hd,Around.frames_deeper e0.frames,.inr ⟨rfl,rfl⟩,λb z=>absurd z (noA b),e0.bs,e0.bsz,λb _ _=>noA b,λb z=>absurd z (noA b),e0.funs,e0.frf⟩,
  rfl,e0.bare,Un.kept hk,⟨_,x.toInCall.ns,λi y v h1 h2 h3=>?_⟩,λy c h=>⟨_,x.cell y c h⟩,e0.hok.fresh (Af _),λy c h=>?_,λp hp=>absurd (show p∈([]:List (Addr×Obj)) from hp) (by simp),e0.hok.kept hk,?_⟩
 .exact name_of_addr x.apart (PySem.mem_of_lookup h1) (PySem.mem_of_lookup h2)
 .have hy:scope.names.lookup y=some .cell\/scope.names.lookup y=some .free:=hy;rcases hy with hy|hy
  .exact YO hy
  .exact absurd rfl (S.nofree _ (PySem.mem_of_lookup hy))
 .exact AL8 (x.above y c (PySem.mem_of_lookup h))
 .have hi:i<vs.length:=by
   unfold GH at h2
   by_cases hi:i<vs.length
   .exact hi
   .rw[ALp (by simpa using hi)] at h2;rw[AMf] at h2;split at h2 <;> cases h2
  have ha:vs[i]?=some v:=by
   unfold GH at h2;rw[Ey (by simpa using hi),Ar] at h2
   cases e:vs[i]? with
   |none=>rw[e] at h2;cases h2
   |some a=>rw[e] at h2;cases h2;rfl
  obtain⟨u,hu,rv⟩:=r.get ha
  have hp:ps[i]?=some y:=by rw[<-S.pre,List.getElem?_take_of_lt (by omega)];exact h1
  have ndP:ps.Nodup:=by rw[<-S.pre];exact S.nd.sublist (List.take_sublist _ _)
  refine⟨u,rv,?_⟩;rcases S.par y (Bk hp) with k|k
  .exact .inl ⟨k,YT ndP hp hu k⟩
  .obtain⟨c,e⟩:=YO (n:=s.heap.objs.size+1) k;refine .inr ⟨.inl k,c,e,?_⟩;have q:=x.cell y c e;rw[YV ndP hp hu (by show scope.names.lookup y≠_;rw[k];decide)] at q;exact q
 .exact e0.hok.fresh (AL8 (x.above y c (PySem.mem_of_lookup h)))
 .unfold GH;show _=N.length;rw[By,Aa,AMp];omega
def AF8{CX:FZ}{P:Program}{w:World}{K:AL}{mg:AND}{base:Heap}{k:Nat}{f:Addr}{name qual:Str}{params:Arguments}{body:ANI}{scope:Scope}{dV kV doc pm cdv ct oc:Value}{an od:Option Addr}
  {osl:Array (Option Value)} {N ps:ANE} {sp:Sp} (lk:K.lookup f=some ⟨oc,od,.func (ALj name qual params body scope dV kV doc pm an cdv ct),osl⟩) (hcd:AMg K cdv qual=true) (S:Aw N ps scope)
  (len:∀vs H Q E,sp vs H Q E->vs.length=ps.length)
  (hbody:∀(A:Around) (outer:List Env) (s:Shared) (H:Hp) (vs:List V) (Q:VK) (E:XK),Room k (A.deeper (envOfC qual scope s.heap.objs.size f cdv))->sp vs H Q E ->
   ∃t,Dj (Ci CX P w K mg base N qual scope f cdv A outer s H E) body t/\t {nx:=λ_ H'=>Q .non H',rt:=Q} (GH N vs) H) :
  DK P w K mg base CX (k+1) f (ALj name qual params body scope dV kV doc pm an cdv ct) ps sp:=by
 refine⟨len,λA outer s H args us vs Q E hr e0 hb r hsp=>?_⟩;have hl:=len _ _ _ _ hsp;have KX:K.In s.heap:=e0.mod.kin.keeps λb o e=>(e0.bs b o e).1;have lim:s.heap.NoLimit:=e0.mod.nolimit.keeps λb o e=>(e0.bs b o e).1
 have hkind:∀y∈ps.zip us,scope.names.lookup y.1=some .local\/(scope.names.lookup y.1=some .cell/\((cellsFrom (s.heap.objs.size+1) scope.names []).lookup y.1).isSome=true):=λ⟨n,v⟩ hy=>by
  rcases S.par n (AMK hy).1 with q|q
  .exact .inl q
  .exact .inr ⟨q,PySem.W.cellsFrom_some _ _ _ (.inl q)⟩
 refine codeAny_call_function hr.depth (KX _ _ lk) rfl S.co S.gen rfl (PySem.W.codeRec_of KX hcd) (hb _ _ _ _ ?_);refine wpAny_newFunctionEnv_cells S.kind hkind λenv he s1 x=>?_;subst he;refine⟨lim.keeps x.toInCall.keep,codeAny_func ?_⟩;obtain⟨t,ht,hq⟩:=hbody A outer s H vs Q E (hr.deeper _) hsp;have I:AI (Ci CX P w K mg base N qual scope f cdv A outer s H E) [] (GH N vs) H s1:=AFO S hr.hd e0 hl r x;refine Ef (ht [] s1 (GH N vs) H _ I hq) (λfl s' hs=>?_) λe s' hs=>hs
 have fin:∀{Y':St} {H':Hp} {v:V} {u:Value},AI (Ci CX P w K mg base N qual scope f cdv A outer s H E) [] Y' H' s'->Ac v u->Q v H'->CE outer P w H s Q u s' :=
  λ{Y' H' v u} J rv q=>⟨v,H',J.os,J.bare,J.base,J.hok,rv,q⟩
 cases fl with
 |ret u =>
  obtain⟨v,Y',H',J,rv,q⟩:=hs;exact fin J rv q
 |next =>
  obtain⟨Y',H',J,q⟩:=hs;exact fin (v:=V.non) (u:=Value.none) J rfl q
 |brk =>
  obtain⟨_,_,_,q⟩:=hs;exact False.elim q
 |cont =>
  obtain⟨_,_,_,q⟩:=hs;exact False.elim q
section
variable {X:Cx}{x:Str}{p pos:Pos}{e:Expr}{es:ANH}{t:TA}{id T:String}{r:List V->Hp->VK->Prop}
abbrev Uq(r:List V->Hp->VK->Prop)(t:TA):TE:=λY H Q=>t Y H λvs H1=>r vs H1 Q
def ADV(hc:Bx X (.builtin id) r)(hg:Gl X x)(hm:X.mg x=none)(hv:bootBuiltins x=some (.builtin id))(ha:PA X (e::es) t)(hn:x≠"__name__":=by decide)(hdb:(x == ("__debug__":Str))=false:=by decide)
  (he:starEach (e::es) X.env=(false,eval e X.env)::starEach es X.env:=by rfl) (hpl:(backTo pos (starEach es X.env)).any (·.1)=false:=by rfl):PE X (.Call (.Name x p) (e::es) [] pos) (Uq r t):=by
 intro pins s Y H Q I h;refine AM4 (Gx I hg hm hv ?_ hn hdb);exact PyProof.Rows.callWith_builtin1 (Ae (ha pos pins s Y H _ I h) λus s1 z2_=>(by obtain⟨vs,H1,I1,r1,q1⟩:=z2_;exact hc pins s1 Y H1 vs us Q I1 r1 q1)) he hpl
def ADU(hc:Bx X (.type T) r)(hg:Gl X x)(hm:X.mg x=none)(hv:bootBuiltins x=some (.type T))(ha:PA X (e::es) t)(hn:x≠"__name__":=by decide)(hdb:(x == ("__debug__":Str))=false:=by decide)
  (he:starEach (e::es) X.env=(false,eval e X.env)::starEach es X.env:=by rfl) (hpl:(backTo pos (starEach es X.env)).any (·.1)=false:=by rfl):PE X (.Call (.Name x p) (e::es) [] pos) (Uq r t):=by
 intro pins s Y H Q I h;refine AM4 (Gx I hg hm hv ?_ hn hdb);exact PyProof.Rows.callWith_type1 (Ae (ha pos pins s Y H _ I h) λus s1 z2_=>(by obtain⟨vs,H1,I1,r1,q1⟩:=z2_;exact hc pins s1 Y H1 vs us Q I1 r1 q1)) he hpl
end
end L2
namespace HT
open PySem PyProof.Rows
section
variable {prog:Program}{w:World}{A:Around}{E:ANL}{s:Shared}
def ALB{t b:Addr}{vs ws:ANF}{Q:ANL}(ht:IsTup s.heap t vs.toArray)(hb:IsTup s.heap b ws.toArray)(hv:vs≠[])
  (h1:ws=[]->Q (.ref t) s) (h2:ws≠[]->Q (.ref s.heap.objs.size) {s with heap:=s.heap.push {cls:=.type "tuple",data:=.seq (vs++ws).toArray}})
  (hsz:vs.length+ws.length<=sizeLine):wpAny (model prog w) A (binaryOp .Add (.ref t) (.ref b)) Q E s:=by
 obtain⟨⟨cls,dd,data,sl⟩,ho,hc,n,hd⟩:=id ht;obtain⟨⟨cls2,dd2,data2,sl2⟩,ho2,hc2,n2,hd2⟩:=id hb;simp only at hc hd hc2 hd2;subst hc hd hc2 hd2;have e:vs.toArray++ws.toArray=(vs++ws).toArray:=by simp
 by_cases hw:ws=[]
 .exact concat_meets ⟨_,ho,rfl⟩ ⟨_,ho2,rfl⟩ noFill_tuple_add seq_tuple_add AMq AMr (AMs _ _)
   (tuple_addW1 t b vs.toArray ws.toArray n n2 dd dd2 sl sl2 (by simpa using hv) (by simp[hw])) ⟨ho,ho2,h1 hw⟩
 .refine concat_meets ⟨_,ho,rfl⟩ ⟨_,ho2,rfl⟩ noFill_tuple_add seq_tuple_add AMq AMr (AMs _ _)
   (tuple_addW2 t b vs.toArray ws.toArray n n2 dd dd2 sl sl2 (by simpa using hv) (by simpa using hw) (by rw[Be,Be];exact hsz)) ⟨ho,ho2,?_⟩
  rw[e];exact h2 hw
abbrev sIx(n d:Nat):Option Int->Nat
 |none=>d
 |some v=>if v<0 then (v+(n:Int)).toNat else min v.toNat n
def AIy(n d k:Nat):sIx n d (some (k:Int))=min k n:=by
 show(if (k:Int)<0 then ((k:Int)+(n:Int)).toNat else min (k:Int).toNat n)=min k n
 rw[if_neg (by omega),Gq]
def ABw(n d:Nat)(hd:d<=n)(o:Option Int):sIx n d o<=n:=by
 cases o with
 |none=>exact hd
 |some v =>
  show(if v<0 then (v+(n:Int)).toNat else min v.toNat n)<=n
  by_cases hv:v<0
  .rw[if_pos hv];omega
  .rw[if_neg hv];exact Nat.min_le_right _ _
def YM(v:Int)(n d:Nat):(if v<0 then max (v+(n:Int)) 0 else min v (n:Int))=((sIx n d (some v):Nat):Int):=by
 show(if v<0 then max (v+(n:Int)) 0 else min v (n:Int))=(((if v<0 then (v+(n:Int)).toNat else min v.toNat n):Nat):Int)
 by_cases hv:v<0
 .simp only[if_pos hv];omega
 .simp only[if_neg hv];omega
def AHP(lo hi:Option Int)(n:Nat):Builtin.Slice.sliceAdjust lo hi 1 (n:Int)=(((sIx n 0 lo:Nat):Int),((sIx n n hi:Nat):Int)):=by
 have h1:¬((1:Int)<0):=by omega
 unfold Builtin.Slice.sliceAdjust;simp only[h1,if_false];refine Prod.ext ?_ ?_
 .cases lo with
  |none=>rfl
  |some v=>exact YM v n 0
 .cases hi with
  |none=>rfl
  |some v=>exact YM v n n
def ACu(i j:Nat):Builtin.Slice.slicePlaces (i:Int) (j:Int) 1=j-i:=by
 unfold Builtin.Slice.slicePlaces;have h1:(1:Int)>0:=by omega
 simp only[h1,if_true,Int.ediv_one];split <;> omega
def VN{v:Value}{o:Option Int}{Q:Option Int->Shared->Prop}(p:IsPart v o)(h:Q o s):wpAny (model prog w) A (Builtin.Slice.slicePartIndex v) Q E s:=by
 cases p with
 |none=>exact slicePart_none h
 |int i t=>exact slicePart_int h
def VO{sl:Addr}{vl vu:Value}{lo hi:Option Int}{n:Nat}{Q:Int×Int×Nat->Shared->Prop}(hs:s.heap.IsSliceOf sl vl vu .none)(pl:IsPart vl lo)(pu:IsPart vu hi)
  (h:Q (((sIx n 0 lo:Nat):Int),1,sIx n n hi-sIx n 0 lo) s):wpAny (model prog w) A (Builtin.Slice.sliceApplied (.ref sl) (pure (n:Int))) Q E s:=by
 obtain⟨os,hos,hcs,hds⟩:=id hs;unfold Builtin.Slice.sliceApplied Builtin.Slice.sliceFields;refine AH (AH (Eg hos hds (x:=vl) rfl (AH (Eg hos hds (x:=vu) rfl (AH (Eg hos hds (x:=.none) rfl (AN ?_)))))));refine AH (slicePart_none ?_)
 show wpAny _ _ (if ((1:Int) == 0)=true then _ else _) _ _ s
 rw[if_neg (by decide)];refine AH (VN pl (AH (VN pu (AH (AN ?_)))))
 show wpAny _ _ (match Builtin.Slice.sliceAdjust lo hi 1 (n:Int) with|(lo,hi)=>pure (lo,(1:Int),Builtin.Slice.slicePlaces lo hi 1)) _ _ s
 rw[AHP lo hi n];show wpAny _ _ (pure (((sIx n 0 lo:Nat):Int),(1:Int),Builtin.Slice.slicePlaces ((sIx n 0 lo:Nat):Int) ((sIx n n hi:Nat):Int) 1)) _ _ s;rw[ACu];exact AN h
def AC2(xs:Array Value)(i k:Nat):((List.range k).filterMap λ(m:Nat)=>xs[((i:Int)+(m:Int)*1).toNat]?).toArray=((xs.toList.drop i).take k).toArray:=by
 have e:(λ(m:Nat)=>xs[((i:Int)+(m:Int)*1).toNat]?)=λm=>xs[i+m]?:=by
  funext m
  have:((i:Int)+(m:Int)*1).toNat=i+m:=by omega
  rw[this]
 rw[e];have:=pick_run xs i k;rw[List.filterMap_map] at this;have e2:((λx=>xs[x]?)∘λx=>i+x)=λm=>xs[i+m]?:=rfl;rw[e2] at this;rw[this]
def AJu{t sl:Addr}{items:Array Value}{vl vu:Value}{lo hi:Option Int}{Q:ANL}(ht:IsTup s.heap t items)(hs:s.heap.IsSliceOf sl vl vu .none)(pl:IsPart vl lo)(pu:IsPart vu hi)
  (hw:¬(sIx items.size 0 lo=0/\sIx items.size items.size hi=items.size))
  (h:Q (.ref s.heap.objs.size) {s with heap:=s.heap.push {cls:=.type "tuple",data:=.seq ((items.toList.drop (sIx items.size 0 lo)).take (sIx items.size items.size hi-sIx items.size 0 lo)).toArray}})
  (hsz:items.size<=sizeLine):wpAny (model prog w) A (getItem (.ref t) (.ref sl)) Q E s:=by
 have htake:sizeOk (.seq ((items.toList.drop (sIx items.size 0 lo)).take (sIx items.size items.size hi-sIx items.size 0 lo)).toArray):=by show((items.toList.drop (sIx items.size 0 lo)).take (sIx items.size items.size hi-sIx items.size 0 lo)).toArray.size<=sizeLine;rw[Be,EW,AL0,AMa];omega
 have hj:sIx items.size items.size hi<=items.size:=ABw _ _ (Af _) hi;obtain⟨os,hos,hcs,hds⟩:=id hs;have hTs:s.TypeIs (.ref sl) "slice":=⟨os,hos,hcs⟩;unfold getItem
 try with_reducible refine DZ ?_
 first|refine AH (AN ?_)|skip
 refine AH (wpAny_sequenceKey ht.typeIs (by decide) ?_)
 refine AH (AM5 (name:=Str.ofString "__getitem__") ht.typeIs PyProof.Rows.slot_tuple_getitem
  (Fy PyProof.Rows.slot_tuple_getitem ht.typeIs entry_tuple_getitem ?_ (args_tuple_getitem _ _)))
 show wpAny _ _ (Builtin.Tuple.tupleItemsOf (.ref t) >>= _) _ _ s;refine AH (tupleItemsOf_ ht ?_);refine AH (wpAny_typeOf hTs ?_);rw[if_pos (by decide)];refine AH (VO hs pl pu ?_)
 have hno:¬((((sIx items.size 0 lo:Nat):Int) == 0&&(1:Int) == 1&&(sIx items.size items.size hi-sIx items.size 0 lo) == items.size)=true):=by intro q;rw[Bz,Bz] at q;have q1:((sIx items.size 0 lo:Nat):Int)=0:=eq_of_beq q.1.1;have q2:sIx items.size items.size hi-sIx items.size 0 lo=items.size:=eq_of_beq q.2;exact hw ⟨by omega,by omega⟩
 show wpAny _ _ (if (((sIx items.size 0 lo:Nat):Int) == 0&&(1:Int) == 1&&(sIx items.size items.size hi-sIx items.size 0 lo) == items.size)=true then _ else _) _ _ s
 rw[if_neg hno,AC2]
 first
  |exact AH (m:=Builtin.Tuple.tupleExact _) (AM6 (AN ⟨_,rfl,AN h⟩) htake)
  |exact AH (m:=Builtin.Tuple.tupleExact _) (AM6 (AH (AN (AN ⟨_,rfl,AN h⟩))) htake)
  |exact AH (AH (m:=Builtin.Tuple.tupleExact _) (AM6 (AN (AN ⟨_,rfl,AN h⟩)) htake))
  |exact AH (AH (m:=Builtin.Tuple.tupleExact _) (AM6 (AN ⟨_,rfl,AN h⟩) htake))
end
end HT
namespace L2
open PySem PySem.Spec PyProof.Rows
noncomputable abbrev TO:=St->Hp->(Option Int->Hp->Prop)->Prop
abbrev PO(X:Cx)(e:Option Expr)(t:TO):Prop :=
 ∀(pins:List (Addr×Obj)) (s:Shared) (Y:St) (H:Hp) (Q:Option Int->Hp->Prop),AI X pins Y H s->t Y H Q ->
  wpAny (model X.prog X.w) X.A (evalPart e X.env) (λu s'=>∃o H',AI X pins Y H' s'/\IsPart u o/\Q o H') X.xe s
abbrev AA5:TO:=λ_ H Q=>Q none H
abbrev AA0(t:TE):TO:=λY H Q=>t Y H λx H1=>∃i,x=.int i/\Q (some i) H1
section
variable {X:Cx}{e:Expr}{te:TE}{lo hi:Option Expr}{tl th:TO}{pos p2:Pos}
def ACs:PO X none AA5:=by intro pins s Y H Q I h;rw[evalPart_none];exact AN ⟨none,H,I,.none,h⟩
def ACr(h:PE X e te):PO X (some e) (AA0 te):=by intro pins s Y H Q I hw;rw[evalPart_some];refine Ae (h pins s Y H _ I hw) λu s1 z2_=>?_;obtain⟨x,H1,I1,r1,q1⟩:=z2_;obtain⟨i,rfl,q⟩:=q1;obtain⟨t,rfl⟩:=r1;exact⟨some i,H1,I1,.int i t,q⟩
abbrev Fv(X:Cx)(r:V->Option Int->Option Int->Hp->VK->Prop):Prop :=
 ∀(pins:List (Addr×Obj)) (s:Shared) (Y:St) (H:Hp) (x:V) (v vl vu:Value) (lo hi:Option Int) (sl:Addr) (Q:VK),AI X pins Y H s->Ac x v->s.heap.IsSliceOf sl vl vu .none->IsPart vl lo->IsPart vu hi->r x lo hi H Q ->
  ∃T id,typeLookup (.type T) "__getitem__"=pure (some (.builtin id))/\s.TypeIs v T/\wpAny (model X.prog X.w) X.A (getItem v (.ref sl)) (EP X pins Y Q) X.xe s
def Fv.or{r r':V->Option Int->Option Int->Hp->VK->Prop}(h:Fv X r)(h':Fv X r'):Fv X (λx lo hi H Q=>r x lo hi H Q\/r' x lo hi H Q):=by
 intro pins s Y H x v vl vu lo hi sl Q I rx hs pl pu q;rcases q with q|q
 .exact h pins s Y H x v vl vu lo hi sl Q I rx hs pl pu q
 .exact h' pins s Y H x v vl vu lo hi sl Q I rx hs pl pu q
abbrev tSl(r:V->Option Int->Option Int->Hp->VK->Prop)(te:TE)(tl th:TO):TE:=λY H Q=>te Y H λx H1=>tl Y H1 λl H2=>th Y H2 λu H3=>r x l u H3 Q
def ADG{r:V->Option Int->Option Int->Hp->VK->Prop}(hr:Fv X r)(he:PE X e te)(hl:PO X lo tl)(hu:PO X hi th):PE X (.Subscript e (.Slice lo hi none p2) pos) (tSl r te tl th):=by intro pins s Y H Q I h;refine Subscript_ (Ae (he pins s Y H _ I h) λv s1 z2_=>?_);obtain⟨x,H1,I1,r1,q1⟩:=z2_;refine wpAny_Slice (Ae (hl pins s1 Y H1 _ I1 q1) λvl s2 z2_=>?_);obtain⟨l,H2,I2,pl,q2⟩:=z2_;refine Ae (hu pins s2 Y H2 _ I2 q2) λvu s3 z2_=>?_;obtain⟨u,H3,I3,pu,q3⟩:=z2_;rw[evalPart_none];refine AN ?_;have I4:AI X pins Y H3 {s3 with heap:=s3.heap.push {cls:=.type "slice",data:=.fields #[vl,vu,.none]}}:=I3.kept (t':=s3.toks) λb ob q=>Heap.get?_push_of_some _ q;obtain⟨T,id,hT,ht,hg⟩:=hr pins {s3 with heap:=s3.heap.push {cls:=.type "slice",data:=.fields #[vl,vu,.none]}} Y H3 x v vl vu l u s3.heap.objs.size Q I4 r1 (Heap.IsSliceOf.new ..) pl pu q3;show wpAny (model X.prog X.w) X.A (subscriptTail e (.Slice lo hi none p2) v (.ref s3.heap.objs.size)) (EP X pins Y Q) X.xe {s3 with heap:=s3.heap.push {cls:=.type "slice",data:=.fields #[vl,vu,.none]}};exact tail_any (ops:=[.ref s3.heap.objs.size,v]) ht hT hg (by with_unfolding_all rfl)
abbrev GV(xs:List V)(lo hi:Option Int):List V:=(xs.drop (HT.sIx xs.length 0 lo)).take (HT.sIx xs.length xs.length hi-HT.sIx xs.length 0 lo)
def YI(xs:List V)(lo hi:Option Int):(GV xs lo hi).length<=xs.length:=by unfold GV;rw[EW,AL0];omega
abbrev ACA(K:AL):V->Option Int->Option Int->Hp->VK->Prop:=λx lo hi H Q=>∃a xs,x=.ref a/\Bd K H a xs /\
 ¬(HT.sIx xs.length 0 lo=0/\HT.sIx xs.length xs.length hi=xs.length)/\∀p,H p=none->Q (.ref p) (upd H p (.tup (GV xs lo hi)))
def ABg:Fv X (ACA X.K):=by
 intro pins s Y H x v vl vu lo hi sl Q I rx hs pl pu h;obtain⟨a,xs,rfl,hx,hw,q⟩:=h;cases rx;obtain⟨its,r,ht,hz⟩:=I.tuple hx;have hlen:its.toArray.size=xs.length:=by rw[Be];exact r.length.symm
 refine⟨"tuple",_,PyProof.Rows.slot_tuple_getitem.lookup,ht.typeIs,?_⟩;refine HT.AJu ht hs pl pu (by rw[hlen];exact hw) ?_ (by rw[hlen];exact hz);rw[hlen];refine⟨.ref s.heap.objs.size,_,I.laid (t':=s.toks) (o:=.tup (GV xs lo hi)) (λb ob q=>Heap.get?_push_of_some _ q) (Af _) ?_,rfl,q _ (I.hok.fresh (Af _))⟩;exact⟨CV (YI xs lo hi) hz,_,(r.drop (HT.sIx xs.length 0 lo)).take (HT.sIx xs.length xs.length hi-HT.sIx xs.length 0 lo),IsTup.new _ _⟩
abbrev ACH(K:AL):R2:=λx y H Q=>∃a b xs ys,x=.ref a/\y=.ref b/\Bd K H a xs/\Bd K H b ys/\xs≠[]/\xs.length+ys.length<=sizeLine /\
 (ys=[]->Q (.ref a) H)/\(ys≠[]->∀p,H p=none->Q (.ref p) (upd H p (.tup (xs++ys))))
def Ab.nil_iff{xs:List V}{us:ANF}(r:Ab xs us):us=[]↔xs=[]:=by
 cases r with
 |nil=>simp
 |cons _ _=>simp
def AD2:Au X (binaryOp .Add) (ACH X.K):=by intro pins s Y H x y v u Q I rx ry h;obtain⟨a,b,xs,ys,rfl,rfl,ha,hb,hx,hz,q1,q2⟩:=h;cases rx;cases ry;obtain⟨its,r1,p1,_⟩:=I.tuple ha;obtain⟨its2,r2,p2,_⟩:=I.tuple hb;refine HT.ALB p1 p2 (λz=>hx (r1.nil_iff.mp z)) (λz=>⟨.ref a,H,I,rfl,q1 (r2.nil_iff.mp z)⟩) (λz=>?_) (by rw[<-r1.length,<-r2.length];exact hz);refine⟨.ref s.heap.objs.size,_,I.laid (t':=s.toks) (o:=.tup (xs++ys)) (λb ob q=>Heap.get?_push_of_some _ q) (Af _) ?_,rfl,q2 (λw=>z (r2.nil_iff.mpr w)) _ (I.hok.fresh (Af _))⟩;exact⟨by rw[By];exact hz,_,r1.append r2,IsTup.new _ _⟩
end
abbrev ixN(n:Nat)(i:Int):Option Nat:=if 0<=i then (if i<n then some i.toNat else none) else if -(n:Int)<=i then some (i+n).toNat else none
abbrev atI{U:Type}(xs:List U)(i:Int):Option U:=(ixN xs.length i).bind λj=>xs[j]?
def Wo{n:Nat}{i:Int}{j:Nat}(h:ixN n i=some j):seqIndex? i n=some j/\j<n/\-(n:Int)<=i/\i<n:=by
 unfold ixN at h
 by_cases h0:0<=i
 .rw[if_pos h0] at h
  by_cases h1:i<n
  .rw[if_pos h1] at h;have e:i.toNat=j:=Option.some.inj h;exact⟨by rw[seqIndex_of h0 h1,e],by omega,by omega,h1⟩
  .rw[if_neg h1] at h;cases h
 .rw[if_neg h0] at h
  by_cases h1:-(n:Int)<=i
  .rw[if_pos h1] at h;have e:(i+n).toNat=j:=Option.some.inj h;exact⟨by rw[seqIndex_neg (by omega) h1,e],by omega,h1,by omega⟩
  .rw[if_neg h1] at h;cases h
def OC{U:Type}{xs:List U}{i:Int}{v:U}(h:atI xs i=some v):∃j,seqIndex? i xs.length=some j/\xs[j]?=some v/\j<xs.length/\-(xs.length:Int)<=i/\i<xs.length:=by
 unfold atI at h
 cases e:ixN xs.length i with
 |none=>rw[e] at h;cases h
 |some j =>
  rw[e] at h;obtain⟨h1,h2,h3,h4⟩:=Wo e;exact⟨j,h1,h,h2,h3,h4⟩
def Di{U:Type}{xs:List U}{j:Nat}{v:U}(h:xs[j]?=some v):atI xs (j:Int)=some v:=by
 have hj:j<xs.length:=(Ax.mp h).1
 have e:ixN xs.length (j:Int)=some j:=by unfold ixN;rw[if_pos (by omega),if_pos (by omega)];simp
 unfold atI;rw[e];exact h
def AHB{U:Type}(xs:List U)(v:U):atI (xs++[v]) (-1)=some v:=by
 have hl:(xs++[v]).length=xs.length+1:=by simp
 have e:ixN (xs++[v]).length (-1)=some xs.length:=by
  unfold ixN;rw[hl,if_neg (by decide),if_pos (by omega)]
  congr 1
  omega
 unfold atI;rw[e];show(xs++[v])[xs.length]?=some v;simp
abbrev Sk(b:Expr):Prop:=∀o i,subscripted b false o i=operate [o,i] (getItem o i)
abbrev FK(X:Cx)(r:R2):Prop :=
 ∀(value slice:Expr) (pins:List (Addr×Obj)) (s:Shared) (Y:St) (H:Hp) (x y:V) (v u:Value) (Q:VK),AI X pins Y H s->Ac x v->Ac y u->r x y H Q ->
  subscripted slice false v u=operate [v,u] (getItem v u)->wpAny (model X.prog X.w) X.A (subscriptTail value slice v u) (EP X pins Y Q) X.xe s
abbrev FJ(X:Cx)(id:String)(r:V->List V->Hp->VK->Prop):Prop :=
 ∀(pins:List (Addr×Obj)) (s:Shared) (Y:St) (H:Hp) (x:V) (xs:List V) (v:Value) (us:ANF) (Q:VK),AI X pins Y H s->Ac x v->Ab xs us->r x xs H Q ->
  wpAny (model X.prog X.w) X.A (call (.builtin id) (v::us)) (EP X pins Y Q) X.xe s
section
variable {X:Cx}{a b:Expr}{ta tb:TE}{pos:Pos}
def FK.or{r r':R2}(h:FK X r)(h':FK X r'):FK X (λx y H Q=>r x y H Q\/r' x y H Q):=by
 intro value slice pins s Y H x y v u Q I rx ry q hs;rcases q with q|q
 .exact h value slice pins s Y H x y v u Q I rx ry q hs
 .exact h' value slice pins s Y H x y v u Q I rx ry q hs
def FJ.or{id:String}{r r':V->List V->Hp->VK->Prop}(h:FJ X id r)(h':FJ X id r'):FJ X id (λx xs H Q=>r x xs H Q\/r' x xs H Q):=by
 intro pins s Y H x xs v us Q I rx rs q;rcases q with q|q
 .exact h pins s Y H x xs v us Q I rx rs q
 .exact h' pins s Y H x xs v us Q I rx rs q
def ADO{r:R2}(hr:FK X r)(ha:PE X a ta)(hb:PE X b tb)(hs:Sk b):PE X (.Subscript a b pos) (Kh r ta tb):=by intro pins s Y H Q I h;exact Subscript_ (SW ha hb I h λv u s2 x y H2 I2 rx ry q=>hr a b pins s2 Y H2 x y v u Q I2 rx ry q (hs _ _))
abbrev Vc(K:AL):R2:=λx y H Q=>∃p xs i v,x=.ref p/\y=.int i/\BJ K H p xs/\atI xs i=some v/\Q v H
abbrev Va(K:AL):R2:=λx y H Q=>∃p xs i v,x=.ref p/\y=.int i/\Bd K H p xs/\atI xs i=some v/\Q v H
abbrev Vb:R2:=λx y H Q=>∃z i c,x=.str z/\y=.int i/\z.length<=sizeLine/\atI z.cps.toList i=some c/\Q (.str ⟨#[c]⟩) H
def AFI:FK X (Vc X.K):=by
 intro value slice pins s Y H x y v u Q I rx ry h hs;obtain⟨p,xs,i,z,rfl,rfl,hq,he,q⟩:=h;cases rx;obtain⟨t,rfl⟩:=ry;obtain⟨its,r,pl,hz⟩:=I.list hq;obtain⟨j,h1,h2,h3,h4,h5⟩:=OC he;obtain⟨w,ew,rw'⟩:=r.get h2;have hl:=r.length;have hn:=JH;have fin:EP X pins Y Q w s:=⟨z,H,I,rw',q⟩
 by_cases h0:0<=i
 .have hj:i.toNat=j:=by
   rw[seqIndex_of h0 h5] at h1;exact Option.some.inj h1
  exact item_listR pl.isList h0 (by omega) (by rw[hj];simpa using ew) fin hs
 .have hj:(i+(its.toArray.size:Int)).toNat=j:=by
   rw[seqIndex_neg (by omega) h4] at h1;rw[Be,<-hl];exact Option.some.inj h1
  exact subscriptTail_builtinR (x:=w) pl.isList.typeIs slot_list_getitem.lookup
   (wpAny_getItem_list_neg (Q:=λr s'=>r=w/\EP X pins Y Q r s') pl.isList (by omega) (by rw[Be] <;> omega) (by omega) (by rw[hj];simpa using ew) ⟨rfl,fin⟩) hs
def AFF:FK X (Va X.K):=by
 intro value slice pins s Y H x y v u Q I rx ry h hs;obtain⟨p,xs,i,z,rfl,rfl,hq,he,q⟩:=h;cases rx;obtain⟨t,rfl⟩:=ry;obtain⟨its,r,pl,hz⟩:=I.tuple hq;obtain⟨j,h1,h2,h3,h4,h5⟩:=OC he;obtain⟨w,ew,rw'⟩:=r.get h2;have hl:=r.length;have hn:=JH;have fin:EP X pins Y Q w s:=⟨z,H,I,rw',q⟩
 exact subscriptTail_builtinR (x:=w) pl.typeIs slot_tuple_getitem.lookup
  (getItem_tuple (j:=j) (Q:=λr s'=>r=w/\EP X pins Y Q r s') pl (by omega) (by omega) (by rw[Be,<-hl];exact h1) (by simpa using ew) ⟨rfl,fin⟩) hs
def AFG:FK X Vb:=by
 intro value slice pins s Y H x y v u Q I rx ry h hs;obtain⟨z,i,c,rfl,rfl,hz,he,q⟩:=h;obtain⟨t,rfl⟩:=rx;obtain⟨t',rfl⟩:=ry;obtain⟨j,h1,h2,h3,h4,h5⟩:=OC he;have hl:z.cps.toList.length=z.length:=by simp[Str.length]
 rw[hl] at h1 h4 h5;have hn:=JH
 exact tail_any (typeIs_str s z t) slot_str_getitem.lookup (getItem_str (c:=c) (by
  have e1:decide (i < -(2 ^ 63:Int))=false:=decide_eq_false (by omega);have e2:decide (i ≥ 2 ^ 63)=false:=decide_eq_false (by omega)
  rw[e1,e2,Bool.or_false]) (by rw[h1];simpa using h2) ⟨.str ⟨#[c]⟩,H,I.tok _,⟨_,rfl⟩,q⟩) hs
abbrev rIx(K:AL):R2:=λx y H Q=>Vc K x y H Q\/Va K x y H Q\/Vb x y H Q
def AFH:FK X (rIx X.K):=AFI.or (AFF.or AFG)
def AEZ(its:ANF)(n j:Nat)(u:Value):Obj.mapSeq (·.setIfInBounds j u) {cls:=.type "list",data:=.seq its.toArray n}={cls:=.type "list",data:=.seq (its.set j u).toArray n}:=by simp[Obj.mapSeq]
def AI.lst{pins:List (Addr×Obj)}{Y:St}{H:Hp}{s:Shared}{p:Addr}{xs:List V}(I:AI X pins Y H s)(h:H p=some (.lst xs)) :
  ∃(its:ANF) (n:Nat),Ab xs its/\s.heap.get? p=some {cls:=.type "list",data:=.seq its.toArray n}/\xs.length<=sizeLine:=by
 obtain⟨z,its,n,r,e⟩:=I.hok p _ h;exact⟨its,n,r,e,z⟩
def AI.lstUpd{pins:List (Addr×Obj)}{Y:St}{H:Hp}{s:Shared}{p:Addr}{xs ys:List V}{its its':ANF}{n n':Nat}{f:Obj->Obj}(I:AI X pins Y H s)(h:H p=some (.lst xs))
  (ho:s.heap.get? p=some {cls:=.type "list",data:=.seq its.toArray n}) (hf:f {cls:=.type "list",data:=.seq its.toArray n}={cls:=.type "list",data:=.seq its'.toArray n'}) (r:Ab ys its') (hz:ys.length<=sizeLine) (t:Nat) :
  AI X pins Y (upd H p (.lst ys)) {s with heap:=s.heap.update p f,toks:=t}:=by
 have e:(s.heap.update p f).get? p=some {cls:=.type "list",data:=.seq its'.toArray n'}:=by rw[Heap.get?_update_self f ho (by rw[hf] <;> rfl),hf]
 refine I.write (x:=p) (e:=p) (by rw[h];trivial) (.inl rfl) (λb u hb q=>(Heap.get?_update_other _ _ (Ne.symm hb)).trans q) ⟨_,e⟩ ?_;exact⟨hz,its',n',r,e⟩
abbrev ACC:V->V->V->Hp->(Hp->Prop)->Prop:=λo i v H Q=>∃p xs k j,o=.ref p/\i=.int k/\H p=some (.lst xs)/\ixN xs.length k=some j/\Q (upd H p (.lst (xs.set j v)))
def ABm:Sl X ACC:=by
 intro pins s Y H o i v ov iv u Q I ro ri rv h;obtain⟨p,xs,k,j,rfl,rfl,hp,hj,q⟩:=h;cases ro;obtain⟨t,rfl⟩:=ri;obtain⟨its,n,r,ho,hz⟩:=I.lst hp;obtain⟨h1,h2,h3,h4⟩:=Wo hj;have hl:=r.length;have hn:=JH
 have I':AI X pins Y (upd H p (.lst (xs.set j v))) {s with heap:=s.heap.update p (Obj.mapSeq (·.setIfInBounds j u))} :=
  I.lstUpd hp ho (AEZ its n j u) (r.set rv j) (by rw[AL1];exact hz) s.toks
 by_cases h0:0<=k
 .have hk:k.toNat=j:=by
   rw[seqIndex_of h0 h4] at h1;exact Option.some.inj h1
  exact PySem.W.ki_setAt ho h0 (by omega) (by rw[Be,<-hl];exact h4) (by rw[hk];exact⟨_,I',q⟩)
 .have hk:(k+(its.toArray.size:Int)).toNat=j:=by
   rw[seqIndex_neg (by omega) h3] at h1;rw[Be,<-hl];exact Option.some.inj h1
  exact PySem.W.ki_setBack ho (by omega) (by rw[Be,<-hl];exact h3) (by omega) (by rw[hk];exact⟨_,I',q⟩)
def ABd(lo hi:Option Int)(n:Nat):(sliceBounds lo hi none n).1=((HT.sIx n 0 lo:Nat):Int)/\(sliceBounds lo hi none n).2.1=((HT.sIx n n hi:Nat):Int)/\(sliceBounds lo hi none n).2.2=1:=by
 refine⟨?_,?_,rfl⟩
 .cases lo with
  |none=>simp[sliceBounds,HT.sIx]
  |some i =>
   simp only[sliceBounds,HT.sIx,Option.getD_none,show(1:Int)>0 by decide,if_true]
   by_cases h:i<0
   .simp only[h,if_true] <;> omega
   .simp only[h,if_false] <;> omega
 .cases hi with
  |none=>simp[sliceBounds,HT.sIx]
  |some i =>
   simp only[sliceBounds,HT.sIx,Option.getD_none,show(1:Int)>0 by decide,if_true]
   by_cases h:i<0
   .simp only[h,if_true] <;> omega
   .simp only[h,if_false] <;> omega
def ABe(its:ANF)(lo hi:Option Int):slicePick its.toArray lo hi none=((its.drop (HT.sIx its.length 0 lo)).take (HT.sIx its.length its.length hi-HT.sIx its.length 0 lo)).toArray:=by obtain⟨h1,h2,h3⟩:=ABd lo hi its.toArray.size;unfold slicePick;rw[h1,h2,h3];simp only[sliceRange_one,pick_run,Be] <;> rfl
abbrev ACB(K:AL):V->Option Int->Option Int->Hp->VK->Prop:=λx lo hi H Q=>∃a xs,x=.ref a/\BJ K H a xs/\∀p,H p=none->Q (.ref p) (upd H p (.lst (GV xs lo hi)))
def ABi:Fv X (ACB X.K):=by intro pins s Y H x v vl vu lo hi sl Q I rx hs pl pu h;obtain⟨a,xs,rfl,hx,q⟩:=h;cases rx;obtain⟨its,r,ht,hz⟩:=I.list hx;have hlen:=r.length;refine⟨"list",_,slot_list_getitem.lookup,ht.isList.typeIs,?_⟩;refine wpAny_getItem_list_slice ht.isList hs pl pu .none (by simp) ?_ (by rw[Be] <;> omega);rw[ABe,<-hlen];refine⟨.ref s.heap.objs.size,_,I.laid (t':=s.toks) (o:=.lst (GV xs lo hi)) (λb ob q=>Heap.get?_push_of_some _ q) (Af _) ?_,rfl,q _ (I.hok.fresh (Af _))⟩;exact⟨CV (YI xs lo hi) hz,_,0,(r.drop (HT.sIx xs.length 0 lo)).take (HT.sIx xs.length xs.length hi-HT.sIx xs.length 0 lo),Heap.get?_push_size _ rfl⟩
abbrev Fp:V->Bool
 |.non=>true
 |.bl _=>true
 |.int _=>true
 |.str _=>true
 |_=>false
abbrev eqV:V->V->Bool
 |.non,.non=>true
 |.bl a,.bl b=>a == b
 |.bl a,.int b=>(if a then 1 else 0) == b
 |.int a,.bl b=>a == (if b then 1 else 0)
 |.int a,.int b=>a == b
 |.str a,.str b=>a == b
 |_,_=>false
def Xs{A:Around}{s:Shared}{y x:V}{u v:Value}(ry:Ac y u)(rx:Ac x v)(fy:Fp y=true)(fx:Fp x=true):SeqAt.EqAt A s u v (eqV y x):=by
 cases y with
 |non =>
  cases ry
  cases x with
  |non=>cases rx;exact SeqAt.EqAt.same _
  |bl b=>cases rx;exact SeqAt.EqAt.none_bool b
  |int b=>obtain⟨t,rfl⟩:=rx;exact SeqAt.EqAt.none_int b t
  |str b=>obtain⟨t,rfl⟩:=rx;exact SeqAt.EqAt.none_str b t
  |_=>exact absurd (show false=true from fx) Cf
 |bl a =>
  cases ry
  cases x with
  |non=>cases rx;exact SeqAt.EqAt.bool_none a
  |bl b=>cases rx;exact SeqAt.EqAt.bool_bool a b
  |int b=>obtain⟨t,rfl⟩:=rx;exact SeqAt.EqAt.bool_int a b t
  |str b=>obtain⟨t,rfl⟩:=rx;exact SeqAt.EqAt.bool_str a b t
  |_=>exact absurd (show false=true from fx) Cf
 |int a =>
  obtain⟨t',rfl⟩:=ry
  cases x with
  |non=>cases rx;exact SeqAt.EqAt.int_none a t'
  |bl b=>cases rx;exact SeqAt.EqAt.int_bool a t' b
  |int b=>obtain⟨t,rfl⟩:=rx;exact SeqAt.EqAt.int_int a t' b t
  |str b=>obtain⟨t,rfl⟩:=rx;exact SeqAt.EqAt.int_str a t' b t
  |_=>exact absurd (show false=true from fx) Cf
 |str a =>
  obtain⟨t',rfl⟩:=ry
  cases x with
  |non=>cases rx;exact SeqAt.EqAt.str_none a t'
  |bl b=>cases rx;exact SeqAt.EqAt.str_bool a t' b
  |int b=>obtain⟨t,rfl⟩:=rx;exact SeqAt.EqAt.str_int a t' b t
  |str b=>obtain⟨t,rfl⟩:=rx;exact SeqAt.EqAt.str_str a t' b t
  |_=>exact absurd (show false=true from fx) Cf
 |_=>exact absurd (show false=true from fy) Cf
abbrev Er(x:V)(u:Value):Bool:=match u with
 |.none=>eqV .non x
 |.bool b=>eqV (.bl b) x
 |.int i _=>eqV (.int i) x
 |.str z _=>eqV (.str z) x
 |_=>false
def Xn{x y:V}{u:Value}(r:Ac y u)(f:Fp y=true):Er x u=eqV y x:=by
 cases y with
 |non=>cases r;rfl
 |bl b=>cases r;rfl
 |int i=>obtain⟨t,rfl⟩:=r;rfl
 |str z=>obtain⟨t,rfl⟩:=r;rfl
 |_=>exact absurd (show false=true from f) Cf
def LV{x:V}:∀{xs:List V} {us:ANF},Ab xs us->xs.all Fp=true->us.any (Er x)=xs.any λy=>eqV y x
 |_,_,.nil,_=>rfl
 |y::xs,u::us,.cons r t,f=>by
  rw[ALq,Bz] at f;rw[ALk,ALk,Xn r f.1,LV t f.2]
def Kr{A:Around}{s:Shared}{x:V}{v:Value}(rx:Ac x v)(fx:Fp x=true):∀{xs:List V} {us:ANF},Ab xs us->xs.all Fp=true->∀u∈us,SeqAt.EqAt A s u v (Er x u)
 |_,_,.nil,_=>λu hu=>by cases hu
 |y::xs,u::us,.cons r t,f=>λu' hu=>by
  rw[ALq,Bz] at f;rcases AX.mp hu with rfl|hu
  .rw[Xn r f.1];exact Xs r rx f.1 fx
  .exact Kr rx fx t f.2 u' hu
abbrev Rq(x:V)(xs:List V):Bool:=xs.any λy=>eqV y x
abbrev RE(K:AL)(neg:Bool):R2:=λx y H Q=>∃p xs,y=.ref p/\(BJ K H p xs\/Bd K H p xs)/\Fp x=true/\xs.all Fp=true/\Q (.bl (if neg then !Rq x xs else Rq x xs)) H
def ADx:Au X (compareOp .In) (RE X.K false):=by
 intro pins s Y H x y v u Q I rx ry h;obtain⟨p,xs,rfl,hq,fx,fs,q⟩:=h;cases ry;rcases hq with hq|hq
 .obtain⟨its,r,pl,hz⟩:=I.list hq;refine SeqAt.in_listAt (Er x) pl.isList (λw hw=>Kr rx fx r fs w (by simpa using hw)) ⟨.bl _,H,I,rfl,?_⟩;rw[show its.toArray.any (Er x)=its.any (Er x) by simp,LV r fs];exact q
 .obtain⟨its,r,pl,hz⟩:=I.tuple hq;refine SeqAt.in_tupleAt (Er x) pl (λw hw=>Kr rx fx r fs w (by simpa using hw)) ⟨.bl _,H,I,rfl,?_⟩;rw[show its.toArray.any (Er x)=its.any (Er x) by simp,LV r fs];exact q
def ADq:Au X (compareOp .NotIn) (RE X.K true):=by
 intro pins s Y H x y v u Q I rx ry h;obtain⟨p,xs,rfl,hq,fx,fs,q⟩:=h;cases ry;rcases hq with hq|hq
 .obtain⟨its,r,pl,hz⟩:=I.list hq;refine SeqAt.notIn_listAt (Er x) pl.isList (λw hw=>Kr rx fx r fs w (by simpa using hw)) ⟨.bl _,H,I,rfl,?_⟩;rw[show its.toArray.any (Er x)=its.any (Er x) by simp,LV r fs];exact q
 .obtain⟨its,r,pl,hz⟩:=I.tuple hq;refine SeqAt.notIn_tupleAt (Er x) pl (λw hw=>Kr rx fx r fs w (by simpa using hw)) ⟨.bl _,H,I,rfl,?_⟩;rw[show its.toArray.any (Er x)=its.any (Er x) by simp,LV r fs];exact q
def AGt:Bx X (.builtin "len") (λxs H Q=>∃p ys,xs=[.ref p]/\(BJ X.K H p ys\/Bd X.K H p ys)/\Q (.int ys.length) H):=by
 intro pins s Y H xs us Q I r h;obtain⟨p,ys,rfl,hq,q⟩:=h;obtain⟨u,rfl,rx⟩:=Dk r;cases rx;have hn:=JH;rcases hq with hq|hq
 .obtain⟨its,r',pl,hz⟩:=I.list hq;have hlen:=r'.length;exact Calls.call_len_list pl.isList (by simp only[Be] <;> omega) ⟨.int ys.length,H,I.tok _,⟨s.toks+1,by rw[Be,hlen]⟩,q⟩
 .obtain⟨its,r',pl,hz⟩:=I.tuple hq;have hlen:=r'.length;exact len_tuple pl (by simp only[Be] <;> omega) ⟨.int ys.length,H,I.tok _,⟨s.toks+1,by rw[Be,hlen]⟩,q⟩
def AGs:Bx X (.builtin "len") (λxs H Q=>∃z,xs=[.str z]/\z.length<=sizeLine/\Q (.int z.length) H):=by intro pins s Y H xs us Q I r h;obtain⟨z,rfl,hz,q⟩:=h;obtain⟨u,rfl,t,rfl⟩:=Dk r;have hn:=JH;exact len_str (by omega) ⟨.int z.length,H,I.tok _,⟨_,rfl⟩,q⟩
def Bx.or{f:Value}{r r':List V->Hp->VK->Prop}(h:Bx X f r)(h':Bx X f r'):Bx X f (λxs H Q=>r xs H Q\/r' xs H Q):=by
 intro pins s Y H xs us Q I rs q;rcases q with q|q
 .exact h pins s Y H xs us Q I rs q
 .exact h' pins s Y H xs us Q I rs q
def AGr:Bx X (.type "list") (λxs H Q=>∃p ys,xs=[.ref p]/\(BJ X.K H p ys\/Bd X.K H p ys)/\∀l,H l=none->Q (.ref l) (upd H l (.lst ys))):=by
 intro pins s Y H xs us Q I r h;obtain⟨p,ys,rfl,hq,q⟩:=h;obtain⟨u,rfl,rx⟩:=Dk r;cases rx
 have fin:∀(its:ANF),Ab ys its->ys.length<=sizeLine->∀(h':Heap) (c':Nat),(∀b o',s.heap.get? b=some o'->h'.get? b=some o') ->
   h'.get? s.heap.objs.size=some {cls:=.type "list",dict:=none,data:=.seq its.toArray c',slots:=#[]}->EP X pins Y Q (.ref s.heap.objs.size) {s with heap:=h'}:=λits r' hz h' c' kp e =>
  ⟨.ref s.heap.objs.size,_,I.laid (t':=s.toks) kp (Af _) (show CB X.prog X.w _ h' _ (.lst ys) from ⟨hz,its,c',r',e⟩),rfl,q _ (I.hok.fresh (Af _))⟩
 rcases hq with hq|hq
 .obtain⟨its,r',pl,hz⟩:=I.list hq;have hlen:=r'.length;obtain⟨o,ho,hc,n,hd⟩:=pl.isList;exact call_list_seq p (.inl rfl) ho hc hd (λh' c' kp e=>fin its r' hz h' c' kp e) (by simp only[Be] <;> omega)
 .obtain⟨its,r',pl,hz⟩:=I.tuple hq;have hlen:=r'.length;obtain⟨o,ho,hc,n,hd⟩:=pl;exact call_list_seq p (.inr rfl) ho hc hd (λh' c' kp e=>fin its r' hz h' c' kp e) (by simp only[Be] <;> omega)
def AGm:Bx X (.type "tuple") (λxs H Q=>∃p ys,xs=[.ref p]/\((BJ X.K H p ys/\∀l,H l=none->Q (.ref l) (upd H l (.tup ys)))\/(Bd X.K H p ys/\Q (.ref p) H))):=by
 intro pins s Y H xs us Q I r h;obtain⟨p,ys,rfl,h⟩:=h;obtain⟨u,rfl,rx⟩:=Dk r;cases rx;rcases h with⟨hq,q⟩|⟨hq,q⟩
 .obtain⟨its,r',pl,hz⟩:=I.list hq;have hlen:=r'.length;refine call_tuple_list pl.isList (λh' kp=>?_) (by simp only[Be] <;> omega);have I1:AI X pins Y H {s with heap:=h'}:=I.kept (t':=s.toks) kp
  have I2:AI X pins Y (upd H h'.objs.size (.tup ys)) {s with heap:=h'.push {cls:=.type "tuple",data:=.seq its.toArray}} :=
   I1.laid (t':=s.toks) (λb o e=>Heap.get?_push_of_some _ e) (Af _) (show CB X.prog X.w _ _ _ (.tup ys) from ⟨hz,its,r',IsTup.new _ _⟩)
  exact⟨.ref h'.objs.size,_,I2,rfl,q _ (I1.hok.fresh (Af _))⟩
 .obtain⟨its,r',pl,hz⟩:=I.tuple hq;exact call_tuple_same pl ⟨.ref p,H,I,rfl,q⟩
abbrev Mt(K:AL)(T:String)(x:V)(H:Hp):Prop:=match x with
 |.str _=>T = "str"
 |.int _=>T = "int"
 |.ref p=>(T = "list"/\∃xs,BJ K H p xs)\/(T = "tuple"/\∃o,K.lookup p=some o/\o.cls=.type "tuple"/\o.dict=none) \/
   (T = "dict"/\((∃kvs,H p=some (.dK kvs))\/(∃kvs,H p=some (.dT kvs))\/∃kvs ep,H p=some (.dN kvs ep)))\/(T = "set"/\∃S n,H p=some (.set S n))
 |_=>False
def Ub{pins:List (Addr×Obj)}{Y:St}{H:Hp}{s:Shared}{T:String}{x:V}{v:Value}(I:AI X pins Y H s)(r:Ac x v)(ty:Mt X.K T x H) :
  s.TypeIs v T/\∀a,v=.ref a->∃ob,s.heap.get? a=some ob/\ob.dict=none:=by
 cases x with
 |str z =>
  obtain⟨t,rfl⟩:=r;cases (show T = "str" from ty);exact⟨typeIs_str s z t,λ_ e=>nomatch e⟩
 |int i =>
  obtain⟨t,rfl⟩:=r;cases (show T = "int" from ty);exact⟨typeIs_int s i t,λ_ e=>nomatch e⟩
 |ref p =>
  cases r;rcases ty with⟨rfl,xs,hq⟩|⟨rfl,o,hk,hc,hd⟩|⟨rfl,hk⟩|⟨rfl,S,n,hk⟩
  .obtain⟨its,_,pl,_⟩:=I.list hq;refine⟨pl.isList.typeIs,λa e=>?_⟩;cases e;obtain⟨o,n,e,c,hd,_⟩:=pl;exact⟨o,e,hd⟩
  .refine⟨⟨o,I.kIn p o hk,hc⟩,λa e=>?_⟩;cases e;exact⟨o,I.kIn _ o hk,hd⟩
  .have z:∃o,s.heap.get? p=some o/\o.ExactDict:=by
    rcases hk with⟨kvs,hk⟩|⟨kvs,hk⟩|⟨kvs,ep,hk⟩
    .obtain⟨_,_,_,_,o,_,_,e,ex,_⟩:=I.hok p _ hk;exact⟨o,e,ex⟩
    .obtain⟨_,_,_,_,o,_,_,e,ex,_⟩:=I.hok p _ hk;exact⟨o,e,ex⟩
    .obtain⟨_,_,_,_,o,_,e,ex,_⟩:=I.hok p _ hk;exact⟨o,e,ex⟩
   obtain⟨o,e,ex⟩:=z;refine⟨⟨o,e,ex.1⟩,λa e2=>?_⟩;cases e2;exact⟨o,e,ex.2.1⟩
  .obtain⟨o,_,_,_,e,ex,_⟩:=I.hok p _ hk;refine⟨⟨o,e,ex.1⟩,λa e2=>?_⟩;cases e2;exact⟨o,e,ex.2.1⟩
 |_=>exact False.elim ty
abbrev ABG(K:AL)(T:String)(r:V->List V->Hp->VK->Prop)(to:TE):TE:=λY H Q=>to Y H λx H1=>Mt K T x H1/\r x [] H1 Q
abbrev tBM(K:AL)(T:String)(r:V->List V->Hp->VK->Prop)(to:TE)(t:TA):TE:=λY H Q=>to Y H λx H1=>Mt K T x H1/\t Y H1 λxs H2=>r x xs H2 Q
variable {o e:Expr}{es:ANH}{to:TE}{t:TA}{name:Str}{apos cpos:Pos}{T id:String}{r:V->List V->Hp->VK->Prop}
def ADY(pa:PlainAttrs T)(slot:Slot T name id)(hty:typeOf (.builtin id)=pure (.type "method_descriptor"))(hm:FJ X id r)(ho:PE X o to)
  (hbase:attributeBase o name X.env (eval o X.env)=eval o X.env:=by rfl) (hline:(apos.endLine == cpos.line)=true:=by rfl):PE X (.Call (.Attribute o name apos) [] [] cpos) (ABG X.K T r to):=by
 intro pins s Y H Q I h;refine wpAny_Call_method0_late hbase hline (Ae (ho pins s Y H _ I h) λv s1 z2_=>?_);obtain⟨x,H1,I1,r1,ty,q1⟩:=z2_;obtain⟨h1,h2⟩:=Ub I1 r1 ty;exact⟨T,id,pa,slot,hty,h1,h2,Calls.callWith_builtin rfl (PySem.evalArgs_none (hm pins s1 Y H1 x [] v [] Q I1 r1 .nil q1))⟩
def ADZ(pa:PlainAttrs T)(slot:Slot T name id)(hty:typeOf (.builtin id)=pure (.type "method_descriptor"))(hm:FJ X id r)(ho:PE X o to)(ha:PA X (e::es) t)
  (hbase:attributeBase o name X.env (eval o X.env)=eval o X.env:=by rfl)
  (hfew:((backTo cpos (starEach (e::es) X.env)).all (λx=>!x.1)&&(backToKw cpos (keywordEach [] X.env)).all (λx=>x.1.isSome)
   && decide ((e::es).length+([]:List Keyword).length+(if ([]:List Keyword).isEmpty then 0 else 1)<30))=true:=by rfl)
  (hline:(apos.endLine == cpos.line)=true:=by rfl) (hs:starEach (e::es) X.env=(false,eval e X.env)::starEach es X.env:=by rfl) (hplain:(backTo cpos (starEach es X.env)).any (·.1)=false:=by rfl) :
  PE X (.Call (.Attribute o name apos) (e::es) [] cpos) (tBM X.K T r to t):=by
 intro pins s Y H Q I h;refine wpAny_Call_method_late hbase hfew hline rfl (Ae (ho pins s Y H _ I h) λv s1 z2_=>?_);obtain⟨x,H1,I1,r1,ty,q1⟩:=z2_;obtain⟨h1,h2⟩:=Ub I1 r1 ty;refine⟨T,id,pa,slot,hty,h1,h2,?_⟩;have hA:=ha cpos pins s1 Y H1 _ I1 q1;rw[hs] at hA ⊢;refine Calls.callWith_builtin (by show(false || (backTo cpos (starEach es X.env)).any (·.1))=false;rw[hplain] <;> rfl) (Calls.evalArgs_plain ?_);exact Ae hA λus s2 z2_=>by obtain⟨vs,H2,I2,r2,q2⟩:=z2_;exact hm pins s2 Y H2 x vs v us Q I2 r1 r2 q2
end
abbrev Yt(X:Cx)(id:String)(r:V->List V->Hp->VK->Prop):Prop :=
 ∀(pins:List (Addr×Obj)) (s:Shared) (Y:St) (H:Hp) (x:V) (xs:List V) (v:Value) (us:ANF) (Q:VK),AI X pins Y H s->Ac x v->Ab xs us->r x xs H Q ->
  wpAny (model X.prog X.w) X.A (call (.builtin id) (v::us)) (EP X pins Y Q) X.xe s
def Ab.one:∀{x:V} {us:ANF},Ab [x] us->∃u,us=[u]/\Ac x u
 |_,_,.cons r .nil=>⟨_,rfl,r⟩
def Ab.zero:∀{us:ANF},Ab [] us->us=[]
 |_,.nil=>rfl
def Ab.reverse{xs:List V}{us:ANF}(h:Ab xs us):Ab xs.reverse us.reverse:=by
 induction h with
 |nil=>exact .nil
 |cons r t ih=>rw[AMh,AMh];exact Ab.append ih (.cons r .nil)
section
variable {X:Cx}{pins:List (Addr×Obj)}{Y:St}{H:Hp}{s:Shared}{l b:Addr}{xs ys zs:List V}
def AI.lset{its its':ANF}{n:Nat}{f:Array Value->Array Value}{t':Nat}(I:AI X pins Y H s)(hH:H l=some (.lst xs))
  (e:s.heap.get? l=some {cls:=.type "list",data:=.seq its.toArray n}) (hf:f its.toArray=its'.toArray) (hv:Ab ys its') (hz:ys.length<=sizeLine) :
  AI X pins Y (upd H l (.lst ys)) {s with heap:=s.heap.update l (Obj.mapSeq f),toks:=t'}:=by
 have q:=PySem.IsL.update e f;rw[hf] at q;refine I.write (x:=l) (e:=l) (by rw[hH];exact trivial) (.inl rfl) (λb' u hb hu=>(Heap.get?_update_other s.heap (Obj.mapSeq f) (Ne.symm hb)).trans hu) ⟨_,q⟩ ?_;exact⟨hz,its',_,hv,q⟩
def AI.lnew{its:ANF}{t':Nat}(I:AI X pins Y H s)(hv:Ab ys its)(hz:ys.length<=sizeLine) :
  AI X pins Y (upd H s.heap.objs.size (.lst ys)) {s with heap:=s.heap.push {cls:=.type "list",data:=.seq its.toArray},toks:=t'} :=
 I.laid (λ_ _ q=>Heap.get?_push_of_some _ q) (Af _) ⟨hz,its,0,hv,Heap.get?_push_size _ rfl⟩
def AI.fresh(I:AI X pins Y H s):H s.heap.objs.size=none:=I.hok.fresh (Af _)
def AI.lstM(I:AI X pins Y H s)(hH:H l=some (.lst xs)):xs.length<=sizeLine/\∃(its:ANF) (n:Nat),Ab xs its/\xs.length=its.length/\s.heap.get? l=some {cls:=.type "list",data:=.seq its.toArray n}:=by obtain⟨z,its,n,r,e⟩:=I.hok l _ hH;exact⟨z,its,n,r,r.length,e⟩
def AEI{n:Nat}(h:n<=sizeLine):Builtin.List.listTooLong n=false:=by unfold Builtin.List.listTooLong;exact decide_eq_false (by omega)
end
section
variable {X:Cx}
abbrev Vd:V->List V->Hp->VK->Prop:=λx vs H Q=>∃l xs y,x=.ref l/\vs=[y]/\H l=some (.lst xs)/\xs.length<sizeLine/\Q .non (upd H l (.lst (xs++[y])))
def WM:Yt X "list.append" Vd:=by intro pins s Y H x vs v us Q I rx rv h;obtain⟨l,xs,y,rfl,rfl,hH,hz,q⟩:=h;cases rx;obtain⟨u,rfl,ru⟩:=rv.one;obtain⟨z,its,n,r,hl,e⟩:=I.lstM hH;refine call_meets F.slot_list_append ⟨_,e,rfl⟩ F.entry_list_append (F.args_list_append_2 _ _) (PySem.list_append l its.toArray n u (by rw[Be];omega)) ⟨e,?_⟩;refine⟨.non,_,I.lset (its':=its++[u]) hH e (by simp) (r.append (.cons ru .nil)) ?_,rfl,q⟩;rw[By,List.length_singleton];omega
abbrev rExtend:V->List V->Hp->VK->Prop:=λx vs H Q=>∃l b xs zs,x=.ref l/\vs=[.ref b]/\H l=some (.lst xs)/\H b=some (.lst zs)/\xs.length+zs.length<=sizeLine/\Q .non (upd H l (.lst (xs++zs)))
def AEQ:Yt X "list.extend" rExtend:=by
 intro pins s Y H x vs v us Q I rx rv h;obtain⟨l,b,xs,zs,rfl,rfl,hH,hB,hz,q⟩:=h;cases rx;obtain⟨u,rfl,ru⟩:=rv.one;cases ru;obtain⟨z,its,n,r,hl,e⟩:=I.lstM hH;obtain⟨z2,its2,n2,r2,hl2,e2⟩:=I.lstM hB;have hsz:its.toArray.size+its2.toArray.size<=sizeLine:=by rw[Be,Be];omega
 have hlong:¬(!its.toArray.isEmpty&&Builtin.List.listTooLong (its.toArray.size+its2.toArray.size))=true:=by rw[AEI hsz,Bool.and_false];exact Cf
 refine call_meets F.slot_list_extend ⟨_,e,rfl⟩ F.entry_list_extend (F.args_list_extend_2 _ _)
  (AutoSeq1.list_extend_list_list_0 l its.toArray n b its2.toArray n2 hlong (by rw[Be];omega) (by omega)) ⟨e,e2,?_⟩
 refine⟨.non,_,I.lset (its':=its++its2) hH e (by simp) (r.append r2) ?_,rfl,q⟩;rw[By];omega
abbrev rCat:R2:=λx y H Q=>∃l b xs zs,x=.ref l/\y=.ref b/\H l=some (.lst xs)/\H b=some (.lst zs)/\xs.length+zs.length<=sizeLine/\∀p,H p=none->Q (.ref p) (upd H p (.lst (xs++zs)))
def AD3:Au X (binaryOp .Add) rCat:=by
 intro pins s Y H x y v u Q I rx ry h;obtain⟨l,b,xs,zs,rfl,rfl,hH,hB,hz,q⟩:=h;cases rx;cases ry;obtain⟨z,its,n,r,hl,e⟩:=I.lstM hH;obtain⟨z2,its2,n2,r2,hl2,e2⟩:=I.lstM hB;refine PySem.P.add_list e e2 ?_ (by rw[Be,Be];omega);have ea:its.toArray++its2.toArray=(its++its2).toArray:=by simp
 rw[ea];exact⟨.ref _,_,I.lnew (t':=s.toks) (r.append r2) (by rw[By];omega),rfl,q _ I.fresh⟩
end
section
variable {prog:Program}{w:World}{A:Around}{E:ANL}{s:Shared}
set_option maxRecDepth 100000 in
end
end L2
namespace Att
open PySem PySem.W PySem.Calls PyProof.Rows
def ints_of_wellAll{P:Params}{h:Heap}:∀(ns:ANK) (vs:ANF),WellAll P h vs (ns.map WData.int)->IntsAre vs ns:=by
 intro ns
 induction ns with
 |nil =>
  intro vs w;rw[AMB] at w;cases w;exact .nil
 |cons n ns ih =>
  intro vs w;rw[Aj] at w
  cases w with
  |cons a b =>
   cases a;exact .cons _ _ (ih _ b)
def AIx{l:OpenLaw}{n:Nat}(hn:l.most=some n){P:Params}{h:Heap}{args:List WData}{vals:ANF}
  (hpre:l.row.toRowW.claim.pre args=true) (hwl:WellAll P h vals args) :
  ∃a vs ns,vals=[Value.ref a]/\args=[WData.list (ns.map WData.int)]/\h.get? a=some {cls:=.type "list",data:=.seq vs.toArray}/\IntsAre vs ns/\ns.length<=n:=by
 have hsh:WShape.hasAll [] args [.list .int]=true:=(pre_splitW hpre).1;have hc:l.pre.holds [] {args:=args}=true:=(pre_splitW hpre).2;obtain⟨d,r,rfl,h1,h2⟩:=hasAllW_cons hsh;obtain rfl:=hasAllW_nil h2;obtain⟨xs,rfl,h3⟩:=hasW_list h1;obtain⟨ns,rfl⟩:=items_int h3
 have hlen:ns.length<=n:=by
  unfold OpenLaw.pre at hc
  have h4:(WTm.not (.lt (.lit (.int (n:Int))) (.len (.arg 0)))).holds [] {args:=[.list (ns.map .int)]}=true:=by have h4:=(holds_andW hc).1;rw[hn] at h4;exact h4
  have h5:=condW_of h4 (w_not (w_lt w_lit (w_len_list (w_arg rfl))));rw[Aa] at h5;refine Nat.le_of_not_lt λq=>?_;have q':(n:Int)<((ns.length:Nat):Int):=by omega
  first
   |(rw[decide_eq_true q'] at h5;exact absurd h5 (by decide))
   |(simp at h5;omega)
 cases hwl with
 |cons w1 w2 =>
  cases w2
  cases w1 with
  |list ho hall=>exact⟨_,_,ns,rfl,rfl,ho,ints_of_wellAll ns _ hall,hlen⟩
def AI3(l:OpenLaw)(args:List WData):l.row.toRowW.claim.post args (.bool true) args=true :=
 postW_of (r:=l.row.toRowW) (X:=(true == true))
  (show WShape.has [] (.bool true) .bool=true by first|rfl|decide|simp[WShape.has,WShape.arms,WShape.armsAll])
  (show(WTm.eq .res (.lit (.bool true))).value [] {args:=args,res:=some (.bool true),after:=args}=some (.bool (true == true)) from w_eq_bool (w_res rfl) w_lit) rfl
end Att
namespace L2
open PySem PySem.Spec PyProof.Rows
def UX:∀{vs:ANF} {ns:ANK},IntsAre vs ns->Ab (ns.map V.int) vs
 |_,_,.nil=>.nil
 |_,_,.cons n t h=>.cons ⟨t,rfl⟩ (UX h)
abbrev Ys(H:Hp):Prop:=∀b,H b=none\/∃o xs,H b=some (.frz o (.lst xs))
def AE4{P:Program}{w:World}{K:AL}{mg mb:AND}{CX:FZ}{k:Nat}{fa a:Addr}{fd:FuncData}{x:Str}{sp:Sp}{s₁:Shared}{vs:ANF}{ns:ANK}
  (KX:K.In s₁.heap) (hns:s₁.heap.Ns mainGlobals mg) (hb:s₁.heap.Ns builtinsNs mb) (hbb:∀x:Str,x≠"__name__"->mb x=bootBuiltins x) (hlim:s₁.heap.NoLimit) (hg:s₁.gens=#[])
  (ha:s₁.heap.get? a=some {cls:=.type "list",data:=.seq vs.toArray}) (hi:IntsAre vs ns) (hl:ns.length<=sizeLine) (hr:Room k callerA)
  (F:∀base:Heap,K.In base->base.Ns mainGlobals mg->DK P w K mg base CX k fa fd [x] sp) (hbind:∀(s:Shared) (u:Value),BindsTo s fd ⟨[u],[]⟩ [(x,u)])
  (hsp:∀H:Hp,Ys H->BJ K H a (ns.map V.int)->sp [.ref a] H (λv _=>v=.bl true) λ_ _ _=>False)
  (hCX:∀H e s',CX [] H s₁ (λ_ _ _=>False) e s'->False) :
  codeAny (model P w) callerA (.call (.ref fa) ⟨[.ref a],[]⟩) (λr s'=>r=.ok (.ret (.bool true))/\OldK s₁.heap s'.heap/\s'.os=s₁.os/\AllBare s'.gens) s₁:=by
 have rv:=UX hi;have lenV:=hi.length
 -- from an abstract heap in which nothing but the script may be tracked
 have core:∀H:Hp,Ys H->BJ K H a (ns.map V.int)->Cu P w H s₁.heap->(∀b,H b≠none->b=a)->(H a≠none->K.lookup a=none) ->
   codeAny (model P w) callerA (.call (.ref fa) ⟨[.ref a],[]⟩) (λr s'=>r=.ok (.ret (.bool true))/\OldK s₁.heap s'.heap/\s'.os=s₁.os/\AllBare s'.gens) s₁:=by
  intro H hO hS hok hA hK;have base_of:∀{b:Addr} {o:Obj},s₁.heap.get? b=some o->H b=none->(HW s₁.heap H).get? b=some o:=λe n=>AFZ e n
  have noA:∀{b:Addr} {o:Obj} {es:Array DictEntry} {ep:Nat},s₁.heap.get? b=some o->o.data=.dict es ep->H b=none:=λ{b o es ep} e d=>by
   cases q:H b with
   |none=>rfl
   |some u =>
    have e':b=a:=hA b (by rw[q];simp);subst e';rw[ha] at e;cases e;have d':Data.seq vs.toArray _=Data.dict es ep:=d;cases d'
  have nsK:∀{b:Addr} {m:AND},s₁.heap.Ns b m->(HW s₁.heap H).Ns b m:=λ{b m} ⟨o,es,ep,e,d,r⟩=>⟨o,es,ep,base_of e (noA e d),d,r⟩
  have hKb:K.In (HW s₁.heap H):=λb o e=>base_of (KX b o e) (by
   cases q:H b with
   |none=>rfl
   |some u =>
    have e':b=a:=hA b (by rw[q];simp);subst e'
    rw[hK (by rw[q];simp)] at e;cases e)
  have hM:OP K mg (HW s₁.heap H):=⟨hKb,nsK hns,⟨mb,nsK hb,hbb⟩,let ⟨mc,h1,h2⟩:=hlim;⟨mc,nsK h1,h2⟩⟩;have e0:HK P w K mg (HW s₁.heap H) callerA [] s₁ H:=⟨rfl,hM,λb o e=>AEA e,ALe (AFY _ _),trivial,λb hb=>absurd (show b∈([]:ANG) from hb) (by simp),hok,.of_eq hg⟩;refine codeAny_mono ((F _ hKb (nsK hns)).run callerA [] s₁ H ⟨[.ref a],[]⟩ [.ref a] [.ref a] _ _ hr e0 (hbind s₁ (.ref a)) (.cons rfl .nil) (hsp H hO hS)) λr s' h=>?_
  cases r with
  |error e=>exact(hCX H e s' h).elim
  |ok fl =>
   cases fl with
   |next=>exact False.elim h
   |brk=>exact False.elim h
   |cont=>exact False.elim h
   |ret u =>
    obtain⟨v,H',os,bare,un,hok',r',q⟩:=h;have q':v=.bl true:=q;subst q';obtain rfl:u=Value.bool true:=r';refine⟨rfl,OldK.of_keep λb o e=>?_,os,bare⟩
    cases q:H b with
    |none=>exact un.keep b o e q (by intro z;exact absurd (show b∈([]:ANG) from z) (by simp)) (by simp)
    |some u =>
     rcases hO b with z|⟨ob,xs,z⟩
     .rw[q] at z;cases z
     .have z2:=un.frzs b ob _ z;obtain⟨e1,_⟩:=hok b _ z;obtain⟨e2,_⟩:=hok' b _ z2;rw[e] at e1;cases e1;exact e2
 cases hk:K.lookup a with
 |some o =>
  -- the script is one of the module's own objects
  have e:=KX a o hk;rw[ha] at e;cases e;refine core (λ_=>none) (λ_=>.inl rfl) (.inr ⟨_,vs.toArray,_,hk,rfl,rfl,rfl,by rw[Be,lenV];exact hl,by simpa using rv⟩) (λb u z=>by have z':(none:Option HO)=some u:=z;cases z') (λb z=>absurd rfl z) λz=>absurd rfl z
 |none =>
  refine core (λb=>if b=a then some (.frz {cls:=.type "list",data:=.seq vs.toArray} (.lst (ns.map V.int))) else none) (λb=>?_) (.inl (.inr ⟨{cls:=.type "list",data:=.seq vs.toArray},if_pos rfl⟩)) (λb u z=>?_) (λb z=>?_) λ_=>hk
  .by_cases hb:b=a
   .exact .inr ⟨_,_,if_pos hb⟩
   .exact .inl (if_neg hb)
  .by_cases hb:b=a
   .have z':=(if_pos hb).symm.trans z;cases z';subst hb;exact⟨ha,by rw[Aa];exact hl,vs,_,rv,ha⟩
   .have z':=(if_neg hb).symm.trans z;cases z'
  .by_cases hb:b=a
   .exact hb
   .exact absurd (if_neg hb) z
abbrev IX(s:Stmt):Arguments:=match s with
 |.FunctionDef _ a _ _ _ _ _ _ _ _=>a
 |_=>{posonlyargs:=[],args:=[],vararg:=none,kwonlyargs:=[],kw_defaults:=[],kwarg:=none,defaults:=[]}
abbrev FW(s:Stmt):ANI:=match s with
 |.FunctionDef _ _ b _ _ _ _ _ _ _=>b
 |_=>[]
abbrev Ag(s:Stmt):Scope:=match s with
 |.FunctionDef _ _ _ _ _ _ sc _ _ _=>sc
 |_=>{kind:=.function,names:=[],isGenerator:=false,isCoroutine:=false}
noncomputable abbrev CX0:FZ:=λ_ _ _ _ _ _=>False
noncomputable abbrev E0:XK:=λ_ _ _=>False
def RO{X:Cx}:Jg CX0 X E0:=λ_ _ _ _ _ _ _ h=>h.elim
structure Hd (K:AL) (x qual:Str) (st:Stmt) (f:Addr) (fd:FuncData):Prop where
 ex:∃(oc:Value) (od:Option Addr) (kV doc pm:Value) (an:Option Addr) (cdv ct:Value) (osl:Array (Option Value)),
  fd=ALj x qual (IX st) (FW st) (Ag st) .none kV doc pm an cdv ct/\K.lookup f=some ⟨oc,od,.func fd,osl⟩/\AMg K cdv qual=true
 kp:GA K (.ref f)=true
section
variable {P:Program}{w:World}{K:AL}{mg:AND}{base:Heap}
def Hd.ok{x qual:Str}{st:Stmt}{f:Addr}{fd:FuncData}{N ps:ANE}{k:Nat}{sp:Sp}(F:Hd K x qual st f fd)(S:Aw N ps (Ag st))(len:∀vs H Q E,sp vs H Q E->vs.length=ps.length)
  (hbody:∀(cdv:Value) (A:Around) (outer:List Env) (s:Shared) (H:Hp) (vs:List V) (Q:VK) (E:XK),Room k (A.deeper (envOfC qual (Ag st) s.heap.objs.size f cdv))->sp vs H Q E ->
   ∃t,Dj (Ci CX0 P w K mg base N qual (Ag st) f cdv A outer s H E).nox (FW st) t/\t {nx:=λ_ H'=>Q .non H',rt:=Q} (GH N vs) H):DK P w K mg base CX0 (k+1) f fd ps sp:=by
 obtain⟨oc,od,kV,doc,pm,an,cdv,ct,osl,rfl,lk,hcd⟩:=F.ex;refine AF8 lk hcd S len λA outer s H vs Q E hr hsp=>?_;obtain⟨t,h,q⟩:=hbody cdv A outer s H vs Q E hr hsp;exact⟨t,h.nox,q⟩
def Hd.binds{x qual:Str}{st:Stmt}{f:Addr}{fd:FuncData}{ps:ANE}(F:Hd K x qual st f fd)
  (h:∀(kV doc pm:Value) (an:Option Addr) (cdv ct:Value) (us:ANF),us.length=ps.length->bindArgs (ALj x qual (IX st) (FW st) (Ag st) .none kV doc pm an cdv ct) ⟨us,[]⟩=pure (ps.zip us)):EV K fd ps []:=by
 obtain⟨oc,od,kV,doc,pm,an,cdv,ct,osl,rfl,lk,hcd⟩:=F.ex;exact .all (h kV doc pm an cdv ct)
def AF4{x qual:Str}{st:Stmt}{f:Addr}{oc:Value}{od an:Option Addr}{osl:Array (Option Value)}{kV doc pm cdv ct:Value}(l:K.lookup f=some ⟨oc,od,.func (ALj x qual (IX st) (FW st) (Ag st) .none kV doc pm an cdv ct),osl⟩)
  (c:AMg K cdv qual=true) (k:GA K (.ref f)=true):Hd K x qual st f (ALj x qual (IX st) (FW st) (Ag st) .none kV doc pm an cdv ct):=⟨⟨oc,od,kV,doc,pm,an,cdv,ct,osl,rfl,l,c⟩,k⟩
end
section
variable {X:Cx}
def pv(i:Nat){x:Str}{pos:Pos}(hN:X.N[i]?=some x)(hv:Je X.env.scope x)(hd:(x == ("__debug__":Str))=false)
  (hcd:(x == ("__classdict__":Str))=false):PE X (.Name x pos) (Qu i):=ADC hN hv hd hcd
end
def iteF{A B:Prop}(h:B):if false=true then A else B:=by rw[if_neg Cf];exact h
def iteT{A B:Prop}(h:A):if true=true then A else B:=by rw[if_pos rfl];exact h
abbrev HH(H H':Hp):Prop:=∀b o,H b=some o->H' b=some o
def HH.refl(H:Hp):HH H H:=λ_ _ h=>h
def HH.trans{H H1 H2:Hp}(a:HH H H1)(b:HH H1 H2):HH H H2:=λc o h=>b c o (a c o h)
def HH.free{H H':Hp}(e:HH H H'){l:Addr}(h:H' l=Option.none):H l=Option.none:=by
 cases q:H l with
 |none=>rfl
 |some o =>
  rw[e l o q] at h;cases h
def HH.seq{K:AL}{H H':Hp}{a:Addr}{xs:List V}(e:HH H H')(h:BJ K H a xs):BJ K H' a xs:=by
 rcases h with(h|⟨o,h⟩)|h
 .exact .inl (.inl (e _ _ h))
 .exact .inl (.inr ⟨o,e _ _ h⟩)
 .exact .inr h
section
variable {κ:Type}[DecidableEq κ]
abbrev Fd(kvs:List (κ×V))(k:κ):Option V:=(kvs.find? λkv=>decide (kv.1=k)).map (·.2)
abbrev Hl(kvs:List (κ×V))(k:κ)(v:V):List (κ×V) :=
 if (kvs.any λkv=>decide (kv.1=k))=true then kvs.map (λkv=>if kv.1=k then (kv.1,v) else kv) else kvs++[(k,v)]
abbrev Xw(kvs:List (κ×V))(k:κ):List (κ×V):=kvs.filter λkv=>decide (kv.1≠k)
def Qp{p:κ×V}{r:List (κ×V)}{k:κ}(e:p.1=k):Fd (p::r) k=some p.2:=by simp[Fd,FM,e]
def Qq{p:κ×V}{r:List (κ×V)}{k:κ}(e:¬p.1=k):Fd (p::r) k=Fd r k:=by simp[Fd,FM,e]
def UY(k:κ):∀kvs:List (κ×V),(kvs.any λkv=>decide (kv.1=k))=(Fd kvs k).isSome
 |[]=>rfl
 |p::r=>by
  rw[ALk]
  by_cases e:p.1=k
  .simp only[Qp e,decide_eq_true e,Bool.true_or,Option.isSome_some]
  .rw[Qq e,decide_eq_false e,Bool.false_or];exact UY k r
def FX.isSome_eq{o:Option V}{u:Option Value}(r:FX o u):o.isSome=u.isSome:=by
 cases o with
 |none=>cases u with
  |none=>rfl
  |some _=>exact(show False from r).elim
 |some _=>cases u with
  |none=>exact(show False from r).elim
  |some _=>rfl
def FX.getD{o:Option V}{u:Option Value}{d:V}{d':Value}(r:FX o u)(rd:Ac d d'):Ac (o.getD d) (u.getD d'):=by
 cases o with
 |none=>cases u with
  |none=>exact rd
  |some _=>exact(show False from r).elim
 |some _=>cases u with
  |none=>exact(show False from r).elim
  |some _=>exact r
def KV.val{kvs:List (κ×V)}{vs:List (κ×Value)}(r:KV kvs vs)(k:κ):FX (Fd kvs k) (valueAt vs k):=by
 unfold KV at r
 induction r with
 |nil=>exact True.intro
 |@cons p q ps qs h t ih =>
  obtain⟨h1,h2⟩:=h
  by_cases e:p.1=k
  .have e':q.1=k:=h1.symm.trans e;have b:valueAt (q::qs) k=some q.2:=by simp[valueAt,FM,e']
   rw[Qp e,b];exact h2
  .have e':¬q.1=k:=λz=>e (h1.trans z);have b:valueAt (q::qs) k=valueAt qs k:=by simp[valueAt,FM,e']
   rw[Qq e,b];exact ih
def KV.any{kvs:List (κ×V)}{vs:List (κ×Value)}(r:KV kvs vs)(k:κ):(kvs.any λkv=>decide (kv.1=k))=vs.any λkv=>decide (kv.1=k):=by
 unfold KV at r
 induction r with
 |nil=>rfl
 |cons h t ih=>rw[ALk,ALk,ih,h.1]
def KV.repl{kvs:List (κ×V)}{vs:List (κ×Value)}(r:KV kvs vs)(k:κ){y:V}{u:Value}(ry:Ac y u) :
  KV (kvs.map λkv=>if kv.1=k then (kv.1,y) else kv) (vs.map λkv=>if kv.1=k then (kv.1,u) else kv):=by
 unfold KV at r ⊢
 induction r with
 |nil=>exact .nil
 |@cons p q ps qs h t ih =>
  rw[Aj,Aj];refine .cons ?_ ih;obtain⟨h1,h2⟩:=h
  by_cases e:p.1=k
  .rw[if_pos e,if_pos (h1.symm.trans e)];exact⟨h1,ry⟩
  .rw[if_neg e,if_neg (λz=>e (h1.trans z))];exact⟨h1,h2⟩
def KV.put{kvs:List (κ×V)}{vs:List (κ×Value)}(r:KV kvs vs)(k:κ){y:V}{u:Value}(ry:Ac y u):KV (Hl kvs k y) (stored vs k u):=by
 unfold Hl stored;rw[r.any k]
 by_cases e:(vs.any λkv=>decide (kv.1=k))=true
 .rw[if_pos e,if_pos e];exact r.repl k ry
 .rw[if_neg e,if_neg e];exact Paired.snoc r ⟨rfl,ry⟩
def KV.drop{kvs:List (κ×V)}{vs:List (κ×Value)}(r:KV kvs vs)(k:κ):KV (Xw kvs k) (without vs k):=by
 unfold KV at r ⊢;unfold Xw without
 induction r with
 |nil=>exact .nil
 |@cons p q ps qs h t ih =>
  obtain⟨h1,h2⟩:=h;rw[AL2,AL2]
  by_cases e:p.1=k
  .have a:¬decide (p.1≠k)=true:=by simp[e]
   have b:¬decide (q.1≠k)=true:=by simp[h1.symm.trans e]
   rw[if_neg a,if_neg b];exact ih
  .have e':¬q.1=k:=λz=>e (h1.trans z);have a:decide (p.1≠k)=true:=by simp[e]
   have b:decide (q.1≠k)=true:=by simp[e']
   rw[if_pos a,if_pos b];exact .cons ⟨h1,h2⟩ ih
def KV.keys{kvs:List (κ×V)}{vs:List (κ×Value)}(r:KV kvs vs):kvs.map (·.1)=vs.map (·.1):=by
 unfold KV at r
 induction r with
 |nil=>rfl
 |cons h t ih=>rw[Aj,Aj,ih,h.1]
def KV.length{kvs:List (κ×V)}{vs:List (κ×Value)}(r:KV kvs vs):kvs.length=vs.length:=Paired.length r
end
noncomputable abbrev KT(H:Hp):List (List Key×V)->List (List Key×Addr×Value)->Prop:=Paired λp q=>p.1=q.1/\H q.2.1=some (.tup (p.1.map kV))/\Ac p.2 q.2.2
def KT.val{H:Hp}{kvs:List (List Key×V)}{xs:List (List Key×Addr×Value)}(r:KT H kvs xs)(k:List Key):FX (Fd kvs k) ((atKey xs k).map (·.2)):=by
 induction r with
 |nil=>exact True.intro
 |@cons p q ps qs h t ih =>
  obtain⟨h1,_,h2⟩:=h
  by_cases e:p.1=k
  .have e':q.1=k:=h1.symm.trans e;have b:atKey (q::qs) k=some q.2:=by simp[atKey,FM,e']
   rw[Qp e,b];exact h2
  .have e':¬q.1=k:=λz=>e (h1.trans z);have b:atKey (q::qs) k=atKey qs k:=by simp[atKey,FM,e']
   rw[Qq e,b];exact ih
def KT.repl{H:Hp}{kvs:List (List Key×V)}{xs:List (List Key×Addr×Value)}(r:KT H kvs xs)(k:List Key){y:V}{u:Value}(ry:Ac y u) :
  KT H (kvs.map λkv=>if kv.1=k then (kv.1,y) else kv) (xs.map (putAt k u)):=by
 induction r with
 |nil=>exact .nil
 |@cons p q ps qs h t ih =>
  rw[Aj,Aj];refine .cons ?_ ih;obtain⟨h1,h2,h3⟩:=h;unfold putAt
  by_cases e:p.1=k
  .rw[if_pos e,if_pos (h1.symm.trans e)];exact⟨h1,h2,ry⟩
  .rw[if_neg e,if_neg (λz=>e (h1.trans z))];exact⟨h1,h2,h3⟩
def KT.put{H:Hp}{kvs:List (List Key×V)}{xs:List (List Key×Addr×Value)}(r:KT H kvs xs)(k:List Key){b:Addr}{y:V}{u:Value}(hb:H b=some (.tup (k.map kV)))(ry:Ac y u) :
  KT H (Hl kvs k y) (storedH xs k b u):=by
 have e:(kvs.any λkv=>decide (kv.1=k))=(atKey xs k).isSome:=by rw[UY,(r.val k).isSome_eq,Option.isSome_map]
 unfold Hl storedH;rw[e]
 by_cases q:(atKey xs k).isSome=true
 .rw[if_pos q,if_pos q];exact r.repl k ry
 .rw[if_neg q,if_neg q];exact Paired.snoc r ⟨rfl,hb,ry⟩
def KT.keeps{H H':Hp}{kvs:List (List Key×V)}{xs:List (List Key×Addr×Value)}(r:KT H kvs xs)(ht:∀b ys,H b=some (.tup ys)->H' b=some (.tup ys)):KT H' kvs xs :=
 Paired.mapP r λ_ _ z=>⟨z.1,ht _ _ z.2.1,z.2.2⟩
abbrev OT(H:Hp)(a:Addr)(y:V)(r:Option V):Prop :=
 (∃kvs k,Rd H a (.dK kvs)/\y=kV k/\r=Fd kvs k)\/∃kvs k b,Rd H a (.dT kvs)/\y=.ref b/\H b=some (.tup (k.map kV))/\r=Fd kvs k
abbrev OS(H:Hp)(a:Addr)(y v:V)(H':Hp):Prop :=
 (∃kvs k,H a=some (.dK kvs)/\y=kV k/\kvs.length<sizeLine/\H'=upd H a (.dK (Hl kvs k v))) \/
 ∃kvs k b,H a=some (.dT kvs)/\y=.ref b/\H b=some (.tup (k.map kV))/\kvs.length<sizeLine/\H'=upd H a (.dT (Hl kvs k v))
def OT.k{H:Hp}{a:Addr}{kvs:List (Key×V)}{k:Key}(e:H a=some (.dK kvs)):OT H a (kV k) (Fd kvs k):=.inl ⟨kvs,k,.inl e,rfl,rfl⟩
def OT.t{H:Hp}{a b:Addr}{kvs:List (List Key×V)}{k:List Key}(e:H a=some (.dT kvs))(eb:H b=some (.tup (k.map kV))):OT H a (.ref b) (Fd kvs k):=.inr ⟨kvs,k,b,.inl e,rfl,eb,rfl⟩
def OS.k{H:Hp}{a:Addr}{kvs:List (Key×V)}{k:Key}{v:V}(e:H a=some (.dK kvs))(hl:kvs.length<sizeLine):OS H a (kV k) v (upd H a (.dK (Hl kvs k v))):=.inl ⟨kvs,k,e,rfl,hl,rfl⟩
def OS.t{H:Hp}{a b:Addr}{kvs:List (List Key×V)}{k:List Key}{v:V}(e:H a=some (.dT kvs))(eb:H b=some (.tup (k.map kV)))(hl:kvs.length<sizeLine) :
  OS H a (.ref b) v (upd H a (.dT (Hl kvs k v))):=.inr ⟨kvs,k,b,e,rfl,eb,hl,rfl⟩
section
variable {X:Cx}{pins:List (Addr×Obj)}{Y:St}{H:Hp}{s:Shared}{a:Addr}{y v:V}{u r:Value}{o:Option V}{A:Around}{E:ANL}
def AI.big(I:AI X pins Y H s):sysModules<s.heap.objs.size:=by have h:mainGlobals<s.heap.objs.size:=(I.mod.glob.keeps I.bk).lt;exact Nat.lt_trans (by decide) h
def AGY{h':Heap}{t':Nat}{ob:HO}(I:AI X pins Y H s)(mu:LZ (H a))(hs:Heap.SameBut a s.heap h')(he:∃q,h'.get? a=some q)(new:CB X.prog X.w (upd H a ob) h' a ob) :
  AI X pins Y (upd H a ob) {s with heap:=h',toks:=t'} :=
 I.write (x:=a) (e:=a) mu (.inl rfl) (λb q hb z=>(hs.2 b hb).trans z) he new
end
end L2
set_option maxHeartbeats 4000000
namespace L3
open PySem PySem.Spec PyProof.Rows L2
noncomputable abbrev ANM:Str:="Table"
noncomputable abbrev ANN:Str:="Node"
noncomputable abbrev ANO:Str:="ways"
noncomputable abbrev ANP:Str:="groups"
noncomputable abbrev ANQ:Str:="nodes"
noncomputable abbrev ANR:Str:="arms"
noncomputable abbrev ANS:Str:="words"
noncomputable abbrev ANT:Str:="members"
noncomputable abbrev ANU:Str:="table"
noncomputable abbrev ANV:Str:="node_numbers"
noncomputable abbrev ANW:Str:="roots"
noncomputable abbrev ANX:Str:="_law_cell_here"
noncomputable abbrev ANY:Str:="_law_words_here"
noncomputable abbrev ANZ:Str:="_law_row_here"
noncomputable abbrev ANa:Str:="answers"
noncomputable abbrev ANb:Str:="_law_k"
noncomputable abbrev ANc:Str:="_law_text_here"
noncomputable abbrev ANd:Str:="_law_texts"
noncomputable abbrev ANe:Str:="number"
noncomputable abbrev ANf:Str:="_law_draws_here"
noncomputable abbrev ANg:Str:="_law_number"
noncomputable abbrev ANh:Str:="_law_script"
noncomputable abbrev ANi:Str:="_law_piece_here"
noncomputable abbrev ANj:Str:="_law_piece_answer"
noncomputable abbrev ANk:Str:="_law_row_answer"
noncomputable abbrev ANl:Str:="_law_row_examples"
noncomputable abbrev ANm:Str:="_law_drawn_texts"
def bS{U β:Type}{o:Option U}{f:U->Option β}{b:β}(h:o.bind f=some b):∃a,o=some a/\f a=some b:=ALl.mp h
def mS{U β:Type}{o:Option U}{f:U->β}{b:β}(h:o.map f=some b):∃a,o=some a/\f a=b:=Gj.mp h
inductive D where
 |non|bl (b:Bool)|int (i:Int)|str (x:Str)|tup (xs:List D)|fz (xs:List D)|ref (k:Nat)|ty (n:String)
mutual
def D.beq:D->D->Bool
 |.non,.non=>true
 |.bl a,.bl b=>a == b
 |.int a,.int b=>a == b
 |.str a,.str b=>decide (a=b)
 |.tup a,.tup b=>D.beqL a b
 |.fz a,.fz b=>D.beqL a b
 |.ref a,.ref b=>a == b
 |.ty a,.ty b=>a == b
 |_,_=>false
def D.beqL:List D->List D->Bool
 |[],[]=>true
 |a::as,b::bs=>D.beq a b&&D.beqL as bs
 |_,_=>false
end
mutual
theorem D.beq_refl:∀a:D,D.beq a a=true
 |.non=>rfl
 |.bl b=>(beq_self_eq_true b:(b == b)=true)
 |.int b=>(beq_self_eq_true b:(b == b)=true)
 |.str b=>(decide_eq_true rfl:decide (b=b)=true)
 |.tup xs=>(D.beqL_refl xs:D.beqL xs xs=true)
 |.fz xs=>(D.beqL_refl xs:D.beqL xs xs=true)
 |.ref b=>(beq_self_eq_true b:(b == b)=true)
 |.ty b=>(beq_self_eq_true b:(b == b)=true)
theorem D.beqL_refl:∀a:List D,D.beqL a a=true
 |[]=>rfl
 |a::as=>by show(D.beq a a&&D.beqL as as)=true;rw[D.beq_refl a,D.beqL_refl as];rfl
end
mutual
theorem D.eq_of_beq:∀{a b:D},D.beq a b=true->a=b
 |.non,b,h=>by
  cases b with
  |non=>rfl
  |_=>exact GC (show false=true from h)
 |.bl x,b,h=>by
  cases b with
  |bl y=>rw[LawfulBEq.eq_of_beq (show(x == y)=true from h)]
  |_=>exact GC (show false=true from h)
 |.int x,b,h=>by
  cases b with
  |int y=>rw[LawfulBEq.eq_of_beq (show(x == y)=true from h)]
  |_=>exact GC (show false=true from h)
 |.str x,b,h=>by
  cases b with
  |str y=>rw[of_decide_eq_true (show decide (x=y)=true from h)]
  |_=>exact GC (show false=true from h)
 |.tup xs,b,h=>by
  cases b with
  |tup ys=>rw[D.eq_of_beqL (show D.beqL xs ys=true from h)]
  |_=>exact GC (show false=true from h)
 |.fz xs,b,h=>by
  cases b with
  |fz ys=>rw[D.eq_of_beqL (show D.beqL xs ys=true from h)]
  |_=>exact GC (show false=true from h)
 |.ref x,b,h=>by
  cases b with
  |ref y=>rw[LawfulBEq.eq_of_beq (show(x == y)=true from h)]
  |_=>exact GC (show false=true from h)
 |.ty x,b,h=>by
  cases b with
  |ty y=>rw[LawfulBEq.eq_of_beq (show(x == y)=true from h)]
  |_=>exact GC (show false=true from h)
theorem D.eq_of_beqL:∀{a b:List D},D.beqL a b=true->a=b
 |[],b,h=>by
  cases b with
  |nil=>rfl
  |cons _ _=>exact GC (show false=true from h)
 |a::as,b,h=>by
  cases b with
  |nil=>exact GC (show false=true from h)
  |cons b bs =>
   have h:(D.beq a b&&D.beqL as bs)=true:=h;rw[Bz] at h;rw[D.eq_of_beq h.1,D.eq_of_beqL h.2]
end
noncomputable instance:DecidableEq D:=λa b=>if h:D.beq a b=true then .isTrue (D.eq_of_beq h) else .isFalse λe=>h (by rw[e];exact D.beq_refl b)
inductive Ob where
 |lst (xs:List D)|dk (kvs:List (Key×D))|dt (kvs:List (NK×D)) (ep:Nat)|ins (c:Str) (fs:List (Str×D))|exn (c:Str)
deriving DecidableEq
noncomputable abbrev AC:=List Ob
noncomputable abbrev ANn:=D->AC->Prop
noncomputable abbrev Fm:=List (Option D)
abbrev SqF(K:AL)(H:Hp)(a:Addr)(xs:List V):Prop :=
 (∃o,H a=some (.frz o (.lst xs))) \/
  ∃(o:Obj) (its:Array Value) (n:Nat),K.lookup a=some o/\o.cls=.type "list"/\o.dict=none/\o.data=.seq its n/\its.size<=sizeLine/\Ab xs its.toList
def SqF.sql{K:AL}{H:Hp}{a:Addr}{xs:List V}(h:SqF K H a xs):BJ K H a xs:=by
 rcases h with h|h
 .exact .inl (.inr h)
 .exact .inr h
mutual
inductive Is (K:AL) (H:Hp) (O:ANG):V->D->Prop
 |non:Is K H O .non .non
 |bl (b:Bool):Is K H O (.bl b) (.bl b)
 |int (i:Int):Is K H O (.int i) (.int i)
 |str (x:Str):x.length<=16777216->Is K H O (.str x) (.str x)
 |tup {a:Addr} {vs:List V} {ds:List D}:Bd K H a vs->AR K H O vs ds->Is K H O (.ref a) (.tup ds)
 |fz {a:Addr} {vs:List V} {ds:List D}:SqF K H a vs->AR K H O vs ds->Is K H O (.ref a) (.fz ds)
 |ref {k:Nat} {a:Addr}:O[k]?=some a->Is K H O (.ref a) (.ref k)
 |ty (n:String):Is K H O (.ty n) (.ty n)
inductive AR (K:AL) (H:Hp) (O:ANG):List V->List D->Prop
 |nil:AR K H O [] []
 |cons {v:V} {d:D} {vs:List V} {ds:List D}:Is K H O v d->AR K H O vs ds->AR K H O (v::vs) (d::ds)
end
abbrev Sw:HO->Prop
 |.tup _=>True
 |.frz _ _=>True
 |_=>False
abbrev Ev(H H':Hp):Prop:=∀a o,H a=some o->Sw o->H' a=some o
abbrev Al(H:Hp)(O:ANG)(H':Hp)(O':ANG):Prop:=Ev H H'/\O <+: O'
def Ev.refl(H:Hp):Ev H H:=λ_ _ h _=>h
def Ev.trans{H H1 H2:Hp}(a:Ev H H1)(b:Ev H1 H2):Ev H H2:=λc o h f=>b c o (a c o h f) f
def Al.refl(H:Hp)(O:ANG):Al H O H O:=⟨.refl H,AW O⟩
def Al.trans{H H1 H2:Hp}{O O1 O2:ANG}(a:Al H O H1 O1)(b:Al H1 O1 H2 O2):Al H O H2 O2:=⟨a.1.trans b.1,a.2.trans b.2⟩
def Ev.ext{H H':Hp}(h:∀a o,H a=some o->H' a=some o):Ev H H':=λa o e _=>h a o e
def Ev.new{H:Hp}{p:Addr}{o:HO}(h:H p=none):Ev H (upd H p o):=.ext λa u e=>by rw[BU (DT e h)];exact e
def Ev.write{H:Hp}{p:Addr}{o u:HO}(h:H p=some u)(n:¬Sw u):Ev H (upd H p o):=λa x e f=>by
 by_cases z:a=p
 .subst z;rw[h] at e;cases e;exact absurd f n
 .rw[BU z];exact e
section
variable {K:AL}{H H':Hp}{O O':ANG}
def Bd.grow{a:Addr}{xs:List V}(g:Ev H H')(h:Bd K H a xs):Bd K H' a xs:=by
 rcases h with(h|⟨o,h⟩)|h
 .exact .inl (.inl (g _ _ h True.intro))
 .exact .inl (.inr ⟨o,g _ _ h True.intro⟩)
 .exact .inr h
def SqF.grow{a:Addr}{xs:List V}(g:Ev H H')(h:SqF K H a xs):SqF K H' a xs:=by
 rcases h with⟨o,h⟩|h
 .exact .inl ⟨o,g _ _ h True.intro⟩
 .exact .inr h
def AEN{U:Type}{N:List U}(hN:N.Nodup){i j:Nat}{x:U}(a:N[i]?=some x)(b:N[j]?=some x):i=j:=by
 obtain⟨h1,g1⟩:=Ax.mp a;obtain⟨h2,g2⟩:=Ax.mp b;have p:=List.pairwise_iff_getElem.mp hN;rcases Nat.lt_trichotomy i j with h|h|h
 .exact absurd (g1.trans g2.symm) (p i j h1 h2 h)
 .exact h
 .exact absurd (g2.trans g1.symm) (p j i h2 h1 h)
def CW{U:Type}{O O':List U}(h:O <+: O'){k:Nat}{a:U}(e:O[k]?=some a):O'[k]?=some a:=by obtain⟨t,rfl⟩:=h;rw[Ey (Ax.mp e).1];exact e
def Is.mono(st:Al H O H' O'){v:V}{d:D}(h:Is K H O v d):Is K H' O' v d :=
 Is.rec (motive_1:=λv d _=>Is K H' O' v d) (motive_2:=λv d _=>AR K H' O' v d) .non .bl .int .str (λh _ r=>.tup (Bd.grow st.1 h) r) (λh _ r=>.fz (SqF.grow st.1 h) r) (λh=>.ref (CW st.2 h)) .ty .nil (λ_ _ a b=>.cons a b) h
def AR.mono(st:Al H O H' O'){v:List V}{d:List D}(h:AR K H O v d):AR K H' O' v d :=
 AR.rec (motive_1:=λv d _=>Is K H' O' v d) (motive_2:=λv d _=>AR K H' O' v d) .non .bl .int .str (λh _ r=>.tup (Bd.grow st.1 h) r) (λh _ r=>.fz (SqF.grow st.1 h) r) (λh=>.ref (CW st.2 h)) .ty .nil (λ_ _ a b=>.cons a b) h
def AR.length{vs:List V}{ds:List D}(h:AR K H O vs ds):vs.length=ds.length :=
 AR.rec (motive_1:=λ_ _ _=>True) (motive_2:=λvs ds _=>vs.length=ds.length) ⟨⟩ (λ_=>⟨⟩) (λ_=>⟨⟩) (λ_ _=>⟨⟩) (λ_ _ _=>⟨⟩) (λ_ _ _=>⟨⟩) (λ_=>⟨⟩) (λ_=>⟨⟩) rfl (λ_ _ _ b=>congrArg (·+1) b) h
def AR.get{vs:List V}{ds:List D}{i:Nat}{d:D}(h:AR K H O vs ds)(e:ds[i]?=some d):∃v,vs[i]?=some v/\Is K H O v d:=by
 induction ds generalizing vs i with
 |nil=>simp at e
 |cons x ds ih =>
  cases h with|cons a b =>
  cases i with
  |zero=>cases e;exact⟨_,rfl,a⟩
  |succ i=>have q:=ih (i:=i) b e;exact q
def AR.append{vs ws:List V}{ds es:List D}(h:AR K H O vs ds)(b:AR K H O ws es):AR K H O (vs++ws) (ds++es):=by
 induction ds generalizing vs with
 |nil=>cases h;exact b
 |cons x ds ih=>cases h with|cons a c=>exact .cons a (ih c)
def AR.take{vs:List V}{ds:List D}(n:Nat)(h:AR K H O vs ds):AR K H O (vs.take n) (ds.take n):=by
 induction ds generalizing vs n with
 |nil=>cases h;cases n <;> exact .nil
 |cons x ds ih =>
  cases h with|cons a c =>
  cases n with
  |zero=>exact .nil
  |succ n=>exact .cons a (ih n c)
def AR.drop{vs:List V}{ds:List D}(n:Nat)(h:AR K H O vs ds):AR K H O (vs.drop n) (ds.drop n):=by
 induction ds generalizing vs n with
 |nil=>cases h;cases n <;> exact .nil
 |cons x ds ih =>
  cases n with
  |zero=>exact h
  |succ n=>cases h with|cons a c=>exact ih n c
def AR.set{v:V}{d:D}(r:Is K H O v d){vs:List V}{ds:List D}(i:Nat)(h:AR K H O vs ds):AR K H O (vs.set i v) (ds.set i d):=by
 induction ds generalizing vs i with
 |nil=>cases h;cases i <;> exact .nil
 |cons x ds ih =>
  cases h with|cons a c =>
  cases i with
  |zero=>exact .cons r c
  |succ i=>exact .cons a (ih i c)
def AR.one{v:V}{ds:List D}(h:AR K H O [v] ds):∃d,ds=[d]/\Is K H O v d:=by cases h with|cons a b=>cases b;exact⟨_,rfl,a⟩
abbrev keyD:Key->D
 |.inl i=>.int i
 |.inr x=>.str x
abbrev IS:Key ⊕ List Key->D
 |.inl k=>keyD k
 |.inr ks=>.tup (ks.map keyD)
abbrev Dm(k:NK):D:=.tup (k.map IS)
abbrev FY(K:AL)(c:Str)(C:Addr):Prop:=CC K mainGlobals c=some (some (.ref C))
abbrev Gh(K:AL)(H:Hp)(O:ANG)(a:Addr):Ob->Prop
 |.exn c=>∃C:Addr,FY K c C/\H a=some (.ext λh=>∃o,h.get? a=some o/\o.cls=.ref C)
 |.ins c fs=>∃(C dx:Addr) (us:List (Str×V)),FY K c C/\H a=some (.ins C dx us)/\us.map (·.1)=fs.map (·.1)/\AR K H O (us.map (·.2)) (fs.map (·.2))
 |.lst ds=>∃vs,H a=some (.lst vs)/\AR K H O vs ds
 |.dk kvs=>∃us:List (Key×V),H a=some (.dK us)/\us.map (·.1)=kvs.map (·.1)/\AR K H O (us.map (·.2)) (kvs.map (·.2))
 |.dt kvs ep=>∃us:List (NK×Addr×V),H a=some (.dN us ep)/\us.map (·.1)=kvs.map (·.1)/\AR K H O (us.map (·.2.2)) (kvs.map (·.2))/\∀u∈us,Is K H O (.ref u.2.1) (Dm u.1)
structure Ap (K:AL) (H:Hp) (O:ANG) (L:AC):Prop where
 len:O.length=L.length
 nd:O.Nodup
 ob:∀(k:Nat) (a:Addr) (o:Ob),O[k]?=some a->L[k]?=some o->Gh K H O a o
def Gh.ho{a:Addr}{o:Ob}(h:Gh K H O a o):∃u,H a=some u/\¬Sw u:=by
 cases o with
 |lst ds=>obtain⟨vs,e,_⟩:=h;exact⟨_,e,id⟩
 |dk ds=>obtain⟨vs,e,_⟩:=h;exact⟨_,e,id⟩
 |dt ds ep=>obtain⟨vs,e,_⟩:=h;exact⟨_,e,id⟩
 |ins c fs=>obtain⟨C,dx,us,_,e,_⟩:=h;exact⟨_,e,id⟩
 |exn c=>obtain⟨C,_,e⟩:=h;exact⟨_,e,id⟩
def Gh.move{a:Addr}{o:Ob}(h:Gh K H O a o)(st:Al H O H' O')(e:H' a=H a):Gh K H' O' a o:=by
 cases o with
 |lst ds=>obtain⟨vs,q,r⟩:=h;exact⟨vs,by rw[e];exact q,r.mono st⟩
 |dk ds=>obtain⟨vs,q,r1,r2⟩:=h;exact⟨vs,by rw[e];exact q,r1,r2.mono st⟩
 |dt ds ep=>obtain⟨vs,q,r1,r2,r3⟩:=h;exact⟨vs,by rw[e];exact q,r1,r2.mono st,λu hu=>(r3 u hu).mono st⟩
 |ins c fs=>obtain⟨C,dx,us,z,q,r1,r2⟩:=h;exact⟨C,dx,us,z,by rw[e];exact q,r1,r2.mono st⟩
 |exn c=>obtain⟨C,z,q⟩:=h;exact⟨C,z,by rw[e];exact q⟩
def Ap.has{L:AC}(r:Ap K H O L){k:Nat}{a:Addr}(e:O[k]?=some a):∃o,L[k]?=some o/\Gh K H O a o:=by
 have h:k<L.length:=by rw[<-r.len];exact(Ax.mp e).1
 exact⟨L[k],by simp[h],r.ob k a _ e (by simp[h])⟩
def Ap.at{L:AC}(r:Ap K H O L){k:Nat}{o:Ob}(e:L[k]?=some o):∃a,O[k]?=some a/\Gh K H O a o:=by
 have h:k<O.length:=by rw[r.len];exact(Ax.mp e).1
 exact⟨O[k],by simp[h],r.ob k _ o (by simp[h]) e⟩
def Ap.ext{L:AC}(r:Ap K H O L)(k:∀a o,H a=some o->H' a=some o):Ap K H' O L :=
 ⟨r.len,r.nd,λj a o e1 e2=>by
  have q:=r.ob j a o e1 e2;obtain⟨u,hu,_⟩:=q.ho
  exact q.move ⟨.ext k,AW _⟩ (by rw[hu];exact k a u hu)⟩
def Ap.new{L:AC}{p:Addr}{u:HO}{o:Ob}(r:Ap K H O L)(hp:H p=none)(n:Gh K (upd H p u) (O++[p]) p o):Ap K (upd H p u) (O++[p]) (L++[o]):=by
 have hm:p∉O:=λhm=>by
  obtain⟨k,hk,e⟩:=AML hm;obtain⟨o',_,q⟩:=r.has (k:=k) (a:=p) (by rw[<-e];simp[hk]);obtain⟨u',hu,_⟩:=q.ho;rw[hp] at hu;cases hu
 refine⟨by simp[r.len],by rw[Gp];exact⟨r.nd,by simp,λa ha b hb=>by simp at hb;subst hb;rintro rfl;exact hm ha⟩,λk a o' e1 e2=>?_⟩
 by_cases h:k<O.length
 .rw[Ey h] at e1;rw[Ey (by rw[<-r.len];exact h)] at e2;have q:=r.ob k a o' e1 e2;obtain⟨u',hu,_⟩:=q.ho;exact q.move ⟨.new hp,Ai _ _⟩ (by rw[BU (DT hu hp)])
 .have hk:k=O.length:=by
   have:=(Ax.mp e1).1;simp at this;omega
  subst hk;rw[ALp (Af _)] at e1;rw[ALp (by rw[r.len];exact Af _)] at e2;simp at e1;rw[r.len] at e2;simp at e2;subst e1 e2;exact n
def Ap.write{L:AC}{k:Nat}{a:Addr}{u:HO}{o':Ob}(r:Ap K H O L)(e:O[k]?=some a)(n:Gh K (upd H a u) O a o'):Ap K (upd H a u) O (L.set k o'):=by
 obtain⟨o,e2,q⟩:=r.has e;obtain⟨u0,hu0,nf⟩:=q.ho;refine⟨by simp[r.len],r.nd,λj b o2 f1 f2=>?_⟩
 by_cases h:j=k
 .subst h;rw[e] at f1;cases f1;rw[ALx (Ax.mp e2).1] at f2;cases f2;exact n
 .rw[EI (Ne.symm h)] at f2;have q2:=r.ob j b o2 f1 f2
  have hb:b≠a:=λz=>by
   subst z;exact h (AEN r.nd f1 e)
  exact q2.move ⟨.write hu0 nf,AW _⟩ (by rw[BU hb])
end
structure He (K:AL) (H:Hp) (O:ANG) (Y:L2.St) (Z:Fm):Prop where
 len:Y.length=Z.length
 at':∀(i:Nat) (d:D),Z[i]?=some (some d)->∃v,Y[i]?=some (some v)/\Is K H O v d
structure DJ (K:AL) (H:Hp) (O:ANG) (Y:L2.St) (Z:Fm) (L:AC):Prop where
 s:Ap K H O L
 f:He K H O Y Z
def He.mono{K:AL}{H H':Hp}{O O':ANG}{Y:L2.St}{Z:Fm}(st:Al H O H' O')(h:He K H O Y Z):He K H' O' Y Z :=
 ⟨h.len,λi d e=>let ⟨v,a,b⟩:=h.at' i d e;⟨v,a,b.mono st⟩⟩
def He.set{K:AL}{H:Hp}{O:ANG}{Y:L2.St}{Z:Fm}{v:V}{d:D}(h:He K H O Y Z)(r:Is K H O v d)(i:Nat):He K H O (Y.set i (some v)) (Z.set i (some d)):=by
 refine⟨by simp[h.len],λj e q=>?_⟩
 by_cases z:j=i
 .subst z
  have hj:j<Z.length:=by have:=(Ax.mp q).1;simpa using this
  rw[ALx hj] at q;cases q;exact⟨v,by rw[ALx (by rw[h.len];exact hj)],r⟩
 .rw[EI (Ne.symm z)] at q;obtain⟨v',a,b⟩:=h.at' j e q;exact⟨v',by rw[EI (Ne.symm z)];exact a,b⟩
noncomputable abbrev EF:=Fm->AC->Option (D×AC)
noncomputable abbrev TF:=Fm->AC->Option (Bool×AC)
noncomputable abbrev AF:=Fm->AC->Option (List D×AC)
noncomputable abbrev G1:=D->AC->Option (D×AC)
noncomputable abbrev G2:=D->D->AC->Option (D×AC)
noncomputable abbrev GL:=List D->AC->Option (D×AC)
abbrev GQ(K:AL)(f:EF):TE:=λY H Q=>∃O Z L d L',DJ K H O Y Z L/\f Z L=some (d,L') /\
 ∀v H' O',Al H O H' O'->Ap K H' O' L'->Is K H' O' v d->Q v H'
abbrev NU(K:AL)(f:TF):TT:=λY H Q=>∃O Z L b L',DJ K H O Y Z L/\f Z L=some (b,L') /\
 ∀H' O',Al H O H' O'->Ap K H' O' L'->Q b H'
abbrev Re(K:AL)(f:AF):TA:=λY H Q=>∃O Z L ds L',DJ K H O Y Z L/\f Z L=some (ds,L') /\
 ∀vs H' O',Al H O H' O'->Ap K H' O' L'->AR K H' O' vs ds->Q vs H'
abbrev AZ(X:Cx)(e:Expr)(f:EF):Prop:=PE X e (GQ X.K f)
abbrev Et(X:Cx)(e:Expr)(f:TF):Prop:=PT X e (NU X.K f)
abbrev IE(X:Cx)(e:Expr)(f:TF):Prop:=PW X e (NU X.K f)
abbrev ES(X:Cx)(es:ANH)(f:AF):Prop:=PA X es (Re X.K f)
def PE.weaken{X:Cx}{e:Expr}{t t':TE}(h:PE X e t)(i:∀Y H Q,t' Y H Q->t Y H Q):PE X e t':=λpins s Y H Q I q=>h pins s Y H Q I (i Y H Q q)
def PT.weaken{X:Cx}{e:Expr}{t t':TT}(h:PT X e t)(i:∀Y H Q,t' Y H Q->t Y H Q):PT X e t':=λpins s Y H Q I q=>h pins s Y H Q I (i Y H Q q)
def PW.weaken{X:Cx}{e:Expr}{t t':TT}(h:PW X e t)(i:∀Y H Q,t' Y H Q->t Y H Q):PW X e t':=λw pins s Y H Q I q=>h w pins s Y H Q I (i Y H Q q)
def PA.weaken{X:Cx}{e:ANH}{t t':TA}(h:PA X e t)(i:∀Y H Q,t' Y H Q->t Y H Q):PA X e t':=λp pins s Y H Q I q=>h p pins s Y H Q I (i Y H Q q)
def DJ.to{K:AL}{H H':Hp}{O O':ANG}{Y:L2.St}{Z:Fm}{L L':AC}(r:DJ K H O Y Z L)(st:Al H O H' O')(rs:Ap K H' O' L'):DJ K H' O' Y Z L':=⟨rs,r.f.mono st⟩
abbrev AD(d:D):EF:=λ_ L=>some (d,L)
abbrev AA(i:Nat):EF:=λZ L=>match Z[i]? with|some (some d)=>some (d,L)|_=>none
abbrev AE(g:G2)(fa fb:EF):EF:=λZ L=>(fa Z L).bind λx=>(fb Z x.2).bind λy=>g x.1 y.1 y.2
abbrev BG(g:G1)(fa:EF):EF:=λZ L=>(fa Z L).bind λx=>g x.1 x.2
section
variable {X:Cx}{a b c:Expr}{fa fb fc:EF}{pos:Pos}
def JX{v:V}{d:D}(h:PE X a (tC v))(i:∀H O,Is X.K H O v d):AZ X a (AD d) :=
 PE.weaken h λY H Q z3_=>by
  obtain⟨O,Z,L,d',L',r,e,k⟩:=z3_;cases e;exact k _ _ _ (.refl _ _) r.s (i _ _)
def AKh{i:Int}{j:Nat}{pos:Pos}:AZ X (.Constant (.int i) j pos) (AD (.int i)):=JX ADP λ_ _=>.int _
def AKu{i:Bool}{j:Nat}{pos:Pos}:AZ X (.Constant (.bool i) j pos) (AD (.bl i)):=JX ADb λ_ _=>.bl _
def AKc{j:Nat}{pos:Pos}:AZ X (.Constant .none j pos) (AD .non):=JX ADL λ_ _=>.non
def AKW{x:Str}{j:Nat}{pos:Pos}(h:x.length<=16777216:=by decide):AZ X (.Constant (.str x) j pos) (AD (.str x)):=JX ADF λ_ _=>.str _ h
def AGO{i:Nat}(h:PE X a (Qu i)):AZ X a (AA i) :=
 PE.weaken h λY H Q z3_=>by
  obtain⟨O,Z,L,d',L',r,e,k⟩:=z3_;unfold AA at e;split at e
  .rename_i d hd;cases e;obtain⟨v,hv,is⟩:=r.f.at' i _ hd;exact⟨v,hv,k _ _ _ (.refl _ _) r.s is⟩
  .cases e
abbrev rD(K:AL)(g:G2):R2:=λv u H Q=>∃O L x y d L',Ap K H O L/\Is K H O v x/\Is K H O u y/\g x y L=some (d,L') /\
 ∀w H' O',Al H O H' O'->Ap K H' O' L'->Is K H' O' w d->Q w H'
abbrev rC(K:AL)(g:GL):List V->Hp->VK->Prop:=λvs H Q=>∃O L xs d L',Ap K H O L/\AR K H O vs xs/\g xs L=some (d,L') /\
 ∀w H' O',Al H O H' O'->Ap K H' O' L'->Is K H' O' w d->Q w H'
abbrev Cm(X:Cx)(f:Value->Value->Sem Value)(g:G2):Prop:=Au X f (rD X.K g)
abbrev EU(X:Cx)(f:Value)(g:GL):Prop:=Bx X f (rC X.K g)
abbrev OQ(X:Cx)(g:G2):Prop:=FK X (rD X.K g)
def Au.weaken{f:Value->Value->Sem Value}{r r':R2}(h:Au X f r)(i:∀x y H Q,r' x y H Q->r x y H Q):Au X f r' :=
 λpins s Y H x y v u Q I rx ry q=>h pins s Y H x y v u Q I rx ry (i _ _ _ _ q)
def FK.weaken{r r':R2}(h:FK X r)(i:∀x y H Q,r' x y H Q->r x y H Q):FK X r' :=
 λa b pins s Y H x y v u Q I rx ry q=>h a b pins s Y H x y v u Q I rx ry (i _ _ _ _ q)
def Bx.weaken{f:Value}{r r':List V->Hp->VK->Prop}(h:Bx X f r)(i:∀xs H Q,r' xs H Q->r xs H Q):Bx X f r' :=
 λpins s Y H xs us Q I rx q=>h pins s Y H xs us Q I rx (i _ _ _ q)
def two_lift{K:AL}{g:G2}{Y:L2.St}{H:Hp}{Q:VK}(h:GQ K (AE g fa fb) Y H Q):Kh (rD K g) (GQ K fa) (GQ K fb) Y H Q:=by obtain⟨O,Z,L,d,L',r,e,k⟩:=h;unfold AE at e;obtain⟨p,e1,e⟩:=bS e;obtain⟨q,e2,e⟩:=bS e;refine⟨O,Z,L,p.1,p.2,r,e1,λv H1 O1 st1 rs1 is1=>?_⟩;refine⟨O1,Z,p.2,q.1,q.2,r.to st1 rs1,e2,λu H2 O2 st2 rs2 is2=>?_⟩;exact⟨O2,q.2,p.1,q.1,d,L',rs2,is1.mono st2,is2,e,λw H' O' st rs is=>k w H' O' ((st1.trans st2).trans st) rs is⟩
def AKZ{op:Operator}{g:G2}(ho:Cm X (binaryOp op) g)(ha:AZ X a fa)(hb:AZ X b fb):AZ X (.BinOp a op b pos) (AE g fa fb) :=
 PE.weaken (ADI ho ha hb) λ_ _ _ h=>two_lift h
def AKn{op:CmpOp}{g:G2}(ho:Cm X (compareOp op) g)(ha:AZ X a fa)(hb:AZ X b fb)(hm:behindInMarks op b=false):AZ X (.Compare a [op] [b] pos) (AE g fa fb) :=
 PE.weaken (ADT ho ha hb hm) λ_ _ _ h=>two_lift h
def AGP{g:G2}(ho:OQ X g)(ha:AZ X a fa)(hb:AZ X b fb)(hs:Sk b):AZ X (.Subscript a b pos) (AE g fa fb) :=
 PE.weaken (ADO ho ha hb hs) λ_ _ _ h=>two_lift h
abbrev AS(f:EF):TF:=λZ L=>(f Z L).bind λx=>match x.1 with|.bl b=>some (b,x.2)|_=>none
def SZ{K:AL}{f:EF}{Y:L2.St}{H:Hp}{Q:Bool->Hp->Prop}(h:NU K (AS f) Y H Q):GQ K f Y H λx H'=>∃k,x=.bl k/\Q k H':=by
 obtain⟨O,Z,L,b,L',r,e,k⟩:=h;unfold AS at e;obtain⟨p,e1,e⟩:=bS e;obtain⟨d,L1⟩:=p
 cases d <;> simp only[AT] at e <;> try (cases e;done)
 cases e;refine⟨O,Z,L,_,_,r,e1,λv H' O' st rs is=>?_⟩;cases is;exact⟨_,rfl,k H' O' st rs⟩
def AIc{op:CmpOp}{g:G2}(ho:Cm X (compareOp op) g)(ha:AZ X a fa)(hb:AZ X b fb)(hm:behindInMarks op b=false):Et X (.Compare a [op] [b] pos) (AS (AE g fa fb)) :=
 PT.weaken (ACX ho ha hb hm) λY H Q h=>by
  have q:=SZ h;exact two_lift q
def AIa(ha:AZ X a fa)(he:∀whole,isTrue a X.env whole=(do let v <-whole;standAt a.pos;holding [v] (truthy v)):=by intro _;rfl):Et X a (AS fa) :=
 PT.weaken (ACV ha he) λY H Q h=>SZ h
abbrev Cv(f:TF):TF:=λZ L=>(f Z L).bind λx=>some (!x.1,x.2)
abbrev IC(f g:TF):TF:=λZ L=>(f Z L).bind λx=>if x.1=true then g Z x.2 else some (false,x.2)
abbrev CS(f g:TF):TF:=λZ L=>(f Z L).bind λx=>if x.1=true then some (true,x.2) else g Z x.2
def AIb{f:TF}(ha:Et X a f):Et X (.UnaryOp .Not a pos) (Cv f) :=
 PT.weaken (ACW ha) λY H Q z3_=>by
  obtain⟨O,Z,L,b,L',r,e,k⟩:=z3_;unfold Cv at e
  cases e1:f Z L with
  |none=>rw[e1] at e;cases e
  |some p=>rw[e1] at e;cases e;exact⟨O,Z,L,p.1,p.2,r,e1,λH' O' st rs=>k H' O' st rs⟩
def AIB{f:TF}(ha:Et X a f):IE X (.BoolOp .And [a] pos) f:=ACL ha
def AIA{f:TF}(ha:Et X a f):IE X (.BoolOp .Or [a] pos) f:=ACJ ha
def AIC{f g:TF}{rest:ANH}(ha:Et X a f)(hb:IE X (.BoolOp .And (b::rest) pos) g):IE X (.BoolOp .And (a::b::rest) pos) (IC f g) :=
 PW.weaken (ACM ha hb) λY H Q z3_=>by
  obtain⟨O,Z,L,c,L',r,e,k⟩:=z3_;unfold IC at e;obtain⟨p,e1,e⟩:=bS e;obtain⟨b1,L1⟩:=p;refine⟨O,Z,L,b1,L1,r,e1,λH1 O1 st rs=>?_⟩
  cases b1 with
  |true =>
   refine iteT ⟨O1,Z,L1,c,L',r.to st rs,by simpa using e,λH' O' st' rs'=>k H' O' (st.trans st') rs'⟩
  |false =>
   simp at e;obtain⟨rfl,rfl⟩:=e;exact iteF (k H1 O1 st rs)
def AH9{f g:TF}{rest:ANH}(ha:Et X a f)(hb:IE X (.BoolOp .Or (b::rest) pos) g):IE X (.BoolOp .Or (a::b::rest) pos) (CS f g) :=
 PW.weaken (ACK ha hb) λY H Q z3_=>by
  obtain⟨O,Z,L,c,L',r,e,k⟩:=z3_;unfold CS at e;obtain⟨p,e1,e⟩:=bS e;obtain⟨b1,L1⟩:=p;refine⟨O,Z,L,b1,L1,r,e1,λH1 O1 st rs=>?_⟩
  cases b1 with
  |true =>
   simp at e;obtain⟨rfl,rfl⟩:=e;exact iteT (k H1 O1 st rs)
  |false =>
   refine iteF ⟨O1,Z,L1,c,L',r.to st rs,by simpa using e,λH' O' st' rs'=>k H' O' (st.trans st') rs'⟩
def AIZ{f:TF}(h:IE X a f):Et X a f:=PW.pt h
abbrev ER(f g:EF):EF:=λZ L=>(f Z L).bind λx=>match x.1 with|.bl true=>g Z x.2|.bl false=>some (.bl false,x.2)|_=>none
abbrev JC(f g:EF):EF:=λZ L=>(f Z L).bind λx=>match x.1 with|.bl true=>some (.bl true,x.2)|.bl false=>g Z x.2|_=>none
abbrev JD(f:EF):EF:=λZ L=>(f Z L).bind λx=>match x.1 with|.bl b=>some (.bl (!b),x.2)|_=>none
def AKa{op:BoolOp}{f:EF}(h:AZ X a f):AZ X (.BoolOp op [a] pos) f:=ADJ h
def AKv{f g:EF}{rest:ANH}(ha:AZ X a f)(hb:AZ X (.BoolOp .And (b::rest) pos) g):AZ X (.BoolOp .And (a::b::rest) pos) (ER f g) :=
 PE.weaken (ADc ha hb) λY H Q z3_=>by
  obtain⟨O,Z,L,c,L',r,e,k⟩:=z3_;unfold ER at e;obtain⟨p,e1,e⟩:=bS e;obtain⟨d,L1⟩:=p;refine⟨O,Z,L,d,L1,r,e1,λv H1 O1 st rs is=>?_⟩
  cases d <;> simp only[AT] at e <;> try (cases e;done)
  rename_i b1;cases is;refine⟨b1,rfl,?_⟩
  cases b1 with
  |true=>exact iteT ⟨O1,Z,L1,c,L',r.to st rs,by simpa using e,λv H' O' st' rs' is'=>k v H' O' (st.trans st') rs' is'⟩
  |false =>
   simp at e;obtain⟨rfl,rfl⟩:=e;exact iteF (k _ H1 O1 st rs (.bl _))
def AKY{f g:EF}{rest:ANH}(ha:AZ X a f)(hb:AZ X (.BoolOp .Or (b::rest) pos) g):AZ X (.BoolOp .Or (a::b::rest) pos) (JC f g) :=
 PE.weaken (ADH ha hb) λY H Q z3_=>by
  obtain⟨O,Z,L,c,L',r,e,k⟩:=z3_;unfold JC at e;obtain⟨p,e1,e⟩:=bS e;obtain⟨d,L1⟩:=p;refine⟨O,Z,L,d,L1,r,e1,λv H1 O1 st rs is=>?_⟩
  cases d <;> simp only[AT] at e <;> try (cases e;done)
  rename_i b1;cases is;refine⟨b1,rfl,?_⟩
  cases b1 with
  |false=>exact iteF ⟨O1,Z,L1,c,L',r.to st rs,by simpa using e,λv H' O' st' rs' is'=>k v H' O' (st.trans st') rs' is'⟩
  |true =>
   simp at e;obtain⟨rfl,rfl⟩:=e;exact iteT (k _ H1 O1 st rs (.bl _))
def AKb{f:EF}(ha:AZ X a f):AZ X (.UnaryOp .Not a pos) (JD f) :=
 PE.weaken (ADK ha) λY H Q z3_=>by
  obtain⟨O,Z,L,c,L',r,e,k⟩:=z3_;unfold JD at e;obtain⟨p,e1,e⟩:=bS e;obtain⟨d,L1⟩:=p;refine⟨O,Z,L,d,L1,r,e1,λv H1 O1 st rs is=>?_⟩
  cases d <;> simp only[AT] at e <;> try (cases e;done)
  cases e;cases is;exact⟨_,rfl,k _ H1 O1 st rs (.bl _)⟩
abbrev HU(t:TF)(f g:EF):EF:=λZ L=>(t Z L).bind λx=>if x.1=true then f Z x.2 else g Z x.2
def AKi{t:TF}{f g:EF}(hc:Et X c t)(ha:AZ X a f)(hb:AZ X b g):AZ X (.IfExp c a b pos) (HU t f g) :=
 PE.weaken (ADQ hc ha hb) λY H Q z3_=>by
  obtain⟨O,Z,L,d,L',r,e,k⟩:=z3_;unfold HU at e;obtain⟨p,e1,e⟩:=bS e;obtain⟨b1,L1⟩:=p;refine⟨O,Z,L,b1,L1,r,e1,λH1 O1 st rs=>?_⟩
  cases b1 with
  |true=>exact iteT ⟨O1,Z,L1,d,L',r.to st rs,by simpa using e,λv H' O' st' rs' is'=>k v H' O' (st.trans st') rs' is'⟩
  |false=>exact iteF ⟨O1,Z,L1,d,L',r.to st rs,by simpa using e,λv H' O' st' rs' is'=>k v H' O' (st.trans st') rs' is'⟩
abbrev Ea:Expr->Bool
 |.Starred _ _=>false
 |_=>true
def HM{e:Expr}{es:ANH}{env:Env}(h:Ea e=true):starEach (e::es) env=(false,eval e env)::starEach es env:=by cases e <;> first|rfl|(cases h)
def IK:∀{es:ANH} {env:Env} {pos:Pos},es.all Ea=true->(backTo pos (starEach es env)).any (·.1)=false
 |[],_,_,_=>rfl
 |e::es,env,pos,h=>by
  rw[ALq,Bz] at h;rw[HM h.1];have:=IK (env:=env) (pos:=pos) h.2;unfold backTo at this ⊢;rw[Aj,ALk,this];rfl
def Vi:∀{es:ANH} {env:Env} {pos:Pos},es.all Ea=true->(backTo pos (starEach es env)).all (λx=>!x.1)=true
 |[],_,_,_=>rfl
 |e::es,env,pos,h=>by
  rw[ALq,Bz] at h;rw[HM h.1];have:=Vi (env:=env) (pos:=pos) h.2;unfold backTo at this ⊢;rw[Aj,ALq,this];rfl
abbrev AG:AF:=λ_ L=>some ([],L)
abbrev AB(f:EF)(g:AF):AF:=λZ L=>(f Z L).bind λx=>(g Z x.2).bind λy=>some (x.1::y.1,y.2)
def ALY:ES X [] AG:=PA.weaken ADl λY H Q z3_=>by obtain⟨O,Z,L,d,L',r,e,k⟩:=z3_;cases e;exact k _ _ _ (.refl _ _) r.s .nil
def ALZ{e:Expr}{es:ANH}{f:EF}{g:AF}(ha:AZ X e f)(hr:ES X es g)(hs:Ea e=true:=by rfl):ES X (e::es) (AB f g) :=
 PA.weaken (ADm ha hr (HM hs)) λY H Q z3_=>by
  obtain⟨O,Z,L,d,L',r,e,k⟩:=z3_;unfold AB at e;obtain⟨p,e1,e⟩:=bS e;obtain⟨q,e2,e⟩:=bS e;cases e;refine⟨O,Z,L,p.1,p.2,r,e1,λv H1 O1 st1 rs1 is1=>?_⟩;refine⟨O1,Z,p.2,q.1,q.2,r.to st1 rs1,e2,λu H2 O2 st2 rs2 is2=>?_⟩;exact k _ _ _ (st1.trans st2) rs2 (.cons (is1.mono st2) is2)
abbrev CF(f:AF):EF:=λZ L=>(f Z L).bind λx=>if x.1.length<=16777216 then some (.tup x.1,x.2) else none
abbrev Bh(f:AF):EF:=λZ L=>(f Z L).bind λx=>if x.1.length<=16777216 then some (.ref x.2.length,x.2++[.lst x.1]) else none
def AKV{es:ANH}{f:AF}{x1:Nat}(h:ES X es f):AZ X (.Tuple es x1 pos) (CF f) :=
 PE.weaken (ADE h) λY H Q z3_=>by
  obtain⟨O,Z,L,d,L',r,e,k⟩:=z3_;unfold CF at e;obtain⟨p,e1,e⟩:=bS e;split at e
  .rename_i hz;cases e;refine⟨O,Z,L,p.1,p.2,r,e1,λvs H1 O1 st rs is=>⟨by rw[is.length,sizeLine_eq];exact hz,λq hq=>?_⟩⟩;have st2:Al H1 O1 (upd H1 q (.tup vs)) O1:=⟨.new hq,AW _⟩;exact k _ _ _ (st.trans st2) (rs.ext λa u e=>by rw[BU (DT e hq)];exact e) (.tup (Bd.of CI) (is.mono st2))
  .cases e
def AKf{es:ANH}{f:AF}(h:ES X es f):AZ X (.List es pos) (Bh f) :=
 PE.weaken (ADN h) λY H Q z3_=>by
  obtain⟨O,Z,L,d,L',r,e,k⟩:=z3_;unfold Bh at e;obtain⟨p,e1,e⟩:=bS e;split at e
  .rename_i hz;cases e;refine⟨O,Z,L,p.1,p.2,r,e1,λvs H1 O1 st rs is=>⟨by rw[is.length,sizeLine_eq];exact hz,λq hq=>?_⟩⟩;have st2:Al H1 O1 (upd H1 q (.lst vs)) (O1++[q]):=⟨.new hq,Ai _ _⟩;refine k _ _ _ (st.trans st2) (rs.new hq ⟨vs,CI,is.mono st2⟩) (.ref ?_);rw[<-rs.len];simp
  .cases e
abbrev AK(g:GL)(f:AF):EF:=λZ L=>(f Z L).bind λx=>g x.1 x.2
def Nx{K:AL}{g:GL}{f:AF}{Y:L2.St}{H:Hp}{Q:VK}(h:GQ K (AK g f) Y H Q):Re K f Y H λvs H1=>rC K g vs H1 Q:=by obtain⟨O,Z,L,d,L',r,e,k⟩:=h;unfold AK at e;obtain⟨p,e1,e⟩:=bS e;exact⟨O,Z,L,p.1,p.2,r,e1,λvs H1 O1 st rs is=>⟨O1,p.2,p.1,d,L',rs,is,e,λw H' O' st' rs' is'=>k w H' O' (st.trans st') rs' is'⟩⟩
def AKp{x:Str}{p:Pos}{e:Expr}{es:ANH}{id:String}{g:GL}{f:AF}(hc:EU X (.builtin id) g)(hm:X.mg x=none)(hv:bootBuiltins x=some (.builtin id))(ha:ES X (e::es) f)(hg:Gl X x:=by rfl)(hn:x≠"__name__":=by decide)(hdb:(x == ("__debug__":Str))=false:=by decide)
  (he:Ea e=true:=by rfl) (hpl:es.all Ea=true:=by rfl):AZ X (.Call (.Name x p) (e::es) [] pos) (AK g f) :=
 PE.weaken (ADV hc hg hm hv ha hn hdb (HM he) (IK hpl)) λY H Q h=>Nx h
def AKo{x:Str}{p:Pos}{e:Expr}{es:ANH}{T:String}{g:GL}{f:AF}(hc:EU X (.type T) g)(hm:X.mg x=none)(hv:bootBuiltins x=some (.type T))(ha:ES X (e::es) f)(hg:Gl X x:=by rfl)(hn:x≠"__name__":=by decide)(hdb:(x == ("__debug__":Str))=false:=by decide)
  (he:Ea e=true:=by rfl) (hpl:es.all Ea=true:=by rfl):AZ X (.Call (.Name x p) (e::es) [] pos) (AK g f) :=
 PE.weaken (ADU hc hg hm hv ha hn hdb (HM he) (IK hpl)) λY H Q h=>Nx h
end
inductive Gg where
 |next (Z:Fm) (L:AC)|ret (d:D) (L:AC)|brk (Z:Fm) (L:AC)|cont (Z:Fm) (L:AC)
noncomputable abbrev SF:=Fm->AC->Option Gg
abbrev ID(K:AL)(H:Hp)(O:ANG)(E:Ik):Gg->Prop
 |.next Z L=>∀Y' H' O',Al H O H' O'->DJ K H' O' Y' Z L->E.nx Y' H'
 |.ret d L=>∀v H' O',Al H O H' O'->Ap K H' O' L->Is K H' O' v d->E.rt v H'
 |.brk Z L=>∀Y' H' O',Al H O H' O'->DJ K H' O' Y' Z L->E.bk Y' H'
 |.cont Z L=>∀Y' H' O',Al H O H' O'->DJ K H' O' Y' Z L->E.ct Y' H'
def ID.mono{K:AL}{H H1:Hp}{O O1:ANG}{E:Ik}{out:Gg}(st:Al H O H1 O1)(h:ID K H O E out):ID K H1 O1 E out:=by
 cases out with
 |next Z L=>exact λY' H' O' st' r=>h Y' H' O' (st.trans st') r
 |ret d L=>exact λv H' O' st' r i=>h v H' O' (st.trans st') r i
 |brk Z L=>exact λY' H' O' st' r=>h Y' H' O' (st.trans st') r
 |cont Z L=>exact λY' H' O' st' r=>h Y' H' O' (st.trans st') r
abbrev Wc(K:AL)(f:SF):TS:=λE Y H=>∃O Z L out,DJ K H O Y Z L/\f Z L=some out/\ID K H O E out
abbrev Dq(X:Cx)(st:Stmt)(f:SF):Prop:=PS X st (Wc X.K f)
abbrev FH(X:Cx)(st:ANI)(f:SF):Prop:=Dj X st (Wc X.K f)
def PS.weaken{X:Cx}{e:Stmt}{t t':TS}(h:PS X e t)(i:∀D Y H,t' D Y H->t D Y H):PS X e t':=λpins s Y H D I q=>h pins s Y H D I (i D Y H q)
def Dj.weaken{X:Cx}{e:ANI}{t t':TS}(h:Dj X e t)(i:∀D Y H,t' D Y H->t D Y H):Dj X e t':=λpins s Y H D I q=>h pins s Y H D I (i D Y H q)
abbrev As:SF:=λZ L=>some (.next Z L)
abbrev AJ(f g:SF):SF:=λZ L=>(f Z L).bind λout=>match out with|.next Z' L'=>g Z' L'|o=>some o
abbrev AU(f:EF):SF:=λZ L=>(f Z L).bind λx=>some (.ret x.1 x.2)
abbrev DU(f:EF):SF:=λZ L=>(f Z L).bind λx=>some (.next Z x.2)
abbrev AO(i:Nat)(f:EF):SF:=λZ L=>(f Z L).bind λx=>some (.next (Z.set i (some x.1)) x.2)
abbrev An(t:TF)(f g:SF):SF:=λZ L=>(t Z L).bind λx=>if x.1=true then f Z x.2 else g Z x.2
abbrev SV:SF:=λZ L=>some (.brk Z L)
section
variable {X:Cx}{st:Stmt}{rest:ANI}{f g:SF}{fe:EF}{e:Expr}{pos:Pos}
def AIf:FH X [] As:=Dj.weaken ACa λD Y H z3_=>by obtain⟨O,Z,L,out,r,e,k⟩:=z3_;cases e;exact k Y H O (.refl _ _) r
def AIg(h1:Dq X st f)(h2:FH X rest g):FH X (st::rest) (AJ f g) :=
 Dj.weaken (ACb h1 h2) λD Y H z3_=>by
  obtain⟨O,Z,L,out,r,e,k⟩:=z3_;unfold AJ at e;obtain⟨o1,e1,e⟩:=bS e;refine⟨O,Z,L,o1,r,e1,?_⟩
  cases o1 with
  |next Z1 L1=>exact λY' H' O' st' r'=>⟨O',Z1,L1,out,r',e,k.mono st'⟩
  |ret d L1=>cases e;exact k
  |brk Z1 L1=>cases e;exact k
  |cont Z1 L1=>cases e;exact k
def AIe(h1:Dq X st f):FH X [st] f:=Dj.weaken (ACZ h1) λD Y H h=>h
def AIt:Dq X (.Break pos) SV:=PS.weaken ACl λD Y H z3_=>by obtain⟨O,Z,L,out,r,e,k⟩:=z3_;cases e;exact k Y H O (.refl _ _) r
def AIq(he:AZ X e fe)(hs:swapsWith e none pos.line X.env=pure false:=by rfl):Dq X (.Expr e pos) (DU fe) :=
 PS.weaken (ACk he hs) λD Y H z3_=>by
  obtain⟨O,Z,L,out,r,e,k⟩:=z3_;unfold DU at e
  cases e1:fe Z L with
  |none=>rw[e1] at e;cases e
  |some p=>rw[e1] at e;cases e;exact⟨O,Z,L,p.1,p.2,r,e1,λv H' O' st rs is=>k Y H' O' st (r.to st rs)⟩
def AIk(he:AZ X e fe):Dq X (.Return (some e) pos) (AU fe) :=
 PS.weaken (ACe he) λD Y H z3_=>by
  obtain⟨O,Z,L,out,r,e,k⟩:=z3_;unfold AU at e
  cases e1:fe Z L with
  |none=>rw[e1] at e;cases e
  |some p=>rw[e1] at e;cases e;exact⟨O,Z,L,p.1,p.2,r,e1,λv H' O' st rs is=>k v H' O' st rs is⟩
def AIj{i:Nat}{x:Str}{pos':Pos}(hN:X.N.Nodup)(he:AZ X e fe)(hi:X.N[i]?=some x:=by rfl)(hx:HJ X.env.scope x:=by first|exact Or.inl rfl|exact Or.inr rfl)(hs:swapsWith e (some (.Name x pos')) pos.line X.env=pure false:=by rfl)
  (hf:X.fn x=true\/X.env.scope.names.lookup x=some .local:=by first|exact .inl rfl|exact .inr rfl):Dq X (.Assign [.Name x pos'] e pos) (AO i fe) :=
 PS.weaken (ACd hN hi hx he hs hf) λD Y H z3_=>by
  obtain⟨O,Z,L,out,r,e,k⟩:=z3_;unfold AO at e
  cases e1:fe Z L with
  |none=>rw[e1] at e;cases e
  |some p=>rw[e1] at e;cases e;exact⟨O,Z,L,p.1,p.2,r,e1,λv H' O' st rs is=>k _ H' O' st ⟨rs,(r.f.mono st).set is i⟩⟩
def AIo{c:Expr}{a b:ANI}{t:TF}(hc:Et X c t)(ha:FH X a f)(hb:FH X b g):Dq X (.If c a b pos) (An t f g) :=
 PS.weaken (ACg hc ha hb) λD Y H z3_=>by
  obtain⟨O,Z,L,out,r,e,k⟩:=z3_;unfold An at e;obtain⟨p,e1,e⟩:=bS e;obtain⟨b1,L1⟩:=p;refine⟨O,Z,L,b1,L1,r,e1,λH1 O1 st rs=>?_⟩
  cases b1 with
  |true=>exact iteT ⟨O1,Z,L1,out,r.to st rs,by simpa using e,k.mono st⟩
  |false=>exact iteF ⟨O1,Z,L1,out,r.to st rs,by simpa using e,k.mono st⟩
end
noncomputable abbrev GF:=D->Fm->Option Fm
noncomputable abbrev Eu:=List D->Fm->Option Fm
abbrev AEz(K:AL)(g:GF):TG:=λv Y H Q=>∃O Z L d Z',DJ K H O Y Z L/\Is K H O v d/\g d Z=some Z'/\∀Y',DJ K H O Y' Z' L->Q Y' H
abbrev Wd(K:AL)(g:Eu):Gc:=λv Y H Q=>∃O Z L d Z',DJ K H O Y Z L/\AR K H O v d/\g d Z=some Z'/\∀Y',DJ K H O Y' Z' L->Q Y' H
abbrev HI(X:Cx)(tg:Expr)(g:GF):Prop:=PG X tg (AEz X.K g)
abbrev Jh(X:Cx)(tg:ANH)(g:Eu):Prop:=Gf X tg (Wd X.K g)
def PG.weaken{X:Cx}{e:Expr}{t t':TG}(h:PG X e t)(i:∀v Y H Q,t' v Y H Q->t v Y H Q):PG X e t':=λpins s Y H v u Q I r q=>h pins s Y H v u Q I r (i _ _ _ _ q)
def Gf.weaken{X:Cx}{e:ANH}{t t':Gc}(h:Gf X e t)(i:∀v Y H Q,t' v Y H Q->t v Y H Q):Gf X e t':=λpins s Y H v u Q I r q=>h pins s Y H v u Q I r (i _ _ _ _ q)
abbrev Ak(i:Nat):GF:=λd Z=>some (Z.set i (some d))
abbrev Eb:Eu:=λds Z=>match ds with|[]=>some Z|_=>none
abbrev Bn(g:GF)(h:Eu):Eu:=λds Z=>match ds with|d::r=>(g d Z).bind λZ'=>h r Z'|[]=>none
abbrev En(n:Nat)(h:Eu):GF:=λd Z=>match d with|.tup ds=>if ds.length=n then h ds Z else none|_=>none
section
variable {X:Cx}{pos:Pos}
def AJs{i:Nat}{x:Str}(hN:X.N.Nodup)(hi:X.N[i]?=some x:=by rfl)(hx:HJ X.env.scope x:=by first|exact Or.inl rfl|exact Or.inr rfl)(hf:X.fn x=true\/X.env.scope.names.lookup x=some .local:=by first|exact .inl rfl|exact .inr rfl):HI X (.Name x pos) (Ak i) :=
 PG.weaken (ADA hN hi hx hf) λv Y H Q z4_=>by
  obtain⟨O,Z,L,d,Z',r,is,e,k⟩:=z4_;cases e;exact k _ ⟨r.s,r.f.set is i⟩
def AJp:Jh X [] Eb:=Gf.weaken AC8 λv Y H Q z4_=>by
 obtain⟨O,Z,L,d,Z',r,is,e,k⟩:=z4_
 cases is with
 |nil=>cases e;exact⟨rfl,k _ r⟩
 |cons a b=>cases e
end
section
variable {X:Cx}{pos:Pos}
def AJq{e:Expr}{es:ANH}{g:GF}{h:Eu}(h1:HI X e g)(h2:Jh X es h)
  (hs:(assignEach (e::es) X.env).map (·.2)=assign e X.env::(assignEach es X.env).map (·.2):=by rfl):Jh X (e::es) (Bn g h) :=
 Gf.weaken (AC9 h1 h2 hs) λv Y H Q z4_=>by
  obtain⟨O,Z,L,ds,Z',r,is,e,k⟩:=z4_
  cases is with
  |nil=>cases e
  |@cons v d vs ds a b =>
   simp only[Bn] at e;obtain⟨Z1,e1,e⟩:=bS e;exact⟨v,vs,rfl,O,Z,L,d,Z1,r,a,e1,λY' r'=>⟨O,Z1,L,ds,Z',r',b,e,k⟩⟩
def AJr{es:ANH}{k:Nat}{h:Eu}{n:Nat}(hc:X.calm=true)(h1:Jh X es h)
  (hn:(assignEach es X.env).length=n:=by rfl) (hst:(assignEach es X.env).findIdx? (·.1)=none:=by rfl):HI X (.Tuple es k pos) (En n h) :=
 PG.weaken (Vq hc h1 hn hst) λv Y H Q z4_=>by
  obtain⟨O,Z,L,d,Z',r,is,e,k⟩:=z4_
  cases is with
  |@tup a vs ds hq il =>
   simp only[En] at e;split at e
   .rename_i hl;exact⟨a,vs,rfl,hq,by rw[il.length];exact hl,O,Z,L,ds,Z',r,il,e,k⟩
   .cases e
  |_=>cases e
end
structure Lb where
 items:List D
 ok:AC->Bool
noncomputable abbrev IF:=Fm->AC->Option (Lb×AC)
abbrev Jk(K:AL)(H0:Hp)(O0:ANG)(Jt:It)(J:Lb):Prop:=∀(i:Nat) (H:Hp) (O:ANG) (L:AC),Al H0 O0 H O->Ap K H O L->J.ok L=true ->
 (∀d,J.items[i]?=some d->Jt.go i H/\∀x H',Jt.yld i H x H'->Al H O H' O/\Ap K H' O L/\Is K H' O x d)/\(J.items.length<=i->Jt.stop i H)
def Jk.mono{K:AL}{H0 H1:Hp}{O0 O1:ANG}{Jt:It}{J:Lb}(st:Al H0 O0 H1 O1)(h:Jk K H0 O0 Jt J):Jk K H1 O1 Jt J:=λi H O L s r o=>h i H O L (st.trans s) r o
abbrev AEy(K:AL)(f:IF):TI:=λY H R=>∃O Z L J L',DJ K H O Y Z L/\f Z L=some (J,L')/\∀Jt H' O',Al H O H' O'->Ap K H' O' L'->Jk K H' O' Jt J->R Jt H'
abbrev EC(X:Cx)(tg iter:Expr)(f:IF):Prop:=PI X tg iter (AEy X.K f)
def PI.weaken{X:Cx}{tg e:Expr}{t t':TI}(h:PI X tg e t)(i:∀Y H R,t' Y H R->t Y H R):PI X tg e t':=λpins s Y H R I q=>h pins s Y H R I (i _ _ _ q)
abbrev Dg(ok:AC->Bool)(g:GF)(body:SF):List D->Fm->AC->Option Gg
 |[],Z,L=>if ok L=true then some (.next Z L) else none
 |x::xs,Z,L=>if ok L=true then (g x Z).bind λZ1=>(body Z1 L).bind λout=>match out with
   |.next Z2 L2=>Dg ok g body xs Z2 L2
   |.cont Z2 L2=>Dg ok g body xs Z2 L2
   |.brk Z2 L2=>some (.next Z2 L2)
   |.ret d L2=>some (.ret d L2)
  else none
abbrev Bq(fi:IF)(g:GF)(body:SF):SF:=λZ L=>(fi Z L).bind λx=>Dg x.1.ok g body x.1.items Z x.2
def AIp{X:Cx}{tg iter:Expr}{body:ANI}{fi:IF}{g:GF}{fb:SF}{pos:Pos}(hp:PassesOwn (model X.prog X.w) X.A X.env X.xe)(hc:X.calm=true)(hi:EC X tg iter fi)(hg:HI X tg g)(hb:FH X body fb)
  (hs:∀x,foldedSetIterable iter X.env x=pure x:=by intro _;rfl):Dq X (.For tg iter body [] pos) (Bq fi g fb) :=
 PS.weaken (ACh hp hc hi hg hb hs) λD Y H z3_=>by
  obtain⟨O,Z,L,out,r,e,k⟩:=z3_;unfold Bq at e;obtain⟨p,e1,e⟩:=bS e;obtain⟨⟨items,ok⟩,L1⟩:=p;simp only[AT] at e;refine⟨O,Z,L,_,_,r,e1,λJt H1 O1 st1 rs1 it=>?_⟩
  refine⟨λi m Y H=>m=items.length-i/\i<=items.length/\∃O Z L,Al H1 O1 H O/\DJ X.K H O Y Z L/\Dg ok g fb (items.drop i) Z L=some out/\ID X.K H O D out,
   ⟨items.length,rfl,EH _,O1,Z,L1,.refl _ _,r.to st1 rs1,e,k.mono st1⟩,?_⟩
  rintro i m Y' H' ⟨rfl,hi',O',Z',L',st',r',el,k'⟩
  by_cases hlt:i<items.length
  .have ed:items.drop i=items[i]::items.drop (i+1):=AMM hlt;rw[ed] at el;simp only[Dg] at el;split at el
   .rename_i hok;obtain⟨h1,_⟩:=it i H' O' L' st' r'.s hok;obtain⟨go,yl⟩:=h1 items[i] (by simp[hlt])
    refine .inr ⟨go,λY2 H2=>∃m',m'<items.length-i/\m'=items.length-(i+1)/\i+1<=items.length/\∃O Z L,Al H1 O1 H2 O/\DJ X.K H2 O Y2 Z L/\Dg ok g fb (items.drop (i+1)) Z L=some out/\ID X.K H2 O D out,
     λY2 H2 h=>h,λx H2 y=>?_⟩
    obtain⟨st2,rs2,is2⟩:=yl x H2 y;obtain⟨Z1,eg,el⟩:=bS el;refine⟨O',Z',L',_,Z1,r'.to st2 rs2,is2,eg,λY3 r3=>?_⟩;obtain⟨o1,eb,el⟩:=bS el;refine⟨O',Z1,L',o1,r3,eb,?_⟩
    cases o1 with
    |next Z2 L2=>exact λY4 H4 O4 st4 r4=>⟨items.length-(i+1),by omega,rfl,hlt,O4,Z2,L2,(st'.trans st2).trans st4,r4,el,(k'.mono st2).mono st4⟩
    |cont Z2 L2=>exact λY4 H4 O4 st4 r4=>⟨items.length-(i+1),by omega,rfl,hlt,O4,Z2,L2,(st'.trans st2).trans st4,r4,el,(k'.mono st2).mono st4⟩
    |brk Z2 L2=>cases el;exact λY4 H4 O4 st4 r4=>k' Y4 H4 O4 (st2.trans st4) r4
    |ret d L2=>cases el;exact λv H4 O4 st4 r4 i4=>k' v H4 O4 (st2.trans st4) r4 i4
   .cases el
  .have hi2:i=items.length:=by omega
   subst hi2;rw[AMN] at el;simp only[Dg] at el;split at el
   .rename_i hok;cases el;obtain⟨_,h2⟩:=it _ H' O' L' st' r'.s hok;exact .inl ⟨h2 (Af _),k' Y' H' O' (.refl _ _) r'⟩
   .cases el
abbrev Rs(f:EF):IF:=λZ L=>(f Z L).bind λx=>match x.1 with|.tup xs=>some (⟨xs,λ_=>true⟩,x.2)|_=>none
abbrev Na(f:EF):IF:=λZ L=>(f Z L).bind λx=>match x.1 with
 |.fz xs=>some (⟨xs,λ_=>true⟩,x.2)
 |.ref k=>match x.2[k]? with|some (.lst xs)=>some (⟨xs,λL'=>decide (L'[k]?=some (.lst xs))⟩,x.2)|_=>none
 |_=>none
abbrev El(lo:Int)(n:Nat):List D:=(List.range n).map λ(i:Nat)=>.int (lo+((i:Nat):Int))
abbrev Fk(f:AF):IF:=λZ L=>(f Z L).bind λx=>match x.1 with
 |[.int j]=>if j<=4611686018427387903/\-4611686018427387904<=j then some (⟨El 0 j.toNat,λ_=>true⟩,x.2) else none
 |_=>none
abbrev Kw(f:AF):IF:=λZ L=>(f Z L).bind λx=>match x.1 with
 |[.int i,.int j]=>if (i<=4611686018427387903/\-4611686018427387904<=i)/\(j<=4611686018427387903/\-4611686018427387904<=j) then some (⟨El i (j-i).toNat,λ_=>true⟩,x.2) else none
 |_=>none
section
variable {X:Cx}{tg l:Expr}{f:EF}
def VW(lo:Int)(n i:Nat):(El lo n)[i]?=if i<n then some (.int (lo+(i:Int))) else none:=by
 unfold El;rw[Ar]
 by_cases h:i<n
 .rw[if_pos h];simp[AL3 h]
 .rw[if_neg h];simp;omega
def Ff(lo:Int)(n:Nat):(El lo n).length=n:=by simp[El]
def Wq{K:AL}{H0:Hp}{O0:ANG}{lo:Int}{n:Nat}:Jk K H0 O0 (La lo n) ⟨El lo n,λ_=>true⟩:=by
 intro i H O L st rs _;refine⟨λd hd=>?_,λh=>by rw[Ff] at h;exact h⟩;simp only at hd;rw[VW] at hd;split at hd
 .rename_i hlt;cases hd;refine⟨hlt,λx H' y=>?_⟩;obtain⟨e,y⟩:=y;subst e y;exact⟨.refl _ _,rs,.int _⟩
 .cases hd
def ACx(hl:AZ X l f):EC X tg l (Rs f):=PI.weaken (AC3 hl) λY H R z3_=>by
 obtain⟨O,Z,L,J,L',r,e,k⟩:=z3_;unfold Rs at e;obtain⟨p,e1,e⟩:=bS e;obtain⟨d,L1⟩:=p
 cases d <;> simp only[AT] at e <;> try (cases e;done)
 cases e;refine⟨O,Z,L,_,_,r,e1,λv H1 O1 st rs is=>?_⟩
 cases is with
 |@tup a vs ds hq il =>
  refine⟨a,rfl,⟨vs,hq⟩,k _ _ _ st rs λi H2 O2 L2 st2 rs2 _=>?_⟩;have hq2:=Bd.grow st2.1 hq;have il2:=il.mono st2;refine⟨λd hd=>?_,λh=>⟨vs,hq2,by rw[il.length];exact h⟩⟩;obtain⟨v,hv,iv⟩:=il2.get hd;refine⟨⟨vs,v,hq2,hv⟩,λx H' y=>?_⟩;obtain⟨e,y⟩:=y;subst e;have:=y vs hq2;rw[hv] at this;cases this;exact⟨.refl _ _,rs2,iv⟩
def Vo(hl:AZ X l f):EC X tg l (Na f):=PI.weaken (AC7 hl) λY H R z3_=>by
 obtain⟨O,Z,L,J,L',r,e,k⟩:=z3_;unfold Na at e;obtain⟨p,e1,e⟩:=bS e;obtain⟨d,L1⟩:=p
 cases d <;> simp only[AT] at e <;> try (cases e;done)
 .cases e;refine⟨O,Z,L,_,_,r,e1,λv H1 O1 st rs is=>?_⟩
  cases is with
  |@fz a vs ds hq il =>
   refine⟨a,rfl,⟨vs,hq.sql⟩,k _ _ _ st rs λi H2 O2 L2 st2 rs2 _=>?_⟩;have hq2:=(SqF.grow st2.1 hq).sql;have il2:=il.mono st2;refine⟨λd hd=>?_,λh=>⟨vs,hq2,by rw[il.length];exact h⟩⟩;obtain⟨v,hv,iv⟩:=il2.get hd;refine⟨⟨vs,v,hq2,hv⟩,λx H' y=>?_⟩;obtain⟨e,y⟩:=y;subst e;have:=y vs hq2;rw[hv] at this;cases this;exact⟨.refl _ _,rs2,iv⟩
 .rename_i kk
  cases e2:L1[kk]? with
  |none=>rw[e2] at e;cases e
  |some o =>
   rw[e2] at e
   cases o with
   |dk _=>cases e
   |ins _ _=>cases e
   |dt _ _=>cases e
   |exn _=>cases e
   |lst xs =>
    cases e;refine⟨O,Z,L,_,_,r,e1,λv H1 O1 st rs is=>?_⟩
    cases is with
    |@ref _ a hk =>
     obtain⟨vs,hv,il⟩:=rs.ob _ _ _ hk e2;refine⟨a,rfl,⟨vs,BJ.of hv⟩,k _ _ _ st rs λi H2 O2 L2 st2 rs2 hok=>?_⟩;have hk2:=CW st2.2 hk;obtain⟨ws,hw,iw⟩:=rs2.ob _ _ _ hk2 (of_decide_eq_true hok);refine⟨λd hd=>?_,λh=>⟨ws,BJ.of hw,by rw[iw.length];exact h⟩⟩;obtain⟨v,hv',iv⟩:=iw.get hd;refine⟨⟨ws,v,BJ.of hw,hv'⟩,λx H' y=>?_⟩;obtain⟨e,y⟩:=y;subst e;have:=y ws (BJ.of hw);rw[hv'] at this;cases this;exact⟨.refl _ _,rs2,iv⟩
def AI6{a:Expr}{fa:AF}{p pos:Pos}(hm:X.mg "range"=none)(ha:ES X [a] fa)(hg:Gl X "range":=by rfl)(hs:starEach [a] X.env=[(false,eval a X.env)]:=by rfl):EC X tg (.Call (.Name "range" p) [a] [] pos) (Fk fa) :=
 PI.weaken (AC6 hg hm ha hs) λY H R z3_=>by
  obtain⟨O,Z,L,J,L',r,e,k⟩:=z3_;unfold Fk at e;obtain⟨q,e1,e⟩:=bS e;obtain⟨ds,L1⟩:=q;simp only[AT] at e;refine⟨O,Z,L,ds,L1,r,e1,λvs H1 O1 st rs is=>?_⟩;split at e
  .rename_i j;split at e
   .rename_i hj;cases e
    cases is with
    |cons i1 i2 =>
     cases i1;cases i2;exact⟨j,rfl,by omega,by omega,k _ _ _ st rs Wq⟩
   .cases e
  .cases e
def AI5{a b:Expr}{fa:AF}{p pos:Pos}(hm:X.mg "range"=none)(ha:ES X [a,b] fa)(hg:Gl X "range":=by rfl)(hs:starEach [a,b] X.env=[(false,eval a X.env),(false,eval b X.env)]:=by rfl)(hs2:starEach [b] X.env=[(false,eval b X.env)]:=by rfl):EC X tg (.Call (.Name "range" p) [a,b] [] pos) (Kw fa) :=
 PI.weaken (AC5 hg hm ha hs hs2) λY H R z3_=>by
  obtain⟨O,Z,L,J,L',r,e,k⟩:=z3_;unfold Kw at e;obtain⟨q,e1,e⟩:=bS e;obtain⟨ds,L1⟩:=q;simp only[AT] at e;refine⟨O,Z,L,ds,L1,r,e1,λvs H1 O1 st rs is=>?_⟩;split at e
  .rename_i i j;split at e
   .rename_i hj;cases e
    cases is with
    |cons i1 i2 =>
     cases i1
     cases i2 with
     |cons i3 i4 =>
      cases i3;cases i4;exact⟨i,j,rfl,⟨by omega,by omega,by omega,by omega⟩,k _ _ _ st rs Wq⟩
   .cases e
  .cases e
end
def AF5{names:List (Str×NameKind)}{env:Env}:∀(cs:List (Str×Addr)),(∀y∈names,y.2=.free->∃c,env.cells.lookup y.1=some c) ->
  ∃cl:List (Str×Addr),(forIn names cs (λ(x:Str×NameKind) (r:List (Str×Addr))=>match x with
   |(name,kind)=>if (kind == NameKind.free)=true then do let a <-cellOf env name;pure (ForInStep.yield ((name,a)::r)) else pure (ForInStep.yield r)):Sem (List (Str×Addr)))=pure cl /\
   (∀x,(x,NameKind.free)∈names->cl.lookup x=env.cells.lookup x)/\(∀x c,cl.lookup x=some c->env.cells.lookup x=some c\/cs.lookup x=some c)/\(∀x,(cs.lookup x=env.cells.lookup x)->cl.lookup x=env.cells.lookup x):=by
 induction names with
 |nil=>intro cs _;exact⟨cs,rfl,λx h=>by simp at h,λx c h=>.inr h,λx h=>h⟩
 |cons y r ih =>
  intro cs h;obtain⟨n,kd⟩:=y;rw[AL7]
  by_cases hk:kd=.free
  .subst hk;obtain⟨c,hc⟩:=h (n,.free) Az rfl;obtain⟨cl,e1,e2,e3,e4⟩:=ih ((n,c)::cs) λy hy=>h y (BA _ hy)
   have here:∀x,((n,c)::cs).lookup x=if x == n then some c else cs.lookup x:=λx=>by
    cases hx:x == n <;> simp[Fb,hx]
   refine⟨cl,?_,λx hx=>?_,λx c' hx=>?_,λx hx=>e4 x ?_⟩
   .simp only[cellOf,hc];rw[<-e1];rfl
   .rcases AX.mp hx with z|z
    .injection z with z1 _
     subst z1;refine e4 x ?_;rw[here];simp[hc]
    .exact e2 x z
   .rcases e3 x c' hx with z|z
    .exact .inl z
    .rw[here] at z
     cases hxn:x == n with
     |true =>
      rw[hxn] at z;simp at z;subst z;have:x=n:=by simpa using hxn
      subst this;exact .inl hc
     |false=>rw[hxn] at z;exact .inr z
   .rw[here]
    cases hxn:x == n with
    |true =>
     have:x=n:=by simpa using hxn
     subst this;simp[hc]
    |false=>simpa using hx
  .have hb:(kd == NameKind.free)=false:=by simpa using hk
   obtain⟨cl,e1,e2,e3,e4⟩:=ih cs λy hy=>h y (BA _ hy);refine⟨cl,?_,λx hx=>?_,e3,e4⟩
   .simp only[hb];rw[<-e1];rfl
   .rcases AX.mp hx with z|z
    .injection z with _ z2
     exact absurd z2.symm hk
    .exact e2 x z
def AGk{scope:Scope}{env:Env}(h:∀y∈scope.names,y.2=.free->∃c,env.cells.lookup y.1=some c) :
  ∃cl,closureFor scope env=pure cl/\(∀x,(x,NameKind.free)∈scope.names->cl.lookup x=env.cells.lookup x)/\(∀x c,cl.lookup x=some c->env.cells.lookup x=some c):=by
 obtain⟨cl,e1,e2,e3,_⟩:=AF5 (names:=scope.names) (env:=env) [] h;refine⟨cl,?_,e2,λx c hx=>?_⟩
 .unfold closureFor;simp only[bind_pure]
  first
   |exact e1
   |(rw[e1];rfl)
 .rcases e3 x c hx with z|z
  .exact z
  .simp at z
section
variable {prog:Program}{w:World}{A:Around}{R:Result->Shared->Prop}{s:Shared}
def AGh{elt target iter:Expr}{ifs:ANH}{scope:Scope}{pos:Pos}{it acc:Value}{env:Env}(I:Nat->Shared->Prop)
  (turn:∀n s,I n s->wpAny (model prog w) A (pyNext it) (λr s₁=>match r with
   |none=>R (.ok .next) s₁
   |some v=>wpAny (model prog w) A (letOwnedTupleGo target it v) (λ_ s₁'=>wpAny (model prog w) A (assign target env v) (λ_ s₂ =>
     wpAny (model prog w) A (forIn ifs true λc r=>if r=true then do let ok <-isTrue c env (eval c env);pure (ForInStep.yield ok) else pure (ForInStep.yield r)) (λok s₃ =>
      if ok=true then wpAny (model prog w) A (eval elt env) (λx s₄ =>
       wpAny (model prog w) A (call (.builtin "list.append") [acc,x]) (λ_ s₅=>∃m,m<n/\I m s₅) (λ_ _=>False) s₄) (λ_ _=>False) s₃
      else ∃m,m<n/\I m s₃) (λ_ _=>False) s₂) (λ_ _=>False) s₁') (λ_ _=>False) s₁) (λ_ _=>False) s)
  (n:Nat) (h:I n s) :
  codeAny (model prog w) A (.compLoop (.ListComp elt [⟨target,iter,ifs,0⟩] scope pos) 0 it acc env) R s:=by
 refine codeAny_loop rfl I (λn s hI=>?_) n h
 show wpAny _ A ((compTurn (.ListComp elt [⟨target,iter,ifs,0⟩] scope pos) 0 it acc env).onRaise (λx=>do noteFrame x env;theTreesLotGoes x)) _ _ s
 refine wpAny_noted ?_;rw[compTurn_list];refine AH (wpAny_standAt (AH (Ef (turn n s hI) (λr s₁ h₁=>?_) λ_ _ h'=>h'.elim)))
 cases r with
 |none=>exact AN h₁
 |some v =>
  refine AH (Ef h₁ (λ_ s₁' h₁'=>?_) λ_ _ h'=>h'.elim);refine AH (Ef h₁' (λ_ s₂ h₂=>AH (Ef h₂ (λok s₃ h₃=>?_) λ_ _ h'=>h'.elim)) λ_ _ h'=>h'.elim)
  cases ok with
  |false=>exact AN ⟨rfl,h₃⟩
  |true =>
   exact AH (AH (Ef h₃ (λx s₄ h₄=>AH (Ef h₄ (λ_ s₅ h₅=>AN (AN ⟨rfl,h₅⟩)) λ_ _ h'=>h'.elim)) λ_ _ h'=>h'.elim))
end
abbrev Cj(X:Cx)(N':ANE)(scope:Scope)(cl:List (Str×Addr))(C:Addr)(s:Shared)(H:Hp)(fp:ANG)(pins:List (Addr×Obj)):Cx where
 prog:=X.prog
 w:=X.w
 K:=X.K
 mg:=X.mg
 base:=X.base
 A:=X.A
 N:=N'
 s₀:=s
 H₀:=H
 env:=compEnvC scope cl C X.env
 outer:=X.stack
 stack:=X.stack
 ex:=fp
 fn:=λ_=>false
 calm:=X.calm
 pn:=X.pn++pins
 xe:=λ_ _=>False
abbrev IG(X:Cx)(ifs:ANH)(c:TF):Prop :=
 ∀(pins:List (Addr×Obj)) (s:Shared) (Y:L2.St) (H:Hp) (Q:Bool->Hp->Prop),AI X pins Y H s->NU X.K c Y H Q ->
  wpAny (model X.prog X.w) X.A (forIn ifs true λc r=>if r=true then do let ok <-isTrue c X.env (eval c X.env);pure (ForInStep.yield ok) else pure (ForInStep.yield r)) (TP X pins Y Q) X.xe s
abbrev Co:TF:=λ_ L=>some (true,L)
def AI2{X:Cx}:IG X [] Co:=λpins s Y H Q I z6_=>by
 obtain⟨O,Z,L,b,L',r,e,k⟩:=z6_;cases e;exact wpAny_tests_nil ⟨H,I,k H O (.refl _ _) r.s⟩
def AI1{X:Cx}{c:Expr}{f:TF}(h:Et X c f):IG X [c] f:=λpins s Y H Q I q=>wpAny_tests_one (h pins s Y H Q I q)
abbrev DR(ok:AC->Bool)(g:GF)(c:TF)(elt:EF)(k:Nat):List D->Fm->AC->Option AC
 |[],Z,L=>if ok L=true then some L else none
 |x::xs,Z,L=>if ok L=true then (g x Z).bind λZ1=>(c Z1 L).bind λp=>if p.1=true then (elt Z1 p.2).bind λq=>match q.2[k]? with
    |some (.lst ys)=>if ys.length<16777216 then DR ok g c elt k xs Z1 (q.2.set k (.lst (ys++[q.1]))) else none
    |_=>none
   else DR ok g c elt k xs Z1 p.2
  else none
abbrev Hw(n:Nat)(idx:ANJ)(Z:Fm):Fm:=ALf n none++idx.map λj=>(Z[j]?).join
abbrev Bw(fi:IF)(n:Nat)(idx:ANJ)(g:GF)(c:TF)(elt:EF):EF:=λZ L=>(fi Z L).bind λx =>
 (DR x.1.ok g c elt x.2.length x.1.items (Hw n idx Z) (x.2++[.lst []])).bind λL2=>some (.ref x.2.length,L2)
def RD{env:Env}:∀{names:List (Str×NameKind)} {x:Str} {k:NameKind},
  (names.map λ(n,k)=>if (k == NameKind.free&&env.scope.kind == .function&&env.kindOf n == some .cell) then (n,NameKind.cell) else (n,k)).lookup x=some k ->
  ∃k',(x,k')∈names/\(k=k'\/(k=.cell/\k'=.free))
 |[],_,_,h=>by simp at h
 |(n,k0)::r,x,k,h=>by
  rw[Aj] at h;dsimp only at h;have ih:=@RD env r x k
  by_cases hc:(k0 == NameKind.free&&env.scope.kind == .function&&env.kindOf n == some .cell)=true
  .rw[if_pos hc] at h
   cases hx:x == n with
   |true =>
    simp only[AMi,hx] at h;cases h;have e:x=n:=by simpa using hx
    subst e
    have hk:k0=.free:=by simp only[Bz] at hc;simpa using hc.1.1
    subst hk;exact⟨.free,Az,.inr ⟨rfl,rfl⟩⟩
   |false =>
    simp only[AMi,hx] at h;obtain⟨k',a,b⟩:=ih h;exact⟨k',BA _ a,b⟩
  .rw[if_neg hc] at h
   cases hx:x == n with
   |true =>
    simp only[AMi,hx] at h;cases h;have e:x=n:=by simpa using hx
    subst e;exact⟨_,Az,.inl rfl⟩
   |false =>
    simp only[AMi,hx] at h;obtain⟨k',a,b⟩:=ih h;exact⟨k',BA _ a,b⟩
section
variable {X:Cx}{elt tg iter:Expr}{ifs:ANH}{scope:Scope}{pos pos':Pos}{N':ANE}{n:Nat}{idx:ANJ}{fi:IF}{g:GF}{c:TF}{fe:EF}
structure Le (X:Cx) (scope:Scope) (N':ANE) (n:Nat) (idx:ANJ):Prop where
 kind:scope.kind=.function
 cell:∀y∈scope.names,y.2≠.cell
 names:∀y∈scope.names,y.2=.local->scope.names.lookup y.1=some .local
 free:∀y∈scope.names,y.2=.free->X.env.kindOf y.1=some .cell\/X.env.kindOf y.1=some .free
 len:N'.length=n+idx.length
 idx:∀(j:Nat) (i:Nat),idx[j]?=some i->∃x,N'[n+j]?=some x/\X.N[i]?=some x/\(x,NameKind.free)∈scope.names/\∀k,(x,k)∈scope.names->k=.free
def YK(hc:X.calm=true)(hi:EC X tg iter fi)(S:Le X scope N' n idx)
  (hbody:∀cl C s3 H3 fp pins,HI (Cj X N' scope cl C s3 H3 fp pins) tg g/\IG (Cj X N' scope cl C s3 H3 fp pins) ifs c/\AZ (Cj X N' scope cl C s3 H3 fp pins) elt fe)
  (hs:∀x,foldedSetIterable iter X.env x=pure x)
  {pins:List (Addr×Obj)} {s:Shared} {Y:L2.St} {H:Hp} {use:Option (Value->Sem Unit)} {Q':ANL} (I:AI X pins Y H s) {O:ANG} {Z:Fm} {L L1 L9:AC} {items:List D} {ok:AC->Bool}
  (r:DJ X.K H O Y Z L) (e1:fi Z L=some (⟨items,ok⟩,L1)) (e2:DR ok g c fe L1.length items (Hw n idx Z) (L1++[.lst []])=some L9)
  (fin:∀(C D:Addr) (s':Shared) (H':Hp) (O':ANG) (m:AND),AI X pins Y H' s'->s'.heap.Ns C m->H' C=none->C≠X.env.locals->X.s₀.heap.objs.size<=C->(∀x c,X.env.cells.lookup x=some c->c≠C)->(∀p∈X.pn++pins,p.1≠C) ->
   Al H O H' O'->Ap X.K H' O' L9->O'[L1.length]?=some D->compPost (model X.prog X.w) X.A X.xe use Q' (.ref D) C (.ok .next) s') :
  wpAny (model X.prog X.w) X.A (comprehension (.ListComp elt [⟨tg,iter,ifs,0⟩] scope pos) scope X.env pos' (newList []) false (eval iter X.env) use) Q' X.xe s:=by
 obtain⟨cl,hclos,clget,clsub⟩:=AGk (scope:=scope) (env:=X.env) λy hy hk=>I.ok.has _ (S.free y hy hk);refine wpAny_comprehension_free rfl hs hclos S.kind S.names ?_;refine Ae (hi pins s Y H (λJt H1=>∃O1,Al H O H1 O1/\Ap X.K H1 O1 L1/\Jk X.K H1 O1 Jt ⟨items,ok⟩) I ⟨O,Z,L,_,_,r,e1,λJt H1 O1 st rs it=>⟨O1,st,rs,it⟩⟩) λv s1 h1=>Ae h1 λitv s2 h2=>?_;obtain⟨it,fp,tn,J,H2,rfl,I2,T,st0,f2,O1,stp,rs1,itis⟩:=h2;refine AM6 (wpAny_newFunctionEnv S.cell (by intro y hy;simp at hy) (λh₁ hns₁ hsb₁=>?_) S.kind);dsimp only at hns₁ hsb₁ ⊢
 -- the list
 have I3:AI X pins Y (upd H2 s2.heap.objs.size (.lst [])) {s2 with heap:=s2.heap.push {cls:=.type "list",dict:=none,data:=.seq ([]:ANF).toArray},toks:=s2.toks} :=
  I2.laid (t':=s2.toks) (λb o e=>Heap.get?_push_of_some _ e) (Af _) ⟨by simp,[],0,.nil,Heap.get?_push_size _ rfl⟩
 have hf2:H2 s2.heap.objs.size=none:=I2.hok.fresh (Af _);have rs3:Ap X.K (upd H2 s2.heap.objs.size (.lst [])) (O1++[s2.heap.objs.size]) (L1++[.lst []]):=rs1.new hf2 ⟨[],CI,.nil⟩;have st3:Al H2 O1 (upd H2 s2.heap.objs.size (.lst [])) (O1++[s2.heap.objs.size]):=⟨.new hf2,Ai _ _⟩
 have fpne:∀b∈fp,b≠s2.heap.objs.size:=λb hb z=>by
  obtain⟨o,e,_⟩:=T.obj 0 _ st0 b hb;exact absurd (Heap.lt_size e) (by rw[z];exact ALd _)
 have f3:∀b∈fp,ET X pins (upd H2 s2.heap.objs.size (.lst [])) b:=λb hb=>⟨by rw[BU (fpne b hb)];exact(f2 b hb).1,(f2 b hb).2⟩;generalize hH2:s2.heap.push {cls:=.type "list",dict:=none,data:=.seq ([]:ANF).toArray}=hp3 at hns₁ hsb₁ I3 ⊢;have hD0:O1.length=L1.length:=rs1.len;generalize hDD:s2.heap.objs.size=D at *;generalize hH3:upd H2 D (.lst [])=H3 at *;have hDs:(O1++[D])[L1.length]?=some D:=by rw[<-hD0];simp
 have tn3:tn 0 hp3:=T.keep _ _ _ st0 λb hb o e=>by rw[<-hH2];exact Heap.get?_push_of_some _ e
 -- the block's frame
 generalize hC:hp3.objs.size=C at *;have kept:∀b o,hp3.get? b=some o->h₁.get? b=some o:=λb o e=>hsb₁.extBut b o (by rw[<-hC];exact BV (Heap.lt_size e)) (Heap.get?_push_of_some _ e);have tn4:tn 0 h₁:=T.keep _ _ _ tn3 λb hb o e=>kept b o e
 let s3:Shared:={s2 with heap:=hp3,toks:=s2.toks}
 have Cfresh:∀(b:Addr) (o:Obj),hp3.get? b=some o->b≠C:=λb o e=>by rw[<-hC];exact BV (Heap.lt_size e)
 have CL:C≠X.env.locals:=λz=>by
  have:=I3.lt;rw[<-z,<-hC] at this;exact ALd _ this
 have Ccell:∀x c,X.env.cells.lookup x=some c->c≠C:=λx c e=>by
  obtain⟨v,o,ho,_⟩:=I3.cell x c e;exact Cfresh c o ho
 have Cpin:∀p∈X.pn++pins,p.1≠C:=λp hp=>Cfresh _ _ (I3.pin p hp).1;have C0:X.s₀.heap.objs.size<=C:=by rw[<-hC];exact I3.sz
 have frsub:∀b∈FA X.stack,b=X.env.locals\/b∈X.fs:=λb hb=>AX.mp (I3.stkSub b hb)
 have kindC:∀x k,(relabel scope X.env).names.lookup x=some k->(k=.cell\/k=.free)->(x,NameKind.free)∈scope.names:=λx k e hk=>by
  obtain⟨k',a,b⟩:=RD e;rcases b with rfl|⟨_,rfl⟩
  .rcases hk with rfl|rfl
   .exact absurd rfl (S.cell _ a)
   .exact a
  .exact a
 have okX:(Cj X N' scope cl C s3 H3 fp pins).Ok:=by
  refine⟨I3.ok.mod,S.kind,I3.ok.glob,I3.ok.blt,ALe hC,λx y d h1 h2=>I3.ok.inj x y d (clsub x d h1) (clsub y d h2),λx hx=>?_,λx d h1=>(nomatch h1),I3.ok.hd,I3.ok.frames,.inl rfl,
   λb hb=>⟨λz=>?_,λx d e=>(f3 b hb).2.2.2.2.1 x d (clsub x d e)⟩,I3.bs,CV I3.ok.bsz I3.sz,λb o e hb=>?_,λb hb hz=>?_,I3.stack,I3.stkFree⟩
  .have hx':(relabel scope X.env).names.lookup x=some .cell\/(relabel scope X.env).names.lookup x=some .free:=hx
   have hm:(x,NameKind.free)∈scope.names:=by
    rcases hx' with h|h
    .exact kindC x _ h (.inl rfl)
    .exact kindC x _ h (.inr rfl)
   obtain⟨d,hd⟩:=I3.ok.has x (S.free _ hm rfl);exact⟨d,(clget x hm).trans hd⟩
  .obtain⟨o,e,_⟩:=T.obj 0 _ tn3 b hb;exact Cfresh b o e z
  .rcases(f3 b hb).2.2.2.1 with z|z
   .exact I3.ok.noex b o e z
   .have h1:=DE (Heap.lt_size e) I3.ok.bsz;exact absurd (DE h1 z) (ALd _)
  .rcases frsub b hz with z|z
   .exact(f3 b hb).2.1 z
   .exact(f3 b hb).2.2.1 z
 -- its state
 have I4:AI (Cj X N' scope cl C s3 H3 fp pins) [] (ALf n none++idx.map λj=>(Y[j]?).join) H3 {s3 with heap:=h₁,toks:=s2.toks+([]:List (Str×Value)).length}:=by
  refine⟨okX,rfl,I3.bare,Un.kept kept,⟨_,hns₁,λi x v h1 h2 h3=>?_⟩,λx d e=>?_,?_,λx d e=>I3.freeC x d (clsub x d e),λp hp=>?_,I3.hok.kept kept,?_⟩
  .by_cases hin:i<n
   .rw[Ey (by simpa using hin)] at h2;rw[AMf,if_pos hin] at h2;cases h2
   .rw[ALp (by simpa using hin)] at h2;simp only[AMp] at h2;rw[Ar] at h2
    cases e:idx[i-n]? with
    |none=>rw[e] at h2;cases h2
    |some j =>
     rw[e] at h2;have h2':(Y[j]?).join=some v:=Option.some.inj h2
     have hY:Y[j]?=some (some v):=by
      cases q:Y[j]? with
      |none=>rw[q] at h2';cases h2'
      |some o=>rw[q] at h2';cases o with
       |none=>cases h2'
       |some w=>cases h2';rfl
     obtain⟨y,a1,a2,a3,a4⟩:=S.idx _ _ e
     have hxy:y=x:=by
      have:N'[n+(i-n)]?=some x:=by rw[show n+(i-n)=i from by omega];exact h1
      rw[a1] at this;exact Option.some.inj this
     subst hxy;have hk:=S.free _ a3 rfl;obtain⟨m,hm,hl⟩:=I3.loc
     have hvis:Je X.env.scope y:=by
      rcases hk with z|z
      .exact .inr (.inl z)
      .exact .inr (.inr z)
     obtain⟨u,ru,lk⟩:=hl j y v a2 hY hvis;refine⟨u,ru,.inr ⟨?_,?_⟩⟩
     .rcases h3 with z|z|z
      .obtain⟨k',b1,b2⟩:=RD (show(relabel scope X.env).names.lookup y=some .local from z);rcases b2 with b2|⟨b2,_⟩
       .have:=a4 _ b1;rw[<-b2] at this;cases this
       .cases b2
      .exact .inl z
      .exact .inr z
     .rcases lk with⟨z,_⟩|⟨_,d,hd,⟨o,ho,hdt⟩⟩
      .rcases hk with q|q <;> rw[q] at z <;> cases z
      .exact⟨d,(clget y a3).trans hd,o,kept d o ho,hdt⟩
  .obtain⟨v,o,ho,hdt⟩:=I3.cell x d (clsub x d e);exact⟨v,o,kept d o ho,hdt⟩
  .exact I3.hok.fresh (ALe hC)
  .have hp':p∈X.pn++pins:=by simpa[Cj] using hp
   obtain⟨q1,q2,q3,q4,q5⟩:=I3.pin p hp';refine⟨kept _ _ q1,q2,Cpin p hp',λz=>?_,q5⟩;rcases frsub _ z with y|y
   .exact q3 y
   .exact q4 y
  .show _=N'.length;rw[S.len];simp
 have fp4:∀{H':Hp} {pl:List (Addr×Obj)},pl=[]->(∀b∈fp,H' b=none)->∀b∈fp,ET (Cj X N' scope cl C s3 H3 fp pins) pl H' b:=λ{H' pl} hpl hn b hb=>by
  subst hpl;refine⟨hn b hb,λz=>(okX.exf b hb).1 z,okX.exfs b hb,.inl hb,λx d e=>(okX.exf b hb).2 x d e,λp hp=>?_⟩;have hp':p∈X.pn++pins:=by simpa[Cj] using hp
  exact(f3 b hb).2.2.2.2.2 p hp'
 obtain⟨bg,bq,be⟩:=hbody cl C s3 H3 fp pins
 have fr4:He X.K H3 (O1++[D]) (ALf n none++idx.map λj=>(Y[j]?).join) (Hw n idx Z):=by
  have fY:=(r.f.mono stp).mono st3;refine⟨by simp[Hw],λi d hd=>?_⟩;unfold Hw at hd
  by_cases hin:i<n
  .rw[Ey (by simpa using hin),AMf,if_pos hin] at hd;cases hd
  .rw[ALp (by simpa using hin)] at hd ⊢;simp only[AMp] at hd ⊢;rw[Ar] at hd ⊢
   cases e:idx[i-n]? with
   |none=>rw[e] at hd;cases hd
   |some j =>
    rw[e] at hd;have hd':(Z[j]?).join=some d:=Option.some.inj hd
    have hZ:Z[j]?=some (some d):=by
     cases q:Z[j]? with
     |none=>rw[q] at hd';cases hd'
     |some o=>rw[q] at hd';cases o with
      |none=>cases hd'
      |some w=>cases hd';rfl
    obtain⟨v,hv,iv⟩:=fY.at' j d hZ;exact⟨v,by simp[hv],iv⟩
 have loop:∀s₃:Shared,s₃={s3 with heap:=h₁,toks:=s2.toks+([]:List (Str×Value)).length} ->
   codeAny (model X.prog X.w) X.A (.compLoop (.ListComp elt [⟨tg,iter,ifs,0⟩] scope pos) 0 (.ref it) (.ref D) (compEnvC scope cl C X.env))
    (compPost (model X.prog X.w) X.A X.xe use Q' (.ref D) C) s₃:=by
  rintro s₃ rfl
  refine AGh (λm s'=>∃i Y' H' O' Z' L',m=items.length-i/\i<=items.length/\AI (Cj X N' scope cl C s3 H3 fp pins) [] Y' H' s'/\tn i s'.heap/\(∀b∈fp,H' b=none) /\
   Al H3 (O1++[D]) H' O'/\DJ X.K H' O' Y' Z' L'/\DR ok g c fe L1.length (items.drop i) Z' L'=some L9) ?_ items.length
   ⟨0,_,H3,O1++[D],Hw n idx Z,L1++[.lst []],rfl,EH _,I4,tn4,λb hb=>(f3 b hb).1,.refl _ _,⟨rs3,fr4⟩,by rw[ALr];exact e2⟩
  rintro m s' ⟨i,Y',H',O',Z',L',rfl,hi',I',tn',fr',st',r',el⟩
  by_cases hlt:i<items.length
  .have ed:items.drop i=items[i]::items.drop (i+1):=AMM hlt;rw[ed] at el;simp only[DR] at el;split at el
   .rename_i hok;obtain⟨q1,_⟩:=itis i H' O' L' (st3.trans st') r'.s hok;obtain⟨go,yl⟩:=q1 items[i] (by simp[hlt]);refine Ae (T.item (Cj X N' scope cl C s3 H3 fp pins) rfl rfl rfl hc i [] s' Y' H' (λ_ _=>False) I' (fp4 rfl fr') tn' go) λrr s4 z2_=>?_;obtain⟨u,hr,h4⟩:=z2_;subst hr;refine Ae h4 λ_ s5 z2_=>?_;obtain⟨x,H5,I5,r5,y5,st5,fr5⟩:=z2_;obtain⟨stp5,rs5,is5⟩:=yl x H5 y5;have I5':=I5.pinned (fp4 rfl fr5) (T.obj _ _ st5)
    have back:∀{s7:Shared} {Y7:L2.St} {H7:Hp},AI (Cj X N' scope cl C s3 H3 fp pins) ([]++JA fp s5.heap) Y7 H7 s7->tn (i+1) s7.heap/\(∀b∈fp,H7 b=none):=λ{s7 Y7 H7} I7=>by
     refine⟨T.keep _ _ _ st5 λb hb o e=>(I7.pin (b,o) (Ej _ (Ej _ (JF hb e)))).1,λb hb=>?_⟩;obtain⟨o,e,d⟩:=T.obj _ _ st5 b hb;exact(I7.pin (b,o) (Ej _ (Ej _ (JF hb e)))).2.1
    obtain⟨Z1,eg,el⟩:=bS el;refine Ae (bg _ s5 Y' H5 x u (λY2 Ha=>Ha=H5/\DJ X.K H5 O' Y2 Z1 L') I5' r5 ⟨O',Z',L',_,Z1,r'.to stp5 rs5,is5,eg,λY2 r2=>⟨rfl,r2⟩⟩) λ_ s6 z2_=>?_;obtain⟨Y6,H6,I6,q6a,q6⟩:=z2_;subst q6a;obtain⟨pc,ec,el⟩:=bS el;obtain⟨b1,L5⟩:=pc;simp only[AT] at el;refine Ae (bq _ s6 Y6 H6 (λb Hb=>b=b1/\∃Ob,Al H6 O' Hb Ob/\Ap X.K Hb Ob L5) I6 ⟨O',Z1,L',b1,L5,q6,ec,λHb Ob st rs=>⟨rfl,Ob,st,rs⟩⟩) λokb s7 z2_=>?_;obtain⟨H7,I7,hb7,O7,st7,rs7⟩:=z2_;subst hb7
    cases okb with
    |false =>
     rw[if_neg (by simp)] at el;rw[if_neg (by simp)];obtain⟨b1,b2⟩:=back I7;exact⟨items.length-(i+1),by omega,i+1,Y6,H7,O7,Z1,L5,rfl,hlt,I7.unpinned,b1,b2,(st'.trans stp5).trans st7,q6.to st7 rs7,el⟩
    |true =>
     rw[if_pos rfl] at el;rw[if_pos rfl];obtain⟨pe,ee,el⟩:=bS el;obtain⟨de,L6⟩:=pe;simp only[AT] at el;refine Ae (be _ s7 Y6 H7 (λv Hb=>∃Ob,Al H7 O7 Hb Ob/\Ap X.K Hb Ob L6/\Is X.K Hb Ob v de) I7 ⟨O7,Z1,L5,de,L6,q6.to st7 rs7,ee,λv Hb Ob st rs is=>⟨Ob,st,rs,is⟩⟩) λue s8 z2_=>?_;obtain⟨ve,H8,I8,r8,O8,st8,rs8,is8⟩:=z2_
     cases ek:L6[L1.length]? with
     |none=>rw[ek] at el;cases el
     |some oo =>
      rw[ek] at el
      cases oo with
      |dk _=>cases el
      |ins _ _=>cases el
      |dt _ _=>cases el
      |exn _=>cases el
      |lst ys =>
       simp only at el;split at el
       .rename_i hys;have stA:Al H3 (O1++[D]) H8 O8:=((st'.trans stp5).trans st7).trans st8;have hD8:O8[L1.length]?=some D:=CW stA.2 hDs;obtain⟨vs,hv,il⟩:=rs8.ob _ _ _ hD8 ek
        refine Ae (WM (X:=Cj X N' scope cl C s3 H3 fp pins) _ s8 Y6 H8 (.ref D) [ve] (.ref D) [ue] (λv Hb=>Hb=upd H8 D (.lst (vs++[ve]))) I8 rfl (.cons r8 .nil) ⟨D,vs,ve,rfl,rfl,hv,by rw[il.length,sizeLine_eq];exact hys,rfl⟩)
         λ_ s9 ⟨_,H9,I9,_,q9⟩=>?_
        subst q9;have stw:Al H8 O8 (upd H8 D (.lst (vs++[ve]))) O8:=⟨.write hv id,AW _⟩;obtain⟨b1,b2⟩:=back I9;refine⟨items.length-(i+1),by omega,i+1,Y6,_,O8,Z1,_,rfl,hlt,I9.unpinned,b1,b2,stA.trans stw,⟨rs8.write (o':=.lst (ys++[de])) hD8 ⟨_,CI,(il.mono stw).append (.cons (is8.mono stw) .nil)⟩,((q6.f.mono st7).mono st8).mono stw⟩,el⟩
       .cases el
   .cases el
  .have hi2:i=items.length:=by omega
   subst hi2;rw[AMN] at el;simp only[DR] at el;split at el
   .rename_i hok;cases el;obtain⟨_,q2⟩:=itis _ H' O' _ (st3.trans st') r'.s hok;refine Ae (T.done (Cj X N' scope cl C s3 H3 fp pins) rfl rfl rfl hc _ [] s' Y' H' (λ_ _=>False) I' (fp4 rfl fr') tn' (q2 (Af _))) λrr s4 z2_=>?_;obtain⟨hr,I4'⟩:=z2_;subst hr;obtain⟨m,hm,_⟩:=I4'.loc;have hos:s4.os=s3.os:=I4'.os;have J:AI X pins Y H' s4:=I3.call' (s':=s4) (ch:=fp) hos I4'.base I4'.hok I4'.bare λb hb=>⟨(f3 b hb).2.2.2.1,(f3 b hb).2.1,(f3 b hb).2.2.2.2.1,(f3 b hb).2.2.2.2.2⟩;exact fin C D s4 H' O' m J hm I4'.free CL C0 Ccell Cpin ((stp.trans st3).trans st') r'.s (CW st'.2 hDs)
   .cases el
 exact codeAny_compStart_list (loop _ rfl) (T.self X.A 0 _ _ _ tn4 (loop _ rfl))
def AGR(hc:X.calm=true)(hi:EC X tg iter fi)(S:Le X scope N' n idx)
  (hbody:∀cl C s3 H3 fp pins,HI (Cj X N' scope cl C s3 H3 fp pins) tg g/\IG (Cj X N' scope cl C s3 H3 fp pins) ifs c/\AZ (Cj X N' scope cl C s3 H3 fp pins) elt fe)
  (hs:∀x,foldedSetIterable iter X.env x=pure x:=by intro _;rfl):AZ X (.ListComp elt [⟨tg,iter,ifs,0⟩] scope pos) (Bw fi n idx g c fe):=by
 rintro pins s Y H Q I ⟨O,Z,L,d,L',r,e,k⟩;unfold Bw at e;obtain⟨p,e1,e⟩:=bS e;obtain⟨⟨items,ok⟩,L1⟩:=p;simp only[AT] at e;obtain⟨L9,e2,e⟩:=bS e;cases e;rw[eval_ListComp];refine YK hc hi S hbody hs I r e1 e2 λC D s' H' O' m J hn hfree hL h0 hcell hpin st rs hD=>?_;refine⟨m,hn,λh' sb=>?_⟩;exact⟨.ref D,H',J.turned (t':=s'.toks) (λb o hb e=>(sb.2 b hb).trans e) hfree hL (.inr h0) hcell hpin,rfl,k _ _ _ st rs (.ref hD)⟩
def ABk{i:Nat}{x:Str}{px:Pos}(hN:X.N.Nodup)(hc:X.calm=true)(hi:EC X tg iter fi)(S:Le X scope N' n idx)
  (hbody:∀cl C s3 H3 fp pins,HI (Cj X N' scope cl C s3 H3 fp pins) tg g/\IG (Cj X N' scope cl C s3 H3 fp pins) ifs c/\AZ (Cj X N' scope cl C s3 H3 fp pins) elt fe)
  (hi2:X.N[i]?=some x:=by rfl) (hx:HJ X.env.scope x:=by first|exact Or.inl rfl|exact Or.inr rfl)
  (hsw:swapsWith (.ListComp elt [⟨tg,iter,ifs,0⟩] scope pos) (some (.Name x px)) pos'.line X.env=pure true:=by rfl)
  (hf:X.fn x=true\/X.env.scope.names.lookup x=some .local:=by first|exact .inl rfl|exact .inr rfl)
  (hs:∀x,foldedSetIterable iter X.env x=pure x:=by intro _;rfl):Dq X (.Assign [.Name x px] (.ListComp elt [⟨tg,iter,ifs,0⟩] scope pos) pos') (AO i (Bw fi n idx g c fe)):=by
 rintro pins s Y H E I ⟨O,Z,L,out,r,e,k⟩;unfold AO Bw at e
 cases e1:fi Z L with
 |none=>rw[e1] at e;cases e
 |some p =>
  rw[e1] at e;obtain⟨⟨items,ok⟩,L1⟩:=p;simp only[AT] at e
  cases e2:DR ok g c fe L1.length items (Hw n idx Z) (L1++[.lst []]) with
  |none=>rw[e2] at e;cases e
  |some L9 =>
   rw[e2] at e;cases e;rw[exec_Assign_Name_used _ _ _ _ hsw];refine AH (wpAny_standAt (AH ?_))
   show wpAny _ X.A (do let _ <-comprehension (.ListComp elt [⟨tg,iter,ifs,0⟩] scope pos) scope X.env _ (newList []) false (eval iter X.env) (some (assign (.Name x px) X.env))) _ _ s
   refine AH (Ef (YK (use:=some (assign (.Name x px) X.env)) (Q':=λ_ s'=>SP X pins E .next s') hc hi S hbody hs I r e1 e2
    λC D s' H' O' m J hn hfree hL h0 hcell hpin st rs hD=>?_) (λ_ s' hq=>AN (AN hq)) λ_ _ e=>e)
   show wpAny _ X.A (assign (.Name x px) X.env (.ref D)) _ _ _;refine wpAny_assign_Name (VG (v:=.ref D) J hN hi2 hx rfl (λs2 J2 z2_=>?_) hf);obtain⟨a,sb,ha⟩:=z2_
   have aC:C≠a:=by
    rcases ha with z|z
    .rw[z];exact hL
    .exact(hcell x a z).symm
   refine⟨m,hn.sameBut sb aC,λh' sb'=>?_⟩;exact⟨_,H',J2.turned (t':=s2.toks) (λb o hb e=>(sb'.2 b hb).trans e) hfree hL (.inr h0) hcell hpin,k _ _ _ st ⟨rs,(r.f.mono st).set (.ref hD) i⟩⟩
end
section
variable {X:Cx}{pins:List (Addr×Obj)}{Y:L2.St}{H:Hp}{s:Shared}{h':Heap}
def Mu{t':Nat}{fp:ANG}{T:Addr}{o:HO}(I:AI X pins Y H s)(hf:∀b∈fp,ET X pins H b)(k:∀b o,b∉fp->s.heap.get? b=some o->h'.get? b=some o)(hT:s.heap.objs.size<=T)(nT:T∉fp)
  (there:∀b∈fp,∃o,h'.get? b=some o) (new:CB X.prog X.w (upd H T o) h' T o):AI X pins Y (upd H T o) {s with heap:=h',toks:=t'}:=by
 have fT:H T=none:=I.hok.fresh hT;have nit:∀b u,H b=some u->b∉fp:=λb u e z=>by rw[(hf b z).1] at e;cases e
 have old:∀b o,s.heap.get? b=some o->b≠T:=λb o e=>BV (DE (Heap.lt_size e) hT)
 refine I.step (g':=s.gens) (d':=s.drawn) (ch:=fp) (λb hb=>⟨(hf b hb).2.2.2.1,(hf b hb).2.1,(hf b hb).2.2.2.2.1,(hf b hb).2.2.2.2.2⟩) (λb o _ _ hc e _=>k b o hc e) (λb o _ _ hc e _=>⟨o.slots,k b o hc e⟩)
  (λb o _ e n=>by rw[BU (old b o e)];exact n) (λb o hc e=>⟨o,k b o hc e⟩) (λb xs e=>by rw[BU (DT e fT)];exact e) (λb o u e=>by rw[BU (DT e fT)];exact e)
  (λb ps e=>⟨#[],by rw[BU (DT e fT),e];simp⟩) (λm hm=>?_) (λb u e=>?_) I.bare
 .obtain⟨o,es,ep,ho,r⟩:=hm;exact⟨o,es,ep,k _ o (λz=>(hf _ z).2.1 rfl) ho,r⟩
 .by_cases hb:b=T
  .subst hb;rw[CI] at e;cases e;exact new
  .rw[BU hb] at e;refine(I.hok b u e).stay (λc v hc q=>k c v ?_ q) (λc q=>by rw[BU (DT q fT)];exact q) λc xs q=>by rw[BU (DT q fT)];exact q
   rcases hc with z|z
   .rw[z];exact nit b u e
   .exact nit c _ z
end
abbrev Yw(x:Str):It:=⟨λi _=>i<x.cps.size,λi H v H'=>H'=H/\∃c,x.cps[i]?=some c/\v=.str ⟨#[c]⟩,λi _=>x.cps.size<=i⟩
def Ud{P:Program}{w:World}{K:AL}{tg:Expr}(x:Str)(t:Tok)(it:Addr)(ty:String)(hty:["enumerate","zip","dict_itemiterator","dict_reverseitemiterator","odict_iterator","itertools.zip_longest","itertools.pairwise"].contains ty=false)
  (W:∀A':Around,A'.handled=none->Walks P w A' it [it] [it] x.cps.size (SignAt x) (λi h=>h.IsStrIter it ty x t i))
  (hself:∀(A:Around) (i:Nat) (s:Shared) (Q:ANL) (E:ANL),s.heap.IsStrIter it ty x t i->Q (.ref it) s->wpAny (model P w) A (pyIter (.ref it)) Q E s) :
  HE P w K tg (Yw x) [it] it (λi h=>h.IsStrIter it ty x t i/\i<=x.cps.size) where
 mem:=by simp
 obj:=λi h st b hb=>by
  have e:b=it:=by simpa using hb
  subst e;obtain⟨⟨o,e,c,d⟩,_⟩:=st;exact⟨o,e,λv z=>by rw[d] at z;cases z⟩
 keep:=λi h h' st k=>⟨let ⟨o,ho,r⟩:=st.1;⟨o,k it (by simp) o ho,r⟩,st.2⟩
 item:=by intro X hP hw hK hc i pins s Y H E I hf st hg;subst hP hw hK;obtain⟨f0,f1,f2,f3,f4,f5⟩:=hf it (by simp);refine(W X.A (I.ok.hd hc)).item i s _ _ hg st.1 λv h' tk hv st' kk=>?_;obtain⟨c,u,hc',rfl⟩:=hv;have I1:AI X pins Y H {s with heap:=h',toks:=tk}:=I.turned (λb o hb e=>kk b o (by simpa using hb) e) f0 f1 f3 f4 f5;obtain⟨o,e,cc,d⟩:=id st';exact⟨_,rfl,Nc (s:={s with heap:=h',toks:=tk}) e cc d hty ⟨.str ⟨#[c]⟩,H,I1,⟨u,rfl⟩,⟨rfl,c,hc',rfl⟩,⟨st',hg⟩,λb hb=>(hf b hb).1⟩⟩
 done:=by intro X hP hw hK hc i pins s Y H E I hf st hg;subst hP hw hK;obtain⟨f0,f1,f2,f3,f4,f5⟩:=hf it (by simp);have hi:i=x.cps.size:=Nat.le_antisymm st.2 hg;have st1:=st.1;rw[hi] at st1;exact(W X.A (I.ok.hd hc)).done s _ _ st1 λh' tk kk=>⟨rfl,I.turned (λb o hb e=>kk b o (by simpa using hb) e) f0 f1 f3 f4 f5⟩
 self:=λA i s Q E st h=>hself A i s Q E st.1 h
section
variable {X:Cx}{tg l:Expr}{f:EF}
abbrev AFU(tl:TE):TI:=λY H R=>tl Y H λv H1=>∃x,v=.str x/\R (Yw x) H1
def AC4{tl:TE}(hl:PE X l tl):PI X tg l (AFU tl):=by
 intro pins s Y H R I h;refine Ae (hl pins s Y H _ I h) λv s1 z2_=>?_;obtain⟨y,H1,I1,r1,x,e,q⟩:=z2_;subst e;obtain⟨t,rfl⟩:=r1
 have hb:∀(o:Obj) (b:Addr),b∈[s1.heap.objs.size]->ET X pins H1 b:=λo b hb=>by
  have e:b=s1.heap.objs.size:=by simpa using hb
  subst e;exact I1.fpOk (Af _) (I1.hok.fresh (Af _))
 cases ha:x.cps.all (·<128)
 .refine wpAny_pyIter_wide ha ⟨s1.heap.objs.size,[s1.heap.objs.size],_,_,H1,rfl,I1.kept (t':=s1.toks) λb o e=>Heap.get?_push_of_some _ e,Ud x t _ "str_iterator" (by decide) (λA' hA=>Walks.strWide hA _ x t) (λ_ _ _ _ _ st h=>wpAny_pyIter_striter_wide st h),
   ⟨⟨_,Heap.get?_push_size _ rfl,rfl,rfl⟩,EH _⟩,hb default,q⟩
 .refine wpAny_pyIter_ascii ha ⟨s1.heap.objs.size,[s1.heap.objs.size],_,_,H1,rfl,I1.kept (t':=s1.toks) λb o e=>Heap.get?_push_of_some _ e,Ud x t _ "str_ascii_iterator" (by decide) (λA' hA=>Walks.strAscii hA _ x t) (λ_ _ _ _ _ st h=>wpAny_pyIter_striter_ascii st h),
   ⟨⟨_,Heap.get?_push_size _ rfl,rfl,rfl⟩,EH _⟩,hb default,q⟩
abbrev sgs(x:Str):List D:=x.cps.toList.map λc=>.str ⟨#[c]⟩
abbrev Rt(f:EF):IF:=λZ L=>(f Z L).bind λx=>match x.1 with|.str y=>some (⟨sgs y,λ_=>true⟩,x.2)|_=>none
def ACy(hl:AZ X l f):EC X tg l (Rt f):=PI.weaken (AC4 hl) λY H R z3_=>by
 obtain⟨O,Z,L,J,L',r,e,k⟩:=z3_;unfold Rt at e;obtain⟨p,e1,e⟩:=bS e;obtain⟨d,L1⟩:=p
 cases d <;> simp only[AT] at e <;> try (cases e;done)
 rename_i y;cases e;refine⟨O,Z,L,_,_,r,e1,λv H1 O1 st rs is=>?_⟩;cases is;refine⟨y,rfl,k _ _ _ st rs λi H2 O2 L2 st2 rs2 _=>⟨λd hd=>?_,λh=>by show y.cps.size<=i;simpa[sgs] using h⟩⟩;simp only[sgs,Ar] at hd
 cases ec:y.cps[i]? with
 |none=>simp[ec] at hd
 |some c =>
  simp[ec] at hd;subst hd;refine⟨(AMt.mp ec).1,λx H' y'=>?_⟩;obtain⟨e,c',h1,rfl⟩:=y';subst e;rw[ec] at h1;cases h1;exact⟨.refl _ _,rs2,.str _ (by simp[Str.length])⟩
end
abbrev Yy(x:Str):It:=⟨λi _=>i<x.cps.size,λi H v H'=>∃T c,H T=none/\x.cps[i]?=some c/\v=.ref T/\H'=upd H T (.tup [.int (i:Int),.str ⟨#[c]⟩]),λi _=>x.cps.size<=i⟩
def Xx{P:Program}{w:World}{A:Around}(hh:A.handled=none)(it:Addr)(x:Str)(t:Tok) :
  Draws P w A it [it] x.cps.size (λi v=>∃c u,x.cps[i]?=some c/\v=.str ⟨#[c]⟩ u) (λi h=>h.IsStrIter it (strIterType x) x t i):=by
 unfold strIterType;cases ha:x.cps.all (·<128)
 .exact Draws.strWide hh it x t
 .exact Draws.strAscii hh it x t
def AAn{P:Program}{w:World}{K:AL}{elts:ANH}{x1:Nat}{tp:Pos}(x:Str)(t:Tok)(e it:Addr)(hei:e≠it) :
  HE P w K (.Tuple elts x1 tp) (Yy x) [e,it] e (λi h=>(∃old,IsEnum h e it (i:Int) old)/\h.IsStrIter it (strIterType x) x t i/\i<=x.cps.size) where
 mem:=by simp
 obj:=λi h st b hb=>by
  obtain⟨⟨old,he⟩,⟨o,e1,c,d⟩,_⟩:=st;rcases AX.mp hb with rfl|hb
  .exact⟨_,he,λv z=>by cases z⟩
  .have e':b=it:=by simpa using hb
   subst e';exact⟨o,e1,λv z=>by rw[d] at z;cases z⟩
 keep:=λi h h' st k=>by
  obtain⟨⟨old,he⟩,⟨o,e1,r⟩,hi⟩:=st;exact⟨⟨old,k e (by simp) _ he⟩,⟨o,k it (by simp) o e1,r⟩,hi⟩
 item:=by
  intro X hP hw hK hc i pins s Y H E I hf st hg;subst hP hw hK;obtain⟨⟨old,he⟩,hs,hi⟩:=st;have hh:X.A.in1.handled=none:=I.ok.hd hc;refine wpAny_pyNext_enum_itemD (Xx hh it x t) he hs hg hei (by simpa using hei) λv h' tk hv heo hs' ht hz kk=>⟨_,rfl,?_⟩;obtain⟨c,u,hc',rfl⟩:=hv;refine wpAny_letOwnedTupleGo_enum heo λh2 he2 sb2=>?_;have hel:e<s.heap.objs.size:=Heap.lt_size he;have hil:it<s.heap.objs.size:=by obtain⟨o,e1,_⟩:=hs;exact Heap.lt_size e1
  have hs2:h2.IsStrIter it (strIterType x) x t (i+1):=by obtain⟨o,e1,r⟩:=hs';exact⟨o,(sb2.2 it (Ne.symm hei)).trans e1,r⟩
  have ht2:h2.get? s.heap.objs.size=some {cls:=.type "tuple",data:=.seq #[.int i tk,.str ⟨#[c]⟩ u]}:=(sb2.2 _ (Fa hel)).trans ht
  have new:CB X.prog X.w (upd H s.heap.objs.size (.tup [.int (i:Int),.str ⟨#[c]⟩])) h2 s.heap.objs.size (.tup [.int (i:Int),.str ⟨#[c]⟩]) :=
   ⟨by rw[sizeLine_eq];show 2<=16777216;decide,[.int i tk,.str ⟨#[c]⟩ u],.cons ⟨_,rfl⟩ (.cons ⟨_,rfl⟩ .nil),⟨_,ht2,rfl,_,rfl⟩⟩
  have I1:=Mu (t':=tk+1) (h':=h2) I hf (λb o hb q=>by
    have hbe:b≠e:=λz=>hb (by simp[z]);have hbi:b≠it:=λz=>hb (by simp[z])
    exact(sb2.2 b hbe).trans (kk b o hbe hbi q)) (Af _) (λz=>by
    rcases AX.mp z with z|z
    .exact absurd z (Fa hel)
    .exact absurd (Dt.mp z) (Fa hil)) (λb hb=>by
    rcases AX.mp hb with rfl|hb
    .exact⟨_,he2⟩
    .have e':b=it:=by simpa using hb
     subst e';obtain⟨o,e1,_⟩:=hs2
     exact⟨o,e1⟩) new
  refine⟨.ref s.heap.objs.size,_,I1,rfl,⟨s.heap.objs.size,c,I.hok.fresh (Af _),hc',rfl,rfl⟩,⟨⟨.str ⟨#[c]⟩ u,?_⟩,hs2,hg⟩,λb hb=>?_⟩
  .have:((i+1:Nat):Int)=(i:Int)+1:=by omega
   rw[this];exact he2
  .rw[BU]
   .exact(hf b hb).1
   .rcases AX.mp hb with z|z
    .rw[z];exact BV hel
    .rw[Dt.mp z];exact BV hil
 done:=by intro X hP hw hK hc i pins s Y H E I hf st hg;subst hP hw hK;obtain⟨⟨old,he⟩,hs,hi⟩:=st;have hh:X.A.in1.handled=none:=I.ok.hd hc;obtain⟨f0,f1,f2,f3,f4,f5⟩:=hf it (by simp);have hi:i=x.cps.size:=Nat.le_antisymm hi hg;rw[hi] at hs;exact wpAny_pyNext_enum_endD (Xx hh it x t) he hs λh' eb=>⟨rfl,I.turned (t':=s.toks) (λb o hb q=>eb b o hb q) f0 f1 f3 f4 f5⟩
 self:=λA i s Q E st h=>by
  obtain⟨⟨old,he⟩,_⟩:=st;exact wpAny_pyIter_enum he h
abbrev FD(xs:List D):List D:=xs.zipIdx.map λp=>.tup [.int (p.2:Int),p.1]
abbrev Ky(f:AF):IF:=λZ L=>(f Z L).bind λx=>match x.1 with|[.str y]=>some (⟨FD (sgs y),λ_=>true⟩,x.2)|_=>none
def Xt(y:Str)(i:Nat):(FD (sgs y))[i]?=(y.cps[i]?).map λc=>.tup [.int (i:Int),.str ⟨#[c]⟩]:=by unfold FD sgs;rw[Ar,List.getElem?_zipIdx,Ar,Array.getElem?_toList];cases y.cps[i]? <;> simp
def AGM(y:Str):(FD (sgs y)).length=y.cps.size:=by simp[FD,sgs]
section
variable {X:Cx}{elts:ANH}{x1:Nat}{tp p pos:Pos}{a:Expr}{fa:AF}
def AI9(hm:X.mg "enumerate"=none)(ha:ES X [a] fa)(hg:Gl X "enumerate":=by rfl)(hs:starEach [a] X.env=[(false,eval a X.env)]:=by rfl):EC X (.Tuple elts x1 tp) (.Call (.Name "enumerate" p) [a] [] pos) (Ky fa):=by
 rintro pins s Y H R I ⟨O,Z,L,J,L',r,e,k⟩;unfold Ky at e;obtain⟨q,e1,e⟩:=bS e;obtain⟨ds,L1⟩:=q;simp only[AT] at e;split at e
 .rename_i y;simp only[Option.some.injEq,Prod.mk.injEq] at e;obtain⟨hJ,hL⟩:=e;subst hJ;subst hL;refine Call_ (Gx I hg hm (u:=.type "enumerate") (by decide +kernel) (PyProof.Rows.callWith_type1 (Ae (ha pos pins s Y H (λvs H1=>vs=[.str y]/\∃O1,Al H O H1 O1/\Ap X.K H1 O1 L1) I ⟨O,Z,L,_,_,r,e1,λvs H1 O1 st rs is=>?_⟩) λus s1 ⟨vs,H1,I1,r1,ev,O1,st,rs⟩=>?_) hs rfl))
  .cases is with
   |cons i1 i2=>cases i1;cases i2;exact⟨rfl,O1,st,rs⟩
  .subst ev;obtain⟨u,rfl,t,rfl⟩:=Dk r1;refine call_enumerate_str λh' he hs' hz kk=>?_;refine wpAny_pyIter_enum he ?_;have I2:AI X pins Y H1 {s1 with heap:=h'}:=I1.kept (t':=s1.toks) kk;refine⟨s1.heap.objs.size+1,[s1.heap.objs.size+1,s1.heap.objs.size],_,_,H1,rfl,I2,AAn y t _ _ (Nat.succ_ne_self _),⟨⟨_,he⟩,hs',EH _⟩,λb hb=>?_,k (Yy y) H1 O1 st rs λi H2 O2 L2 st2 rs2 _=>?_⟩
   .rcases AX.mp hb with rfl|hb
    .exact I1.fpOk (ALz _) (I1.hok.fresh (ALz _))
    .have e':b=s1.heap.objs.size:=by simpa using hb
     subst e';exact I1.fpOk (Af _) (I1.hok.fresh (Af _))
   .refine⟨λd hd=>?_,λh=>by rw[AGM] at h;exact h⟩;simp only at hd;rw[Xt] at hd
    cases ec:y.cps[i]? with
    |none=>simp[ec] at hd
    |some c =>
     simp[ec] at hd;subst hd;refine⟨(AMt.mp ec).1,λx H' yy=>?_⟩;obtain⟨T,c',hT,h1,rfl,rfl⟩:=yy;rw[ec] at h1;cases h1;have st3:Al H2 O2 (upd H2 T (.tup [.int (i:Int),.str ⟨#[c]⟩])) O2:=⟨.new hT,AW _⟩;exact⟨st3,rs2.ext λa u e=>by rw[BU (DT e hT)];exact e,.tup (Bd.of CI) (.cons (.int _) (.cons (.str _ (by simp[Str.length])) .nil))⟩
 .cases e
end
mutual
def D.noRef:D->Bool
 |.tup xs=>D.noRefL xs
 |.fz xs=>D.noRefL xs
 |.ref _=>false
 |_=>true
def D.noRefL:List D->Bool
 |[]=>true
 |x::xs=>D.noRef x&&D.noRefL xs
end
section
variable {K:AL}{H H' H0:Hp}{O O':ANG}
def WJ{v:V}{d:D}{vs:List V}{ds:List D}(a:d.noRef=true->Is K H O' v d)(b:D.noRefL ds=true->AR K H O' vs ds)(e:D.noRefL (d::ds)=true):AR K H O' (v::vs) (d::ds):=by have e:(D.noRef d&&D.noRefL ds)=true:=e;rw[Bz] at e;exact .cons (a e.1) (b e.2)
def Is.nr{v:V}{d:D}(h:Is K H O v d):d.noRef=true->Is K H O' v d :=
 Is.rec (motive_1:=λv d _=>d.noRef=true->Is K H O' v d) (motive_2:=λv d _=>D.noRefL d=true->AR K H O' v d) (λ_=>.non) (λb _=>.bl b) (λb _=>.int b) (λb h _=>.str b h) (λh _ r e=>.tup h (r e)) (λh _ r e=>.fz h (r e)) (λ_ e=>GC (show false=true from e)) (λn _=>.ty n) (λ_=>.nil) (λ_ _ a b=>WJ a b) h
def AR.nr{v:List V}{d:List D}(h:AR K H O v d):D.noRefL d=true->AR K H O' v d :=
 AR.rec (motive_1:=λv d _=>d.noRef=true->Is K H O' v d) (motive_2:=λv d _=>D.noRefL d=true->AR K H O' v d) (λ_=>.non) (λb _=>.bl b) (λb _=>.int b) (λb h _=>.str b h) (λh _ r e=>.tup h (r e)) (λh _ r e=>.fz h (r e)) (λ_ e=>GC (show false=true from e)) (λn _=>.ty n) (λ_=>.nil) (λ_ _ a b=>WJ a b) h
def AG4(p:O <+: O'){k:Nat}{a:Addr}(q:O[k]?=some a){v:V}(h:Is K H' O' v (.ref k)):Is K H' O v (.ref k):=by
 cases h with
 |ref q' =>
  have:=CW p q;rw[q'] at this;cases this;exact .ref q
def AG3{ds:List D}(r:∀{v:List V},AR K H' O' v ds->AR K H' O v ds){v:V}(h:Is K H' O' v (.tup ds)):Is K H' O v (.tup ds):=by cases h with|tup q r'=>exact .tup q (r r')
def AG5{ds:List D}(r:∀{v:List V},AR K H' O' v ds->AR K H' O v ds){v:V}(h:Is K H' O' v (.fz ds)):Is K H' O v (.fz ds):=by cases h with|fz q r'=>exact .fz q (r r')
def AG6{d:D}{ds:List D}(a:∀{v:V},Is K H' O' v d->Is K H' O v d)(r:∀{v:List V},AR K H' O' v ds->AR K H' O v ds){v:List V}(h:AR K H' O' v (d::ds)):AR K H' O v (d::ds):=by cases h with|cons a' b'=>exact .cons (a a') (r b')
def AR.back(p:O <+: O'){v0:List V}{d:List D}(i:AR K H0 O v0 d):∀{v:List V},AR K H' O' v d->AR K H' O v d :=
 AR.rec (motive_1:=λ_ d _=>∀{v:V},Is K H' O' v d->Is K H' O v d) (motive_2:=λ_ d _=>∀{v:List V},AR K H' O' v d->AR K H' O v d) (λh=>h.nr rfl) (λ_ _ h=>h.nr rfl) (λ_ _ h=>h.nr rfl) (λ_ _ _ h=>h.nr rfl) (λ_ _ r _ h=>AG3 r h) (λ_ _ r _ h=>AG5 r h) (λq _ h=>AG4 p q h) (λ_ _ h=>h.nr rfl) (λh=>h.nr rfl) (λ_ _ a b _ h=>AG6 a b h) i
def RU{U:Type}{f:U->D}(h:∀a,(f a).noRef=true):∀xs:List U,D.noRefL (xs.map f)=true
 |[]=>rfl
 |x::r=>by rw[Aj,D.noRefL,h x,RU h r];rfl
def keyD_noRef(k:Key):(keyD k).noRef=true:=by cases k <;> rfl
def AFL(k:Key ⊕ List Key):(IS k).noRef=true:=by
 cases k with
 |inl k=>exact keyD_noRef k
 |inr ks=>exact RU keyD_noRef ks
def AEJ(k:NK):(Dm k).noRef=true:=RU AFL k
def Ap.back{L M:AC}(r0:Ap K H O L)(st:Al H O H' O')(r1:Ap K H' O' (L++M)):Ap K H' O L:=by
 refine⟨r0.len,r0.nd,λk a o e1 e2=>?_⟩;have q0:=r0.ob k a o e1 e2;have q1:=r1.ob k a o (CW st.2 e1) (by rw[Ey (Ax.mp e2).1];exact e2)
 cases o with
 |lst ds =>
  obtain⟨vs0,_,i0⟩:=q0;obtain⟨vs,hv,i1⟩:=q1;exact⟨vs,hv,AR.back st.2 i0 i1⟩
 |dk kvs =>
  obtain⟨us0,_,_,i0⟩:=q0;obtain⟨us,hv,hk,i1⟩:=q1;exact⟨us,hv,hk,AR.back st.2 i0 i1⟩
 |dt kvs ep =>
  obtain⟨us0,_,_,i0,_⟩:=q0;obtain⟨us,hv,hk,i1,i2⟩:=q1;exact⟨us,hv,hk,AR.back st.2 i0 i1,λu hu=>(i2 u hu).nr (AEJ _)⟩
 |ins c fs =>
  obtain⟨_,_,us0,_,_,_,i0⟩:=q0;obtain⟨C,dx,us,z,hv,hk,i1⟩:=q1;exact⟨C,dx,us,z,hv,hk,AR.back st.2 i0 i1⟩
 |exn c=>exact q1
end
abbrev Fe(N:ANE)(ds:List D):Fm:=ds.map some++ALf (N.length-ds.length) none
abbrev Gv(K:AL)(G:GL):Sp:=λvs H Q _=>rC K G vs H Q
abbrev Yo(B:SF)(N:ANE)(xs:List D)(L:AC)(d:D)(L':AC):Prop :=
 ∃L'',(B (Fe N xs) L=some (.ret d L'')\/(d=.non/\∃Z',B (Fe N xs) L=some (.next Z' L'')))/\(L''=L'\/(L'=L/\L <+: L''/\d.noRef=true))
structure Ao (P:Program) (w:World) (K:AL) (mg:AND) (base:Heap) (k:Nat) (x:Str) (G:GL):Prop where
 ex:∃f fd ps,DK P w K mg base CX0 k f fd ps (Gv K G)/\mg x=some (.ref f)/\GA K (.ref f)=true/\EV K fd ps []
section
variable {P:Program}{w:World}{K:AL}{mg:AND}{base:Heap}
def Xd{H:Hp}{O:ANG}{N:ANE}{vs:List V}{ds:List D}(h:AR K H O vs ds):He K H O (L2.GH N vs) (Fe N ds):=by
 refine⟨by simp[L2.GH,Fe,h.length],λi d e=>?_⟩;unfold Fe at e;unfold L2.GH
 by_cases hi:i<ds.length
 .rw[Ey (by simpa using hi),Ar] at e;rw[Ey (by simpa[h.length] using hi),Ar]
  cases q:ds[i]? with
  |none=>rw[q] at e;cases e
  |some d' =>
   rw[q] at e;cases e;obtain⟨v,hv,iv⟩:=h.get q;exact⟨v,by simp[hv],iv⟩
 .rw[ALp (by simpa using hi),AMf] at e;split at e <;> cases e
def SK{x qual:Str}{st:Stmt}{f:Addr}{fd:FuncData}{N ps:ANE}{k:Nat}(F:Hd K x qual st f fd)(S:Aw N ps (Ag st))(G:GL)(B:SF)(hlen:∀xs L r,G xs L=some r->xs.length=ps.length)
  (hb:∀(cdv:Value) (A:Around) (outer:List Env) (s:Shared) (H:Hp) (E:XK),Room k (A.deeper (envOfC qual (Ag st) s.heap.objs.size f cdv)) ->
   FH (Ci CX0 P w K mg base N qual (Ag st) f cdv A outer s H E).nox (FW st) B)
  (hG:∀xs L d L',G xs L=some (d,L')->Yo B N xs L d L'):DK P w K mg base CX0 (k+1) f fd ps (Gv K G):=by
 refine F.ok S (λvs H Q E h=>?_) (λcdv A outer s H vs Q E hr h=>?_)
 .obtain⟨O,L,xs,d,L',_,is,e,_⟩:=h;rw[is.length];exact hlen _ _ _ e
 .obtain⟨O,L,xs,d,L',rs,is,e,kk⟩:=h;refine⟨_,hb cdv A outer s H E hr,?_⟩;obtain⟨L'',hB,hd⟩:=hG _ _ _ _ e
  have close:∀v H' O',Al H O H' O'->Ap K H' O' L''->Is K H' O' v d->Q v H':=λv H' O' st' rs' is'=>by
   rcases hd with rfl|⟨rfl,⟨M,rfl⟩,nr⟩
   .exact kk v H' O' st' rs' is'
   .exact kk v H' O ⟨st'.1,AW _⟩ (rs.back st' rs') (is'.nr nr)
  rcases hB with hB|⟨rfl,Z',hB⟩
  .exact⟨O,Fe N xs,L,_,⟨rs,Xd is⟩,hB,close⟩
  .exact⟨O,Fe N xs,L,_,⟨rs,Xd is⟩,hB,λY' H' O' st' r'=>close _ H' O' st' r'.s .non⟩
def Ao.mono{j k:Nat}{x:Str}{G:GL}(F:Ao P w K mg base j x G)(h:j<=k):Ao P w K mg base k x G:=by obtain⟨f,fd,ps,a,b⟩:=F.ex;exact⟨f,fd,ps,a.mono h,b⟩
def Ao.imp{k:Nat}{x:Str}{G G':GL}(F:Ao P w K mg base k x G)(h:∀xs L r,G' xs L=some r->G xs L=some r):Ao P w K mg base k x G':=by obtain⟨f,fd,ps,a,b⟩:=F.ex;exact⟨f,fd,ps,a.imp λvs H Q E z4_=>(by obtain⟨O,L,xs,d,L',rs,is,e,kk⟩:=z4_;exact⟨O,L,xs,d,L',rs,is,h _ _ _ e,kk⟩),b⟩
end
section
variable {X:Cx}{k:Nat}{x:Str}{G:GL}{p pos:Pos}{e:Expr}{es:ANH}{f:AF}
def AKr(F:Ao X.prog X.w X.K X.mg X.base k x G)(hr:Room k X.A)(ha:ES X (e::es) f)(hg:Gl X x:=by rfl)(hdb:(x == ("__debug__":Str))=false:=by decide)
  (he:Ea e=true:=by rfl) (hpl:es.all Ea=true:=by rfl):AZ X (.Call (.Name x p) (e::es) [] pos) (AK G f):=by
 obtain⟨fa,fd,ps,a,b,c,d⟩:=F.ex
 exact PE.weaken (ADX a hr hg b c d .nil RO ha hdb (HM he) (IK hpl)) λY H Q h=>by
  have q:=Nx h;obtain⟨O,Z,L,ds,L',r,e,k⟩:=q;exact⟨O,Z,L,ds,L',r,e,λvs H1 O1 st rs is=>by show rC X.K G (vs++[]) H1 Q;rw[ALy];exact k vs H1 O1 st rs is⟩
def AKq(F:Ao X.prog X.w X.K X.mg X.base k x G)(hr:Room k X.A)(hg:Gl X x:=by rfl)(hdb:(x == ("__debug__":Str))=false:=by decide):AZ X (.Call (.Name x p) [] [] pos) (AK G AG):=by
 obtain⟨fa,fd,ps,a,b,c,d⟩:=F.ex
 exact PE.weaken (ADW a hr hg b c d .nil RO hdb) λY H Q h=>by
  obtain⟨O,Z,L,ds,L',r,e,k⟩:=h;exact⟨O,L,[],ds,L',r.s,.nil,e,k⟩
end
noncomputable instance decMul (a b:Int):Decidable (IntMulOk a b):=by unfold IntMulOk;infer_instance
section
variable {X:Cx}
def AD6:Au X (binaryOp .Mult) (rI IntMulOk λi j=>.int (i*j)):=NM λ_ _ _ _ _ _ _ hc q=>mul_int q hc
def op_catE:Au X (binaryOp .Add) (λx y H Q=>∃a b ys,x=.ref a/\y=.ref b/\Bd X.K H a []/\Bd X.K H b ys/\Q (.ref b) H):=by
 intro pins s Y H x y v u Q I rx ry h;obtain⟨a,b,ys,rfl,rfl,ha,hb,q⟩:=h;cases rx;cases ry;obtain⟨its,r1,p1,_⟩:=I.tuple ha;obtain⟨its2,r2,p2,_⟩:=I.tuple hb;have hi:its=[]:=r1.nil_iff.mpr rfl;subst hi;obtain⟨⟨cls,dd,data,sl⟩,ho,hc,n,hd⟩:=p1;obtain⟨⟨cls2,dd2,data2,sl2⟩,ho2,hc2,n2,hd2⟩:=p2;simp only at hc hd hc2 hd2;subst hc hd hc2 hd2
 exact concat_meets ⟨_,ho,rfl⟩ ⟨_,ho2,rfl⟩ noFill_tuple_add seq_tuple_add AMq AMr (AMs _ _)
  (tuple_addW0 a b _ _ n n2 dd dd2 sl sl2 rfl) ⟨ho,ho2,.ref b,H,I,rfl,q⟩
abbrev BB:G2
 |.int i,.int j,L=>some (.int (i+j),L)
 |.str x,.str y,L=>if x.length+y.length<=16777216 then some (.str (x++y),L) else none
 |.ref a,.ref b,L=>match L[a]?,L[b]? with
  |some (.lst xs),some (.lst ys)=>if xs.length+ys.length<=16777216 then some (.ref L.length,L++[.lst (xs++ys)]) else none
  |_,_=>none
 |.tup xs,.tup ys,L=>if xs=[] then some (.tup ys,L) else if xs.length+ys.length<=16777216 then some (.tup (xs++ys),L) else none
 |_,_,_=>none
def AJW:Cm X (binaryOp .Add) BB:=Au.weaken (Au.or AD5 (Au.or AD4 (Au.or AD3 (Au.or AD2 op_catE)))) λv u H Q z4_=>by
 obtain⟨O,L,x,y,d,L',rs,ix,iy,e,k⟩:=z4_;unfold BB at e;split at e
 .cases ix;cases iy;cases e;exact .inl ⟨_,_,rfl,rfl,k _ _ _ (.refl _ _) rs (.int _)⟩
 .cases ix with|str _ h1=>cases iy with|str _ h2 =>
   split at e
   .rename_i hz;cases e;exact .inr (.inl ⟨_,_,rfl,rfl,by rw[sizeLine_eq];exact hz,k _ _ _ (.refl _ _) rs (.str _ (by rw[strLen_append];exact hz))⟩)
   .cases e
 .rename_i a b
  cases ix with|ref ha=>cases iy with|ref hb =>
   split at e
   .rename_i xs ys e1 e2;split at e
    .rename_i hz;cases e;obtain⟨vs,hv,iv⟩:=rs.ob _ _ _ ha e1;obtain⟨ws,hw,iw⟩:=rs.ob _ _ _ hb e2;refine .inr (.inr (.inl ⟨_,_,vs,ws,rfl,rfl,hv,hw,by rw[iv.length,iw.length,sizeLine_eq];exact hz,λp hp=>?_⟩));have st:Al H O (upd H p (.lst (vs++ws))) (O++[p]):=⟨.new hp,Ai _ _⟩;exact k _ _ _ st (rs.new hp ⟨_,CI,(iv.append iw).mono st⟩) (.ref (by rw[<-rs.len];simp))
    .cases e
   .cases e
 .rename_i xs ys;split at e
  .rename_i hx;subst hx;cases e
   cases ix with|@tup a vs _ h1 i1=>cases iy with|@tup b ws _ h2 i2 =>
    cases i1;exact .inr (.inr (.inr (.inr ⟨_,_,ws,rfl,rfl,h1,h2,k _ _ _ (.refl _ _) rs (.tup h2 i2)⟩)))
  .rename_i hx;split at e
   .rename_i hz;cases e
    cases ix with|@tup a vs _ h1 i1=>cases iy with|@tup b ws _ h2 i2 =>
     refine .inr (.inr (.inr (.inl ⟨_,_,vs,ws,rfl,rfl,h1,h2,?_,by rw[i1.length,i2.length,sizeLine_eq];exact hz,λq=>?_,λq p hp=>?_⟩)))
     .rintro rfl;cases i1;exact hx rfl
     .subst q;cases i2;rw[ALy] at k;exact k _ _ _ (.refl _ _) rs (.tup h1 i1)
     .have st:Al H O (upd H p (.tup (vs++ws))) O:=⟨.new hp,AW _⟩;exact k _ _ _ st (rs.ext λa u e=>by rw[BU (DT e hp)];exact e) (.tup (Bd.of CI) ((i1.append i2).mono st))
   .cases e
 .cases e
abbrev gI(C:Int->Int->Bool)(f:Int->Int->D):G2:=λx y L=>match x,y with|.int i,.int j=>if C i j=true then some (f i j,L) else none|_,_=>none
def Hm{f:Value->Value->Sem Value}{C:Int->Int->Prop}{Cb:Int->Int->Bool}{g:Int->Int->V}{gd:Int->Int->D}(h:Au X f (rI C g))(hc:∀i j,Cb i j=true->C i j)(hg:∀K H O i j,Is K H O (g i j) (gd i j)):Cm X f (gI Cb gd) :=
 Au.weaken h λv u H Q z4_=>by
  obtain⟨O,L,x,y,d,L',rs,ix,iy,e,k⟩:=z4_;unfold gI at e;split at e
  .split at e
   .rename_i hcc;cases ix;cases iy;cases e;exact⟨_,_,rfl,rfl,hc _ _ hcc,k _ _ _ (.refl _ _) rs (hg _ _ _ _ _)⟩
   .cases e
  .cases e
def Kn{f:Value->Value->Sem Value}{g:Int->Int->V}(h:Au X f (HP g)):Au X f (rI (λ_ _=>True) g):=Au.weaken h λx y H Q z4_=>by obtain⟨i,j,a,b,_,q⟩:=z4_;exact⟨i,j,a,b,q⟩
abbrev Kf(_ _:Int):Bool:=true
abbrev LQ(_ j:Int):Bool:=decide (0<j)&&decide (j<10000000000000000000000000000000000000000000000000000000000000000000000000000000000000000000000000000)
abbrev Ny(_ j:Int):Bool:=decide (0<j)
abbrev SU(i j:Int):Bool:=decide (0<=j)&&decide (j<=1000000)&&decide (i.natAbs<2 ^ 64)
abbrev cMul(i j:Int):Bool:=decide (IntMulOk i j)
abbrev FT:G2:=gI Kf λi j=>.int (i-j)
abbrev Bm:G2:=gI LQ λi j=>.int (i / j)
abbrev BE:G2:=gI Ny λi j=>.int (i % j)
abbrev GS:G2:=gI SU λi j=>.int (i ^ j.toNat)
def AJE:Cm X (binaryOp .Sub) FT:=Hm (Kn ADn) (λ_ _ _=>True.intro) λ_ _ _ _ _=>.int _
def AEw{j:Int}(h0:0<j)(h1:j<10000000000000000000000000000000000000000000000000000000000000000000000000000000000000000000000000000):j.natAbs.log2<340:=by
 have hn:j.natAbs≠0:=by omega
 refine(Nat.log2_lt hn).mpr ?_;have e:10000000000000000000000000000000000000000000000000000000000000000000000000000000000000000000000000000<(2:Nat) ^ 340:=by decide +kernel
 omega
def AD0:Au X (binaryOp .FloorDiv) (rI (λ_ j=>0<j/\j<10000000000000000000000000000000000000000000000000000000000000000000000000000000000000000000000000000) λi j=>.int (i / j)):=NM λi j _ _ _ _ _ hc q=>by
 rw[<-Int.fdiv_eq_ediv_of_nonneg i (Int.le_of_lt hc.1)] at q;exact floordiv_int (by omega) q (.inl (PyProof.noPylong_of_log2 (by have:=AEw hc.1 hc.2;omega)))
def AJU:Cm X (binaryOp .FloorDiv) Bm:=Hm AD0 (λi j h=>by simp only[LQ,Bz,decide_eq_true_eq] at h;exact h) λ_ _ _ _ _=>.int _
def AJL:Cm X (binaryOp .Mod) BE:=Hm ADt (λi j h=>by simp[Ny] at h;exact h) λ_ _ _ _ _=>.int _
def AJF:Cm X (binaryOp .Pow) GS:=Hm ADo (λi j h=>by simp[SU] at h;exact⟨h.1.1,h.1.2,h.2⟩) λ_ _ _ _ _=>.int _
abbrev JE(x:Str)(n:Int):Bool:=decide (-1000000<=n)&&decide (n<=1000000)&&decide (x.length*n.toNat<=16777216)
abbrev CT:G2:=λx y L=>match x,y with
 |.int i,.int j=>if cMul i j=true then some (.int (i*j),L) else none
 |.str x,.int n=>if JE x n=true then some (.str (Txt.mul x n),L) else none
 |_,_=>none
def Wf:∀(l:List (Array Nat)) (a:Array Nat),(l.foldl (·++·) a).size=a.size+(l.map (·.size)).sum
 |[],a=>by simp
 |b::r,a=>by rw[ALa,Wf r];simp[Array.size_append];omega
def AEP(x:Str)(n:Int):(Txt.mul x n).length<=x.length*n.toNat:=by
 unfold Txt.mul;split
 .exact EH _
 .split
  .rename_i h1 h2;simp only[Bool.or_eq_true,beq_iff_eq] at h2;rcases h2 with h2|h2
   .subst h2;simp
   .rw[h2];simp
  .show((ALf n.toNat x.cps).foldl (·++·) #[]).size<=_;rw[Wf];simp[Str.length,Nat.mul_comm]
def ADs:Au X (binaryOp .Mult) (λx y H Q=>∃z n,x=.str z/\y=.int n/\JE z n=true/\Q (.str (Txt.mul z n)) H):=by
 intro pins s Y H x y v u Q I rx ry h;obtain⟨z,n,rfl,rfl,hc,q⟩:=h;obtain⟨t,rfl⟩:=rx;obtain⟨t',rfl⟩:=ry;simp only[JE,Bz,decide_eq_true_eq] at hc;obtain⟨⟨h1,h2⟩,h3⟩:=hc;refine SB.mul ⟨?_,λhn _ hz=>?_,λ_ _=>?_⟩ λt' k=>⟨.str _,H,I.tok _,⟨_,rfl⟩,q⟩
 .have e1:decide (n < -(2 ^ 63:Int))=false:=decide_eq_false (by omega);have e2:decide (n ≥ 2 ^ 63)=false:=decide_eq_false (by omega);rw[e1,e2];rfl
 .have e1:(z.length:Int)*n<=16777216:=by
   have h4:((z.length*n.toNat:Nat):Int)<=((16777216:Nat):Int):=Int.ofNat_le.mpr h3;rw[Int.natCast_mul,Int.toNat_of_nonneg (by omega)] at h4;omega
  have e2:(z.length:Int)<=((2:Int) ^ 63-1) / n:=Int.le_ediv_of_mul_le (by omega) (by omega);omega
 .have h5:¬(z.length*n.toNat>sizeLine):=by rw[sizeLine_eq];omega
  exact decide_eq_false h5
def AJK:Cm X (binaryOp .Mult) CT:=Au.weaken (Au.or AD6 ADs) λv u H Q z4_=>by
 obtain⟨O,L,x,y,d,L',rs,ix,iy,e,k⟩:=z4_;unfold CT at e;split at e
 .split at e
  .rename_i hc;cases ix;cases iy;cases e;exact .inl ⟨_,_,rfl,rfl,of_decide_eq_true hc,k _ _ _ (.refl _ _) rs (.int _)⟩
  .cases e
 .split at e
  .rename_i hc;cases ix;cases iy;cases e;refine .inr ⟨_,_,rfl,rfl,hc,k _ _ _ (.refl _ _) rs (.str _ ?_)⟩;simp only[JE,Bz,decide_eq_true_eq] at hc;exact CV (AEP _ _) hc.2
  .cases e
 .cases e
abbrev gLt:G2:=gI Kf λi j=>.bl (decide (i<j))
abbrev LF:G2:=gI Kf λi j=>.bl (decide (i<=j))
abbrev Eo:G2:=gI Kf λi j=>.bl (decide (j<i))
abbrev Nr:G2:=gI Kf λi j=>.bl (decide (j<=i))
def AJM:Cm X (compareOp .Lt) gLt:=Hm (Kn op_lt) (λ_ _ _=>True.intro) λ_ _ _ _ _=>.bl _
def AJN:Cm X (compareOp .LtE) LF:=Hm (Kn ADu) (λ_ _ _=>True.intro) λ_ _ _ _ _=>.bl _
def AJS:Cm X (compareOp .Gt) Eo:=Hm (Kn ADy) (λ_ _ _=>True.intro) λ_ _ _ _ _=>.bl _
def AJT:Cm X (compareOp .GtE) Nr:=Hm (Kn ADz) (λ_ _ _=>True.intro) λ_ _ _ _ _=>.bl _
abbrev De:D->V
 |.non=>.non|.bl b=>.bl b|.int i=>.int i|.str x=>.str x|_=>.non
abbrev BD:D->Bool
 |.non=>true|.bl _=>true|.int _=>true|.str _=>true|_=>false
def FB{K:AL}{H:Hp}{O:ANG}{v:V}{d:D}(h:Is K H O v d)(f:BD d=true):v=De d:=by cases h <;> first|rfl|(simp[BD] at f)
def AF9{K:AL}{H:Hp}{O:ANG}:∀{vs:List V} {ds:List D},AR K H O vs ds->ds.all BD=true->vs=ds.map De:=by
 intro vs ds h f
 induction ds generalizing vs with
 |nil=>cases h;rfl
 |cons x ds ih =>
  cases h with|cons a b =>
  rw[ALq,Bz] at f;rw[Aj,FB a f.1,ih b f.2]
def JV{d:D}(f:BD d=true):Fp (De d)=true:=by cases d <;> simp_all [BD,De,Fp]
def Kg{a b:D}(fa:BD a=true)(fb:BD b=true):(De a=De b)↔a=b:=by cases a <;> simp[BD] at fa <;> cases b <;> simp[BD] at fb <;> simp[De]
abbrev GI(a b:D):Bool:=BD a&&BD b&&Qy (De a) (De b)
abbrev Bj:G2:=λx y L=>if GI x y=true then some (.bl (decide (x=y)),L) else none
abbrev Fo:G2:=λx y L=>if GI x y=true then some (.bl (!decide (x=y)),L) else none
def AJV:Cm X (compareOp .Eq) Bj:=Au.weaken AD1 λv u H Q z4_=>by
 obtain⟨O,L,x,y,d,L',rs,ix,iy,e,k⟩:=z4_;unfold Bj at e;split at e
 .rename_i h;cases e;simp only[GI,Bz] at h;obtain⟨⟨h1,h2⟩,h3⟩:=h;rw[FB ix h1,FB iy h2];refine⟨h3,?_⟩;have:decide (De x=De y)=decide (x=y):=by simp[Kg h1 h2]
  rw[this];exact k _ _ _ (.refl _ _) rs (.bl _)
 .cases e
def AJJ:Cm X (compareOp .NotEq) Fo:=Au.weaken Vz λv u H Q z4_=>by
 obtain⟨O,L,x,y,d,L',rs,ix,iy,e,k⟩:=z4_;unfold Fo at e;split at e
 .rename_i h;cases e;simp only[GI,Bz] at h;obtain⟨⟨h1,h2⟩,h3⟩:=h;rw[FB ix h1,FB iy h2];refine⟨h3,?_⟩;have:decide (De x=De y)=decide (x=y):=by simp[Kg h1 h2]
  rw[this];exact k _ _ _ (.refl _ _) rs (.bl _)
 .cases e
abbrev HS:D->Bool|.non=>true|_=>false
def Wv{K:AL}{H:Hp}{O:ANG}{v:V}{d:D}(h:Is K H O v d):decide (v=.non)=HS d:=by cases h <;> simp[HS]
abbrev isBl(b:Bool):D->Bool|.bl c=>c == b|_=>false
def ADv:Au X (compareOp .Is) (λx y H Q=>∃b,y=.bl b/\(∀n,x≠.ty n)/\Q (.bl (decide (x=.bl b))) H):=by
 intro pins s Y H x y v u Q I rx ry h;obtain⟨b,rfl,hn,q⟩:=h;cases ry
 cases x with
 |non=>cases rx;exact AN (BK I q rfl)
 |bl c=>cases rx;exact AN (BK I q (by cases c <;> cases b <;> rfl))
 |int c=>obtain⟨t,rfl⟩:=rx;exact AN (BK I q rfl)
 |str c=>obtain⟨t,rfl⟩:=rx;exact AN (BK I q rfl)
 |byt c=>obtain⟨t,rfl⟩:=rx;exact AN (BK I q rfl)
 |flt c=>obtain⟨t,rfl⟩:=rx;exact AN (BK I q rfl)
 |ref c=>cases rx;exact AN (BK I q rfl)
 |ty c=>exact absurd rfl (hn c)
def ADr:Au X (compareOp .IsNot) (λx y H Q=>∃b,y=.bl b/\(∀n,x≠.ty n)/\Q (.bl (!decide (x=.bl b))) H):=by
 intro pins s Y H x y v u Q I rx ry h;obtain⟨b,rfl,hn,q⟩:=h;cases ry
 cases x with
 |non=>cases rx;exact AN (BK I q rfl)
 |bl c=>cases rx;exact AN (BK I q (by cases c <;> cases b <;> rfl))
 |int c=>obtain⟨t,rfl⟩:=rx;exact AN (BK I q rfl)
 |str c=>obtain⟨t,rfl⟩:=rx;exact AN (BK I q rfl)
 |byt c=>obtain⟨t,rfl⟩:=rx;exact AN (BK I q rfl)
 |flt c=>obtain⟨t,rfl⟩:=rx;exact AN (BK I q rfl)
 |ref c=>cases rx;exact AN (BK I q rfl)
 |ty c=>exact absurd rfl (hn c)
def Ww{K:AL}{H:Hp}{O:ANG}{v:V}{d:D}{b:Bool}(h:Is K H O v d):decide (v=.bl b)=isBl b d:=by cases h <;> simp[isBl];rename_i c;cases c <;> cases b <;> rfl
abbrev noTy:D->Bool|.ty _=>false|_=>true
def WL{K:AL}{H:Hp}{O:ANG}{v:V}{d:D}(h:Is K H O v d)(n:noTy d=true):∀m,v≠.ty m:=by
 intro m z
 cases h <;> first|(cases z;done)|(simp[noTy] at n)
abbrev JT:G2:=λx y L=>match y with|.non=>some (.bl (HS x),L)|.bl b=>if noTy x=true then some (.bl (isBl b x),L) else none|_=>none
abbrev IU:G2:=λx y L=>match y with|.non=>some (.bl (!HS x),L)|.bl b=>if noTy x=true then some (.bl (!isBl b x),L) else none|_=>none
def AJP:Cm X (compareOp .Is) JT:=Au.weaken (Au.or op_isN ADv) λv u H Q z4_=>by
 obtain⟨O,L,x,y,d,L',rs,ix,iy,e,k⟩:=z4_;unfold JT at e;split at e
 .cases e;cases iy;refine .inl ⟨rfl,?_⟩;rw[Wv ix];exact k _ _ _ (.refl _ _) rs (.bl _)
 .split at e
  .rename_i hn;cases e;cases iy;refine .inr ⟨_,rfl,WL ix hn,?_⟩;rw[Ww ix];exact k _ _ _ (.refl _ _) rs (.bl _)
  .cases e
 .cases e
def AJO:Cm X (compareOp .IsNot) IU:=Au.weaken (Au.or ADp ADr) λv u H Q z4_=>by
 obtain⟨O,L,x,y,d,L',rs,ix,iy,e,k⟩:=z4_;unfold IU at e;split at e
 .cases e;cases iy;refine .inl ⟨rfl,?_⟩;rw[Wv ix];exact k _ _ _ (.refl _ _) rs (.bl _)
 .split at e
  .rename_i hn;cases e;cases iy;refine .inr ⟨_,rfl,WL ix hn,?_⟩;rw[Ww ix];exact k _ _ _ (.refl _ _) rs (.bl _)
  .cases e
 .cases e
abbrev Fj(i j:Str):Bool:=!(Builtin.Str.occurrences j i 0 j.length 1).isEmpty
abbrev JW(a b:D):Bool:=eqV (De a) (De b)
abbrev Cw(x:D)(xs:List D):Bool:=xs.any λy=>JW y x
abbrev Cg(d:D)(L:AC):Option (List D):=match d with
 |.tup xs=>some xs|.fz xs=>some xs
 |.ref k=>match L[k]? with|some (.lst xs)=>some xs|_=>none
 |_=>none
def II{K:AL}{H:Hp}{O:ANG}{L:AC}{v:V}{d:D}{xs:List D}(rs:Ap K H O L)(h:Is K H O v d)(e:Cg d L=some xs):∃a vs,v=.ref a/\(BJ K H a vs\/Bd K H a vs)/\AR K H O vs xs:=by
 cases h with
 |tup hq il=>cases e;exact⟨_,_,rfl,.inr hq,il⟩
 |fz hq il=>cases e;exact⟨_,_,rfl,.inl hq.sql,il⟩
 |ref hk =>
  simp only[Cg] at e;split at e
  .rename_i ys e2;cases e;obtain⟨vs,hv,iv⟩:=rs.ob _ _ _ hk e2;exact⟨_,vs,rfl,.inl (BJ.of hv),iv⟩
  .cases e
 |_=>cases e
abbrev Ca(neg:Bool):G2:=λx y L=>match x,y with
 |.str i,.str j=>some (.bl (if neg then !Fj i j else Fj i j),L)
 |_,_=>match Cg y L with|some ys=>if BD x&&ys.all BD then some (.bl (if neg then !Cw x ys else Cw x ys),L) else none|none=>none
def AFS{x:D}{xs:List D}:Rq (De x) (xs.map De)=Cw x xs:=by unfold Rq Cw JW;rw[List.any_map];rfl
def AHN{xs:List D}(h:xs.all BD=true):(xs.map De).all Fp=true:=by rw[List.all_map];rw[Bu] at h ⊢;exact λd hd=>JV (h d hd)
def XZ{K:AL}{H:Hp}{O:ANG}{L L':AC}{v u:V}{x y d:D}{neg:Bool}{Q:VK}(rs:Ap K H O L)(ix:Is K H O v x)(iy:Is K H O u y)
  (e:(match Cg y L with|some ys=>if BD x&&ys.all BD then some (D.bl (if neg then !Cw x ys else Cw x ys),L) else none|none=>none)=some (d,L'))
  (k:∀w H' O',Al H O H' O'->Ap K H' O' L'->Is K H' O' w d->Q w H'):RE K neg v u H Q:=by
 split at e
 .rename_i ys hy;split at e
  .rename_i hf;cases e;rw[Bz] at hf;obtain⟨a,vs,rfl,hs,il⟩:=II rs iy hy;have e1:=FB ix hf.1;have e2:=AF9 il hf.2;subst e1 e2;refine⟨a,_,rfl,hs,JV hf.1,AHN hf.2,?_⟩;rw[AFS];exact k _ _ _ (.refl _ _) rs (.bl _)
  .cases e
 .cases e
def AJR:Cm X (compareOp .In) (Ca false):=Au.weaken (Au.or ADw ADx) λv u H Q z4_=>by
 obtain⟨O,L,x,y,d,L',rs,ix,iy,e,k⟩:=z4_;unfold Ca at e;split at e
 .cases e;cases ix;cases iy;exact .inl ⟨_,_,rfl,rfl,k _ _ _ (.refl _ _) rs (.bl _)⟩
 .exact .inr (XZ rs ix iy e k)
def AJH:Cm X (compareOp .NotIn) (Ca true):=Au.weaken (Au.or op_notin_str ADq) λv u H Q z4_=>by
 obtain⟨O,L,x,y,d,L',rs,ix,iy,e,k⟩:=z4_;unfold Ca at e;split at e
 .cases e;cases ix;cases iy;exact .inl ⟨_,_,rfl,rfl,k _ _ _ (.refl _ _) rs (.bl _)⟩
 .exact .inr (XZ rs ix iy e k)
abbrev AQ:G2:=λx y L=>match y with
 |.int i=>match x with
  |.str z=>(match atI z.cps.toList i with|some c=>some (.str ⟨#[c]⟩,L)|none=>none)
  |_=>(match Cg x L with|some xs=>(match atI xs i with|some d=>some (d,L)|none=>none)|none=>none)
 |_=>none
def AHC{K:AL}{H:Hp}{O:ANG}{vs:List V}{xs:List D}{i:Int}{d:D}(il:AR K H O vs xs)(e:atI xs i=some d):∃v,atI vs i=some v/\Is K H O v d:=by
 unfold atI at e ⊢;rw[il.length]
 cases q:ixN xs.length i with
 |none=>rw[q] at e;cases e
 |some j=>rw[q] at e;exact il.get e
def AAM:OQ X AQ:=FK.weaken AFH λv u H Q z4_=>by
 obtain⟨O,L,x,y,d,L',rs,ix,iy,e,k⟩:=z4_;unfold AQ at e;split at e
 .cases iy;split at e
  .split at e
   .rename_i c hc;cases e
    cases ix with|str _ hz =>
     exact .inr (.inr ⟨_,_,c,rfl,rfl,by rw[sizeLine_eq];exact hz,hc,k _ _ _ (.refl _ _) rs (.str _ (by simp[Str.length]))⟩)
   .cases e
  .split at e
   .rename_i xs hx;split at e
    .rename_i dd hd;cases e;obtain⟨a,vs,rfl,hs,il⟩:=II rs ix hx;obtain⟨w,hw,iw⟩:=AHC il hd;rcases hs with hs|hs
     .exact .inl ⟨a,vs,_,w,rfl,rfl,hs,hw,k _ _ _ (.refl _ _) rs iw⟩
     .exact .inr (.inl ⟨a,vs,_,w,rfl,rfl,hs,hw,k _ _ _ (.refl _ _) rs iw⟩)
    .cases e
   .cases e
 .cases e
end
end L3
set_option maxHeartbeats 4000000
namespace HT
open PySem PySem.Spec PyProof.Rows
section
variable {prog:Program}{w:World}{A:Around}{E:ANL}{s:Shared}
def AJt{t sl:Addr}{items:Array Value}{vl vu:Value}{lo hi:Option Int}{Q:ANL}(ht:IsTup s.heap t items)(hs:s.heap.IsSliceOf sl vl vu .none)(pl:IsPart vl lo)(pu:IsPart vu hi)
  (hw:sIx items.size 0 lo=0/\sIx items.size items.size hi=items.size) (h:Q (.ref t) s) (hsz:items.size<=sizeLine):wpAny (model prog w) A (getItem (.ref t) (.ref sl)) Q E s:=by
 obtain⟨os,hos,hcs,hds⟩:=id hs;have hTs:s.TypeIs (.ref sl) "slice":=⟨os,hos,hcs⟩;unfold getItem
 try with_reducible refine DZ ?_
 first|refine AH (AN ?_)|skip
 refine AH (wpAny_sequenceKey ht.typeIs (by decide) ?_)
 refine AH (AM5 (name:=Str.ofString "__getitem__") ht.typeIs PyProof.Rows.slot_tuple_getitem
  (Fy PyProof.Rows.slot_tuple_getitem ht.typeIs entry_tuple_getitem ?_ (args_tuple_getitem _ _)))
 show wpAny _ _ (Builtin.Tuple.tupleItemsOf (.ref t) >>= _) _ _ s;refine AH (tupleItemsOf_ ht ?_);refine AH (wpAny_typeOf hTs ?_);rw[if_pos (by decide)];refine AH (VO hs pl pu ?_)
 have hyes:(((sIx items.size 0 lo:Nat):Int) == 0&&(1:Int) == 1&&(sIx items.size items.size hi-sIx items.size 0 lo) == items.size)=true:=by rw[hw.1,hw.2];simp
 show wpAny _ _ (if (((sIx items.size 0 lo:Nat):Int) == 0&&(1:Int) == 1&&(sIx items.size items.size hi-sIx items.size 0 lo) == items.size)=true then _ else _) _ _ s
 rw[if_pos hyes];unfold Builtin.Tuple.tupleIsExact;refine AH (AH (wpAny_typeOf ht.typeIs (AN ?_)));rw[if_pos (by decide)];refine AH (AMz ?_);exact AN ⟨_,rfl,AN h⟩
end
end HT
namespace L2
open PySem PySem.Spec PyProof.Rows
section
variable {X:Cx}
def ABf:Fv X (λx lo hi H Q=>∃a xs,x=.ref a/\Bd X.K H a xs/\(HT.sIx xs.length 0 lo=0/\HT.sIx xs.length xs.length hi=xs.length)/\Q (.ref a) H):=by
 intro pins s Y H x v vl vu lo hi sl Q I rx hs pl pu h;obtain⟨a,xs,rfl,hx,hw,q⟩:=h;cases rx;obtain⟨its,r,ht,hz⟩:=I.tuple hx;have hlen:its.toArray.size=xs.length:=by rw[Be];exact r.length.symm
 refine⟨"tuple",_,PyProof.Rows.slot_tuple_getitem.lookup,ht.typeIs,?_⟩;exact HT.AJt ht hs pl pu (by rw[hlen];exact hw) ⟨.ref a,H,I,rfl,q⟩ (by rw[hlen];exact hz)
end
end L2
set_option maxHeartbeats 4000000
namespace L3
open PySem PySem.Spec PyProof.Rows L2
noncomputable abbrev OF:=Fm->AC->Option (Option Int×AC)
abbrev AEx(K:AL)(f:OF):TO:=λY H Q=>∃O Z L d L',DJ K H O Y Z L/\f Z L=some (d,L')/\∀H' O',Al H O H' O'->Ap K H' O' L'->Q d H'
abbrev LX(X:Cx)(e:Option Expr)(f:OF):Prop:=PO X e (AEx X.K f)
abbrev Dl:OF:=λ_ L=>some (none,L)
abbrev Bo(f:EF):OF:=λZ L=>(f Z L).bind λx=>match x.1 with|.int i=>some (some i,x.2)|_=>none
section
variable {X:Cx}{e:Expr}{f:EF}{lo hi:Option Expr}{fl fh:OF}{pos p2:Pos}
def AJD:LX X none Dl:=λpins s Y H Q I z6_=>by
 obtain⟨O,Z,L,d,L',r,e,k⟩:=z6_;cases e;exact ACs pins s Y H Q I (k H O (.refl _ _) r.s)
def AJC(h:AZ X e f):LX X (some e) (Bo f):=λpins s Y H Q I z6_=>by
 obtain⟨O,Z,L,d,L',r,ee,k⟩:=z6_;refine ACr h pins s Y H Q I ?_;unfold Bo at ee;obtain⟨p,e1,ee⟩:=bS ee;obtain⟨x,L1⟩:=p
 cases x <;> simp only[AT] at ee <;> try (cases ee;done)
 cases ee;refine⟨O,Z,L,_,_,r,e1,λv H' O' st rs is=>?_⟩;cases is;exact⟨_,rfl,k H' O' st rs⟩
def ABh:Fv X (λx lo hi H Q=>∃z,x=.str z/\z.length<=sizeLine/\Q (.str (Txt.slice z lo hi)) H):=by
 intro pins s Y H x v vl vu lo hi sl Q I rx hs pl pu h;obtain⟨z,rfl,hz,q⟩:=h;obtain⟨t,rfl⟩:=rx;refine⟨"str",_,F.slot_str_getitem.lookup,typeIs_str _ _ _,?_⟩;have fin:∀t' k,EP X pins Y Q (.str (Txt.slice z lo hi) t') {s with toks:=k}:=λt' k=>⟨.str _,H,I.tok _,⟨_,rfl⟩,q⟩;have hl:(Txt.slice z lo hi).length<=sizeLine:=CV (Txt.slice_le z _ _) hz
 cases pl with
 |none=>cases pu with
  |none=>exact AM7 (l:=none) (u:=none) (st:=none) hs rfl (post_val_or_str ⟨hl,fin⟩)
  |int j tj=>exact AM7 (l:=none) (u:=some (j,tj)) (st:=none) hs rfl (post_val_or_str ⟨hl,fin⟩)
 |int i ti=>cases pu with
  |none=>exact AM7 (l:=some (i,ti)) (u:=none) (st:=none) hs rfl (post_val_or_str ⟨hl,fin⟩)
  |int j tj=>exact AM7 (l:=some (i,ti)) (u:=some (j,tj)) (st:=none) hs rfl (post_val_or_str ⟨hl,fin⟩)
abbrev cutD(xs:List D)(lo hi:Option Int):List D:=(xs.drop (HT.sIx xs.length 0 lo)).take (HT.sIx xs.length xs.length hi-HT.sIx xs.length 0 lo)
abbrev IT(x:D)(lo hi:Option Int)(L:AC):Option (D×AC):=match x with
 |.str z=>some (.str (Txt.slice z lo hi),L)
 |.fz xs=>some (.ref L.length,L++[.lst (cutD xs lo hi)])
 |.ref k=>(match L[k]? with|some (.lst xs)=>some (.ref L.length,L++[.lst (cutD xs lo hi)])|_=>none)
 |.tup xs=>some (.tup (cutD xs lo hi),L)
 |_=>none
abbrev CO(f:EF)(fl fh:OF):EF:=λZ L=>(f Z L).bind λx=>(fl Z x.2).bind λl=>(fh Z l.2).bind λh=>IT x.1 l.1 h.1 h.2
def SM{K:AL}{H:Hp}{O:ANG}{vs:List V}{xs:List D}(il:AR K H O vs xs)(lo hi:Option Int):AR K H O (GV vs lo hi) (cutD xs lo hi):=by unfold GV cutD;rw[il.length];exact(il.drop _).take _
def AKX(he:AZ X e f)(hl:LX X lo fl)(hh:LX X hi fh):AZ X (.Subscript e (.Slice lo hi none p2) pos) (CO f fl fh) :=
 PE.weaken (ADG (Fv.or ABh (Fv.or ABi (Fv.or ABg ABf))) he hl hh) λY H Q z3_=>by
  obtain⟨O,Z,L,d,L',r,ee,k⟩:=z3_;unfold CO at ee;obtain⟨p,e1,ee⟩:=bS ee;obtain⟨q,e2,ee⟩:=bS ee;obtain⟨w,e3,ee⟩:=bS ee;refine⟨O,Z,L,p.1,p.2,r,e1,λv H1 O1 st1 rs1 is1=>⟨O1,Z,p.2,q.1,q.2,r.to st1 rs1,e2,λH2 O2 st2 rs2=>⟨O2,Z,q.2,w.1,w.2,r.to (st1.trans st2) rs2,e3,λH3 O3 st3 rs3=>?_⟩⟩⟩;have is3:=(is1.mono st2).mono st3;have stA:=(st1.trans st2).trans st3;unfold IT at ee;split at ee
  .rename_i z hz;rw[hz] at is3;cases ee
   cases is3 with|str _ hl =>
    exact .inl ⟨_,rfl,by rw[sizeLine_eq];exact hl,k _ _ _ stA rs3 (.str _ (CV (Txt.slice_le _ _ _) hl))⟩
  .rename_i xs hx;rw[hx] at is3;cases ee
   cases is3 with|@fz a vs ds hq il =>
    refine .inr (.inl ⟨_,_,rfl,hq.sql,λpa hp=>?_⟩);have st4:Al H3 O3 (upd H3 pa (.lst (GV vs q.1 w.1))) (O3++[pa]):=⟨.new hp,Ai _ _⟩;exact k _ _ _ (stA.trans st4) (rs3.new hp ⟨_,CI,(SM il _ _).mono st4⟩) (.ref (by rw[<-rs3.len];simp))
  .rename_i kk hx;rw[hx] at is3;split at ee
   .rename_i xs e4;cases ee
    cases is3 with|ref hk =>
     obtain⟨vs,hv,il⟩:=rs3.ob _ _ _ hk e4;refine .inr (.inl ⟨_,_,rfl,BJ.of hv,λpa hp=>?_⟩);have st4:Al H3 O3 (upd H3 pa (.lst (GV vs q.1 w.1))) (O3++[pa]):=⟨.new hp,Ai _ _⟩;exact k _ _ _ (stA.trans st4) (rs3.new hp ⟨_,CI,(SM il _ _).mono st4⟩) (.ref (by rw[<-rs3.len];simp))
   .cases ee
  .rename_i xs hx;rw[hx] at is3;cases ee
   cases is3 with|@tup a vs ds hq il =>
    by_cases hw:HT.sIx vs.length 0 q.1=0/\HT.sIx vs.length vs.length w.1=vs.length
    .refine .inr (.inr (.inr ⟨_,vs,rfl,hq,hw,?_⟩))
     have e5:cutD xs q.1 w.1=xs:=by unfold cutD;rw[<-il.length,hw.1,hw.2,ALr,Nat.sub_zero,il.length,Ei]
     rw[e5] at k;exact k _ _ _ stA rs3 (.tup hq il)
    .refine .inr (.inr (.inl ⟨_,vs,rfl,hq,hw,λpa hp=>?_⟩));have st4:Al H3 O3 (upd H3 pa (.tup (GV vs q.1 w.1))) O3:=⟨.new hp,AW _⟩;exact k _ _ _ (stA.trans st4) (rs3.ext λa u e=>by rw[BU (DT e hp)];exact e) (.tup (Bd.of CI) ((SM il _ _).mono st4))
  .cases ee
end
section
variable {X:Cx}
abbrev BI:GL:=λxs L=>match xs with
 |[.str z]=>some (.int (z.length:Int),L)
 |[x]=>(match Cg x L with|some ys=>some (.int (ys.length:Int),L)|none=>none)
 |_=>none
def AK6:EU X (.builtin "len") BI:=Bx.weaken (Bx.or AGs AGt) λvs H Q z3_=>by
 obtain⟨O,L,xs,d,L',rs,is,e,k⟩:=z3_;unfold BI at e;split at e
 .cases e
  cases is with|cons i1 i2=>cases i2;cases i1 with|str _ hz =>
   exact .inl ⟨_,rfl,by rw[sizeLine_eq];exact hz,k _ _ _ (.refl _ _) rs (.int _)⟩
 .split at e
  .rename_i ys hy;cases e
   cases is with|cons i1 i2 =>
    cases i2;obtain⟨a,vs,rfl,hs,il⟩:=II rs i1 hy;exact .inr ⟨a,vs,rfl,hs,by rw[il.length];exact k _ _ _ (.refl _ _) rs (.int _)⟩
  .cases e
 .cases e
abbrev LJ:GL:=λxs L=>match xs with|[.int i]=>some (.int (if i<0 then -i else i),L)|_=>none
def ALA:EU X (.builtin "abs") LJ:=Bx.weaken AGw λvs H Q z3_=>by
 obtain⟨O,L,xs,d,L',rs,is,e,k⟩:=z3_;unfold LJ at e;split at e
 .cases e;cases is with|cons i1 i2=>cases i2;cases i1;exact⟨_,rfl,k _ _ _ (.refl _ _) rs (.int _)⟩
 .cases e
abbrev Np:GL:=λxs L=>match xs with|[.int i,.int j]=>some (.int (if j>i then j else i),L)|_=>none
abbrev JR:GL:=λxs L=>match xs with|[.int i,.int j]=>some (.int (if j<i then j else i),L)|_=>none
def AK2(hc:X.calm=true):EU X (.builtin "max") Np:=Bx.weaken (AGq hc) λvs H Q z3_=>by
 obtain⟨O,L,xs,d,L',rs,is,e,k⟩:=z3_;unfold Np at e;split at e
 .cases e;cases is with|cons i1 i2=>cases i2 with|cons i3 i4=>cases i4;cases i1;cases i3;exact⟨_,_,rfl,k _ _ _ (.refl _ _) rs (.int _)⟩
 .cases e
def AK1(hc:X.calm=true):EU X (.builtin "min") JR:=Bx.weaken (AGp hc) λvs H Q z3_=>by
 obtain⟨O,L,xs,d,L',rs,is,e,k⟩:=z3_;unfold JR at e;split at e
 .cases e;cases is with|cons i1 i2=>cases i2 with|cons i3 i4=>cases i4;cases i1;cases i3;exact⟨_,_,rfl,k _ _ _ (.refl _ _) rs (.int _)⟩
 .cases e
abbrev LH:GL:=λxs L=>match xs with|[.int i]=>some (.int i,L)|[.bl b]=>some (.int (if b then 1 else 0),L)|_=>none
def AK7:EU X (.type "int") LH:=Bx.weaken AGu λvs H Q z3_=>by
 obtain⟨O,L,xs,d,L',rs,is,e,k⟩:=z3_;unfold LH at e;split at e
 .cases e;cases is with|cons i1 i2=>cases i2;cases i1;exact .inl ⟨_,rfl,k _ _ _ (.refl _ _) rs (.int _)⟩
 .cases e;cases is with|cons i1 i2=>cases i2;cases i1;exact .inr ⟨_,rfl,k _ _ _ (.refl _ _) rs (.int _)⟩
 .cases e
abbrev FS:GL:=λxs L=>match xs with
 |[.tup ys]=>some (.tup ys,L)
 |[x]=>(match Cg x L with|some ys=>some (.tup ys,L)|none=>none)
 |_=>none
def AKx:EU X (.type "tuple") FS:=Bx.weaken AGm λvs H Q z3_=>by
 obtain⟨O,L,xs,d,L',rs,is,e,k⟩:=z3_;unfold FS at e;split at e
 .cases e;cases is with|cons i1 i2=>cases i2;cases i1 with|tup hq il=>exact⟨_,_,rfl,.inr ⟨hq,k _ _ _ (.refl _ _) rs (.tup hq il)⟩⟩
 .split at e
  .rename_i ys hy;cases e
   cases is with|cons i1 i2 =>
    cases i2;obtain⟨a,vs,rfl,hs,il⟩:=II rs i1 hy;rcases hs with hs|hs
    .refine⟨a,vs,rfl,.inl ⟨hs,λl hl=>?_⟩⟩;have st:Al H O (upd H l (.tup vs)) O:=⟨.new hl,AW _⟩;exact k _ _ _ st (rs.ext λb u e=>by rw[BU (DT e hl)];exact e) (.tup (Bd.of CI) (il.mono st))
    .exact⟨a,vs,rfl,.inr ⟨hs,k _ _ _ (.refl _ _) rs (.tup hs il)⟩⟩
  .cases e
 .cases e
abbrev LC:GL:=λxs L=>match xs with
 |[x]=>(match Cg x L with|some ys=>some (.ref L.length,L++[.lst ys])|none=>none)
 |_=>none
def AK4:EU X (.type "list") LC:=Bx.weaken AGr λvs H Q z3_=>by
 obtain⟨O,L,xs,d,L',rs,is,e,k⟩:=z3_;unfold LC at e;split at e
 .split at e
  .rename_i ys hy;cases e
   cases is with|cons i1 i2 =>
    cases i2;obtain⟨a,vs,rfl,hs,il⟩:=II rs i1 hy;refine⟨a,vs,rfl,hs,λl hl=>?_⟩;have st:Al H O (upd H l (.lst vs)) (O++[l]):=⟨.new hl,Ai _ _⟩;exact k _ _ _ st (rs.new hl ⟨_,CI,il.mono st⟩) (.ref (by rw[<-rs.len];simp))
  .cases e
 .cases e
def AGv(hc:X.calm=true):Bx X (.builtin "all") (λxs H Q=>∃(p:Addr) (bs:List Bool),xs=[.ref p]/\BJ X.K H p (bs.map V.bl)/\Q (.bl (bs.all id)) H):=by
 intro pins s Y H xs us Q I r h;obtain⟨p,bs,rfl,hq,q⟩:=h;obtain⟨u,rfl,rx⟩:=Dk r;cases rx;obtain⟨its,rv,pl,hz⟩:=I.list hq;have hI:∀b o,s.heap.get? b=some o->b≠s.heap.objs.size:=λb o e=>BV (Heap.lt_size e);obtain⟨ol,hol,hcl,nl,hdl⟩:=pl.isList;have hbs:bs.length=its.length:=by have:=rv.length;simpa using this
 refine call_all_walk (AM3 pl.isList ⟨s.heap.objs.size,_,_,_,_,_,λi=>(bs[i]?).getD true,rfl,
  Walks.list (A:=X.A.in1) (show X.A.in1.handled=none from I.ok.hd hc) s.heap.objs.size p (hI p ol hol) its.toArray,⟨⟨_,Heap.get?_push_size _ rfl,rfl,rfl⟩,⟨ol,Heap.get?_push_of_some _ hol,hcl,nl,hdl⟩⟩,?_,?_⟩)
 .intro i v s' Q' E' hv hQ;have hv':its[i]?=some v:=by simpa using hv
  have hi:i<its.length:=(Ax.mp hv').1;have hb:bs[i]?=some bs[i]:=by simp[hbs,hi]
  obtain⟨w',hw,rw'⟩:=rv.get (i:=i) (x:=.bl bs[i]) (by simp[hbs,hi]);rw[hv'] at hw;cases hw;cases rw';dsimp only at hQ;rw[hb] at hQ;exact AM1 hQ
 .intro h' tk kk;have I1:AI X pins Y H {s with heap:=h',toks:=tk}:=I.kept λb o e=>kk b o (by simpa using hI b o e) (Heap.get?_push_of_some _ e);refine⟨.bl (bs.all id),H,I1,?_,q⟩;show Value.bool _=Value.bool _
  congr 1
  rw[Be,<-hbs];rw[AMA,Bu,Bu];constructor
  .intro h b hb;obtain⟨i,hi,rfl⟩:=AML hb;have:=h i (CM.mpr hi);simpa[hi] using this
  .intro h i hi;have hi':=CM.mp hi;simpa[hi'] using h _ (AMj hi')
abbrev blsD:List D->Option (List Bool)
 |[]=>some []
 |.bl b::r=>(blsD r).map (b::·)
 |_=>none
def AGz{K:AL}{H:Hp}{O:ANG}:∀{vs:List V} {ds:List D} {bs:List Bool},AR K H O vs ds->blsD ds=some bs->vs=bs.map V.bl:=by
 intro vs ds bs h e
 induction ds generalizing vs bs with
 |nil=>cases h;cases e;rfl
 |cons d ds ih =>
  cases h with|cons a b =>
  cases a <;> simp only[blsD] at e <;> try (cases e;done)
  cases q:blsD ds with
  |none=>rw[q] at e;cases e
  |some r =>
   rw[q] at e;cases e;rw[ih b q];rfl
abbrev JU:GL:=λxs L=>match xs with
 |[.ref k]=>(match L[k]? with|some (.lst ds)=>(match blsD ds with|some bs=>some (.bl (bs.all id),L)|none=>none)|_=>none)
 |_=>none
def AK9(hc:X.calm=true):EU X (.builtin "all") JU:=Bx.weaken (AGv hc) λvs H Q z3_=>by
 obtain⟨O,L,xs,d,L',rs,is,e,k⟩:=z3_;unfold JU at e;split at e
 .split at e
  .rename_i ds hd;split at e
   .rename_i bs hb;cases e
    cases is with|cons i1 i2 =>
     cases i2
     cases i1 with|ref hk =>
      obtain⟨vs,hv,il⟩:=rs.ob _ _ _ hk hd;rw[AGz il hb] at hv;exact⟨_,bs,rfl,BJ.of hv,k _ _ _ (.refl _ _) rs (.bl _)⟩
   .cases e
  .cases e
 .cases e
end
noncomputable abbrev GM:=D->List D->AC->Option (D×AC)
abbrev rM(K:AL)(g:GM):V->List V->Hp->VK->Prop:=λv vs H Q=>∃O L x xs d L',Ap K H O L/\Is K H O v x/\AR K H O vs xs/\g x xs L=some (d,L') /\
 ∀w H' O',Al H O H' O'->Ap K H' O' L'->Is K H' O' w d->Q w H'
abbrev MtD(X:Cx)(id:String)(g:GM):Prop:=FJ X id (rM X.K g)
def FJ.weaken{X:Cx}{id:String}{r r':V->List V->Hp->VK->Prop}(h:FJ X id r)(i:∀x xs H Q,r' x xs H Q->r x xs H Q):FJ X id r' :=
 λpins s Y H x xs v us Q I rx rs q=>h pins s Y H x xs v us Q I rx rs (i _ _ _ _ q)
abbrev Ix(T:String)(x:D)(L:AC):Bool:=match x with
 |.str _=>T == "str"
 |.fz _=>T == "list"
 |.ref k=>match L[k]? with|some (.lst _)=>T == "list" | some (.dk _)=>T == "dict" | some (.dt _ _)=>T == "dict" | _=>false
 |_=>false
def Uc{K:AL}{H:Hp}{O:ANG}{L:AC}{T:String}{v:V}{x:D}(rs:Ap K H O L)(i:Is K H O v x)(h:Ix T x L=true):Mt K T v H:=by
 unfold Ix at h;split at h
 .cases i;exact beq_iff_eq.mp h
 .cases i with|fz hq il=>exact .inl ⟨beq_iff_eq.mp h,_,hq.sql⟩
 .cases i with|ref hk =>
   split at h
   .rename_i e;obtain⟨vs,hv,_⟩:=rs.ob _ _ _ hk e;exact .inl ⟨beq_iff_eq.mp h,_,BJ.of hv⟩
   .rename_i e;obtain⟨vs,hv,_⟩:=rs.ob _ _ _ hk e;exact .inr (.inr (.inl ⟨beq_iff_eq.mp h,.inl ⟨_,hv⟩⟩))
   .rename_i e;obtain⟨vs,hv,_⟩:=rs.ob _ _ _ hk e;exact .inr (.inr (.inl ⟨beq_iff_eq.mp h,.inr (.inr ⟨_,_,hv⟩)⟩))
   .cases h
 .cases h
abbrev Bt(T:String)(g:GM)(fo:EF)(fa:AF):EF:=λZ L=>(fo Z L).bind λx=>if Ix T x.1 x.2=true then (fa Z x.2).bind λy=>g x.1 y.1 y.2 else none
section
variable {X:Cx}{o e:Expr}{es:ANH}{fo:EF}{fa:AF}{name:Str}{apos cpos:Pos}{T id:String}{g:GM}
def AKs(pa:PlainAttrs T)(slot:Slot T name id)(hty:typeOf (.builtin id)=pure (.type "method_descriptor"))(hm:MtD X id g)(ho:AZ X o fo)
  (hbase:attributeBase o name X.env (eval o X.env)=eval o X.env:=by rfl) (hline:(apos.endLine == cpos.line)=true:=by rfl):AZ X (.Call (.Attribute o name apos) [] [] cpos) (Bt T g fo AG) :=
 PE.weaken (ADY pa slot hty hm ho hbase hline) λY H Q z3_=>by
  obtain⟨O,Z,L,d,L',r,e,k⟩:=z3_;unfold Bt at e;obtain⟨p,e1,e⟩:=bS e;split at e
  .rename_i ht;refine⟨O,Z,L,p.1,p.2,r,e1,λv H1 O1 st rs is=>⟨Uc rs is ht,O1,p.2,p.1,[],d,L',rs,is,.nil,e,λw H' O' st' rs' is'=>k w H' O' (st.trans st') rs' is'⟩⟩
  .cases e
def AKt(pa:PlainAttrs T)(slot:Slot T name id)(hty:typeOf (.builtin id)=pure (.type "method_descriptor"))(hm:MtD X id g)(ho:AZ X o fo)(ha:ES X (e::es) fa)
  (hbase:attributeBase o name X.env (eval o X.env)=eval o X.env:=by rfl)
  (hfew:decide ((e::es).length+([]:List Keyword).length+(if ([]:List Keyword).isEmpty then 0 else 1)<30)=true:=by rfl)
  (hline:(apos.endLine == cpos.line)=true:=by rfl) (hs:Ea e=true:=by rfl) (hplain:es.all Ea=true:=by rfl) :
  AZ X (.Call (.Attribute o name apos) (e::es) [] cpos) (Bt T g fo fa) :=
 PE.weaken (ADZ pa slot hty hm ho ha hbase (by rw[Vi (by rw[ALq,hs,hplain];rfl),hfew];rfl) hline (HM hs) (IK hplain)) λY H Q z3_=>by
  obtain⟨O,Z,L,d,L',r,e,k⟩:=z3_;unfold Bt at e;obtain⟨p,e1,e⟩:=bS e;split at e
  .rename_i ht;obtain⟨q,e2,e⟩:=bS e;refine⟨O,Z,L,p.1,p.2,r,e1,λv H1 O1 st rs is=>⟨Uc rs is ht,O1,Z,p.2,q.1,q.2,r.to st rs,e2,λvs H2 O2 st2 rs2 is2=>?_⟩⟩;exact⟨O2,q.2,p.1,q.1,d,L',rs2,is.mono st2,is2,e,λw H' O' st' rs' is'=>k w H' O' ((st.trans st2).trans st') rs' is'⟩
  .cases e
abbrev HY(f:Str->Bool):GM:=λx xs L=>match x,xs with|.str z,[]=>some (.bl (f z),L)|_,_=>none
abbrev gS0s(f:Str->Str):GM:=λx xs L=>match x,xs with|.str z,[]=>if (f z).length<=16777216 then some (.str (f z),L) else none|_,_=>none
def RX{id:String}{f:Str->Bool}(h:∀(z:Str) (t:Tok) (s:Shared) (Q E:ANL),Q (.bool (f z)) s->wpAny (model X.prog X.w) X.A (call (.builtin id) [.str z t]) Q E s):MtD X id (HY f) :=
 λpins s Y H x xs v us Q I rx rs z12_=>by
  obtain⟨O,L,dx,dxs,d,L',rp,ix,ixs,e,k⟩:=z12_;unfold HY at e;split at e
  .cases e;cases ix;cases ixs;cases rs;obtain⟨t,rfl⟩:=rx;exact h _ _ _ _ _ ⟨.bl _,H,I,rfl,k _ _ _ (.refl _ _) rp (.bl _)⟩
  .cases e
def WO{id:String}{f:Str->Str}(h:∀(z:Str) (t:Tok) (s:Shared) (Q E:ANL),Builtin.Str.tooLong (f z).length=false->Q (.str (f z) s.toks) {s with toks:=s.toks+1}->wpAny (model X.prog X.w) X.A (call (.builtin id) [.str z t]) Q E s):MtD X id (gS0s f) :=
 λpins s Y H x xs v us Q I rx rs z12_=>by
  obtain⟨O,L,dx,dxs,d,L',rp,ix,ixs,e,k⟩:=z12_;unfold gS0s at e;split at e
  .split at e
   .rename_i hz;cases e;cases ix;cases ixs;cases rs;obtain⟨t,rfl⟩:=rx;exact h _ _ _ _ _ (decide_eq_false (by rw[sizeLine_eq];omega)) ⟨.str _,H,I.tok _,⟨_,rfl⟩,k _ _ _ (.refl _ _) rp (.str _ hz)⟩
   .cases e
  .cases e
def AJd:MtD X "str.islower" (HY Txt.islower):=RX λ_ _ _ _ _ h=>SC.islower h
def AJc:MtD X "str.isupper" (HY Txt.isupper):=RX λ_ _ _ _ _ h=>SC.isupper h
def AJe:MtD X "str.isdigit" (HY Txt.isdigit):=RX λ_ _ _ _ _ h=>SC.isdigit h
def AJX:MtD X "str.upper" (gS0s Txt.upper):=WO λ_ _ _ _ _ hz h=>SC.upper hz h
def AJa:MtD X "str.lower" (gS0s Txt.lower):=WO λ_ _ _ _ _ hz h=>SC.lower hz h
abbrev BW:List D->Option (ANE)
 |[]=>some []
 |.str x::r=>(BW r).map (x::·)
 |_=>none
def VB{K:AL}{H:Hp}{O:ANG}:∀{vs:List V} {ds:List D} {ys:ANE},AR K H O vs ds->BW ds=some ys->vs=ys.map V.str:=by
 intro vs ds ys h e
 induction ds generalizing vs ys with
 |nil=>cases h;cases e;rfl
 |cons d ds ih =>
  cases h with|cons a b =>
  cases a <;> simp only[BW] at e <;> try (cases e;done)
  cases q:BW ds with
  |none=>rw[q] at e;cases e
  |some r =>
   rw[q] at e;cases e;rw[ih b q];rfl
def Qw:∀{ys:ANE} {us:ANF},Ab (ys.map V.str) us->StrsAre us ys
 |[],_,r=>by rw[AMB] at r;cases r;exact .nil
 |y::ys,_,r=>by
  rw[Aj] at r
  cases r with
  |cons r1 r2=>obtain⟨t,rfl⟩:=r1;exact .cons y t (Qw r2)
abbrev LG:GM:=λx xs L=>match x,xs with
 |.str sep,[y]=>(match Cg y L with|some ds=>(match BW ds with|some ys=>if (ys.map (·.length)).sum+ys.length*sep.length<=16777216 then some (.str (Txt.join sep ys),L) else none|none=>none)|none=>none)
 |_,_=>none
def join_len(sep:Str)(ys:ANE):(Txt.join sep ys).length<=(ys.map (·.length)).sum+ys.length*sep.length:=by show(Builtin.Str.glued sep ys).length<=_;rw[size_glued];exact Nat.add_le_add_left (ALm _ (Nat.sub_le _ _)) _
def AJb:MtD X "str.join" LG:=λpins s Y H x xs v us Q I rx rs z12_=>by
 obtain⟨O,L,dx,dxs,d,L',rp,ix,ixs,e,k⟩:=z12_;unfold LG at e;split at e
 .split at e
  .rename_i ds hd;split at e
   .rename_i ys hy;split at e
    .rename_i hz;cases e;cases ix
     cases ixs with|cons i1 i2 =>
      cases i2;obtain⟨t,rfl⟩:=rx;obtain⟨u,rfl,ru⟩:=Dk rs;obtain⟨a,vs,rfl,hs,il⟩:=II rp i1 hd;cases ru;have e1:=VB il hy;subst e1;have fin:∀t' k',EP X pins Y Q (.str (Txt.join _ ys) t') {s with toks:=k'}:=λt' k'=>⟨.str _,H,I.tok _,⟨_,rfl⟩,k _ _ _ (.refl _ _) rp (.str _ (CV (join_len _ _) hz))⟩;rcases hs with hs|hs
      .obtain⟨its,rv,pl,_⟩:=I.list hs;exact join_list pl.isList (by simpa using Qw rv) hz fin
      .obtain⟨its,rv,pl,_⟩:=I.tuple hs;exact join_tuple pl (by simpa using Qw rv) hz fin
    .cases e
   .cases e
  .cases e
 .cases e
abbrev Ep:GM:=λx xs L=>match x,xs with
 |.ref k,[y]=>(match L[k]? with|some (.lst ds)=>if ds.length<16777216 then some (.non,L.set k (.lst (ds++[y]))) else none|_=>none)
 |_,_=>none
def AJh:MtD X "list.append" Ep:=FJ.weaken (show FJ X "list.append" Vd from WM) λv vs H Q z4_=>by
 obtain⟨O,L,dx,dxs,d,L',rp,ix,ixs,e,k⟩:=z4_;unfold Ep at e;split at e
 .split at e
  .rename_i ds hd;split at e
   .rename_i hz;cases e
    cases ix with|@ref kk a hk =>
     cases ixs with|@cons v1 y1 _ _ i1 i2 =>
      cases i2;obtain⟨ws,hw,il⟩:=rp.ob _ _ _ hk hd;refine⟨_,ws,_,rfl,rfl,hw,by rw[il.length,sizeLine_eq];exact hz,?_⟩;have st:Al H O (upd H a (.lst (ws++[v1]))) O:=⟨.write hw id,AW _⟩;exact k _ _ _ st (rp.write (o':=.lst (ds++[_])) hk ⟨_,CI,(il.mono st).append (.cons (i1.mono st) .nil)⟩) .non
   .cases e
  .cases e
 .cases e
end
abbrev FO(x:D)(L:AC):Option String:=match x with
 |.non=>some "NoneType" | .bl _=>some "bool" | .int _=>some "int" | .str _=>some "str" | .tup _=>some "tuple" | .fz _=>some "list"
 |.ref k=>(match L[k]? with|some (.lst _)=>some "list" | some (.dk _)=>some "dict" | _=>none)
 |.ty _=>none
abbrev JN(t T:String):Bool:=t == T || (t == "bool"&&T == "int")
abbrev DH:GL:=λxs L=>match xs with
 |[x,.ty T]=>if ["int","str","bool","list","tuple","dict"].contains T then (FO x L).map λt=>(.bl (JN t T),L) else none
 |_=>none
section
variable {X:Cx}
def Ho(K:AL){t T:String}(ht:t∈["NoneType","bool","int","str","tuple","list","dict"])(hT:T∈["int","str","bool","list","tuple","dict"]):PySem.W.kitOne K (.type t) (.type T)=some (JN t T):=by
 simp only[AX,Db,or_false] at ht hT
 rcases ht with rfl|rfl|rfl|rfl|rfl|rfl|rfl <;> rcases hT with rfl|rfl|rfl|rfl|rfl|rfl <;> first|rfl|decide
def AK8:EU X (.builtin "isinstance") DH:=λpins s Y H xs us Q I r z9_=>by
 obtain⟨O,L,ds,d,L',rp,is,e,k⟩:=z9_;unfold DH at e;split at e
 .rename_i x T;split at e
  .rename_i hT;have hT':T∈["int","str","bool","list","tuple","dict"]:=by simpa using hT
   cases is with|cons i1 i2=>cases i2 with|cons i3 i4 =>
    cases i4;cases i3;obtain⟨u,u2,rfl,r1,r2⟩:=Qo r;cases r2
    cases ht:FO x L with
    |none=>rw[ht] at e;cases e
    |some t =>
     rw[ht] at e;cases e;have fin:∀tk,EP X pins Y Q (.bool (JN t T)) {s with toks:=tk}:=λtk=>⟨.bl _,H,I.tok _,rfl,k _ _ _ (.refl _ _) rp (.bl _)⟩
     cases i1 with
     |non=>cases ht;exact JL I r1 .non (Ho _ (by simp) hT') fin
     |bl b=>cases ht;exact JL I r1 (.bl b) (Ho _ (by simp) hT') fin
     |int b=>cases ht;exact JL I r1 (.int b) (Ho _ (by simp) hT') fin
     |str b _=>cases ht;exact JL I r1 (.str b) (Ho _ (by simp) hT') fin
     |tup hq il =>
      cases ht;cases r1;obtain⟨its,rv,pl,_⟩:=I.tuple hq;obtain⟨o,h1,h2,_⟩:=pl;exact Fz PySem.W.kitx_tuple I.kIn ⟨o,h1,h2⟩ (Ho _ (by simp) hT') (λz=>nomatch z) fin
     |fz hq il =>
      cases ht;cases r1;obtain⟨its,rv,pl,_⟩:=I.list hq.sql;obtain⟨o,h1,h2,_⟩:=pl.isList;exact Fz PySem.W.kitx_list I.kIn ⟨o,h1,h2⟩ (Ho _ (by simp) hT') (λz=>nomatch z) fin
     |ref hk =>
      simp only[FO] at ht;split at ht
      .rename_i e2;cases ht;obtain⟨vs,hv,_⟩:=rp.ob _ _ _ hk e2;exact JL I r1 (.lst hv) (Ho _ (by simp) hT') fin
      .rename_i e2;cases ht;obtain⟨vs,hv,_⟩:=rp.ob _ _ _ hk e2;exact JL I r1 (.dK hv) (Ho _ (by simp) hT') fin
      .cases ht
     |ty n=>cases ht
  .cases e
 .cases e
def AKU{x:Str}{T:String}{pos:Pos}(hm:X.mg x=none)(hv:bootBuiltins x=some (.type T))(hg:Gl X x:=by rfl)(hn:x≠"__name__":=by decide)(hd:(x == ("__debug__":Str))=false:=by decide):AZ X (.Name x pos) (AD (.ty T)) :=
 JX (ADa hg hm hv (v:=.ty T) rfl hn hd) λ_ _=>.ty T
def AGQ{x:Str}{v:V}{u:Value}{d:D}{pos:Pos}(hm:X.mg x=some u)(r:Ac v u)(i:∀H O,Is X.K H O v d)(hg:Gl X x:=by rfl)(hd:(x == ("__debug__":Str))=false:=by decide):AZ X (.Name x pos) (AD d):=JX (ADR hg hm r hd) i
end
abbrev LP(names fnames:List (Str×NameKind))(N N':ANE)(n:Nat)(idx:ANJ):Bool :=
 names.all (λp=>!(p.2 == .cell))&&names.all (λp=>!(p.2 == .local) || names.lookup p.1 == some .local)&&names.all (λp=>!(p.2 == .free) || fnames.lookup p.1 == some .cell || fnames.lookup p.1 == some .free) &&
 N'.length == n+idx.length&&(List.range idx.length).all λj=>match idx[j]? with
  |some i=>(match N'[n+j]?,N[i]? with|some x,some y=>x == y&&names.contains (x,.free)&&names.all (λp=>!(p.1 == x) || p.2 == .free)|_,_=>false)
  |none=>false
def AGi{X:Cx}{scope:Scope}{N N':ANE}{n:Nat}{idx:ANJ}{fnames:List (Str×NameKind)}(h1:scope.kind=.function)(hk:∀x,X.env.kindOf x=fnames.lookup x)(hN:X.N=N)(hc:LP scope.names fnames N N' n idx=true):Le X scope N' n idx:=by
 subst hN;unfold LP at hc;simp only[Bz] at hc;obtain⟨⟨⟨⟨c1,c2⟩,c3⟩,c4⟩,c5⟩:=hc;rw[Bu] at c1 c2 c3 c5;refine⟨h1,λy hy e=>?_,λy hy e=>?_,λy hy e=>?_,beq_iff_eq.mp c4,λj i e=>?_⟩
 .have:=c1 y hy;rw[e] at this;exact absurd this (by decide)
 .have:=c2 y hy;rw[e] at this;simpa using this
 .have:=c3 y hy;rw[e] at this;rw[hk];simpa using this
 .have hj:=(Ax.mp e).1;have:=c5 j (CM.mpr hj);rw[e] at this;simp only at this
  cases q1:N'[n+j]? with
  |none=>simp[q1] at this
  |some x =>
   cases q2:X.N[i]? with
   |none=>simp[q1,q2] at this
   |some y =>
    simp only[q1,q2,Bz] at this;obtain⟨⟨a1,a2⟩,a3⟩:=this;have a1':x=y:=beq_iff_eq.mp a1;subst a1';refine⟨x,rfl,rfl,by simpa using a2,λk hk'=>?_⟩;rw[Bu] at a3;have:=a3 _ hk';simpa using this
open PySem.W in
def AG9{l:OpenLaw}{n:Nat}{q:Program}{loose:ANE}{XP:(AND)->Heap->Prop}{YP:World->Heap->Prop}{d:DefRec}
  (hn:l.most=some n) (hdf:d.params.defaults=[])
  (call:∀(w:World) (s₀ s₁:Shared) (mg mb:AND) (fa:Addr) (a:Addr) (vs:ANF) (ns:ANK),
   Ground q loose [] XP w s₀ mg mb s₁.heap->YP w s₁.heap->mg d.name=some (.ref fa) ->
   s₁.heap.get? a=some {cls:=.type "list",data:=.seq vs.toArray}->IntsAre vs ns->ns.length<=n->(∀z∈ns,Builtin.Int.intBits z<=1048576)->s₁.gens=#[] ->
   codeAny (model l.prog w) callerA (.call (.ref fa) ⟨[.ref a],[]⟩) (λr s'=>r=.ok (.ret (.bool true))/\OldK s₁.heap s'.heap/\s'.os=s₁.os/\AllBare s'.gens) s₁) :
  WalkO q loose XP YP l.row.toRowW d [] (λf vs=>PySem.call f vs):=by
 intro w s₀ s₁ mg mb G Y_ fa o pm cd doc dV kV ho hd hcd hD hmg hg args vals as hpre hlay hrd hwl hlo;obtain rfl:dV=.none:=Dflts.none hD hdf;obtain rfl:kV=.none:=Dflts.noKw hD;obtain⟨a,vs,ns,rfl,rfl,hobj,hints,hlen⟩:=Att.AIx hn hpre hwl
 have hb:∀z∈ns,Builtin.Int.intBits z<=1048576:=λz hz=>by
  have h1:=layableW_arg hlay _ Az;have h2:=layableW_item h1 (.int z) (Aq.mpr ⟨z,hz,rfl⟩);have h3:=(layableW_iff.mp h2).2.2;simpa only[WData.weight,Builtin.Int.intBits] using h3
 refine enter_call (codeAny_mono (call w s₀ s₁ mg mb fa a vs ns G Y_ hmg hobj hints hlen hb hg) λr s' hq=>?_);obtain⟨rfl,h2,h3,h4⟩:=hq;exact⟨.inl ⟨.bool true,.bool true,[],rfl,λ_=>rfl,.bool true,Att.AI3 l _,λ_=>⟨List.Pairwise.nil,λ_ hm=>(nomatch hm)⟩⟩,h2,h3,h4⟩
def Wu{K:AL}{H:Hp}{O:ANG}:∀ns:ANK,AR K H O (ns.map V.int) (ns.map D.int)
 |[]=>.nil
 |n::ns=>.cons (.int n) (Wu ns)
def walk_f{l:PySem.W.OpenLaw}{n k:Nat}{q:Program}{loose:ANE}{XP:(AND)->Heap->Prop}{YP:World->Heap->Prop}{d:DefRec}{K:Params->AL}{x:Str}{G:GL}
  (hn:l.most=some n) (hn2:n<=sizeLine) (hdf:d.params.defaults=[]) (hr:Room k callerA)
  (hY:∀(w:World) (h:Heap),YP w h->(K w.params).In h)
  (F:∀(w:World) (mg:AND) (fa:Addr) (h:Heap),(K w.params).In h->h.Ns mainGlobals mg->mg d.name=some (.ref fa) ->
   ∃fd:FuncData,(∀(s:Shared) (u:Value),BindsTo s fd ⟨[u],[]⟩ [(x,u)]) /\
    ∀base:Heap,(K w.params).In base->base.Ns mainGlobals mg->DK l.prog w (K w.params) mg base CX0 k fa fd [x] (Gv (K w.params) G))
  (hG:∀ns:ANK,ns.length<=n->(∀z∈ns,Builtin.Int.intBits z<=1048576)->∃L',G [.fz (ns.map .int)] []=some (.bl true,L')) :
  PySem.W.WalkO q loose XP YP l.row.toRowW d [] (λf vs=>PySem.call f vs):=by
 refine AG9 hn hdf λw s₀ s₁ mg mb fa a vs ns GG Y_ hmg hobj hints hlen hb hg=>?_;have KX:=hY w _ Y_;obtain⟨fd,hbd,hF⟩:=F w mg fa _ KX GG.T.g hmg;refine AE4 KX GG.T.g GG.T.b GG.T.builtins GG.T.nolimit hg hobj hints (CV hlen hn2) hr hF hbd (λH hO hS=>?_) λH e s' h=>h;obtain⟨L',e⟩:=hG ns hlen hb
 have hS':SqF (K w.params) H a (ns.map V.int):=by
  rcases hS with(h|h)|h
  .rcases hO a with z|⟨o,xs,z⟩
   .rw[h] at z;cases z
   .rw[h] at z;cases z
  .exact .inl h
  .exact .inr h
 exact⟨[],[],[.fz (ns.map .int)],.bl true,L',⟨rfl,Gm,λk a o e=>by simp at e⟩,.cons (.fz hS' (Wu ns)) .nil,e,λw' H' O' st rs is=>by cases is;rfl⟩
section
variable {X:Cx}{a l tg:Expr}{f:EF}{pos:Pos}
abbrev HZ:G1:=λx L=>match x with|.int i=>some (.int (-i),L)|_=>none
def AKd(ha:AZ X a f):AZ X (.UnaryOp .USub a pos) (BG HZ f):=PE.weaken (ADD AAd ha) λY H Q z3_=>by
 obtain⟨O,Z,L,d,L',r,e,k⟩:=z3_;unfold BG at e;obtain⟨p,e1,e⟩:=bS e;obtain⟨x,L1⟩:=p
 cases x <;> simp only[AT,HZ] at e <;> try (cases e;done)
 cases e;refine⟨O,Z,L,_,_,r,e1,λv H1 O1 st rs is=>?_⟩;cases is;exact⟨_,rfl,k _ _ _ st rs (.int _)⟩
structure EG (K:AL) (mg:AND) (x:Str) (d:D):Prop where
 ex:∃v u,mg x=some u/\Ac v u/\∀H O,Is K H O v d
def AKj{x:Str}{d:D}(h:EG X.K X.mg x d)(hg:Gl X x:=by rfl)(hd:(x == ("__debug__":Str))=false:=by decide):AZ X (.Name x pos) (AD d):=by obtain⟨v,u,a,b,c⟩:=h.ex;exact AGQ a b c hg hd
abbrev JK(d:D)(L:AC):Option Lb:=match d with
 |.tup xs=>some ⟨xs,λ_=>true⟩
 |.fz xs=>some ⟨xs,λ_=>true⟩
 |.ref k=>(match L[k]? with|some (.lst xs)=>some ⟨xs,λL'=>decide (L'[k]?=some (.lst xs))⟩|_=>none)
 |.str y=>some ⟨sgs y,λ_=>true⟩
 |_=>none
abbrev Ba(f:EF):IF:=λZ L=>(f Z L).bind λx=>(JK x.1 x.2).bind λJ=>some (J,x.2)
def AJB(hl:AZ X l f):EC X tg l (Ba f):=λpins s Y H R I z6_=>by
 obtain⟨O,Z,L,J,L',r,e,k⟩:=z6_;unfold Ba at e;obtain⟨p,e1,e⟩:=bS e;obtain⟨d,L1⟩:=p;simp only[AT] at e
 cases d <;> simp only[JK,AT,Option.bind_none] at e <;> try (cases e;done)
 .exact ACy hl pins s Y H R I ⟨O,Z,L,J,L',r,by simp only[Rt,e1,AT];exact e,k⟩
 .exact ACx hl pins s Y H R I ⟨O,Z,L,J,L',r,by simp only[Rs,e1,AT];exact e,k⟩
 .exact Vo hl pins s Y H R I ⟨O,Z,L,J,L',r,by simp only[Na,e1,AT];exact e,k⟩
 .rename_i kk;refine Vo hl pins s Y H R I ⟨O,Z,L,J,L',r,?_,k⟩;simp only[Na,e1,AT]
  cases e2:L1[kk]? with
  |none=>rw[e2] at e;cases e
  |some o=>rw[e2] at e;cases o <;> simp at e ⊢ <;> exact e
end
def ALK:bootBuiltins "int"=some (.type "int"):=by decide +kernel
def ALE:bootBuiltins "str"=some (.type "str"):=by decide +kernel
def ALL:bootBuiltins "bool"=some (.type "bool"):=by decide +kernel
def ALI:bootBuiltins "list"=some (.type "list"):=by decide +kernel
def ALC:bootBuiltins "tuple"=some (.type "tuple"):=by decide +kernel
def AGy:bootBuiltins "len"=some (.builtin "len"):=by decide +kernel
def ALN:bootBuiltins "abs"=some (.builtin "abs"):=by decide +kernel
def ALG:bootBuiltins "min"=some (.builtin "min"):=by decide +kernel
def ALH:bootBuiltins "max"=some (.builtin "max"):=by decide +kernel
def ALM:bootBuiltins "all"=some (.builtin "all"):=by decide +kernel
def ALJ:bootBuiltins "isinstance"=some (.builtin "isinstance"):=by decide +kernel
abbrev BlOk(mg:AND)(ns:ANE):Prop:=∀x∈ns,mg x=none
def BlOk.get{mg:AND}{ns:ANE}(h:BlOk mg ns)(x:Str)(hx:x∈ns:=by decide):mg x=none:=h x hx
abbrev BF(p:Program)(i:Nat):Stmt:=p.main.body.getD i (.Pass ⟨0,0,0,0⟩)
abbrev Am(B:SF)(N:ANE)(n:Nat):GL:=λxs L=>if xs.length=n then
  (match B (Fe N xs) L with
   |some (.ret d L2)=>some (if d.noRef=true/\L2.take L.length=L then (d,L) else (d,L2))
   |some (.next _ L2)=>some (if L2.take L.length=L then (.non,L) else (.non,L2))
   |_=>none)
 else none
def NF{L L2:AC}(h:L2.take L.length=L):L <+: L2:=⟨L2.drop L.length,by have:=AMk L.length L2;rw[h] at this;exact this⟩
def Qz{B:SF}{N:ANE}{n:Nat}{xs:List D}{L:AC}{d:D}{L':AC}(h:Am B N n xs L=some (d,L')):Yo B N xs L d L':=by
 unfold Am at h;split at h
 .split at h
  .rename_i d2 L2 e;split at h
   .rename_i c;cases h;exact⟨L2,.inl e,.inr ⟨rfl,NF c.2,c.1⟩⟩
   .cases h;exact⟨_,.inl e,.inl rfl⟩
  .rename_i Z L2 e;split at h
   .rename_i c;cases h;exact⟨L2,.inr ⟨rfl,Z,e⟩,.inr ⟨rfl,NF c,rfl⟩⟩
   .cases h;exact⟨_,.inr ⟨rfl,Z,e⟩,.inl rfl⟩
  .cases h
 .cases h
def RA{B:SF}{N:ANE}{n:Nat}{xs:List D}{L:AC}{r:D×AC}(h:Am B N n xs L=some r):xs.length=n:=by
 unfold Am at h;split at h
 .assumption
 .cases h
section
variable {P:Program}{w:World}{K:AL}{mg:AND}{base:Heap}
def SJ{x qual:Str}{st:Stmt}{f:Addr}{fd:FuncData}{N ps:ANE}{k:Nat}{B:SF}(Fn:Hd K x qual st f fd)(S:Aw N ps (Ag st))
  (hb:∀(cdv:Value) (A:Around) (outer:List Env) (s:Shared) (H:Hp) (E:XK),Room k (A.deeper (envOfC qual (Ag st) s.heap.objs.size f cdv)) ->
   FH (Ci CX0 P w K mg base N qual (Ag st) f cdv A outer s H E).nox (FW st) B)
  (bi:EV K fd ps []) (m:mg x=some (.ref f)) (kp:GA K (.ref f)=true):Ao P w K mg base (k+1) x (Am B N ps.length) :=
 ⟨f,fd,ps,SK Fn S _ B (λ_ _ _ h=>RA h) hb (λ_ _ _ _ h=>Qz h),m,kp,bi⟩
structure TupK (K:AL) (u:Value) (d:D):Prop where
 ex:∃v,Ac v u/\∀H O,Is K H O v d
def HL{i:Int}{t:Tok}:TupK K (.int i t) (.int i):=⟨.int i,⟨t,rfl⟩,λ_ _=>.int i⟩
def Dv{x:Str}{t:Tok}(h:x.length<=16777216):TupK K (.str x t) (.str x):=⟨.str x,⟨t,rfl⟩,λ_ _=>.str x h⟩
def AAo:TupK K .none .non:=⟨.non,rfl,λ_ _=>.non⟩
inductive TupsK (K:AL):ANF->List D->Prop
 |nil:TupsK K [] []
 |cons {u:Value} {d:D} {us:ANF} {ds:List D}:TupK K u d->TupsK K us ds->TupsK K (u::us) (d::ds)
def TupsK.get:∀{us:ANF} {ds:List D},TupsK K us ds->∃vs,Ab vs us/\∀H O,AR K H O vs ds
 |_,_,.nil=>⟨[],.nil,λ_ _=>.nil⟩
 |_,_,.cons a b=>by
  obtain⟨v,r,i⟩:=a.ex;obtain⟨vs,rs,is⟩:=b.get;exact⟨v::vs,.cons r rs,λH O=>.cons (i H O) (is H O)⟩
def Gs{a:Addr}{od:Option Addr}{its:ANF}{n:Nat}{sl:Array (Option Value)}{ds:List D}(l:K.lookup a=some ⟨.type "tuple",od,.seq its.toArray n,sl⟩)(hz:its.length<=sizeLine)(t:TupsK K its ds):TupK K (.ref a) (.tup ds):=by obtain⟨vs,rv,is⟩:=t.get;exact⟨.ref a,rfl,λH O=>.tup (.inr ⟨_,its.toArray,n,l,rfl,rfl,by simpa using hz,by simpa using rv⟩) (is H O)⟩
def Hs{x:Str}{u:Value}{d:D}(m:mg x=some u)(t:TupK K u d):EG K mg x d:=by obtain⟨v,r,i⟩:=t.ex;exact⟨v,u,m,r,i⟩
end
def Wg{U:Type}{us:List U}(h:us.length=1):∃a,us=[a]:=List.length_eq_one_iff.mp h
def Rf{U:Type}{us:List U}{n:Nat}(h:us.length=n+1):∃a vs,us=a::vs/\vs.length=n:=by
 cases us with
 |nil=>cases h
 |cons a vs=>exact⟨a,vs,rfl,Nat.succ.inj h⟩
def AE1{U:Type}{us:List U}(h:us.length=0):us=[]:=AL4.mp h
def JI{U:Type}{us:List U}(h:us.length=2):∃a b,us=[a,b]:=by obtain⟨a,vs,rfl,h'⟩:=Rf h;obtain⟨b,rfl⟩:=Wg h';exact⟨a,b,rfl⟩
def Hn{U:Type}{us:List U}(h:us.length=3):∃a b c,us=[a,b,c]:=by obtain⟨a,vs,rfl,h'⟩:=Rf h;obtain⟨b,c,rfl⟩:=JI h';exact⟨a,b,c,rfl⟩
def AE0{U:Type}{us:List U}(h:us.length=4):∃a b c d,us=[a,b,c,d]:=by obtain⟨a,vs,rfl,h'⟩:=Rf h;obtain⟨b,c,d,rfl⟩:=Hn h';exact⟨a,b,c,d,rfl⟩
abbrev DO(x:D)(L:AC):Option (Bool×List D):=match x with
 |.tup xs=>some (true,xs)
 |.fz xs=>some (false,xs)
 |.ref k=>(match L[k]? with|some (.lst xs)=>some (false,xs)|_=>none)
 |_=>none
abbrev Fu:List (Option Bool)->Option Bool
 |[]=>some true
 |none::_=>none
 |some b::r=>(Fu r).map (b&&·)
abbrev DQ:Nat->AC->D->D->Option Bool
 |0,_,_,_=>none
 |n+1,L,x,y =>
  if BD x=true then (if BD y=true then some (JW x y) else (DO y L).map λ_=>false)
  else (DO x L).bind λp=>if BD y=true then some false else (DO y L).bind λq =>
   if p.1=q.1 then (Fu ((p.2.zip q.2).map λz=>DQ n L z.1 z.2)).map (·&&p.2.length == q.2.length) else some false
def Xo(n:Nat)(L:AC)(x y:D):DQ (n+1) L x y=if BD x=true then (if BD y=true then some (JW x y) else (DO y L).map λ_=>false)
  else (DO x L).bind λp=>if BD y=true then some false else (DO y L).bind λq =>
   if p.1=q.1 then (Fu ((p.2.zip q.2).map λz=>DQ n L z.1 z.2)).map (·&&p.2.length == q.2.length) else some false:=rfl
def Se:∀{os:List (Option Bool)} {b:Bool},Fu os=some b->∃bs:List Bool,os=bs.map some/\b=bs.all id
 |[],b,h=>by cases h;exact⟨[],rfl,rfl⟩
 |none::_,b,h=>by cases h
 |some c::r,b,h=>by
  simp only[Fu] at h
  cases e:Fu r with
  |none=>rw[e] at h;cases h
  |some d =>
   rw[e] at h;cases h;obtain⟨bs,e1,e2⟩:=Se e;exact⟨c::bs,by rw[e1];rfl,by rw[e2];rfl⟩
section
variable {X:Cx}{pins:List (Addr×Obj)}{Y:L2.St}{H:Hp}{s:Shared}{O:ANG}{L:AC}
def Hj(I:AI X pins Y H s)(rs:Ap X.K H O L){v:V}{x:D}{t:Bool}{xs:List D}(i:Is X.K H O v x)(e:DO x L=some (t,xs)) :
  ∃(a:Addr) (vs:List V) (its:ANF),v=.ref a/\AR X.K H O vs xs/\Ab vs its/\(if t=true then s.heap.IsTuple a its.toArray else s.heap.IsList a its.toArray):=by
 cases i with
 |tup h il =>
  cases e;obtain⟨its,r,hp,_⟩:=I.tuple h;exact⟨_,_,its,rfl,il,r,hp⟩
 |fz h il =>
  cases e;obtain⟨its,r,hp,_⟩:=I.list h.sql;exact⟨_,_,its,rfl,il,r,hp.isList⟩
 |ref hk =>
  simp only[DO] at e;split at e
  .rename_i ys e2;cases e;obtain⟨vs,hv,iv⟩:=rs.ob _ _ _ hk e2;obtain⟨its,r,hp,_⟩:=I.list (BJ.of hv);exact⟨_,vs,its,rfl,iv,r,hp.isList⟩
  .cases e
 |_=>cases e
def ABt{a:Addr}{us ws:ANF}{t:Bool}(h1:if t=true then s.heap.IsTuple a us.toArray else s.heap.IsList a us.toArray)(h2:if t=true then s.heap.IsTuple a ws.toArray else s.heap.IsList a ws.toArray):us=ws:=by
 have q:us.toArray=ws.toArray:=by
  cases t
  .obtain⟨o,ho,hc,n,hd⟩:=h1;obtain⟨o2,ho2,hc2,n2,hd2⟩:=h2;rw[ho] at ho2;cases ho2;rw[hd] at hd2;cases hd2;rfl
  .obtain⟨o,ho,hc,n,hd⟩:=h1;obtain⟨o2,ho2,hc2,n2,hd2⟩:=h2;rw[ho] at ho2;cases ho2;rw[hd] at hd2;cases hd2;rfl
 simpa using congrArg Array.toList q
def Xg{v:V}{x:D}{a:Addr}(i:Is X.K H O v x)(f:BD x=true):v≠.ref a:=by cases i <;> first|(intro z;cases z;done)|(simp[BD] at f)
def LL{x:D}(f:BD x=true):JW x x=true:=by
 cases x with
 |non=>rfl
 |bl b=>exact(beq_self_eq_true b:(b == b)=true)
 |int b=>exact(beq_self_eq_true b:(b == b)=true)
 |str b=>exact(beq_self_eq_true b:(b == b)=true)
 |_=>exact GC (show false=true from f)
def Xp(I:AI X pins Y H s)(rs:Ap X.K H O L):∀(n:Nat) {v:V} {x y:D} {b:Bool},Is X.K H O v x->Is X.K H O v y->DQ n L x y=some b->b=true
 |0,_,_,_,_,_,_,e=>by cases e
 |n+1,v,x,y,b,ix,iy,e=>by
  simp only[DQ] at e
  by_cases fx:BD x=true
  .rw[if_pos fx] at e
   by_cases fy:BD y=true
   .rw[if_pos fy] at e;cases e;have:x=y:=(Kg fx fy).mp ((FB ix fx).symm.trans (FB iy fy));subst this;exact LL fx
   .rw[if_neg fy] at e
    cases hy:DO y L with
    |none=>rw[hy] at e;cases e
    |some q =>
     obtain⟨a,_,_,hv,_⟩:=Hj I rs iy hy;exact absurd hv (Xg ix fx)
  .rw[if_neg fx] at e
   cases hx:DO x L with
   |none=>rw[hx] at e;cases e
   |some p =>
    rw[hx] at e;simp only[AT] at e;obtain⟨a,vs,its,hv,il,r,hp⟩:=Hj I rs ix hx
    by_cases fy:BD y=true
    .exact absurd hv (Xg iy fy)
    .rw[if_neg fy] at e
     cases hy:DO y L with
     |none=>rw[hy] at e;cases e
     |some q =>
      rw[hy] at e;simp only[AT] at e;obtain⟨a',vs',its',hv',il',r',hp'⟩:=Hj I rs iy hy;rw[hv] at hv';cases hv';obtain⟨t,xs⟩:=p;obtain⟨t',ys⟩:=q;simp only at e hp hp' il il'
      by_cases ht:t=t'
      .subst ht;rw[if_pos rfl] at e;have hits:=ABt hp hp';subst hits;have hvs:=r.inj r';subst hvs
       cases q:Fu ((xs.zip ys).map λz=>DQ n L z.1 z.2) with
       |none=>rw[q] at e;cases e
       |some c =>
        rw[q] at e;cases e;obtain⟨bs,e1,rfl⟩:=Se q;rw[Bz];refine⟨?_,beq_iff_eq.mpr (il.length.symm.trans il'.length)⟩;rw[Bu];intro c hc;obtain⟨j,hj,rfl⟩:=AML hc;have e2:((xs.zip ys).map λz=>DQ n L z.1 z.2)[j]?=some (some bs[j]):=by rw[e1];simp[hj]
        rw[Ar] at e2
        cases e3:(xs.zip ys)[j]? with
        |none=>rw[e3] at e2;cases e2
        |some z =>
         rw[e3] at e2;simp only[AMC,Option.some.injEq] at e2;rw[List.getElem?_zip_eq_some] at e3;obtain⟨v1,h1,i1⟩:=il.get e3.1;obtain⟨v2,h2,i2⟩:=il'.get e3.2;rw[h1] at h2;cases h2;exact Xp I rs n i1 i2 e2
      .exfalso
       cases t <;> cases t' <;> first|exact ht rfl|skip
       .exact SeqAt.ne_of_list_tuple hp hp' rfl
       .exact SeqAt.ne_of_list_tuple hp' hp rfl
def Xf{A:Around}{v u:V}{a:Addr}{w w':Value}{its:ANF}{t:Bool}(hu:A.units<cLine)(f:Fp v=true)(rv:Ac v w)(hp:if t=true then s.heap.IsTuple a its.toArray else s.heap.IsList a its.toArray) :
  SeqAt.EqAt A s w (.ref a) false/\SeqAt.EqAt A s (.ref a) w false:=by
 cases v with
 |non=>cases rv;cases t;exact⟨.none_list hp hu,.list_none hp hu⟩;exact⟨.none_tuple hp hu,.tuple_none hp hu⟩
 |bl b=>cases rv;cases t;exact⟨.bool_list b hp hu,.list_bool b hp hu⟩;exact⟨.bool_tuple b hp hu,.tuple_bool b hp hu⟩
 |int b=>obtain⟨k,rfl⟩:=rv;cases t;exact⟨.int_list b k hp hu,.list_int b k hp hu⟩;exact⟨.int_tuple b k hp hu,.tuple_int b k hp hu⟩
 |str b=>obtain⟨k,rfl⟩:=rv;cases t;exact⟨.str_list b k hp hu,.list_str b k hp hu⟩;exact⟨.str_tuple b k hp hu,.tuple_str b k hp hu⟩
 |_=>cases f
def Yh(bs:List Bool):(List.range bs.length).all (λj=>bs.getD j false)=bs.all id:=by
 rw[AMA,Bu,Bu];constructor
 .intro h c hc;obtain⟨j,hj,rfl⟩:=AML hc;have:=h j (CM.mpr hj);simpa[hj] using this
 .intro h j hj;have hj':=CM.mp hj;have:=h bs[j] (AMj hj');simpa[hj'] using this
def ADg{A:Around}{xs ys:List D}{vs ws:List V}{us zs:ANF}{n:Nat}{bs:List Bool}(ix:AR X.K H O vs xs)(iy:AR X.K H O ws ys)(rx:Ab vs us)(ry:Ab ws zs)
  (e1:(xs.zip ys).map (λz=>DQ n L z.1 z.2)=bs.map some)
  (rec:∀{v w:V} {x y:D} {u z:Value} {b:Bool},Is X.K H O v x->Is X.K H O w y->Ac v u->Ac w z->DQ n L x y=some b->SeqAt.EqAt A s u z b) :
  ∀j (h1:j<us.toArray.size) (h2:j<zs.toArray.size),SeqAt.EqAt A s us.toArray[j] zs.toArray[j] (bs.getD j false):=by
 intro j h1 h2;have h1':j<us.length:=by simpa using h1
 have h2':j<zs.length:=by simpa using h2
 have hx:j<xs.length:=by rw[<-ix.length,rx.length];exact h1'
 have hy:j<ys.length:=by rw[<-iy.length,ry.length];exact h2'
 obtain⟨v,hv,iv⟩:=ix.get (i:=j) (d:=xs[j]) (by simp[hx]);obtain⟨w,hw,iw⟩:=iy.get (i:=j) (d:=ys[j]) (by simp[hy]);obtain⟨u,hu,ru⟩:=rx.get hv;obtain⟨z,hz,rz⟩:=ry.get hw
 have eu:us.toArray[j]=u:=by have:=Ax.mp hu;obtain⟨_,q⟩:=this;simpa using q
 have ez:zs.toArray[j]=z:=by have:=Ax.mp hz;obtain⟨_,q⟩:=this;simpa using q
 rw[eu,ez]
 have hb:j<bs.length:=by have:=congrArg List.length e1;simp at this;omega
 have e2:((xs.zip ys).map λz=>DQ n L z.1 z.2)[j]?=some (some bs[j]):=by rw[e1];simp[hb]
 have e3:(xs.zip ys)[j]?=some (xs[j],ys[j]):=by rw[List.getElem?_zip_eq_some];exact⟨by simp[hx],by simp[hy]⟩
 rw[Ar,e3] at e2;simp only[AMC,Option.some.injEq] at e2;have e4:bs.getD j false=bs[j]:=by simp[hb]
 rw[e4];exact rec iv iw ru rz e2
def VR{A:Around}{a c:Addr}{xs ys:List D}{vs ws:List V}{us zs:ANF}{n:Nat}{t b:Bool}(hu:A.units<cLine)(ix:AR X.K H O vs xs)(iy:AR X.K H O ws ys)(rx:Ab vs us)(ry:Ab ws zs)
  (hp:if t=true then s.heap.IsTuple a us.toArray else s.heap.IsList a us.toArray) (hq:if t=true then s.heap.IsTuple c zs.toArray else s.heap.IsList c zs.toArray)
  (e:(Fu ((xs.zip ys).map λz=>DQ n L z.1 z.2)).map (·&&xs.length == ys.length)=some b)
  (rec:∀{v w:V} {x y:D} {u z:Value} {b:Bool},Is X.K H O v x->Is X.K H O w y->Ac v u->Ac w z->DQ n L x y=some b->SeqAt.EqAt A.in1 s u z b) :
  SeqAt.RcAt A s (.ref a) (.ref c) b/\SeqAt.RcNeAt A s (.ref a) (.ref c) (!b):=by
 cases q:Fu ((xs.zip ys).map λz=>DQ n L z.1 z.2) with
 |none=>rw[q] at e;cases e
 |some k =>
  rw[q] at e;cases e;obtain⟨bs,e1,rfl⟩:=Se q;have he:=ADg ix iy rx ry e1 rec;have lx:us.toArray.size=xs.length:=by simp[<-rx.length,ix.length]
  have ly:zs.toArray.size=ys.length:=by simp[<-ry.length,iy.length]
  have lb:bs.length=min xs.length ys.length:=by have:=congrArg List.length e1;simpa using this.symm
  cases t
  .by_cases hl:xs.length=ys.length
   .have h1:=SeqAt.RcAt.lists hp hq (by omega) hu he;have h2:=SeqAt.RcNeAt.lists hp hq (by omega) hu he;rw[show us.toArray.size=bs.length by omega,Yh] at h1 h2;have:(xs.length == ys.length)=true:=beq_iff_eq.mpr hl;rw[this];simp only[Bool.and_true];exact⟨h1,h2⟩
   .have:(xs.length == ys.length)=false:=by simpa using hl
    rw[this];simp only[Bool.and_false];have hne:(us.toArray.size != zs.toArray.size)=true:=by rw[lx,ly];simpa using hl
    exact⟨SeqAt.RcAt.lists_lengths hp hq hne hu,SeqAt.RcNeAt.lists_lengths hp hq hne hu⟩
  .have h1:=SeqAt.RcAt.tuples hp hq hu he;have h2:=SeqAt.RcNeAt.tuples hp hq hu he;rw[lx,ly,<-lb,Yh] at h1 h2;exact⟨h1,h2⟩
def Xr(I:AI X pins Y H s)(rs:Ap X.K H O L):∀(n:Nat) {A:Around} {v w:V} {x y:D} {u z:Value} {b:Bool},A.units+n<cLine->Is X.K H O v x->Is X.K H O w y->Ac v u->Ac w z->DQ n L x y=some b->SeqAt.EqAt A s u z b
 |0,_,_,_,_,_,_,_,_,_,_,_,_,_,e=>by cases e
 |n+1,A,v,w,x,y,u,z,b,hu,ix,iy,ru,rz,e=>by
  have e0:=e;simp only[DQ] at e
  by_cases fx:BD x=true
  .rw[if_pos fx] at e
   by_cases fy:BD y=true
   .rw[if_pos fy] at e;cases e;have h1:=FB ix fx;have h2:=FB iy fy;subst h1 h2;exact Xs ru rz (JV fx) (JV fy)
   .rw[if_neg fy] at e
    cases hy:DO y L with
    |none=>rw[hy] at e;cases e
    |some q =>
     rw[hy] at e;cases e;obtain⟨a,_,its,rfl,_,_,hp⟩:=Hj I rs iy hy;cases rz;have h1:=FB ix fx;subst h1;exact(Xf (u:=.non) (w':=.none) (by omega) (JV fx) ru hp).1
  .rw[if_neg fx] at e;obtain⟨p,hx,e⟩:=bS e;obtain⟨a,vs,its,rfl,il,r,hp⟩:=Hj I rs ix hx;cases ru
   by_cases fy:BD y=true
   .rw[if_pos fy] at e;cases e;have h1:=FB iy fy;subst h1;exact(Xf (u:=.non) (w':=.none) (by omega) (JV fy) rz hp).2
   .rw[if_neg fy] at e;obtain⟨q,hy,e⟩:=bS e;obtain⟨c,ws,zs,rfl,il',r',hp'⟩:=Hj I rs iy hy;cases rz;obtain⟨t,xs⟩:=p;obtain⟨t',ys⟩:=q;simp only at e hp hp' il il'
    by_cases ht:t=t'
    .subst ht;rw[if_pos rfl] at e
     by_cases hac:a=c
     .subst hac;have:=Xp I rs (n+1) ix iy e0;subst this;exact .same _
     .refine .of_refs hac (VR (by omega) il il' r r' hp hp' e λa1 a2 a3 a4 a5=>Xr I rs n ?_ a1 a2 a3 a4 a5).1;rw[Around.in1_units];omega
    .rw[if_neg ht] at e;cases e
     cases t <;> cases t' <;> first|exact absurd rfl ht|skip
     .exact .list_tuple hp hp' (by omega)
     .exact .tuple_list hp hp' (by omega)
end
abbrev Kl(x:D)(L:AC):Bool:=(DO x L).isSome
abbrev AF0:G2:=λx y L=>if GI x y=true then some (.bl (decide (x=y)),L) else if (Kl x L&&Kl y L)=true then (DQ 30 L x y).map λb=>(.bl b,L) else none
abbrev Hu:G2:=λx y L=>if GI x y=true then some (.bl (!decide (x=y)),L) else if (Kl x L&&Kl y L)=true then (match DO x L,DO y L with
  |some (t,_),some (t',_)=>if t=t' then (DQ 30 L x y).map λb=>(.bl (!b),L) else none
  |_,_=>none) else none
section
variable {X:Cx}
def VP{x:D}{L:AC}{p:Bool×List D}(h:DO x L=some p):BD x=false:=by cases x <;> first|rfl|(simp[DO] at h)
def AEL(hu:X.A.units+64<cLine):Au X (compareOp .NotEq) (λv u H Q=>∃O L x y b t xs ys,Ap X.K H O L/\Is X.K H O v x/\Is X.K H O u y/\DO x L=some (t,xs)/\DO y L=some (t,ys)/\DQ 30 L x y=some b/\Q (.bl (!b)) H):=by intro pins s Y H v u w z Q I rv ru h;obtain⟨O,L,x,y,b,t,xs,ys,rs,ix,iy,hx,hy,e,q⟩:=h;have fx:=VP hx;have fy:=VP hy;rw[show(30:Nat)=29+1 from rfl,Xo,if_neg (by rw[fx];exact Cf),hx,AT,if_neg (by rw[fy];exact Cf),hy,AT] at e;obtain⟨a,vs,its,rfl,il,r,hp⟩:=Hj I rs ix hx;obtain⟨c,ws,zs,rfl,il',r',hp'⟩:=Hj I rs iy hy;cases rv;cases ru;rw[if_pos rfl] at e;exact(VR (by omega) il il' r r' hp hp' e λa1 a2 a3 a4 a5=>Xr I rs 29 (by rw[Around.in1_units];omega) a1 a2 a3 a4 a5).2 _ _ _ _ ⟨.bl _,H,I,rfl,q⟩
def AJI(hu:X.A.units+64<cLine):Cm X (compareOp .NotEq) Hu:=Au.weaken (Au.or Vz (AEL hu)) λv u H Q z4_=>by
 obtain⟨O,L,x,y,d,L',rs,ix,iy,e,k⟩:=z4_;unfold Hu at e;split at e
 .rename_i hs;cases e;simp only[GI,Bz] at hs;have h1:=FB ix hs.1.1;have h2:=FB iy hs.1.2;subst h1 h2;refine .inl ⟨hs.2,?_⟩;have:=k (.bl (!decide (x=y))) _ _ (.refl _ _) rs (.bl _)
  have e:decide (De x=De y)=decide (x=y):=by
   by_cases h:x=y
   .rw[decide_eq_true h,decide_eq_true ((Kg hs.1.1 hs.1.2).mpr h)]
   .rw[decide_eq_false h,decide_eq_false (λz=>h ((Kg hs.1.1 hs.1.2).mp z))]
  rw[e];exact this
 .split at e
  .split at e
   .rename_i t xs t' ys hx hy;split at e
    .rename_i ht;subst ht
     cases q:DQ 30 L x y with
     |none=>rw[q] at e;cases e
     |some b =>
      rw[q] at e;cases e;exact .inr ⟨O,L,x,y,b,t,xs,ys,rs,ix,iy,hx,hy,q,k _ _ _ (.refl _ _) rs (.bl _)⟩
    .cases e
   .cases e
  .cases e
end
abbrev RV:SF:=λ_ _=>none
def AIn{X:Cx}{st:Stmt}:Dq X st RV:=PS.weaken ACf λD Y H z3_=>by obtain⟨O,Z,L,out,r,e,k⟩:=z3_;cases e
def fnd_none{P:Program}{w:World}{K:AL}{mg:AND}{base:Heap}{k:Nat}{x:Str}{f:Addr}{fd:FuncData}{ps:ANE}(bi:EV K fd ps [])(m:mg x=some (.ref f))(kp:GA K (.ref f)=true):Ao P w K mg base k x (λ_ _=>none) :=
 ⟨f,fd,ps,⟨(λvs H Q E h=>by obtain⟨_,_,_,_,_,_,_,e,_⟩:=h;cases e),(λA outer s H args us vs Q E _ _ _ _ h=>by obtain⟨_,_,_,_,_,_,_,e,_⟩:=h;cases e)⟩,m,kp,bi⟩
abbrev JQ(o i v:D)(L:AC):Option AC:=match o,i with
 |.ref k,.int j=>(match L[k]? with|some (.lst xs)=>(match ixN xs.length j with|some n=>some (L.set k (.lst (xs.set n v)))|none=>none)|_=>none)
 |_,_=>none
abbrev CJ(fo fi fv:EF):SF:=λZ L=>(fv Z L).bind λv=>(fo Z v.2).bind λo=>(fi Z o.2).bind λi=>(JQ o.1 i.1 v.1 i.2).bind λL'=>some (.next Z L')
section
variable {X:Cx}{a b c o i e:Expr}{fa fb fc fo fi fv:EF}{pos:Pos}
def AIm{p2:Pos}(ho:AZ X o fo)(hi:AZ X i fi)(he:AZ X e fv)(hs:swapsWithSole [.Subscript o i p2] e pos.line X.env=pure false:=by rfl)(hw:swappedStores [.Subscript o i p2] e X.env=pure none:=by rfl)
  (h1:(assignEach [.Subscript o i p2] X.env).map (·.2)=[assign (.Subscript o i p2) X.env]:=by rfl)
  (ha:∀v,assign (.Subscript o i p2) X.env v=(do
   let ov <-holding [v] (eval o X.env)
   let iv <-holding [v,ov] (eval i X.env)
   standAt p2
   holding [v,ov,iv] (setItem ov iv v)
   release [v,ov,iv] []):=by intro _;rfl):Dq X (.Assign [.Subscript o i p2] e pos) (CJ fo fi fv) :=
 PS.weaken (RG he (Vr ho hi ABm ha) hs hw h1) λD Y H z3_=>by
  obtain⟨O,Z,L,out,r,ee,k⟩:=z3_;unfold CJ at ee;obtain⟨p,e1,ee⟩:=bS ee;obtain⟨q,e2,ee⟩:=bS ee;obtain⟨w,e3,ee⟩:=bS ee
  cases e4:JQ q.1 w.1 p.1 w.2 with
  |none=>rw[e4] at ee;cases ee
  |some L' =>
   rw[e4] at ee;cases ee;refine⟨O,Z,L,p.1,p.2,r,e1,λv H1 O1 st1 rs1 is1=>⟨O1,Z,p.2,q.1,q.2,r.to st1 rs1,e2,λov H2 O2 st2 rs2 is2=>⟨O2,Z,q.2,w.1,w.2,r.to (st1.trans st2) rs2,e3,λiv H3 O3 st3 rs3 is3=>?_⟩⟩⟩;have isv:=(is1.mono st2).mono st3;have iso:=is2.mono st3;unfold JQ at e4;split at e4
   .rename_i kk jj hk hj;rw[hk] at iso;rw[hj] at is3;cases is3
    cases iso with|@ref _ pa hka =>
     split at e4
     .rename_i xs hx;split at e4
      .rename_i n hn;cases e4;obtain⟨vs,hv,il⟩:=rs3.ob _ _ _ hka hx;refine⟨pa,vs,_,n,rfl,rfl,hv,by rw[il.length];exact hn,?_⟩;have st4:Al H3 O3 (upd H3 pa (.lst (vs.set n v))) O3:=⟨.write hv id,AW _⟩;have stA:=((st1.trans st2).trans st3).trans st4;exact k _ _ _ stA ⟨rs3.write (o':=.lst (xs.set n p.1)) hka ⟨_,CI,(il.mono st4).set (isv.mono st4) n⟩,r.f.mono stA⟩
      .cases e4
     .cases e4
   .cases e4
abbrev IA(g g':G2)(fa fb fc:EF):EF:=λZ L=>(fa Z L).bind λx=>(fb Z x.2).bind λy=>(g x.1 y.1 y.2).bind λz=>match z.1 with
 |.bl true=>(fc Z z.2).bind λw=>g' y.1 w.1 w.2
 |.bl false=>some (.bl false,z.2)
 |_=>none
def AGl{K:AL}{g g':G2}{Y:L2.St}{H:Hp}{Q:VK}(h:GQ K (IA g g' fa fb fc) Y H Q):Uo (rD K g) (rD K g') (GQ K fa) (GQ K fb) (GQ K fc) Y H Q:=by
 obtain⟨O,Z,L,d,L',r,e,k⟩:=h;unfold IA at e;obtain⟨p,e1,e⟩:=bS e;obtain⟨q,e2,e⟩:=bS e;obtain⟨z,e3,e⟩:=bS e;refine⟨O,Z,L,p.1,p.2,r,e1,λv H1 O1 st1 rs1 is1=>⟨O1,Z,p.2,q.1,q.2,r.to st1 rs1,e2,λu H2 O2 st2 rs2 is2=>?_⟩⟩;refine⟨O2,q.2,p.1,q.1,z.1,z.2,rs2,is1.mono st2,is2,e3,λw H3 O3 st3 rs3 is3=>?_⟩;have stA:=(st1.trans st2).trans st3;obtain⟨zd,zL⟩:=z
 cases zd <;> try (cases e;done)
 rename_i bb;cases is3;refine⟨bb,rfl,?_⟩
 cases bb with
 |false=>cases e;exact iteF (k _ _ _ stA rs3 (.bl _))
 |true =>
  simp only at e;obtain⟨w,e4,e⟩:=bS e;refine iteT ⟨O3,Z,zL,w.1,w.2,r.to stA rs3,e4,λu4 H4 O4 st4 rs4 is4=>?_⟩;exact⟨O4,w.2,q.1,w.1,d,L',rs4,(is2.mono st3).mono st4,is4,e,λy H5 O5 st5 rs5 is5=>k _ _ _ ((stA.trans st4).trans st5) rs5 is5⟩
def AId{op op':CmpOp}{g g':G2}(ho:Cm X (compareOp op) g)(ho':Cm X (compareOp op') g')(ha:AZ X a fa)(hb:AZ X b fb)(hc:AZ X c fc)
  (hm:lastMarks [op,op'] [b,c]=false:=by with_unfolding_all rfl):Et X (.Compare a [op,op'] [b,c] pos) (AS (IA g g' fa fb fc)) :=
 PT.weaken (ACY ho ho' ha hb hc hm) λY H Q h=>by
  have q:=SZ h;exact AGl q
end
end L3
set_option maxHeartbeats 4000000
namespace HT
open PySem PySem.Spec PyProof.Rows
section
variable {prog:Program}{w:World}{A:Around}{E:ANL}
def Xy{it t:Addr}{items:Array Value}(hne:t≠it):∀(n i:Nat) (s:Shared) (Q:ANF->Shared->Prop),s.heap.IsListIter it t i->s.heap.IsList t items->i+n<=items.size ->
  (∀h',Heap.IsListIter h' it t (i+n)->Heap.SameBut it s.heap h'->Q ((items.toList.drop i).take n) {s with heap:=h'})->wpAny (model prog w) A (draw (.ref it) n) Q E s
 |0,i,s,Q,hit,_,_,hQ=>by
  show wpAny _ _ (pure []) Q E s;exact AN (by simpa using hQ s.heap hit (Heap.SameBut.refl ..))
 |n+1,i,s,Q,hit,ht,hle,hQ=>by
  have hlt:i<items.size:=by omega
  show wpAny _ _ (pyNext (.ref it) >>= _) Q E s;refine AH (wpAny_pyNext_list_item hit ht (x:=items[i]) (by simp[hlt]) λh₁ hit₁ hs₁=>?_);refine AH (DZ (Xy hne n (i+1) _ _ hit₁ (ht.extBut hs₁.extBut hne) (by omega) λh₂ hit₂ hs₂=>AN ?_));have hd:items.toList.drop i=items[i]::items.toList.drop (i+1):=by simp[AMM,hlt]
  have:=hQ h₂ (by rw[show i+(n+1)=i+1+n by omega];exact hit₂) (hs₁.trans hs₂);rw[hd,List.take_succ_cons] at this;exact this
variable {s:Shared}
def AAc{t:Addr}{items:Array Value}{Q:ANF->Shared->Prop}(hh:A.handled=none)(ht:s.heap.IsList t items)
  (hQ:∀h',Heap.ExtBut s.heap.objs.size s.heap h'->Q items.toList {s with heap:=h'}):wpAny (model prog w) A (unpackItems (.ref t) items.size none) Q E s:=by
 have hlt:t≠s.heap.objs.size:=by obtain⟨o,ho,_⟩:=ht;exact BV (Heap.lt_size ho)
 have htp:∀ob,Heap.IsList (s.heap.push ob) t items:=λob=>let ⟨o,ho,r⟩:=ht;⟨o,Heap.get?_push_of_some _ ho,r⟩;unfold unpackItems;refine AH ?_
 .unfold notIterableAtAll;refine AH (wpAny_specialOf ht.typeIs slot_list_iter.lookup ?_);refine AN ?_;simp only[AL5,if_false];refine AH (DZ (AM3 ht ?_));refine AH (DZ (Xy hlt items.size 0 _ _ ⟨_,Heap.get?_push_size _ rfl,rfl,rfl⟩ (htp _) (by omega) λh₁ hit₁ hs₁=>?_))
  have hall:List.take items.size (List.drop 0 items.toList)=items.toList:=by rw[ALr];exact AMD (by simp)
  rw[hall];rw[if_neg (by simp)];have ht₁:Heap.IsList h₁ t items:=(htp _).extBut hs₁.extBut hlt;refine AH (DZ (wpAny_pyNext_list_end hh hit₁ ht₁ (by simp) λh₂ he₂=>?_));simp only[Option.isSome_none,AL5,if_false];refine AN (hQ h₂ λb o hb e=>he₂ b o hb (hs₁.extBut b o hb (Heap.get?_push_of_some _ e)))
def ALX{env:Env}{elts:ANH}{x1}{pos:Pos}{t:Addr}{items:Array Value}{Q:Unit->Shared->Prop}(hh:A.handled=none)(ht:s.heap.IsList t items)
  (hn:(assignEach elts env).length=items.size) (hstar:(assignEach elts env).findIdx? (·.1)=none)
  (h:∀h',Heap.ExtBut s.heap.objs.size s.heap h'->wpAny (model prog w) A (assignInOrder ((assignEach elts env).map (·.2)) items.toList) Q E {s with heap:=h'}) :
  wpAny (model prog w) A (assign (.Tuple elts x1 pos) env (.ref t)) Q E s:=by
 rw[assign_Tuple];refine AH (wpAny_standAt ?_);unfold unpack;rw[hn,hstar];exact AH (DZ (AAc hh ht h))
end
end HT
namespace L2
open PySem PySem.Spec PyProof.Rows
section
variable {X:Cx}{pos:Pos}
abbrev AFy(K:AL)(n:Nat)(t:Gc):TG:=λv Y H Q=>∃a xs,v=.ref a/\BJ K H a xs/\xs.length=n/\t xs Y H Q
def ADB{es:ANH}{k:Nat}{t:Gc}{n:Nat}(hc:X.calm=true)(h:Gf X es t)
  (hn:(assignEach es X.env).length=n:=by rfl) (hst:(assignEach es X.env).findIdx? (·.1)=none:=by rfl):PG X (.Tuple es k pos) (AFy X.K n t):=by
 intro pins s Y H v u Q I r hw;obtain⟨a,xs,e1,hq,hl,hw⟩:=hw;subst e1;cases r;obtain⟨its,rv,ht,hz⟩:=I.list hq;refine HT.ALX (I.ok.hd hc) ht.isList (by simp[hn,<-hl,rv.length]) hst λh' hx=>?_;have I1:AI X pins Y H {s with heap:=h'}:=I.kept (t':=s.toks) λb o e=>hx b o (BV (Heap.lt_size e)) e;exact h pins _ Y H xs _ Q I1 (by simpa using rv) hw
def PG.or{tg:Expr}{t t':TG}(h:PG X tg t)(h':PG X tg t'):PG X tg (λv Y H Q=>t v Y H Q\/t' v Y H Q):=by
 intro pins s Y H v u Q I r q;rcases q with q|q
 .exact h pins s Y H v u Q I r q
 .exact h' pins s Y H v u Q I r q
end
end L2
namespace L3
open PySem PySem.Spec PyProof.Rows L2
abbrev Ic(f:EF)(n:Nat)(gs:Eu):SF:=λZ L=>(f Z L).bind λx=>(Cg x.1 x.2).bind λds=>if ds.length=n then (gs ds Z).bind λZ'=>some (.next Z' x.2) else none
def AIw{X:Cx}{es:ANH}{k n:Nat}{e:Expr}{f:EF}{gs:Eu}{pos p2:Pos}(hc:X.calm=true)(he:AZ X e f)(hg:Jh X es gs)
  (hn:(assignEach es X.env).length=n:=by rfl) (hst:(assignEach es X.env).findIdx? (·.1)=none:=by rfl)
  (hs:swapsWithSole [.Tuple es k p2] e pos.line X.env=pure false:=by rfl) (hw:swappedStores [.Tuple es k p2] e X.env=pure none:=by rfl)
  (h1:(assignEach [.Tuple es k p2] X.env).map (·.2)=[assign (.Tuple es k p2) X.env]:=by rfl):Dq X (.Assign [.Tuple es k p2] e pos) (Ic f n gs) :=
 PS.weaken (RG he (PG.or (Vq hc hg hn hst) (ADB hc hg hn hst)) hs hw h1) λD Y H z3_=>by
  obtain⟨O,Z,L,out,r,ee,kk⟩:=z3_;unfold Ic at ee;obtain⟨p,e1,ee⟩:=bS ee;obtain⟨ds,e2,ee⟩:=bS ee;split at ee
  .rename_i hl
   cases e3:gs ds Z with
   |none=>rw[e3] at ee;cases ee
   |some Z' =>
    rw[e3] at ee;cases ee;refine⟨O,Z,L,p.1,p.2,r,e1,λv H1 O1 st1 rs1 is1=>?_⟩;obtain⟨a,vs,rfl,hq,il⟩:=II rs1 is1 e2;have g:Wd X.K gs vs Y H1 (λY' H'=>D.nx Y' H'):=⟨O1,Z,p.2,ds,Z',r.to st1 rs1,il,e3,λY' rp=>kk Y' H1 O1 st1 rp⟩;rcases hq with hq|hq
    .exact .inr ⟨a,vs,rfl,hq,by rw[il.length];exact hl,g⟩
    .exact .inl ⟨a,vs,rfl,hq,by rw[il.length];exact hl,g⟩
  .cases ee
abbrev EZ(f:Str)(v:D):List (Str×D)->List (Str×D)
 |[]=>[(f,v)]
 |(g,x)::r=>if g=f then (g,v)::r else (g,x)::EZ f v r
section
variable {K:AL}{H:Hp}{O:ANG}
def Rc{f:Str}{d:D}:∀{us:List (Str×V)} {fs:List (Str×D)},us.map (·.1)=fs.map (·.1)->AR K H O (us.map (·.2)) (fs.map (·.2))->fs.lookup f=some d->∃v,us.lookup f=some v/\Is K H O v d
 |[],[],_,_,h=>by cases h
 |[],_::_,h,_,_=>by cases h
 |_::_,[],h,_,_=>by cases h
 |(g,u)::us,(g',x)::fs,hk,hi,hl=>by
  simp only[Aj,List.cons.injEq] at hk;obtain⟨rfl,hk⟩:=hk
  cases hi with
  |cons a b =>
   by_cases e:f=g
   .subst e;simp only[Fb,beq_self_eq_true,Option.some.injEq] at hl;subst hl;exact⟨u,by simp[Fb],a⟩
   .have hb:(f == g)=false:=beq_eq_false_iff_ne.mpr e;simp only[Fb,hb] at hl;obtain⟨v,h1,h2⟩:=Rc hk b hl;exact⟨v,by simp only[Fb,hb];exact h1,h2⟩
def RF{f:Str}{v:V}{d:D}(iv:Is K H O v d):∀{us:List (Str×V)} {fs:List (Str×D)},us.map (·.1)=fs.map (·.1)->AR K H O (us.map (·.2)) (fs.map (·.2)) ->
  (L2.CJ f v us).map (·.1)=(EZ f d fs).map (·.1)/\AR K H O ((L2.CJ f v us).map (·.2)) ((EZ f d fs).map (·.2))
 |[],[],_,_=>⟨rfl,.cons iv .nil⟩
 |[],_::_,h,_=>by cases h
 |_::_,[],h,_=>by cases h
 |(g,u)::us,(g',x)::fs,hk,hi=>by
  simp only[Aj,List.cons.injEq] at hk;obtain⟨rfl,hk⟩:=hk
  cases hi with
  |cons a b =>
   obtain⟨h1,h2⟩:=RF iv hk b;unfold L2.CJ EZ
   by_cases e:g=f
   .rw[if_pos e,if_pos e];exact⟨by simp[hk],.cons iv b⟩
   .rw[if_neg e,if_neg e];exact⟨by simp[h1],.cons a h2⟩
end
structure DD (K:AL) (c f:Str):Prop where
 ok:∀C,FY K c C->Cls K C/\IH K C f
abbrev BS(cs:ANE)(f:Str):G1:=λx L=>match x with
 |.ref k=>(match L[k]? with|some (.ins c fs)=>if c∈cs then (fs.lookup f).bind λd=>some (d,L) else none|_=>none)
 |_=>none
section
variable {X:Cx}{o e:Expr}{fo fe:EF}{f:Str}{cs:ANE}{pos pos':Pos}
def AKk(he:AZ X o fo)(hc:∀c∈cs,DD X.K c f)(hb:attributeBase o f X.env (eval o X.env)=eval o X.env:=by rfl):AZ X (.Attribute o f pos) (BG (BS cs f) fo) :=
 PE.weaken (ADS he hb) λY H Q z3_=>by
  obtain⟨O,Z,L,d,L',r,e,k⟩:=z3_;unfold BG at e;obtain⟨p,e1,e⟩:=bS e;obtain⟨x,L1⟩:=p;simp only[AT,BS] at e;refine⟨O,Z,L,x,L1,r,e1,λv H1 O1 st rs is=>?_⟩
  cases is <;> try (cases e;done)
  rename_i kk a hk;simp only at e
  cases e2:L1[kk]? with
  |none=>rw[e2] at e;cases e
  |some ob =>
   rw[e2] at e
   cases ob with
   |lst _=>cases e
   |dk _=>cases e
   |dt _ _=>cases e
   |exn _=>cases e
   |ins c fs =>
    simp only at e;split at e
    .rename_i hcm;obtain⟨C,dx,us,hC,hH,hk1,hi⟩:=rs.ob _ _ _ hk e2;obtain⟨d0,e3,e⟩:=bS e;cases e;obtain⟨v',hv',iv⟩:=Rc hk1 hi e3;obtain⟨h1,h2⟩:=(hc c hcm).ok C hC;exact⟨a,C,dx,us,v',rfl,hH,h1,h2,hv',k _ _ _ st rs iv⟩
    .cases e
abbrev Ko(cs:ANE)(f:Str)(x v:D)(L:AC):Option AC:=match x with
 |.ref k=>(match L[k]? with|some (.ins c fs)=>if c∈cs/\fs.length<1000 then some (L.set k (.ins c (EZ f v fs))) else none|_=>none)
 |_=>none
abbrev Fg(cs:ANE)(f:Str)(fo fv:EF):SF:=λZ L=>(fv Z L).bind λv=>(fo Z v.2).bind λx=>(Ko cs f x.1 v.1 x.2).bind λL'=>some (.next Z L')
def AIl(ho:AZ X o fo)(he:AZ X e fe)(hc:∀c∈cs,DD X.K c f)(hs:swapsWith e (some (.Attribute o f pos')) pos.line X.env=pure false:=by rfl):Dq X (.Assign [.Attribute o f pos'] e pos) (Fg cs f fo fe) :=
 PS.weaken (ACj ho he hs) λD Y H z3_=>by
  obtain⟨O,Z,L,out,r,e,k⟩:=z3_;unfold Fg at e
  cases e1:fe Z L with
  |none=>rw[e1] at e;cases e
  |some p =>
   rw[e1] at e;simp only[AT] at e
   cases e2:fo Z p.2 with
   |none=>rw[e2] at e;cases e
   |some q =>
    rw[e2] at e;simp only[AT] at e;obtain⟨x,L2⟩:=q;refine⟨O,Z,L,p.1,p.2,r,e1,λy H1 O1 st1 rs1 is1=>?_⟩;refine⟨O1,Z,p.2,x,L2,r.to st1 rs1,e2,λv H2 O2 st2 rs2 is2=>?_⟩
    cases is2 <;> try (cases e;done)
    rename_i kk a hk;simp only[Ko] at e
    cases e3:L2[kk]? with
    |none=>rw[e3] at e;cases e
    |some ob =>
     rw[e3] at e
     cases ob with
     |lst _=>cases e
     |dk _=>cases e
     |dt _ _=>cases e
     |exn _=>cases e
     |ins c fs =>
      simp only at e;split at e
      .rename_i hcm;simp only[AT] at e;cases e;obtain⟨C,dx,us,hC,hH,hk1,hi⟩:=rs2.ob _ _ _ hk e3;obtain⟨h1,h2⟩:=(hc c hcm.1).ok C hC
       have hlen:us.length<1000:=by have:=congrArg List.length hk1;simp at this;rw[this];exact hcm.2
       refine⟨a,C,dx,us,rfl,hH,h1,h2,hlen,?_⟩;have st3:Al H2 O2 (upd H2 a (.ins C dx (_root_.L2.CJ f y us))) O2:=⟨.write hH id,AW _⟩;obtain⟨g1,g2⟩:=RF ((is1.mono st2).mono st3) hk1 (hi.mono st3);exact k Y _ O2 ((st1.trans st2).trans st3) (r.to ((st1.trans st2).trans st3) (rs2.write hk ⟨C,dx,_,hC,CI,g1,g2⟩))
      .cases e
abbrev LU(cs:ANE)(f:Str)(g:Int->Int->Int)(fo fv:EF):SF:=λZ L=>(fo Z L).bind λx=>match x.1 with
 |.ref k=>(match x.2[k]? with
  |some (.ins c fs)=>if c∈cs then (match fs.lookup f with
   |some (.int i)=>(fv Z x.2).bind λy=>(match y.1 with
    |.int j=>(match y.2[k]? with
     |some (.ins c' fs')=>if c'=c/\fs'.length<1000 then some (.next Z (y.2.set k (.ins c (EZ f (.int (g i j)) fs')))) else none
     |_=>none)
    |_=>none)
   |_=>none) else none
  |_=>none)
 |_=>none
def AIu{op:Operator}{g:Int->Int->Int}(ho:AZ X o fo)(he:AZ X e fe)(hc:∀c∈cs,DD X.K c f)(hop:OR X op λx y H Q=>∃i j,x=.int i/\y=.int j/\Q (.int (g i j)) H):Dq X (.AugAssign (.Attribute o f pos') op e pos) (LU cs f g fo fe) :=
 PS.weaken (ACi ho he hop) λD Y H z3_=>by
  obtain⟨O,Z,L,out,r,e,k⟩:=z3_;unfold LU at e
  cases e1:fo Z L with
  |none=>rw[e1] at e;cases e
  |some p =>
   rw[e1] at e;obtain⟨x,L1⟩:=p;simp only[AT] at e;refine⟨O,Z,L,x,L1,r,e1,λv H1 O1 st rs is=>?_⟩
   cases is <;> try (cases e;done)
   rename_i kk a hk;simp only at e
   cases e2:L1[kk]? with
   |none=>rw[e2] at e;cases e
   |some ob =>
    rw[e2] at e
    cases ob with
    |lst _=>cases e
    |dk _=>cases e
    |dt _ _=>cases e
    |exn _=>cases e
    |ins c fs =>
     simp only at e;split at e
     .rename_i hcm;obtain⟨C,dx,us,hC,hH,hk1,hi⟩:=rs.ob _ _ _ hk e2
      cases e3:fs.lookup f with
      |none=>rw[e3] at e;cases e
      |some d0 =>
       rw[e3] at e
       cases d0 <;> try (cases e;done)
       rename_i i;simp only at e;obtain⟨v',hv',iv⟩:=Rc hk1 hi e3;obtain⟨h1,h2⟩:=(hc c hcm).ok C hC;refine⟨a,C,dx,us,v',rfl,hH,h1,h2,hv',?_⟩
       cases e4:fe Z L1 with
       |none=>rw[e4] at e;cases e
       |some q =>
        rw[e4] at e;obtain⟨y,L2⟩:=q;simp only[AT] at e;refine⟨O1,Z,L1,y,L2,r.to st rs,e4,λw H2 O2 st2 rs2 is2=>?_⟩
        cases y <;> try (cases e;done)
        rename_i j;cases iv;cases is2;refine⟨i,j,rfl,rfl,?_⟩;simp only at e
        cases e5:L2[kk]? with
        |none=>rw[e5] at e;cases e
        |some ob =>
         rw[e5] at e
         cases ob with
         |lst _=>cases e
         |dk _=>cases e
         |dt _ _=>cases e
         |exn _=>cases e
         |ins c' fs' =>
          simp only at e;split at e
          .rename_i hcm';cases e;obtain⟨rfl,hl⟩:=hcm';have hk':=CW st2.2 hk;obtain⟨C',dx',us',hC',hH',hk1',hi'⟩:=rs2.ob _ _ _ hk' e5
           have hCC:C'=C:=by unfold FY at hC hC';rw[hC] at hC';cases hC';rfl
           subst hCC
           have hlen:us'.length<1000:=by have:=congrArg List.length hk1';simp at this;rw[this];exact hl
           refine⟨dx',us',hH',hlen,?_⟩;have st3:Al H2 O2 (upd H2 a (.ins C' dx' (_root_.L2.CJ f (.int (g i j)) us'))) O2:=⟨.write hH' id,AW _⟩;obtain⟨g1,g2⟩:=RF (Is.int (g i j)) hk1' (hi'.mono st3);exact k Y _ O2 ((st.trans st2).trans st3) (r.to ((st.trans st2).trans st3) (rs2.write hk' ⟨C',dx',_,hC',CI,g1,g2⟩))
          .cases e
     .cases e
def AJo:OR X .Add λx y H Q=>∃i j,x=.int i/\y=.int j/\Q (.int (i+j)) H:=AFQ
abbrev Jd(i:Nat)(g:Int->Int->Int)(fe:EF):SF:=λZ L=>match Z[i]? with
 |some (some (.int a))=>(fe Z L).bind λy=>(match y.1 with|.int b=>some (.next (Z.set i (some (.int (g a b)))) y.2)|_=>none)
 |_=>none
def AIv{i:Nat}{x:Str}{op:Operator}{g:Int->Int->Int}(hN:X.N.Nodup)(he:AZ X e fe)(ho:OO X op (Rm g))(hi:X.N[i]?=some x:=by rfl)(hx:HJ X.env.scope x:=by first|exact Or.inl rfl|exact Or.inr rfl)
  (hf:X.fn x=true\/X.env.scope.names.lookup x=some .local:=by first|exact .inl rfl|exact .inr rfl):Dq X (.AugAssign (.Name x pos') op e pos) (Jd i g fe) :=
 PS.weaken (ACm hN hi hx he ho hf) λD Y H z3_=>by
  obtain⟨O,Z,L,out,r,e,k⟩:=z3_;unfold Jd at e;split at e
  .rename_i a ha;obtain⟨v,hv,iv⟩:=r.f.at' i _ ha;cases iv;refine⟨_,hv,?_⟩;obtain⟨p,e1,e⟩:=bS e;obtain⟨y,L1⟩:=p;simp only[AT] at e;refine⟨O,Z,L,y,L1,r,e1,λv H1 O1 st rs is=>?_⟩
   cases y <;> try (cases e;done)
   cases e;cases is;exact⟨_,_,rfl,rfl,k _ _ _ st ⟨rs,(r.f.mono st).set (.int _) i⟩⟩
  .cases e
end
structure Sv (P:Program) (w:World) (K:AL) (mg:AND) (base:Heap) (k:Nat) (c m:Str) (G:GL):Prop where
 ex:∃C f fd ps,DK P w K mg base CX0 k f fd ps (Gv K G)/\FY K c C/\Cls K C/\AHV K C m f/\EV K fd ps []
structure Fw (P:Program) (w:World) (K:AL) (mg:AND) (base:Heap) (k:Nat) (c:Str) (G:GL):Prop where
 ex:∃C f fd ps j,DK P w K mg base CX0 j f fd ps (Gv K G)/\j+1<=k/\mg c=some (.ref C)/\FY K c C/\Mk K C f/\EV K fd ps []
def Sv.mono{P:Program}{w:World}{K:AL}{mg:AND}{base:Heap}{j k:Nat}{c m:Str}{G:GL}(F:Sv P w K mg base j c m G)(h:j<=k):Sv P w K mg base k c m G:=by obtain⟨C,f,fd,ps,a,b⟩:=F.ex;exact⟨C,f,fd,ps,a.mono h,b⟩
def Fw.mono{P:Program}{w:World}{K:AL}{mg:AND}{base:Heap}{j k:Nat}{c:Str}{G:GL}(F:Fw P w K mg base j c G)(h:j<=k):Fw P w K mg base k c G:=by obtain⟨C,f,fd,ps,i,a,b,c⟩:=F.ex;exact⟨C,f,fd,ps,i,a,by omega,c⟩
abbrev HQ(c:Str)(G:GL)(a:AF):EF:=λZ L=>(a Z L).bind λy=>(G (.ref y.2.length::y.1) (y.2++[.ins c []])).bind λz=>match z.1 with
 |.non=>some (.ref y.2.length,z.2)
 |_=>none
section
variable {X:Cx}{k:Nat}{c m x:Str}{G:GL}{p pos apos:Pos}{o e:Expr}{es:ANH}{fo:EF}{f:AF}
def AEd{C:Addr}(hC:FY X.K c C){t:TA}(ht:∀Y H Q,Re X.K f Y H Q->t Y H Q){Y:L2.St}{H:Hp}{Q:VK}(h:GQ X.K (HQ c G f) Y H Q):Um C (Gv X.K G) [] E0 t Y H Q:=by
 obtain⟨O,Z,L,d,L',r,e,k⟩:=h;unfold HQ at e;obtain⟨p,e1,e⟩:=bS e;obtain⟨ys,L1⟩:=p;simp only[AT] at e;obtain⟨z,e2,e⟩:=bS e;obtain⟨zd,L2⟩:=z
 cases zd <;> simp only[AT] at e <;> try (cases e;done)
 cases e;refine ht _ _ _ ⟨O,Z,L,ys,L1,r,e1,λvs H1 O1 st rs is x dx hx hdx hne=>?_⟩;show rC X.K G (V.ref x::(vs++[])) _ _;rw[ALy];have s1:Al H1 O1 (upd H1 dx (.own x)) O1:=⟨.new hdx,AW _⟩;have rs1:Ap X.K (upd H1 dx (.own x)) O1 L1:=rs.ext λa u e=>by rw[BU (DT e hdx)];exact e
 have hx1:upd H1 dx (.own x) x=none:=by rw[BU (Ne.symm hne)];exact hx
 have s2:Al (upd H1 dx (.own x)) O1 (upd (upd H1 dx (.own x)) x (.ins C dx [])) (O1++[x]):=⟨.new hx1,Ai _ _⟩;have rs2:Ap X.K (upd (upd H1 dx (.own x)) x (.ins C dx [])) (O1++[x]) (L1++[.ins c []]):=rs1.new hx1 ⟨C,dx,[],hC,CI,rfl,.nil⟩;have hk:(O1++[x])[L1.length]?=some x:=by rw[<-rs.len];simp
 refine⟨O1++[x],L1++[.ins c []],_,.non,_,rs2,.cons (.ref hk) (is.mono (s1.trans s2)),e2,λw H' O' st' rs' is'=>?_⟩;cases is';exact⟨rfl,k _ H' O' ((st.trans (s1.trans s2)).trans st') rs' (.ref (CW st'.2 hk))⟩
def AKe(F:Fw X.prog X.w X.K X.mg X.base k c G)(hr:Room k X.A)(ha:ES X (e::es) f)(hg:Gl X c:=by rfl)(hdb:(c == ("__debug__":Str))=false:=by decide)
  (he:Ea e=true:=by rfl) (hpl:es.all Ea=true:=by rfl):AZ X (.Call (.Name c p) (e::es) [] pos) (HQ c G f):=by
 obtain⟨C,fa,fd,ps,j,a,hj,hm,hC,hM,bi⟩:=F.ex;exact PE.weaken (ADM (E:=E0) hM a (hr.mono hj) hg hm bi .nil RO ha hdb (HM he) (IK hpl)) λY H Q h=>AEd hC (λ_ _ _ h=>h) h
end
def AKR{K:AL}{f:Str}:∀c∈([]:ANE),DD K c f:=λ_ h=>by cases h
def AKS{K:AL}{f c:Str}{cs:ANE}(a:DD K c f)(b:∀c∈cs,DD K c f):∀x∈c::cs,DD K x f:=λx h=>by
 rcases AX.mp h with rfl|h
 .exact a
 .exact b x h
def Hx{K:AL}{c f:Str}{C:Addr}(hC:FY K c C)(cl:Cls K C)(n:Da K (.ref C) f=some none):DD K c f:=⟨λC' h=>by
 have:C'=C:=by unfold FY at hC h;rw[hC] at h;cases h;rfl
 subst this
 exact⟨cl,n⟩⟩
section
variable {P:Program}{w:World}{K:AL}{mg:AND}{base:Heap}
def Xc{x qual c:Str}{C:Addr}{st:Stmt}{f:Addr}{fd:FuncData}{N ps:ANE}{k:Nat}{B:SF}(Fn:Hd K x qual st f fd)(S:Aw N ps (Ag st))
  (hb:∀(cdv:Value) (A:Around) (outer:List Env) (s:Shared) (H:Hp) (E:XK),Room k (A.deeper (envOfC qual (Ag st) s.heap.objs.size f cdv)) ->
   FH (Ci CX0 P w K mg base N qual (Ag st) f cdv A outer s H E).nox (FW st) B)
  (bi:EV K fd ps []) (mc:mg c=some (.ref C)) (hC:FY K c C) (M:Mk K C f):Fw P w K mg base (k+2) c (Am B N ps.length) :=
 ⟨C,f,fd,ps,k+1,SK Fn S _ B (λ_ _ _ h=>RA h) hb (λ_ _ _ _ h=>Qz h),Af _,mc,hC,M,bi⟩
end
abbrev XC(p:Program)(i j:Nat):Stmt:=match BF p i with
 |.ClassDef _ _ _ body _ _ _ _ _ _ _=>body.getD j (.Pass ⟨0,0,0,0⟩)
 |s=>s
abbrev Ek(t:TF)(b:SF):Nat->SF
 |0=>λ_ _=>none
 |n+1=>λZ L=>(t Z L).bind λx=>if x.1=true then (b Z x.2).bind λout=>(match out with
   |.next Z2 L2=>Ek t b n Z2 L2
   |.cont Z2 L2=>Ek t b n Z2 L2
   |.brk Z2 L2=>some (.next Z2 L2)
   |.ret d L2=>some (.ret d L2)) else some (.next Z x.2)
abbrev Qm(t:TF)(b:SF):SF:=Ek t b 1000000
def AIi{X:Cx}{c:Expr}{body:ANI}{t:TF}{b:SF}{pos:Pos}(hp:PassesOwn (model X.prog X.w) X.A X.env X.xe)(hc:Et X c t)(hb:FH X body b):Dq X (.While c body [] pos) (Qm t b) :=
 PS.weaken (ACc hp hc hb) λD Y H z3_=>by
  obtain⟨O,Z,L,out,r,e,k⟩:=z3_;refine⟨λn Y H=>∃O Z L,DJ X.K H O Y Z L/\Ek t b n Z L=some out/\ID X.K H O D out,⟨1000000,O,Z,L,r,e,k⟩,?_⟩;rintro n Y1 H1 ⟨O1,Z1,L1,r1,e1,k1⟩
  cases n with
  |zero=>cases e1
  |succ n =>
   simp only[Ek] at e1;obtain⟨p,e2,e1⟩:=bS e1;obtain⟨bb,L2⟩:=p;simp only[AT] at e1;refine⟨O1,Z1,L1,bb,L2,r1,e2,λH2 O2 st2 rs2=>?_⟩
   cases bb with
   |false =>
    simp only[AL5,if_false] at e1 ⊢;cases e1;exact k1 _ _ _ st2 (r1.to st2 rs2)
   |true =>
    simp only[if_true] at e1 ⊢;refine⟨λY' H'=>∃O Z L,DJ X.K H' O Y' Z L/\Ek t b n Z L=some out/\ID X.K H' O D out,λY' H' h=>⟨n,AMe _,h⟩,?_⟩;obtain⟨o1,e3,e1⟩:=bS e1;refine⟨O2,Z1,L2,o1,r1.to st2 rs2,e3,?_⟩
    cases o1 with
    |next Z2 L3=>exact λY' H' O' st' r'=>⟨O',Z2,L3,r',e1,(k1.mono st2).mono st'⟩
    |cont Z2 L3=>exact λY' H' O' st' r'=>⟨O',Z2,L3,r',e1,(k1.mono st2).mono st'⟩
    |brk Z2 L3=>cases e1;exact λY' H' O' st' r'=>k1 _ _ _ (st2.trans st') r'
    |ret d L3=>cases e1;exact λv H' O' st' r' i'=>k1 _ _ _ (st2.trans st') r' i'
def Rn:∀{ns:ANK} {its:ANF},Ab (ns.map V.int) its->∃xs:List (Int×Tok),its=xs.map (λp=>Value.int p.1 p.2)/\xs.map (·.1)=ns
 |[],_,h=>by cases h;exact⟨[],rfl,rfl⟩
 |n::ns,_,h=>by
  cases h with
  |cons a b =>
   obtain⟨t,rfl⟩:=(show ∃t,_=Value.int n t from a);obtain⟨xs,rfl,e⟩:=Rn b;exact⟨(n,t)::xs,rfl,by simp[e]⟩
abbrev DP:List D->Option (ANK)
 |[]=>some []
 |.int b::r=>(DP r).map (b::·)
 |_=>none
def XA{K:AL}{H:Hp}{O:ANG}:∀{vs:List V} {ds:List D} {bs:ANK},AR K H O vs ds->DP ds=some bs->vs=bs.map V.int:=by
 intro vs ds bs h e
 induction ds generalizing vs bs with
 |nil=>cases h;cases e;rfl
 |cons d ds ih =>
  cases h with|cons a b =>
  cases a <;> simp only[DP] at e <;> try (cases e;done)
  cases q:DP ds with
  |none=>rw[q] at e;cases e
  |some r =>
   rw[q] at e;cases e;rw[ih b q];rfl
def AFP(ns:ANK):DP (ns.map D.int)=some ns:=by
 induction ns with
 |nil=>rfl
 |cons y r ih=>simp[DP,ih]
section
variable {X:Cx}
def AGn(hc:X.calm=true):Bx X (.builtin "sum") (λxs H Q=>∃(p:Addr) (ns:ANK),xs=[.ref p]/\BJ X.K H p (ns.map V.int)/\Q (.int ns.sum) H):=by
 intro pins s Y H xs us Q I r h;obtain⟨p,ns,rfl,hq,q⟩:=h;obtain⟨u,rfl,rx⟩:=Dk r;cases rx;obtain⟨its,rv,pl,hz⟩:=I.list hq;obtain⟨ps,rfl,rfl⟩:=Rn rv
 have hl:s.heap.IsList p (intItems ps.toArray):=by
  have:=pl.isList;have e:(ps.map (λp=>Value.int p.1 p.2)).toArray=intItems ps.toArray:=by simp[intItems]
  rw[<-e];exact this
 refine PySem.sum_intListG (I.ok.hd hc) hl λh' tk t' hk=>⟨.int (ps.map (·.1)).sum,H,I.kept hk,⟨t',?_⟩,q⟩;rw[preSum_eq,AMD (by simp)]
def AGo(hc:X.calm=true):Bx X (.builtin "min") (λxs H Q=>∃(p:Addr) (ns:ANK) (m:Int),xs=[.ref p]/\BJ X.K H p (ns.map V.int)/\ns.min?=some m/\Q (.int m) H):=by
 intro pins s Y H xs us Q I r h;obtain⟨p,ns,m,rfl,hq,hm,q⟩:=h;obtain⟨u,rfl,rx⟩:=Dk r;cases rx;obtain⟨its,rv,pl,hz⟩:=I.list hq;obtain⟨ps,rfl,rfl⟩:=Rn rv
 have hl:s.heap.IsList p (intItems ps.toArray):=by
  have:=pl.isList;have e:(ps.map (λp=>Value.int p.1 p.2)).toArray=intItems ps.toArray:=by simp[intItems]
  rw[<-e];exact this
 have hm':=List.min?_eq_some_iff.mp hm
 have hne:0<ps.toArray.size:=by
  cases ps with
  |nil=>simp at hm
  |cons=>simp
 refine PySem.min_intList (I.ok.hd hc) hl hne λv h' tk hv hk=>?_;obtain⟨t,rfl⟩:=intItems_at hv;obtain⟨h1,h2⟩:=argBest_lt (numAt ps.toArray) (ps.toArray.size-1);refine⟨.int m,H,I.kept hk,⟨t,?_⟩,q⟩
 congr 1
 have g1:numAt ps.toArray (argBest (λi j=>decide (numAt ps.toArray i<numAt ps.toArray j)) (ps.toArray.size-1))∈ps.map (·.1):=by
  rw[numAt_eq];have hz:ps.toArray.size=ps.length:=by simp
  exact getD_mem (by rw[Aa];show _<ps.length;omega)
 have g2:∀a∈ps.map (·.1),numAt ps.toArray (argBest (λi j=>decide (numAt ps.toArray i<numAt ps.toArray j)) (ps.toArray.size-1))<=a:=λa ha=>by
  obtain⟨j,hj,rfl⟩:=mem_getD ha;rw[Aa] at hj;have:=h2 j (by rw[Be];omega);rw[numAt_eq (j:=j)] at this;exact this
 have:=hm'.2 _ g1;have:=g2 _ hm'.1;omega
abbrev JG(xs:List D)(L:AC):Option (List D):=match xs with
 |[.ref k]=>(match L[k]? with|some (.lst ds)=>some ds|_=>none)
 |_=>none
abbrev Kz:GL:=λxs L=>(JG xs L).bind λds=>(DP ds).bind λns=>some (.int ns.sum,L)
abbrev No:GL:=λxs L=>(JG xs L).bind λds=>(DP ds).bind λns=>ns.min?.bind λm=>some (.int m,L)
def WY{K:AL}{H:Hp}{O:ANG}{L:AC}{vs:List V}{xs ds:List D}(rs:Ap K H O L)(is:AR K H O vs xs)(e:JG xs L=some ds):∃(p:Addr) (us:List V),vs=[.ref p]/\BJ K H p us/\AR K H O us ds:=by
 unfold JG at e;split at e
 .split at e
  .rename_i ds' hd;cases e
   cases is with|cons i1 i2 =>
    cases i2
    cases i1 with|ref hk =>
     obtain⟨us,hv,il⟩:=rs.ob _ _ _ hk hd;exact⟨_,us,rfl,BJ.of hv,il⟩
  .cases e
 .cases e
def LS{U β:Type}{o:Option U}{f:U->Option β}{b:β}(h:o.bind f=some b):∃a,o=some a/\f a=some b:=ALl.mp h
def AKy(hc:X.calm=true):EU X (.builtin "sum") Kz:=Bx.weaken (AGn hc) λvs H Q z3_=>by
 obtain⟨O,L,xs,d,L',rs,is,e,k⟩:=z3_;obtain⟨ds,e1,e⟩:=LS e;obtain⟨ns,e2,e⟩:=LS e;cases e;obtain⟨p,us,rfl,hq,il⟩:=WY rs is e1;rw[XA il e2] at hq;exact⟨p,ns,rfl,hq,k _ _ _ (.refl _ _) rs (.int _)⟩
def AK0(hc:X.calm=true):EU X (.builtin "min") No:=Bx.weaken (AGo hc) λvs H Q z3_=>by
 obtain⟨O,L,xs,d,L',rs,is,e,k⟩:=z3_;obtain⟨ds,e1,e⟩:=LS e;obtain⟨ns,e2,e⟩:=LS e;obtain⟨m,e3,e⟩:=LS e;cases e;obtain⟨p,us,rfl,hq,il⟩:=WY rs is e1;rw[XA il e2] at hq;exact⟨p,ns,m,rfl,hq,e3,k _ _ _ (.refl _ _) rs (.int _)⟩
end
def ALD:bootBuiltins "sum"=some (.builtin "sum"):=by decide +kernel
section
variable {L:AC}{Q:ANn}{k:Nat}{ds:List D}
def WX(e:L[k]?=some (.lst ds)):JG [.ref k] L=some ds:=by simp[JG,e]
end
end L3
set_option maxHeartbeats 4000000
namespace L3
open PySem PySem.Spec PyProof.Rows L2 Builtin Builtin.Str
inductive EntsK (K:AL):List DictEntry->List (Str×D)->Prop
 |nil:EntsK K [] []
 |cons {h:Int} {x:Str} {t:Tok} {u:Value} {d:D} {es:List DictEntry} {ds:List (Str×D)}:TupK K u d->EntsK K es ds->EntsK K (⟨h,.str x t,u⟩::es) ((x,d)::ds)
def EntsK.at{K:AL}(z:Str):∀{es:List DictEntry} {ds:List (Str×D)},EntsK K es ds->TupK K ((findBy Value.isStrOf es.toArray z).getD .none) ((ds.lookup z).getD .non)
 |_,_,.nil=>AAo
 |_,_,.cons (x:=x) (t:=t) (u:=u) (d:=d) (es:=es) (ds:=ds) a b=>by
  have ih:=EntsK.at z b;unfold findBy at ih ⊢;rw[List.find?_toArray] at ih ⊢;rw[FM]
  by_cases h:z=x
  .subst h;have e1:Value.isStrOf z (.str z t)=true:=by simp[Value.isStrOf]
   simp only[e1,Fb,beq_self_eq_true];exact a
  .have e1:Value.isStrOf z (.str x t)=false:=by
    have:¬x=z:=λq=>h q.symm;simp[Value.isStrOf,this]
   have e2:(z == x)=false:=beq_eq_false_iff_ne.mpr h;simp only[e1,Fb,e2];exact ih
abbrev Cov(B:Heap)(l:List Env)(h0:Heap)(H:Hp):Prop:=(∀b o,h0.get? b=some o->b∉FA l->∃u,B.get? b=some u)/\∀b u,H b=some u->∃o,B.get? b=some o
abbrev CXX(P:Program)(w:World):FZ:=λouter H s E e s'=>∃(ea:Addr) (cv a0:Value) (H':Hp) (B:Heap),e=.ref ea/\s'.os=s.os/\AllBare s'.gens/\Un (FA outer) [] H H' s.heap s'.heap/\Cu P w H' s'.heap /\
 Heap.FlyingW B outer ea cv a0 s'.heap/\Cov B outer s.heap H'/\E cv none H'
noncomputable abbrev Ss:=List D->AC->Option (Str×AC)
abbrev spX(K:AL)(G:GL)(GX:Ss):Sp:=λvs H Q E=>rC K G vs H Q\/∃O L xs c L' C,Ap K H O L/\AR K H O vs xs/\GX xs L=some (c,L')/\FY K c C/\∀H' O',Al H O H' O'->Ap K H' O' L'->E (.ref C) none H'
structure Su (P:Program) (w:World) (K:AL) (mg:AND) (base:Heap) (k:Nat) (x:Str) (G:GL) (GX:Ss):Prop where
 ex:∃f fd ps,DK P w K mg base (CXX P w) k f fd ps (spX K G GX)/\mg x=some (.ref f)/\GA K (.ref f)=true/\EV K fd ps []
def Su.mono{P:Program}{w:World}{K:AL}{mg:AND}{base:Heap}{j k:Nat}{x:Str}{G:GL}{GX:Ss}(F:Su P w K mg base j x G GX)(h:j<=k):Su P w K mg base k x G GX:=by obtain⟨f,fd,ps,a,b⟩:=F.ex;exact⟨f,fd,ps,a.mono h,b⟩
noncomputable abbrev YQ:ANF:=[.type "ValueError",.type "Exception",.type "BaseException",.type "object"]
structure Yz (K:AL) (c:Str) (C:Addr):Prop where
 ns:CC K mainGlobals c=some (some (.ref C))
 ok:PySem.W.excIn K C YQ "ValueError.__new__"=true
abbrev ZA(x C:Addr)(h:Heap):Prop:=∃o,h.get? x=some o/\o.cls=.ref C
def ZA.ty{x C:Addr}{h:Heap}(p:ZA x C h)(M:Model):PySem.W.Looks M h (typeOf (.ref x)) (.ref C):=by obtain⟨o,h1,h2⟩:=p;rw[<-h2];exact(PySem.W.Looks.ld h1).andThen .now
abbrev only(c0:Str):Str->Bool:=λc=>c == c0
open Sem (wp) in
abbrev Cd{prog:Program}{w:World}{κ:Type}[DecidableEq κ](knd:HeapKind prog w κ)(h:Heap)(d:Addr)(xs:List (κ×Addr×Value))(ep:Nat):Prop :=
 ∃o es,h.get? d=some o/\o.ExactDict/\o.data=.dict es ep/\es.toList=xs.map (entryOfKey knd)/\(∀x∈xs,knd.is h x.1 x.2.1)/\(xs.map (·.1)).Nodup
abbrev FC{κ:Type}[DecidableEq κ](xs:List (κ×Addr×Value))(k:κ)(ep:Nat):Nat:=if (atKey xs k).isSome=true then ep else ep+1
section
variable {prog:Program}{w:World}{κ:Type}[DecidableEq κ]{knd:HeapKind prog w κ}{A:Around}{E:ANL}{s:Shared}{d a:Addr}{k:κ}{xs:List (κ×Addr×Value)}{ep:Nat}
def Cd.of{h:Heap}(x:Cd knd h d xs ep):h.DictOfH knd d xs:=let ⟨o,es,h1,h2,h3,r⟩:=x;⟨o,es,ep,h1,h2,h3,r⟩
def AHA(hn:atKey xs k=none):k∉xs.map (·.1):=λhm=>by
 obtain⟨x,hx,rfl⟩:=Aq.mp hm;have h0:(xs.find? λy=>decide (y.1=x.1))=none:=by simpa[atKey] using hn
 simpa using AMO.mp h0 x hx
def Cd.grown{h:Heap}(x:Cd knd h d xs ep)(hn:atKey xs k=none)(hk:knd.is h k a)(v:Value) :
  Cd knd (h.update d (Obj.mapDictKeys (·.push ⟨knd.hash k,.ref a,v⟩))) d (xs++[(k,a,v)]) (ep+1)/\Heap.SameBut d h (h.update d (Obj.mapDictKeys (·.push ⟨knd.hash k,.ref a,v⟩))):=by
 have sb:Heap.SameBut d h (h.update d (Obj.mapDictKeys (·.push ⟨knd.hash k,.ref a,v⟩))):=.update ..;obtain⟨o,es,g,ex,dat,el,all,nd⟩:=x;have stay:∀y∈xs++[(k,a,v)],knd.is h y.1 y.2.1:=λy hy=>(Bi.mp hy).elim (all y) λz=>by rw[Dt.mp z];exact hk
 refine⟨⟨_,_,Heap.get?_update_self _ g (Obj.isFreed_of_dict (Obj.data_mapDictKeys dat _)),ex.mapDictKeys _,Obj.data_mapDictKeys dat _,by simp[el,entryOfKey],λy hy=>knd.keeps (stay y hy) g dat sb,?_⟩,sb⟩;rw[DM];exact Gp.mpr ⟨nd,by simp,λy hy z hz e=>AHA hn (by rw[show z=k by simpa using hz] at e;rwa [<-e])⟩
def Cd.turned{h:Heap}(x:Cd knd h d xs ep){j:Nat}{q:Addr×Value}(hj:xs[j]?=some (k,q))(v:Value) :
  Cd knd (h.update d (Obj.mapDict (·.modify j λe=>{e with val:=v}))) d (xs.map (putAt k v)) ep/\Heap.SameBut d h (h.update d (Obj.mapDict (·.modify j λe=>{e with val:=v}))):=by
 have sb:Heap.SameBut d h (h.update d (Obj.mapDict (·.modify j λe=>{e with val:=v}))):=.update ..;obtain⟨o,es,g,ex,dat,el,all,nd⟩:=x
 have rows:(es.modify j λe=>{e with val:=v}).toList=(xs.map (putAt k v)).map (entryOfKey knd):=by rw[<-modify_map_putAt (entryOfKey knd) (λe:DictEntry=>{e with val:=v}) k v (λ_ _=>rfl) nd hj,<-el];simp
 refine⟨⟨_,_,Heap.get?_update_self _ g (Obj.isFreed_of_dict (Obj.data_mapDict dat _)),ex.mapDict _,Obj.data_mapDict dat _,rows,λy hy=>?_,by rw[keys_map_putAt];exact nd⟩,sb⟩;rw[Aq] at hy;obtain⟨z,hz,rfl⟩:=hy;have e1:(putAt k v z).1=z.1/\(putAt k v z).2.1=z.2.1:=by unfold putAt;split <;> exact⟨rfl,rfl⟩
 rw[e1.1,e1.2];exact knd.keeps (all z hz) g dat sb
def Cd.find{G:Option Nat->Shared->Prop}(hu:knd.room A)(hk:knd.is s.heap k a)(x:Cd knd s.heap d xs ep)(no:atKey xs k=none->G none s)(yes:∀j q,xs[j]?=some (k,q)->atKey xs k=some q->G (some j) s) :
  wpAny (model prog w) A (dictFind d (.ref a) (knd.hash k)) G E s:=by
 obtain⟨o,es,g,ex,dat,el,all,nd⟩:=x;exact wpAny_dictFind_heap hu hk g dat el all nd (λf=>no (atKey_none_of_get f)) λj q hj=>yes j q hj (atKey_of_get nd hj)
def Cd.room(x:Cd knd s.heap d xs ep):∃o es,s.heap.get? d=some o/\o.data=.dict es ep/\es.size=xs.length:=by obtain⟨o,es,g,ex,dat,el,_⟩:=x;exact⟨o,es,g,dat,size_of_entries el⟩
def AGW{v:Value}{Q:Unit->Shared->Prop}(hu:knd.room A)(hk:knd.is s.heap k a)(x:Cd knd s.heap d xs ep)(hz:xs.length<=sizeLine)
  (q:∀h',Cd knd h' d (storedH xs k a v) (FC xs k ep)->Heap.SameBut d s.heap h'->Q () {s with heap:=h',toks:=s.toks+knd.draws k}):wpAny (model prog w) A (dictSet d (.ref a) v) Q E s:=by
 obtain⟨o,es,g,dat,sz⟩:=x.room;unfold dictSet dictSetHashed
 (try with_reducible refine DZ ?_)
 refine AH (knd.pyHash hu hk ?_)
 (try with_reducible refine DZ ?_)
 refine AH (Cd.find (s:={s with toks:=s.toks+knd.draws k}) hu hk x (λn=>?_) λj p hj e=>?_)
 .obtain⟨y,sb⟩:=x.grown n hk v;have e1:FC xs k ep=ep+1:=by simp[FC,n]
  rw[e1,storedH_new n] at q;exact AH (AMz (wpAny_updateDictKeys (s:={s with toks:=s.toks+knd.draws k}) (hz:=by omega) g dat (q _ y sb)))
 .obtain⟨y,sb⟩:=x.turned hj v;have e1:FC xs k ep=ep:=by simp[FC,e]
  rw[e1,storedH_old e] at q;exact AH (AMz (AH (wpAny_updateDict (s:={s with toks:=s.toks+knd.draws k}) g dat (wpAny_point (q _ y sb)))))
def ABp{v:Value}{Q:Unit->Shared->Prop}(hu:knd.room A.in1)(hk:knd.is s.heap k a)(x:Cd knd s.heap d xs ep)(hz:xs.length<=sizeLine)
  (q:∀h',Cd knd h' d (storedH xs k a v) (FC xs k ep)->Heap.SameBut d s.heap h'->Q () {s with heap:=h',toks:=s.toks+knd.draws k}):wpAny (model prog w) A (setItem (.ref d) (.ref a) v) Q E s:=by
 have ty:=x.of.typeIs
 have inner:∀{R:ANL} {F:ANL},(∀h',Cd knd h' d (storedH xs k a v) (FC xs k ep)->Heap.SameBut d s.heap h'->R .none {s with heap:=h',toks:=s.toks+knd.draws k}) ->
   wpAny (model prog w) A.in1 (Builtin.«dict.__setitem__» ⟨[.ref d,.ref a,v],[]⟩) (λfi s2=>∃v,fi=PySem.Fin.done (Flow.ret v)/\R v s2) F s:=λ{R F} r=>by
  show wpAny _ _ (Builtin.Dict.notOrdered "__setitem__" ⟨[.ref d,.ref a,v],[]⟩ >>= λ_=>dictSet d (.ref a) v >>= _) _ F s;exact AH (AM8 ty (AH (AGW hu hk x hz λh' y sb=>AN ⟨.none,rfl,r h' y sb⟩)))
 unfold setItem
 (try with_reducible refine DZ ?_)
 exact AH (wpAny_sequenceKey ty (by decide) (AH (AM5 (name:=Str.ofString "__setitem__") ty slot_dict_setitem (Fy slot_dict_setitem ty entry_dict_setitem (inner λh' y sb=>AN (q h' y sb)) (args_dict_setitem _ _ _)))))
end
section
variable {X:Cx}{pins:List (Addr×Obj)}{Y:L2.St}{H:Hp}{s:Shared}{O:ANG}{L:AC}
def key_leaf{k:Key}{v:V}{u:Value}(i:Is X.K H O v (keyD k))(r:Ac v u):EE k u:=by
 cases k with
 |inl n=>cases i;obtain⟨t,rfl⟩:=r;exact AFE _ _
 |inr x=>cases i;obtain⟨t,rfl⟩:=r;exact AFD _ _
def keys_leaf:∀{ks:List Key} {vs:List V} {us:ANF},AR X.K H O vs (ks.map keyD)->Ab vs us->Paired EE ks us
 |[],_,_,i,r=>by cases i;cases r;exact .nil
 |k::ks,_,_,i,r=>by
  cases i with|cons i1 i2=>cases r with|cons r1 r2=>exact .cons (key_leaf i1 r1) (keys_leaf i2 r2)
def Rk(I:AI X pins Y H s):∀{ks:NK} {vs:List V} {us:ANF},AR X.K H O vs (ks.map IS)->Ab vs us->Paired (Gi s.heap) ks us
 |[],_,_,i,r=>by cases i;cases r;exact .nil
 |.inl k::ks,_,_,i,r=>by
  cases i with|cons i1 i2=>cases r with|cons r1 r2=>exact .cons (key_leaf i1 r1) (Rk I i2 r2)
 |.inr k::ks,v::_,_,i,r=>by
  cases i with|cons i1 i2=>cases r with|cons r1 r2 =>
   have i1':Is X.K H O v (.tup (k.map keyD)):=i1
   cases i1' with|tup h il =>
    obtain⟨its,rv,t,_⟩:=I.tuple h;exact .cons ⟨_,its,r1,t,keys_leaf il rv⟩ (Rk I i2 r2)
def IN(I:AI X pins Y H s){k:NK}{b:Addr}(i:Is X.K H O (.ref b) (Dm k)):(Gy X.prog X.w).is s.heap k b:=by
 have i':Is X.K H O (.ref b) (.tup (k.map IS)):=i
 cases i' with|tup h il =>
  obtain⟨its,rv,t,_⟩:=I.tuple h;exact⟨its,t,Rk I il rv⟩
end
abbrev LN:D->Option Key
 |.int i=>some (.inl i)
 |.str x=>some (.inr x)
 |_=>none
abbrev IZ:List D->Option (List Key)
 |[]=>some []
 |d::r=>(LN d).bind λk=>(IZ r).map (k::·)
abbrev JZ:D->Option (Key ⊕ List Key)
 |.int i=>some (.inl (.inl i))
 |.str x=>some (.inl (.inr x))
 |.tup ds=>(IZ ds).map .inr
 |_=>none
abbrev Fs:List D->Option NK
 |[]=>some []
 |d::r=>(JZ d).bind λk=>(Fs r).map (k::·)
abbrev dNK:D->Option NK
 |.tup ds=>Fs ds
 |_=>none
def AGZ{d:D}{k:Key}(e:LN d=some k):d=keyD k:=by unfold LN at e;split at e <;> cases e <;> rfl
def YF:∀{ds:List D} {ks:List Key},IZ ds=some ks->ds=ks.map keyD
 |[],ks,e=>by cases e;rfl
 |d::r,ks,e=>by
  unfold IZ at e;obtain⟨k,e1,e2⟩:=ALl.mp e;obtain⟨l,e3,rfl⟩:=Gj.mp e2;rw[AGZ e1,YF e3];rfl
def AGa{d:D}{k:Key ⊕ List Key}(e:JZ d=some k):d=IS k:=by
 unfold JZ at e;split at e
 .cases e;rfl
 .cases e;rfl
 .obtain⟨l,e3,rfl⟩:=Gj.mp e;rw[YF e3];rfl
 .cases e
def YG:∀{ds:List D} {ks:NK},Fs ds=some ks->ds=ks.map IS
 |[],ks,e=>by cases e;rfl
 |d::r,ks,e=>by
  unfold Fs at e;obtain⟨k,e1,e2⟩:=ALl.mp e;obtain⟨l,e3,rfl⟩:=Gj.mp e2;rw[AGa e1,YG e3];rfl
def Hz{d:D}{k:NK}(e:dNK d=some k):d=Dm k:=by
 unfold dNK at e;split at e
 .rw[YG e];rfl
 .cases e
def JM{K:AL}{H:Hp}{O:ANG}{v:V}{d:D}{k:NK}(i:Is K H O v d)(e:dNK d=some k):∃b,v=.ref b/\Is K H O (.ref b) (Dm k):=by rw[Hz e] at i;have i':Is K H O v (.tup (k.map IS)):=i;cases i' with|tup h il=>exact⟨_,rfl,.tup h il⟩
abbrev BP(kvs:List (NK×D))(k:NK):Option D:=(kvs.find? λkv=>decide (kv.1=k)).map (·.2)
abbrev Cp(kvs:List (NK×D))(k:NK)(d:D):List (NK×D) :=
 if (kvs.any λkv=>decide (kv.1=k))=true then kvs.map (λkv=>if kv.1=k then (kv.1,d) else kv) else kvs++[(k,d)]
section
variable {X:Cx}{pins:List (Addr×Obj)}{Y:L2.St}{H:Hp}{s:Shared}{O:ANG}{L:AC}{a:Addr}
inductive Ct (K:AL) (H:Hp) (O:ANG):List (NK×D)->List (NK×Addr×V)->List (NK×Addr×Value)->Prop
 |nil:Ct K H O [] [] []
 |cons {k:NK} {d:D} {b:Addr} {v:V} {u:Value} {kvs us xs}:Is K H O v d->Ac v u->Ct K H O kvs us xs->Ct K H O ((k,d)::kvs) ((k,b,v)::us) ((k,b,u)::xs)
def row3_of{K:AL}:∀{kvs:List (NK×D)} {us:List (NK×Addr×V)} {xs:List (NK×Addr×Value)},us.map (·.1)=kvs.map (·.1)->AR K H O (us.map (·.2.2)) (kvs.map (·.2)) ->
  Paired (λ(p:NK×Addr×V) (q:NK×Addr×Value)=>p.1=q.1/\p.2.1=q.2.1/\Ac p.2.2 q.2.2) us xs->Ct K H O kvs us xs
 |[],[],_,_,_,r=>by cases r;exact .nil
 |(k,d)::kvs,(k',b,v)::us,_,e,i,r=>by
  simp only[Aj,List.cons.injEq] at e;obtain⟨e1,e2⟩:=e
  cases r with
  |@cons _ q _ qs r1 r2 =>
   obtain⟨q1,q2,q3⟩:=q;obtain⟨h1,h2,h3⟩:=r1;simp only at e1 h1 h2 h3;subst e1 h1 h2
   cases i with
   |cons i1 i2=>exact .cons i1 h3 (row3_of e2 i2 r2)
 |[],_::_,_,e,_,_=>by simp at e
 |_::_,[],_,e,_,_=>by simp at e
def Ct.look{K:AL}{kvs:List (NK×D)}{us:List (NK×Addr×V)}{xs:List (NK×Addr×Value)}(r:Ct K H O kvs us xs)(k:NK) :
  (BP kvs k=none/\atKey xs k=none)\/∃d b v u,BP kvs k=some d/\atKey xs k=some (b,u)/\Is K H O v d/\Ac v u/\(k,b,v)∈us:=by
 induction r with
 |nil=>exact .inl ⟨rfl,rfl⟩
 |@cons k' d b v u kvs us xs i rv t ih =>
  by_cases e:k'=k
  .subst e;exact .inr ⟨d,b,v,u,by simp[BP],by simp[atKey],i,rv,Az⟩
  .have e1:BP ((k',d)::kvs) k=BP kvs k:=by simp[BP,FM,e]
   have e2:atKey ((k',b,u)::xs) k=atKey xs k:=by simp[atKey,FM,e]
   rw[e1,e2];rcases ih with h|⟨d,b,v,u,h1,h2,h3,h4,h5⟩
   .exact .inl h
   .exact .inr ⟨d,b,v,u,h1,h2,h3,h4,BA _ h5⟩
def JY(I:AI X pins Y H s){kvs:List (NK×D)}{ep:Nat}(h:Gh X.K H O a (.dt kvs ep)):∃us xs,H a=some (.dN us ep)/\(a == sysModules)=false/\us.length<=sizeLine/\Ct X.K H O kvs us xs/\(∀u∈us,Is X.K H O (.ref u.2.1) (Dm u.1))/\Cd (Gy X.prog X.w) s.heap a xs ep:=by
 obtain⟨us,e,e1,il,ik⟩:=h;obtain⟨z,y,xs,r,o,es,h1,h2,h3,h4,h5⟩:=(show CB X.prog X.w H s.heap a (.dN us ep) from I.hok a _ e);refine⟨us,xs,e,y,z,row3_of e1 il r,ik,o,es,h1,h2,h3,h4,λx hx=>?_,h5⟩
 have all:∀{l:List (NK×Addr×V)} {m:List (NK×Addr×Value)},Paired (λ(p:NK×Addr×V) (q:NK×Addr×Value)=>p.1=q.1/\p.2.1=q.2.1/\Ac p.2.2 q.2.2) l m->(∀u∈l,Is X.K H O (.ref u.2.1) (Dm u.1))->∀x∈m,(Gy X.prog X.w).is s.heap x.1 x.2.1:=by
  intro l m q
  induction q with
  |nil=>intro _ x hx;exact nomatch hx
  |@cons p q ps qs hq t ih =>
   intro hl x hx;rcases AX.mp hx with e|hx
   .subst e;rw[<-hq.1,<-hq.2.1];exact IN I (hl p Az)
   .exact ih (λu hu=>hl u (BA _ hu)) x hx
 exact all r ik x hx
end
section
variable {X:Cx}
def AAr{prog:Program}{w:World}{A:Around}{E:ANL}{s:Shared}{value slice:Expr}{T id:String}{o i:Value}{Q:ANL}
  (hl:typeLookup (.type T) "__getitem__"=pure (some (.builtin id))) (hs:subscripted slice false o i=operate [o,i] (getItem o i)) (ty:s.TypeIs o T) (got:wpAny (model prog w) A (getItem o i) Q E s) :
  wpAny (model prog w) A (subscriptTail value slice o i) Q E s:=by
 have all:∀{k:Sem Value},k=(subscripted slice false o i >>= λr=>letTemporaryGo value o r >>= λ_=>pure r)->wpAny (model prog w) A k Q E s:=λ{k} ek=>by
  rw[ek,hs];exact AH (wpAny_operating (Ef got (λr _ z=>AH (wpAny_letTemporaryGo (AN z))) λ_ _ z=>z))
 unfold subscriptTail;rw[getitemInPython_of_ne ty.not_modules];refine AH (AH (wpAny_specialOf ty hl ?_))
 first|exact AN (all rfl)|exact AH (AN (all rfl))|exact all rfl
abbrev FU:G2:=λx y L=>match x with
 |.ref i=>(match L[i]? with|some (.dt kvs _)=>(dNK y).bind λk=>(BP kvs k).map λd=>(d,L)|_=>none)
 |_=>none
def AF1{x y d:D}{L L':AC}(e:FU x y L=some (d,L')):∃i kvs ep k,x=.ref i/\L[i]?=some (.dt kvs ep)/\dNK y=some k/\BP kvs k=some d/\L'=L:=by
 unfold FU at e;split at e
 .rename_i i;split at e
  .rename_i kvs ep e1;obtain⟨k,e2,e3⟩:=ALl.mp e;obtain⟨d',e4,e5⟩:=Gj.mp e3;cases e5;exact⟨i,kvs,ep,k,rfl,e1,e2,e4,rfl⟩
  .cases e
 .cases e
def AHj(hu:X.A.units+64<cLine):OQ X FU:=by
 rintro value slice pins s Y H x y v u Q I rx ry ⟨O,L,dx,dy,d,L',rs,ix,iy,e,k⟩ hs;obtain⟨i,kvs,ep,k0,rfl,e1,e2,e3,rfl⟩:=AF1 e
 cases ix with|ref hi =>
  obtain⟨us,xs,ha,hsm,hz,r3,hk,dd⟩:=JY I (rs.ob i _ _ hi e1);obtain⟨b,rfl,ik⟩:=JM iy e2;cases rx;cases ry;rcases r3.look k0 with⟨n,_⟩|⟨d',b',v',u',l,at_,iv,rv,_⟩
  .rw[e3] at n;cases n
  .rw[e3] at l;cases l;refine AAr PySem.F.slot_dict_getitem.lookup hs dd.of.typeIs (wpAny_getItem_heap (show X.A.in1.units+1<cLine from by show X.A.units+1+1<cLine;omega) (IN I ik) dd.of at_ ?_);exact⟨v',H,I.tok _,rv,k _ _ _ (.refl _ _) rs iv⟩
abbrev HA(neg:Bool):G2:=λx y L=>match y with
 |.ref i=>(match L[i]? with|some (.dt kvs _)=>(dNK x).map λk=>(.bl (neg != (BP kvs k).isSome),L)|_=>none)
 |_=>none
def Xa{neg:Bool}{x y d:D}{L L':AC}(e:HA neg x y L=some (d,L')):∃i kvs ep k,y=.ref i/\L[i]?=some (.dt kvs ep)/\dNK x=some k/\d=.bl (neg != (BP kvs k).isSome)/\L'=L:=by
 unfold HA at e;split at e
 .rename_i i;split at e
  .rename_i kvs ep e1;obtain⟨k,e2,e3⟩:=Gj.mp e;cases e3;exact⟨i,kvs,ep,k,rfl,e1,e2,rfl,rfl⟩
  .cases e
 .cases e
def Ct.some_eq{K:AL}{H:Hp}{O:ANG}{kvs:List (NK×D)}{us:List (NK×Addr×V)}{xs:List (NK×Addr×Value)}(r:Ct K H O kvs us xs)(k:NK):(atKey xs k).isSome=(BP kvs k).isSome:=by
 rcases r.look k with⟨a,b⟩|⟨d,b,v,u,h1,h2,_⟩
 .rw[a,b];rfl
 .rw[h1,h2];rfl
def AJQ(hu:X.A.units+64<cLine):Cm X (compareOp .In) (HA false):=by
 rintro pins s Y H x y v u Q I rx ry ⟨O,L,dx,dy,d,L',rs,ix,iy,e,k⟩;obtain⟨i,kvs,ep,k0,rfl,e1,e2,rfl,rfl⟩:=Xa e
 cases iy with|ref hi =>
  obtain⟨us,xs,ha,hsm,hz,r3,hk,dd⟩:=JY I (rs.ob i _ _ hi e1);obtain⟨b,rfl,ik⟩:=JM ix e2;cases rx;cases ry;refine wpAny_in_heap (show X.A.in1.units+1<cLine from by show X.A.units+1+1<cLine;omega) (IN I ik) hsm dd.of ?_;rw[r3.some_eq];exact⟨.bl (BP kvs k0).isSome,H,I.tok _,rfl,k _ _ _ (.refl _ _) rs (by rw[Bool.false_bne];exact .bl _)⟩
def AJG(hu:X.A.units+64<cLine):Cm X (compareOp .NotIn) (HA true):=by
 rintro pins s Y H x y v u Q I rx ry ⟨O,L,dx,dy,d,L',rs,ix,iy,e,k⟩;obtain⟨i,kvs,ep,k0,rfl,e1,e2,rfl,rfl⟩:=Xa e
 cases iy with|ref hi =>
  obtain⟨us,xs,ha,hsm,hz,r3,hk,dd⟩:=JY I (rs.ob i _ _ hi e1);obtain⟨b,rfl,ik⟩:=JM ix e2;cases rx;cases ry;refine wpAny_notIn_heap (show X.A.in1.units+1<cLine from by show X.A.units+1+1<cLine;omega) (IN I ik) hsm dd.of ?_;rw[r3.some_eq];exact⟨.bl (!(BP kvs k0).isSome),H,I.tok _,rfl,k _ _ _ (.refl _ _) rs (by rw[Bool.true_bne];exact .bl _)⟩
end
abbrev IY:EF:=λ_ L=>some (.ref L.length,L++[.dt [] 0])
section
variable {X:Cx}{pos:Pos}
def AGV{P:Program}{w:World}{H:Hp}(h:Heap)(hb:sysModules<h.objs.size):CB P w H (h.push {cls:=.type "dict",data:=.dict #[]}) h.objs.size (.dN [] 0) :=
 ⟨EH _,beq_eq_false_iff_ne.mpr (Ne.symm (BV hb)),[],.nil,_,#[],Heap.get?_push_size _ rfl,⟨rfl,rfl,rfl⟩,rfl,rfl,Gm⟩
def AKl:AZ X (.Dict [] [] pos) IY:=λpins s Y H Q I z6_=>by
 obtain⟨O,Z,L,d,L',r,e,k⟩:=z6_;cases e;have hp:=I.hok.fresh (Af s.heap.objs.size);have st:Al H O (upd H s.heap.objs.size (.dN [] 0)) (O++[s.heap.objs.size]):=⟨.new hp,Ai _ _⟩
 exact wpAny_Dict_empty ⟨.ref s.heap.objs.size,_,I.laid (a:=s.heap.objs.size) (o:=.dN [] 0) (t':=s.toks) (λ_ _ q=>Heap.get?_push_of_some _ q) (Af _) (AGV s.heap I.big),rfl,
  k _ _ _ st (r.s.new hp ⟨[],CI,rfl,.nil,λu hu=>(nomatch hu)⟩) (.ref (by rw[<-r.s.len];simp))⟩
end
abbrev putU(us:List (NK×Addr×V))(k:NK)(b:Addr)(v:V):List (NK×Addr×V) :=
 if (us.any λu=>decide (u.1=k))=true then us.map (λu=>if u.1=k then (u.1,u.2.1,v) else u) else us++[(k,b,v)]
section
variable {K:AL}{H:Hp}{O:ANG}
def Ct.anyU{kvs:List (NK×D)}{us:List (NK×Addr×V)}{xs:List (NK×Addr×Value)}(r:Ct K H O kvs us xs)(k:NK) :
  (us.any λu=>decide (u.1=k))=(atKey xs k).isSome/\(kvs.any λu=>decide (u.1=k))=(atKey xs k).isSome:=by
 induction r with
 |nil=>exact⟨rfl,rfl⟩
 |@cons k' d b v u kvs us xs i rv t ih =>
  by_cases e:k'=k
  .subst e;simp[atKey]
  .have e2:atKey ((k',b,u)::xs) k=atKey xs k:=by simp[atKey,FM,e]
   rw[e2,ALk,ALk,ih.1,ih.2];simp[e]
def Ct.repl{kvs:List (NK×D)}{us:List (NK×Addr×V)}{xs:List (NK×Addr×Value)}(r:Ct K H O kvs us xs)(k:NK){d:D}{v:V}{u:Value}(i:Is K H O v d)(rv:Ac v u) :
  Ct K H O (kvs.map λkv=>if kv.1=k then (kv.1,d) else kv) (us.map λq=>if q.1=k then (q.1,q.2.1,v) else q) (xs.map (putAt k u)):=by
 induction r with
 |nil=>exact .nil
 |@cons k' d' b v' u' kvs us xs i' rv' t ih =>
  rw[Aj,Aj,Aj];unfold putAt
  by_cases e:k'=k
  .rw[if_pos e,if_pos e,if_pos e];exact .cons i rv ih
  .rw[if_neg e,if_neg e,if_neg e];exact .cons i' rv' ih
def Ct.snoc{kvs:List (NK×D)}{us:List (NK×Addr×V)}{xs:List (NK×Addr×Value)}(r:Ct K H O kvs us xs){k:NK}{b:Addr}{d:D}{v:V}{u:Value}(i:Is K H O v d)(rv:Ac v u) :
  Ct K H O (kvs++[(k,d)]) (us++[(k,b,v)]) (xs++[(k,b,u)]):=by
 induction r with
 |nil=>exact .cons i rv .nil
 |cons i' rv' t ih=>exact .cons i' rv' ih
def Ct.put{kvs:List (NK×D)}{us:List (NK×Addr×V)}{xs:List (NK×Addr×Value)}(r:Ct K H O kvs us xs)(k:NK){b:Addr}{d:D}{v:V}{u:Value}(i:Is K H O v d)(rv:Ac v u) :
  Ct K H O (Cp kvs k d) (putU us k b v) (storedH xs k b u):=by
 obtain⟨e1,e2⟩:=r.anyU k;unfold Cp putU storedH;rw[e1,e2]
 by_cases q:(atKey xs k).isSome=true
 .rw[if_pos q,if_pos q,if_pos q];exact r.repl k i rv
 .rw[if_neg q,if_neg q,if_neg q];exact r.snoc i rv
def Ct.parts{kvs:List (NK×D)}{us:List (NK×Addr×V)}{xs:List (NK×Addr×Value)}(r:Ct K H O kvs us xs):us.map (·.1)=kvs.map (·.1)/\AR K H O (us.map (·.2.2)) (kvs.map (·.2)) /\
  Paired (λ(p:NK×Addr×V) (q:NK×Addr×Value)=>p.1=q.1/\p.2.1=q.2.1/\Ac p.2.2 q.2.2) us xs:=by
 induction r with
 |nil=>exact⟨rfl,.nil,.nil⟩
 |cons i rv t ih=>exact⟨by rw[Aj,Aj,ih.1],.cons i ih.2.1,.cons ⟨rfl,rfl,rv⟩ ih.2.2⟩
def Ct.len{kvs:List (NK×D)}{us:List (NK×Addr×V)}{xs:List (NK×Addr×Value)}(r:Ct K H O kvs us xs):us.length=kvs.length/\xs.length=kvs.length:=by
 induction r with
 |nil=>exact⟨rfl,rfl⟩
 |cons i rv t ih=>simp[ih.1,ih.2]
def ACR{kvs:List (NK×D)}{k:NK}{d:D}:(Cp kvs k d).length<=kvs.length+1:=by unfold Cp;split <;> simp
def ACO{us:List (NK×Addr×V)}{k:NK}{b:Addr}{v:V}{P:NK->Addr->Prop}(h:∀u∈us,P u.1 u.2.1)(hb:P k b):∀u∈putU us k b v,P u.1 u.2.1:=by
 intro u hu;unfold putU at hu;split at hu
 .rw[Aq] at hu;obtain⟨q,hq,rfl⟩:=hu;split
  .exact h q hq
  .exact h q hq
 .rcases Bi.mp hu with hu|hu
  .exact h u hu
  .rw[show u=(k,b,v) by simpa using hu];exact hb
end
abbrev epN(kvs:List (NK×D))(k:NK)(ep:Nat):Nat:=if (kvs.any λkv=>decide (kv.1=k))=true then ep else ep+1
abbrev Hv(o i v:D)(L:AC):Option AC:=match o with
 |.ref n=>(match L[n]? with|some (.dt kvs ep)=>if kvs.length<16777216 then (dNK i).map λk=>L.set n (.dt (Cp kvs k v) (epN kvs k ep)) else none|_=>none)
 |_=>none
def AF2{o i v:D}{L L':AC}(e:Hv o i v L=some L'):∃n kvs ep k,o=.ref n/\L[n]?=some (.dt kvs ep)/\kvs.length<16777216/\dNK i=some k/\L'=L.set n (.dt (Cp kvs k v) (epN kvs k ep)):=by
 unfold Hv at e;split at e
 .rename_i n;split at e
  .rename_i kvs ep e1;split at e
   .rename_i hz;obtain⟨k,e2,rfl⟩:=Gj.mp e;exact⟨n,kvs,ep,k,rfl,e1,hz,e2,rfl⟩
   .cases e
  .cases e
 .cases e
abbrev ACD(K:AL):OL:=λo i v H Q=>∃O L x y d L',Ap K H O L/\Is K H O o x/\Is K H O i y/\Is K H O v d/\Hv x y d L=some L'/\∀H',Al H O H' O->Ap K H' O L'->Q H'
section
variable {X:Cx}{o i e:Expr}{fo fi fv:EF}{pos:Pos}
def Xv{pins:List (Addr×Obj)}{Y:L2.St}{H:Hp}{s:Shared}{O:ANG}{L:AC}{n ep:Nat}{a b:Addr}{kvs:List (NK×D)}{k:NK}{v:V}{u:Value}{d:D}{us:List (NK×Addr×V)}{xs:List (NK×Addr×Value)}{h':Heap}{t':Nat}
  (I:AI X pins Y H s) (rs:Ap X.K H O L) (hn:O[n]?=some a) (hz:kvs.length<16777216) (ha:H a=some (.dN us ep)) (hsm:(a == sysModules)=false) (r3:Ct X.K H O kvs us xs) (hk:∀u∈us,Is X.K H O (.ref u.2.1) (Dm u.1))
  (ik:Is X.K H O (.ref b) (Dm k)) (iv:Is X.K H O v d) (rv:Ac v u) (dd:Cd (Gy X.prog X.w) h' a (storedH xs k b u) (FC xs k ep)) (hs:Heap.SameBut a s.heap h') :
  AI X pins Y (upd H a (.dN (putU us k b v) (epN kvs k ep))) {s with heap:=h',toks:=t'}/\Al H O (upd H a (.dN (putU us k b v) (epN kvs k ep))) O/\Ap X.K (upd H a (.dN (putU us k b v) (epN kvs k ep))) O (L.set n (.dt (Cp kvs k d) (epN kvs k ep))):=by
 have rp:=r3.put k (b:=b) iv rv;obtain⟨p1,p2,p3⟩:=rp.parts;have ee:FC xs k ep=epN kvs k ep:=by unfold FC epN;rw[(r3.anyU k).2]
 rw[ee] at dd
 have hl:(putU us k b v).length<=sizeLine:=by rw[rp.len.1,sizeLine_eq];have:=ACR (kvs:=kvs) (k:=k) (d:=d);omega
 have st:Al H O (upd H a (.dN (putU us k b v) (epN kvs k ep))) O:=⟨.write ha id,AW _⟩;obtain⟨q,es,hq,h2,h3,h4,_,h5⟩:=dd;refine⟨AGY I (by rw[ha];exact True.intro) hs ⟨q,hq⟩ ⟨hl,hsm,_,p3,q,es,hq,h2,h3,h4,h5⟩,st,?_⟩;exact rs.write (o':=.dt (Cp kvs k d) (epN kvs k ep)) hn ⟨_,CI,p1,p2.mono st,λx hx=>(ACO (P:=λk b=>Is X.K H O (.ref b) (Dm k)) hk ik x hx).mono st⟩
def ABn(hu:X.A.units+64<cLine):Sl X (ACD X.K):=by
 rintro pins s Y H o i v ov iv u Q I ro ri rv ⟨O,L,x,y,d,L',rs,io,ii,idv,e,k⟩;obtain⟨n,kvs,ep,k0,rfl,e1,hz,e2,rfl⟩:=AF2 e
 cases io with|ref hn =>
  obtain⟨us,xs,ha,hsm,hz',r3,hk,dd⟩:=JY I (rs.ob n _ _ hn e1);obtain⟨b,rfl,ik⟩:=JM ii e2;cases ro;cases ri;refine ABp (show X.A.in1.units+1<cLine from by show X.A.units+1+1<cLine;omega) (IN I ik) dd (by rw[r3.len.2,sizeLine_eq];omega) λh' dd' hs=>?_;obtain⟨I',st,rs'⟩:=Xv (t':=s.toks+(Gy X.prog X.w).draws k0) I rs hn hz ha hsm r3 hk ik idv rv dd' hs;exact⟨_,I',k _ st rs'⟩
abbrev IW(fo fi fv:EF):SF:=λZ L=>(fv Z L).bind λv=>(fo Z v.2).bind λo=>(fi Z o.2).bind λi=>(Hv o.1 i.1 v.1 i.2).bind λL'=>some (.next Z L')
def AIr{p2:Pos}(hu:X.A.units+64<cLine)(ho:AZ X o fo)(hi:AZ X i fi)(he:AZ X e fv)(hs:swapsWithSole [.Subscript o i p2] e pos.line X.env=pure false:=by rfl)(hw:swappedStores [.Subscript o i p2] e X.env=pure none:=by rfl)
  (h1:(assignEach [.Subscript o i p2] X.env).map (·.2)=[assign (.Subscript o i p2) X.env]:=by rfl)
  (ha:∀v,assign (.Subscript o i p2) X.env v=(do
   let ov <-holding [v] (eval o X.env)
   let iv <-holding [v,ov] (eval i X.env)
   standAt p2
   holding [v,ov,iv] (setItem ov iv v)
   release [v,ov,iv] []):=by intro _;rfl):Dq X (.Assign [.Subscript o i p2] e pos) (IW fo fi fv) :=
 PS.weaken (RG he (Vr ho hi (ABn hu) ha) hs hw h1) λD Y H z3_=>by
  obtain⟨O,Z,L,out,r,ee,k⟩:=z3_;unfold IW at ee;obtain⟨p,e1,ee⟩:=bS ee;obtain⟨q,e2,ee⟩:=bS ee;obtain⟨w,e3,ee⟩:=bS ee
  cases e4:Hv q.1 w.1 p.1 w.2 with
  |none=>rw[e4] at ee;cases ee
  |some L' =>
   rw[e4] at ee;cases ee;refine⟨O,Z,L,p.1,p.2,r,e1,λv H1 O1 st1 rs1 is1=>⟨O1,Z,p.2,q.1,q.2,r.to st1 rs1,e2,λov H2 O2 st2 rs2 is2=>⟨O2,Z,q.2,w.1,w.2,r.to (st1.trans st2) rs2,e3,λiv H3 O3 st3 rs3 is3=>?_⟩⟩⟩;refine⟨O3,w.2,q.1,w.1,p.1,L',rs3,is2.mono st3,is3,(is1.mono st2).mono st3,e4,λH4 st4 rs4=>?_⟩;have stA:=((st1.trans st2).trans st3).trans st4;exact k _ _ _ stA ⟨rs4,r.f.mono stA⟩
end
open Sem (wp)
section
variable {prog:Program}{w:World}{κ:Type}[DecidableEq κ]{knd:HeapKind prog w κ}{A:Around}{E:ANL}{s:Shared}{d a:Addr}{k:κ}{xs:List (κ×Addr×Value)}{ep:Nat}
def Cd.entry{h:Heap}(x:Cd knd h d xs ep){j:Nat}{q:Addr×Value}(hj:xs[j]?=some (k,q)):∃o es,h.get? d=some o/\o.data=.dict es ep/\es[j]?=some (entryOfKey knd (k,q)):=by obtain⟨o,es,g,ex,dat,el,_⟩:=x;exact⟨o,es,g,dat,by rw[entry_at el,hj];rfl⟩
def ABq{dv:Value}{Q:ANL}(hu:knd.room A)(hk:knd.is s.heap k a)(x:Cd knd s.heap d xs ep)(hz:xs.length<=sizeLine)
  (there:∀p,atKey xs k=some p->Q p.2 {s with toks:=s.toks+knd.draws k})
  (new:atKey xs k=none->∀h',Cd knd h' d (storedH xs k a dv) (FC xs k ep)->Heap.SameBut d s.heap h'->Q dv {s with heap:=h',toks:=s.toks+knd.draws k}) :
  wpAny (model prog w) A (dictSetDefault d (.ref a) dv) Q E s:=by
 obtain⟨o,es,g,dat,sz⟩:=x.room;unfold dictSetDefault
 (try with_reducible refine DZ ?_)
 refine AH (knd.pyHash hu hk ?_);refine AH (Cd.find (s:={s with toks:=s.toks+knd.draws k}) hu hk x (λn=>?_) λj p hj e=>?_)
 .obtain⟨y,sb⟩:=x.grown n hk dv;have e1:FC xs k ep=ep+1:=by simp[FC,n]
  rw[e1,storedH_new n] at new;exact AH (AMz (AH (wpAny_updateDictKeys (s:={s with toks:=s.toks+knd.draws k}) (hz:=by omega) g dat (AN (new n _ y sb)))))
 .obtain⟨o',es',g',dat',ee⟩:=x.entry hj;refine AH (AM9 (s:={s with toks:=s.toks+knd.draws k}) g' dat' ?_);rw[ee];exact AH (AMz (AN (there p e)))
def AEW(hd:(d == sysModules)=false)(dflt:Value) :
  MeetsIn prog w (Builtin.«dict.setdefault» ⟨[.ref d,.ref a,dflt],[]⟩) (λA R s=>knd.room A.in1/\∃k xs ep,knd.is s.heap k a/\Cd knd s.heap d xs ep/\xs.length<=sizeLine /\
   (∀p,atKey xs k=some p->R (.ok (.ret p.2)) {s with toks:=s.toks+knd.draws k}) /\
   (atKey xs k=none->∀h',Cd knd h' d (storedH xs k a dflt) (FC xs k ep)->Heap.SameBut d s.heap h'->R (.ok (.ret dflt)) {s with heap:=h',toks:=s.toks+knd.draws k})) :=
 .of_wp λA R s z3_=>by
  obtain⟨hu,k,xs,ep,hkey,hm,hz,h1,h2⟩:=z3_;unfold Builtin.«dict.setdefault»;refine AH ?_;unfold Builtin.Dict.keyAndDefault;refine AH (AM8 hm.of.typeIs ?_);show wpAny _ _ (pure (d,Value.ref a,some dflt)) _ _ s;refine AN ?_
  show wpAny _ _ (if (d == sysModules)=true then _ else (dictSetDefault d (.ref a) dflt >>= _)) _ _ s
  rw[if_neg (by rw[hd];exact Cf)];exact AH (ABq hu hkey hm hz (λp hp=>AN ⟨p.2,rfl,h1 p hp⟩) λhn h' hm' hs'=>AN ⟨dflt,rfl,h2 hn h' hm' hs'⟩)
end
section
variable {X:Cx}
abbrev LI:GM:=λx xs L=>match x,xs with
 |.ref i,[y]=>(match L[i]? with|some (.dt kvs _)=>(dNK y).map λk=>((BP kvs k).getD .non,L)|_=>none)
 |_,_=>none
def AJg(hu:X.A.units+64<cLine):MtD X "dict.get" LI:=λpins s Y H x xs v us Q I rx rv z12_=>by
 obtain⟨O,L,dx,dxs,d,L',rp,ix,ixs,e,k⟩:=z12_;unfold LI at e;split at e
 .rename_i i y;split at e
  .rename_i kvs ep e1;obtain⟨k0,e2,e3⟩:=Gj.mp e;cases e3
   cases ix with|ref hi =>
    cases ixs with|cons i1 i2 =>
     cases i2;obtain⟨us',ys,ha,hsm,hz,r3,hk,dd⟩:=JY I (rp.ob i _ _ hi e1);obtain⟨b,rfl,ik⟩:=JM i1 e2;cases rx;obtain⟨u,rfl,ru⟩:=Dk rv;cases (show u=Value.ref b from ru);refine call_meetsIn PySem.F.slot_dict_get dd.of.typeIs PySem.F.entry_dict_get (PySem.F.args_dict_get_2 _ _) (meetsH_dict_get (Gy X.prog X.w) _ b hsm) ⟨show X.A.in1.units+1<cLine from by show X.A.units+1+1<cLine;omega,k0,ys,IN I ik,dd.of,?_⟩;rcases r3.look k0 with⟨n1,n2⟩|⟨d',b',v',u',l,at_,iv,rv',_⟩
     .rw[n1] at k;rw[n2];exact⟨.non,H,I.tok _,rfl,k _ _ _ (.refl _ _) rp .non⟩
     .rw[l] at k;rw[at_];exact⟨v',H,I.tok _,rv',k _ _ _ (.refl _ _) rp iv⟩
  .cases e
 .cases e
abbrev HX:GM:=λx xs L=>match x,xs with
 |.ref i,[y,v]=>(match L[i]? with
  |some (.dt kvs ep)=>(dNK y).bind λk=>(match BP kvs k with|some d=>some (d,L)|none=>if kvs.length<16777216 then some (v,L.set i (.dt (Cp kvs k v) (epN kvs k ep))) else none)
  |_=>none)
 |_,_=>none
def AJZ(hu:X.A.units+64<cLine):MtD X "dict.setdefault" HX:=λpins s Y H x xs v us Q I rx rv z12_=>by
 obtain⟨O,L,dx,dxs,d,L',rp,ix,ixs,e,k⟩:=z12_;unfold HX at e;split at e
 .rename_i i y dv;split at e
  .rename_i kvs ep e1;obtain⟨k0,e2,e3⟩:=ALl.mp e
   cases ix with|ref hi =>
    cases ixs with|@cons v1 _ _ _ i1 i2=>cases i2 with|@cons v2 _ _ _ j1 j2 =>
     cases j2;obtain⟨us',ys,ha,hsm,hz,r3,hk,dd⟩:=JY I (rp.ob i _ _ hi e1);obtain⟨b,rfl,ik⟩:=JM i1 e2;cases rx
     cases rv with|@cons _ u1 _ _ ru1 rv2=>cases rv2 with|@cons _ u2 _ _ ru2 rv3 =>
      cases rv3;cases (show u1=Value.ref b from ru1);refine call_meetsIn PySem.F.slot_dict_setdefault dd.of.typeIs PySem.F.entry_dict_setdefault (PySem.F.args_dict_setdefault_3 _ _ _) (AEW (knd:=Gy X.prog X.w) hsm u2) ⟨show X.A.in1.units+1<cLine from by show X.A.units+1+1<cLine;omega,k0,ys,ep,IN I ik,dd,by rw[r3.len.2,<-r3.len.1];exact hz,λp hp=>?_,λhn h' dd' hs=>?_⟩
      .rcases r3.look k0 with⟨n1,n2⟩|⟨d',b',v',u',l,at_,iv,rv',_⟩
       .rw[n2] at hp;cases hp
       .rw[at_] at hp;cases hp;rw[l] at e3;cases e3;exact⟨v',H,I.tok _,rv',k _ _ _ (.refl _ _) rp iv⟩
      .rcases r3.look k0 with⟨n1,n2⟩|⟨d',b',v',u',l,at_,iv,rv',_⟩
       .rw[n1] at e3;simp only at e3;split at e3
        .rename_i hz2;cases e3;obtain⟨I',st,rs'⟩:=Xv (t':=s.toks+(Gy X.prog X.w).draws k0) I rp hi hz2 ha hsm r3 hk ik j1 ru2 dd' hs;exact⟨v2,_,I',ru2,k _ _ _ st rs' (j1.mono st)⟩
        .cases e3
       .rw[at_] at hn;cases hn
  .cases e
 .cases e
abbrev IV:GM:=λx xs L=>match x,xs with
 |.ref i,[.ref j]=>(match L[i]?,L[j]? with|some (.lst as),some (.lst bs)=>if as.length+bs.length<=16777216 then some (.non,L.set i (.lst (as++bs))) else none|_,_=>none)
 |_,_=>none
def AJf:MtD X "list.extend" IV:=FJ.weaken (show FJ X "list.extend" rExtend from AEQ) λv vs H Q z4_=>by
 obtain⟨O,L,dx,dxs,d,L',rp,ix,ixs,e,k⟩:=z4_;unfold IV at e;split at e
 .rename_i i j;split at e
  .rename_i as bs e1 e2;split at e
   .rename_i hz;cases e
    cases ix with|@ref _ a hi =>
     cases ixs with|@cons v1 y1 _ _ i1 i2 =>
      cases i2
      cases i1 with|@ref _ b hj =>
       obtain⟨ws,hw,il⟩:=rp.ob _ _ _ hi e1;obtain⟨zs,hzs,il2⟩:=rp.ob _ _ _ hj e2;refine⟨_,_,ws,zs,rfl,rfl,hw,hzs,by rw[il.length,il2.length,sizeLine_eq];exact hz,?_⟩;have st:Al H O (upd H a (.lst (ws++zs))) O:=⟨.write hw id,AW _⟩;exact k _ _ _ st (rp.write (o':=.lst (as++bs)) hi ⟨_,CI,(il.mono st).append (il2.mono st)⟩) .non
   .cases e
  .cases e
 .cases e
end
abbrev Ij(h:Heap)(d:Addr)(es:Array DictEntry)(ep:Nat):Prop:=∃o,h.get? d=some o/\o.data=.dict es ep
section
variable {prog:Program}{w:World}{A:Around}{E:ANL}{s:Shared}{t d v:Addr}{i ep:Nat}{es:Array DictEntry}{Q:Option Value->Shared->Prop}
def RT{U:Type}{h0:Heap}{E':ANL}(hh:A.handled=none)(k:Heap.ExtBut t h0 s.heap)(fin:∀h',Heap.ExtBut t h0 h'->∀e,(∃o,h'.get? e=some o/\o.cls=.type "StopIteration")->E' (.ref e) {s with heap:=h'}){R:U->Shared->Prop} :
  wpAny (model prog w) A (newExc (.type "StopIteration") [] >>= λx=>(raiseNew x:Sem U)) R E' s:=by
 refine AH ?_;simp only[newExc,newTuple];refine AH (AM6 (AH (m:=firstArgMember _ _) (wpAny_of_eq (a:=Value.none) (by simp only[firstArgMember];rfl) (AM6 ?_ (by size_fits)))) (by size_fits));simp only[raiseNew];refine AH (wpAny_handled ?_);rw[hh];exact AH (AN (wpAny_throw (fin _ ((k.push _).push _) _ ⟨_,Heap.get?_push_size _ rfl,rfl⟩)))
def NY(hh:A.handled=none)(it:s.heap.IsKeyIter t d i es.size ep)(en:Ij s.heap d es ep)
  (more:∀e,es[i]?=some e->∀h',h'.IsKeyIter t d (i+1) es.size ep->Heap.SameBut t s.heap h'->Q (some e.key) {s with heap:=h'})
  (fin:es[i]?=none->∀h',Heap.ExtBut t s.heap h'->Q none {s with heap:=h'}):wpAny (model prog w) A (pyNext (.ref t)) Q E s:=by
 obtain⟨ot,gt,ct,dt⟩:=id it;obtain⟨od,gd,dd⟩:=en;have ty:=it.typeIs
 have inner:∀{F:ANL} {R:ANL},(∀e,es[i]?=some e->∀h',h'.IsKeyIter t d (i+1) es.size ep->Heap.SameBut t s.heap h'->R e.key {s with heap:=h'}) ->
   (es[i]?=none->∀h',Heap.ExtBut t s.heap h'->∀x,(∃o,h'.get? x=some o/\o.cls=.type "StopIteration")->F (.ref x) {s with heap:=h'}) ->
   wpAny (model prog w) A.in1 (Builtin.«dict_keyiterator.__next__» ⟨[.ref t],[]⟩) (λfi s2=>∃v,fi=PySem.Fin.done (Flow.ret v)/\R v s2) F s:=λ{F R} one none_=>by
  refine AH (AN (AH (AH (AH (ANA ty (AN (AH (wpAny_fieldsOf gt dt ?_))))))));rw[show Builtin.Dict_items.ownsTuple "dict_keyiterator"=false from by decide]
  show wpAny _ _ (if (Value.ref d == Value.none)=true then _ else _) _ _ s
  rw[if_neg (λz=>by cases (show(false:Bool)=true from z))];refine AH (AN (AH (AM9 gd dd ?_)));rw[if_neg (by simp)];refine AH (AN (AH (wpAny_dictEpoch gd dd ?_)));rw[if_neg (by simp)];refine AN ?_;have i0:¬((i:Int)<0):=by omega
  simp only[i0,if_false,Gq]
  cases ee:es[i]? with
  |none =>
   refine AH (AH (ANA ty (AN ?_)));refine AH (m:=setField (.ref t) 0 .none) (wpAny_setField gt dt (by simp) ?_);exact RT (A:=A.in1) (t:=t) (h0:=s.heap) (s:={s with heap:=s.heap.update t (Obj.mapFields (·.setIfInBounds 0 .none))}) hh (Heap.SameBut.update ..).extBut λh' k x hx=>none_ ee h' k x hx
  |some e =>
   refine AH (AH (ANA ty (AN (AH (wpAny_isOneOf_keyiter ty ?_)))))
   have it':(s.heap.update t (Obj.mapFields (·.setIfInBounds 1 (rawInt ((i:Int)+1))))).IsKeyIter t d (i+1) es.size ep :=
    ⟨_,Heap.get?_update_self _ gt (Obj.isFreed_of_fields (Obj.data_mapFields dt _)),(Obj.cls_mapFields ..).trans ct,by rw[Obj.data_mapFields dt];simp[rawInt]⟩
   refine AH (m:=setField (.ref t) 1 (rawInt ((i:Int)+1))) (wpAny_setField gt dt (by simp) (AH (DZ (AH (wpAny_isOneOf_keyiter it'.typeIs ?_)))));exact AN (AN ⟨_,rfl,one e ee _ it' (Heap.SameBut.update ..)⟩)
 unfold pyNext;refine AH (wpAny_attempt (AM5 (name:=Str.ofString "__next__") ty F.slot_dict_keyiterator_next (Fy F.slot_dict_keyiterator_next ty F.entry_dict_keyiterator_next (inner (λe ee h' i' sb=>AN (more e ee h' i' sb)) λen h' k x hx=>?_) (F.args_dict_keyiterator_next_1 _))));obtain⟨o,g,c⟩:=hx;exact AH (wpAny_isInstance (T:="StopIteration") (b:=true) ⟨o,g,c⟩ isSubtype_stop (AN (fin en h' k)))
abbrev Yq(h:Heap)(t d:Addr)(i n ep:Nat):Prop:=∃a b,IsItemIter h t d i n ep a b
abbrev Yp(h:Heap)(t d:Addr)(i n ep:Nat)(T:Addr):Prop:=∃a b,IsItemIterOut h t d i n ep a b T
def Vt(hh:A.handled=none)(it:Yq s.heap t d i es.size ep)(en:Ij s.heap d es ep)
  (more:∀e,es[i]?=some e->∀h',Yp h' t d (i+1) es.size ep s.heap.objs.size->h'.get? s.heap.objs.size=some {cls:=.type "tuple",data:=.seq #[e.key,e.val]}->h'.objs.size=s.heap.objs.size+1->(∀b o,b≠t->s.heap.get? b=some o->h'.get? b=some o)->Q (some (.ref s.heap.objs.size)) {s with heap:=h'})
  (fin:es[i]?=none->∀h',Heap.ExtBut t s.heap h'->Q none {s with heap:=h'}):wpAny (model prog w) A (pyNext (.ref t)) Q E s:=by
 obtain⟨ka,va,gt⟩:=it;obtain⟨od,gd,dd⟩:=en;have ty:s.TypeIs (.ref t) "dict_itemiterator":=⟨_,gt,rfl⟩;have tl:t<s.heap.objs.size:=Heap.lt_size gt
 have inner:∀{F:ANL} {R:ANL},
   (∀e,es[i]?=some e->∀h',Yp h' t d (i+1) es.size ep s.heap.objs.size->h'.get? s.heap.objs.size=some {cls:=.type "tuple",data:=.seq #[e.key,e.val]}->h'.objs.size=s.heap.objs.size+1->(∀b o,b≠t->s.heap.get? b=some o->h'.get? b=some o)->R (.ref s.heap.objs.size) {s with heap:=h'}) ->
   (es[i]?=none->∀h',Heap.ExtBut t s.heap h'->∀x,(∃o,h'.get? x=some o/\o.cls=.type "StopIteration")->F (.ref x) {s with heap:=h'}) ->
   wpAny (model prog w) A.in1 (Builtin.«dict_itemiterator.__next__» ⟨[.ref t],[]⟩) (λfi s2=>∃v,fi=PySem.Fin.done (Flow.ret v)/\R v s2) F s:=λ{F R} one none_=>by
  refine AH (AN (AH (AH (AH (ANB ty (AN (AH (wpAny_fieldsOf gt rfl ?_))))))));rw[show Builtin.Dict_items.ownsTuple "dict_itemiterator"=true from by decide]
  show wpAny _ _ (if (Value.ref d == Value.none)=true then _ else _) _ _ s
  rw[if_neg (λz=>by cases (show(false:Bool)=true from z))];refine AH (AN (AH (AM9 gd dd ?_)));rw[if_neg (by simp)];refine AH (AN (AH (wpAny_dictEpoch gd dd ?_)));rw[if_neg (by simp)];refine AN ?_;have i0:¬((i:Int)<0):=by omega
  simp only[i0,if_false,Gq]
  cases ee:es[i]? with
  |none =>
   refine AH (AH (ANB ty (AN ?_)));refine AH (m:=setField (.ref t) 2 .none) (wpAny_setField gt rfl (by simp) ?_);exact RT (A:=A.in1) (t:=t) (h0:=s.heap) (s:={s with heap:=s.heap.update t (Obj.mapFields (·.setIfInBounds 2 .none))}) hh (Heap.SameBut.update ..).extBut λh' k x hx=>none_ ee h' k x hx
  |some e =>
   refine AH (AH (ANB ty (AN (AH (wpAny_isOneOf_itemiter ty ?_)))));refine AH (m:=setField (.ref t) 3 (rawInt ((i:Int)+1))) (ANC gt (by simp) λh1 g1 b1=>?_)
   have g1':IsItemIter h1 t d (i+1) es.size ep ka va:=by show h1.get? t=_;rw[show((i+1:Nat):Int)=(i:Int)+1 by omega];exact g1
   have ty1:Shared.TypeIs {s with heap:=h1} (.ref t) "dict_itemiterator":=⟨_,g1',rfl⟩;refine AH (DZ (AH (wpAny_isOneOf_itemiter ty1 (AH (wpAny_isOneOf_itemiter ty1 ?_)))));show wpAny _ _ (Builtin.Dict_items.pairFromOwner (.ref t) 6 e.key e.val) _ _ {s with heap:=h1};unfold Builtin.Dict_items.pairFromOwner;refine AH (wpAny_newTuple ?_)
   -- the tuple is laid
   have z1:h1.objs.size=s.heap.objs.size:=b1.1
   have lay:∀h2,h2=h1.push {cls:=.type "tuple",data:=.seq #[e.key,e.val]}->IsItemIter h2 t d (i+1) es.size ep ka va/\h2.get? s.heap.objs.size=some {cls:=.type "tuple",data:=.seq #[e.key,e.val]}/\h2.objs.size=s.heap.objs.size+1/\∀b o,b≠t->s.heap.get? b=some o->h2.get? b=some o:=λh2 e2=>by
    subst e2;exact⟨Heap.get?_push_of_some _ g1',by rw[<-z1];exact Heap.get?_push_size _ rfl,by rw[Heap.size_push,z1],λb o hb q=>Heap.get?_push_of_some _ (b1.extBut b o hb q)⟩
   show wpAny _ _ (Builtin.Dict_items.ownedTupleIsFree (.ref t) >>= _) _ _ {s with heap:=h1.push {cls:=.type "tuple",data:=.seq #[e.key,e.val]}};obtain⟨g2,u2,z2,k2⟩:=lay _ rfl;rw[z1];generalize h1.push {cls:=.type "tuple",data:=.seq #[e.key,e.val]}=h2 at g2 u2 z2 k2 ⊢;unfold Builtin.Dict_items.ownedTupleIsFree;refine AH (AH (Eg (x:=.none) g2 rfl rfl (AN ?_)));rw[if_pos rfl];refine AH (Eg (x:=ka) g2 rfl rfl (AH (Eg (x:=va) g2 rfl rfl ?_)));refine AH (ANC g2 (by simp) λh3 g3 b3=>AH (ANC g3 (by simp) λh4 g4 b4=>AH (ANC g4 (by simp) λh5 g5 b5=>AH (ANC g5 (by simp) λh6 g6 b6=>?_))));have far:∀b o,b≠t->h2.get? b=some o->h6.get? b=some o:=λb o hb q=>b6.extBut b o hb (b5.extBut b o hb (b4.extBut b o hb (b3.extBut b o hb q)));have z6:h6.objs.size=h2.objs.size:=b6.1.trans (b5.1.trans (b4.1.trans b3.1));refine AH (wpAny_letGo (AN (AN ⟨_,rfl,one e ee h6 ⟨e.key,e.val,g6⟩ (far _ _ (Fa tl) u2) (z6.trans z2) λb o hb q=>far b o hb (k2 b o hb q)⟩)))
 unfold pyNext;refine AH (wpAny_attempt (AM5 (name:=Str.ofString "__next__") ty F.slot_dict_itemiterator_next (Fy F.slot_dict_itemiterator_next ty F.entry_dict_itemiterator_next (inner (λe ee h' i' u z k=>AN (more e ee h' i' u z k)) λen h' k x hx=>?_) (F.args_dict_itemiterator_next_1 _))));obtain⟨o,g,c⟩:=hx;exact AH (wpAny_isInstance (T:="StopIteration") (b:=true) ⟨o,g,c⟩ isSubtype_stop (AN (fin en h' k)))
def Wl{R:ANL}(hd:(d == sysModules)=false)(ty:s.TypeIs (.ref d) "dict")(en:Ij s.heap d es ep)
  (k:R (.ref s.heap.objs.size) {s with heap:=s.heap.push {cls:=.type "dict_keyiterator",data:=.fields #[.ref d,.int 0 0,.int es.size 0,.int ep 0]}}):wpAny (model prog w) A (pyIter (.ref d)) R E s:=by
 obtain⟨od,gd,dd⟩:=en;refine wpAny_pyIter_slot ty F.slot_dict_iter (Fy F.slot_dict_iter ty F.entry_dict_iter ?_ (F.args_dict_iter_1 _));refine AH (AH (m:=Builtin.Dict.notOrdered "__iter__" ⟨[.ref d],[]⟩) (AM8 ty (AN ?_)));refine AH (m:=Builtin.Dict.showsAll d) ?_;unfold Builtin.Dict.showsAll;rw[hd,if_neg Cf];refine AN (AH (AM9 gd dd (AH (wpAny_dictEpoch gd dd (AH (AM6 (AN ⟨_,rfl,"dict_keyiterator",_,⟨_,Heap.get?_push_size _ rfl,rfl⟩,F.slot_dict_keyiterator_next.lookup,?_⟩)))))));exact k
def AEX(hd:(d == sysModules)=false):MeetsIn prog w (Builtin.«dict.items» ⟨[.ref d],[]⟩) (λ_ R s=>s.TypeIs (.ref d) "dict"/\R (.ok (.ret (.ref s.heap.objs.size))) {s with heap:=s.heap.push {cls:=.type "dict_items",data:=.fields #[.ref d]}}) :=
 .of_wp λA R s z3_=>by
  obtain⟨ty,k⟩:=z3_;refine AH (AH (m:=Builtin.Dict.notOrdered "items" ⟨[.ref d],[]⟩) (AM8 ty (AN ?_)));refine AH (m:=Builtin.Dict.showsAll d) ?_;unfold Builtin.Dict.showsAll;rw[hd,if_neg Cf];exact AN (AH (AM6 (AN ⟨_,rfl,k⟩)))
def ADf{R:ANL}(hv:s.heap.IsItemsView v d)(en:Ij s.heap d es ep)
  (k:R (.ref s.heap.objs.size) {s with heap:=s.heap.push {cls:=.type "dict_itemiterator",data:=.fields #[.none,.bool false,.ref d,.int 0 0,.int es.size 0,.int ep 0,.none,.none]}}):wpAny (model prog w) A (pyIter (.ref v)) R E s:=by
 obtain⟨ov,gv,cv,dv⟩:=id hv;obtain⟨od,gd,dd⟩:=en;refine wpAny_pyIter_slot hv.typeIs F.slot_dict_items_iter (Fy F.slot_dict_items_iter hv.typeIs F.entry_dict_items_iter ?_ (F.args_dict_items_iter_1 _));refine AH (AN (AH (AH (Eg (x:=.ref d) gv dv rfl (AN (AH (AH (AM9 gd dd (AH (wpAny_dictEpoch gd dd ?_))))))))));show wpAny _ _ (newFields "dict_itemiterator" [.none,.bool false,.ref d,rawInt 0,rawInt es.size,rawInt ep,.none,.none]) _ _ s;refine AM6 (AN ⟨_,rfl,"dict_itemiterator",_,⟨_,Heap.get?_push_size _ rfl,rfl⟩,F.slot_dict_itemiterator_next.lookup,?_⟩) (by rw[sizeOk,sizeLine_eq];show 8<=16777216+2;decide);exact k
end
section
variable {X:Cx}{pins:List (Addr×Obj)}{Y:L2.St}{H:Hp}{s:Shared}
def Paired.at{U β:Type}{R:U->β->Prop}:∀{l:List U} {m:List β} {j:Nat} {a:U},Paired R l m->l[j]?=some a->∃b,m[j]?=some b/\R a b
 |_,_,_,_,.nil,h=>by simp at h
 |_,_,0,_,.cons r _,h=>by simp at h;subst h;exact⟨_,rfl,r⟩
 |_,_,j+1,_,.cons _ t,h=>by
  obtain⟨b,e,q⟩:=Paired.at (j:=j) t (by simpa using h);exact⟨b,by simpa using e,q⟩
def Hy(I:AI X pins Y H s){a:Addr}{us:List (NK×Addr×V)}{ep:Nat}(h:H a=some (.dN us ep)) :
  (a == sysModules)=false/\(s.TypeIs (.ref a) "dict"/\∃o,s.heap.get? a=some o/\o.dict=none)/\∃es,Ij s.heap a es ep/\es.size=us.length/\∀(i:Nat) (u:NK×Addr×V),us[i]?=some u->∃e:DictEntry,es[i]?=some e/\e.key=.ref u.2.1/\Ac u.2.2 e.val:=by
 obtain⟨z,y,xs,r,o,es,g,ex,dat,el,nd⟩:=(show CB X.prog X.w H s.heap a (.dN us ep) from I.hok a _ h);have hl:xs.length=us.length:=(Paired.length r).symm;refine⟨y,⟨⟨o,g,ex.1⟩,o,g,ex.2.1⟩,es,⟨o,g,dat⟩,?_,λi u hu=>?_⟩
 .rw[<-AMa,el,Aa,hl]
 .obtain⟨q,hq,h1,h2,h3⟩:=Paired.at r hu;refine⟨entryOfKey (Gy X.prog X.w) q,?_,by show Value.ref q.2.1=_;rw[h2],h3⟩;rw[<-Array.getElem?_toList,el,Ar,hq];rfl
end
abbrev Itk(a:Addr)(n ep:Nat):It :=
 ⟨λi H=>∃us,H a=some (.dN us ep)/\us.length=n/\i<n,λi H v H'=>H'=H/\∀us,H a=some (.dN us ep)->∃u,us[i]?=some u/\v=.ref u.2.1,λi H=>∃us,H a=some (.dN us ep)/\us.length=n/\n<=i⟩
def AAl{P:Program}{w:World}{K:AL}{tg:Expr}(a it:Addr)(n ep:Nat):HE P w K tg (Itk a n ep) [it] it (λi h=>h.IsKeyIter it a i n ep) where
 mem:=by simp
 obj:=λi h st b hb=>by
  obtain rfl:b=it:=by simpa using hb
  obtain⟨o,e,c,d⟩:=st;exact⟨o,e,λv z=>by rw[d] at z;cases z⟩
 keep:=λi h h' st k=>st.at λo e=>k it (by simp) o e
 item:=by
  rintro X hP hw hK hc i pins s Y H E I hf st ⟨us,ha,hl,hi⟩;subst hP hw hK;obtain⟨_,_,es,en,sz,at_⟩:=Hy I ha;obtain⟨f0,f1,f2,f3,f4,f5⟩:=hf it (by simp);have hz:es.size=n:=sz.trans hl;subst hz;obtain⟨u,hu⟩:∃u,us[i]?=some u:=⟨us[i]'(by omega),by simp[show i<us.length by omega]⟩;obtain⟨e,he,hk,_⟩:=at_ i u hu;refine NY (I.ok.hd hc) st en (λe' he' h' st' sb=>?_) λhn=>by rw[he] at hn;cases hn
  rw[he] at he';cases he';have I1:AI X pins Y H {s with heap:=h'}:=I.turned (t':=s.toks) (λb o hb q=>(sb.2 b hb).trans q) f0 f1 f3 f4 f5;rw[hk];exact⟨_,rfl,letGo_keyiter (s':={s with heap:=h'}) st' ⟨.ref u.2.1,H,I1,rfl,⟨rfl,λus' h'=>by rw[ha] at h';cases h';exact⟨u,hu,rfl⟩⟩,st',λb hb=>(hf b hb).1⟩⟩
 done:=by rintro X hP hw hK hc i pins s Y H E I hf st ⟨us,ha,hl,hi⟩;subst hP hw hK;obtain⟨_,_,es,en,sz,at_⟩:=Hy I ha;obtain⟨f0,f1,f2,f3,f4,f5⟩:=hf it (by simp);have hz:es.size=n:=sz.trans hl;subst hz;refine NY (I.ok.hd hc) st en (λe' he' h' st' sb=>?_) λ_ h' k=>⟨rfl,I.turned (t':=s.toks) (λb o hb q=>k b o hb q) f0 f1 f3 f4 f5⟩;rw[AMu hi] at he';cases he'
 self:=λ_ _ _ _ _ st h=>wpAny_pyIter_keyiter st h
def AGN:entryFor table "dict_itemiterator.__iter__"=some Builtin.«dict_keyiterator.__iter__»:=entryFor_alias (id':="dict_keyiterator.__iter__") (by kernel_rfl) rfl (by decide +kernel) (by kernel_rfl)
abbrev Itp(a:Addr)(n ep:Nat):It :=
 ⟨λi H=>∃us,H a=some (.dN us ep)/\us.length=n/\i<n,λi H v H'=>∃T,H T=none/\v=.ref T/\∀us,H a=some (.dN us ep)->∃u,us[i]?=some u/\H'=upd H T (.tup [.ref u.2.1,u.2.2]),λi H=>∃us,H a=some (.dN us ep)/\us.length=n/\n<=i⟩
def AAj{P:Program}{w:World}{K:AL}{elts:ANH}{x1:Nat}{tp:Pos}(a it:Addr)(n ep:Nat):HE P w K (.Tuple elts x1 tp) (Itp a n ep) [it] it (λi h=>Yq h it a i n ep) where
 mem:=by simp
 obj:=λi h st b hb=>by
  obtain rfl:b=it:=by simpa using hb
  obtain⟨_,_,e⟩:=st;exact⟨_,e,λv z=>by cases z⟩
 keep:=λi h h' z3_ k=>by obtain⟨x,y,st⟩:=z3_;exact⟨x,y,k it (by simp) _ st⟩
 item:=by
  rintro X hP hw hK hc i pins s Y H E I hf st ⟨us,ha,hl,hi⟩;subst hP hw hK;obtain⟨_,_,es,en,sz,at_⟩:=Hy I ha;have hz:es.size=n:=sz.trans hl;subst hz;have til:it<s.heap.objs.size:=by obtain⟨_,_,e⟩:=st;exact Heap.lt_size e
  obtain⟨u,hu⟩:∃u,us[i]?=some u:=⟨us[i]'(by omega),by simp[show i<us.length by omega]⟩;obtain⟨e,he,hk,rv⟩:=at_ i u hu;refine Vt (I.ok.hd hc) st en (λe' he' h' st' ht hsz kk=>?_) λhn=>by rw[he] at hn;cases hn
  rw[he] at he';cases he';obtain⟨y1,y2,st'⟩:=st';refine⟨_,rfl,wpAny_letOwnedTupleGo_items st' λh2 st2 sb2=>?_⟩;have ht2:h2.get? s.heap.objs.size=some {cls:=.type "tuple",data:=.seq #[e.key,e.val]}:=(sb2.2 _ (Fa til)).trans ht
  have new:CB X.prog X.w (upd H s.heap.objs.size (.tup [.ref u.2.1,u.2.2])) h2 s.heap.objs.size (.tup [.ref u.2.1,u.2.2]) :=
   ⟨by rw[sizeLine_eq];show 2<=16777216;decide,[e.key,e.val],.cons hk (.cons rv .nil),⟨_,ht2,rfl,_,rfl⟩⟩
  have I1:=Mu (t':=s.toks) (h':=h2) I hf (λb o hb q=>by
   have hbi:b≠it:=λz=>hb (by simp[z])
   exact(sb2.2 b hbi).trans (kk b o hbi q)) (Af _) (λz=>absurd (Dt.mp z) (Fa til)) (λb hb=>by
   obtain rfl:b=it:=by simpa using hb
   exact⟨_,st2⟩) new
  refine⟨.ref s.heap.objs.size,_,I1,rfl,⟨s.heap.objs.size,I.hok.fresh (Af _),rfl,λus' h'=>by rw[ha] at h';cases h';exact⟨u,hu,rfl⟩⟩,⟨_,_,st2⟩,λb hb=>?_⟩;obtain rfl:b=it:=by simpa using hb
  rw[BU (BV til)];exact(hf b (by simp)).1
 done:=by rintro X hP hw hK hc i pins s Y H E I hf st ⟨us,ha,hl,hi⟩;subst hP hw hK;obtain⟨_,_,es,en,sz,at_⟩:=Hy I ha;obtain⟨f0,f1,f2,f3,f4,f5⟩:=hf it (by simp);have hz:es.size=n:=sz.trans hl;subst hz;refine Vt (I.ok.hd hc) st en (λe' he' h' st' ht hsz kk=>?_) λ_ h' k=>⟨rfl,I.turned (t':=s.toks) (λb o hb q=>k b o hb q) f0 f1 f3 f4 f5⟩;rw[AMu hi] at he';cases he'
 self:=λA i s Q E ⟨x,y,st⟩ h=>by
  have ty:s.TypeIs (.ref it) "dict_itemiterator":=⟨_,st,rfl⟩;refine wpAny_pyIter_slot ty AMx (Fy AMx ty AGN ?_ (PySem.F.args_dict_itemiterator_iter_1 _));show wpAny _ _ (ret (.ref it)) _ _ s;exact AN ⟨_,rfl,"dict_itemiterator",_,ty,PySem.F.slot_dict_itemiterator_next.lookup,h⟩
abbrev Hk(k:Nat)(kvs:List (NK×D))(ep:Nat)(L:AC):Bool:=match L[k]? with|some (.dt kvs' ep')=>decide (kvs'.map (·.1)=kvs.map (·.1))&&ep' == ep|_=>false
abbrev Fi(kvs:List (NK×D)):List D:=kvs.map λkv=>Dm kv.1
abbrev GJ(kvs:List (NK×D)):List D:=kvs.map λkv=>.tup [Dm kv.1,kv.2]
abbrev JP(f:EF):IF:=λZ L=>(f Z L).bind λx=>match x.1 with
 |.ref k=>(match x.2[k]? with|some (.dt kvs ep)=>some (⟨Fi kvs,Hk k kvs ep⟩,x.2)|_=>none)
 |_=>none
abbrev JO(f:EF):IF:=λZ L=>(f Z L).bind λx=>match x.1 with
 |.ref k=>(match x.2[k]? with|some (.dt kvs ep)=>some (⟨GJ kvs,λL'=>decide (L'[k]?=some (.dt kvs ep))⟩,x.2)|_=>none)
 |_=>none
section
variable {X:Cx}{tg l:Expr}{f:EF}
def ABv{k:Nat}{kvs:List (NK×D)}{ep:Nat}{L:AC}(h:Hk k kvs ep L=true):∃kvs',L[k]?=some (.dt kvs' ep)/\kvs'.map (·.1)=kvs.map (·.1):=by
 unfold Hk at h;split at h
 .rename_i kvs' ep' e;rw[Bz] at h;obtain rfl:ep'=ep:=beq_iff_eq.mp h.2;exact⟨kvs',e,of_decide_eq_true h.1⟩
 .cases h
def AI8(hl:AZ X l f):EC X tg l (JP f):=by
 rintro pins s Y H R I ⟨O,Z,L,J,L',r,e,k⟩;unfold JP at e;obtain⟨p,e1,e⟩:=bS e;obtain⟨d,L1⟩:=p;simp only[AT] at e;split at e
 .rename_i n;split at e
  .rename_i kvs ep e2;cases e;refine Ae (hl pins s Y H (λv H1=>∃a O1,v=.ref a/\Al H O H1 O1/\Ap X.K H1 O1 L'/\O1[n]?=some a) I ⟨O,Z,L,_,_,r,e1,λv H1 O1 st rs is=>by cases is with|ref h=>exact⟨_,O1,rfl,st,rs,h⟩⟩) λv s1 z2_=>?_;obtain⟨x,H1,I1,r1,a,O1,ev,st,rs,hn⟩:=z2_;subst ev;cases r1;obtain⟨us,ha,ek,il,ik⟩:=rs.ob n _ _ hn e2;obtain⟨hsm,⟨ty,nd⟩,es,en,sz,_⟩:=Hy I1 ha;have hul:us.length=kvs.length:=by simpa using congrArg List.length ek
   refine Wl hsm ty en ?_;refine⟨s1.heap.objs.size,[s1.heap.objs.size],_,_,H1,rfl,I1.kept (t':=s1.toks) λb o q=>Heap.get?_push_of_some _ q,AAl a _ es.size ep,⟨_,Heap.get?_push_size _ rfl,rfl,rfl⟩,λb hb=>?_,k _ H1 O1 st rs λi H2 O2 L2 st2 rs2 ok=>?_⟩
   .obtain rfl:b=s1.heap.objs.size:=by simpa using hb
    exact I1.fpOk (Af _) (I1.hok.fresh (Af _))
   .obtain⟨kvs',e3,ekk⟩:=ABv ok;obtain⟨us',ha',ek',il',ik'⟩:=rs2.ob n _ _ (CW st2.2 hn) e3;have hl':us'.length=es.size:=by rw[sz,hul];simpa using congrArg List.length (ek'.trans ekk)
    refine⟨λd hd=>?_,λh=>⟨us',ha',hl',by rw[sz,hul];simpa[Fi] using h⟩⟩
    have hi:i<kvs.length:=by
     rcases Nat.lt_or_ge i kvs.length with h|h
     .exact h
     .rw[show(Fi kvs)[i]?=none from ALn (by simpa[Fi] using h)] at hd;cases hd
    refine⟨⟨us',ha',hl',by rw[sz,hul];exact hi⟩,λx H' z2_=>?_⟩;obtain⟨eH,y⟩:=z2_;subst eH;obtain⟨u,hu,rfl⟩:=y us' ha';refine⟨.refl _ _,rs2,?_⟩;have hk:=ik' u (Bk hu);have e5:(us'.map (·.1))[i]?=some u.1:=by rw[Ar,hu];rfl
    rw[ek',ekk,Ar] at e5;simp only[Fi,Ar] at hd
    cases e6:kvs[i]? with
    |none=>rw[e6] at e5;cases e5
    |some q =>
     rw[e6] at e5 hd;cases hd;show Is _ _ _ _ (Dm q.1);rw[show q.1=u.1 from Option.some.inj e5];exact hk
  .cases e
 .cases e
def AI7{elts:ANH}{x1:Nat}{tp apos cpos:Pos}(hl:AZ X l f)(hbase:attributeBase l "items" X.env (eval l X.env)=eval l X.env:=by rfl)(hline:(apos.endLine == cpos.line)=true:=by rfl) :
  EC X (.Tuple elts x1 tp) (.Call (.Attribute l "items" apos) [] [] cpos) (JO f):=by
 rintro pins s Y H R I ⟨O,Z,L,J,L',r,e,k⟩;unfold JO at e;obtain⟨p,e1,e⟩:=bS e;obtain⟨d,L1⟩:=p;simp only[AT] at e;split at e
 .rename_i n;split at e
  .rename_i kvs ep e2;cases e;refine wpAny_Call_method0_late hbase hline (Ae (hl pins s Y H (λv H1=>∃a O1,v=.ref a/\Al H O H1 O1/\Ap X.K H1 O1 L'/\O1[n]?=some a) I ⟨O,Z,L,_,_,r,e1,λv H1 O1 st rs is=>by cases is with|ref h=>exact⟨_,O1,rfl,st,rs,h⟩⟩) λv s1 z2_=>?_);obtain⟨x,H1,I1,r1,a,O1,ev,st,rs,hn⟩:=z2_;subst ev;cases r1;obtain⟨us,ha,ek,il,ik⟩:=rs.ob n _ _ hn e2;obtain⟨hsm,⟨ty,nd⟩,es,en,sz,_⟩:=Hy I1 ha;have hul:us.length=kvs.length:=by simpa using congrArg List.length ek
   refine⟨"dict","dict.items",PySem.F.plainAttrs_dict,PySem.F.slot_dict_items,PySem.F.type_dict_items,ty,λb q=>by cases q;exact nd,Calls.callWith_builtin rfl (PySem.evalArgs_none ?_)⟩;refine call_meetsIn PySem.F.slot_dict_items ty PySem.F.entry_dict_items (PySem.F.args_dict_items_1 _) (AEX hsm) ⟨ty,?_⟩;obtain⟨od,gd,dd⟩:=en;refine ADf (d:=a) (es:=es) (ep:=ep) (s:={s1 with heap:=s1.heap.push {cls:=.type "dict_items",data:=.fields #[.ref a]}}) ⟨_,Heap.get?_push_size _ rfl,rfl,rfl⟩ ⟨od,Heap.get?_push_of_some _ gd,dd⟩ ?_;have I2:AI X pins Y H1 {s1 with heap:=s1.heap.push {cls:=.type "dict_items",data:=.fields #[.ref a]}}:=I1.kept (t':=s1.toks) λb o q=>Heap.get?_push_of_some _ q;refine⟨_,[_],_,_,H1,rfl,I2.kept (t':=s1.toks) λb o q=>Heap.get?_push_of_some _ q,AAj a _ es.size ep,⟨_,_,Heap.get?_push_size _ rfl⟩,λb hb=>?_,k _ H1 O1 st rs λi H2 O2 L2 st2 rs2 ok=>?_⟩
   .obtain rfl:=Dt.mp hb;exact I2.fpOk (Af _) (I2.hok.fresh (Af _))
   .have e3:L2[n]?=some (.dt kvs ep):=of_decide_eq_true ok;obtain⟨us',ha',ek',il',ik'⟩:=rs2.ob n _ _ (CW st2.2 hn) e3;have hl':us'.length=es.size:=by rw[sz,hul];simpa using congrArg List.length ek'
    refine⟨λd hd=>?_,λh=>⟨us',ha',hl',by rw[sz,hul];simpa[GJ] using h⟩⟩
    have hi:i<kvs.length:=by
     rcases Nat.lt_or_ge i kvs.length with h|h
     .exact h
     .rw[show(GJ kvs)[i]?=none from ALn (by simpa[GJ] using h)] at hd;cases hd
    refine⟨⟨us',ha',hl',by rw[sz,hul];exact hi⟩,λx H' z2_=>?_⟩;obtain⟨T,hT,ex,y⟩:=z2_;obtain⟨u,hu,eH⟩:=y us' ha';subst ex eH;have st3:Al H2 O2 (upd H2 T (.tup [.ref u.2.1,u.2.2])) O2:=⟨.new hT,AW _⟩;refine⟨st3,rs2.ext λb q h=>by rw[BU (DT h hT)];exact h,?_⟩;have hk:=ik' u (Bk hu);have e5:(us'.map (·.1))[i]?=some u.1:=by rw[Ar,hu];rfl
    rw[ek',Ar] at e5;simp only[GJ,Ar] at hd
    cases e6:kvs[i]? with
    |none=>rw[e6] at e5;cases e5
    |some q =>
     rw[e6] at e5 hd;cases hd;have e7:q.1=u.1:=Option.some.inj e5;obtain⟨v,hv,iv⟩:=il'.get (i:=i) (d:=q.2) (by rw[Ar,e6];rfl);rw[Ar,hu] at hv;cases hv;show Is _ _ _ _ (.tup [Dm q.1,q.2]);rw[e7];exact .tup (Bd.of CI) (.cons (hk.mono st3) (.cons (iv.mono st3) .nil))
  .cases e
 .cases e
end
abbrev ItE(K:AL)(a:Addr)(n:Nat):It :=
 ⟨λi H=>∃xs,BJ K H a xs/\xs.length=n/\i<n,λi H v H'=>∃T,H T=none/\v=.ref T/\∀xs,BJ K H a xs->∃x,xs[i]?=some x/\H'=upd H T (.tup [.int (i:Int),x]),λi H=>∃xs,BJ K H a xs/\xs.length=n/\n<=i⟩
def AAm{P:Program}{w:World}{K:AL}{elts:ANH}{x1:Nat}{tp:Pos}(a e it:Addr)(n:Nat)(hei:e≠it) :
  HE P w K (.Tuple elts x1 tp) (ItE K a n) [e,it] e (λi h=>(∃old,IsEnum h e it (i:Int) old)/\h.IsListIter it a i/\i<=n) where
 mem:=by simp
 obj:=λi h st b hb=>by
  obtain⟨⟨old,he⟩,⟨o,e1,c,d⟩,_⟩:=st;rcases AX.mp hb with rfl|hb
  .exact⟨_,he,λv z=>by cases z⟩
  .obtain rfl:=Dt.mp hb;exact⟨o,e1,λv z=>by rw[d] at z;cases z⟩
 keep:=λi h h' z3_ k=>by obtain⟨⟨old,he⟩,si,hi⟩:=z3_;exact⟨⟨old,k e (by simp) _ he⟩,si.at λo q=>k it (by simp) o q,hi⟩
 item:=by
  rintro X hP hw hK hc i pins s Y H E I hf st ⟨xs,hq,hl,hi⟩;subst hP hw hK;obtain⟨⟨old,he⟩,hs,_⟩:=st;obtain⟨its,rv,p,hz⟩:=I.list hq;have hlen:its.length=n:=by rw[<-rv.length];exact hl
  have hel:e<s.heap.objs.size:=Heap.lt_size he;have hil:it<s.heap.objs.size:=by obtain⟨o,e1,_⟩:=hs;exact Heap.lt_size e1
  obtain⟨x,hx⟩:∃x,xs[i]?=some x:=⟨xs[i]'(by omega),by simp[show i<xs.length by omega]⟩;obtain⟨u,hu,ru⟩:=rv.get hx
  have hae:a≠e:=λz=>by
   obtain⟨o,g,c,_⟩:=p.isList;rw[z] at g;have g':=he.symm.trans g;cases g';exact absurd (show Value.type "enumerate"=Value.type "list" from c) (by decide)
  have hai:a≠it:=λz=>by
   obtain⟨o,g,c,_⟩:=p.isList;obtain⟨o',g',c',_⟩:=hs;rw[z] at g;rw[g] at g';cases g';rw[c] at c';exact absurd c' (by decide)
  refine wpAny_pyNext_enum_itemD (Draws.list (show X.A.in1.handled=none from I.ok.hd hc) it a hai its.toArray) he ⟨hs,p.isList⟩ (by rw[Be,hlen];exact hi) hei (by simp[hei,Ne.symm hae]) λv h' tk hv heo hs' ht _ kk=>⟨_,rfl,?_⟩
  obtain rfl:v=u:=by
   have:its[i]?=some v:=by simpa using hv
   rw[hu] at this;exact(Option.some.inj this).symm
  refine wpAny_letOwnedTupleGo_enum heo λh2 he2 sb2=>?_;have hs2:h2.IsListIter it a (i+1):=hs'.1.at λo q=>(sb2.2 it (Ne.symm hei)).trans q;have ht2:h2.get? s.heap.objs.size=some {cls:=.type "tuple",data:=.seq #[.int i tk,v]}:=(sb2.2 _ (Fa hel)).trans ht
  have new:CB X.prog X.w (upd H s.heap.objs.size (.tup [.int (i:Int),x])) h2 s.heap.objs.size (.tup [.int (i:Int),x]) :=
   ⟨by rw[sizeLine_eq];show 2<=16777216;decide,[.int i tk,v],.cons ⟨_,rfl⟩ (.cons ru .nil),⟨_,ht2,rfl,_,rfl⟩⟩
  have I1:=Mu (t':=tk+1) (h':=h2) I hf (λb o hb q=>by
    have hbe:b≠e:=λz=>hb (by simp[z]);have hbi:b≠it:=λz=>hb (by simp[z])
    exact(sb2.2 b hbe).trans (kk b o hbe hbi q)) (Af _) (λz=>by
    rcases AX.mp z with z|z
    .exact absurd z (Fa hel)
    .exact absurd (Dt.mp z) (Fa hil)) (λb hb=>by
    rcases AX.mp hb with rfl|hb
    .exact⟨_,he2⟩
    .obtain rfl:=Dt.mp hb;obtain⟨o,e1,_⟩:=hs2
     exact⟨o,e1⟩) new
  refine⟨.ref s.heap.objs.size,_,I1,rfl,⟨s.heap.objs.size,I.hok.fresh (Af _),rfl,λys hy=>by rw[I.list_inj hy hq];exact⟨x,hx,rfl⟩⟩,⟨⟨v,?_⟩,hs2,hi⟩,λb hb=>?_⟩
  .rw[show((i+1:Nat):Int)=(i:Int)+1 by omega];exact he2
  .rw[BU]
   .exact(hf b hb).1
   .rcases AX.mp hb with z|z
    .rw[z];exact BV hel
    .rw[Dt.mp z];exact BV hil
 done:=by
  rintro X hP hw hK hc i pins s Y H E I hf st ⟨xs,hq,hl,hi⟩;subst hP hw hK;obtain⟨⟨old,he⟩,hs,hin⟩:=st;obtain⟨its,rv,p,hz⟩:=I.list hq;have hlen:its.length=n:=by rw[<-rv.length];exact hl
  obtain⟨f0,f1,f2,f3,f4,f5⟩:=hf it (by simp)
  have hai:a≠it:=λz=>by
   obtain⟨o,g,c,_⟩:=p.isList;obtain⟨o',g',c',_⟩:=hs;rw[z] at g;rw[g] at g';cases g';rw[c] at c';exact absurd c' (by decide)
  obtain rfl:i=its.toArray.size:=by rw[Be,hlen];omega
  exact wpAny_pyNext_enum_endD (Draws.list (show X.A.in1.handled=none from I.ok.hd hc) it a hai its.toArray) he ⟨hs,p.isList⟩ λh' eb=>⟨rfl,I.turned (t':=s.toks) (λb o hb q=>eb b o hb q) f0 f1 f3 f4 f5⟩
 self:=λA i s Q E st h=>by
  obtain⟨⟨old,he⟩,_⟩:=st;exact wpAny_pyIter_enum he h
abbrev Kx(f:AF):IF:=λZ L=>(f Z L).bind λx=>match x.1 with
 |[.ref k]=>(match x.2[k]? with|some (.lst xs)=>some (⟨FD xs,λL'=>decide (L'[k]?=some (.lst xs))⟩,x.2)|_=>none)
 |_=>none
def Xu(xs:List D)(i:Nat):(FD xs)[i]?=(xs[i]?).map λd=>.tup [.int (i:Int),d]:=by unfold FD;rw[Ar,List.getElem?_zipIdx];cases xs[i]? <;> simp
section
variable {X:Cx}{elts:ANH}{x1:Nat}{tp p pos:Pos}{a:Expr}{fa:AF}
def AJA(hm:X.mg "enumerate"=none)(ha:ES X [a] fa)(hg:Gl X "enumerate":=by rfl)(hs:starEach [a] X.env=[(false,eval a X.env)]:=by rfl):EC X (.Tuple elts x1 tp) (.Call (.Name "enumerate" p) [a] [] pos) (Kx fa):=by
 rintro pins s Y H R I ⟨O,Z,L,J,L',r,e,k⟩;unfold Kx at e;obtain⟨q,e1,e⟩:=bS e;obtain⟨ds,L1⟩:=q;simp only[AT] at e;split at e
 .rename_i n;split at e
  .rename_i xs e2;cases e;refine Call_ (Gx I hg hm (u:=.type "enumerate") (by decide +kernel) (PyProof.Rows.callWith_type1 (Ae (ha pos pins s Y H (λvs H1=>∃a O1,vs=[.ref a]/\Al H O H1 O1/\Ap X.K H1 O1 L'/\O1[n]?=some a) I ⟨O,Z,L,_,_,r,e1,λvs H1 O1 st rs is=>?_⟩) λus s1 ⟨vs,H1,I1,r1,b,O1,ev,st,rs,hn⟩=>?_) hs rfl))
   .cases is with
    |cons i1 i2=>cases i2;cases i1 with|ref h=>exact⟨_,O1,rfl,st,rs,h⟩
   .subst ev;obtain⟨u,rfl,ru⟩:=Dk r1;cases ru;obtain⟨ws,hw,il⟩:=rs.ob n _ _ hn e2;obtain⟨its,rv,pl,hz⟩:=I1.list (BJ.of hw);refine call_enumerate_list pl.isList λh' he hs' hz' kk=>?_;refine wpAny_pyIter_enum he ?_;have I2:AI X pins Y H1 {s1 with heap:=h'}:=I1.kept (t':=s1.toks) kk;refine⟨s1.heap.objs.size+1,[s1.heap.objs.size+1,s1.heap.objs.size],_,_,H1,rfl,I2,AAm b _ _ xs.length (Nat.succ_ne_self _),⟨⟨_,he⟩,hs',EH _⟩,λb hb=>?_,k _ H1 O1 st rs λi H2 O2 L2 st2 rs2 ok=>?_⟩
    .rcases AX.mp hb with rfl|hb
     .exact I1.fpOk (ALz _) (I1.hok.fresh (ALz _))
     .obtain rfl:=Dt.mp hb;exact I1.fpOk (Af _) (I1.hok.fresh (Af _))
    .obtain⟨ws',hw',il'⟩:=rs2.ob n _ _ (CW st2.2 hn) (of_decide_eq_true ok);refine⟨λd hd=>?_,λh=>⟨ws',BJ.of hw',il'.length,by simpa[FD] using h⟩⟩;simp only at hd;rw[Xu] at hd
     cases ec:xs[i]? with
     |none=>rw[ec] at hd;cases hd
     |some c =>
      rw[ec] at hd;cases hd;refine⟨⟨ws',BJ.of hw',il'.length,(Ax.mp ec).1⟩,λx H' ⟨T,hT,ex,y⟩=>?_⟩;obtain⟨v,hv,eH⟩:=y ws' (BJ.of hw');subst ex eH;obtain⟨v',hv',iv⟩:=il'.get ec;rw[hv] at hv';cases hv';have st3:Al H2 O2 (upd H2 T (.tup [.int (i:Int),v])) O2:=⟨.new hT,AW _⟩;exact⟨st3,rs2.ext λa u e=>by rw[BU (DT e hT)];exact e,.tup (Bd.of CI) (.cons (.int _) (.cons (iv.mono st3) .nil))⟩
  .cases e
 .cases e
end
def UW:∀{vs:List V} {us:ANF},vs.length=us.length->(∀(i:Nat) (v:V),vs[i]?=some v->∃u,us[i]?=some u/\Ac v u)->Ab vs us
 |[],[],_,_=>.nil
 |[],_::_,h,_=>by simp at h
 |_::_,[],h,_=>by simp at h
 |v::vs,u::us,h,f=>by
  refine .cons ?_ (UW (by simpa using h) λi w hw=>by simpa using f (i+1) w (by simpa using hw));obtain⟨u',e,r⟩:=f 0 v rfl;cases e;exact r
section
variable {X:Cx}
def AEY{prog:Program}{w:World}{d:Addr}(hd:(d == sysModules)=false):MeetsIn prog w (Builtin.«dict.__len__» ⟨[.ref d],[]⟩) (λ_ R s=>∃es ep,Ij s.heap d es ep/\R (.ok (.ret (.int es.size s.toks))) {s with toks:=s.toks+1}) :=
 .of_wp λA R s z3_=>by
  obtain⟨es,ep,⟨o,g,dat⟩,k⟩:=z3_;refine AH (m:=dictSize d) (AH (AM9 g dat (AN (AH (m:=Builtin.Dict.pendingCount d) (wpAny_pendingCount_other hd (wpAny_ret_mkInt ?_))))));exact k
abbrev LD:GL:=λxs L=>match xs with
 |[.ref k]=>(match L[k]? with|some (.dt kvs _)=>some (.int (kvs.length:Int),L)|_=>none)
 |_=>none
def AK5:EU X (.builtin "len") LD:=λpins s Y H vs us Q I rv z9_=>by
 obtain⟨O,L,xs,d,L',rs,is,e,k⟩:=z9_;unfold LD at e;split at e
 .rename_i n;split at e
  .rename_i kvs ep e1;cases e
   cases is with|cons i1 i2=>cases i2;cases i1 with|ref hn =>
    obtain⟨u,rfl,ru⟩:=Dk rv;cases ru;obtain⟨ws,ha,ek,_,_⟩:=rs.ob n _ _ hn e1;obtain⟨hsm,⟨ty,_⟩,es,en,sz,_⟩:=Hy I ha;have hz:ws.length<=sizeLine:=(show CB X.prog X.w H s.heap _ (.dN ws ep) from I.hok _ _ ha).1;have hl:ws.length=kvs.length:=by simpa using congrArg List.length ek
    have es1:es.size=kvs.length:=sz.trans hl;rw[sizeLine_eq] at hz;refine Calls.call_function_entry kind_len plain_len entry_len (args_len1 _) ?_
    refine AH (m:=oneArg "len" _) (AN (AH (m:=callSpecial? (.ref _) (Str.ofString "__len__")) (AM5 (name:=Str.ofString "__len__") ty PySem.F.slot_dict_len
     (call_meetsIn PySem.F.slot_dict_len ty PySem.F.entry_dict_len (PySem.F.args_dict_len_1 _) (AEY hsm) ⟨es,ep,en,?_⟩))))
    refine AH (DZ (AN (AH (wpAny_letGo ?_))))
    show wpAny _ _ (if ((es.size:Nat):Int)<0 then _ else if ((es.size:Nat):Int) ≥ 2 ^ 63 then _ else _) _ _ _
    rw[if_neg (by omega),if_neg (by omega)];refine AH (wpAny_mkInt (AN ⟨_,rfl,?_⟩));exact⟨.int es.size,H,(I.tok _).tok _,⟨_,rfl⟩,by rw[es1];exact k _ _ _ (.refl _ _) rs (.int _)⟩
  .cases e
 .cases e
def AAV{prog:Program}{w:World}{A:Around}(hh:A.handled=none)(t d:Addr)(hne:d≠t)(es:Array DictEntry)(ep:Nat) :
  Walks prog w A t [t,d] [t] es.size (λi v=>∃e,es[i]?=some e/\v=e.key) (λi h=>h.IsKeyIter t d i es.size ep/\Ij h d es ep) where
 sub:=λb hb=>by simp at hb;simp[hb]
 frame:=λ_ _ _ z3_ k=>by obtain⟨a,o,g,dat⟩:=z3_;exact⟨a.at λo q=>k t (by simp) o q,o,k d (by simp) o g,dat⟩
 item:=λi s Q E hi ⟨a,o,g,dat⟩ k=>by
  refine NY hh a ⟨o,g,dat⟩ (λe he h' a' sb=>?_) λhn=>by rw[Array.getElem?_eq_none_iff] at hn;omega
  exact k e.key h' s.toks ⟨e,he,rfl⟩ ⟨a',o,(sb.2 d hne).trans g,dat⟩ λb q hb e'=>(sb.2 b (by simpa using hb)).trans e'
 done:=λs Q E ⟨a,en⟩ k=>by
  refine NY hh a en (λe he=>by rw[AMu (Af _)] at he;cases he) λ_ h' x=>?_;exact k h' s.toks λb q hb e'=>x b q (by simpa using hb) e'
 self:=λ_ _ _ _ st h=>wpAny_pyIter_keyiter st.1 h
abbrev AHd(h:Heap)(d:Addr)(es:Array DictEntry)(ep:Nat):Prop:=∃o,h.get? d=some o/\o.cls=.type "dict"/\o.data=.dict es ep
def ABU{prog:Program}{w:World}{d:Addr}{es:Array DictEntry}{ep:Nat}(hd:(d == sysModules)=false):PySem.W.KdlSrc prog w "dict" d d es.size (λi v=>∃e,es[i]?=some e/\v=e.key) (λh=>AHd h d es ep) where
 type:=λ_ z1_=>by obtain⟨o,g,c,_⟩:=z1_;exact⟨o,g,c⟩
 there:=λ_ z1_=>by obtain⟨o,g,_⟩:=z1_;exact⟨Heap.lt_size g,Heap.lt_size g⟩
 keep:=λ_ _ z2_ k=>by obtain⟨o,g,r⟩:=z2_;exact⟨o,k d (.inl rfl) o g,r⟩
 notList:=by decide
 notTuple:=by decide
 hint:=λ_ _ _ _ z4_ q=>by obtain⟨o,g,c,_⟩:=z4_;exact PySem.W.kdl_hint_dict ⟨o,g,c⟩ q
 iter:=λA s hh ⟨o,g,c,dat⟩=>⟨_,_,λE Q q=>Wl hd ⟨o,g,c⟩ ⟨o,g,dat⟩ q,AAV hh _ d (BV (Heap.lt_size g)) es ep,⟨_,Heap.get?_push_size _ rfl,rfl,rfl⟩,o,Heap.get?_push_of_some _ g,dat⟩
abbrev LB:GL:=λxs L=>match xs with
 |[.ref k]=>(match L[k]? with|some (.dt kvs _)=>some (.ref L.length,L++[.lst (Fi kvs)])|_=>none)
 |_=>none
def AK3(hc:X.calm=true):EU X (.type "list") LB:=λpins s Y H vs us Q I rv z9_=>by
 obtain⟨O,L,xs,d,L',rs,is,e,k⟩:=z9_;unfold LB at e;split at e
 .rename_i n;split at e
  .rename_i kvs ep e1;cases e
   cases is with|cons i1 i2=>cases i2;cases i1 with|@ref _ a hn =>
    obtain⟨u,rfl,ru⟩:=Dk rv;cases ru;obtain⟨ws,ha,ek,il,ik⟩:=rs.ob n _ _ hn e1;obtain⟨hsm,⟨⟨o,g,c⟩,_⟩,es,⟨o',g',dat⟩,sz,at_⟩:=Hy I ha;rw[g] at g';cases g';have hz:ws.length<=sizeLine:=(show CB X.prog X.w H s.heap _ (.dN ws ep) from I.hok _ _ ha).1;have hl:ws.length=kvs.length:=by simpa using congrArg List.length ek
    refine PySem.W.kdl_call (ABU (ep:=ep) hsm) (I.ok.hd hc) ⟨o,g,c,dat⟩ (by rw[sz];exact hz) λh' tk acc c' kk hD hacc=>?_
    -- the list of the keys
    have hv:Ab (ws.map λw=>V.ref w.2.1) acc.toList:=by
     refine UW (by have h9:=hacc.1;rw[sz] at h9;simp[h9]) λi v hv=>?_;rw[Ar] at hv
     cases ew:ws[i]? with
     |none=>rw[ew] at hv;cases hv
     |some q =>
      rw[ew] at hv;cases hv;obtain⟨en,h1,h2,_⟩:=at_ i q ew;have hi:i<acc.size:=by rw[hacc.1,sz];exact(Ax.mp ew).1
      obtain⟨en',h3,h4⟩:=hacc.2 i acc[i] (by simp[hi]);rw[h1] at h3;cases h3;exact⟨acc[i],by simp[hi],by rw[h4];exact h2⟩
    have hf:H s.heap.objs.size=none:=I.hok.fresh (Af _)
    have I1:AI X pins Y (upd H s.heap.objs.size (.lst (ws.map λw=>V.ref w.2.1))) {s with heap:=h',toks:=tk} :=
     I.laid (t':=tk) kk (Af _) ⟨by rw[Aa];exact hz,acc.toList,c',hv,by simpa using hD⟩
    have st:Al H O (upd H s.heap.objs.size (.lst (ws.map λw=>V.ref w.2.1))) (O++[s.heap.objs.size]):=⟨.new hf,Ai _ _⟩
    have ikk:AR X.K H O (ws.map λw=>V.ref w.2.1) (Fi kvs):=by
     have go:∀{l:List (NK×Addr×V)} {m:List (NK×D)},l.map (·.1)=m.map (·.1)->(∀u∈l,Is X.K H O (.ref u.2.1) (Dm u.1))->AR X.K H O (l.map λw=>V.ref w.2.1) (Fi m):=by
      intro l
      induction l with
      |nil=>intro m em _;cases m with|nil=>exact .nil|cons=>simp at em
      |cons q l ih =>
       intro m em hm
       cases m with
       |nil=>simp at em
       |cons p m =>
        simp only[Aj,List.cons.injEq] at em;refine .cons ?_ (ih em.2 λu hu=>hm u (BA _ hu));show Is X.K H O (.ref q.2.1) (Dm p.1);rw[<-em.1];exact hm q Az
     exact go ek ik
    exact⟨.ref s.heap.objs.size,_,I1,rfl,k _ _ _ st (rs.new hf ⟨_,CI,ikk.mono st⟩) (.ref (by rw[<-rs.len];simp))⟩
  .cases e
 .cases e
end
abbrev Dp(b:Bool)(h:Heap)(l:Addr)(its:Array Value):Prop:=match b with|true=>h.IsTuple l its|false=>h.IsList l its
abbrev Ck(b:Bool)(h:Heap)(t l:Addr)(k:Nat):Prop:=match b with|true=>h.IsTupleIter t l k|false=>h.IsListIter t l k
section
variable {prog:Program}{w:World}{A:Around}{E:ANL}{s:Shared}{b:Bool}{h h':Heap}{t l:Addr}{k:Nat}{its:Array Value}
def Dp.ext(x:Dp b h l its)(e:∀o,h.get? l=some o->h'.get? l=some o):Dp b h' l its:=by
 cases b with
 |true=>obtain⟨o,g,r⟩:=x;exact⟨o,e o g,r⟩
 |false=>obtain⟨o,g,r⟩:=x;exact⟨o,e o g,r⟩
def Ck.ext(x:Ck b h t l k)(e:∀o,h.get? t=some o->h'.get? t=some o):Ck b h' t l k:=by
 cases b with
 |true=>obtain⟨o,g,r⟩:=x;exact⟨o,e o g,r⟩
 |false=>obtain⟨o,g,r⟩:=x;exact⟨o,e o g,r⟩
def Ck.obj(x:Ck b h t l k):∃o,h.get? t=some o/\∀v,o.data≠.cell v:=by
 cases b with
 |true=>obtain⟨o,g,_,d⟩:=x;exact⟨o,g,λv z=>by rw[d] at z;cases z⟩
 |false=>obtain⟨o,g,_,d⟩:=x;exact⟨o,g,λv z=>by rw[d] at z;cases z⟩
def ABs{Q:ANL}(x:Dp b s.heap l its)(q:∀o,Ck b (s.heap.push o) s.heap.objs.size l 0->Q (.ref s.heap.objs.size) {s with heap:=s.heap.push o}):wpAny (model prog w) A (pyIter (.ref l)) Q E s:=by
 cases b with
 |true=>exact wpAny_pyIter_tuple x (q _ ⟨_,Heap.get?_push_size _ rfl,rfl,rfl⟩)
 |false=>exact AM3 x (q _ ⟨_,Heap.get?_push_size _ rfl,rfl,rfl⟩)
def tup_next{Q:ANL}(hh:A.handled=none)(i:s.heap.IsTupleIter t l k)(x:s.heap.IsTuple l its)(some_:∀v,its[k]?=some v->∀h',h'.IsTupleIter t l (k+1)->Heap.SameBut t s.heap h'->Q v {s with heap:=h'})
  (none_:its[k]?=none->∀h' e,Heap.ExtBut t s.heap h'->(∃o,h'.get? e=some o/\o.cls=.type "StopIteration")->E (.ref e) {s with heap:=h'}):wpAny (model prog w) A (Builtin.SmallTypes.nextOf (.ref t)) Q E s:=by
 obtain⟨ot,gt,ct,dt⟩:=id i;obtain⟨ol,gl,_,n,dl⟩:=x
 have inner:∀{R:ANL},(∀v,its[k]?=some v->∀h',h'.IsTupleIter t l (k+1)->Heap.SameBut t s.heap h'->R v {s with heap:=h'}) ->
   wpAny (model prog w) A.in1 (Builtin.«tuple_iterator.__next__» ⟨[.ref t],[]⟩) (λfi s2=>∃v,fi=PySem.Fin.done (Flow.ret v)/\R v s2) E s:=λ{R} one=>by
  refine AH (m:=field (.ref t) 0) (Eg (x:=.ref l) gt dt rfl ?_)
  show wpAny _ _ (if (Value.ref l == Value.none)=true then _ else _) _ _ s
  rw[if_neg (λz=>by cases (show(false:Bool)=true from z))];refine AH (m:=field (.ref t) 1) (Eg (x:=.int k 0) gt dt rfl (AH (m:=seqItems? (.ref l)) (AM0 gl dl ?_)));simp only[Gq]
  cases ev:its[k]? with
  |none =>
   refine AH (AMz (AH (m:=setField (.ref t) 0 .none) (wpAny_setField gt dt (by simp) ?_)));exact RT (A:=A.in1) (t:=t) (h0:=s.heap) (s:={s with heap:=s.heap.update t (Obj.mapFields (·.setIfInBounds 0 .none))}) hh (Heap.SameBut.update ..).extBut λh' k x hx=>none_ ev h' x k hx
  |some v =>
   refine AH (wpAny_setField gt dt (by simp) (AN ⟨v,rfl,one v ev _ ?_ (Heap.SameBut.update ..)⟩));exact⟨_,Heap.get?_update_self _ gt (Obj.isFreed_of_fields (Obj.data_mapFields dt _)),(Obj.cls_mapFields ..).trans ct,by rw[Obj.data_mapFields dt];simp[rawInt]⟩
 unfold Builtin.SmallTypes.nextOf;exact AH (AM5 (name:=Str.ofString "__next__") i.typeIs AMy (Fy AMy i.typeIs PySem.F.entry_tuple_iterator_next (inner λv hv h' i' sb=>AN (some_ v hv h' i' sb)) (PySem.F.args_tuple_iterator_next_1 _)))
def ABr{v:Value}{Q:ANL}(hh:A.handled=none)(i:Ck b s.heap t l k)(x:Dp b s.heap l its)(hv:its[k]?=some v)(q:∀h',Ck b h' t l (k+1)->Heap.SameBut t s.heap h'->Q v {s with heap:=h'}):wpAny (model prog w) A (Builtin.SmallTypes.nextOf (.ref t)) Q E s:=by
 cases b with
 |true=>exact tup_next hh i x (λv' e h' i' sb=>by rw[hv] at e;cases e;exact q h' i' sb) λe=>by rw[hv] at e;cases e
 |false=>exact wpAny_nextOf_list_item i x hv q
def ABu{Q:ANL}(hh:A.handled=none)(i:Ck b s.heap t l k)(x:Dp b s.heap l its)(hv:its[k]?=none)(q:∀h' e,Heap.ExtBut t s.heap h'->(∃o,h'.get? e=some o/\o.cls=.type "StopIteration")->E (.ref e) {s with heap:=h'}):wpAny (model prog w) A (Builtin.SmallTypes.nextOf (.ref t)) Q E s:=by
 cases b with
 |true=>exact tup_next hh i x (λv' e=>by rw[hv] at e;cases e) λ_=>q
 |false=>exact wpAny_nextOf_list_end hh i x hv q
end
structure Src where
 b:Bool
 t:Addr
 l:Addr
noncomputable abbrev EA(h:Heap)(T:Addr)(vs:ANF):Prop:=h.get? T=some {cls:=.type "tuple",data:=.seq vs.toArray}
abbrev Kp:ANF->Nat->ANF->ANF
 |kept,_,[]=>kept
 |kept,j,v::vs=>Kp (kept.set j v) (j+1) vs
def Ve:∀(vs kept:ANF) (j:Nat),kept.length=j+vs.length->Kp kept j vs=kept.take j++vs
 |[],kept,j,h=>by simp only[Kp,ALy];rw[AMD (by simpa using ALe h)]
 |v::vs,kept,j,h=>by
  simp only[Dd] at h;rw[Kp,Ve vs _ _ (by rw[AL1];omega)];rw[List.take_succ,ALx (by omega),List.take_set_of_le (Af _)];simp
section
variable {prog:Program}{w:World}{A:Around}{E:ANL}{s:Shared}{z TI TO:Addr}{k:Nat}
abbrev AHc(M:Model)(A:Around)(E:ANL)(s:Shared)(z TI TO:Addr)(k:Nat){β:Type}(init:β)(f:Value×Nat->β->Sem (ForInStep β)):Prop :=
 ∀(r:Src) (j:Nat) (v:Value) (its:Array Value) (h1:Heap) (kept:ANF),Ck r.b h1 r.t r.l k->Dp r.b h1 r.l its->its[k]?=some v->IsZip h1 z TI TO .ellipsis->EA h1 TO kept->kept.length<=1000->r.t≠TO->r.t≠z ->
  ∀G:ForInStep β->Shared->Prop,(∀h2,Ck r.b h2 r.t r.l (k+1)->EA h2 TO (kept.set j v)->IsZip h2 z TI TO .ellipsis->h2.objs.size=h1.objs.size->(∀c o,c≠TO->c≠r.t->h1.get? c=some o->h2.get? c=some o)->G (.yield init) {s with heap:=h2}) ->
   wpAny M A (f (.ref r.t,j) init) G E {s with heap:=h1}
def AGT{M:Model}{β:Type}{init:β}{f:Value×Nat->β->Sem (ForInStep β)}(one:AHc M A E s z TI TO k init f)(tz:TO≠z):∀(rs:List Src) (vs:ANF) (j:Nat) (h1:Heap) (kept:ANF),
  Paired (λ(r:Src) v=>Ck r.b h1 r.t r.l k/\∃its,Dp r.b h1 r.l its/\its[k]?=some v) rs vs->(rs.map (·.t)).Nodup->(∀r∈rs,r.t≠TO/\r.t≠z/\r.l≠TO/\∀q∈rs,r.l≠q.t)->IsZip h1 z TI TO .ellipsis->EA h1 TO kept->kept.length<=1000 ->
  ∀G:β->Shared->Prop,(∀h2,(∀r∈rs,Ck r.b h2 r.t r.l (k+1))->EA h2 TO (Kp kept j vs)->IsZip h2 z TI TO .ellipsis->h2.objs.size=h1.objs.size->(∀c o,c≠TO->c∉rs.map (·.t)->h1.get? c=some o->h2.get? c=some o)->G init {s with heap:=h2}) ->
   wpAny M A (forIn ((rs.map λr=>Value.ref r.t).zipIdx j) init f) G E {s with heap:=h1}:=by
 intro rs
 induction rs with
 |nil =>
  intro vs j h1 kept p _ _ hz ht _ G q;cases p;exact AN (q h1 (λ_ h=>nomatch h) ht hz rfl λc o _ _ e=>e)
 |cons r rs ih =>
  intro vs j h1 kept p nd ap hz ht hk G q
  cases p with
  |@cons _ v _ vs hr ps =>
  obtain⟨ir,its,xr,hv⟩:=hr;rw[Aj,List.zipIdx_cons,AL7];obtain⟨a1,a2,a3,a4⟩:=ap r Az;rw[Aj,Go] at nd;refine AH (one r j v its h1 kept ir xr hv hz ht hk a1 a2 _ λh2 i2 t2 z2 s2 k2=>?_);have ne:∀r'∈rs,r'.t≠r.t:=λr' h' e=>nd.1 (by rw[<-e];exact CG h')
  have ps2:Paired (λ(r:Src) v=>Ck r.b h2 r.t r.l k/\∃its,Dp r.b h2 r.l its/\its[k]?=some v) rs vs:=by
   have go:∀{l:List Src} {m:ANF},(∀x∈l,x∈rs)->Paired (λ(r:Src) v=>Ck r.b h1 r.t r.l k/\∃its,Dp r.b h1 r.l its/\its[k]?=some v) l m->Paired (λ(r:Src) v=>Ck r.b h2 r.t r.l k/\∃its,Dp r.b h2 r.l its/\its[k]?=some v) l m:=by
    intro l m hl p
    induction p with
    |nil=>exact .nil
    |@cons x u l m hx _ ih =>
     obtain⟨i1,its1,x1,e1⟩:=hx;have hm:=hl x Az;obtain⟨c1,c2,c3,c4⟩:=ap x (BA _ hm);exact .cons ⟨i1.ext λo e=>k2 _ o c1 (ne x hm) e,its1,x1.ext λo e=>k2 _ o c3 (c4 r Az) e,e1⟩ (ih λy hy=>hl y (BA _ hy))
   exact go (λ_ h=>h) ps
  refine ih vs (j+1) h2 (kept.set j v) ps2 nd.2 (λr' h'=>?_) z2 t2 (by rw[AL1];exact hk) G λh3 i3 t3 z3 s3 k3=>?_
  .obtain⟨c1,c2,c3,c4⟩:=ap r' (BA _ h');exact⟨c1,c2,c3,λq' hq=>c4 q' (BA _ hq)⟩
  .refine q h3 (λr' h'=>?_) t3 z3 (s3.trans s2) λc o c1 c2 e=>?_
   .rcases AX.mp h' with e|h'
    .subst e;exact i2.ext λo e=>k3 _ o a1 nd.1 e
    .exact i3 r' h'
   .simp only[Aj,AX,not_or] at c2;exact k3 c o c1 c2.2 (k2 c o c1 c2.1 e)
def Zo{zs:List Src}{vs old:ANF}{R:ANL}(hh:A.handled=none)(hz:IsZip s.heap z TI TO .none)(hi:EA s.heap TI (zs.map λr=>.ref r.t))(ht:EA s.heap TO old)(ho:old.length=vs.length)(hk:old.length<=1000)(ne:zs≠[])
  (nd:(zs.map (·.t)).Nodup) (tz:TO≠z) (iz:TI≠z) (ap:∀r∈zs,r.t≠TO/\r.t≠z/\r.l≠TO/\r.l≠z/\∀q∈zs,r.l≠q.t) (each:Paired (λ(r:Src) v=>Ck r.b s.heap r.t r.l k/\∃its,Dp r.b s.heap r.l its/\its[k]?=some v) zs vs)
  (q:∀h',IsZip h' z TI TO (rawInt s.heap.objs.size)->EA h' TO vs->(∀r∈zs,Ck r.b h' r.t r.l (k+1))->EA h' s.heap.objs.size vs->(∀c o,c≠z->c≠TO->c∉zs.map (·.t)->s.heap.get? c=some o->h'.get? c=some o)->R (.ref s.heap.objs.size) {s with heap:=h'}) :
  wpAny (model prog w) A (Builtin.«zip.__next__» ⟨[.ref z],[]⟩) (λfi s2=>∃v,fi=PySem.Fin.done (Flow.ret v)/\R v s2) E s:=by
 refine AH (m:=field (.ref z) 2) (Eg (x:=.bool false) hz rfl rfl (AH (m:=field (.ref z) 3) (Eg (x:=.ref TI) hz rfl rfl (AH (AM0 hi rfl ?_)))));have hem:(zs.map λr=>Value.ref r.t).toArray.isEmpty=false:=by cases zs with|nil=>exact absurd rfl ne|cons=>rfl
 simp only[hem,AL5,if_false];refine AH (m:=Builtin.SmallTypes.ownedTupleIsFree (.ref z)) (AH (Eg (x:=.none) hz rfl rfl (AN ?_)));rw[if_pos rfl];refine AH (AMz (AH (Eg (x:=.ref TO) hz rfl rfl (AH (ANC hz (by simp) λh1 z1 b1=>?_)))));have z1':IsZip h1 z TI TO .ellipsis:=z1;refine AH ?_;refine AGT (M:=model prog w) (E:=E) (A:=A) (s:=s) (TI:=TI) (k:=k) ?one tz zs vs 0 h1 old ?ps nd (λr hr=>?_) z1' (b1.extBut _ _ tz ht) hk _ λh2 i2 t2 z2 s2 k2=>?_
 case one =>
  intro r j v its h3 kept ir xr hv z3 t3 hl3 r1 r2 G g;refine AH (wpAny_onRaise (AH (m:=Builtin.SmallTypes.nextOf (.ref r.t)) (ABr (s:={s with heap:=h3}) hh ir xr hv λh4 i4 b4=>AN ?_)));have t4:EA h4 TO kept:=b4.extBut _ _ (Ne.symm r1) t3;have z4:IsZip h4 z TI TO .ellipsis:=b4.extBut _ _ (Ne.symm r2) z3;refine AH (AM0 t4 rfl (AH (wpAny_updateSeq t4 rfl (AH (wpAny_letGo (AN ?_))) (by rw[sizeLine_eq,Be];omega) (by rw[sizeLine_eq,Array.size_setIfInBounds,Be];omega))));have b5:Heap.SameBut TO h4 (h4.update TO (Obj.mapSeq (·.setIfInBounds j v))):=.update ..;refine g _ (i4.ext λo e=>b5.extBut _ _ r1 e) ?_ (b5.extBut _ _ (Ne.symm tz) z4) (b5.1.trans b4.1) λc o c1 c2 e=>b5.extBut _ _ c1 (b4.extBut _ _ c2 e);show Heap.get? _ TO=_;rw[Heap.get?_update_self _ t4 rfl];simp[Obj.mapSeq]
 case ps =>
  have go:∀{l:List Src} {m:ANF},(∀x∈l,x∈zs)->Paired (λ(r:Src) v=>Ck r.b s.heap r.t r.l k/\∃its,Dp r.b s.heap r.l its/\its[k]?=some v) l m->Paired (λ(r:Src) v=>Ck r.b h1 r.t r.l k/\∃its,Dp r.b h1 r.l its/\its[k]?=some v) l m:=by
   intro l m hl p
   induction p with
   |nil=>exact .nil
   |@cons x u l m hx _ ih =>
    obtain⟨i1,its1,x1,e1⟩:=hx;obtain⟨c1,c2,c3,c4,c5⟩:=ap x (hl x Az);exact .cons ⟨i1.ext λo e=>b1.extBut _ _ c2 e,its1,x1.ext λo e=>b1.extBut _ _ c4 e,e1⟩ (ih λy hy=>hl y (BA _ hy))
  exact go (λ_ h=>h) each
 .obtain⟨c1,c2,c3,c4,c5⟩:=ap r hr;exact⟨c1,c2,c3,c5⟩
 .rw[Ve vs old 0 (by rw[ho];omega),List.take_zero,List.nil_append] at t2;refine AH (AM0 t2 rfl (AH (wpAny_newTuple ?_)));have sz:h2.objs.size=s.heap.objs.size:=s2.trans b1.1;have hzl:z<h2.objs.size:=Heap.lt_size z2;refine AH (m:=Builtin.SmallTypes.ownedTupleHandOut (.ref z) (.ref h2.objs.size)) (AH (ANC (Heap.get?_push_of_some _ z2) (by simp) λh3 z3 b3=>ANC z3 (by simp) λh4 z4 b4=>?_));have far:∀c o,c≠z->h2.get? c=some o->h4.get? c=some o:=λc o hc e=>b4.extBut _ _ hc (b3.extBut _ _ hc (Heap.get?_push_of_some _ e));refine AN ⟨_,rfl,?_⟩;have z4':IsZip h4 z TI TO (rawInt h2.objs.size):=z4;have new4:EA h4 h2.objs.size vs:=b4.extBut _ _ (Fa hzl) (b3.extBut _ _ (Fa hzl) (by show Heap.get? _ _=_;exact Heap.get?_push_size _ rfl));rw[sz] at z4' new4;rw[sz];exact q h4 z4' (far _ _ tz t2) (λr hr=>(i2 r hr).ext λo e=>far _ _ (ap r hr).2.1 e) new4 λc o c1 c2 c3 e=>far c o c1 (k2 c o c2 c3 (b1.extBut _ _ c1 e))
def Zn{zs:List Src}{r0:Src}{its:Array Value}{Q:PySem.Fin->Shared->Prop}(hh:A.handled=none)(hz:IsZip s.heap z TI TO .none)(hi:EA s.heap TI ((r0::zs).map λr=>.ref r.t))(a1:r0.t≠z)(a2:r0.l≠z)
  (ir:Ck r0.b s.heap r0.t r0.l k) (xr:Dp r0.b s.heap r0.l its) (hv:its[k]?=none)
  (q:∀h' e,(∀c o,c≠z->c≠r0.t->s.heap.get? c=some o->h'.get? c=some o)->(∃o,h'.get? e=some o/\o.cls=.type "StopIteration")->E (.ref e) {s with heap:=h'}) :
  wpAny (model prog w) A (Builtin.«zip.__next__» ⟨[.ref z],[]⟩) Q E s:=by
 refine AH (m:=field (.ref z) 2) (Eg (x:=.bool false) hz rfl rfl (AH (m:=field (.ref z) 3) (Eg (x:=.ref TI) hz rfl rfl (AH (AM0 hi rfl ?_)))));have hem:((r0::zs).map λr=>Value.ref r.t).toArray.isEmpty=false:=rfl;simp only[hem,AL5,if_false];refine AH (m:=Builtin.SmallTypes.ownedTupleIsFree (.ref z)) (AH (Eg (x:=.none) hz rfl rfl (AN ?_)));rw[if_pos rfl];refine AH (AMz (AH (Eg (x:=.ref TO) hz rfl rfl (AH (ANC hz (by simp) λh1 z1 b1=>AH ?_)))));rw[Aj,List.zipIdx_cons,AL7];have z1':IsZip h1 z TI TO .ellipsis:=z1;refine AH (AH (wpAny_onRaise (AH (m:=Builtin.SmallTypes.nextOf (.ref r0.t)) (ABu (s:={s with heap:=h1}) hh (ir.ext λo e=>b1.extBut _ _ a1 e) (xr.ext λo e=>b1.extBut _ _ a2 e) hv λh2 e k2 z3_=>?_))));obtain⟨oe,ge,ce⟩:=z3_;have z2:IsZip h2 z TI TO .ellipsis:=k2 _ _ (Ne.symm a1) z1';have ez:e≠z:=λx=>by subst x;rw[z2] at ge;cases ge;exact absurd (show Value.type "zip"=Value.type "StopIteration" from ce) (by decide)
 exact ANC z2 (by simp) λh3 _ b3=>q h3 e (λc o c1 c2 x=>b3.extBut _ _ c1 (k2 _ _ c2 (b1.extBut _ _ c1 x))) ⟨oe,b3.extBut _ _ ez ge,ce⟩
end
abbrev Bs:Nat->List (Bool×Addr)->List Src
 |_,[]=>[]
 |n,p::r=>⟨p.1,n,p.2⟩::Bs (n+1) r
def Mz:∀(ls:List (Bool×Addr)) (n:Nat),(Bs n ls).length=ls.length
 |[],_=>rfl
 |_::r,n=>by simp[Bs,Mz r]
def Kj:∀(ls:List (Bool×Addr)) (n:Nat),(Bs n ls).map (λr=>(r.b,r.l))=ls
 |[],_=>rfl
 |_::r,n=>by simp[Bs,Kj r]
def Ki:∀(ls:List (Bool×Addr)) (n:Nat) (r:Src),r∈Bs n ls->n<=r.t/\r.t<n+ls.length
 |[],_,_,h=>nomatch h
 |p::q,n,r,h=>by
  rcases AX.mp h with e|h
  .subst e;simp
  .obtain⟨a,b⟩:=Ki q (n+1) r h;exact⟨Nat.le_of_succ_le a,Nat.lt_of_lt_of_eq b (by rw[Dd,ALw,Nat.add_comm 1])⟩
def VH:∀(ls:List (Bool×Addr)) (n:Nat),((Bs n ls).map (·.t)).Nodup
 |[],_=>Gm
 |p::q,n=>by
  rw[Bs,Aj,Go];refine⟨λh=>?_,VH q (n+1)⟩;obtain⟨r,hr,e⟩:=Aq.mp h;have:=(Ki q (n+1) r hr).1;rw[show r.t=n from e] at this;exact Nat.not_succ_le_self n this
section
variable {prog:Program}{w:World}{A:Around}{E:ANL}{s:Shared}
def Wr:∀(ls:List (Bool×Addr)) (acc:Array Value) (s:Shared),(∀p∈ls,∃its,Dp p.1 s.heap p.2 its)->∀G:Array Value->Shared->Prop,
  (∀h',(∀r∈Bs s.heap.objs.size ls,Ck r.b h' r.t r.l 0)->h'.objs.size=s.heap.objs.size+ls.length->(∀c o,s.heap.get? c=some o->h'.get? c=some o)->G (acc++((Bs s.heap.objs.size ls).map λr=>Value.ref r.t).toArray) {s with heap:=h'}) ->
  wpAny (model prog w) A (forIn (ls.map λp=>Value.ref p.2) acc λx its=>do let __do_lift <-holding its.toList (pyIter x);pure (ForInStep.yield (its.push __do_lift))) G E s
 |[],acc,s,_,G,q=>AN (by simpa[Bs] using q s.heap (λ_ h=>nomatch h) rfl λ_ _ e=>e)
 |p::ls,acc,s,hs,G,q=>by
  obtain⟨its,x⟩:=hs p Az;rw[Aj,AL7];refine AH (AH (DZ (ABs x λo i=>AN ?_)));refine Wr ls (acc.push (.ref s.heap.objs.size)) {s with heap:=s.heap.push o} (λp' hp=>?_) G λh' e z k=>?_
  .obtain⟨its',x'⟩:=hs p' (BA _ hp);exact⟨its',x'.ext λo' e=>Heap.get?_push_of_some _ e⟩
  .have sz:(s.heap.push o).objs.size=s.heap.objs.size+1:=Heap.size_push ..;have e1:Bs s.heap.objs.size (p::ls)=⟨p.1,s.heap.objs.size,p.2⟩::Bs (s.heap.push o).objs.size ls:=by rw[sz];rfl
   have:=q h' (λr hr=>by
    rw[e1] at hr;rcases AX.mp hr with er|hr
    .subst er;exact i.ext λo' e'=>k _ o' e'
    .exact e r hr) (by rw[z,Dd];show(s.heap.push o).objs.size+_=_;rw[sz];omega) λc o' e'=>k c o' (Heap.get?_push_of_some _ e')
   rw[e1] at this;simpa using this
def Zp(xs:ANF):Builtin.SmallTypes.newClass "zip" ⟨.type "zip"::xs,[]⟩=pure (.type "zip",xs):=by unfold Builtin.SmallTypes.newClass;simp only[sub_zip];rfl
def AEV(ls:List (Bool×Addr))(hn:ls.length<=1000):MeetsIn prog w (Builtin.«zip.__new__» ⟨.type "zip"::ls.map (λp=>.ref p.2),[]⟩) (λ_ R s=>(∀p∈ls,∃its,Dp p.1 s.heap p.2 its) /\
  ∀h',(∀r∈Bs s.heap.objs.size ls,Ck r.b h' r.t r.l 0)->EA h' (s.heap.objs.size+ls.length) ((Bs s.heap.objs.size ls).map λr=>.ref r.t)->EA h' (s.heap.objs.size+ls.length+1) ((Bs s.heap.objs.size ls).map λ_=>.none) ->
   IsZip h' (s.heap.objs.size+ls.length+2) (s.heap.objs.size+ls.length) (s.heap.objs.size+ls.length+1) .none->(∀c o,s.heap.get? c=some o->h'.get? c=some o)->R (.ok (.ret (.ref (s.heap.objs.size+ls.length+2)))) {s with heap:=h'}) :=
 .of_wp λA R s z3_=>by
  obtain⟨hs,q⟩:=z3_;unfold Builtin.«zip.__new__»;rw[Zp];refine AH (AN ?_);refine AH (m:=Builtin.SmallTypes.iterAll (ls.map λp=>.ref p.2)) ?_;unfold Builtin.SmallTypes.iterAll;refine AH (Wr ls #[] s hs _ λh1 e1 z1 k1=>AN ?_);have e0:((#[]:Array Value)++((Bs s.heap.objs.size ls).map λr=>Value.ref r.t).toArray).toList=(Bs s.heap.objs.size ls).map λr=>Value.ref r.t:=by simp
  rw[e0];have len:(Bs s.heap.objs.size ls).length<=1000:=by rw[Mz];exact hn
  have z2:∀o,(h1.push o).objs.size=s.heap.objs.size+ls.length+1:=λo=>by rw[Heap.size_push,z1]
  have z3:∀o o',((h1.push o).push o').objs.size=s.heap.objs.size+ls.length+2:=λo o'=>by rw[Heap.size_push,z2]
  refine AH (wpAny_newTuple (s:={s with heap:=h1}) ?_ (by rw[Aa,sizeLine_eq];omega));refine AH (wpAny_newTuple ?_ (by rw[Aa,Aa,sizeLine_eq];omega));refine AH ?_;show wpAny _ _ (newObj (.type "zip") (.fields #[.none,.bool false,.bool false,.ref _,.ref _])) _ _ _;refine AM6 (AN ⟨_,rfl,?_⟩) (by show 5<=sizeLine+2;rw[sizeLine_eq];decide);show R (.ok (.ret (.ref ((h1.push _).push _).objs.size))) _;rw[z3];refine q _ (λr hr=>(e1 r hr).ext λo e=>Heap.get?_push_of_some _ (Heap.get?_push_of_some _ (Heap.get?_push_of_some _ e))) ?_ ?_ ?_ λc o e=>Heap.get?_push_of_some _ (Heap.get?_push_of_some _ (Heap.get?_push_of_some _ (k1 c o e)))
  .show Heap.get? _ _=_;rw[<-z1];exact Heap.get?_push_of_some _ (Heap.get?_push_of_some _ (Heap.get?_push_size _ rfl))
  .show Heap.get? _ _=_;rw[<-z2 {cls:=.type "tuple",data:=.seq ((Bs s.heap.objs.size ls).map λr=>Value.ref r.t).toArray}];refine Heap.get?_push_of_some _ ?_;rw[show((Bs s.heap.objs.size ls).map λ_=>Value.none)=((Bs s.heap.objs.size ls).map λr=>Value.ref r.t).map (λ_=>Value.none) by rw[CH];rfl];exact Heap.get?_push_size _ rfl
  .rw[<-z3 {cls:=.type "tuple",data:=.seq ((Bs s.heap.objs.size ls).map λr=>Value.ref r.t).toArray} {cls:=.type "tuple",data:=.seq (((Bs s.heap.objs.size ls).map λr=>Value.ref r.t).map (λ_=>Value.none)).toArray}];have:=Heap.get?_push_size ((h1.push {cls:=.type "tuple",data:=.seq ((Bs s.heap.objs.size ls).map λr=>Value.ref r.t).toArray}).push {cls:=.type "tuple",data:=.seq (((Bs s.heap.objs.size ls).map λr=>Value.ref r.t).map (λ_=>Value.none)).toArray}) (o:={cls:=.type "zip",data:=.fields #[.none,.bool false,.bool false,.ref h1.objs.size,.ref (h1.push {cls:=.type "tuple",data:=.seq ((Bs s.heap.objs.size ls).map λr=>Value.ref r.t).toArray}).objs.size]}) rfl;refine Eq.trans this ?_;rw[z2,z1]
end
abbrev FG(K:AL)(b:Bool)(H:Hp)(a:Addr)(xs:List V):Prop:=match b with|true=>Bd K H a xs|false=>BJ K H a xs
section
variable {X:Cx}{pins:List (Addr×Obj)}{Y:L2.St}{H:Hp}{s:Shared}
def FG.at(I:AI X pins Y H s){b:Bool}{a:Addr}{xs:List V}(h:FG X.K b H a xs):∃its:ANF,Ab xs its/\Dp b s.heap a its.toArray:=by
 cases b with
 |true=>obtain⟨its,rv,p,_⟩:=I.tuple h;exact⟨its,rv,p⟩
 |false=>obtain⟨its,rv,p,_⟩:=I.list h;exact⟨its,rv,p.isList⟩
def FG.inj(I:AI X pins Y H s){b:Bool}{a:Addr}{xs ys:List V}(h:FG X.K b H a xs)(h':FG X.K b H a ys):xs=ys:=by
 cases b with
 |true=>exact I.tuple_inj h h'
 |false=>exact I.list_inj h h'
end
def AAf{X:Cx}{pins:List (Addr×Obj)}{Y:L2.St}{H:Hp}{s:Shared}{h':Heap}{t':Nat}{fp:ANG}(I:AI X pins Y H s)(hf:∀b∈fp,ET X pins H b)(k:∀b o,b∉fp->s.heap.get? b=some o->h'.get? b=some o):AI X pins Y H {s with heap:=h',toks:=t'}:=by
 have nit:∀b u,H b=some u->b∉fp:=λb u e z=>by rw[(hf b z).1] at e;cases e
 refine I.step (g':=s.gens) (d':=s.drawn) (ch:=fp) (λb hb=>⟨(hf b hb).2.2.2.1,(hf b hb).2.1,(hf b hb).2.2.2.2.1,(hf b hb).2.2.2.2.2⟩) (λb o _ _ hc e _=>k b o hc e) (λb o _ _ hc e _=>⟨o.slots,k b o hc e⟩)
  (λb o _ e n=>n) (λb o hc e=>⟨o,k b o hc e⟩) (λb xs e=>e) (λb o u e=>e)
  (λb ps e=>⟨#[],by rw[e];simp⟩) (λm hm=>?_) (λb u e=>?_) I.bare
 .obtain⟨o,es,ep,ho,r⟩:=hm;exact⟨o,es,ep,k _ o (λz=>(hf _ z).2.1 rfl) ho,r⟩
 .refine(I.hok b u e).stay (λc v hc q=>k c v ?_ q) (λc q=>q) λc xs q=>q;rcases hc with z|z
  .rw[z];exact nit b u e
  .exact nit c _ z
abbrev Itz(K:AL)(zs:List Src)(n:Nat):It :=
 ⟨λi H=>(∀r∈zs,∃xs,FG K r.b H r.l xs/\n<=xs.length/\(zs.head?=some r->xs.length=n))/\i<n,
  λi H v H'=>∃T vs,H T=none/\v=.ref T/\H'=upd H T (.tup vs)/\Paired (λ(r:Src) x=>∀xs,FG K r.b H r.l xs->xs[i]?=some x) zs vs,
  λi H=>(∀r∈zs,∃xs,FG K r.b H r.l xs/\n<=xs.length/\(zs.head?=some r->xs.length=n))/\n<=i⟩
structure Yn (z TI TO:Addr) (zs:List Src):Prop where
 ne:zs≠[]
 few:zs.length<=1000
 nd:(zs.map (·.t)).Nodup
 tz:TO≠z
 iz:TI≠z
 it:TI≠TO
 ts:∀r∈zs,r.t≠z/\r.t≠TI/\r.t≠TO
 ls:∀r∈zs,r.l≠z/\r.l≠TI/\r.l≠TO/\∀q∈zs,r.l≠q.t
def AAg{P:Program}{w:World}{K:AL}{elts:ANH}{x1:Nat}{tp:Pos}{z TI TO:Addr}{zs:List Src}(n:Nat)(ap:Yn z TI TO zs) :
  HE P w K (.Tuple elts x1 tp) (Itz K zs n) (z::TI::TO::zs.map (·.t)) z (λi h=>IsZip h z TI TO .none/\EA h TI (zs.map λr=>.ref r.t)/\(∃old,EA h TO old/\old.length=zs.length)/\(∀r∈zs,Ck r.b h r.t r.l i)/\i<=n) where
 mem:=by simp
 obj:=λi h ⟨hz,hi,⟨old,ho,_⟩,hs,_⟩ b hb=>by
  rcases AX.mp hb with rfl|hb
  .exact⟨_,hz,λv q=>by cases q⟩
  .rcases AX.mp hb with rfl|hb
   .exact⟨_,hi,λv q=>by cases q⟩
   .rcases AX.mp hb with rfl|hb
    .exact⟨_,ho,λv q=>by cases q⟩
    .obtain⟨r,hr,rfl⟩:=Aq.mp hb;exact(hs r hr).obj
 keep:=λi h h' z3_ k=>by obtain⟨hz,hi,⟨old,ho,hl⟩,hs,hn⟩:=z3_;exact⟨k z (by simp) _ hz,k TI (by simp) _ hi,⟨old,k TO (by simp) _ ho,hl⟩,λr hr=>(hs r hr).ext λo e=>k r.t (by simp only[AX];exact .inr (.inr (.inr (CG hr)))) o e,hn⟩
 item:=by
  rintro X hP hw hK hc i pins s Y H E I hf ⟨hz,hi,⟨old,ho,hl⟩,hs,_⟩ ⟨hq,hlt⟩;subst hP hw hK
  -- the values
  have vals:∀l:List Src,(∀r∈l,r∈zs)->∃us vs,Paired (λ(r:Src) v=>Ck r.b s.heap r.t r.l i/\∃its,Dp r.b s.heap r.l its/\its[i]?=some v) l us/\Ab vs us/\Paired (λ(r:Src) x=>∀xs,FG X.K r.b H r.l xs->xs[i]?=some x) l vs:=by
   intro l
   induction l with
   |nil=>intro _;exact⟨[],[],.nil,.nil,.nil⟩
   |cons r l ih =>
    intro hl;obtain⟨us,vs,p1,p2,p3⟩:=ih λq hq=>hl q (BA _ hq);obtain⟨xs,sv,hn,_⟩:=hq r (hl r Az);obtain⟨its,rv,so⟩:=sv.at I;obtain⟨x,hx⟩:∃x,xs[i]?=some x:=⟨xs[i]'(by omega),by simp[show i<xs.length by omega]⟩;obtain⟨u,hu,ru⟩:=rv.get hx;exact⟨u::us,x::vs,.cons ⟨hs r (hl r Az),its.toArray,so,by simpa using hu⟩ p1,.cons ru p2,.cons (λys hy=>by rw[hy.inj I sv];exact hx) p3⟩
  obtain⟨us,vs,p1,p2,p3⟩:=vals zs λ_ h=>h;have lu:us.length=zs.length:=(Paired.length p1).symm;have lv:vs.length=zs.length:=(Paired.length p3).symm;have zl:z<s.heap.objs.size:=Heap.lt_size hz;have ty:s.TypeIs (.ref z) "zip":=⟨_,hz,rfl⟩
  have hb:∀b,b∈z::TI::TO::zs.map (·.t)->b<s.heap.objs.size:=λb hb=>by
   rcases AX.mp hb with rfl|hb
   .exact zl
   .rcases AX.mp hb with rfl|hb
    .exact Heap.lt_size hi
    .rcases AX.mp hb with rfl|hb
     .exact Heap.lt_size ho
     .obtain⟨r,hr,rfl⟩:=Aq.mp hb;obtain⟨o,e,_⟩:=(hs r hr).obj;exact Heap.lt_size e
  unfold pyNext
  refine AH (wpAny_attempt (AM5 (name:=Str.ofString "__next__") ty AMl (Fy AMl ty PySem.F.entry_zip_next (Zo (A:=X.A.in1) (R:=_) (show X.A.in1.handled=none from I.ok.hd hc) hz hi ho (by rw[hl,lu]) (by rw[hl];exact ap.few) ap.ne ap.nd ap.tz ap.iz
   (λr hr=>⟨(ap.ts r hr).2.2,(ap.ts r hr).1,(ap.ls r hr).2.2.1,(ap.ls r hr).1,(ap.ls r hr).2.2.2⟩) p1 λh1 z1 t1 i1 u1 k1=>?_) (PySem.F.args_zip_next_1 _))))
  refine AN ⟨_,rfl,wpAny_letOwnedTupleGo_zip z1 λh2 z2 b2=>?_⟩;have nz:s.heap.objs.size≠z:=Fa zl;have ht2:EA h2 s.heap.objs.size us:=b2.extBut _ _ nz u1
  have new:CB X.prog X.w (upd H s.heap.objs.size (.tup vs)) h2 s.heap.objs.size (.tup vs) :=
   ⟨by rw[lv,sizeLine_eq];exact CV ap.few (by decide),us,p2,⟨_,ht2,rfl,_,rfl⟩⟩
  have tn2:IsZip h2 z TI TO .none/\EA h2 TI (zs.map λr=>.ref r.t)/\(∃old,EA h2 TO old/\old.length=zs.length)/\(∀r∈zs,Ck r.b h2 r.t r.l (i+1))/\i+1<=n:=by refine⟨z2,b2.extBut _ _ ap.iz (k1 _ _ ap.iz ap.it (λhm=>?_) hi),⟨us,b2.extBut _ _ ap.tz t1,lu⟩,λr hr=>(i1 r hr).ext λo e=>b2.extBut _ _ (ap.ts r hr).1 e,hlt⟩;obtain⟨r,hr,e⟩:=Aq.mp hm;exact(ap.ts r hr).2.1 e
  have I1:=Mu (t':=s.toks) (h':=h2) I hf (λb o hb q=>by
    simp only[AX,not_or] at hb
    exact b2.extBut _ _ hb.1 (k1 b o hb.1 hb.2.2.1 hb.2.2.2 q)) (Af _) (λq=>absurd (hb _ q) (ALd _)) (λb hb=>by
    rcases AX.mp hb with rfl|hb
    .exact⟨_,tn2.1⟩
    .rcases AX.mp hb with rfl|hb
     .exact⟨_,tn2.2.1⟩
     .rcases AX.mp hb with rfl|hb
      .obtain⟨old,q,_⟩:=tn2.2.2.1;exact⟨_,q⟩
      .obtain⟨r,hr,rfl⟩:=Aq.mp hb;obtain⟨o,e,_⟩:=(tn2.2.2.2.1 r hr).obj
       exact⟨o,e⟩) new
  exact⟨.ref s.heap.objs.size,_,I1,rfl,⟨s.heap.objs.size,vs,I.hok.fresh (Af _),rfl,rfl,p3⟩,tn2,λb h'=>by rw[BU (BV (hb b h'))];exact(hf b h').1⟩
 done:=by
  rintro X hP hw hK hc i pins s Y H E I hf ⟨hz,hi,⟨old,ho,hl⟩,hs,_⟩ ⟨hq,hlt⟩;subst hP hw hK;have ty:s.TypeIs (.ref z) "zip":=⟨_,hz,rfl⟩
  cases zs with
  |nil=>exact absurd rfl ap.ne
  |cons r0 zs =>
   obtain⟨xs,sv,_,hn⟩:=hq r0 Az;have hn:=hn rfl;obtain⟨its,rv,so⟩:=sv.at I;have m1:r0.t∈z::TI::TO::(r0::zs).map (·.t):=by simp
   unfold pyNext
   refine AH (wpAny_attempt (AM5 (name:=Str.ofString "__next__") ty AMl (Fy AMl ty PySem.F.entry_zip_next (Zn (A:=X.A.in1) (show X.A.in1.handled=none from I.ok.hd hc) hz hi (ap.ts r0 Az).1 (ap.ls r0 Az).1 (hs r0 Az) so
    (by rw[List.getElem?_toArray,AMv,<-rv.length];omega) λh' e k ⟨o,g,c⟩=>?_) (PySem.F.args_zip_next_1 _))))
   refine AH (wpAny_isInstance (T:="StopIteration") (b:=true) ⟨o,g,c⟩ isSubtype_stop (AN ⟨rfl,?_⟩))
   have I1:=AAf (t':=s.toks) (h':=h') (fp:=[z,r0.t]) I (λb hb=>hf b (by
    rcases AX.mp hb with rfl|hb
    .simp
    .rw[Dt.mp hb];exact m1)) λb o hb q=>k b o (λe=>hb (by simp[e])) (λe=>hb (by simp[e])) q
   exact I1
 self:=λA i s Q E z5_ h=>by obtain⟨hz,_⟩:=z5_;exact wpAny_pyIter_zip hz h
abbrev seqs:List D->AC->Option (List (List D))
 |[],_=>some []
 |d::r,L=>(Cg d L).bind λys=>(seqs r L).map (ys::·)
abbrev EJ(n:Nat)(yss:List (List D)):List D:=(List.range n).map λi=>.tup (yss.map λys=>ys[i]?.getD .non)
abbrev HV(n:Nat)(fa:AF):IF:=λZ L=>(fa Z L).bind λx=>match seqs x.1 x.2 with
 |some (ys::yss)=>if (yss.all λzs=>decide (ys.length<=zs.length))=true/\yss.length<100/\yss.length+1=n then some (⟨EJ ys.length (ys::yss),λL'=>decide (seqs x.1 L'=some (ys::yss))⟩,x.2) else none
 |_=>none
abbrev kindD:D->Bool
 |.tup _=>true
 |_=>false
def VS{K:AL}{H:Hp}{O:ANG}{L:AC}{v:V}{d:D}{xs:List D}(rs:Ap K H O L)(h:Is K H O v d)(e:Cg d L=some xs):∃a vs,v=.ref a/\FG K (kindD d) H a vs/\AR K H O vs xs:=by
 cases h with
 |tup hq il=>cases e;exact⟨_,_,rfl,hq,il⟩
 |fz hq il=>cases e;exact⟨_,_,rfl,hq.sql,il⟩
 |ref hk =>
  simp only[Cg] at e;split at e
  .rename_i ys e2;cases e;obtain⟨vs,hv,iv⟩:=rs.ob _ _ _ hk e2;exact⟨_,vs,rfl,BJ.of hv,iv⟩
  .cases e
 |_=>cases e
inductive FF (K:AL) (H:Hp) (O:ANG):List D->List (List D)->List (Bool×Addr)->Prop
 |nil:FF K H O [] [] []
 |cons {d:D} {ys:List D} {a:Addr} {vs:List V} {ds yss ls}:Is K H O (.ref a) d->FG K (kindD d) H a vs->AR K H O vs ys->FF K H O ds yss ls->FF K H O (d::ds) (ys::yss) ((kindD d,a)::ls)
def ABT{K:AL}{H:Hp}{O:ANG}{L:AC}(rs:Ap K H O L):∀{ds:List D} {yss:List (List D)} {vs:List V},AR K H O vs ds->seqs ds L=some yss->∃ls,FF K H O ds yss ls/\vs=ls.map λp=>.ref p.2:=by
 intro ds yss vs h e
 induction ds generalizing yss vs with
 |nil=>cases h;cases e;exact⟨[],.nil,rfl⟩
 |cons d ds ih =>
  cases h with|cons i r =>
  unfold seqs at e;obtain⟨ys,e1,e2⟩:=ALl.mp e;obtain⟨yss,e3,rfl⟩:=Gj.mp e2;obtain⟨ls,h1,rfl⟩:=ih r e3;obtain⟨a,vs,rfl,h2,h3⟩:=VS rs i e1;exact⟨(kindD d,a)::ls,.cons i h2 h3 h1,rfl⟩
def FF.again{K:AL}{H H':Hp}{O O':ANG}{L':AC}(st:Al H O H' O')(rs:Ap K H' O' L'){ds:List D}{yss yss':List (List D)}{ls:List (Bool×Addr)}(h:FF K H O ds yss ls)(e:seqs ds L'=some yss'):FF K H' O' ds yss' ls:=by
 induction h generalizing yss' with
 |nil=>cases e;exact .nil
 |@cons d ys a vs ds yss ls i _ _ _ ih =>
  unfold seqs at e;obtain⟨zs,e1,e2⟩:=ALl.mp e;obtain⟨zss,e3,rfl⟩:=Gj.mp e2;obtain⟨a',vs',ea,h2,h3⟩:=VS rs (i.mono st) e1;cases ea;exact .cons (i.mono st) h2 h3 (ih e3)
def FF.len{K:AL}{H:Hp}{O:ANG}{ds:List D}{yss:List (List D)}{ls:List (Bool×Addr)}(h:FF K H O ds yss ls):ls.length=yss.length/\ds.length=yss.length:=by
 induction h with
 |nil=>exact⟨rfl,rfl⟩
 |cons _ _ _ _ ih=>simp[ih.1,ih.2]
def FF.seq{K:AL}{H:Hp}{O:ANG}{ds:List D}{yss:List (List D)}{ls:List (Bool×Addr)}(h:FF K H O ds yss ls):∀p∈ls,∃vs ys,ys∈yss/\FG K p.1 H p.2 vs/\AR K H O vs ys:=by
 induction h with
 |nil=>intro p hp;cases hp
 |@cons d ys a vs ds yss ls i s1 s2 _ ih =>
  intro p hp;rcases AX.mp hp with e|hp
  .subst e;exact⟨vs,ys,Az,s1,s2⟩
  .obtain⟨vs',ys',h1,h2⟩:=ih p hp;exact⟨vs',ys',BA _ h1,h2⟩
def FF.tup{K:AL}{H:Hp}{O:ANG}{ds:List D}{yss:List (List D)}{ls:List (Bool×Addr)}(h:FF K H O ds yss ls){i n:Nat}(hn:∀ys∈yss,n<=ys.length)(hi:i<n):∀{zs:List Src} {vs:List V},zs.map (λr=>(r.b,r.l))=ls ->
  Paired (λ(r:Src) x=>∀xs,FG K r.b H r.l xs->xs[i]?=some x) zs vs->AR K H O vs (yss.map λys=>ys[i]?.getD .non):=by
 induction h with
 |nil=>intro zs vs e p;cases zs with|nil=>cases p;exact .nil|cons=>simp at e
 |@cons d ys a us ds yss ls _ s1 s2 _ ih =>
  intro zs vs e p
  cases zs with
  |nil=>simp at e
  |cons r zs =>
   simp only[Aj,List.cons.injEq,Prod.mk.injEq] at e;obtain⟨⟨eb,el⟩,e2⟩:=e
   cases p with
   |@cons _ x _ vs hx p2 =>
    have hy:n<=ys.length:=hn ys Az;have hx':=hx us (by rw[eb,el];exact s1);obtain⟨v,hv,iv⟩:=s2.get (i:=i) (d:=ys[i]'(by omega)) (by simp[show i<ys.length by omega]);rw[hx'] at hv;cases hv;rw[Aj,show ys[i]?.getD .non=ys[i]'(by omega) by simp[show i<ys.length by omega]];exact .cons iv (ih (λzs hz=>hn zs (BA _ hz)) e2 p2)
def Tu(n:Nat)(yss:List (List D))(i:Nat):(EJ n yss)[i]?=if i<n then some (.tup (yss.map λys=>ys[i]?.getD .non)) else none:=by
 unfold EJ;rw[Ar]
 by_cases h:i<n
 .rw[if_pos h,AL3 h];rfl
 .rw[if_neg h,ALn (by simpa using h)];rfl
structure Sg (n:Nat):Prop where
 ty:∀us:ANF,us.length=n->checkTypeCall "zip" ⟨us,[]⟩=pure ()
 new:∀us:ANF,us.length=n->checkBuiltinCall "zip.__new__" ⟨.type "zip"::us,[]⟩=pure ()
 init:∀(o:Value) (us:ANF),us.length=n->argsOk "object.__init__" ⟨o::us,[]⟩
def AHi:Sg 2:=⟨λus h=>by obtain⟨a,b,rfl⟩:=JI h;exact PySem.F.typeCall_zip_2 a b,λus h=>by obtain⟨a,b,rfl⟩:=JI h;exact PySem.F.newCall_zip_2 a b,λo us h=>by obtain⟨a,b,rfl⟩:=JI h;exact PySem.F.args_object_init_3 o a b⟩
def AHh:Sg 3:=⟨λus h=>by obtain⟨a,b,c,rfl⟩:=Hn h;kernel_rfl,λus h=>by obtain⟨a,b,c,rfl⟩:=Hn h;kernel_rfl,λo us h=>by
 obtain⟨a,b,c,rfl⟩:=Hn h;unfold argsOk;rw[PySem.signature?_of (id:="object.__init__") (n:=['_','_','t','i','n','i','_','_']) (o:=['t','c','e','j','b','o']) (by kernel_rfl) PySem.F.owner_object]
 kernel_rfl⟩
section
variable {X:Cx}{elts:ANH}{x1:Nat}{tp p pos:Pos}{e:Expr}{es:ANH}{fa:AF}
def AI4{n:Nat}(zn:Sg n)(hm:X.mg "zip"=none)(ha:ES X (e::es) fa)(hg:Gl X "zip":=by rfl)(hs:Ea e=true:=by rfl)(hplain:es.all Ea=true:=by rfl):EC X (.Tuple elts x1 tp) (.Call (.Name "zip" p) (e::es) [] pos) (HV n fa):=by
 rintro pins s Y H R I ⟨O,Z,L,J,L',r,ee,k⟩;unfold HV at ee;obtain⟨q,e1,ee⟩:=bS ee;obtain⟨ds,L1⟩:=q;simp only[AT] at ee;split at ee
 .rename_i ys yss e2;split at ee
  .rename_i hall;simp only[Option.some.injEq,Prod.mk.injEq] at ee;obtain⟨hJ,hL⟩:=ee;subst hL;refine Call_ (Gx I hg hm (u:=.type "zip") (by decide +kernel) (PyProof.Rows.callWith_type1 (Ae (ha pos pins s Y H (λvs H1=>∃O1 ls,Al H O H1 O1/\Ap X.K H1 O1 L1/\FF X.K H1 O1 ds (ys::yss) ls/\vs=ls.map λp=>.ref p.2) I ⟨O,Z,L,_,_,r,e1,λvs H1 O1 st rs is=>?_⟩) λus s1 ⟨vs,H1,I1,r1,O1,ls,st,rs,sr,ev⟩=>?_) (HM hs) (IK hplain)))
   .obtain⟨ls,h1,h2⟩:=ABT rs is e2;exact⟨O1,ls,st,rs,h1,h2⟩
   .obtain⟨hall,hfew,hn⟩:=hall
    have eu:us=ls.map λp=>Value.ref p.2:=by
     subst ev
     have go:∀{ls:List (Bool×Addr)} {us:ANF},Ab (ls.map λp=>V.ref p.2) us->us=ls.map λp=>Value.ref p.2:=by
      intro ls
      induction ls with
      |nil=>intro us h;cases h;rfl
      |cons p ls ih=>intro us h;cases h with|cons h1 h2=>cases h1;rw[ih h2];rfl
     exact go r1
    have ll:ls.length=n:=by rw[sr.len.1,Dd];exact hn
    have ul:us.length=n:=by rw[eu,Aa,ll]
    have lenY:∀zs∈ys::yss,ys.length<=zs.length:=λzs hz=>by
     rcases AX.mp hz with e|hz
     .rw[e];exact Af _
     .exact of_decide_eq_true (Bu.mp hall zs hz)
    subst eu;refine callType_newIn PySem.F.called_zip (by decide) (zn.ty _ ul) (zn.new _ ul) (λo=>zn.init o _ ul) PySem.F.entry_zip_new (AEV ls (by omega)) ⟨λp hp=>?_,λh' si ti to iz kk=>?_⟩
    .obtain⟨vs',ys',_,sv,_⟩:=sr.seq p hp;obtain⟨its,_,so⟩:=sv.at I1;exact⟨_,so⟩
    .refine⟨⟨_,iz,rfl⟩,wpAny_pyIter_zip iz ?_⟩;have I2:AI X pins Y H1 {s1 with heap:=h'}:=I1.kept (t':=s1.toks) kk
     have lt:∀p∈ls,p.2<s1.heap.objs.size:=λp hp=>by
      obtain⟨vs',ys',_,sv,_⟩:=sr.seq p hp;obtain⟨its,_,so⟩:=sv.at I1
      have:∃o,s1.heap.get? p.2=some o:=by
       revert so
       cases p.1 with
       |true=>rintro⟨o,g,_⟩;exact⟨o,g⟩
       |false=>rintro⟨o,g,_⟩;exact⟨o,g⟩
      obtain⟨o,g⟩:=this;exact Heap.lt_size g
     have lr:∀r∈Bs s1.heap.objs.size ls,r.l<s1.heap.objs.size:=λr hr=>by
      have:(r.b,r.l)∈ls:=by rw[<-Kj ls s1.heap.objs.size];exact CG (f:=λr:Src=>(r.b,r.l)) hr
      exact lt _ this
     have ap:Yn (s1.heap.objs.size+ls.length+2) (s1.heap.objs.size+ls.length) (s1.heap.objs.size+ls.length+1) (Bs s1.heap.objs.size ls):=by
      refine⟨λh=>?_,by rw[Mz];omega,VH _ _,by simp,by simp,by simp,λr hr=>?_,λr hr=>?_⟩
      .have:=congrArg List.length h;rw[Mz,sr.len.1] at this;simp at this
      .have h1:=(Ki _ _ r hr).2;exact⟨BV (DE h1 (ALs _ 2)),BV h1,BV (DE h1 (ALs _ 1))⟩
      .have h1:=lr r hr;refine⟨BV (DE h1 (by rw[ALw];exact ALs _ _)),BV (DE h1 (ALs _ _)),BV (DE h1 (by rw[ALw];exact ALs _ _)),λq hq=>BV (DE h1 (Ki _ _ q hq).1)⟩
     have big:∀b∈(s1.heap.objs.size+ls.length+2)::(s1.heap.objs.size+ls.length)::(s1.heap.objs.size+ls.length+1)::(Bs s1.heap.objs.size ls).map (·.t),s1.heap.objs.size<=b:=λb hb=>by
      rcases AX.mp hb with rfl|hb
      .rw[ALw];exact ALs _ _
      .rcases AX.mp hb with rfl|hb
       .exact ALs _ _
       .rcases AX.mp hb with rfl|hb
        .rw[ALw];exact ALs _ _
        .obtain⟨r,hr,rfl⟩:=Aq.mp hb;exact(Ki _ _ r hr).1
     refine⟨_,_,_,_,H1,rfl,I2,AAg ys.length ap,⟨iz,ti,⟨_,to,by rw[Aa]⟩,si,EH _⟩,λb hb=>I1.fpOk (big b hb) (I1.hok.fresh (big b hb)),k _ H1 O1 st rs λi H2 O2 L2 st2 rs2 ok=>?_⟩;rw[<-hJ] at ok ⊢;have sr2:=sr.again st2 rs2 (of_decide_eq_true ok)
     have all2:∀r∈Bs s1.heap.objs.size ls,∃xs,FG X.K r.b H2 r.l xs/\ys.length<=xs.length/\((Bs s1.heap.objs.size ls).head?=some r->xs.length=ys.length):=λr hr=>by
      by_cases h0:(Bs s1.heap.objs.size ls).head?=some r
      .have h1:=congrArg List.head? (Kj ls s1.heap.objs.size);rw[List.head?_map,h0] at h1
       cases sr2 with
       |@cons d ys a vs' ds yss ls i s1' s2' _ =>
        have h1:(r.b,r.l)=(kindD d,a):=Option.some.inj h1;rw[Prod.mk.injEq] at h1;rw[h1.1,h1.2];exact⟨vs',s1',ALe s2'.length.symm,λ_=>s2'.length⟩
      have hm:(r.b,r.l)∈ls:=by rw[<-Kj ls s1.heap.objs.size];exact CG (f:=λr:Src=>(r.b,r.l)) hr
      obtain⟨vs',ys',hy,sv,il⟩:=sr2.seq _ hm;exact⟨vs',sv,by rw[il.length];exact lenY ys' hy,λz=>absurd z h0⟩
     refine⟨λd hd=>?_,λh=>⟨all2,by simpa[EJ] using h⟩⟩;simp only at hd;rw[Tu] at hd;split at hd
     .rename_i hi;cases hd;refine⟨⟨all2,hi⟩,λx H' z2_=>?_⟩;obtain⟨T,vs',hT,ex,eH,p3⟩:=z2_;subst ex eH;have st3:Al H2 O2 (upd H2 T (.tup vs')) O2:=⟨.new hT,AW _⟩;exact⟨st3,rs2.ext λb u q=>by rw[BU (DT q hT)];exact q,.tup (Bd.of CI) ((sr2.tup lenY hi (Kj _ _) p3).mono st3)⟩
     .cases hd
  .cases ee
 .cases ee
end
section
variable {X:Cx}
abbrev Nn:GM:=λx xs L=>match x,xs with
 |.str a,[.str b]=>some (.bl (Txt.startswith a b),L)
 |_,_=>none
def AJY:MtD X "str.startswith" Nn:=λpins s Y H x xs v us Q I rx rv z12_=>by
 obtain⟨O,L,dx,dxs,d,L',rp,ix,ixs,e,k⟩:=z12_;unfold Nn at e;split at e
 .rename_i a b;cases e;cases ix
  cases ixs with|cons i1 i2 =>
   cases i2;cases i1;obtain⟨t,rfl⟩:=(show ∃t,v=Value.str a t from rx);obtain⟨u,rfl,ry⟩:=Dk rv;obtain⟨t',rfl⟩:=(show ∃t',u=Value.str b t' from ry);exact SC.startswith ⟨.bl (Txt.startswith a b),H,I,rfl,k _ _ _ (.refl _ _) rp (.bl _)⟩
 .cases e
def ALF:bootBuiltins "sorted"=some (.builtin "sorted"):=PyProof.Rows.boot_sorted
end
open PySem.W (KasT kas_sort kas_ask kas_rev kas_asc kas_desc kas_tail3 kas_descPart kas_count kas_place kas_bin)
abbrev kEval{U:Type}(c:Nat->Nat->Bool):KasT U->U
 |.ret a=>a
 |.ask i j k=>kEval c (k (c i j))
abbrev Cc{U:Type}(n:Nat)(R:U->Prop):KasT U->Prop
 |.ret a=>R a
 |.ask i j k=>i<n/\j<n/\∀b,Cc n R (k b)
def Cc.eval{U:Type}{n:Nat}{R:U->Prop}(c:Nat->Nat->Bool):∀{t:KasT U},Cc n R t->R (kEval c t)
 |.ret _,h=>h
 |.ask i j k,h=>Cc.eval c (t:=k (c i j)) (h.2.2 (c i j))
def Cc.bind{U β:Type}{n:Nat}{R:U->Prop}{S:β->Prop}{f:U->KasT β}:∀{t:KasT U},Cc n R t->(∀a,R a->Cc n S (f a))->Cc n S (t.bind f)
 |.ret a,h,g=>g a h
 |.ask i j k,h,g=>⟨h.1,h.2.1,λb=>Cc.bind (t:=k b) (h.2.2 b) g⟩
def Cc.wp{U:Type}{n:Nat}{R:U->Prop}{cmp:Nat->Nat->(Bool->Shared->Prop)->Shared->Prop}{c:Nat->Nat->Bool}{Q:U->Shared->Prop}{s:Shared}
  (hc:∀i j C,i<n->j<n->C (c i j) s->cmp i j C s):∀{t:KasT U},Cc n R t->Q (kEval c t) s->t.kasWp cmp Q s
 |.ret _,_,q=>q
 |.ask i j k,h,q=>hc i j _ h.1 h.2.1 (Cc.wp hc (t:=k (c i j)) (h.2.2 (c i j)) q)
abbrev Pm(n:Nat)(p:Array Nat):Prop:=p.toList.Perm (List.range n)
section
variable {n:Nat}{p:Array Nat}
def Pm.lt(h:Pm n p)(h0:0<n)(k:Nat):p.getD k 0<n:=by
 by_cases hk:k<p.size
 .have e:p.getD k 0=p[k]:=by simp[Array.getD,hk]
  rw[e];exact CM.mp (h.mem_iff.mp (by simp))
 .simp[Array.getD,hk];exact h0
def Pm.rev(h:Pm n p)(i j:Nat):Pm n (kas_rev p i j):=(Array.perm_iff_toList_perm.mp (mirror_perm p i j ((j-i) / 2))).trans h
def Pm.bub(h:Pm n p)(i j:Nat):Pm n (bubble p i j):=(Array.perm_iff_toList_perm.mp (bubble_perm p i j)).trans h
def SY(h:Pm n p)(h0:0<n):∀f m,Cc n (λ_=>True) (kas_asc p f m)
 |0,_=>trivial
 |f+1,m=>⟨h.lt h0 _,h.lt h0 _,λb=>by
  cases b
  .exact SY h h0 f (m+1)
  .trivial⟩
def Nw(h0:0<n):∀f (p:Array Nat) m q,Pm n p->Cc n (λr=>Pm n r.1) (kas_desc f p m q)
 |0,_,_,_,h=>h
 |f+1,p,m,q,h=>⟨h.lt h0 _,h.lt h0 _,λb=>by
  cases b
  .refine⟨h.lt h0 _,h.lt h0 _,λd=>?_⟩;cases d
   .exact Nw h0 f p (m+1) (q+1) h
   .exact h
  .show Cc n _ (if q>0 then _ else _)
   by_cases hq:q>0
   .rw[if_pos hq];exact Nw h0 f _ (m+1) 0 (h.rev _ _)
   .rw[if_neg hq];exact Nw h0 f p (m+1) 0 h⟩
def Uj(h:Pm n p)(h0:0<n)(a b:Nat):Cc n (λr=>Pm n r.2) (kas_tail3 a b p) :=
 Cc.bind (SY (h.rev 0 a) h0 _ _) λ_ _=>h.rev 0 a
def Vs(h:Pm n p)(h0:0<n)(a b:Nat):Cc n (λr=>Pm n r.2) (kas_descPart a b p) :=
 Cc.bind (Nw h0 _ p _ _ h) λr hr=>by
  by_cases hq:r.2.2>0
  .rw[if_pos hq];exact Uj (hr.rev _ _) h0 _ _
  .rw[if_neg hq];exact Uj hr h0 _ _
def AGf(h:Pm n p)(h0:0<n)(b:Nat):Cc n (λr=>Pm n r.2) (kas_count b p) :=
 Cc.bind (SY h h0 _ _) λr _=>by
  by_cases hq:(r == b)=true
  .rw[if_pos hq];exact h
  .rw[if_neg hq]
   by_cases h1:r>1
   .rw[if_pos h1];refine⟨h.lt h0 _,h.lt h0 _,λc=>?_⟩;cases c
    .exact Vs (h.rev _ _) h0 _ _
    .exact h
   .rw[if_neg h1];exact Vs h h0 _ _
def RJ(h:Pm n p)(h0:0<n)(k:Nat):∀f l r,Cc n (λ_=>True) (kas_place p k f l r)
 |0,_,_=>trivial
 |f+1,l,r=>by
  unfold kas_place
  by_cases hq:l ≥ r
  .rw[if_pos hq];trivial
  .rw[if_neg hq];refine⟨h.lt h0 _,h.lt h0 _,λc=>?_⟩;cases c
   .exact RJ h h0 k f _ _
   .exact RJ h h0 k f _ _
def YW(h0:0<n):∀f (p:Array Nat) k,Pm n p->Cc n (Pm n) (kas_bin f p k)
 |0,_,_,h=>h
 |f+1,p,k,h=>Cc.bind (RJ h h0 k _ _ _) λl _=>YW h0 f _ (k+1) (h.bub _ _)
def VL(h0:0<n):Cc n (Pm n) (kas_sort n) :=
 Cc.bind (AGf (p:=(List.range n).toArray) (List.Perm.refl _) h0 n) λr hr=>by
  by_cases hq:r.1<n
  .rw[if_pos hq];exact YW h0 _ _ _ hr
  .rw[if_neg hq];exact hr
end
abbrev My(a b:Str):Bool:=decide (a.cps.toList<b.cps.toList)
abbrev Qs:D->Str
 |.str a=>a
 |_=>""
abbrev NZ:D->List D
 |.tup xs=>xs
 |_=>[]
abbrev NH(d:D):Str×Str:=(Qs ((NZ d).headD .non),Qs ((NZ d).tail.headD .non))
abbrev ltS(p q:Str×Str):Bool:=if p.1=q.1 then (if p.2=q.2 then false else My p.2 q.2) else My p.1 q.1
abbrev ltP(x y:D):Bool:=ltS (NH x) (NH y)
abbrev isPr(d:D):Bool:=decide (d=.tup [.str (NH d).1,.str (NH d).2])
def ACq{x:D}(h:isPr x=true):∃a b,x=.tup [.str a,.str b]:=⟨_,_,of_decide_eq_true h⟩
abbrev Cr(ds:List D):ANJ:=if ds.length<2 then List.range ds.length else (kEval (λi j=>ltP (ds.getD i .non) (ds.getD j .non)) (kas_sort ds.length)).toList
abbrev sortP(ds:List D):List D:=(Cr ds).map λi=>ds.getD i .non
def Kq(ds:List D):(Cr ds).Perm (List.range ds.length):=by
 unfold Cr
 by_cases h:ds.length<2
 .rw[if_pos h]
 .rw[if_neg h];exact(VL (n:=ds.length) (by omega)).eval _
def VZ{U:Type}(x:U)(xs:List U):((List.range xs.length).map λi=>xs.getD i x)=xs:=by
 apply AMH;intro i;rw[Ar]
 by_cases h:i<xs.length
 .simp[h]
 .simp[h]
abbrev LA:GL:=λxs L=>match xs with
 |[.ref k]=>(match L[k]? with|some (.lst ds)=>if (ds.all isPr&&decide (ds.length<64))=true then some (.ref L.length,L++[.lst (sortP ds)]) else none|_=>none)
 |_=>none
abbrev Ge(h:Heap)(v:Value)(d:D):Prop:=∃(x:Addr) (a b:Str) (t u:Tok),v=.ref x/\IsTup h x #[.str a t,.str b u]/\d=.tup [.str a,.str b]
section
variable {prog:Program}{w:World}{A:Around}{E:ANL}{s:Shared}
def ACo{v v':Value}{d d':D}{Q:Bool->Shared->Prop}(h1:Ge s.heap v d)(h2:Ge s.heap v' d')(q:Q (ltP d d') s):wpAny (model prog w) A (keyLt' (tuples' true) v v') Q E s:=by
 obtain⟨x,a,b,t,u,rfl,⟨o,e,_,n,k⟩,rfl⟩:=h1;obtain⟨y,c,d,t',u',rfl,⟨o',e',_,n',k'⟩,rfl⟩:=h2;refine PySem.W.kat_lt e k e' k' ?_;show PySem.W.KatLex prog w A true _ Q [(Value.str a t,Value.str c t'),(Value.str b u,Value.str d u')] 0 s
 have q':Q (if a=c then (if b=d then false else My b d) else My a c) s:=q
 refine PySem.W.kat_cons (wpAny_eqBool_str ?_)
 by_cases hac:a=c
 .rw[decide_eq_true hac];rw[if_pos hac] at q';refine PySem.W.kat_yes (PySem.W.kat_cons (wpAny_eqBool_str ?_))
  by_cases hbd:b=d
  .rw[decide_eq_true hbd];rw[if_pos hbd] at q';exact PySem.W.kat_yes (PySem.W.kat_nil q')
  .rw[decide_eq_false hbd];rw[if_neg hbd] at q';exact PySem.W.kat_no (PySem.W.kat_one _ _ (lt_str q'))
 .rw[decide_eq_false hac];rw[if_neg hac] at q';exact PySem.W.kat_no (oneLt_str q')
def Vh{h:Heap}:∀{vs:ANF} {ds:List D},Paired (Ge h) vs ds->∃fs,PySem.W.KatTups h vs fs/\fs.length=vs.length/\∀f∈fs,∃a t,f=Value.str a t
 |_,_,.nil=>⟨[],trivial,rfl,λ_ z=>nomatch z⟩
 |_,_,.cons r t=>by
  obtain⟨x,a,b,tk,u,rfl,⟨o,e,c,n,k⟩,rfl⟩:=r;obtain⟨fs,h1,h2,h3⟩:=Vh t;refine⟨Value.str a tk::fs,PySem.W.KatTups.cons e c k rfl h1,by simp[h2],λf hf=>?_⟩;rcases AX.mp hf with rfl|hf
  .exact⟨_,_,rfl⟩
  .exact h3 f hf
def ACp{vs:ANF}{ds:List D}{Q:SortKind->Shared->Prop}(r:Paired (Ge s.heap) vs ds)(h0:0<vs.length)(q:Q (tuples' true) s):wpAny (model prog w) A (keyKind' vs.toArray) Q E s:=by obtain⟨fs,h1,h2,h3⟩:=Vh r;refine PySem.W.kat_kind (T:=Value.type "str") h1 (by omega) (λv hv=>?_) rfl q;obtain⟨a,t,rfl⟩:=h3 v hv;exact .now
def RR{U β:Type}{R:U->β->Prop}{xs:List U}{ys:List β}(r:Paired R xs ys)(a:U)(b:β):∀i,i<xs.length->R (xs.getD i a) (ys.getD i b):=by
 induction r with
 |nil=>intro i h;cases h
 |cons h t ih =>
  intro i hi
  cases i with
  |zero=>exact h
  |succ i=>exact ih i (by simpa using hi)
def RP{U β:Type}{R:U->β->Prop}{xs:List U}{ys:List β}(r:Paired R xs ys)(a:U)(b:β):∀{p:ANJ},(∀i∈p,i<xs.length)->Paired R (p.map λi=>xs.getD i a) (p.map λi=>ys.getD i b)
 |[],_=>.nil
 |i::p,h=>.cons (RR r a b i (h i Az)) (RP r a b λj hj=>h j (BA _ hj))
def ABY{a:Addr}{vs:ANF}{ds:List D}{n:Nat}{P:PySem.Fin->Shared->Prop}(ho:s.heap.get? a=some (seqObj "list" vs.toArray n))(r:Paired (Ge s.heap) vs ds)(h64:vs.length<64)
  (h:P (.done (.ret .none)) {s with heap:=sortedHeap s.heap a vs ((Cr ds).map λi=>vs.getD i Value.none).toArray}):wpAny (model prog w) A (Builtin.«list.sort» ⟨[.ref a],[]⟩) P E s:=by
 have ha:=Heap.lt_size ho;have hlen:vs.length=ds.length:=Paired.length r;obtain⟨e1,ho1⟩:∃e1,(s.heap.update a (Obj.mapSeq λ_=>#[])).get? a=some (seqObj "list" #[] e1):=⟨_,get?_update_seq ho λ_=>#[]⟩;generalize hH:((s.heap.update a (Obj.mapSeq λ_=>#[])).push (seqObj "tuple" vs.toArray 0)).push (seqObj "list" #[] 0)=H3
 have kept:∀b o,b≠a->s.heap.get? b=some o->H3.get? b=some o:=λb o hb e=>by
  have hlt:=Heap.lt_size e;rw[<-hH,Heap.get?_push_ne _ _ _ (by rw[size_push',Heap.size_update];exact BV (AMP hlt)),Heap.get?_push_ne _ _ _ (by rw[Heap.size_update];exact BV hlt),Heap.get?_update_ne _ _ _ _ hb];exact e
 have at3:H3.get? a=some (seqObj "list" #[] e1):=by rw[<-hH,Heap.get?_push_ne _ _ _ (by rw[size_push',Heap.size_update];exact BV (AMP ha)),Heap.get?_push_ne _ _ _ (by rw[Heap.size_update];exact BV ha)];exact ho1
 have stays:∀{v d},Ge s.heap v d->Ge H3 v d:=λ{v d} ⟨x,p,q,t,u,e0,⟨o,e,c,r⟩,z⟩=>⟨x,p,q,t,u,e0,⟨o,kept x o (λhx=>by rw[hx,ho] at e;cases e;have c2:Value.type "list"=Value.type "tuple":=c;exact absurd c2 (by decide)) e,c,r⟩,z⟩
 have r3:Paired (Ge H3) vs ds:=by
  clear h ho hlen h64 hH kept at3 ha ho1
  induction r with
  |nil=>exact .nil
  |cons q t ih=>exact .cons (stays q) ih
 have hout:H3.update a (Obj.mapSeq λ_=>((Cr ds).map λi=>vs.getD i Value.none).toArray)=sortedHeap s.heap a vs ((Cr ds).map λi=>vs.getD i Value.none).toArray:=by rw[<-hH];rfl
 have hol:(Cr ds).length=vs.length:=by rw[(Kq ds).length_eq,AMm,hlen]
 rw[list_sort_plain];refine AH (listItems_at ho rfl (AH (listUpdate_at ho rfl ?_ (by rw[Be,sizeLine_eq];omega) (EH _))));refine AH (seqEpoch_at ho1 rfl (AH (wpAny_newTuple ?_ (by show vs.length<=_;rw[sizeLine_eq];omega))));refine AH (wpAny_newList (DZ ?_) (EH _))
 have hgo:∀(st:SortSt),(arrOf st).map (·.2)=((Cr ds).map λi=>vs.getD i Value.none).toArray->failedOf st=none->wpAny (model prog w) A (do
   let touched:=(<-seqEpoch a) != e1
   Builtin.List.listUpdate (.ref a) λ_=>(arrOf st).map (·.2)
   if let some e:=failedOf st then rule "list.sort.comparison-raised";throw e
   if touched then rule "list.sort.modified";raiseError "ValueError" "list modified during sort"
   ret .none) P E {s with heap:=H3}:=λst hst hf=>by
  rw[hst,hf];refine AH (seqEpoch_at at3 rfl (AH (listUpdate_at at3 rfl ?_ (EH _) (by rw[Be,Aa,hol,sizeLine_eq];omega))));simp only[bne_self_eq_false,AL5,if_false];rw[hout];exact AN h
 show wpAny (model prog w) A _ P E {s with heap:=((s.heap.update a (Obj.mapSeq λ_=>#[])).push (seqObj "tuple" vs.toArray 0)).push (seqObj "list" #[] 0)};rw[hH]
 by_cases h2:vs.length<2
 .have h2':vs.toArray.size<2:=by simpa using h2
  dsimp only;rw[if_pos h2',if_pos h2'];refine AH (AN ?_);rw[StateT.run_pure];refine AH (AN ?_);refine hgo _ ?_ rfl;have e0:Cr ds=List.range vs.length:=by unfold Cr;rw[if_pos (by omega),hlen]
  rw[e0,VZ];apply Array.toList_inj.mp;show((vs.toArray.zip vs.toArray).map (·.2)).toList=vs;rw[Array.toList_map,Array.toList_zip];exact List.map_snd_zip (Af _)
 .have h2':¬vs.toArray.size<2:=by simpa using h2
  dsimp only;rw[if_neg h2',if_neg h2'];refine AH (ACp (s:={s with heap:=H3}) r3 (by omega) ?_);have e0:Cr ds=(kEval (λi j=>ltP (ds.getD i .non) (ds.getD j .non)) (kas_sort vs.length)).toList:=by unfold Cr;rw[if_neg (by omega),hlen]
  refine AH (Ef (PySem.W.kat_run (ks:=vs) (vs:=vs) (κ:=tuples' true) (s:={s with heap:=H3}) (E:=E) (Q:=λst' s'=>s'={s with heap:=H3}/\(arrOf st').map (·.2)=((Cr ds).map λi=>vs.getD i Value.none).toArray/\failedOf st'=none)
   (G:=λp s'=>s'={s with heap:=H3}/\p=kEval (λi j=>ltP (ds.getD i .non) (ds.getD j .non)) (kas_sort vs.length)) rfl (by omega) h64 (λp st' s' _ a2 a3 a4=>⟨a4.1,?_,a3⟩) ?_) ?_ λ_ _ z=>z)
  .rw[PySem.W.kat_snds rfl a2,e0,a4.2]
  .refine Cc.wp (c:=λi j=>ltP (ds.getD i .non) (ds.getD j .non)) (n:=vs.length) (R:=Pm vs.length) (λi j C hi hj hC=>?_) (VL (by omega)) ⟨rfl,rfl⟩;exact ACo (s:={s with heap:=H3}) (RR r3 Value.none D.non i hi) (RR r3 Value.none D.non j hj) hC
  .rintro⟨⟨⟩,st'⟩ s' ⟨rfl,a2,a3⟩;exact hgo st' a2 a3
def ABX{l:Addr}{vs:ANF}{ds:List D}{Q:ANL}(hl:s.heap.IsList l vs.toArray)(r:Paired (Ge s.heap) vs ds)(h64:vs.length<64)
  (h:Q (.ref (s.heap.objs.size+1)) {s with heap:=sortedAll s.heap vs ((Cr ds).map λi=>vs.getD i Value.none).toArray}):wpAny (model prog w) A (call (.builtin "sorted") [.ref l]) Q E s:=by
 have hsz:((s.heap.push (seqObj "list" #[] 0)).update s.heap.objs.size (Obj.mapSeq (·++vs.toArray))).objs.size=s.heap.objs.size+1:=by rw[Heap.size_update];exact size_push' _ _
 generalize hH:((s.heap.push (seqObj "list" #[] 0)).update s.heap.objs.size (Obj.mapSeq (·++vs.toArray))).push (seqObj "list" vs.toArray 0)=H2;have at2:H2.get? (s.heap.objs.size+1)=some (seqObj "list" vs.toArray 0):=by rw[<-hH,<-hsz];exact Heap.get?_push_size _ rfl
 have kept:∀b o,s.heap.get? b=some o->H2.get? b=some o:=λb o e=>by
  have hlt:=Heap.lt_size e;rw[<-hH,Heap.get?_push_ne _ _ _ (by rw[hsz];exact BV (AMP hlt)),Heap.get?_update_ne _ _ _ _ (BV hlt),Heap.get?_push_ne _ _ _ (BV hlt)];exact e
 have r2:Paired (Ge H2) vs ds:=by
  clear h hl h64 hH at2 hsz
  induction r with
  |nil=>exact .nil
  |cons q t ih =>
   obtain⟨x,p,q,tk,u,e0,⟨o,e,c⟩,z⟩:=q;exact .cons ⟨x,p,q,tk,u,e0,⟨o,kept _ _ e,c⟩,z⟩ ih
 refine Calls.call_function_entry kind_sorted plain_sorted entry_sorted (args_sorted1 _) ?_;unfold Builtin.«sorted»;refine AH (m:=checkCount "sorted" 1 1 _) (AN (AH (collect_list hl ?_ (by rw[sizeLine_eq];omega))));refine AH (wpAny_newList ?_ (by rw[sizeLine_eq];omega));show wpAny _ _ _ _ _ {s with heap:=((s.heap.push (seqObj "list" #[] 0)).update s.heap.objs.size (Obj.mapSeq (·++vs.toArray))).push (seqObj "list" vs.toArray 0)};rw[hsz,hH];refine AH (DZ (Fy slot_list_sort ⟨_,at2,rfl⟩ entry_list_sort (ABY (s:={s with heap:=H2}) at2 r2 h64 ⟨_,rfl,AN ⟨_,rfl,?_⟩⟩) (args_list_sort _)));have e3:sortedHeap H2 (s.heap.objs.size+1) vs ((Cr ds).map λi=>vs.getD i Value.none).toArray=sortedAll s.heap vs ((Cr ds).map λi=>vs.getD i Value.none).toArray:=by rw[<-hH];rfl
 show Q _ {s with heap:=sortedHeap H2 (s.heap.objs.size+1) vs _};rw[e3];exact h
end
section
variable {X:Cx}
def Wt{K:AL}{H:Hp}{O:ANG}{ws:List V}{ds:List D}(h:AR K H O ws ds):Paired (Is K H O) ws ds:=by
 induction ds generalizing ws with
 |nil=>cases h;exact .nil
 |cons x ds ih=>cases h with|cons a t=>exact .cons a (ih t)
def AFM{K:AL}{H:Hp}{O:ANG}{ws:List V}{ds:List D}(h:Paired (Is K H O) ws ds):AR K H O ws ds:=by
 induction h with
 |nil=>exact .nil
 |cons q _ ih=>exact .cons q ih
def ACn{pins}{s:Shared}{Y}{H:Hp}{O:ANG}(I:AI X pins Y H s):∀{ws:List V} {ds:List D} {vs:ANF},AR X.K H O ws ds->Ab ws vs->ds.all isPr=true->Paired (Ge s.heap) vs ds:=by
 intro ws ds vs hi hv e
 induction hv generalizing ds with
 |nil=>cases hi;exact .nil
 |cons r q ih =>
  cases hi with|cons h t =>
  rw[ALq,Bz] at e;refine .cons ?_ (ih t e.2);obtain⟨a,b,rfl⟩:=ACq e.1
  .cases h with|tup hs hl =>
    cases r
    cases hl with|cons h1 hl=>cases hl with|cons h2 hl =>
     cases hl;cases h1;cases h2;obtain⟨its,rv,p,_⟩:=I.tuple hs
     cases rv with|cons r1 rv=>cases rv with|cons r2 rv =>
      cases rv;obtain⟨t1,rfl⟩:=(show ∃t,_=Value.str a t from r1);obtain⟨t2,rfl⟩:=(show ∃t,_=Value.str b t from r2);exact⟨_,a,b,t1,t2,rfl,p,rfl⟩
def AKz:EU X (.builtin "sorted") LA:=λpins s Y H vs us Q I rv z9_=>by
 obtain⟨O,L,xs,d,L',rs,is,e,k⟩:=z9_;unfold LA at e;split at e
 .rename_i n;split at e
  .rename_i ds e1;split at e
   .rename_i hall;rw[Bz] at hall;have hlt:=of_decide_eq_true hall.2;cases e
    cases is with|cons i1 i2=>cases i2;cases i1 with|@ref _ a hn =>
     obtain⟨u,rfl,ru⟩:=Dk rv;cases ru;obtain⟨ws,hw,il⟩:=rs.ob n _ _ hn e1;obtain⟨its,rvv,p,_⟩:=I.list (BJ.of hw);have hl1:ws.length=its.length:=rvv.length;have hl2:ws.length=ds.length:=Paired.length (Wt il);refine ABX p.isList (ACn I il rvv hall.1) (by omega) ?_;have hin:∀i∈Cr ds,i<ws.length:=λi hi=>by rw[hl2];exact CM.mp ((Kq ds).mem_iff.mp hi)
     have hol:(Cr ds).length=ds.length:=by rw[(Kq ds).length_eq,AMm]
     obtain⟨c,hc⟩:=sortedAll_at s.heap its ((Cr ds).map λi=>its.getD i Value.none).toArray;have hf:H (s.heap.objs.size+1)=none:=I.hok.fresh (ALz _);have st:Al H O (upd H (s.heap.objs.size+1) (.lst ((Cr ds).map λi=>ws.getD i V.non))) (O++[s.heap.objs.size+1]):=⟨.new hf,Ai _ _⟩;have hil:AR X.K H O ((Cr ds).map λi=>ws.getD i V.non) (sortP ds):=AFM (RP (Wt il) V.non D.non hin)
     exact⟨.ref (s.heap.objs.size+1),upd H (s.heap.objs.size+1) (.lst ((Cr ds).map λi=>ws.getD i V.non)),I.laid (o:=.lst ((Cr ds).map λi=>ws.getD i V.non)) (t':=s.toks) (λb o q=>sortedAll_old q) (ALz _) ⟨by rw[Aa,hol,sizeLine_eq];omega,(Cr ds).map λi=>its.getD i Value.none,c,RP rvv V.non Value.none hin,hc⟩,rfl,
      k _ _ _ st (rs.new hf ⟨_,CI,hil.mono st⟩) (.ref (by rw[<-rs.len];simp))⟩
   .cases e
  .cases e
 .cases e
end
section
variable {X:Cx}
def vv{i:Nat}{x:Str}{pos:Pos}(hN:X.N[i]?=some x:=by rfl)(hv:Je X.env.scope x:=by first|exact Or.inl rfl|exact Or.inr (Or.inl rfl)|exact Or.inr (Or.inr rfl))(hd:(x == ("__debug__":Str))=false:=by decide)(hcd:(x == ("__classdict__":Str))=false:=by decide):AZ X (.Name x pos) (AA i):=AGO (pv i hN hv hd hcd)
def ixq{a b:Expr}{fa fb:EF}{pos:Pos}(ha:AZ X a fa)(hb:AZ X b fb)(hs:Sk b:=by intro _ _;rfl):AZ X (.Subscript a b pos) (AE AQ fa fb):=AGP AAM ha hb hs
end
abbrev Sn(K:AL)(x:Str)(f:Addr):Prop:=CC K mainGlobals x=some (some (.ref f))
abbrev Ld(K:AL)(x qual:Str)(st:Stmt)(f:Addr):Prop:=∃fd,Hd K x qual st f fd
def Xb{K:AL}{x qual:Str}{st:Stmt}{f:Addr}{oc:Value}{od an:Option Addr}{osl:Array (Option Value)}{kV doc pm cdv ct:Value}(l:K.lookup f=some ⟨oc,od,.func (ALj x qual (IX st) (FW st) (Ag st) .none kV doc pm an cdv ct),osl⟩)(c:AMg K cdv qual=true)(k:GA K (.ref f)=true):Ld K x qual st f:=⟨_,AF4 l c k⟩
abbrev BC(P:Program)(w:World)(K:AL)(mg:AND)(base:Heap)(k:Nat)(N:ANE)(qual:Str)(st:Stmt)(B:SF):Prop :=
 ∀(cdv:Value) (f:Addr) (A:Around) (outer:List Env) (s:Shared) (H:Hp) (E:XK),Room k (A.deeper (envOfC qual (Ag st) s.heap.objs.size f cdv))->FH (Ci CX0 P w K mg base N qual (Ag st) f cdv A outer s H E).nox (FW st) B
abbrev ZC(x qual:Str)(st:Stmt)(ps:ANE):Prop:=∀(kV doc pm:Value) (an:Option Addr) (cdv ct:Value) (us:ANF),us.length=ps.length->bindArgs (ALj x qual (IX st) (FW st) (Ag st) .none kV doc pm an cdv ct) ⟨us,[]⟩=pure (ps.zip us)
def AF6{P:Program}{w:World}{K:AL}{mg:AND}{base h:Heap}(X:K.In h)(Gn:h.Ns mainGlobals mg){x qual:Str}{st:Stmt}{f:Addr}{N ps:ANE}{k:Nat}{B:SF}(G:GL)(e:G=Am B N ps.length)
  (a:CC K mainGlobals x=some (some (.ref f))) (q:Ld K x qual st f) (S:Aw N ps (Ag st)) (d:BC P w K mg base k N qual st B) (b:ZC x qual st ps):Ao P w K mg base (k+1) x G:=by
 obtain⟨fd,F⟩:=q;subst e;exact SJ F S (λcdv A outer s H E hr=>d cdv f A outer s H E hr) (F.binds b) (FL X Gn a) F.kp
def Ao.mn{P:Program}{w:World}{K:AL}{mg:AND}{base:Heap}{j k:Nat}{x:Str}{G:GL}(F:Ao P w K mg base j x G)(h:j<=k:=by decide):Ao P w K mg base k x G:=F.mono h
def Fw.mn{P:Program}{w:World}{K:AL}{mg:AND}{base:Heap}{j k:Nat}{x:Str}{G:GL}(F:Fw P w K mg base j x G)(h:j<=k:=by decide):Fw P w K mg base k x G:=F.mono h
abbrev anyO:List (Option Bool)->Option Bool
 |[]=>some false
 |none::_=>none
 |some b::r=>(anyO r).map (b || ·)
abbrev AFv:G2:=λx y L=>match y with
 |.ref k=>(match L[k]? with|some (.lst ys)=>(anyO (ys.map λz=>DQ 30 L z x)).map λb=>(.bl (!b),L)|_=>none)
 |_=>none
structure FQ (K:AL) (x:Str) (st:Stmt) (f:Addr):Prop where
 a:Sn K x f
 b:Ld K x x st f
def dk{P:Program}{w:World}{K:AL}{mg:AND}{base:Heap}{k:Nat}{N ps:ANE}{qual:Str}{st:Stmt}{B:SF}(S:Aw N ps (Ag st))
  (h:∀(cdv:Value) (f:Addr) (A:Around) (outer:List Env) (s:Shared) (H:Hp) (E:XK),Room k (A.deeper (envOfC qual (Ag st) s.heap.objs.size f cdv))->N.Nodup->FH (Ci CX0 P w K mg base N qual (Ag st) f cdv A outer s H E).nox (FW st) B):BC P w K mg base k N qual st B:=λcdv f A outer s H E hr=>h cdv f A outer s H E hr S.nd
def AF7{P:Program}{w:World}{K:AL}{mg:AND}{base h:Heap}(X:K.In h)(Gn:h.Ns mainGlobals mg){x:Str}{st:Stmt}{f:Addr}{N ps:ANE}{k:Nat}{B:SF}(G:GL)(q:FQ K x st f)(S:Aw N ps (Ag st))(d:BC P w K mg base k N x st B)(e:G=Am B N ps.length:=by rfl)(b:ZC x x st ps:=by wtm_at "bi"):Ao P w K mg base (k+1) x G:=AF6 X Gn G e q.a q.b S d b
abbrev HC(tg:Expr)(N:ANE)(idx:ANJ):ANE :=
 (match tg with
 |.Name x _=>[x]
 |.Tuple es _ _=>es.filterMap λe=>match e with
  |.Name x _=>some x
  |_=>none
 |_=>[])++idx.map λi=>N.getD i Str.empty
section
variable {P:Program}{w:World}{K:AL}{mg:AND}{base:Heap}{N:ANE}{qual:Str}{sc:Scope}{f:Addr}{cdv:Value}{A:Around}{outer:List Env}{s:Shared}{H:Hp}{E:XK}{C0:FZ}
def YL{scope:Scope}{tg:Expr}{n:Nat}{idx:ANJ}(h1:scope.kind=.function)(hc:LP scope.names sc.names N (HC tg N idx) n idx=true):Le (Ci C0 P w K mg base N qual sc f cdv A outer s H E).nox scope (HC tg N idx) n idx:=AGi h1 (λ_=>rfl) rfl hc
def AKm{tg iter elt:Expr}{ifs:ANH}{scope:Scope}{pos:Pos}{fi:IF}{n:Nat}{idx:ANJ}{g:GF}{c:TF}{fe:EF}(hi:EC (Ci C0 P w K mg base N qual sc f cdv A outer s H E).nox tg iter fi)
  (hbody:∀cl C s3 H3 fp pins,HI (Cj (Ci C0 P w K mg base N qual sc f cdv A outer s H E).nox (HC tg N idx) scope cl C s3 H3 fp pins) tg g/\IG (Cj (Ci C0 P w K mg base N qual sc f cdv A outer s H E).nox (HC tg N idx) scope cl C s3 H3 fp pins) ifs c/\AZ (Cj (Ci C0 P w K mg base N qual sc f cdv A outer s H E).nox (HC tg N idx) scope cl C s3 H3 fp pins) elt fe)
  (h1:scope.kind=.function:=by rfl) (hc:LP scope.names sc.names N (HC tg N idx) n idx=true:=by decide +kernel)
  (hs:∀x,foldedSetIterable iter (Ci C0 P w K mg base N qual sc f cdv A outer s H E).nox.env x=pure x:=by intro _;rfl):AZ (Ci C0 P w K mg base N qual sc f cdv A outer s H E).nox (.ListComp elt [⟨tg,iter,ifs,0⟩] scope pos) (Bw fi n idx g c fe):=AGR rfl hi (YL h1 hc) hbody hs
def AIs{i:Nat}{x:Str}{px pos':Pos}{tg iter elt:Expr}{ifs:ANH}{scope:Scope}{pos:Pos}{fi:IF}{n:Nat}{idx:ANJ}{g:GF}{c:TF}{fe:EF}(hN:N.Nodup)(hi:EC (Ci C0 P w K mg base N qual sc f cdv A outer s H E).nox tg iter fi)
  (hbody:∀cl C s3 H3 fp pins,HI (Cj (Ci C0 P w K mg base N qual sc f cdv A outer s H E).nox (HC tg N idx) scope cl C s3 H3 fp pins) tg g/\IG (Cj (Ci C0 P w K mg base N qual sc f cdv A outer s H E).nox (HC tg N idx) scope cl C s3 H3 fp pins) ifs c/\AZ (Cj (Ci C0 P w K mg base N qual sc f cdv A outer s H E).nox (HC tg N idx) scope cl C s3 H3 fp pins) elt fe)
  (h1:scope.kind=.function:=by rfl) (hc:LP scope.names sc.names N (HC tg N idx) n idx=true:=by decide +kernel)
  (hi2:N[i]?=some x:=by rfl) (hx:HJ (Ci C0 P w K mg base N qual sc f cdv A outer s H E).nox.env.scope x:=by first|exact Or.inl rfl|exact Or.inr rfl)
  (hsw:swapsWith (.ListComp elt [⟨tg,iter,ifs,0⟩] scope pos) (some (.Name x px)) pos'.line (Ci C0 P w K mg base N qual sc f cdv A outer s H E).nox.env=pure true:=by rfl)
  (hs:∀x,foldedSetIterable iter (Ci C0 P w K mg base N qual sc f cdv A outer s H E).nox.env x=pure x:=by intro _;rfl):Dq (Ci C0 P w K mg base N qual sc f cdv A outer s H E).nox (.Assign [.Name x px] (.ListComp elt [⟨tg,iter,ifs,0⟩] scope pos) pos') (AO i (Bw fi n idx g c fe)):=ABk hN rfl hi (YL h1 hc) hbody hi2 hx hsw (.inl rfl) hs
end
def nqC{X:Cx}{N':ANE}{scope:Scope}{cl C s3 H3 fp pins}(h:N'.Nodup:=by decide +kernel):(Cj X N' scope cl C s3 H3 fp pins).N.Nodup:=h
def AR.rev{K:AL}{H:Hp}{O:ANG}:∀{vs:List V} {ds:List D},AR K H O vs ds->AR K H O vs.reverse ds.reverse
 |_,_,.nil=>.nil
 |_,_,.cons a b=>by
  rw[AMh,AMh];exact(AR.rev b).append (.cons a .nil)
def AB8{K:AL}{H:Hp}{O:ANG}{vs:List V}{us:ANF}{n:Nat}(is:AR K H O vs [.ref n])(r:Ab vs us):∃a,O[n]?=some a/\us=[.ref a]:=by
 cases is with|cons i1 i2=>cases i2;cases i1 with|@ref _ a hn =>
  obtain⟨u,rfl,ru⟩:=Dk r;exact⟨a,hn,by rw[show u=Value.ref a from ru]⟩
section
variable {X:Cx}{pins:List (Addr×Obj)}{Y:L2.St}{k n:Nat}{G:GL}{fa a I0 S0:Addr}{fd:FuncData}{ps:ANE}{L:AC}{ds:List D}{O:ANG}
def AER{H:Hp}{s:Shared}{u:Value}{v:V}{d:D}{z:Int}{oI oS:Obj}(F:DK X.prog X.w X.K X.mg X.base CX0 k fa fd ps (Gv X.K G))(hb:EV X.K fd ps [])(hr:Room (k+1) X.A)(I:AI X pins Y H s)(f1:ET X pins H I0)(f2:ET X pins H S0)(rs:Ap X.K H O L)
  (gI:s.heap.get? I0=some oI) (gS:s.heap.get? S0=some oS) (nI:∀v,oI.data≠.cell v) (nS:∀v,oS.data≠.cell v) (ru:Ac v u) (is:Is X.K H O v d) (e:G [d] L=some (.int z,L)) :
  wpAny (model X.prog X.w) X.A.in1 (call (.ref fa) [u]) (λy s2=>∃t H2,y=.int z t/\AI X pins Y H2 s2/\ET X pins H2 I0/\ET X pins H2 S0/\Al H O H2 O/\Ap X.K H2 O L/\s2.heap.get? I0=some oI/\s2.heap.get? S0=some oS) (λ_ _=>False) s:=by
 have J:AI X (pins++JA [I0,S0] s.heap) Y H s:=I.pinned (λb hb=>by
   rcases AX.mp hb with rfl|hb
   .exact f1
   .obtain rfl:=Dt.mp hb;exact f2) λb hb=>by
   rcases AX.mp hb with rfl|hb
   .exact⟨_,gI,nI⟩
   .obtain rfl:=Dt.mp hb;exact⟨_,gS,nS⟩
 have q:Gv X.K G [v] H (λy H2=>y=.int z/\∃O2,Al H O H2 O2/\Ap X.K H2 O2 L) E0 :=
  ⟨O,L,[d],_,L,rs,.cons is .nil,e,λy H2 O2 st rs2 iy=>by cases iy;exact⟨rfl,O2,st,rs2⟩⟩
 have hl:([u]++([]:ANF)).length=ps.length:=F.len _ _ _ _ q;refine wpAny_call (codeAny_mono (F.run X.A.in1 X.stack s H ⟨[u],[]⟩ [u] [v] _ E0 hr.in1 J.env0.in1 (hb s [u] J.kIn hl) (.cons ru .nil) q) λr s2 hq=>?_)
 cases r with
 |error e=>exact False.elim hq
 |ok fl =>
  cases fl with
  |ret y =>
   obtain⟨w,H2,I2,ry,rfl,O2,st,rs2⟩:=J.after hq;obtain⟨t,rfl⟩:=ry
   obtain rfl:O2=O:=by
    obtain⟨M,eM⟩:=st.2
    have:M.length=0:=by have h1:=rs.len;have h2:=rs2.len;rw[<-eM,By] at h2;omega
    rw[<-eM,AL4.mp this,ALy]
   have pI:=I2.pin (I0,oI) (Ej _ (Ej _ (JF (by simp) gI)));have pS:=I2.pin (S0,oS) (Ej _ (Ej _ (JF (by simp) gS)));exact⟨t,H2,rfl,I2.unpinned,⟨pI.2.1,f1.2⟩,⟨pS.2.1,f2.2⟩,st,rs2,pI.1,pS.1⟩
  |next=>exact False.elim hq
  |brk=>exact False.elim hq
  |cont=>exact False.elim hq
abbrev Hc(X:Cx)(pins:List (Addr×Obj))(Y:L2.St)(I0 S0 a:Addr)(L:AC)(O:ANG)(i:Nat)(H:Hp)(s:Shared)(its:Array Value)(c:Nat):Prop :=
 AI X pins Y H s/\ET X pins H I0/\ET X pins H S0/\Ap X.K H O L/\s.heap.IsListIter I0 a i/\s.heap.get? S0=some (seqObj "list" its c)
def Hc.draw{i:Nat}{H:Hp}{s:Shared}{its:Array Value}{c:Nat}{d:D}(M:Hc X pins Y I0 S0 a L O i H s its c)(hh:X.A.handled=none)(hIS:S0≠I0)(hL:L[n]?=some (.lst ds))(hn:O[n]?=some a)(hd:ds[i]?=some d){Q:Option Value->Shared->Prop}{E:ANL}
  (h:∀u v s',Ac v u->Is X.K H O v d->Hc X pins Y I0 S0 a L O (i+1) H s' its c->Q (some u) s'):wpAny (model X.prog X.w) X.A.in1 (pyNext (.ref I0)) Q E s:=by
 obtain⟨ws,hw,il⟩:=M.2.2.2.1.ob n _ _ hn hL;obtain⟨vs,rv,pl,hz⟩:=M.1.list (BJ.of hw);obtain⟨x,hx,ix⟩:=il.get hd;obtain⟨u,hu,ru⟩:=rv.get hx
 have haI:a≠I0:=λz=>by
  obtain⟨o,g,cl,_⟩:=pl.isList;obtain⟨o',g',cl',_⟩:=M.2.2.2.2.1;rw[z,g'] at g;cases g;rw[cl'] at cl;exact absurd cl (by decide)
 obtain⟨q0,q1,q2,q3,q4,q5⟩:=M.2.1;refine(Walks.list (prog:=X.prog) (w:=X.w) (A:=X.A.in1) hh I0 a haI vs.toArray).item i s Q E (by simpa using (Ax.mp hu).1) ⟨M.2.2.2.2.1,pl.isList⟩ λy h' tk hy st kk=>?_
 obtain rfl:y=u:=by
  have:vs[i]?=some y:=by simpa using hy
  rw[hu] at this;exact(Option.some.inj this).symm
 exact h y x _ ru ix ⟨M.1.turned (t':=tk) (λb o hb q=>kk b o (by simpa using hb) q) q0 q1 q3 q4 q5,M.2.1,M.2.2.1,M.2.2.2.1,st.1,kk S0 _ (by simpa using hIS) M.2.2.2.2.2⟩
def Hc.put{i:Nat}{H:Hp}{s:Shared}{its its':Array Value}{c:Nat}(M:Hc X pins Y I0 S0 a L O i H s its c)(hIS:S0≠I0):∃c',Hc X pins Y I0 S0 a L O i H {s with heap:=s.heap.update S0 (Obj.mapSeq λ_=>its')} its' c':=by have s1:=Heap.SameBut.update s.heap S0 (Obj.mapSeq λ_=>its');obtain⟨q0,q1,q2,q3,q4,q5⟩:=M.2.2.1;exact⟨_,M.1.turned (t':=s.toks) (λb o hb q=>(s1.2 b hb).trans q) q0 q1 q3 q4 q5,M.2.1,M.2.2.1,M.2.2.2.1,M.2.2.2.2.1.at λo q=>(s1.2 I0 (Ne.symm hIS)).trans q,get?_update_seq M.2.2.2.2.2 λ_=>its'⟩
def Hc.key{i:Nat}{H:Hp}{s:Shared}{its:Array Value}{c:Nat}{u:Value}{v:V}{d:D}{z:Int}(M:Hc X pins Y I0 S0 a L O i H s its c)(F:DK X.prog X.w X.K X.mg X.base CX0 k fa fd ps (Gv X.K G))(hb:EV X.K fd ps [])(hr:Room (k+1) X.A)(ru:Ac v u)(is:Is X.K H O v d)(e:G [d] L=some (.int z,L)) :
  wpAny (model X.prog X.w) X.A.in1 (call (.ref fa) [u]) (λy s2=>∃t H2,y=.int z t/\Al H O H2 O/\Hc X pins Y I0 S0 a L O i H2 s2 its c) (λ_ _=>False) s:=by
 obtain⟨oI,gI,cI,dI⟩:=M.2.2.2.2.1;refine Ef (AER F hb hr M.1 M.2.1 M.2.2.1 M.2.2.2.1 gI M.2.2.2.2.2 (λv q=>by rw[dI] at q;cases q) (λv q=>by cases q) ru is e) (λy s2 z2_=>(by obtain⟨t,H2,ey,I2,f1,f2,st,rs2,g1,g2⟩:=z2_;exact⟨t,H2,ey,st,I2,f1,f2,rs2,⟨oI,g1,cI,dI⟩,g2⟩)) λ_ _ q=>q
end
abbrev uqS(acc:ANE):ANE->ANE
 |[]=>acc
 |y::ys=>uqS (if y∈acc then acc else y::acc) ys
def AAb(acc:ANE)(y k:Str):(decide (k∈acc) || decide (k=y))=decide (k∈(if y∈acc then acc else y::acc)):=by
 by_cases hm:y∈acc
 .rw[if_pos hm]
  by_cases e:k=y
  .subst e;simp[hm]
  .simp[e]
 .rw[if_neg hm]
  by_cases e:k=y
  .simp[e]
  .simp[e]
def UZ(acc:ANE)(y:Str):(if decide (y∈acc)=true then acc.length else acc.length+1)=(if y∈acc then acc else y::acc).length:=by by_cases hm:y∈acc <;> simp[hm]
section
variable {prog:Program}{w:World}{A:Around}{E:ANL}{s:Shared}
noncomputable abbrev Jf(prog:Program)(w:World)(h:Heap)(S:Addr)(acc:ANE):Prop:=h.SetOf (PySem.strKind prog w) S (λk=>decide (k∈acc)) acc.length
def ABQ{I l S:Addr}{items:Array Value}{ys:ANE}{R:Result->Shared->Prop}(hh:A.in1.handled=none)(hne:l≠I)(hSI:S≠I)(hSl:S≠l)(hi:∀i v,items[i]?=some v->∃t,v=Value.str (ys.getD i "") t)(hlen:items.size=ys.length)(hb:ys.length+1<scanBound) :
  ∀(k i:Nat) (s:Shared) (acc:ANE),ys.length-i=k->i<=ys.length->acc.length<=i->s.heap.IsListIter I l i->s.heap.IsList l items->Jf prog w s.heap S acc ->
   (∀h' tk,(∀b o,b≠S->b≠I->s.heap.get? b=some o->h'.get? b=some o)->Jf prog w h' S (uqS acc (ys.drop i))->R (.ok (.ret .none)) {s with heap:=h',toks:=tk}) ->
   codeAny (model prog w) A (.builtin "set.update.loop" ⟨[.ref S,.ref I],[]⟩) R s:=by
 have W:=Walks.list (prog:=prog) (w:=w) (A:=A.in1) hh I l hne items;intro k
 induction k with
 |zero =>
  intro i s acc hk hi2 hal it il hS hR;obtain rfl:i=ys.length:=by omega
  rw[AMN] at hR;refine codeAny_builtin PyProof.Rows.F.entry_set_update_loop ?_;rw[Around.under_plainId PyProof.Rows.F.plain_set_update_loop _];refine AH (m:=pyNext (.ref I)) (W.done s _ _ ⟨by rw[hlen];exact it,il⟩ λh' tk kk=>AN (hR h' tk (λb o _ h2 e=>kk b o (by simpa using h2) e) ?_));obtain⟨o,es,ep,t,ho,rest⟩:=hS;exact⟨o,es,ep,t,kk S _ (by simpa using hSI) ho,rest⟩
 |succ k ih =>
  intro i s acc hk hi2 hal it il hS hR;have hlt:i<ys.length:=by omega
  refine codeAny_builtin PyProof.Rows.F.entry_set_update_loop ?_;rw[Around.under_plainId PyProof.Rows.F.plain_set_update_loop _];refine AH (m:=pyNext (.ref I)) (W.item i s _ _ (by rw[hlen];exact hlt) ⟨it,il⟩ λv h1 tk hv st kk=>?_);obtain⟨t,rfl⟩:=hi i v hv
  have hS1:Jf prog w h1 S acc:=by obtain⟨o,es,ep,t,ho,rest⟩:=hS;exact⟨o,es,ep,t,kk S _ (by simpa using hSI) ho,rest⟩
  refine AH (m:=holding [Value.str (ys.getD i "") t] (setAdd S (.str (ys.getD i "") t))) (DZ ?_);unfold setAdd;have hkey:(PySem.strKind prog w).is (ys.getD i "") (.str (ys.getD i "") t)=true:=PySem.strKind_is prog w _ t;refine DZ (AH ((PySem.strKind prog w).pyHash hkey ?_));refine wpAny_setAddHashed_of (s:={s with heap:=h1,toks:=tk+1}) hkey rfl hS1 (by omega) λh2 sb hS2=>?_
  have hS3:Jf prog w h2 S (if ys.getD i ""∈acc then acc else ys.getD i ""::acc):=SetOf_congr hS2 (λk'=>AAb acc _ k') (UZ acc _)
  have hdr:ys.drop i=ys.getD i ""::ys.drop (i+1):=by rw[AMM hlt];simp[hlt]
  refine AN ⟨plainId_quiet PyProof.Rows.F.plain_set_update_loop _,ih (i+1) _ _ (by omega) hlt ?_ (st.1.at λo q=>(sb.2 I (Ne.symm hSI)).trans q) (st.2.at λo q=>(sb.2 l (Ne.symm hSl)).trans q) hS3 λh' tk' k' hS'=>?_⟩
  .rw[<-UZ];split <;> omega
  .refine hR h' tk' (λb o hb1 hb2 e=>k' b o hb1 hb2 ((sb.2 b hb1).trans (kk b o (by simpa using hb2) e))) ?_;rw[hdr,uqS];exact hS'
def ABS{l:Addr}{items:Array Value}{ys:ANE}{Q:ANL}(hh:A.handled=none)(hl:s.heap.IsList l items)(hi:∀i v,items[i]?=some v->∃t,v=Value.str (ys.getD i "") t)(hlen:items.size=ys.length)(hb:ys.length+1<scanBound)
  (h:∀h' tk,(∀b o,s.heap.get? b=some o->h'.get? b=some o)->Jf prog w h' s.heap.objs.size (uqS [] ys)->Q (.ref s.heap.objs.size) {s with heap:=h',toks:=tk}):wpAny (model prog w) A (call (.type "set") [.ref l]) Q E s:=by
 obtain⟨c,tl,hmro⟩:=ALt.mro;have hmade:=ALt.made;have hsub:=ALt.sub;refine wpAny_call (codeAny_of_tree ?_);show wpAny _ _ (callAny (.type "set") _) _ _ _;refine AN ⟨Code.quiet_builtin _ (by decide +kernel),codeAny_builtin PySem.F.entry_type_call ?_⟩;rw[Around.under_plain (weight_type_call_type "set" [.ref l] []) rfl];have h1:=ALt.notType;have h2:=ALt.canCreate;have hct:=PySem.F.typeCall_set_1 (.ref l)
 repeat (any_goals (first|assumption|wp_step))
 refine codeAny_mono (code_set_new_1 (.ref l) (E:=E) (Q₁:=λo s₁=>∃led:Bool,o=.ref s.heap.objs.size/\s₁={s with heap:=s.heap.push {cls:=.type "set",dict:=none,data:=.set #[] 0 (.fresh 0 0 led)}}) λled=>⟨led,rfl,rfl⟩) λr s₁ hr=>?_
 cases r with
 |error e=>exact hr
 |ok fl =>
  cases fl with
  |ret obj =>
   obtain⟨led,rfl,rfl⟩:=hr;generalize hso:({cls:=.type "set",dict:=none,data:=.set #[] 0 (.fresh 0 0 led)}:Obj)=so;have hS:(s.heap.push so).get? s.heap.objs.size=some so:=Heap.get?_push_size _ (by rw[<-hso];rfl);have hT:Shared.TypeIs {s with heap:=s.heap.push so} (.ref s.heap.objs.size) "set":=⟨_,hS,by rw[<-hso]⟩;have hli:=ALt.init.lookup;have hbi:=ALt.init.bind (.ref s.heap.objs.size)
   repeat (any_goals (first|assumption|wp_step))
   refine codeAny_mono (codeAny_call_builtin (R:=wants (λr s₂=>r=.none/\Q (.ref s.heap.objs.size) s₂) E) ALt.init.plain PySem.F.entry_set_init (check_set_init_1 hT ?_)) λr₂ s₂ hr₂=>?_
   .have hl1:(s.heap.push so).IsList l items:=hl.at λo e=>Heap.get?_push_of_some _ e;have hfresh:(s.heap.push so).get? s.heap.objs.size=some {cls:=.type "set",dict:=none,data:=.set #[] 0 (.fresh 0 0 led)}:=by rw[hS,hso]
    have hlS:l<s.heap.objs.size:=by obtain⟨o,g,_⟩:=hl;exact Heap.lt_size g
    obtain⟨ol,hol,hcl,nl,hdl⟩:=id hl1;obtain⟨ocls,odict,odata,oslots⟩:=ol;simp only at hcl hdl;subst hcl hdl;have hsls:=PySem.F.sub_list_set;have hslf:=PySem.F.sub_list_frozenset;have hne:(Value.type "list" == Value.type "dict")=false:=by decide
    subst hso;unfold Builtin.«set.__init__» noKeywords Builtin.Frozenset.updateFrom;generalize hPI:pyIter=PI
    wp_walk
    subst hPI;refine AM3 hl1 (AH (wpAny_runValue ?_));have hz:(s.heap.push {cls:=.type "set",dict:=none,data:=.set #[] 0 (.fresh 0 0 led)}).objs.size=s.heap.objs.size+1:=Heap.size_push ..
    refine ABQ (by simp[hh]) (by rw[hz];exact BV (AMP hlS)) (by rw[hz];exact BV (AMe _)) (Fa hlS) hi hlen hb ys.length 0 _ [] rfl (EH _) (EH _) ⟨_,Heap.get?_push_size _ rfl,rfl,rfl⟩ (hl1.at λo e=>Heap.get?_push_of_some _ e)
     (SetOf_congr ((setObjOf_fresh (knd:=strKind prog w) led).setOf (Heap.get?_push_of_some _ hfresh) (by unfold scanBound;omega)) (λ_=>by simp) rfl) λh' tk kk hS'=>?_
    refine AN (AN ⟨rfl,h h' tk (λb o e=>kk b o (BV (Heap.lt_size e)) (by rw[hz];exact BV (AMP (Heap.lt_size e))) (Heap.get?_push_of_some _ (Heap.get?_push_of_some _ e))) (by rw[ALr] at hS';exact hS')⟩)
   .cases r₂ with
    |error e=>exact hr₂
    |ok fl₂ =>
     cases fl₂ with
     |ret r =>
      obtain⟨rfl,hq⟩:=hr₂
      repeat (any_goals (first|assumption|wp_step))
     |_=>exact hr₂.elim
  |_=>exact hr.elim
def ABR{S:Addr}{acc:ANE}{Q:ANL}(hS:Jf prog w s.heap S acc)(h:Q (.int (acc.length:Nat) (s.toks+1)) {s with toks:=s.toks+1+1}):wpAny (model prog w) A (call (.builtin "len") [.ref S]) Q E s:=by obtain⟨o,es,ep,t,ho,hex,hd,_,_,hb,hf,hn⟩:=hS;refine call_len_set ho hex hd hf (by have:scanBound=4096:=rfl;omega) ?_;rw[hn];exact h
end
abbrev JS:GL:=λxs L=>match xs with
 |[.ref k]=>(match L[k]? with|some (.lst ds)=>(BW ds).bind λys=>if ys.length<1000 then some (.int ((uqS [] ys).length:Int),L) else none|_=>none)
 |_=>none
def AFz{xs:List D}{L L':AC}{d:D}(e:JS xs L=some (d,L')):∃n ds ys,xs=[.ref n]/\L[n]?=some (.lst ds)/\BW ds=some ys/\ys.length<1000/\d=.int ((uqS [] ys).length:Int)/\L'=L:=by
 unfold JS at e;split at e
 .split at e
  .rename_i n _ ds e1;obtain⟨ys,e2,e3⟩:=ALl.mp e
   by_cases h:ys.length<1000
   .rw[if_pos h] at e3;cases e3;exact⟨n,ds,ys,rfl,e1,e2,h,rfl,rfl⟩
   .rw[if_neg h] at e3;cases e3
  .cases e
 .cases e
section
variable {X:Cx}{p p2 pos pos2:Pos}{e:Expr}{f:AF}
def ABo{pins:List (Addr×Obj)}{Y:L2.St}{H:Hp}{s:Shared}{O:ANG}{L:AC}{n:Nat}{ds:List D}{ys:ANE}{a:Addr}{Q:VK}(hc:X.calm=true)(I:AI X pins Y H s)(rs:Ap X.K H O L)(hn:O[n]?=some a)(e1:L[n]?=some (.lst ds))(ey:BW ds=some ys)(hy:ys.length<1000)
  (q:Q (.int ((uqS [] ys).length:Int)) H):wpAny (model X.prog X.w) X.A (call (.type "set") [.ref a]) (λv s'=>wpAny (model X.prog X.w) X.A (call (.builtin "len") [v]) (EP X pins Y Q) X.xe s') X.xe s:=by
 obtain⟨ws,hw,il⟩:=rs.ob n _ _ hn e1;obtain⟨its,rv,pl,hz⟩:=I.list (BJ.of hw);rw[VB il ey] at rv;have hlen:its.length=ys.length:=by have:=rv.length;simpa using this.symm
 refine ABS (ys:=ys) (I.ok.hd hc) pl.isList (λi v hv=>?_) (by rw[Be,hlen]) (by unfold scanBound;omega) λh' tk kk hS=>ABR hS ⟨.int ((uqS [] ys).length:Int),H,I.kept (t':=tk+1+1) kk,⟨_,rfl⟩,q⟩;have hv:its[i]?=some v:=by simpa using hv
 have hi:i<ys.length:=by rw[<-hlen];exact(Ax.mp hv).1
 obtain⟨u,hu,ru⟩:=rv.get (i:=i) (x:=V.str ys[i]) (by simp[hi]);rw[hv] at hu;cases hu;obtain⟨t,rfl⟩:=ru;exact⟨t,by simp[hi]⟩
def AKg(hm:X.mg "len"=none)(hm2:X.mg "set"=none)(ha:ES X [e] f)(hg:Gl X "len":=by rfl)(hg2:Gl X "set":=by rfl)(hc:X.calm=true:=by rfl)(hs:starEach [e] X.env=[(false,eval e X.env)]:=by rfl) :
  AZ X (.Call (.Name "len" p) [.Call (.Name "set" p2) [e] [] pos2] [] pos) (AK JS f):=by
 intro pins s Y H Q I h;refine AM4 (Gx I hg hm AGy (PyProof.Rows.callWith_builtin1 ?_ rfl rfl));refine Calls.spliced_cons (AM4 (Gx I hg2 hm2 (u:=.type "set") (by decide +kernel) (PyProof.Rows.callWith_type1 (Ae (ha pos2 pins s Y H _ I (Nx h)) λus s1 z2_=>?_) hs rfl)));obtain⟨vs,H1,I1,r1,O,L,xs,d,L',rs,is,e,k⟩:=z2_;obtain⟨n,ds,ys,rfl,e1,ey,hy,rfl,rfl⟩:=AFz e;obtain⟨a,hn,rfl⟩:=AB8 is r1;exact Ef (ABo hc I1 rs hn e1 ey hy (k _ _ _ (.refl _ _) rs (.int _))) (λv s2 q=>Calls.spliced_nil q) λ_ _ q=>q
end
abbrev W2{U:Type}(o:Option (U×AC))(Q:U->AC->Prop):Prop:=∃a L,o=some (a,L)/\Q a L
abbrev W1{U:Type}(o:Option U)(Q:U->Prop):Prop:=∃a,o=some a/\Q a
abbrev WI(o:Option (Lb×AC))(Q:List D->(AC->Bool)->AC->Prop):Prop:=∃a k L,o=some (⟨a,k⟩,L)/\Q a k L
structure Sx where
 nx:Fm->AC->Prop
 rt:ANn
 bk:Fm->AC->Prop
 ct:Fm->AC->Prop
abbrev Sx.of(E:Sx):Gg->Prop
 |.next Z L=>E.nx Z L
 |.ret d L=>E.rt d L
 |.brk Z L=>E.bk Z L
 |.cont Z L=>E.ct Z L
abbrev WS(o:Option Gg)(nx:Fm->AC->Prop)(rt:ANn)(bk ct:Fm->AC->Prop):Prop:=∃x,o=some x/\Sx.of ⟨nx,rt,bk,ct⟩ x
abbrev Br(b:Bool)(p q:Prop):Prop:=if b=true then p else q
abbrev Jl(d:D)(Q:Bool->Prop):Prop:=∃b,d=.bl b/\Q b
abbrev Sr(d:D)(Q:Int->Prop):Prop:=∃b,d=.int b/\Q b
abbrev Sq(n:Nat)(p:Prop):Prop:=n<=16777216/\p
abbrev OJ(T:String)(x:D)(L:AC)(p:Prop):Prop:=Ix T x L=true/\p
section
variable {U β:Type}{Z:Fm}{L:AC}{p q:Prop}{b:Bool}{c:Prop}
def ALO(h:p):Br true p q:=h
def ALU(h:q):Br false p q:=h
def ALP(h:Br b q p):Br (!b) p q:=by cases b <;> exact h
def BN[Decidable c](h1:c->p)(h2:¬c->q):Br (decide c) p q:=by
 by_cases h:c
 .rw[decide_eq_true h];exact h1 h
 .rw[decide_eq_false h];exact h2 h
def ALV[Decidable c](h:c)(h1:p):Br (decide c) p q:=BN (λ_=>h1) (λn=>absurd h n)
def ALW[Decidable c](h:¬c)(h1:q):Br (decide c) p q:=BN (λn=>absurd n h) (λ_=>h1)
def Nz(e:b=true)(h:p):Br b p q:=by rw[e];exact h
def Jc(e:b=false)(h:q):Br b p q:=by rw[e];exact h
def GY(h1:b=true->p)(h2:b=false->q):Br b p q:=by
 cases b
 .exact h2 rfl
 .exact h1 rfl
def AJl{Q:Bool->Prop}(h:Q b):Jl (.bl b) Q:=⟨_,rfl,h⟩
def AJk{i:Int}{Q:Int->Prop}(h:Q i):Sr (.int i) Q:=⟨_,rfl,h⟩
def AIX{z:Str}(h:p):OJ "str" (.str z) L p:=⟨rfl,h⟩
def Ua{k:Nat}{xs:List D}(e:L[k]?=some (.lst xs))(h:p):OJ "list" (.ref k) L p:=⟨by simp[Ix,e],h⟩
def W2.mono{o:Option (U×AC)}{Q Q':U->AC->Prop}(h:W2 o Q)(i:∀a L,Q a L->Q' a L):W2 o Q':=let ⟨a,L,e,q⟩:=h;⟨a,L,e,i a L q⟩
def W2.mk{o:Option (U×AC)}{Q:U->AC->Prop}{a:U}(e:o=some (a,L))(h:Q a L):W2 o Q:=⟨a,L,e,h⟩
def W2.get{o:Option (U×AC)}{a:U}(h:W2 o λa' L'=>a'=a/\L'=L):o=some (a,L):=by obtain⟨a',L',e,rfl,rfl⟩:=h;exact e
def W1.mk{o:Option U}{Q:U->Prop}{a:U}(e:o=some a)(h:Q a):W1 o Q:=⟨a,e,h⟩
def WS.mono{o:Option Gg}{nx nx':Fm->AC->Prop}{rt rt':ANn}{bk bk' ct ct':Fm->AC->Prop}(h:WS o nx rt bk ct)(i1:∀a L,nx a L->nx' a L)(i2:∀a L,rt a L->rt' a L)(i3:∀a L,bk a L->bk' a L)(i4:∀a L,ct a L->ct' a L):WS o nx' rt' bk' ct':=by
 obtain⟨x,e,h⟩:=h;refine⟨x,e,?_⟩;cases x
 .exact i1 _ _ h
 .exact i2 _ _ h
 .exact i3 _ _ h
 .exact i4 _ _ h
section
variable {Q:ANn}{QT:Bool->AC->Prop}{QA:List D->AC->Prop}{QO:Option Int->AC->Prop}{f g h:EF}{t u:TF}{a:AF}
def UT{d:D}(h:Q d L):W2 (AD d Z L) Q:=⟨d,L,rfl,h⟩
def Qn{i:Nat}{d:D}(e:Z[i]?=some (some d))(h:Q d L):W2 (AA i Z L) Q:=⟨d,L,by unfold AA;rw[e],h⟩
def UV{o:G2}(h:W2 (f Z L) λx L1=>W2 (g Z L1) λy L2=>W2 (o x y L2) Q):W2 (AE o f g Z L) Q:=by obtain⟨x,L1,e1,y,L2,e2,z,L3,e3,q⟩:=h;exact⟨z,L3,by unfold AE;rw[e1,AT,e2,AT];exact e3,q⟩
def AID{o:G1}(h:W2 (f Z L) λx L1=>W2 (o x L1) Q):W2 (BG o f Z L) Q:=by obtain⟨x,L1,e1,z,L3,e3,q⟩:=h;exact⟨z,L3,by unfold BG;rw[e1,AT];exact e3,q⟩
def AIR(h:W2 (f Z L) λd L1=>Jl d λb=>QT b L1):W2 (AS f Z L) QT:=by obtain⟨x,L1,e1,b,rfl,q⟩:=h;exact⟨b,L1,by unfold AS;rw[e1];rfl,q⟩
def AIK(h:W2 (t Z L) λb L1=>QT (!b) L1):W2 (Cv t Z L) QT:=by obtain⟨x,L1,e1,q⟩:=h;exact⟨_,L1,by unfold Cv;rw[e1];rfl,q⟩
def AIU(h:W2 (t Z L) λb L1=>Br b (W2 (u Z L1) QT) (QT false L1)):W2 (IC t u Z L) QT:=by
 obtain⟨x,L1,e1,q⟩:=h;cases x
 .exact⟨false,L1,by unfold IC;rw[e1];rfl,q⟩
 .obtain⟨y,L2,e2,q⟩:=q;exact⟨y,L2,by unfold IC;rw[e1];exact e2,q⟩
def AII(h:W2 (t Z L) λb L1=>Br b (QT true L1) (W2 (u Z L1) QT)):W2 (CS t u Z L) QT:=by
 obtain⟨x,L1,e1,q⟩:=h;cases x
 .obtain⟨y,L2,e2,q⟩:=q;exact⟨y,L2,by unfold CS;rw[e1];exact e2,q⟩
 .exact⟨true,L1,by unfold CS;rw[e1];rfl,q⟩
def AIF(h:QT true L):W2 (Co Z L) QT:=⟨_,_,rfl,h⟩
def AIT(h:W2 (f Z L) λd L1=>Jl d λb=>Br b (W2 (g Z L1) Q) (Q (.bl false) L1)):W2 (ER f g Z L) Q:=by
 obtain⟨x,L1,e1,b,rfl,q⟩:=h;cases b
 .exact⟨_,L1,by unfold ER;rw[e1];rfl,q⟩
 .obtain⟨y,L2,e2,q⟩:=q;exact⟨y,L2,by unfold ER;rw[e1];exact e2,q⟩
def AIH(h:W2 (f Z L) λd L1=>Jl d λb=>Br b (Q (.bl true) L1) (W2 (g Z L1) Q)):W2 (JC f g Z L) Q:=by
 obtain⟨x,L1,e1,b,rfl,q⟩:=h;cases b
 .obtain⟨y,L2,e2,q⟩:=q;exact⟨y,L2,by unfold JC;rw[e1];exact e2,q⟩
 .exact⟨_,L1,by unfold JC;rw[e1];rfl,q⟩
def AIJ(h:W2 (f Z L) λd L1=>Jl d λb=>Q (.bl (!b)) L1):W2 (JD f Z L) Q:=by obtain⟨x,L1,e1,b,rfl,q⟩:=h;exact⟨_,L1,by unfold JD;rw[e1];rfl,q⟩
def AIO(h:W2 (t Z L) λb L1=>Br b (W2 (f Z L1) Q) (W2 (g Z L1) Q)):W2 (HU t f g Z L) Q:=by
 obtain⟨x,L1,e1,q⟩:=h;cases x
 .obtain⟨y,L2,e2,q⟩:=q;exact⟨y,L2,by unfold HU;rw[e1];exact e2,q⟩
 .obtain⟨y,L2,e2,q⟩:=q;exact⟨y,L2,by unfold HU;rw[e1];exact e2,q⟩
def US(h:QA [] L):W2 (AG Z L) QA:=⟨_,_,rfl,h⟩
def UU(h:W2 (f Z L) λd L1=>W2 (a Z L1) λds L2=>QA (d::ds) L2):W2 (AB f a Z L) QA:=by obtain⟨x,L1,e1,y,L2,e2,q⟩:=h;exact⟨_,L2,by unfold AB;rw[e1,AT,e2];rfl,q⟩
def AIE(h:W2 (a Z L) λds L1=>Sq ds.length (Q (.tup ds) L1)):W2 (CF a Z L) Q:=by obtain⟨x,L1,e1,hz,q⟩:=h;exact⟨_,L1,by unfold CF;rw[e1,AT];simp only;rw[if_pos hz],q⟩
def AAX(h:W2 (a Z L) λds L1=>Sq ds.length (Q (.ref L1.length) (L1++[.lst ds]))):W2 (Bh a Z L) Q:=by obtain⟨x,L1,e1,hz,q⟩:=h;exact⟨_,_,by unfold Bh;rw[e1,AT];simp only;rw[if_pos hz],q⟩
def AIQ{o:GL}(h:W2 (a Z L) λds L1=>W2 (o ds L1) Q):W2 (AK o a Z L) Q:=by obtain⟨x,L1,e1,y,L2,e2,q⟩:=h;exact⟨_,L2,by unfold AK;rw[e1,AT];exact e2,q⟩
def AIM{T:String}{o:GM}(h:W2 (f Z L) λx L1=>OJ T x L1 (W2 (a Z L1) λys L2=>W2 (o x ys L2) Q)):W2 (Bt T o f a Z L) Q:=by obtain⟨x,L1,e1,ty,y,L2,e2,z,L3,e3,q⟩:=h;exact⟨_,L3,by unfold Bt;rw[e1,AT];simp only;rw[if_pos ty,e2,AT];exact e3,q⟩
def AIL(h:QO none L):W2 (Dl Z L) QO:=⟨_,_,rfl,h⟩
def AIS(h:W2 (f Z L) λd L1=>Sr d λi=>QO (some i) L1):W2 (Bo f Z L) QO:=by obtain⟨x,L1,e1,b,rfl,q⟩:=h;exact⟨_,L1,by unfold Bo;rw[e1];rfl,q⟩
def AIG{fl fh:OF}(h:W2 (f Z L) λx L1=>W2 (fl Z L1) λlo L2=>W2 (fh Z L2) λhi L3=>W2 (IT x lo hi L3) Q):W2 (CO f fl fh Z L) Q:=by obtain⟨x,L1,e1,y,L2,e2,z,L3,e3,v,L4,e4,q⟩:=h;exact⟨_,L4,by unfold CO;rw[e1,AT,e2,AT,e3,AT];exact e4,q⟩
def AAZ{fi:IF}{n:Nat}{idx:ANJ}{gf:GF}{c:TF}{elt:EF}(h:WI (fi Z L) λitems ok L1=>W1 (DR ok gf c elt L1.length items (Hw n idx Z) (L1++[.lst []])) λL2=>Q (.ref L1.length) L2):W2 (Bw fi n idx gf c elt Z L) Q:=by obtain⟨x,k,L1,e1,L2,e2,q⟩:=h;exact⟨_,_,by unfold Bw;rw[e1,AT];simp only;rw[e2];rfl,q⟩
end
section
variable {Q:List D->(AC->Bool)->AC->Prop}{f:EF}{a:AF}
def AH5(h:W2 (f Z L) λd L1=>WI ((JK d L1).bind λJ=>some (J,L1)) Q):WI (Ba f Z L) Q:=by obtain⟨x,L1,e1,y,k,L2,e2,q⟩:=h;exact⟨y,k,L2,by unfold Ba;rw[e1,AT];exact e2,q⟩
def AHx{xs:List D}(h:Q xs (λ_=>true) L):WI ((JK (.tup xs) L).bind λJ=>some (J,L)) Q:=⟨_,_,_,rfl,h⟩
def AH0{k:Nat}{xs:List D}(e:L[k]?=some (.lst xs))(h:Q xs (λL'=>decide (L'[k]?=some (.lst xs))) L):WI ((JK (.ref k) L).bind λJ=>some (J,L)) Q:=⟨_,_,_,by simp only[JK,e];rfl,h⟩
def AHz(h:W2 (a Z L) λds L1=>∃j:Int,ds=[.int j]/\(j<=4611686018427387903/\-4611686018427387904<=j)/\Q (El 0 j.toNat) (λ_=>true) L1):WI (Fk a Z L) Q:=by obtain⟨x,L1,e1,j,rfl,hj,q⟩:=h;exact⟨_,_,L1,by unfold Fk;rw[e1,AT];simp only;rw[if_pos hj],q⟩
def AHy(h:W2 (a Z L) λds L1=>∃i j:Int,ds=[.int i,.int j]/\((i<=4611686018427387903/\-4611686018427387904<=i)/\(j<=4611686018427387903/\-4611686018427387904<=j))/\Q (El i (j-i).toNat) (λ_=>true) L1):WI (Kw a Z L) Q:=by obtain⟨x,L1,e1,i,j,rfl,hj,q⟩:=h;exact⟨_,_,L1,by unfold Kw;rw[e1,AT];simp only;rw[if_pos hj],q⟩
def AH4(h:W2 (a Z L) λds L1=>∃y:Str,ds=[.str y]/\Q (FD (sgs y)) (λ_=>true) L1):WI (Ky a Z L) Q:=by obtain⟨x,L1,e1,y,rfl,q⟩:=h;exact⟨_,_,L1,by unfold Ky;rw[e1,AT],q⟩
end
def WS.inx{o:Option Gg}{nx:Fm->AC->Prop}{rt:ANn}{bk ct:Fm->AC->Prop}{Z':Fm}{L':AC}(e:o=some (.next Z' L'))(q:nx Z' L'):WS o nx rt bk ct:=⟨_,e,q⟩
def WS.irt{o:Option Gg}{nx:Fm->AC->Prop}{rt:ANn}{bk ct:Fm->AC->Prop}{d:D}{L':AC}(e:o=some (.ret d L'))(q:rt d L'):WS o nx rt bk ct:=⟨_,e,q⟩
def WS.ibk{o:Option Gg}{nx:Fm->AC->Prop}{rt:ANn}{bk ct:Fm->AC->Prop}{Z':Fm}{L':AC}(e:o=some (.brk Z' L'))(q:bk Z' L'):WS o nx rt bk ct:=⟨_,e,q⟩
def WS.ict{o:Option Gg}{nx:Fm->AC->Prop}{rt:ANn}{bk ct:Fm->AC->Prop}{Z':Fm}{L':AC}(e:o=some (.cont Z' L'))(q:ct Z' L'):WS o nx rt bk ct:=⟨_,e,q⟩
section
variable {nx:Fm->AC->Prop}{rt:ANn}{bk ct:Fm->AC->Prop}{f g:SF}{t:TF}{e:EF}
def AHn(h:nx Z L):WS (As Z L) nx rt bk ct:=⟨_,rfl,h⟩
def AHs(h:bk Z L):WS (SV Z L) nx rt bk ct:=⟨_,rfl,h⟩
def Mr(h:WS (f Z L) (λZ' L'=>WS (g Z' L') nx rt bk ct) rt bk ct):WS (AJ f g Z L) nx rt bk ct:=by
 obtain⟨x,e1,q⟩:=h
 cases x with
 |next Z' L'=>obtain⟨y,e2,q⟩:=q;exact⟨y,by unfold AJ;rw[e1];exact e2,q⟩
 |ret d L'=>exact WS.irt (by unfold AJ;rw[e1];rfl) q
 |brk d L'=>exact WS.ibk (by unfold AJ;rw[e1];rfl) q
 |cont d L'=>exact WS.ict (by unfold AJ;rw[e1];rfl) q
def Mq{i:Nat}(h:W2 (e Z L) λd L'=>nx (Z.set i (some d)) L'):WS (AO i e Z L) nx rt bk ct:=by obtain⟨x,L1,e1,q⟩:=h;exact WS.inx (by unfold AO;rw[e1];rfl) q
def AHk(h:W2 (e Z L) rt):WS (AU e Z L) nx rt bk ct:=by obtain⟨x,L1,e1,q⟩:=h;exact WS.irt (by unfold AU;rw[e1];rfl) q
def AHq(h:W2 (e Z L) λ_ L'=>nx Z L'):WS (DU e Z L) nx rt bk ct:=by obtain⟨x,L1,e1,q⟩:=h;exact WS.inx (by unfold DU;rw[e1];rfl) q
def AHo(h:W2 (t Z L) λb L'=>Br b (WS (f Z L') nx rt bk ct) (WS (g Z L') nx rt bk ct)):WS (An t f g Z L) nx rt bk ct:=by
 obtain⟨x,L1,e1,q⟩:=h;cases x
 .obtain⟨y,e2,q⟩:=q;exact⟨y,by unfold An;rw[e1];exact e2,q⟩
 .obtain⟨y,e2,q⟩:=q;exact⟨y,by unfold An;rw[e1];exact e2,q⟩
def AHp{fi:IF}{gf:GF}{body:SF}(h:WI (fi Z L) λitems ok L1=>WS (Dg ok gf body items Z L1) nx rt bk ct):WS (Bq fi gf body Z L) nx rt bk ct:=by obtain⟨x,k,L1,e1,y,e2,q⟩:=h;exact⟨y,by unfold Bq;rw[e1,AT];exact e2,q⟩
def ws_loop_nil{ok:AC->Bool}{gf:GF}{body:SF}(hk:ok L=true)(h:nx Z L):WS (Dg ok gf body [] Z L) nx rt bk ct:=WS.inx (by unfold Dg;rw[if_pos hk]) h
def Hf{ok:AC->Bool}{gf:GF}{body:SF}{x:D}{xs:List D}(hk:ok L=true)(h:W1 (gf x Z) λZ1=>WS (body Z1 L) (λZ2 L2=>WS (Dg ok gf body xs Z2 L2) nx rt bk ct) rt nx (λZ2 L2=>WS (Dg ok gf body xs Z2 L2) nx rt bk ct)):WS (Dg ok gf body (x::xs) Z L) nx rt bk ct:=by
 obtain⟨Z1,e1,y,e2,q⟩:=h
 cases y with
 |next Z2 L2=>obtain⟨z,e3,q⟩:=q;exact⟨z,by unfold Dg;rw[if_pos hk,e1,AT,e2];exact e3,q⟩
 |cont Z2 L2=>obtain⟨z,e3,q⟩:=q;exact⟨z,by unfold Dg;rw[if_pos hk,e1,AT,e2];exact e3,q⟩
 |ret d L2=>exact WS.irt (by unfold Dg;rw[if_pos hk,e1,AT,e2];rfl) q
 |brk Z2 L2=>exact WS.inx (by unfold Dg;rw[if_pos hk,e1,AT,e2];rfl) q
def Bf{f g:SF}(P:(Fm->AC->Prop)->Prop)(h1:∀C,P C->WS (f Z L) C rt bk ct)(h2:P λZ' L'=>WS (g Z' L') nx rt bk ct):WS (AJ f g Z L) nx rt bk ct:=Mr (h1 _ h2)
def FE{C:Fm->AC->Prop}{L':AC}(h:C Z L)(e:L'=L):C Z L':=e▸h
def Cn{ok:AC->Bool}{gf:GF}{body:SF}(I:Nat->(Fm->AC->Prop)->Prop)(items:List D)(j:Nat)(Z:Fm)(L:AC)(h0:∀C:Fm->AC->Prop,I j C->C Z L)
  (st:∀i x,items[i]?=some x->∀C C':Fm->AC->Prop,(∀Z L,ok L=true->W1 (gf x Z) (λZ1=>WS (body Z1 L) C rt nx C)->C' Z L)->I (j+i+1) C->I (j+i) C')
  (fin:∀C':Fm->AC->Prop,(∀Z L,ok L=true->nx Z L->C' Z L)->I (j+items.length) C'):WS (Dg ok gf body items Z L) nx rt bk ct:=by
 refine h0 (λZ L=>WS (Dg ok gf body items Z L) nx rt bk ct) ?_;clear h0
 induction items generalizing j with
 |nil=>exact fin _ λZ L h1 h2=>ws_loop_nil h1 h2
 |cons y ys ih =>
  refine st 0 y rfl _ _ (λZ L h1 h2=>Hf h1 h2) (ih (j+1) (λi z hz C C'=>?_) λC'=>?_)
  .have:=st (i+1) z (by simpa using hz) C C'
   rwa [show j+(i+1)=j+1+i by omega] at this
  .have:=fin C'
   rwa [Dd,show j+(ys.length+1)=j+1+ys.length by omega] at this
end
section
variable {Q:Fm->Prop}{gf:GF}{gs:Eu}
def AAS{i:Nat}{d:D}(h:Q (Z.set i (some d))):W1 (Ak i d Z) Q:=⟨_,rfl,h⟩
def AH6{n:Nat}{ds:List D}(e:ds.length=n)(h:W1 (gs ds Z) Q):W1 (En n gs (.tup ds) Z) Q:=by obtain⟨Z',e1,q⟩:=h;exact⟨Z',by unfold En;simp only;rw[if_pos e];exact e1,q⟩
def AH7(h:Q Z):W1 (Eb [] Z) Q:=⟨_,rfl,h⟩
def AH8{d:D}{ds:List D}(h:W1 (gf d Z) λZ'=>W1 (gs ds Z') Q):W1 (Bn gf gs (d::ds) Z) Q:=by obtain⟨Z1,e1,Z2,e2,q⟩:=h;exact⟨Z2,by unfold Bn;simp only;rw[e1];exact e2,q⟩
end
def wc_nil{ok:AC->Bool}{g:GF}{c:TF}{elt:EF}{k:Nat}{Q:AC->Prop}(hk:ok L=true)(h:Q L):W1 (DR ok g c elt k [] Z L) Q:=⟨_,by unfold DR;rw[if_pos hk],h⟩
def AAT{ok:AC->Bool}{g:GF}{c:TF}{elt:EF}{k:Nat}{x:D}{xs:List D}{Q:AC->Prop}(hk:ok L=true)
  (h:W1 (g x Z) λZ1=>W2 (c Z1 L) λb L1=>Br b (W2 (elt Z1 L1) λd L2=>∃ys,L2[k]?=some (.lst ys)/\ys.length<16777216/\W1 (DR ok g c elt k xs Z1 (L2.set k (.lst (ys++[d])))) Q) (W1 (DR ok g c elt k xs Z1 L1) Q)) :
  W1 (DR ok g c elt k (x::xs) Z L) Q:=by
 obtain⟨Z1,e1,b,L1,e2,q⟩:=h;cases b
 .obtain⟨z,e3,q⟩:=q;exact⟨z,by unfold DR;rw[if_pos hk,e1,AT,e2,AT];exact e3,q⟩
 .obtain⟨d,L2,e3,ys,e4,hz,z,e5,q⟩:=q;refine⟨z,?_,q⟩;unfold DR;rw[if_pos hk,e1,AT,e2,AT];simp only[if_true];rw[e3,AT];simp only;rw[e4];simp only;rw[if_pos hz];exact e5
def Fc{ok:AC->Bool}{g:GF}{c:TF}{elt:EF}{k:Nat}{Q:AC->Prop}(I:Nat->(Fm->AC->Prop)->Prop)(items:List D)(j:Nat)(Z:Fm)(L:AC)(h0:∀C:Fm->AC->Prop,I j C->C Z L)
  (st:∀i x,items[i]?=some x->∀C C':Fm->AC->Prop,(∀Z L,ok L=true->(W1 (g x Z) λZ1=>W2 (c Z1 L) λb L1=>Br b (W2 (elt Z1 L1) λd L2=>∃ys,L2[k]?=some (.lst ys)/\ys.length<16777216/\C Z1 (L2.set k (.lst (ys++[d])))) (C Z1 L1))->C' Z L)->I (j+i+1) C->I (j+i) C')
  (fin:∀C':Fm->AC->Prop,(∀Z L,ok L=true->Q L->C' Z L)->I (j+items.length) C'):W1 (DR ok g c elt k items Z L) Q:=by
 refine h0 (λZ L=>W1 (DR ok g c elt k items Z L) Q) ?_;clear h0
 induction items generalizing j with
 |nil=>exact fin _ λZ L h1 h2=>wc_nil h1 h2
 |cons y ys ih =>
  refine st 0 y rfl _ _ (λZ L h1 h2=>AAT h1 h2) (ih (j+1) (λi z hz C C'=>?_) λC'=>?_)
  .have:=st (i+1) z (by simpa using hz) C C'
   rwa [show j+(i+1)=j+1+i by omega] at this
  .have:=fin C'
   rwa [Dd,show j+(ys.length+1)=j+1+ys.length by omega] at this
def Ms{g:GF}{c:TF}{elt:EF}{L0:AC}{Q:AC->Prop}(P:Fm->Prop)(f:D->Option D)(items:List D)(Z:Fm)
  (hp:P Z) (hz:items.length<=16777216)
  (h:∀x∈items,∀Z,P Z->W1 (g x Z) λZ1=>P Z1/\∀acc,W2 (c Z1 (L0++[.lst acc])) λb L1=>L1=L0++[.lst acc]/\Br b (W2 (elt Z1 (L0++[.lst acc])) λd L2=>L2=L0++[.lst acc]/\f x=some d) (f x=none))
  (q:Q (L0++[.lst (items.filterMap f)])):W1 (DR (λ_=>true) g c elt L0.length items Z (L0++[.lst []])) Q:=by
 refine Fc (λj C=>∀Z,P Z->C Z (L0++[Ob.lst ((items.take j).filterMap f)])) items 0 Z _ (λC k=>k _ hp) ?_ ?_
 .rintro i x e C C' fi kk Z hp;refine fi _ _ rfl ?_;have hi:i<items.length:=(Ax.mp e).1;have hx:x∈items:=Bk e;obtain⟨Z1,e1,hp1,h2⟩:=h x hx Z hp;obtain⟨b,L1,e2,rfl,q⟩:=h2 ((items.take (0+i)).filterMap f);refine⟨Z1,e1,b,_,e2,?_⟩
  have ht:items.take (0+i+1)=items.take (0+i)++[x]:=by rw[BR,Gk,e];rfl
  cases b
  .have q':f x=none:=q;refine FE (kk _ hp1) ?_;rw[ht,List.filterMap_append];simp[q']
  .obtain⟨d,L2,e3,rfl,q⟩:=q;refine⟨d,_,e3,(items.take (0+i)).filterMap f,by simp,?_,FE (kk _ hp1) ?_⟩
   .refine Nat.lt_of_le_of_lt (List.length_filterMap_le _ _) ?_;simp;omega
   .rw[ht,List.filterMap_append];simp[q]
 .rintro C' fi Z _;exact fi _ _ rfl (by simpa using q)
section
variable {Q:ANn}{B:SF}{N:ANE}{n:Nat}{xs:List D}
def BZ(hn:xs.length=n)(h:WS (B (Fe N xs) L) (λ_ L2=>L <+: L2/\Q .non L) (λd L2=>d.noRef=true/\L <+: L2/\Q d L) (λ_ _=>False) (λ_ _=>False)):W2 (Am B N n xs L) Q:=by
 obtain⟨x,e,q⟩:=h;have tk:∀L2:AC,L <+: L2->L2.take L.length=L:=λL2 hp=>by obtain⟨M,rfl⟩:=hp;simp
 cases x with
 |next Z L2=>exact⟨_,_,by unfold Am;rw[if_pos hn,e];simp only;rw[if_pos (tk _ q.1)],q.2⟩
 |ret d L2=>exact⟨_,_,by unfold Am;rw[if_pos hn,e];simp only;rw[if_pos ⟨q.1,tk _ q.2.1⟩],q.2.2⟩
 |brk Z L2=>exact q.elim
 |cont Z L2=>exact q.elim
def FN(hn:xs.length=n)(h:WS (B (Fe N xs) L) (λ_ _=>False) (λd L2=>d.noRef=false/\Q d L2) (λ_ _=>False) (λ_ _=>False)):W2 (Am B N n xs L) Q:=by
 obtain⟨x,e,q⟩:=h
 cases x with
 |next Z L2=>exact q.elim
 |ret d L2=>exact⟨_,_,by unfold Am;rw[if_pos hn,e];simp only;rw[if_neg (λh=>by rw[q.1] at h;cases h.1)],q.2⟩
 |brk Z L2=>exact q.elim
 |cont Z L2=>exact q.elim
end
section
variable {Q:ANn}{i j:Int}{x y:Str}
def AFt(h:Q (.int (i+j)) L):W2 (BB (.int i) (.int j) L) Q:=⟨_,_,rfl,h⟩
def Nk(hz:x.length+y.length<=16777216)(h:Q (.str (x++y)) L):W2 (BB (.str x) (.str y) L) Q:=⟨_,_,by unfold BB;simp only;rw[if_pos hz],h⟩
def Nl{a b:Nat}{xs ys:List D}(e1:L[a]?=some (.lst xs))(e2:L[b]?=some (.lst ys))(hz:xs.length+ys.length<=16777216)(h:Q (.ref L.length) (L++[.lst (xs++ys)])):W2 (BB (.ref a) (.ref b) L) Q:=⟨_,_,by unfold BB;simp only;rw[e1,e2];simp only;rw[if_pos hz],h⟩
def AJw(h:Q (.int (i-j)) L):W2 (FT (.int i) (.int j) L) Q:=⟨_,_,rfl,h⟩
def Cs(hc:cMul i j=true)(h:Q (.int (i*j)) L):W2 (CT (.int i) (.int j) L) Q:=⟨_,_,by unfold CT;simp only;rw[if_pos hc],h⟩
def AFj(hc:JE x j=true)(h:Q (.str (Txt.mul x j)) L):W2 (CT (.str x) (.int j) L) Q:=⟨_,_,by unfold CT;simp only;rw[if_pos hc],h⟩
def AFq(hc:LQ i j=true)(h:Q (.int (i / j)) L):W2 (Bm (.int i) (.int j) L) Q:=⟨_,_,by unfold Bm gI;simp only;rw[if_pos hc],h⟩
def AFk(hc:Ny i j=true)(h:Q (.int (i % j)) L):W2 (BE (.int i) (.int j) L) Q:=⟨_,_,by unfold BE gI;simp only;rw[if_pos hc],h⟩
def AFi(hc:SU i j=true)(h:Q (.int (i ^ j.toNat)) L):W2 (GS (.int i) (.int j) L) Q:=⟨_,_,by unfold GS gI;simp only;rw[if_pos hc],h⟩
def AJ3(h:Q (.int (-i)) L):W2 (HZ (.int i) L) Q:=⟨_,_,rfl,h⟩
def AJ8(h:Q (.bl (decide (i<j))) L):W2 (gLt (.int i) (.int j) L) Q:=⟨_,_,rfl,h⟩
def AKF(h:Q (.bl (decide (i<=j))) L):W2 (LF (.int i) (.int j) L) Q:=⟨_,_,rfl,h⟩
def AKK(h:Q (.bl (decide (j<i))) L):W2 (Eo (.int i) (.int j) L) Q:=⟨_,_,rfl,h⟩
def AKL(h:Q (.bl (decide (j<=i))) L):W2 (Nr (.int i) (.int j) L) Q:=⟨_,_,rfl,h⟩
def LM{p q:Prop}[Decidable p][Decidable q](h:p↔q):decide p=decide q:=by
 by_cases a:p
 .rw[decide_eq_true a,decide_eq_true (h.mp a)]
 .rw[decide_eq_false a,decide_eq_false (λb=>a (h.mpr b))]
def SH{a b:D}(hs:GI a b=true)(h:Q (.bl (decide (a=b))) L):W2 (Bj a b L) Q:=⟨_,_,by unfold Bj;rw[if_pos hs],h⟩
def XX{a b:D}(hs:GI a b=true)(h:Q (.bl (!decide (a=b))) L):W2 (Fo a b L) Q:=⟨_,_,by unfold Fo;rw[if_pos hs],h⟩
def AKP(h:Q (.bl (decide (i=j))) L):W2 (Bj (.int i) (.int j) L) Q:=SH rfl (by rw[LM (show D.int i=D.int j↔i=j by simp)];exact h)
def AKN(h:Q (.bl (decide (x=y))) L):W2 (Bj (.str x) (.str y) L) Q:=SH rfl (by rw[LM (show D.str x=D.str y↔x=y by simp)];exact h)
def AJ5(h:Q (.bl (!decide (i=j))) L):W2 (Fo (.int i) (.int j) L) Q:=XX rfl (by rw[LM (show D.int i=D.int j↔i=j by simp)];exact h)
def AJ4(h:Q (.bl (!decide (x=y))) L):W2 (Fo (.str x) (.str y) L) Q:=XX rfl (by rw[LM (show D.str x=D.str y↔x=y by simp)];exact h)
def AKO(h:Q (.bl false) L):W2 (Bj .non (.str y) L) Q:=SH rfl (by rw[decide_eq_false (by intro z;cases z)];exact h)
def AKH{a:D}(h:Q (.bl (HS a)) L):W2 (JT a .non L) Q:=⟨_,_,rfl,h⟩
def AKG{a:D}(h:Q (.bl (!HS a)) L):W2 (IU a .non L) Q:=⟨_,_,rfl,h⟩
def AKJ(h:Q (.bl (Fj x y)) L):W2 (Ca false (.str x) (.str y) L) Q:=⟨_,_,rfl,h⟩
def Nq{neg:Bool}{d e:D}{ys:List D}(h0:∀i j,d=.str i->e=.str j->False)(e1:Cg e L=some ys)(hf:(BD d&&ys.all BD)=true)(h:Q (.bl (if neg then !Cw d ys else Cw d ys)) L):W2 (Ca neg d e L) Q:=by
 refine⟨_,_,?_,h⟩;unfold Ca;split
 .exact(h0 _ _ rfl rfl).elim
 .rw[e1];simp only;rw[if_pos hf]
def Nj{d:D}{ys:List D}(hf:(BD d&&ys.all BD)=true)(h:Q (.bl (Cw d ys)) L):W2 (Ca false d (.tup ys) L) Q:=Nq (λ_ _ _ z=>by cases z) rfl hf h
def Nh{d:D}{ys:List D}(hf:(BD d&&ys.all BD)=true)(h:Q (.bl (!Cw d ys)) L):W2 (Ca true d (.tup ys) L) Q:=Nq (λ_ _ _ z=>by cases z) rfl hf h
def AFp{d:D}{k:Nat}{ys:List D}(e:L[k]?=some (.lst ys))(hf:(BD d&&ys.all BD)=true)(h:Q (.bl (Cw d ys)) L):W2 (Ca false d (.ref k) L) Q:=Nq (λ_ _ _ z=>by cases z) (by simp[Cg,e]) hf h
def Ni{d:D}{k:Nat}{ys:List D}(e:L[k]?=some (.lst ys))(hf:(BD d&&ys.all BD)=true)(h:Q (.bl (!Cw d ys)) L):W2 (Ca true d (.ref k) L) Q:=Nq (λ_ _ _ z=>by cases z) (by simp[Cg,e]) hf h
def Rz{c:Nat}(e:atI x.cps.toList i=some c)(h:Q (.str ⟨#[c]⟩) L):W2 (AQ (.str x) (.int i) L) Q:=⟨_,_,by unfold AQ;simp only;rw[e],h⟩
def XT{xs:List D}{d:D}(e:atI xs i=some d)(h:Q d L):W2 (AQ (.tup xs) (.int i) L) Q:=⟨_,_,by unfold AQ;simp only[Cg];rw[e],h⟩
def XU{xs:List D}{d:D}(e:atI xs i=some d)(h:Q d L):W2 (AQ (.fz xs) (.int i) L) Q:=⟨_,_,by unfold AQ;simp only[Cg];rw[e],h⟩
def Bp{k:Nat}{xs:List D}{d:D}(e1:L[k]?=some (.lst xs))(e:atI xs i=some d)(h:Q d L):W2 (AQ (.ref k) (.int i) L) Q:=⟨_,_,by unfold AQ;simp only[Cg,e1];rw[e],h⟩
def AJz{lo hi:Option Int}(h:Q (.str (Txt.slice x lo hi)) L):W2 (IT (.str x) lo hi L) Q:=⟨_,_,rfl,h⟩
def AJ0{lo hi:Option Int}{k:Nat}{xs:List D}(e:L[k]?=some (.lst xs))(h:Q (.ref L.length) (L++[.lst (cutD xs lo hi)])):W2 (IT (.ref k) lo hi L) Q:=⟨_,_,by unfold IT;simp only[e],h⟩
def AKB(h:Q (.int (x.length:Int)) L):W2 (BI [.str x] L) Q:=⟨_,_,rfl,h⟩
def AKA{xs:List D}(h:Q (.int (xs.length:Int)) L):W2 (BI [.tup xs] L) Q:=⟨_,_,rfl,h⟩
def AKD{xs:List D}(h:Q (.int (xs.length:Int)) L):W2 (BI [.fz xs] L) Q:=⟨_,_,rfl,h⟩
def AKC{k:Nat}{xs:List D}(e:L[k]?=some (.lst xs))(h:Q (.int (xs.length:Int)) L):W2 (BI [.ref k] L) Q:=⟨_,_,by simp only[BI,Cg,e],h⟩
def AKQ(h:Q (.int (if i<0 then -i else i)) L):W2 (LJ [.int i] L) Q:=⟨_,_,rfl,h⟩
def AJ7(h:Q (.int (if j>i then j else i)) L):W2 (Np [.int i,.int j] L) Q:=⟨_,_,rfl,h⟩
def AJ6(h:Q (.int (if j<i then j else i)) L):W2 (JR [.int i,.int j] L) Q:=⟨_,_,rfl,h⟩
def AKI{b:Bool}(h:Q (.int (if b then 1 else 0)) L):W2 (LH [.bl b] L) Q:=⟨_,_,rfl,h⟩
def AJv{k:Nat}{xs:List D}(e:L[k]?=some (.lst xs))(h:Q (.tup xs) L):W2 (FS [.ref k] L) Q:=⟨_,_,by simp only[FS,Cg,e],h⟩
def XV{d:D}{t T:String}{b:Bool}(hT:["int","str","bool","list","tuple","dict"].contains T=true)(e:FO d L=some t)(eb:JN t T=b)(h:Q (.bl b) L):W2 (DH [d,.ty T] L) Q:=⟨_,_,by simp only[DH];rw[if_pos hT,e,<-eb];rfl,h⟩
def XW{k:Nat}{ds:List D}{bs:List Bool}(e:L[k]?=some (.lst ds))(e2:blsD ds=some bs)(h:Q (.bl (bs.all id)) L):W2 (JU [.ref k] L) Q:=⟨_,_,by simp only[JU,e,e2],h⟩
def AFo{k:Nat}{ds:List D}{ys:ANE}(e:L[k]?=some (.lst ds))(e2:BW ds=some ys)(hz:(ys.map (·.length)).sum+ys.length*x.length<=16777216)(h:Q (.str (Txt.join x ys)) L):W2 (LG (.str x) [.ref k] L) Q:=⟨_,_,by simp only[LG,Cg,e,e2];rw[if_pos hz],h⟩
def GR{k:Nat}{ds:List D}{d:D}(e:L[k]?=some (.lst ds))(hz:ds.length<16777216)(h:Q .non (L.set k (.lst (ds++[d])))):W2 (Ep (.ref k) [d] L) Q:=⟨_,_,by simp only[Ep,e];rw[if_pos hz],h⟩
def AJ1{f:Str->Bool}(h:Q (.bl (f x)) L):W2 (HY f (.str x) [] L) Q:=⟨_,_,rfl,h⟩
def Nf{f:Str->Str}(hz:(f x).length<=16777216)(h:Q (.str (f x)) L):W2 (gS0s f (.str x) [] L) Q:=⟨_,_,by simp only[gS0s];rw[if_pos hz],h⟩
end
end
def AE2{n:Nat}{p:Prop}(h:Nat.ble n 16777216=true)(hp:p):Sq n p:=⟨Nat.le_of_ble_eq_true h,hp⟩
def AY{U:Type}{L:List U}{a:U}:(L++[a])[L.length]?=some a:=by simp
def AV{U:Type}{L M:List U}{k:Nat}{a:U}(h:L[k]?=some a):(L++M)[k]?=some a:=by rw[Ey (Ax.mp h).1];exact h
def Ch{U:Type}{L:List U}{k:Nat}{a b:U}(h:L[k]?=some b):(L.set k a)[k]?=some a:=by rw[ALx (Ax.mp h).1]
def Fl{U:Type}{L:List U}{k j:Nat}{a b:U}(n:j≠k)(h:L[k]?=some b):(L.set j a)[k]?=some b:=by rw[EI n];exact h
def IJ{U:Type}{L L2:List U}{k:Nat}{a:U}(h:L <+: L2)(hk:L.length<=k):L <+: L2.set k a:=by obtain⟨M,rfl⟩:=h;rw[List.set_append,if_neg (by omega)];exact Ai _ _
section
variable {Q:ANn}{L:AC}
def AJ2(h:Q (.int 10000000000000000000000000000000000000000) L):W2 (GS (.int 10) (.int 40) L) Q:=AFi (by decide) (by have e:(10:Int) ^ (40:Int).toNat=10000000000000000000000000000000000000000:=(by decide);(rw[e];exact h))
end
section
variable {p q:Prop}
def ALS(h:p):Br (HS .non) p q:=h
def ALT{i:Int}(h:q):Br (HS (.int i)) p q:=h
def ALQ{i:List D}(h:q):Br (HS (.tup i)) p q:=h
def ALR{i:Nat}(h:q):Br (HS (.ref i)) p q:=h
end
def SA{Q:ANn}{L:AC}{d:D}{t T:String}(hT:["int","str","bool","list","tuple","dict"].contains T=true)(e:FO d L=some t)(eb:JN t T=true)(h:Q (.bl true) L):W2 (DH [d,.ty T] L) Q:=XV hT e eb h
def FR{Q:ANn}{L:AC}{d:D}{t T:String}(hT:["int","str","bool","list","tuple","dict"].contains T=true)(e:FO d L=some t)(eb:JN t T=false)(h:Q (.bl false) L):W2 (DH [d,.ty T] L) Q:=XV hT e eb h
def AAW{Q:ANn}{B:SF}{N:ANE}{n:Nat}{xs:List D}{L:AC}(hn:xs.length=n)(h:WS (B (Fe N xs) L) (λ_ _=>False) (λd L2=>L <+: L2/\(d.noRef=true->Q d L)/\(d.noRef=false->Q d L2)) (λ_ _=>False) (λ_ _=>False)):W2 (Am B N n xs L) Q:=by
 obtain⟨x,e,q⟩:=h;have tk:∀L2:AC,L <+: L2->L2.take L.length=L:=λL2 hp=>by obtain⟨M,rfl⟩:=hp;simp
 cases x with
 |next Z L2=>exact q.elim
 |ret d L2 =>
  cases hd:d.noRef with
  |true=>exact⟨_,_,by unfold Am;rw[if_pos hn,e];simp only;rw[if_pos ⟨hd,tk _ q.1⟩],q.2.1 hd⟩
  |false=>exact⟨_,_,by unfold Am;rw[if_pos hn,e];simp only;rw[if_neg (λh=>by rw[hd] at h;cases h.1)],q.2.2 hd⟩
 |brk Z L2=>exact q.elim
 |cont Z L2=>exact q.elim
def AI0{j0:Int}{Q:Int->Prop}(hb:j0<=4611686018427387903/\-4611686018427387904<=j0)(h:Q j0):∃j:Int,[D.int j0]=[.int j]/\(j<=4611686018427387903/\-4611686018427387904<=j)/\Q j:=⟨j0,rfl,hb,h⟩
def AIz{i0 j0:Int}{Q:Int->Int->Prop}(hb:(i0<=4611686018427387903/\-4611686018427387904<=i0)/\(j0<=4611686018427387903/\-4611686018427387904<=j0))(h:Q i0 j0) :
  ∃i j:Int,[D.int i0,.int j0]=[.int i,.int j]/\((i<=4611686018427387903/\-4611686018427387904<=i)/\(j<=4611686018427387903/\-4611686018427387904<=j))/\Q i j:=⟨i0,j0,rfl,hb,h⟩
def AKT{y0:Str}{Q:Str->Prop}(h:Q y0):∃y:Str,[D.str y0]=[.str y]/\Q y:=⟨y0,rfl,h⟩
abbrev sg(y:Str)(i:Nat):Str:=⟨#[y.cps.getD i 0]⟩
def AGL(y:Str):FD (sgs y)=(List.range y.cps.size).map λ(i:Nat)=>D.tup [.int (i:Int),.str (sg y i)]:=by
 apply AMH;intro i;rw[Xt,Ar]
 by_cases h:i<y.cps.size
 .rw[AL3 h];simp[sg,h,Array.getD]
 .have h1:y.cps[i]?=none:=by simp;omega
  have h2:(List.range y.cps.size)[i]?=none:=by simp;omega
  rw[h1,h2];rfl
def LK{U β:Type}{f g:U->Option β}:∀{l:List U},(∀x∈l,f x=g x)->l.filterMap f=l.filterMap g
 |[],_=>rfl
 |x::xs,h=>by
  have ih:=LK λy hy=>h y (BA x hy);rw[AL9,AL9,h x Az,ih]
def YZ{U β:Type}(f:U->β)(xs:List U)(i:Int):atI (xs.map f) i=(atI xs i).map f:=by
 unfold atI;rw[Aa]
 cases ixN xs.length i with
 |none=>rfl
 |some j=>simp
def YX{U:Type}{xs:List U}{i:Int}(h:-(xs.length:Int)<=i/\i<xs.length):∃v,atI xs i=some v:=by
 unfold atI ixN
 by_cases h0:0<=i
 .rw[if_pos h0,if_pos h.2];have:i.toNat<xs.length:=by omega
  exact⟨xs[i.toNat],by simp[this]⟩
 .rw[if_neg h0,if_pos h.1];have:(i+xs.length).toNat<xs.length:=by omega
  exact⟨xs[(i+xs.length).toNat],by simp[this]⟩
def YY{U:Type}{xs:List U}{i:Int}{v:U}(h:atI xs i=some v):v∈xs:=by obtain⟨j,_,hj,_⟩:=OC h;exact Bk hj
def OB{U:Type}{xs:List U}{n:Int}(c:Int)(h0:0<n)(h:n<=xs.length):∃v∈xs,atI xs (c % n)=some v:=by have h1:=DN c (b:=n) (by omega);have h2:=EX c h0;obtain⟨v,hv⟩:=YX (xs:=xs) (i:=c % n) ⟨by omega,by omega⟩;exact⟨v,YY hv,hv⟩
def AB7(n:Nat):El 0 n=(List.range n).map λ(i:Nat)=>D.int (i:Int):=by simp[El]
def VV{lo:Int}{n:Nat}{d:D}(h:d∈El lo n):∃i:Nat,i<n/\d=.int (lo+(i:Int)):=by unfold El at h;rw[Aq] at h;obtain⟨i,hi,rfl⟩:=h;exact⟨i,CM.mp hi,rfl⟩
def Km{lo:Int}{n i:Nat}{d:D}(h:(El lo n)[i]?=some d):i<n/\d=.int (lo+(i:Int)):=by
 rw[VW] at h;split at h
 .rename_i hi;cases h;exact⟨hi,rfl⟩
 .cases h
open Builtin.Int in
def RW{a b:Int}{m n:Nat}(ha:intBits a<=m)(hb:intBits b<=n)(h:m+n<=134217728):cMul a b=true:=decide_eq_true (PySem.IntMulOk.of_le ha hb h)
def YR{a:Int}{n:Nat}(h:a.natAbs<2 ^ n):Builtin.Int.intBits a<=n:=PySem.intBits_le_iff.mpr h
def GO{a b:Int}(h:-18446744073709551616<a/\a<18446744073709551616):cMul a b=true:=decide_eq_true (.of_left (intBits_le_64 (by omega) (by omega)))
def Gw{a b:Int}(h:-18446744073709551616<b/\b<18446744073709551616):cMul a b=true:=decide_eq_true (.of_right (intBits_le_64 (by omega) (by omega)))
def HD{ns:ANK}{k:Int}(h0:0<=k)(h1:k<ns.length):∃z∈ns,atI (ns.map D.int) k=some (.int z):=by
 have hk:k.toNat<ns.length:=by omega
 refine⟨ns[k.toNat],AMj _,?_⟩;have e:((k.toNat:Nat):Int)=k:=by omega
 have q:=Di (xs:=ns.map D.int) (j:=k.toNat) (v:=.int ns[k.toNat]) (by simp[hk]);rw[e] at q;exact q
abbrev Ia:ANJ:=[97,98,99,100,101,102,103,104,105,106,107,108,109,110,111,112,113,114,115,116,117,118,119,120,121,122,65,66,67,68,69,70,71,72,73,74,75,76,77,78,79,80,81,82,83,84,85,86,87,88,89,90,48,49,50,51,52,53,54,55,56,57,32,45,46,44,47]
abbrev Sd:Str:="abcdefghijklmnopqrstuvwxyzABCDEFGHIJKLMNOPQRSTUVWXYZ0123456789 -.,/"
abbrev Ay(y:Str):Prop:=∀c∈y.cps.toList,c∈Ia
noncomputable instance (y:Str):Decidable (Ay y):=by unfold Ay;infer_instance
def Ay.at{y:Str}(h:Ay y){i:Nat}(hi:i<y.cps.size):y.cps.getD i 0∈Ia:=by
 have:y.cps.getD i 0=y.cps[i]:=by simp[Array.getD,hi]
 rw[this];exact h _ (by simp)
def Ay.one{c:Nat}(h:c∈Ia):Ay ⟨#[c]⟩:=λz hz=>by
 have:z=c:=by simpa using hz
 rw[this];exact h
def Sb(x y:Str):(x++y).cps.toList=x.cps.toList++y.cps.toList:=by show(x.cps++y.cps).toList=_;simp
def AHG(x y:Str):(x++y).cps.size=x.cps.size+y.cps.size:=by show(x.cps++y.cps).size=_;simp
def OH(x y:Str):(x++y).length=x.length+y.length:=AHG x y
def Ay.app{x y:Str}(hx:Ay x)(hy:Ay y):Ay (x++y):=λc hc=>by
 rw[Sb,Bi] at hc;rcases hc with h|h
 .exact hx c h
 .exact hy c h
def ABc{x:Str}{l u:Option Int}{c:Nat}(h:c∈(Txt.slice x l u).cps.toList):c∈x.cps.toList:=by
 unfold Txt.slice at h;split at h
 .exact h
 .simp only[AMb] at h;obtain⟨j,_,hj⟩:=h;have:=AMt.mp hj;obtain⟨h1,rfl⟩:=this;simp
def Ay.slice{x:Str}(h:Ay x)(l u:Option Int):Ay (Txt.slice x l u):=λc hc=>h c (ABc hc)
def Ay.join:∀{ys:ANE},(∀y∈ys,Ay y)->Ay (Txt.join "" ys):=λ{ys} h=>by
 show Ay (Builtin.Str.glued "" ys);rw[StrLaws.glued_eq_join]
 induction ys with
 |nil=>exact(by decide)
 |cons x r ih =>
  cases r with
  |nil=>exact h x Az
  |cons y r =>
   show Ay (x++("":Str)++Str.join "" (y::r));exact((h x Az).app (by decide)).app (ih λz hz=>h z (BA _ hz))
def WN{c:Nat}:∀(l:List (Array Nat)) (a:Array Nat),c∈(l.foldl (·++·) a).toList->c∈a.toList\/∃b∈l,c∈b.toList
 |[],a,h=>.inl h
 |b::r,a,h=>by
  rw[ALa] at h;rcases WN r _ h with h|⟨b',h1,h2⟩
  .rw[Array.toList_append,Bi] at h;rcases h with h|h
   .exact .inl h
   .exact .inr ⟨b,Az,h⟩
  .exact .inr ⟨b',BA _ h1,h2⟩
def AEO{x:Str}{n:Int}{c:Nat}(h:c∈(Txt.mul x n).cps.toList):c∈x.cps.toList:=by
 unfold Txt.mul at h;split at h
 .simp[Str.empty] at h
 .split at h
  .exact h
  .rcases WN _ _ h with h|⟨b,h1,h2⟩
   .simp at h
   .rw[List.eq_of_mem_replicate h1] at h2;exact h2
def Ay.mul{x:Str}(h:Ay x)(n:Int):Ay (Txt.mul x n):=λc hc=>h c (AEO hc)
def Uy:∀{ds:List D},(∀d∈ds,∃s:Str,d=.str s)->∃ys,BW ds=some ys/\ds=ys.map D.str
 |[],_=>⟨[],rfl,rfl⟩
 |d::ds,h=>by
  obtain⟨s,rfl⟩:=h d Az;obtain⟨ys,e,e2⟩:=Uy λz hz=>h z (BA _ hz);exact⟨s::ys,by simp[BW,e],by simp[<-e2]⟩
def ABL{ys:ANE}{n:Nat}(h:∀y∈ys,y.length<=n):(ys.map (·.length)).sum<=ys.length*n:=by
 induction ys with
 |nil=>simp
 |cons y r ih =>
  have h1:=h y Az;have h2:=ih λz hz=>h z (BA _ hz);simp only[Aj,Ex,Dd,ALg];omega
abbrev GN:Nat->D->Bool
 |0,_=>false
 |n+1,.tup xs=>xs.all (GN n)
 |n+1,.fz xs=>xs.all (GN n)
 |_+1,.ref _=>false
 |_+1,.ty _=>false
 |_+1,_=>true
def Yi:∀{os:List (Option Bool)},(∀o∈os,o=some true)->Fu os=some true
 |[],_=>rfl
 |o::r,h=>by
  have h1:=h o Az;subst h1;rw[Fu,Yi λo ho=>h o (BA _ ho)];rfl
def Zm{xs:List D}{z:D×D}(h:z∈xs.zip xs):z.1=z.2/\z.1∈xs:=by
 induction xs with
 |nil=>simp at h
 |cons x r ih =>
  rw[List.zip_cons_cons] at h;rcases AX.mp h with rfl|h
  .exact⟨rfl,Az⟩
  .exact⟨(ih h).1,BA _ (ih h).2⟩
def Xq:∀(n:Nat) (L:AC) (x:D),GN n x=true->DQ n L x x=some true
 |0,_,_,h=>by cases h
 |n+1,L,x,h=>by
  have seqs:∀xs:List D,xs.all (GN n)=true->Fu ((xs.zip xs).map λz=>DQ n L z.1 z.2)=some true:=λxs hx=>by
   refine Yi λo ho=>?_;rw[Aq] at ho;obtain⟨z,hz,rfl⟩:=ho;obtain⟨e1,e2⟩:=Zm hz;rw[<-e1];exact Xq n L z.1 (Bu.mp hx _ e2)
  rw[Xo]
  cases x with
  |tup xs =>
   simp only[GN] at h;simp[BD,DO,seqs xs h]
  |fz xs =>
   simp only[GN] at h;simp[BD,DO,seqs xs h]
  |ref k=>simp[GN] at h
  |ty k=>simp[GN] at h
  |non=>simp only[BD,if_true];rw[LL rfl]
  |bl b=>simp only[BD,if_true];rw[LL rfl]
  |int b=>simp only[BD,if_true];rw[LL rfl]
  |str b=>simp only[BD,if_true];rw[LL rfl]
section
variable {Q:ANn}{L:AC}
abbrev DW(k:Nat)(L L':AC):Prop:=L.length<=L'.length/\∀j,j≠k->j<L.length->L'[j]?=L[j]?
def DW.refl(k:Nat)(L:AC):DW k L L:=⟨Af _,λ_ _ _=>rfl⟩
def DW.trans{k:Nat}{L L1 L2:AC}(a:DW k L L1)(b:DW k L1 L2):DW k L L2:=⟨CV a.1 b.1,λj h1 h2=>by rw[b.2 j h1 (by have:=a.1;omega),a.2 j h1 h2]⟩
def DW.app(k:Nat)(L M:AC):DW k L (L++M):=⟨by simp,λj _ h=>by rw[Ey h]⟩
def DW.set(k:Nat)(L:AC)(o:Ob):DW k L (L.set k o):=⟨by simp,λj h _=>by rw[EI (Ne.symm h)]⟩
def DW.get{k j:Nat}{L L':AC}{o:Ob}(h:DW k L L')(n:j≠k)(e:L[j]?=some o):L'[j]?=some o:=by rw[h.2 j n (Ax.mp e).1];exact e
def Ql{nx:Fm->AC->Prop}{rt:ANn}{bk ct:Fm->AC->Prop}{ok:AC->Bool}{gf:GF}{body:SF}(P:Fm->Prop)(k m B:Nat)(f:D->List D){items:List D}{Z:Fm}{acc:List D}
  (hk:L[k]?=some (.lst acc)) (hp:P Z) (hm:∀x∈items,(f x).length<=m) (hB:acc.length+items.length*m<=B)
  (turn:∀x∈items,∀Z L' acc',P Z->DW k L L'->L'[k]?=some (.lst acc')->acc'.length<=B->ok L'=true/\W1 (gf x Z) λZ1=>WS (body Z1 L') (λZ2 L2=>P Z2/\DW k L' L2/\L2[k]?=some (.lst (acc'++f x))) rt (λ_ _=>False) (λZ2 L2=>P Z2/\DW k L' L2/\L2[k]?=some (.lst (acc'++f x))))
  (fin:∀Z L',P Z->DW k L L'->L'[k]?=some (.lst (acc++items.flatMap f))->ok L'=true/\nx Z L'):WS (Dg ok gf body items Z L) nx rt bk ct:=by
 refine Cn (λj C=>∀Z L',P Z->DW k L L'->L'[k]?=some (.lst (acc++(items.take j).flatMap f))->C Z L') items 0 Z L (λC q=>q _ _ hp (.refl k L) (by simpa using hk)) ?_ ?_
 .rintro i x hx C C' fi kk Z L' hp hkp hl;have hi:i<items.length:=(Ax.mp hx).1;have hxm:=Bk hx;have ht:items.take (0+i+1)=items.take (0+i)++[x]:=by rw[BR,Gk,hx];rfl
  have hlen:(acc++(items.take (0+i)).flatMap f).length<=B:=by
   have h1:∀(l:List D),(∀x∈l,(f x).length<=m)->(l.flatMap f).length<=l.length*m:=λl=>by
    induction l with
    |nil=>intro _;simp
    |cons y r ih =>
     intro h;have:=ih λz hz=>h z (BA _ hz);have:=h y Az;simp only[Du,By,Dd,ALg];omega
   have h2:=h1 (items.take (0+i)) λx hx=>hm x (ALb hx);have h3:(items.take (0+i)).length*m<=items.length*m:=ALm _ (by simp;omega);rw[By];omega
  obtain⟨h1,Z1,e1,h2⟩:=turn x hxm Z L' _ hp hkp hl hlen;refine fi _ _ h1 ⟨Z1,e1,?_⟩;have go:∀Z2 L2,(P Z2/\DW k L' L2/\L2[k]?=some (.lst ((acc++(items.take (0+i)).flatMap f)++f x)))->C Z2 L2:=λZ2 L2 h=>kk _ _ h.1 (hkp.trans h.2.1) (by rw[h.2.2,ht];simp);exact h2.mono go (λ_ _ h=>h) (λ_ _ h=>h.elim) go
 .rintro C' fi Z L' hp hkp hl;have:=fin Z L' hp hkp (by simpa using hl);exact fi _ _ this.1 this.2
end
section
variable {Z:Fm}{L:AC}{Q:ANn}{nx:Fm->AC->Prop}{rt:ANn}{bk ct:Fm->AC->Prop}
abbrev Sh(d:D)(L:AC)(n:Nat)(gs:Eu)(Z:Fm)(P:Fm->Prop):Prop:=∃ds,Cg d L=some ds/\ds.length=n/\W1 (gs ds Z) P
def AHv{e:EF}{n:Nat}{gs:Eu}(h:W2 (e Z L) λd L'=>Sh d L' n gs Z λZ'=>nx Z' L'):WS (Ic e n gs Z L) nx rt bk ct:=by obtain⟨d,L1,e1,ds,e2,e3,Z',e4,q⟩:=h;exact WS.inx (by unfold Ic;rw[e1,AT];simp only;rw[e2,AT,if_pos e3,e4];rfl) q
def AIV{ds:List D}{n:Nat}{gs:Eu}{P:Fm->Prop}(e:ds.length=n)(h:W1 (gs ds Z) P):Sh (.tup ds) L n gs Z P:=⟨ds,rfl,e,h⟩
def AIW{k:Nat}{ds:List D}{n:Nat}{gs:Eu}{P:Fm->Prop}(e1:L[k]?=some (.lst ds))(e:ds.length=n)(h:W1 (gs ds Z) P):Sh (.ref k) L n gs Z P:=⟨ds,by simp[Cg,e1],e,h⟩
def AHm{fo fi fv:EF}(h:W2 (fv Z L) λv L1=>W2 (fo Z L1) λo L2=>W2 (fi Z L2) λi L3=>W1 (JQ o i v L3) λL4=>nx Z L4):WS (CJ fo fi fv Z L) nx rt bk ct:=by obtain⟨v,L1,e1,o,L2,e2,i,L3,e3,L4,e4,q⟩:=h;exact WS.inx (by unfold CJ;rw[e1,AT,e2,AT,e3,AT,e4];rfl) q
def Ng{k n:Nat}{j:Int}{v:D}{xs:List D}{P:AC->Prop}(e:L[k]?=some (.lst xs))(hn:ixN xs.length j=some n)(h:P (L.set k (.lst (xs.set n v)))):W1 (JQ (.ref k) (.int j) v L) P:=⟨_,by simp only[JQ,e,hn],h⟩
def AIP{g g':G2}{fa fb fc:EF}(h:W2 (fa Z L) λx L1=>W2 (fb Z L1) λy L2=>W2 (g x y L2) λz L3=>Jl z λb=>Br b (W2 (fc Z L3) λw L4=>W2 (g' y w L4) Q) (Q (.bl false) L3)):W2 (IA g g' fa fb fc Z L) Q:=by
 obtain⟨x,L1,e1,y,L2,e2,z,L3,e3,b,rfl,q⟩:=h
 cases b with
 |false=>exact⟨_,_,by unfold IA;rw[e1,AT,e2,AT,e3];rfl,q⟩
 |true =>
  obtain⟨w,L4,e4,d,L5,e5,q⟩:=q;exact⟨_,_,by unfold IA;rw[e1,AT,e2,AT,e3,AT];simp only;rw[e4];exact e5,q⟩
def AFs{xs ys:List D}(h0:xs≠[])(hz:xs.length+ys.length<=16777216)(h:Q (.tup (xs++ys)) L):W2 (BB (.tup xs) (.tup ys) L) Q:=⟨_,_,by unfold BB;simp only;rw[if_neg h0,if_pos hz],h⟩
def g_addTE{ys:List D}(h:Q (.tup ys) L):W2 (BB (.tup []) (.tup ys) L) Q:=⟨_,_,by unfold BB;simp,h⟩
def AJy{lo hi:Option Int}{xs:List D}(h:Q (.tup (cutD xs lo hi)) L):W2 (IT (.tup xs) lo hi L) Q:=⟨_,_,rfl,h⟩
end
section
variable {Q:ANn}{Z:Fm}{L:AC}{nx:Fm->AC->Prop}{rt:ANn}{bk ct:Fm->AC->Prop}{fo fv fe:EF}{af:AF}{cs:ANE}{f c m:Str}
def AKM{k:Nat}{fs:List (Str×D)}{d:D}(e:L[k]?=some (.ins c fs))(hc:cs.contains c=true)(hl:fs.lookup f=some d)(h:Q d L):W2 (BS cs f (.ref k) L) Q :=
 ⟨d,L,by simp only[BS,e];rw[if_pos (by simpa using hc),hl];rfl,h⟩
def AHl(h:W2 (fv Z L) λv L1=>W2 (fo Z L1) λx L2=>W1 (Ko cs f x v L2) λL3=>nx Z L3):WS (Fg cs f fo fv Z L) nx rt bk ct:=by obtain⟨v,L1,e1,x,L2,e2,L3,e3,q⟩:=h;exact WS.inx (by unfold Fg;rw[e1];simp only[AT];rw[e2];simp only[AT];rw[e3];rfl) q
def XS{k:Nat}{fs:List (Str×D)}{v:D}{P:AC->Prop}(e:L[k]?=some (.ins c fs))(hc:cs.contains c=true)(hl:Nat.blt fs.length 1000=true)(h:P (L.set k (.ins c (EZ f v fs)))):W1 (Ko cs f (.ref k) v L) P:=by
 have h1:fs.length<=999:=by simpa[Nat.blt] using hl
 exact⟨_,by simp only[Ko,e];rw[if_pos ⟨by simpa using hc,by omega⟩],h⟩
def AIN{G:GL}(h:W2 (af Z L) λys L1=>W2 (G (.ref L1.length::ys) (L1++[.ins c []])) λz L2=>z=.non/\Q (.ref L1.length) L2):W2 (HQ c G af Z L) Q:=by obtain⟨ys,L1,e1,z,L2,e2,rfl,q⟩:=h;exact⟨_,L2,by unfold HQ;rw[e1];simp only[AT];rw[e2];rfl,q⟩
abbrev ZD(cs:ANE)(f:Str)(g:Int->Int->Int)(fv:EF)(Z:Fm)(nx:Fm->AC->Prop)(x:D)(L:AC):Prop:=∃k c fs i,x=.ref k/\L[k]?=some (.ins c fs)/\c∈cs/\fs.lookup f=some (.int i) /\
 W2 (fv Z L) λy L2=>∃j fs',y=.int j/\L2[k]?=some (.ins c fs')/\fs'.length<1000/\nx Z (L2.set k (.ins c (EZ f (.int (g i j)) fs')))
def AHt{g:Int->Int->Int}(h:W2 (fo Z L) λx L1=>ZD cs f g fv Z nx x L1):WS (LU cs f g fo fv Z L) nx rt bk ct:=by obtain⟨x,L1,e1,k,c,fs,i,rfl,e2,hc,e3,y,L2,e4,j,fs',rfl,e5,hl,q⟩:=h;exact WS.inx (by unfold LU;rw[e1];simp only[AT];rw[e2];simp only;rw[if_pos hc,e3];simp only;rw[e4];simp only[AT];rw[e5];dsimp only;rw[if_pos ⟨rfl,hl⟩]) q
def AHu{i:Nat}{g:Int->Int->Int}{a:Int}(e:Z[i]?=some (some (.int a)))(h:W2 (fe Z L) λy L1=>Sr y λb=>nx (Z.set i (some (.int (g a b)))) L1):WS (Jd i g fe Z L) nx rt bk ct:=by obtain⟨y,L1,e1,b,rfl,q⟩:=h;exact WS.inx (by unfold Jd;rw[e];simp only;rw[e1];rfl) q
def AAO{t:TF}{b:SF}{N:Nat}(h:W2 (t Z L) λx L1=>Br x (WS (b Z L1) (λZ2 L2=>WS (Ek t b N Z2 L2) nx rt bk ct) rt nx (λZ2 L2=>WS (Ek t b N Z2 L2) nx rt bk ct)) (nx Z L1)):WS (Ek t b (N+1) Z L) nx rt bk ct:=by
 obtain⟨x,L1,e1,hb⟩:=h
 cases x with
 |false=>exact WS.inx (by unfold Ek;rw[e1];rfl) hb
 |true =>
  obtain⟨out,e2,q⟩:=(show WS (b Z L1) _ _ _ _ from hb)
  cases out with
  |next Z2 L2 =>
   obtain⟨o,e3,q3⟩:=q;exact⟨o,by unfold Ek;rw[e1];simp only[AT,if_true];rw[e2];exact e3,q3⟩
  |cont Z2 L2 =>
   obtain⟨o,e3,q3⟩:=q;exact⟨o,by unfold Ek;rw[e1];simp only[AT,if_true];rw[e2];exact e3,q3⟩
  |brk Z2 L2=>exact WS.inx (by unfold Ek;rw[e1];simp only[AT,if_true];rw[e2];rfl) q
  |ret d L2=>exact WS.irt (by unfold Ek;rw[e1];simp only[AT,if_true];rw[e2];rfl) q
def AAN{t:TF}{b:SF}(I:Nat->(Fm->AC->Prop)->Prop){n:Nat}(hn:n<1000000)(h0:∀C:Fm->AC->Prop,I n C->C Z L)
  (st:∀n,∀C C':Fm->AC->Prop,(∀Z L,(W2 (t Z L) λx L1=>Br x (WS (b Z L1) C rt nx C) (nx Z L1))->C' Z L)->(∀m,m<n->I m C)->I n C'):WS (Qm t b Z L) nx rt bk ct:=by
 have key:∀N n,n<N->I n λZ L=>WS (Ek t b N Z L) nx rt bk ct:=λN=>by
  induction N with
  |zero=>exact λn h=>absurd h (Nat.not_lt_zero _)
  |succ N ih=>exact λn h=>st n _ _ (λZ L h=>AAO h) λm hm=>ih m (by omega)
 exact h0 _ (key 1000000 n hn)
def XR{k:Nat}{ds:List D}{ns:ANK}(e:L[k]?=some (.lst ds))(e2:DP ds=some ns)(h:Q (.int ns.sum) L):W2 (Kz [.ref k] L) Q:=⟨_,_,by unfold Kz;rw[WX e];simp only[AT];rw[e2];rfl,h⟩
def AFl{k:Nat}{ds:List D}{ns:ANK}{v:Int}(e:L[k]?=some (.lst ds))(e2:DP ds=some ns)(e3:ns.min?=some v)(h:Q (.int v) L):W2 (No [.ref k] L) Q:=⟨_,_,by unfold No;rw[WX e];simp only[AT];rw[e2];simp only[AT];rw[e3];rfl,h⟩
def Ke{B:SF}{N:ANE}{n:Nat}{xs:List D}(hn:xs.length=n)(h:WS (B (Fe N xs) L) (λ_ L2=>(L <+: L2->Q .non L)/\Q .non L2) (λd L2=>(L <+: L2->d.noRef=true->Q d L)/\Q d L2) (λ_ _=>False) (λ_ _=>False)):W2 (Am B N n xs L) Q:=by
 obtain⟨o,e,q⟩:=h
 cases o with
 |next Z L2 =>
  by_cases c:L2.take L.length=L
  .exact⟨_,_,by unfold Am;rw[if_pos hn,e];simp only;rw[if_pos c],q.1 (NF c)⟩
  .exact⟨_,_,by unfold Am;rw[if_pos hn,e];simp only;rw[if_neg c],q.2⟩
 |ret d L2 =>
  by_cases c:d.noRef=true/\L2.take L.length=L
  .exact⟨_,_,by unfold Am;rw[if_pos hn,e];simp only;rw[if_pos c],q.1 (NF c.2) c.1⟩
  .exact⟨_,_,by unfold Am;rw[if_pos hn,e];simp only;rw[if_neg c],q.2⟩
 |brk _ _=>exact q.elim
 |cont _ _=>exact q.elim
end
section
variable {Q:ANn}{QI:List D->(AC->Bool)->AC->Prop}{Z:Fm}{L:AC}{nx:Fm->AC->Prop}{rt:ANn}{bk ct:Fm->AC->Prop}{fo fi fv f:EF}{a:AF}{k ep:Nat}{kvs:List (NK×D)}{kk:NK}{y d:D}
def AAY(h:Q (.ref L.length) (L++[.dt [] 0])):W2 (IY Z L) Q:=⟨_,_,rfl,h⟩
def AIY(e:L[k]?=some (.dt kvs ep)){p:Prop}(h:p):OJ "dict" (.ref k) L p:=⟨by simp[Ix,e],h⟩
def Ht(e:L[k]?=some (.dt kvs ep))(ek:dNK y=some kk)(el:BP kvs kk=some d)(h:Q d L):W2 (FU (.ref k) y L) Q:=⟨d,L,by simp only[FU,e,ek,AT,el,AMC],h⟩
def SD{neg:Bool}(e:L[k]?=some (.dt kvs ep))(ek:dNK y=some kk)(h:Q (.bl (neg != (BP kvs kk).isSome)) L):W2 (HA neg y (.ref k) L) Q:=⟨_,L,by simp only[HA,e,ek,AMC],h⟩
def AKE(e:L[k]?=some (.dt kvs ep))(h:Q (.int (kvs.length:Int)) L):W2 (LD [.ref k] L) Q:=⟨_,L,by simp only[LD,e],h⟩
def AJ9(e:L[k]?=some (.dt kvs ep))(h:Q (.ref L.length) (L++[.lst (Fi kvs)])):W2 (LB [.ref k] L) Q:=⟨_,_,by simp only[LB,e],h⟩
def AFr(e:L[k]?=some (.dt kvs ep))(ek:dNK y=some kk)(h:Q ((BP kvs kk).getD .non) L):W2 (LI (.ref k) [y] L) Q:=⟨_,L,by simp only[LI,e,ek,AMC],h⟩
def AFg{v:D}(e:L[k]?=some (.dt kvs ep))(ek:dNK y=some kk)(el:BP kvs kk=some d)(h:Q d L):W2 (HX (.ref k) [y,v] L) Q:=⟨_,L,by simp only[HX,e,ek,AT,el],h⟩
def AFh{v:D}(e:L[k]?=some (.dt kvs ep))(ek:dNK y=some kk)(el:BP kvs kk=none)(hz:kvs.length<16777216)(h:Q v (L.set k (.dt (Cp kvs kk v) (epN kvs kk ep)))):W2 (HX (.ref k) [y,v] L) Q:=⟨_,_,by simp only[HX,e,ek,AT,el];rw[if_pos hz],h⟩
def SE{i j:Nat}{as bs:List D}(e1:L[i]?=some (.lst as))(e2:L[j]?=some (.lst bs))(hz:as.length+bs.length<=16777216)(h:Q .non (L.set i (.lst (as++bs)))):W2 (IV (.ref i) [.ref j] L) Q:=⟨_,_,by simp only[IV,e1,e2];rw[if_pos hz],h⟩
def AHr(h:W2 (fv Z L) λv L1=>W2 (fo Z L1) λo L2=>W2 (fi Z L2) λi L3=>W1 (Hv o i v L3) λL4=>nx Z L4):WS (IW fo fi fv Z L) nx rt bk ct:=by obtain⟨v,L1,e1,o,L2,e2,i,L3,e3,L4,e4,q⟩:=h;exact WS.inx (by unfold IW;rw[e1,AT,e2,AT,e3,AT,e4];rfl) q
def SG{v:D}{P:AC->Prop}(e:L[k]?=some (.dt kvs ep))(hz:kvs.length<16777216)(ek:dNK y=some kk)(h:P (L.set k (.dt (Cp kvs kk v) (epN kvs kk ep)))):W1 (Hv (.ref k) y v L) P:=⟨_,by simp only[Hv,e];rw[if_pos hz,ek];rfl,h⟩
abbrev Sy(d:D)(L:AC)(P:Nat->List (NK×D)->Nat->Prop):Prop:=∃k kvs ep,d=.ref k/\L[k]?=some (.dt kvs ep)/\P k kvs ep
def AKw{P:Nat->List (NK×D)->Nat->Prop}(e:L[k]?=some (.dt kvs ep))(h:P k kvs ep):Sy (.ref k) L P:=⟨k,kvs,ep,rfl,e,h⟩
def AH2(h:W2 (f Z L) λd L1=>Sy d L1 λk kvs ep=>QI (Fi kvs) (Hk k kvs ep) L1):WI (JP f Z L) QI:=by obtain⟨d,L1,e1,k,kvs,ep,rfl,e2,q⟩:=h;exact⟨_,_,L1,by unfold JP;rw[e1,AT];simp only[e2],q⟩
def AH1(h:W2 (f Z L) λd L1=>Sy d L1 λk kvs ep=>QI (GJ kvs) (λL'=>decide (L'[k]?=some (.dt kvs ep))) L1):WI (JO f Z L) QI:=by obtain⟨d,L1,e1,k,kvs,ep,rfl,e2,q⟩:=h;exact⟨_,_,L1,by unfold JO;rw[e1,AT];simp only[e2],q⟩
abbrev Yu(ds:List D)(L:AC)(P:Nat->List D->Prop):Prop:=∃k xs,ds=[.ref k]/\L[k]?=some (.lst xs)/\P k xs
def AJi{P:Nat->List D->Prop}{xs:List D}(e:L[k]?=some (.lst xs))(h:P k xs):Yu [.ref k] L P:=⟨k,xs,rfl,e,h⟩
def AH3(h:W2 (a Z L) λds L1=>Yu ds L1 λk xs=>QI (FD xs) (λL'=>decide (L'[k]?=some (.lst xs))) L1):WI (Kx a Z L) QI:=by obtain⟨ds,L1,e1,k,xs,rfl,e2,q⟩:=h;exact⟨_,_,L1,by unfold Kx;rw[e1,AT];simp only[e2],q⟩
abbrev AHU(n:Nat)(ds:List D)(L:AC)(P:List D->List (List D)->Prop):Prop:=∃ys yss,seqs ds L=some (ys::yss)/\((yss.all λzs=>zs.length == ys.length)=true/\yss.length<100/\yss.length+1=n)/\P ys yss
def UP{n:Nat}(h:W2 (a Z L) λds L1=>∃ys yss,seqs ds L1=some (ys::yss)/\((yss.all λzs=>decide (ys.length<=zs.length))=true/\yss.length<100/\yss.length+1=n)/\QI (EJ ys.length (ys::yss)) (λL'=>decide (seqs ds L'=some (ys::yss))) L1):WI (HV n a Z L) QI:=by obtain⟨ds,L1,e1,ys,yss,e2,hc,q⟩:=h;exact⟨_,_,L1,by unfold HV;rw[e1,AT];simp only[e2];rw[if_pos hc],q⟩
def AHw{n:Nat}(h:W2 (a Z L) λds L1=>AHU n ds L1 λys yss=>QI (EJ ys.length (ys::yss)) (λL'=>decide (seqs ds L'=some (ys::yss))) L1):WI (HV n a Z L) QI:=by obtain⟨ds,L1,e1,ys,yss,e2,hc,q⟩:=h;exact UP ⟨ds,L1,e1,ys,yss,e2,⟨Bu.mpr λz hz=>decide_eq_true (ALe (beq_iff_eq.mp (Bu.mp hc.1 z hz)).symm),hc.2⟩,q⟩
def AJx{x z:Str}(h:Q (.bl (Txt.startswith x z)) L):W2 (Nn (.str x) [.str z] L) Q:=⟨_,_,rfl,h⟩
def AG7{cs:ANE}{c fl:Str}{g:Int->Int->Int}{fs:List (Str×D)}{i:Int}(e:L[k]?=some (.ins c fs))(hc:c∈cs)(hl:fs.lookup fl=some (.int i))
  (h:W2 (fv Z L) λy L2=>∃j fs',y=.int j/\L2[k]?=some (.ins c fs')/\fs'.length<1000/\nx Z (L2.set k (.ins c (EZ fl (.int (g i j)) fs')))):ZD cs fl g fv Z nx (.ref k) L:=⟨k,c,fs,i,rfl,e,hc,hl,h⟩
end
end L3
set_option maxHeartbeats 8000000
namespace L3
open PySem PySem.Spec PyProof.Rows L2
abbrev zt:D:=D.tup [D.str "small",D.str "great",D.str "figure",D.str "mark",D.str "any"]
abbrev Ln:D:=D.tup [D.tup [D.str "small",D.str "abcdefghijklmnopqrstuvwxyz"],D.tup [D.str "great",D.str "ABCDEFGHIJKLMNOPQRSTUVWXYZ"],D.tup [D.str "figure",D.str "0123456789"],D.tup [D.str "mark",D.str " -.,/"]]
abbrev zu:D:=D.tup [D.int (1),D.int (2),D.int (-1),D.int (-2)]
abbrev zw:D:=D.tup [D.str "ahead",D.str "behind"]
abbrev KP:D:=D.tup [D.str "copy",D.str "raise",D.str "sink"]
abbrev zx:D:=D.tup [D.int (1),D.int (2),D.int (3)]
abbrev Lk:D:=D.int (0)
abbrev KN:D:=D.int (1)
abbrev Lh:ANE:=["_law_cells",ANb,ANg]
abbrev Pt:SF :=
 (AJ (An (AS (AE gLt (AA 1) (AK BI (AB (AA 0) AG)))) (AU (AE BE (AE CT (AE AQ (AA 0) (AA 1)) (AD (.int 2718281828459045235360287471352662497757))) (AE GS (AD (.int 10)) (AD (.int 40))))) As)
 (AJ (AO 2 (AE BB (AE CT (AE CT (AA 1) (AA 1)) (AD (.int 7919))) (AD (.int 5))))
 (AJ (An (AS (AE Eo (AK BI (AB (AA 0) AG)) (AD (.int 0)))) (AO 2 (AE BB (AA 2) (AE CT (AE BE (AE AQ (AA 0) (AE BE (AE CT (AA 1) (AD (.int 7))) (AK BI (AB (AA 0) AG)))) (AE GS (AD (.int 10)) (AD (.int 40)))) (AE BB (AD (.int 48271)) (AE CT (AD (.int 2)) (AA 1)))))) As)
 (AJ (AO 2 (AE BE (AE CT (AA 2) (AA 2)) (AD (.int 2147483629))))
 (AJ (AO 2 (AE BE (AE CT (AE BB (AE BB (AA 2) (AE CT (AE CT (AA 1) (AA 1)) (AA 1))) (AD (.int 16807))) (AE BB (AA 2) (AD (.int 69621)))) (AD (.int 4611686018427387847))))
 (AU (AE BE (AE CT (AA 2) (AD (.int 2718281828459045235360287471352662497757))) (AE GS (AD (.int 10)) (AD (.int 40))))))))))
abbrev KL:GL:=Am Pt Lh 2
abbrev Mp:ANE:=[ANh,"_law_ahead_of","_law_most","_law_cells","_law_told",ANf,ANb]
abbrev Pp:SF :=
 (AJ (AO 3 (AK LC (AB (AA 0) AG)))
 (AJ (An (AS (AE Eo (AK BI (AB (AA 3) AG)) (AD (.int 0)))) (AJ (AO 4 (AE BB (AA 1) (AE BE (AE AQ (AA 3) (AD (.int 0))) (AE BB (AE FT (AA 2) (AA 1)) (AD (.int 1))))))
 (AJ (CJ (AA 3) (AD (.int 0)) (AE Bm (AE AQ (AA 3) (AD (.int 0))) (AE BB (AE FT (AA 2) (AA 1)) (AD (.int 1)))))
 (AJ (AO 5 (Bh AG))
 (AJ (Bq (Fk (AB (AA 4) AG)) (Ak 6) (AJ (DU (Bt "list" Ep (AA 5) (AB (AE BE (AE AQ (AA 3) (AE BE (AA 6) (AK BI (AB (AA 3) AG)))) (AE GS (AD (.int 10)) (AD (.int 40)))) AG)))
 (CJ (AA 3) (AE BE (AA 6) (AK BI (AB (AA 3) AG))) (AE Bm (AE AQ (AA 3) (AE BE (AA 6) (AK BI (AB (AA 3) AG)))) (AE GS (AD (.int 10)) (AD (.int 40)))))))
 (An (AS (AE Eo (AK No (AB (AA 3) AG)) (AD (.int 0)))) (AU (AA 5)) As))))) As)
 (AU (Bw (Fk (AB (AK Np (AB (AA 1) (AB (AK JR (AB (AA 2) (AB (AK BI (AB (AA 0) AG)) AG))) AG))) AG)) 1 [0] (Ak 0) Co (AK KL (AB (AA 1) (AB (AA 0) AG)))))))
abbrev KI:GL:=Am Pp Mp 3
abbrev Mm:ANE:=[ANX,"_law_most","_law_signs","_law_some","_law_size",ANc,ANb]
abbrev Pk:SF :=
 (AJ (AO 2 (AD (.str "abcdefghijklmnopqrstuvwxyzABCDEFGHIJKLMNOPQRSTUVWXYZ0123456789 -.,/")))
 (AJ (AO 3 (AE AQ (Bh (AB (AD (.str "abAB12 -")) (AB (AD (.str "aB 1")) (AB (AD (.str "aab")) (AB (AA 2) AG))))) (AE BE (AE Bm (AA 0) (AD (.int 32))) (AD (.int 4)))))
 (AJ (AO 4 (AE BE (AA 0) (AE BB (AA 1) (AD (.int 1)))))
 (AJ (AO 0 (AE Bm (AA 0) (AD (.int 128))))
 (AJ (AO 5 (AD (.str "")))
 (AJ (Bq (Fk (AB (AA 4) AG)) (Ak 6) (AJ (AO 5 (AE BB (AA 5) (AE AQ (AA 3) (AE BE (AA 0) (AK BI (AB (AA 3) AG))))))
 (AO 0 (AE Bm (AA 0) (AK BI (AB (AA 3) AG))))))
 (AU (AA 5))))))))
abbrev zi:GL:=Am Pk Mm 2
abbrev Mi:ANE:=["_law_cells",ANY,ANg,ANX,"_law_word"]
abbrev Pf:SF :=
 (AJ (AO 1 (Bh AG))
 (AJ (AO 2 (AE BE (AE AQ (AA 0) (AD (.int 0))) (AD (.int 5))))
 (AJ (An (AS (AE Bj (AE BE (AE Bm (AE AQ (AA 0) (AD (.int 0))) (AD (.int 5))) (AD (.int 4))) (AD (.int 1)))) (AO 2 (AE BB (AD (.int 5)) (AE BE (AE AQ (AA 0) (AD (.int 0))) (AD (.int 2))))) As)
 (AJ (Bq (Ba (CO (AA 0) (Bo (AD (.int 1))) (Bo (AE BB (AD (.int 1)) (AA 2))))) (Ak 3) (AJ (AO 4 (AK zi (AB (AE Bm (AA 3) (AD (.int 4))) (AB (AE AQ (Bh (AB (AD (.int 2)) (AB (AD (.int 3)) (AB (AD (.int 3)) (AB (AD (.int 8)) AG))))) (AE BE (AA 3) (AD (.int 4)))) AG))))
 (AJ (An (AS (AE Eo (AA 2) (AD (.int 4)))) (AO 4 (CO (AA 4) Dl (Bo (AD (.int 2))))) As)
 (AJ (An (AS (AE Bj (AA 4) (AD (.str "")))) (AO 4 (AD (.str "-"))) As)
 (An (AS (AE (Ca true) (AA 4) (AA 1))) (DU (Bt "list" Ep (AA 1) (AB (AA 4) AG))) As)))))
 (AU (AA 1))))))
abbrev KG:GL:=Am Pf Mi 1
abbrev Mf:ANE:=[ANX,"_law_kind_here"]
abbrev Pb:SF :=
 (AJ (AO 1 (AE AQ (Bh (AB (AD (.str "small")) (AB (AD (.str "great")) (AB (AD (.str "figure")) (AB (AD (.str "mark")) (AB (AD (.str "any")) AG)))))) (AE BE (AA 0) (AD (.int 5)))))
 (AU (CF (AB (AA 1) (AB (AE AQ (Bh (AB (AD (.int 1)) (AB (AD (.int 2)) (AB (BG HZ (AD (.int 1))) (AB (BG HZ (AD (.int 2))) AG))))) (AE BE (AE Bm (AA 0) (AD (.int 5))) (AD (.int 4)))) (AB (AE AQ (Bh (AB (AD (.str "ahead")) (AB (AD (.str "behind")) AG))) (AE BE (AE Bm (AA 0) (AD (.int 20))) (AD (.int 2)))) AG))))))
abbrev zy:GL:=Am Pb Mf 1
abbrev Mc:ANE:=[ANX,ANY,"_law_deed"]
abbrev UO:SF :=
 (AJ (An (IC (AS (AE Bj (AE BE (AA 0) (AD (.int 7))) (AD (.int 0)))) (AS (AE Eo (AK BI (AB (AA 1) AG)) (AD (.int 0))))) (AU (CF (AB (AD (.str "word")) (AB (AE AQ (AA 1) (AE BE (AE Bm (AA 0) (AD (.int 7))) (AK BI (AB (AA 1) AG)))) AG)))) As)
 (AJ (AO 2 (AE AQ (Bh (AB (AD (.str "copy")) (AB (AD (.str "raise")) (AB (AD (.str "sink")) (AB (AD (.str "copy")) AG))))) (AE BE (AE Bm (AA 0) (AD (.int 7))) (AD (.int 4)))))
 (AU (CF (AB (AA 2) (AB (AK zy (AB (AE Bm (AA 0) (AD (.int 28))) AG)) (AB (AK zy (AB (AE Bm (AA 0) (AD (.int 1120))) AG)) AG)))))))
abbrev Iw:GL:=Am UO Mc 2
abbrev MZ:ANE:=["_law_sign"]
abbrev PX:SF :=
 (AJ (An (AS (Bt "str" (HY Txt.islower) (AA 0) AG)) (AU (AD (.str "small"))) As)
 (AJ (An (AS (Bt "str" (HY Txt.isupper) (AA 0) AG)) (AU (AD (.str "great"))) As)
 (AJ (An (AS (Bt "str" (HY Txt.isdigit) (AA 0) AG)) (AU (AD (.str "figure"))) As)
 (AU (AD (.str "mark"))))))
abbrev KC:GL:=Am PX MZ 1
abbrev MW:ANE:=["_law_place_here",ANc,"_law_kind_here","_law_nth","_law_edge","_law_found"]
abbrev PQ:SF :=
 (AJ (Ic (AA 0) 3 (Bn (Ak 2) (Bn (Ak 3) (Bn (Ak 4) Eb))))
 (AJ (AO 5 (Bw (Fk (AB (AK BI (AB (AA 1) AG)) AG)) 1 [2,1] (Ak 0) (CS (AS (AE Bj (AA 1) (AD (.str "any")))) (AS (AE Bj (AK KC (AB (AE AQ (AA 2) (AA 0)) AG)) (AA 1)))) (AA 0)))
 (AJ (An (AS (AE gLt (AK BI (AB (AA 5) AG)) (AK LJ (AB (AA 3) AG)))) (AU (AD .non)) As)
 (AJ (An (AS (AE Eo (AA 3) (AD (.int 0)))) (AU (AE BB (AE AQ (AA 5) (AE FT (AA 3) (AD (.int 1)))) (AK LH (AB (AE Bj (AA 4) (AD (.str "behind"))) AG)))) As)
 (AU (AE BB (AE AQ (AA 5) (AA 3)) (AK LH (AB (AE Bj (AA 4) (AD (.str "behind"))) AG))))))))
abbrev zg:GL:=Am PQ MW 2
abbrev MU:ANE:=[ANi,ANc,"_law_start","_law_end"]
abbrev MS:SF :=
 (AJ (An (AS (AE Bj (AE AQ (AA 0) (AD (.int 0))) (AD (.str "word")))) (AU (AE AQ (AA 0) (AD (.int 1)))) As)
 (AJ (AO 2 (AK zg (AB (AE AQ (AA 0) (AD (.int 1))) (AB (AA 1) AG))))
 (AJ (AO 3 (AK zg (AB (AE AQ (AA 0) (AD (.int 2))) (AB (AA 1) AG))))
 (AJ (An (CS (AS (AE JT (AA 2) (AD .non))) (CS (AS (AE JT (AA 3) (AD .non))) (AS (AE Nr (AA 2) (AA 3))))) (AU (AD .non)) As)
 (AJ (An (AS (AE Bj (AE AQ (AA 0) (AD (.int 0))) (AD (.str "raise")))) (AU (Bt "str" (gS0s Txt.upper) (CO (AA 1) (Bo (AA 2)) (Bo (AA 3))) AG)) As)
 (AJ (An (AS (AE Bj (AE AQ (AA 0) (AD (.int 0))) (AD (.str "sink")))) (AU (Bt "str" (gS0s Txt.lower) (CO (AA 1) (Bo (AA 2)) (Bo (AA 3))) AG)) As)
 (AU (CO (AA 1) (Bo (AA 2)) (Bo (AA 3))))))))))
abbrev zf:GL:=Am MS MU 2
abbrev MP:ANE:=[ANX,ANY,ANd,ANi,"_law_whole_here","_law_some"]
abbrev PL:SF :=
 (AJ (AO 3 (AK Iw (AB (AA 0) (AB (AA 1) AG))))
 (AJ (An (AS (AE Bj (AE AQ (AA 3) (AD (.int 0))) (AD (.str "word")))) (AU (AA 3)) As)
 (AJ (AO 4 (CF (AB (AE AQ (AA 3) (AD (.int 0))) (AB (CF (AB (AD (.str "any")) (AB (AD (.int 1)) (AB (AD (.str "ahead")) AG)))) (AB (CF (AB (AD (.str "any")) (AB (BG HZ (AD (.int 1))) (AB (AD (.str "behind")) AG)))) AG)))))
 (AJ (Bq (Ba (Bh (AB (AA 3) (AB (CF (AB (AE AQ (AA 3) (AD (.int 0))) (AB (AE AQ (AA 3) (AD (.int 2))) (AB (AE AQ (AA 3) (AD (.int 1))) AG)))) (AB (AA 4) AG))))) (Ak 5) (An (AS (AE (Ca true) (AD .non) (Bw (Ba (AA 2)) 1 [5] (Ak 0) Co (AK zf (AB (AA 1) (AB (AA 0) AG)))))) (AU (AA 5)) As))
 (AJ (An (AS (AE Bj (AK BI (AB (AA 1) AG)) (AD (.int 0)))) (AU (AD .non)) As)
 (AU (CF (AB (AD (.str "word")) (AB (AE AQ (AA 1) (AE BE (AE Bm (AA 0) (AD (.int 28))) (AK BI (AB (AA 1) AG)))) AG)))))))))
abbrev KA:GL:=Am PL MP 3
abbrev MN:ANE:=[ANX,ANY,ANd,ANZ,"_law_part",ANb,ANi]
abbrev PF:SF :=
 (AJ (AO 3 (Bh AG))
 (AJ (AO 4 (AE Bm (AA 0) (AD (.int 3))))
 (AJ (Bq (Fk (AB (AE BB (AD (.int 1)) (AE BE (AA 0) (AD (.int 3)))) AG)) (Ak 5) (AJ (AO 6 (AK KA (AB (AA 4) (AB (AA 1) (AB (AA 2) AG)))))
 (AJ (An (AS (AE IU (AA 6) (AD .non))) (DU (Bt "list" Ep (AA 3) (AB (AA 6) AG))) As)
 (AO 4 (AE Bm (AA 4) (AD (.int 1000003)))))))
 (AU (AK FS (AB (AA 3) AG))))))
abbrev Iv:GL:=Am PF MN 3
abbrev MM:ANE:=[ANZ,ANc,"_law_found"]
abbrev Oz:SF :=
 (AJ (AO 2 (Bw (Ba (AA 0)) 1 [1] (Ak 0) Co (AK zf (AB (AA 0) (AB (AA 1) AG)))))
 (AJ (An (AS (AE (Ca false) (AD .non) (AA 2))) (AU (AD .non)) As)
 (AU (Bt "str" LG (AD (.str "")) (AB (AA 2) AG)))))
abbrev Iu:GL:=Am Oz MM 2
abbrev MK:ANE:=[ANZ,ANd,ANX,"_law_given","_law_examples","_law_at",ANc,"_law_answer","_law_other"]
abbrev Ov:SF :=
 (AJ (AO 4 (Bw (Ba (AA 1)) 1 [0] (Ak 0) Co (CF (AB (AA 0) (AB (AK Iu (AB (AA 1) (AB (AA 0) AG))) AG)))))
 (AJ (An (AS (AE Bj (AE BE (AA 2) (AD (.int 4))) (AD (.int 3)))) (AO 4 (Bw (HV 2 (AB (AA 1) (AB (AA 3) AG))) 2 [] (En 2 (Bn (Ak 0) (Bn (Ak 1) Eb))) Co (CF (AB (AA 0) (AB (AK zi (AB (AA 1) (AB (AD (.int 12)) AG))) AG))))) As)
 (AJ (An (IC (AS (AE Bj (AE BE (AA 2) (AD (.int 4))) (AD (.int 1)))) (AS (AE Eo (AK BI (AB (AA 4) AG)) (AD (.int 0))))) (AJ (AO 5 (AE BE (AE Bm (AA 2) (AD (.int 4))) (AK BI (AB (AA 4) AG))))
 (AJ (Ic (AE AQ (AA 4) (AA 5)) 2 (Bn (Ak 6) (Bn (Ak 7) Eb)))
 (AJ (AO 8 (AE AQ (Bh (AB (CO (AE BB (AA 7) (AD (.str "a"))) Dl (Bo (AD (.int 72)))) (AB (CO (AA 7) Dl (Bo (BG HZ (AD (.int 1))))) (AB (AE BB (CO (AA 7) (Bo (AD (.int 1))) Dl) (CO (AA 7) Dl (Bo (AD (.int 1))))) (AB (AD (.str "")) AG))))) (AE BE (AE Bm (AA 2) (AD (.int 16))) (AD (.int 4)))))
 (AO 4 (AE BB (AE BB (CO (AA 4) Dl (Bo (AA 5))) (Bh (AB (CF (AB (AA 6) (AB (AA 8) AG))) AG))) (CO (AA 4) (Bo (AE BB (AA 5) (AD (.int 1)))) Dl)))))) As)
 (AU (AA 4)))))
abbrev Jy:GL:=Am Ov MK 4
abbrev MI:ANE:=[ANf,ANb,ANg]
abbrev Oq:SF :=
 (AJ (An (AS (AE gLt (AA 1) (AK BI (AB (AA 0) AG)))) (AU (AE AQ (AA 0) (AA 1))) As)
 (AJ (AO 2 (AE BB (AE BB (AE CT (AE BE (AE AQ (AA 0) (AE BE (AE CT (AA 1) (AD (.int 7))) (AK BI (AB (AA 0) AG)))) (AE GS (AD (.int 10)) (AD (.int 40)))) (AD (.int 48271))) (AE CT (AE CT (AA 1) (AA 1)) (AD (.int 7919)))) (AD (.int 5))))
 (AU (AE BE (AE CT (AE BE (AE CT (AA 2) (AA 2)) (AD (.int 2147483629))) (AD (.int 2718281828459045235360287471352662497757))) (AE GS (AD (.int 10)) (AD (.int 40)))))))
abbrev zj:GL:=Am Oq MI 2
abbrev MG:ANE:=[ANf,"_law_start","_law_most",ANX,ANg,"_law_rows_here","_law_some",ANb,"_law_at","_law_sign",ANd,ANc]
abbrev Om:SF :=
 (AJ (AO 3 (AK zj (AB (AA 0) (AB (AA 1) AG))))
 (AJ (AO 4 (AE BB (AD (.int 1)) (AE BE (AA 3) (AD (.int 3)))))
 (AJ (An (AS (AE Bj (AE BE (AE Bm (AA 3) (AD (.int 24))) (AD (.int 4))) (AD (.int 1)))) (AJ (AO 4 (AE BB (AD (.int 4)) (AE BE (AA 3) (AD (.int 3)))))
 (AO 2 (AK JR (AB (AA 2) (AB (AD (.int 6)) AG))))) As)
 (AJ (AO 5 (Bw (Fk (AB (AA 4) AG)) 1 [] (Ak 0) Co (AD (.str ""))))
 (AJ (AO 6 (AE AQ (Bh (AB (AD (.str "aB1 -")) (AB (AD (.str "aab")) (AB (AD (.str "abAB12 -")) (AB (AD (.str "abcXYZ019 -.,/")) AG))))) (AE BE (AE Bm (AA 3) (AD (.int 6))) (AD (.int 4)))))
 (AJ (An (AS (AE Bj (AE BE (AE Bm (AA 3) (AD (.int 3))) (AD (.int 2))) (AD (.int 0)))) (AO 5 (Bw (Fk (AB (AA 4) AG)) 1 [2,0,1] (Ak 0) Co (AK zi (AB (AK zj (AB (AA 2) (AB (AE BB (AE BB (AA 3) (AD (.int 1))) (AA 0)) AG))) (AB (AA 1) AG))))) (Bq (Kw (AB (AE BB (AA 1) (AD (.int 1))) (AB (AK JR (AB (AK BI (AB (AA 0) AG)) (AB (AE BB (AE BB (AA 1) (AD (.int 1))) (AE CT (AA 2) (AA 4))) AG))) AG))) (Ak 7) (AJ (AO 8 (AE BE (AA 7) (AA 4)))
 (AJ (AO 9 (AE AQ (AA 6) (AE BE (AK zj (AB (AA 0) (AB (AA 7) AG))) (AK BI (AB (AA 6) AG)))))
 (CJ (AA 5) (AA 8) (AE BB (AE AQ (AA 5) (AA 8)) (AA 9)))))))
 (AJ (An (AS (AE Bj (AE BE (AE Bm (AA 3) (AD (.int 96))) (AD (.int 8))) (AD (.int 3)))) (CJ (AA 5) (AD (.int 0)) (CO (AE CT (CO (AA 6) Dl (Bo (AE BB (AD (.int 1)) (AE BE (AE Bm (AA 3) (AD (.int 768))) (AD (.int 2)))))) (AD (.int 24))) Dl (Bo (AD (.int 24))))) As)
 (AJ (AO 10 (Bh AG))
 (AJ (Bq (Ba (AA 5)) (Ak 11) (An (AS (AE (Ca true) (AA 11) (AA 10))) (DU (Bt "list" Ep (AA 10) (AB (AA 11) AG))) As))
 (AU (AA 10)))))))))))
abbrev Jw:GL:=Am Om MG 3
abbrev ME:ANE:=[ANf,ANY,ANd,ANZ]
abbrev Og:SF :=
 (AJ (AO 1 (AK KG (AB (AE BB (Bh (AB (AE AQ (AA 0) (AD (.int 0))) AG)) (CO (AA 0) (Bo (AD (.int 5))) (Bo (AD (.int 11))))) AG)))
 (AJ (AO 2 (Bw (Ba (AK Jw (AB (AA 0) (AB (AD (.int 17)) (AB (AD (.int 10)) AG))))) 1 [1] (Ak 0) (CS (AS (AE Fo (AA 0) (AD (.str "")))) (AS (AE Eo (AK BI (AB (AA 1) AG)) (AD (.int 0))))) (AA 0)))
 (AJ (AO 3 (AK Iv (AB (AE AQ (AA 0) (AD (.int 1))) (AB (AA 1) (AB (AA 2) AG)))))
 (AU (Bh (AB (AA 1) (AB (AA 3) (AB (AK Jy (AB (AA 3) (AB (AA 2) (AB (AE AQ (AA 0) (AD (.int 2))) (AB (CO (AA 0) (Bo (AD (.int 11))) (Bo (AD (.int 17)))) AG))))) AG))))))))
abbrev Ju:GL:=Am Og ME 1
abbrev MC:ANE:=[ANP,ANT,ANa,"pieces",ANe,"piece"]
abbrev Oc:SF :=
 (AJ (AO 1 IY)
 (AJ (Bq (JO (AA 0)) (En 2 (Bn (Ak 2) (Bn (Ak 3) Eb))) (Bq (Kx (AB (AA 3) AG)) (En 2 (Bn (Ak 4) (Bn (Ak 5) Eb))) (IW (AA 1) (AA 5) (CF (AB (AA 2) (AB (AA 4) AG))))))
 (AU (AA 1))))
abbrev Ir:GL:=Am Oc MC 1
abbrev MA:ANE:=["self",ANO]
abbrev OX:SF :=
 (AJ (Fg [ANN] ANO (AA 0) (AA 1))
 (Fg [ANN] ANR (AA 0) IY))
abbrev zk:GL:=Am OX MA 2
abbrev Ly:ANE:=["self",ANS,ANP]
abbrev Qk:SF :=
 (AJ (Fg [ANM] ANS (AA 0) (AA 1))
 (AJ (Fg [ANM] ANP (AA 0) (AA 2))
 (AJ (Fg [ANM] ANT (AA 0) (AK Ir (AB (AA 2) AG)))
 (AJ (Fg [ANM] ANQ (AA 0) (Bh (AB (HQ ANN zk (AB (AD (.int 1)) AG)) (AB (HQ ANN zk (AB (AD (.int 0)) AG)) AG))))
 (AJ (Fg [ANM] ANV (AA 0) IY)
 (Fg [ANM] ANW (AA 0) (Bh AG)))))))
abbrev Jr:GL:=Am Qk Ly 3
abbrev Lw:ANE:=["places","kind","nth","edge"]
abbrev Qg:SF :=
 (AJ (AO 0 (Bh AG))
 (AJ (Bq (Ba (AD zt)) (Ak 1) (Bq (Ba (AD zu)) (Ak 2) (Bq (Ba (AD zw)) (Ak 3) (DU (Bt "list" Ep (AA 0) (AB (CF (AB (AA 1) (AB (AA 2) (AB (AA 3) AG)))) AG))))))
 (AU (AA 0))))
abbrev Jq:GL:=Am Qg Lw 0
abbrev Lu:ANE:=["sign","kind","signs"]
abbrev Qc:SF :=
 (AJ (Bq (Ba (AD Ln)) (En 2 (Bn (Ak 1) (Bn (Ak 2) Eb))) (An (AS (AE (Ca false) (AA 0) (AA 2))) (AU (AA 1)) As))
 (AU (AD .non)))
abbrev Jp:GL:=Am Qc Lu 1
abbrev Lr:ANE:=["kind","sign"]
abbrev QY:SF :=
 (AU (JC (AE Bj (AA 0) (AD (.str "any"))) (AE Bj (AK Jp (AB (AA 1) AG)) (AA 0))))
abbrev Jo:GL:=Am QY Lr 2
abbrev Lp:ANE:=["place","text","kind","nth","numbers",ANe]
abbrev QU:SF :=
 (AJ (AO 2 (AE AQ (AA 0) (AD (.int 0))))
 (AJ (AO 3 (AE AQ (AA 0) (AD (.int 1))))
 (AJ (AO 4 (Bw (Ky (AB (AA 1) AG)) 2 [2] (En 2 (Bn (Ak 0) (Bn (Ak 1) Eb))) (AS (AK Jo (AB (AA 2) (AB (AA 1) AG)))) (AA 0)))
 (AJ (An (AS (AE gLt (AK BI (AB (AA 4) AG)) (AK LJ (AB (AA 3) AG)))) (AU (AD .non)) As)
 (AJ (AO 5 (HU (AS (AE Eo (AA 3) (AD (.int 0)))) (AE AQ (AA 4) (AE FT (AA 3) (AD (.int 1)))) (AE AQ (AA 4) (AA 3))))
 (AU (HU (AS (AE Bj (AE AQ (AA 0) (AD (.int 2))) (AD (.str "ahead")))) (AA 5) (AE BB (AA 5) (AD (.int 1))))))))))
abbrev zm:GL:=Am QU Lp 2
abbrev Lm:ANE:=["texts","places","place","spots"]
abbrev QP:SF :=
 (AJ (AO 1 IY)
 (AJ (Bq (Ba (AK Jq AG)) (Ak 2) (AJ (AO 3 (AK FS (AB (Bw (Ba (AA 0)) 1 [2] (Ak 0) Co (AK zm (AB (AA 1) (AB (AA 0) AG)))) AG)))
 (An (AS (AE (Ca true) (AD .non) (AA 3))) (DU (Bt "list" Ep (Bt "dict" HX (AA 1) (AB (AA 3) (AB (Bh AG) AG))) (AB (AA 2) AG))) As)))
 (AU (AA 1))))
abbrev Jn:GL:=Am QP Lm 1
abbrev Lj:ANE:=[ANa,"wanted"]
abbrev QK:SF :=
 (AU (AK JU (AB (Bw (HV 2 (AB (AA 0) (AB (AA 1) AG))) 2 [] (En 2 (Bn (Ak 0) (Bn (Ak 1) Eb))) Co (AE (Ca false) (AA 0) (AA 1))) AG)))
abbrev Kd:GL:=Am QK Lj 2
abbrev Lg:ANE:=[ANP,"wanted",ANa,"pieces"]
abbrev QF:SF :=
 (An (AS (AK Kd (AB (AA 2) (AB (AA 1) AG)))) (DU (Bt "list" IV (Bt "dict" HX (AA 0) (AB (AA 2) (AB (Bh AG) AG))) (AB (AA 3) AG))) As)
abbrev Iq:GL:=Am QF Lg 4
abbrev Mo:ANE:=["texts","starts","ends","signs","text","start","end"]
abbrev QB:SF :=
 (AJ (AO 3 (Bh AG))
 (AJ (Bq (HV 3 (AB (AA 0) (AB (AA 1) (AB (AA 2) AG)))) (En 3 (Bn (Ak 4) (Bn (Ak 5) (Bn (Ak 6) Eb)))) (AJ (An (AS (AE Nr (AA 5) (AA 6))) (AU (AD .non)) As)
 (DU (Bt "list" Ep (AA 3) (AB (CO (AA 4) (Bo (AA 5)) (Bo (AA 6))) AG)))))
 (AU (AA 3))))
abbrev Kc:GL:=Am QB Mo 3
abbrev Ml:ANE:=["deed","starts","ends","pieces","start"]
abbrev Pw:SF :=
 (AJ (AO 3 (Bh AG))
 (AJ (Bq (Ba (AA 1)) (Ak 4) (DU (Bt "list" IV (AA 3) (AB (Bw (Ba (AA 2)) 1 [0,4] (Ak 0) Co (CF (AB (AA 1) (AB (AA 2) (AB (AA 0) AG))))) AG))))
 (AU (AA 3))))
abbrev Kb:GL:=Am Pw Ml 3
abbrev Mh:ANE:=["deed","signs"]
abbrev Ps:SF :=
 (AJ (An (AS (AE Bj (AA 0) (AD (.str "copy")))) (AU (AA 1)) As)
 (AU (HU (AS (AE Bj (AA 0) (AD (.str "raise")))) (Bt "str" (gS0s Txt.upper) (AA 1) AG) (Bt "str" (gS0s Txt.lower) (AA 1) AG))))
abbrev Ka:GL:=Am Ps Mh 2
abbrev Me:ANE:=[ANS,"texts","wanted",ANP,"word","places","starts","ends","signs","deed",ANa]
abbrev Po:SF :=
 (AJ (AO 3 IY)
 (AJ (Bq (Ba (AA 0)) (Ak 4) (DU (AK Iq (AB (AA 3) (AB (AA 2) (AB (AK FS (AB (Bw (Ba (AA 1)) 1 [4] (Ak 0) Co (AA 1)) AG)) (AB (Bh (AB (CF (AB (AD (.str "word")) (AB (AA 4) AG))) AG)) AG)))))))
 (AJ (AO 5 (AK Jn (AB (AA 1) AG)))
 (AJ (Bq (JP (AA 5)) (Ak 6) (Bq (JP (AA 5)) (Ak 7) (AJ (AO 8 (AK Kc (AB (AA 1) (AB (AA 6) (AB (AA 7) AG)))))
 (An (AS (AE IU (AA 8) (AD .non))) (Bq (Ba (AD KP)) (Ak 9) (AJ (AO 10 (AK FS (AB (Bw (Ba (AA 8)) 1 [9] (Ak 0) Co (AK Ka (AB (AA 1) (AB (AA 0) AG)))) AG)))
 (DU (AK Iq (AB (AA 3) (AB (AA 2) (AB (AA 10) (AB (AK Kb (AB (AA 9) (AB (AE FU (AA 5) (AA 6)) (AB (AE FU (AA 5) (AA 7)) AG)))) AG)))))))) As))))
 (AU (AA 3))))))
abbrev KZ:GL:=Am Po Me 3
abbrev Mb:ANE:=[ANU,"length","rest"]
abbrev Pj:SF :=
 (AJ (An (AS (AE Bj (AA 1) (AD (.int 1)))) (AU (HU (AS (AE (HA false) (AA 2) (BG (BS [ANM] ANP) (AA 0)))) (Bh (AB (AA 2) AG)) (Bh AG))) As)
 (AU (AK LB (AB (BG (BS [ANM] ANP) (AA 0)) AG))))
abbrev KY:GL:=Am Pj Mb 3
abbrev MY:ANE:=["rest",ANa,"parts","part","answer"]
abbrev Pe:SF :=
 (AJ (AO 2 (Bh AG))
 (AJ (Bq (HV 2 (AB (AA 0) (AB (AA 1) AG))) (En 2 (Bn (Ak 3) (Bn (Ak 4) Eb))) (AJ (An (Cv (AS (Bt "str" Nn (AA 3) (AB (AA 4) AG)))) (AU (AD .non)) As)
 (DU (Bt "list" Ep (AA 2) (AB (CO (AA 3) (Bo (AK BI (AB (AA 4) AG))) Dl) AG)))))
 (AU (AK FS (AB (AA 2) AG)))))
abbrev KW:GL:=Am Pe MY 2
abbrev MV:ANE:=[ANU,"length","rest","node",ANa,"behind",ANe]
abbrev Pa(zc:GL):SF :=
 (AJ (AO 3 (HQ ANN zk (AB (AD (.int 0)) AG)))
 (AJ (Bq (Ba (AK KY (AB (AA 0) (AB (AA 1) (AB (AA 2) AG))))) (Ak 4) (AJ (AO 5 (AK KW (AB (AA 2) (AB (AA 4) AG))))
 (An (AS (AE IU (AA 5) (AD .non))) (AJ (AO 6 (AK zc (AB (AA 0) (AB (AE FT (AA 1) (AD (.int 1))) (AB (AA 5) AG)))))
 (An (AS (AE Fo (AA 6) (AD KN))) (AJ (IW (BG (BS [ANN] ANR) (AA 3)) (AA 4) (CF (AB (BG (BS [ANN] ANO) (AA 3)) (AB (AA 6) AG))))
 (LU [ANN] ANO (λi j=>i+j) (AA 3) (AE CT (AK BI (AB (AE FU (BG (BS [ANM] ANP) (AA 0)) (AA 4)) AG)) (BG (BS [ANN] ANO) (AE AQ (BG (BS [ANM] ANQ) (AA 0)) (AA 6)))))) As)) As)))
 (AJ (An (AS (AE Bj (BG (BS [ANN] ANO) (AA 3)) (AD (.int 0)))) (AU (AD KN)) As)
 (AJ (DU (Bt "list" Ep (BG (BS [ANM] ANQ) (AA 0)) (AB (AA 3) AG)))
 (AU (AE FT (AK BI (AB (BG (BS [ANM] ANQ) (AA 0)) AG)) (AD (.int 1))))))))
abbrev MT(zc:GL):GL:=Am (Pa zc) MV 3
abbrev MR:ANE:=[ANU,"length","rest","key"]
abbrev MO(zk4:GL):SF :=
 (AJ (An (AS (AE Bj (AA 1) (AD (.int 0)))) (AU (AD Lk)) As)
 (AJ (AO 3 (CF (AB (AA 1) (AB (AA 2) AG))))
 (AJ (An (AS (AE (HA true) (AA 3) (BG (BS [ANM] ANV) (AA 0)))) (IW (BG (BS [ANM] ANV) (AA 0)) (AA 3) (AK zk4 (AB (AA 0) (AB (AA 1) (AB (AA 2) AG))))) As)
 (AU (AE FU (BG (BS [ANM] ANV) (AA 0)) (AA 3))))))
abbrev zh:Nat->GL
 |0=>λ_ _=>none
 |n+1=>Am (MO (MT (zh n))) MR 3
abbrev zc:GL:=zh 5
abbrev ML:ANE:=[ANS,"examples","ordered","texts","wanted",ANU]
abbrev PV:SF :=
 (AJ (AO 2 (AK LA (AB (AA 1) AG)))
 (AJ (AO 3 (Bw (Ba (AA 2)) 1 [] (Ak 0) Co (AE AQ (AA 0) (AD (.int 0)))))
 (AJ (AO 4 (AK FS (AB (Bw (Ba (AA 2)) 1 [] (Ak 0) Co (AE AQ (AA 0) (AD (.int 1)))) AG)))
 (AJ (AO 5 (HQ ANM Jr (AB (AK FS (AB (AA 0) AG)) (AB (AK KZ (AB (AA 0) (AB (AA 3) (AB (AA 4) AG)))) AG))))
 (AJ (DU (Bt "list" IV (BG (BS [ANM] ANW) (AA 5)) (AB (Bw (Ba (AD zx)) 1 [5,4] (Ak 0) Co (AK zc (AB (AA 1) (AB (AA 0) (AB (AA 2) AG))))) AG)))
 (AU (AA 5)))))))
abbrev KU:GL:=Am PV ML 2
abbrev MJ:ANE:=[ANU]
abbrev PP:SF :=
 (AU (AK Kz (AB (Bw (Ba (BG (BS [ANM] ANW) (AA 0))) 1 [0] (Ak 0) Co (BG (BS [ANN] ANO) (AE AQ (BG (BS [ANM] ANQ) (AA 1)) (AA 0)))) AG)))
abbrev KS:GL:=Am PP MJ 1
abbrev MH:ANE:=[ANZ,"_law_at",ANd,"_law_found"]
abbrev PK:SF :=
 (AJ (AO 3 (Bw (Ba (AA 2)) 1 [0,1] (Ak 0) Co (AK zf (AB (AE AQ (AA 1) (AA 2)) (AB (AA 0) AG)))))
 (AJ (An (CS (AS (AE Bj (AK BI (AB (AA 3) AG)) (AD (.int 0)))) (CS (AS (AE Eo (AK JS (AB (AA 3) AG)) (AD (.int 1)))) (AS (AE Eo (AK BI (AB (AE AQ (AA 3) (AD (.int 0))) AG)) (AD (.int 8)))))) (AU (AA 0)) As)
 (AU (AE BB (AE BB (CO (AA 0) Dl (Bo (AA 1))) (CF (AB (CF (AB (AD (.str "word")) (AB (AE AQ (AA 3) (AD (.int 0))) AG))) AG))) (CO (AA 0) (Bo (AE BB (AA 1) (AD (.int 1)))) Dl)))))
abbrev KR:GL:=Am PK MH 3
abbrev MF:ANE:=[ANf,ANY,ANZ,ANd,ANX,"_law_other","_law_at","_law_near","_law_more","_law_free","_law_part",ANb,"_law_spelled_here"]
abbrev PD:SF :=
 (AJ (AO 4 (AE AQ (AA 0) (AD (.int 3))))
 (AJ (AO 5 (AK Iv (AB (AE Bm (AA 4) (AD (.int 16))) (AB (AA 1) (AB (AA 3) AG)))))
 (AJ (AO 6 (AE BE (AA 4) (AE BB (AK BI (AB (AA 2) AG)) (AD (.int 1)))))
 (AJ (AO 7 (AE BB (AE BB (CO (AA 2) Dl (Bo (AA 6))) (CF (AB (AE AQ (AA 5) (AE BE (AE Bm (AA 4) (AD (.int 4))) (AK BI (AB (AA 5) AG)))) AG))) (CO (AA 2) (Bo (AE BB (AA 6) (AD (.int 1)))) Dl)))
 (AJ (AO 8 (AE BB (AA 1) (Bh (AB (AE AQ (Bh (AB (AD (.str "zz")) (AB (AD (.str "a")) (AB (AD (.str "-")) (AB (AD (.str " 1")) AG))))) (AE BE (AE Bm (AA 4) (AD (.int 64))) (AD (.int 4)))) AG))))
 (AJ (AO 9 (Bh AG))
 (AJ (AO 10 (AE Bm (AA 4) (AD (.int 1024))))
 (AJ (Bq (Fk (AB (AE BB (AD (.int 1)) (AE BE (AE Bm (AA 4) (AD (.int 256))) (AD (.int 3)))) AG)) (Ak 11) (AJ (DU (Bt "list" Ep (AA 9) (AB (AK Iw (AB (AA 10) (AB (AA 8) AG))) AG)))
 (AO 10 (AE Bm (AA 10) (AD (.int 1000003))))))
 (AJ (AO 12 (AK KR (AB (AA 2) (AB (AE BE (AE Bm (AA 4) (AD (.int 16))) (AK BI (AB (AA 2) AG))) (AB (AA 3) AG)))))
 (AU (Bh (AB (AA 2) (AB (AA 5) (AB (CO (AA 7) Dl (Bo (AD (.int 3)))) (AB (AK FS (AB (AA 9) AG)) (AB (AA 12) (AB (CO (AA 2) Dl (Bo (AD (.int 1)))) (AB (AA 2) AG))))))))))))))))))
abbrev KQ:GL:=Am PD MF 4
abbrev MD:ANE:=["length","thing"]
abbrev Oy:SF :=
 (AU (ER (AK DH (AB (AA 1) (AB (AD (.ty "tuple")) AG))) (AE Bj (AK BI (AB (AA 1) AG)) (AA 0))))
abbrev Ip:GL:=Am Oy MD 2
abbrev MB:ANE:=["thing",ANS]
abbrev Ou:SF :=
 (AU (ER (AK DH (AB (AA 0) (AB (AD (.ty "str")) AG))) (AE (Ca false) (AA 0) (AA 1))))
abbrev ze:GL:=Am Ou MB 2
abbrev Lz:ANE:=["thing"]
abbrev Op:SF :=
 (AU (ER (AK DH (AB (AA 0) (AB (AD (.ty "int")) AG))) (ER (JD (AK DH (AB (AA 0) (AB (AD (.ty "bool")) AG)))) (AE (Ca false) (AA 0) (AD zu)))))
abbrev KO:GL:=Am Op Lz 1
abbrev Lx:ANE:=["thing"]
abbrev Ol:SF :=
 (AJ (An (CS (Cv (AS (AK DH (AB (AA 0) (AB (AD (.ty "tuple")) AG))))) (AS (AE Fo (AK BI (AB (AA 0) AG)) (AD (.int 3))))) (AU (AD (.bl false))) As)
 (AU (ER (AK ze (AB (AE AQ (AA 0) (AD (.int 0))) (AB (AD zt) AG))) (ER (AK KO (AB (AE AQ (AA 0) (AD (.int 1))) AG)) (AK ze (AB (AE AQ (AA 0) (AD (.int 2))) (AB (AD zw) AG)))))))
abbrev zo:GL:=Am Ol Lx 1
abbrev Lv:ANE:=["thing"]
abbrev Of:SF :=
 (AU (ER (AK Ip (AB (AD (.int 3)) (AB (AA 0) AG))) (ER (AK ze (AB (AE AQ (AA 0) (AD (.int 0))) (AB (AD KP) AG))) (ER (AK zo (AB (AE AQ (AA 0) (AD (.int 1))) AG)) (AK zo (AB (AE AQ (AA 0) (AD (.int 2))) AG))))))
abbrev KM:GL:=Am Of Lv 1
abbrev Ls:ANE:=[ANU,"piece"]
abbrev Oa:SF :=
 (AJ (An (AS (AK Ip (AB (AD (.int 2)) (AB (AA 1) AG)))) (AU (ER (AK ze (AB (AE AQ (AA 1) (AD (.int 0))) (AB (CF (AB (AD (.str "word")) AG)) AG))) (AK ze (AB (AE AQ (AA 1) (AD (.int 1))) (AB (BG (BS [ANM] ANS) (AA 0)) AG))))) As)
 (AU (AK KM (AB (AA 1) AG))))
abbrev KJ:GL:=Am Oa Ls 2
abbrev Lq:ANE:=[ANU,"row"]
abbrev OW:SF :=
 (AJ (An (CS (Cv (AS (AK DH (AB (AA 1) (AB (AD (.ty "tuple")) AG))))) (AS (AE (Ca true) (AK BI (AB (AA 1) AG)) (AD zx)))) (AU (AD (.bl false))) As)
 (AU (AK JU (AB (Bw (Ba (AA 1)) 1 [0] (Ak 0) Co (AK KJ (AB (AA 1) (AB (AA 0) AG)))) AG))))
abbrev KH:GL:=Am OW Lq 2
abbrev Lo:ANE:=[ANU,"row","shorter",ANe,"node","piece","member","arm"]
abbrev Ll:SF :=
 (AJ (An (Cv (AS (AK KH (AB (AA 0) (AB (AA 1) AG))))) (AU (AD .non)) As)
 (AJ (AO 2 (AE FT (AK BI (AB (AA 1) AG)) (AD (.int 1))))
 (AJ (AO 3 (AK Kz (AB (Bw (Ba (CO (BG (BS [ANM] ANW) (AA 0)) Dl (Bo (AA 2)))) 1 [0] (Ak 0) Co (BG (BS [ANN] ANO) (AE AQ (BG (BS [ANM] ANQ) (AA 1)) (AA 0)))) AG)))
 (AJ (AO 4 (AE AQ (BG (BS [ANM] ANQ) (AA 0)) (AE AQ (BG (BS [ANM] ANW) (AA 0)) (AA 2))))
 (AJ (Bq (Ba (AA 1)) (Ak 5) (AJ (AO 6 (Bt "dict" LI (BG (BS [ANM] ANT) (AA 0)) (AB (AA 5) AG)))
 (AJ (An (CS (AS (AE JT (AA 6) (AD .non))) (AS (AE (HA true) (AE AQ (AA 6) (AD (.int 0))) (BG (BS [ANN] ANR) (AA 4))))) (AU (AD .non)) As)
 (AJ (AO 7 (AE FU (BG (BS [ANN] ANR) (AA 4)) (AE AQ (AA 6) (AD (.int 0)))))
 (AJ (AO 4 (AE AQ (BG (BS [ANM] ANQ) (AA 0)) (AE AQ (AA 7) (AD (.int 1)))))
 (Jd 3 (λi j=>i+j) (AE BB (AE AQ (AA 7) (AD (.int 0))) (AE CT (AE AQ (AA 6) (AD (.int 1))) (BG (BS [ANN] ANO) (AA 4))))))))))
 (AU (AA 3)))))))
abbrev zp:GL:=Am Ll Lo 2
abbrev Li:ANE:=["_law_thing"]
abbrev Qj:SF :=
 (AJ (An (CS (Cv (AS (AK DH (AB (AA 0) (AB (AD (.ty "tuple")) AG))))) (AS (AE Fo (AK BI (AB (AA 0) AG)) (AD (.int 3))))) (AU (AD (.bl false))) As)
 (AJ (An (CS (Cv (AS (AK DH (AB (AE AQ (AA 0) (AD (.int 1))) (AB (AD (.ty "int")) AG))))) (CS (AS (AK DH (AB (AE AQ (AA 0) (AD (.int 1))) (AB (AD (.ty "bool")) AG)))) (AS (AE (Ca true) (AE AQ (AA 0) (AD (.int 1))) (CF (AB (AD (.int 1)) (AB (AD (.int 2)) (AB (BG HZ (AD (.int 1))) (AB (BG HZ (AD (.int 2))) AG))))))))) (AU (AD (.bl false))) As)
 (AJ (An (CS (Cv (AS (AK DH (AB (AE AQ (AA 0) (AD (.int 0))) (AB (AD (.ty "str")) AG))))) (Cv (AS (AK DH (AB (AE AQ (AA 0) (AD (.int 2))) (AB (AD (.ty "str")) AG)))))) (AU (AD (.bl false))) As)
 (AU (ER (AE (Ca false) (AE AQ (AA 0) (AD (.int 0))) (CF (AB (AD (.str "small")) (AB (AD (.str "great")) (AB (AD (.str "figure")) (AB (AD (.str "mark")) (AB (AD (.str "any")) AG))))))) (AE (Ca false) (AE AQ (AA 0) (AD (.int 2))) (CF (AB (AD (.str "ahead")) (AB (AD (.str "behind")) AG)))))))))
abbrev Io:GL:=Am Qj Li 1
abbrev Lf:ANE:=["_law_thing",ANY,ANi]
abbrev Qf:SF :=
 (AJ (An (CS (Cv (AS (AK DH (AB (AA 0) (AB (AD (.ty "tuple")) AG))))) (Cv (AS (IA LF LF (AD (.int 1)) (AK BI (AB (AA 0) AG)) (AD (.int 3)))))) (AU (AD (.bl false))) As)
 (AJ (Bq (Ba (AA 0)) (Ak 2) (AJ (An (CS (Cv (AS (AK DH (AB (AA 2) (AB (AD (.ty "tuple")) AG))))) (CS (AS (AE gLt (AK BI (AB (AA 2) AG)) (AD (.int 2)))) (Cv (AS (AK DH (AB (AE AQ (AA 2) (AD (.int 0))) (AB (AD (.ty "str")) AG))))))) (AU (AD (.bl false))) As)
 (An (AS (AE Bj (AE AQ (AA 2) (AD (.int 0))) (AD (.str "word")))) (An (CS (AS (AE Fo (AK BI (AB (AA 2) AG)) (AD (.int 2)))) (CS (Cv (AS (AK DH (AB (AE AQ (AA 2) (AD (.int 1))) (AB (AD (.ty "str")) AG))))) (AS (AE (Ca true) (AE AQ (AA 2) (AD (.int 1))) (AA 1))))) (AU (AD (.bl false))) As) (An (CS (AS (AE Fo (AK BI (AB (AA 2) AG)) (AD (.int 3)))) (AS (AE (Ca true) (AE AQ (AA 2) (AD (.int 0))) (CF (AB (AD (.str "copy")) (AB (AD (.str "raise")) (AB (AD (.str "sink")) AG))))))) (AU (AD (.bl false))) (An (CS (Cv (AS (AK Io (AB (AE AQ (AA 2) (AD (.int 1))) AG)))) (Cv (AS (AK Io (AB (AE AQ (AA 2) (AD (.int 2))) AG))))) (AU (AD (.bl false))) As)))))
 (AU (AD (.bl true)))))
abbrev KF:GL:=Am Qf Lf 2
abbrev Mn:ANE:=[ANZ,ANY,"_law_examples",ANc,"_law_answer"]
abbrev Qb:SF :=
 (AJ (An (Cv (AS (AK KF (AB (AA 0) (AB (AA 1) AG))))) (AU (AD (.bl false))) As)
 (AJ (Bq (Ba (AA 2)) (En 2 (Bn (Ak 3) (Bn (Ak 4) Eb))) (An (AS (AE Hu (AK Iu (AB (AA 0) (AB (AA 3) AG))) (AA 4))) (AU (AD (.bl false))) As))
 (AU (AD (.bl true)))))
abbrev KB:GL:=Am Qb Mn 3
abbrev Mj:ANE:=["_law_found"]
abbrev QX:SF :=
 (AU (ER (AK DH (AB (AA 0) (AB (AD (.ty "int")) AG))) (JD (AK DH (AB (AA 0) (AB (AD (.ty "bool")) AG))))))
abbrev Jz:GL:=Am QX Mj 1
abbrev Mg:ANE:=["node",ANe,"found",ANa,"arm"]
abbrev QS:SF :=
 (AJ (AO 2 (AD .non))
 (AJ (Bq (JO (BG (BS [ANN] ANR) (AA 0))) (En 2 (Bn (Ak 3) (Bn (Ak 4) Eb))) (AJ (An (AS (AE Eo (AE AQ (AA 4) (AD (.int 0))) (AA 1))) SV As)
 (AO 2 (AA 3))))
 (AU (AA 2))))
abbrev Jx:GL:=Am QS Mg 2
abbrev Md:ANE:=[ANU,"root",ANe,"pieces","node",ANa,"arm","behind","within"]
abbrev QN:SF :=
 (AJ (AO 3 (Bh AG))
 (AJ (AO 4 (AE AQ (BG (BS [ANM] ANQ) (AA 0)) (AA 1)))
 (AJ (Qm (AS (AE Eo (AK LD (AB (BG (BS [ANN] ANR) (AA 4)) AG)) (AD (.int 0)))) (AJ (AO 5 (AK Jx (AB (AA 4) (AB (AA 2) AG))))
 (AJ (AO 6 (AE FU (BG (BS [ANN] ANR) (AA 4)) (AA 5)))
 (AJ (AO 7 (AE AQ (BG (BS [ANM] ANQ) (AA 0)) (AE AQ (AA 6) (AD (.int 1)))))
 (AJ (AO 8 (AE FT (AA 2) (AE AQ (AA 6) (AD (.int 0)))))
 (AJ (DU (Bt "list" Ep (AA 3) (AB (AE AQ (AE FU (BG (BS [ANM] ANP) (AA 0)) (AA 5)) (AE Bm (AA 8) (BG (BS [ANN] ANO) (AA 7)))) AG)))
 (AJ (AO 2 (AE BE (AA 8) (BG (BS [ANN] ANO) (AA 7))))
 (AO 4 (AA 7)))))))))
 (AU (AK FS (AB (AA 3) AG))))))
abbrev Jv:GL:=Am QN Md 3
abbrev Ma:ANE:=[ANU,ANe,"root",ANO]
abbrev QJ:SF :=
 (AJ (An (AS (AE gLt (AA 1) (AD (.int 0)))) RV As)
 (AJ (Bq (Ba (BG (BS [ANM] ANW) (AA 0))) (Ak 2) (AJ (AO 3 (BG (BS [ANN] ANO) (AE AQ (BG (BS [ANM] ANQ) (AA 0)) (AA 2))))
 (AJ (An (AS (AE gLt (AA 1) (AA 3))) (AU (AK Jv (AB (AA 0) (AB (AA 2) (AB (AA 1) AG))))) As)
 (Jd 1 (λi j=>i-j) (AA 3)))))
 RV))
abbrev Js:GL:=Am QJ Ma 2
abbrev MX:ANE:=[ANh,ANf,ANY,ANZ,"_law_examples","_law_table","_law_size","_law_some",ANg]
abbrev QE:SF :=
 (AJ (AO 1 (AK KI (AB (AA 0) (AB (AD (.int 24)) (AB (AD (.int 54)) AG)))))
 (AJ (Ic (AK Ju (AB (AA 1) AG)) 3 (Bn (Ak 2) (Bn (Ak 3) (Bn (Ak 4) Eb))))
 (AJ (AO 5 (AK KU (AB (AA 2) (AB (AA 4) AG))))
 (AJ (AO 6 (AK KS (AB (AA 5) AG)))
 (AJ (Bq (Ba (AK KQ (AB (AA 1) (AB (AA 2) (AB (AA 3) (AB (Bw (Ba (AA 4)) 2 [] (En 2 (Bn (Ak 0) (Bn (Ak 1) Eb))) Co (AA 0)) AG)))))) (Ak 7) (AJ (AO 8 (AK zp (AB (AA 5) (AB (AA 7) AG))))
 (An (Cv (AS (AK KB (AB (AA 7) (AB (AA 2) (AB (AA 4) AG)))))) (An (AS (AE IU (AA 8) (AD .non))) (AU (AD (.bl false))) As) (An (CS (Cv (AS (AK Jz (AB (AA 8) AG)))) (CS (Cv (AS (IA LF gLt (AD (.int 0)) (AA 8) (AA 6)))) (AS (AE Hu (AK Js (AB (AA 5) (AB (AA 8) AG))) (AA 7))))) (AU (AD (.bl false))) As))))
 (AU (AD (.bl true))))))))
abbrev Im:GL:=Am QE MX 1
end L3
set_option maxHeartbeats 4000000
local macro_rules | `(tactic| wtm_at "z_lk") => `(tactic| first | (with_reducible assumption) | (with_reducible exact L3.AY) | ((with_reducible refine L3.AV ?_); wtm_at "z_lk") | ((with_reducible refine L3.Ch ?_); wtm_at "z_lk") | fail)
local macro_rules | `(tactic| wtm_at "z_pf") => `(tactic| first | exact AW _ | assumption | ((with_reducible refine List.IsPrefix.trans ?_ (Ai _ _)); wtm_at "z_pf") | ((with_reducible refine L3.IJ ?_ ?_); (focus wtm_at "z_pf"); (focus (first | exact Af _ | simp))) | fail)
local macro_rules | `(tactic| rfl') => `(tactic| wtm_at "z")
local macro_rules | `(tactic| wtm_at "z") => do let k1 := Lean.mkIdent `k1; let k2 := Lean.mkIdent `k2; let k3 := Lean.mkIdent `k3; let f := fun (s : String) (ks : Array Lean.Ident) (xs : List (Lean.TSyntax `tactic)) => (do let ks ← ks.mapM fun k => `(?$k:ident); let ys ← (s.splitOn " ").toArray.mapM fun n => `(tactic| refine' $(Lean.mkCIdent (.str `L3 n)) $ks* ?_); let y ← `(tactic| with_reducible first $[| $ys:tactic]* | fail); xs.foldlM (fun y x => `(tactic| ($y:tactic; $x:tactic))) y : Lean.MacroM (Lean.TSyntax `tactic)); let x0 := fun (k : Lean.Ident) => `(tactic| (case $k:ident => with_unfolding_all rfl)); let x1 := fun (k : Lean.Ident) => `(tactic| (case $k:ident => first | rfl | (unfold L3.Ny; refine decide_eq_true ?_; omega))); let x2 := fun (k : Lean.Ident) => `(tactic| (case $k:ident => first | rfl | (unfold L3.LQ; rw [Bz]; constructor <;> refine decide_eq_true ?_ <;> omega))); let x3 := fun (k : Lean.Ident) => `(tactic| (case $k:ident => wtm_at "z_lk")); let x4 := fun (k : Lean.Ident) => `(tactic| (case $k:ident => (first | with_unfolding_all rfl | (refine L3.ty_of_lst (xs := ?y1) ?y2; (case y2 => wtm_at "z_lk")) | (refine L3.ty_of_dk (xs := ?y1) ?y2; (case y2 => wtm_at "z_lk"))))); let x5 := fun (k : Lean.Ident) => `(tactic| (case $k:ident => first | decide | omega)); let x6 := fun (k : Lean.Ident) => `(tactic| (case $k:ident => first | rfl | assumption | decide | omega | (simp only [Dd, List.length_nil]; omega))); let s ← `(tactic| first | $(← f "Mr Mq AHk AHo AHn AHp AHq AHs AHm AHv AHl AHt AHr" #[] []):tactic | $(← f "AHu" #[k1] [(← x0 k1)]):tactic | fail); let e ← `(tactic| first | $(← f "Qn XT Rz" #[k1] [(← x0 k1)]):tactic | $(← f "UU UT UV US AIQ AIR AID AIS AII AAX AIM AIK AIE AFt AIU AIF AIO AIT AIH AIJ AIG AIL AAZ AJw AJ3 AJ8 AKF AKK AKL AKP AKN AJ5 AJ4 AKO AKH AKG AKJ AJz AKB AKA AKD AKQ AJ7 AJ6 AKI AJ1 AJ2 AIP AJy AIN AAY AJx" #[] []):tactic | $(← f "AFk" #[k1] [(← x1 k1)]):tactic | $(← f "AFq" #[k1] [(← x2 k1)]):tactic | $(← f "AKC AJv AJ0" #[k1] [(← x3 k1)]):tactic | $(← f "SA" #[k1, k2, k3] [(← x0 k1), (← x4 k2), (← x0 k3)]):tactic | $(← f "FR" #[k1, k2, k3] [(← x0 k1), (← x4 k2), (← x0 k3)]):tactic | $(← f "AKM" #[k1, k2, k3] [(← x3 k1), (← x0 k2), (← x0 k3)]):tactic | $(← f "AKE AJ9" #[k1] [(← x3 k1)]):tactic | $(← f "SD AFr" #[k1, k2] [(← x3 k1), (← x0 k2)]):tactic | $(← f "" #[k1, k2, k3] [(← x3 k1), (← x3 k2), (← x0 k3)]):tactic | fail); let t ← `(tactic| first | $(← f "AJl ALP ALO ALU AJk AAS AH8 AH7 AH5 AHx AHz AHy AH4 AKT ALS ALT ALQ ALR AIX AH2 AH1 AH3 AHw" #[] []):tactic | $(← f "AE2 AH6 AIV" #[k1] [(← x0 k1)]):tactic | $(← f "Ua AH0 AJi" #[k1] [(← x3 k1)]):tactic | $(← f "AIW" #[k1, k2] [(← x3 k1), (← x0 k2)]):tactic | $(← f "XS" #[k1, k2, k3] [(← x3 k1), (← x0 k2), (← x0 k3)]):tactic | $(← f "AKw AIY" #[k1] [(← x3 k1)]):tactic | $(← f "AI0 AIz" #[k1] [(← x5 k1)]):tactic | $(← f "ALV" #[k1] [(← x6 k1)]):tactic | $(← f "ALW" #[k1] [(← x6 k1)]):tactic | fail); `(tactic| repeat' (first | ((with_reducible refine (?_ : L3.WS _ _ _ _ _)); $s:tactic) | ((with_reducible refine (?_ : L3.W2 _ _)); $e:tactic) | ((fail_if_success (with_reducible refine (?_ : L3.W2 _ _))); $t:tactic) | fail))
namespace L3
open PySem PySem.Spec PyProof.Rows L2
abbrev LY(n:Int):Prop:=n=1\/n=2\/n=-1\/n=-2
abbrev Dr(d:D):Prop:=∃(kind:Str) (nth:Int) (edge:Str),d=.tup [.str kind,.int nth,.str edge]/\LY nth/\(edge = "ahead"\/edge = "behind")/\kind∈([("small":Str),"great","figure","mark","any"]:ANE)
def SS{Q:ANn}{L:AC}{ns:ANK}{kd:Nat}(hd:L[kd]?=some (.lst (ns.map .int)))(hv:∀v∈ns,0<=v)(hp:0<ns.length)(hn:ns.length<=63){k:Int}(h0:0<=k)(h1:k<1000)(q:∀v:Int,0<=v->Q (.int v) L):W2 (zj [.ref kd,.int k] L) Q:=by
 have hlen:((ns.map D.int).length:Int)=ns.length:=by simp
 unfold zj;refine BZ rfl ?_;unfold Oq;rfl';refine BN (λhk=>?_) (λhk=>?_)
 .obtain⟨z,hz,ez⟩:=HD h0 (hlen▸hk);rfl';refine Bp hd ez ?_;exact⟨rfl,AW _,q _ (hv z hz)⟩
 .have hkk:0<=k*k/\k*k<=1000000:=by
   have a1:k*k<=1000*1000:=AMQ (by omega) (by omega) h0 (by omega);exact⟨AMR h0 h0,by omega⟩
  rfl';refine Cs (Gw (by omega)) ?_;rfl';obtain⟨z,hz,ez⟩:=HD (ns:=ns) (k:=k*7 % ((ns.map D.int).length:Int)) (DN _ (by omega)) (by have:=EX (k*7) (b:=((ns.map D.int).length:Int)) (by omega);omega);refine Bp hd ez ?_;rfl';have r1:=DN z (b:=10000000000000000000000000000000000000000) (by decide);have r2:=EX z (b:=10000000000000000000000000000000000000000) (by decide);refine Cs (Gw (by omega)) ?_;rfl';refine Cs (GO (by omega)) ?_;rfl';refine Cs (Gw (by omega)) ?_;rfl';generalize hu:z % 10000000000000000000000000000000000000000*48271+k*k*7919+5=u
  have hb:Builtin.Int.intBits u<=160:=YR (by
   have:(u.natAbs:Int)<((2 ^ 160:Nat):Int):=by
    have e:((2 ^ 160:Nat):Int)=1461501637330902918203684832716283019655932542976:=by decide
    rw[e];omega
   exact Int.ofNat_lt.mp this)
  refine Cs (RW hb hb (by decide)) ?_;rfl';refine Cs (GO ?_) ?_
  .have:=DN (u*u) (b:=2147483629) (by decide);have:=EX (u*u) (b:=2147483629) (by decide);omega
  rfl';exact⟨rfl,AW _,q _ (DN _ (by decide))⟩
def GP{L:AC}{Q:ANn}{k:Nat}{xs:List D}{n:Int}(c:Int)(e:L[k]?=some (.lst xs))(h0:0<n)(h:n<=xs.length)(q:∀d∈xs,Q d L):W2 (AQ (.ref k) (.int (c % n)) L) Q:=by obtain⟨d,hd,e2⟩:=OB (xs:=xs) c h0 h;exact Bp e e2 (q d hd)
def WU{Q:ANn}{L:AC}(c:Int)(q:∀p,Dr p->Q p L):W2 (zy [.int c] L) Q:=by
 unfold zy;refine BZ rfl ?_;unfold Pb;rfl';refine GP c AY (by decide) (by decide) λd hd=>?_;rfl';refine GP (c / 5) AY (by decide) (by decide) λd2 hd2=>?_;rfl';refine GP (c / 20) AY (by decide) (by decide) λd3 hd3=>?_;rfl';simp only[AX,Db,or_false] at hd hd2 hd3
 have hk:∃kind:Str,d=.str kind/\kind∈([("small":Str),"great","figure","mark","any"]:ANE):=by
  rcases hd with rfl|rfl|rfl|rfl|rfl
  .exact⟨_,rfl,by decide⟩
  .exact⟨_,rfl,by decide⟩
  .exact⟨_,rfl,by decide⟩
  .exact⟨_,rfl,by decide⟩
  .exact⟨_,rfl,by decide⟩
 have hn:∃n:Int,d2=.int n/\LY n:=by
  rcases hd2 with rfl|rfl|rfl|rfl
  .exact⟨_,rfl,.inl rfl⟩
  .exact⟨_,rfl,.inr (.inl rfl)⟩
  .exact⟨_,rfl,.inr (.inr (.inl rfl))⟩
  .exact⟨_,rfl,.inr (.inr (.inr rfl))⟩
 have he:∃e:Str,d3=.str e/\(e = "ahead"\/e = "behind"):=by
  rcases hd3 with rfl|rfl
  .exact⟨_,rfl,.inl rfl⟩
  .exact⟨_,rfl,.inr rfl⟩
 obtain⟨kind,rfl,hk⟩:=hk;obtain⟨n,rfl,hn⟩:=hn;obtain⟨e,rfl,he⟩:=he;exact⟨rfl,by wtm_at "z_pf",q _ ⟨kind,n,e,rfl,hn,he,hk⟩⟩
def RY{Q:ANn}{L:AC}(c most:Int)(h0:0<=most)(h1:most<=100)(q:∀t:Str,Ay t->(t.length:Int)<=most->Q (.str t) L):W2 (zi [.int c,.int most] L) Q:=by
 unfold zi;refine BZ rfl ?_;unfold Pk;have hS:("abcdefghijklmnopqrstuvwxyzABCDEFGHIJKLMNOPQRSTUVWXYZ0123456789 -.,/":Str)=Sd:=rfl;rw[hS];have hz1:0<=c % (most+1):=DN _ (by omega);have hz2:c % (most+1)<most+1:=EX _ (by omega);rfl';refine GP _ AY (by decide) (by decide) λd hd=>?_
 have hd':∃m:Str,d=.str m/\Ay m/\0<m.length/\m.length<=67:=by simp only[AX,Db,or_false] at hd;rcases hd with rfl|rfl|rfl|rfl <;> exact⟨_,rfl,by decide +kernel,by decide +kernel,by decide +kernel⟩
 obtain⟨m,rfl,hm1,hm2,hm3⟩:=hd';rfl';generalize hL:L++[Ob.lst [D.str "abAB12 -",D.str "aB 1",D.str "aab",D.str Sd]]=L1;have hpre:L <+: L1:=by rw[<-hL];exact Ai _ _
 refine Cn (λj Cz=>∀(c':Int) (t:Str) (a:Option D),Ay t->t.length<=j->Cz [some (.int c'),some (.int most),some (.str Sd),some (.str m),some (.int (c % (most+1))),some (.str t),a] L1) _ 0 _ _ (λCz kz1=>kz1 _ _ _ (by decide) (by decide)) ?_ ?_
 .rintro i x hx Cz Cy fz1 kz1 c' t a ht1 ht2;obtain⟨hi,rfl⟩:=Km hx;refine fz1 _ _ rfl ?_;rfl';obtain⟨k,hk1,hk2⟩:=OB (xs:=m.cps.toList) (n:=(m.length:Int)) c' (by omega) (by simp[Str.length]);refine Rz hk2 ?_;have hone:(⟨#[k]⟩:Str).length=1:=rfl;refine Nk (by rw[hone];omega) ?_;rfl';refine kz1 _ _ _ (ht1.app (.one (hm1 _ hk1))) ?_;rw[OH,hone];omega
 .rintro Cy fz1 c' t a ht1 ht2;refine fz1 _ _ rfl ?_;rfl';rw[Ff] at ht2;exact⟨rfl,hpre,q t ht1 (by omega)⟩
abbrev Ga(ws:ANE):Prop:=ws.Nodup/\(∀w∈ws,Ay w/\0<w.length/\w.length<=8)/\ws.length<=6
def Kv(w:Str):∀ws:ANE,Cw (.str w) (ws.map D.str)=decide (w∈ws)
 |[]=>by simp[Cw]
 |x::xs=>by
  have ih:=Kv w xs;unfold Cw at ih ⊢;rw[Aj,ALk,ih]
  have e:JW (.str x) (.str w)=decide (w=x):=by
   show(x == w)=decide (w=x)
   by_cases h:w=x
   .subst h;simp
   .have:¬x=w:=λz=>h z.symm;simp[h,this]
  rw[e]
  by_cases h:w=x <;> simp[h]
def Nt(ws:ANE):(ws.map D.str).all BD=true:=by rw[List.all_map,Bu];exact λ_ _=>rfl
def VF{t:Str}(h:t≠""):0<t.length:=by
 rcases Nat.eq_zero_or_pos t.length with h0|h0
 .exfalso;apply h;obtain⟨a⟩:=t;have:a=#[]:=Array.eq_empty_of_size_eq_zero h0;subst this;rfl
 .exact h0
def Wm{L L':AC}{o:Ob}(h:DW L.length (L++[o]) L'):L <+: L':=by rw[List.prefix_iff_getElem?];intro j hj;rw[h.2 j (by omega) (by simp;omega),Ey hj];simp[hj]
def AGe{cs:ANK}{a b:Option Int}{x:D}(h:x∈cutD (cs.map D.int) a b):∃v∈cs,x=.int v:=by unfold cutD at h;obtain⟨v,hv,rfl⟩:=Aq.mp (AMS (ALb h));exact⟨v,hv,rfl⟩
def AGd(xs:List D)(n:Nat):(cutD xs (some 1) (some (1+(n:Int)))).length<=n:=by unfold cutD;rw[show(1:Int)=((1:Nat):Int) from rfl,show((1:Nat):Int)+(n:Int)=((1+n:Nat):Int) by omega,HT.AIy,HT.AIy,EW,AL0];omega
def AEf{Q:ANn}{L:AC}{cs:ANK}{kc:Nat}(hc:L[kc]?=some (.lst (cs.map .int)))(hp:0<cs.length)(q:∀ws L',Ga ws->L <+: L'->L'[L.length]?=some (.lst (ws.map D.str))->Q (.ref L.length) L'):W2 (KG [.ref kc] L) Q:=by
 obtain⟨c,r,rfl⟩:∃c r,cs=c::r:=by cases cs with|nil=>exact absurd hp (by decide)|cons c r=>exact⟨c,r,rfl⟩
 have kcl:=(Ax.mp hc).1;unfold KG;refine FN rfl ?_;unfold Pf;have m5:=DN c (b:=5) (by decide);have m5':=EX c (b:=5) (by decide);have m2:=DN c (b:=2) (by decide);have m2':=EX c (b:=2) (by decide);have e0:atI ((c::r).map D.int) 0=some (.int c):=Di (j:=0) rfl;refine Mr (Mq (AAX (US (AE2 rfl ?_))));have hc1:(L++[Ob.lst []])[kc]?=some (.lst ((c::r).map D.int)):=AV hc;refine Bf (λCz=>Cz [some (.ref kc),some (.ref L.length),some (.int (c % 5)),none,none] (L++[Ob.lst []])) (λCz kz1=>?_) ?_
 .rfl';refine Bp hc1 e0 ?_;rfl';exact kz1
 skip
 refine Bf (λCz=>∀(n:Nat) (i:Int),i=n->n<=6->Cz [some (.ref kc),some (.ref L.length),some (.int i),none,none] (L++[Ob.lst []])) (λCz kz2=>?_) ?_
 .rfl';refine Bp hc1 e0 ?_;rfl';refine BN (λh=>?_) (λh=>?_)
  .rfl';refine Bp hc1 e0 ?_;rfl';exact kz2 (5+c % 2).toNat _ (by omega) (by omega)
  .rfl';exact kz2 (c % 5).toNat _ (by omega) (by omega)
 rintro n _ rfl hn6;rfl';have hI:(L++[Ob.lst []]).length=L.length+1:=by simp
 have hil:=AGd ((c::r).map D.int) n;have him:∀x∈cutD ((c::r).map D.int) (some 1) (some (1+(n:Int))),∃v:Int,x=.int v:=λx hx=>let ⟨v,_,e⟩:=AGe hx;⟨v,e⟩;generalize cutD ((c::r).map D.int) (some 1) (some (1+(n:Int)))=its at hil him ⊢;refine Cn (λj Cz=>∀L':AC,∀(ws:ANE) (a b:Option D),DW L.length (L++[Ob.lst []]) L'->L'[L.length]?=some (.lst (ws.map D.str))->L'[(L++[Ob.lst []]).length]?=some (.lst its)->ws.Nodup->(∀w∈ws,Ay w/\0<w.length/\w.length<=8)->ws.length<=j->Cz [some (.ref kc),some (.ref L.length),some (.int (n:Int)),a,b] L') _ 0 _ _ (λCz kz3=>kz3 _ [] none none (.app _ _ _) (AV AY) AY Gm (λ_ h=>(nomatch h)) (Af _)) ?_ ?_
 .rintro i x hx Cz Cy fz3 kz3 L' ws a b hkp hg hgi hnd hw hl;have hi:i<its.length:=(Ax.mp hx).1;obtain⟨v,rfl⟩:=him x (Bk hx);refine fz3 _ _ (decide_eq_true hgi) (AAS ?_);refine Bf (λCz=>∀L2:AC,DW L.length (L++[Ob.lst []]) L2->L2[L.length]?=some (.lst (ws.map D.str))->L2[(L++[Ob.lst []]).length]?=some (.lst its)->∀(t:Str),Ay t->t.length<=8->Cz [some (.ref kc),some (.ref L.length),some (.int (n:Int)),some (.int v),some (.str t)] L2) (λCz kz4=>?_) ?_
  .rfl';refine GP _ AY (by decide) (by decide) λd hd=>?_
   have hd':∃m:Int,d=.int m/\0<=m/\m<=8:=by simp only[AX,Db,or_false] at hd;rcases hd with rfl|rfl|rfl|rfl <;> exact⟨_,rfl,by decide,by decide⟩
   obtain⟨m,rfl,hm0,hm8⟩:=hd';rfl';refine RY _ _ hm0 (by omega) λt ht1 ht2=>?_;exact kz4 _ (hkp.trans (.app _ _ _)) (AV hg) (AV hgi) t ht1 (by omega)
  rintro L2 hkp2 hg2 hgi2 t ht1 ht2;refine Bf (λCz=>∀(t:Str),Ay t->t.length<=8->Cz [some (.ref kc),some (.ref L.length),some (.int (n:Int)),some (.int v),some (.str t)] L2) (λCz kz5=>?_) ?_
  .rfl';refine BN (λh=>?_) (λh=>?_)
   .rfl';exact kz5 _ (ht1.slice _ _) (CV (Txt.slice_le _ _ _) ht2)
   .rfl';exact kz5 t ht1 ht2
  clear ht1 ht2 t;rintro t ht1 ht2;refine Bf (λCz=>∀(t:Str),Ay t->t.length<=8->0<t.length->Cz [some (.ref kc),some (.ref L.length),some (.int (n:Int)),some (.int v),some (.str t)] L2) (λCz kz6=>?_) ?_
  .rfl';refine BN (λh=>?_) (λh=>?_)
   .rfl';exact kz6 ("-") (by decide +kernel) (by decide) (by decide)
   .rfl';exact kz6 t ht1 ht2 (VF h)
  clear ht1 ht2 t;rintro w hw1 hw2 hw3;rfl';refine Ni hg2 (by rw[Nt];rfl) ?_;rw[Kv];rfl';refine BN (λhm=>?_) (λhm=>?_)
  .rfl';exact kz3 _ ws _ _ hkp2 hg2 hgi2 hnd hw (by omega)
  .rfl';refine GR hg2 (by simp;omega) ?_;refine kz3 _ (ws++[w]) _ _ (hkp2.trans (.set _ _ _)) ?_ (Fl (by rw[hI];omega) hgi2) ?_ (λy hy=>?_) (by simp;omega)
   .rw[Ch hg2];simp
   .rw[Gp];refine⟨hnd,by simp,λa ha b hb=>?_⟩;have:b=w:=by simpa using hb
    rw[this];rintro rfl;exact hm ha
   .rcases Bi.mp hy with h|h
    .exact hw y h
    .have:y=w:=by simpa using h
     rw[this];exact⟨hw1,hw3,hw2⟩
 .rintro Cy fz3 L' ws a b hkp hg hgi hnd hw hl;refine fz3 _ _ (decide_eq_true hgi) ?_;rfl';refine⟨rfl,q ws L' ⟨hnd,hw,by omega⟩ (Wm hkp) hg⟩
abbrev Hq(s:Str):D:=if Fj s "abcdefghijklmnopqrstuvwxyz"=true then .str "small" else if Fj s "ABCDEFGHIJKLMNOPQRSTUVWXYZ"=true then .str "great" else if Fj s "0123456789"=true then .str "figure" else if Fj s " -.,/"=true then .str "mark" else .non
def AE6{Q:ANn}{L:AC}(s:Str)(h:Q (Hq s) L):W2 (Jp [.str s] L) Q:=by
 unfold Jp;refine BZ rfl ?_;unfold Hq at h;simp only[Qc,Ln];rfl';refine Hf rfl ?_;rfl';refine GY (λh1=>?_) (λh1=>?_)
 .rw[if_pos h1] at h;rfl';exact⟨rfl,AW _,h⟩
 rw[if_neg (by simp[h1])] at h;rfl';refine Hf rfl ?_;rfl';refine GY (λh1=>?_) (λh1=>?_)
 .rw[if_pos h1] at h;rfl';exact⟨rfl,AW _,h⟩
 rw[if_neg (by simp[h1])] at h;rfl';refine Hf rfl ?_;rfl';refine GY (λh1=>?_) (λh1=>?_)
 .rw[if_pos h1] at h;rfl';exact⟨rfl,AW _,h⟩
 rw[if_neg (by simp[h1])] at h;rfl';refine Hf rfl ?_;rfl';refine GY (λh1=>?_) (λh1=>?_)
 .rw[if_pos h1] at h;rfl';exact⟨rfl,AW _,h⟩
 rw[if_neg (by simp[h1])] at h;rfl';refine ws_loop_nil rfl ?_;rfl';exact⟨rfl,AW _,h⟩
abbrev FP(kind s:Str):Bool:=decide (kind = "any") || decide (Hq s=.str kind)
def AE8(s:Str):Hq s=.non\/∃k,Hq s=.str k:=by
 unfold Hq
 repeat' split
 all_goals first|exact .inl rfl|exact .inr ⟨_,rfl⟩
def AFN{Q:ANn}{L:AC}(kind s:Str)(h:Q (.bl (FP kind s)) L):W2 (Jo [.str kind,.str s] L) Q:=by
 unfold Jo;refine BZ rfl ?_;unfold QY;rfl';refine BN (λh1=>?_) (λh1=>?_)
 .have e:FP kind s=true:=by simp[FP,h1]
  rw[e] at h;exact⟨rfl,AW _,h⟩
 .rfl';refine AE6 _ ?_;have e:FP kind s=decide (Hq s=.str kind):=by simp[FP,h1]
  rw[e] at h;rcases AE8 s with e|⟨k,e⟩
  .rw[e] at h ⊢;rfl';rw[decide_eq_false (by intro z;cases z)] at h;exact⟨rfl,AW _,h⟩
  .rw[e] at h ⊢;rfl';rw[LM (show D.str k=D.str kind↔k=kind by simp)] at h;exact⟨rfl,AW _,h⟩
abbrev nums(p:Nat->Bool)(n:Nat):ANK:=(List.range n).filterMap λ(i:Nat)=>if p i=true then some (i:Int) else none
def AEC{p q:Nat->Bool}{n:Nat}(h:∀i,i<n->p i=q i):nums p n=nums q n:=by unfold nums;apply LK;intro i hi;rw[h i (CM.mp hi)]
def AEB{p:Nat->Bool}{n:Nat}{z:Int}(h:z∈nums p n):0<=z/\z<n:=by
 unfold nums at h;rw[AMb] at h;obtain⟨i,hi,h⟩:=h;have:=CM.mp hi;split at h
 .cases h;omega
 .cases h
abbrev Gu(ns:ANK)(nth:Int)(b:Bool):Option D:=if (ns.length:Int)<(if nth<0 then -nth else nth) then some .non else (atI ns (if nth>0 then nth-1 else nth)).map λi=>.int (if b then i+1 else i)
def VI{Q:ANn}{L:AC}{kind edge y:Str}{nth:Int}{d:D}(hy:y.length<=1000)(e:Gu (nums (λi=>FP kind (sg y i)) y.cps.size) nth (!decide (edge = "ahead"))=some d)(h:Q d L):W2 (zm [.tup [.str kind,.int nth,.str edge],.str y] L) Q:=by
 unfold zm;refine BZ rfl ?_;unfold QU;rfl';have hy':y.cps.size<=1000:=hy;rw[AGL]
 refine Ms (λZ=>∃a b,Z=[a,b,some (.str kind)]) (λx=>match x with|.tup [.int i,.str s]=>if FP kind s=true then some (.int i) else none|_=>none) _ _ ⟨none,none,rfl⟩ (by simp;omega) ?_ ?_
 .rintro x hx Z ⟨a,b,rfl⟩;rw[Aq] at hx;obtain⟨i,_,rfl⟩:=hx;rfl';refine⟨⟨_,_,rfl⟩,λacc=>?_⟩;rfl';refine AFN _ _ ?_;rfl';refine⟨rfl,GY (λh=>?_) (λh=>?_)⟩
  .rfl';exact⟨rfl,if_pos h⟩
  .exact if_neg (by rw[h];exact Cf)
 have ef:AME (λx=>match x with|D.tup [.int i,.str s]=>if FP kind s=true then some (D.int i) else none|_=>none) ((List.range y.cps.size).map λ(i:Nat)=>D.tup [.int (i:Int),.str (sg y i)])=(nums (λi=>FP kind (sg y i)) y.cps.size).map D.int:=by rw[List.filterMap_map];unfold nums;rw[List.map_filterMap];apply LK;intro i _;simp only[Function.comp];split <;> simp
 rw[ef];generalize nums (λi=>FP kind (sg y i)) y.cps.size=ns at e ⊢;have hl:((ns.map D.int).length:Int)=ns.length:=by simp
 unfold Gu at e;rfl';rw[hl];refine BN (λhlt=>?_) (λhlt=>?_)
 .rw[if_pos hlt] at e;cases e;rfl';exact⟨rfl,Ai _ _,h⟩
 .rw[if_neg hlt] at e;rfl';obtain⟨i,q,e⟩:=mS e;cases e
  have q2:atI (ns.map D.int) (if nth>0 then nth-1 else nth)=some (.int i):=by rw[YZ,q];rfl
  refine BN (λhp=>?_) (λhp=>?_)
  .rw[if_pos hp] at q2;rfl';refine Bp AY q2 ?_;rfl';refine BN (λhe=>?_) (λhe=>?_)
   .rfl';rw[decide_eq_true he] at h;exact⟨rfl,Ai _ _,h⟩
   .rfl';rw[decide_eq_false he] at h;exact⟨rfl,Ai _ _,h⟩
  .rw[if_neg hp] at q2;rfl';refine Bp AY q2 ?_;rfl';refine BN (λhe=>?_) (λhe=>?_)
   .rfl';rw[decide_eq_true he] at h;exact⟨rfl,Ai _ _,h⟩
   .rfl';rw[decide_eq_false he] at h;exact⟨rfl,Ai _ _,h⟩
abbrev NW(s:Str):Str:=if Txt.islower s=true then "small" else if Txt.isupper s=true then "great" else if Txt.isdigit s=true then "figure" else "mark"
def AEl{Q:ANn}{L:AC}(s:Str)(h:Q (.str (NW s)) L):W2 (KC [.str s] L) Q:=by
 unfold KC;refine BZ rfl ?_;unfold PX;unfold NW at h;rfl';refine GY (λh1=>?_) (λh1=>?_)
 .rw[if_pos h1] at h;rfl';exact⟨rfl,AW _,h⟩
 rw[if_neg (by simp[h1])] at h;rfl';refine GY (λh1=>?_) (λh1=>?_)
 .rw[if_pos h1] at h;rfl';exact⟨rfl,AW _,h⟩
 rw[if_neg (by simp[h1])] at h;rfl';refine GY (λh1=>?_) (λh1=>?_)
 .rw[if_pos h1] at h;rfl';exact⟨rfl,AW _,h⟩
 rw[if_neg (by simp[h1])] at h;rfl';exact⟨rfl,AW _,h⟩
def AE5:∀c∈Ia,Hq ⟨#[c]⟩=.str (NW ⟨#[c]⟩):=by decide +kernel
abbrev Dx(kind s:Str):Bool:=decide (kind = "any") || decide (NW s=kind)
def WC{y:Str}(h:Ay y)(kind:Str):nums (λi=>FP kind (sg y i)) y.cps.size=nums (λi=>Dx kind (sg y i)) y.cps.size:=by apply AEC;intro i hi;unfold FP Dx sg;rw[AE5 _ (h.at hi)];simp
def ABj{y:Str}{i:Nat}(hi:i<y.cps.size):atI y.cps.toList (i:Int)=some (y.cps.getD i 0):=by apply Di;simp[hi,Array.getD]
def WP{Q:ANn}{L:AC}{kind edge y:Str}{nth:Int}{d:D}(hy:y.length<=1000)(e:Gu (nums (λi=>Dx kind (sg y i)) y.cps.size) nth (decide (edge = "behind"))=some d)(h:Q d L):W2 (zg [.tup [.str kind,.int nth,.str edge],.str y] L) Q:=by
 unfold zg;refine BZ rfl ?_;unfold PQ;have hy':y.cps.size<=1000:=hy;have hyl:(y.length:Int)=(y.cps.size:Int):=rfl;rfl';rw[hyl,Gq,AB7]
 refine Ms (λZ=>∃a,Z=[a,some (.str kind),some (.str y)]) (λx=>match x with|.int i=>if Dx kind (sg y i.toNat)=true then some (.int i) else none|_=>none) _ _ ⟨none,rfl⟩ (by simp;omega) ?_ ?_
 .rintro x hx Z ⟨a,rfl⟩;rw[Aq] at hx;obtain⟨i,hi,rfl⟩:=hx;have hi':=CM.mp hi;have hat:atI y.cps.toList (i:Int)=some (y.cps.getD i 0):=ABj hi';rfl';refine⟨⟨_,rfl⟩,λacc=>?_⟩;rfl';refine BN (λh1=>?_) (λh1=>?_)
  .rfl';refine⟨rfl,?_⟩;rfl';exact⟨rfl,if_pos (by rw[Gq];simp[Dx,h1])⟩
  .rfl';refine Rz hat ?_;rfl';refine AEl _ ?_;rfl';refine⟨rfl,BN (λh2=>?_) (λh2=>?_)⟩
   .rfl';exact⟨rfl,if_pos (by rw[Gq];unfold Dx sg;rw[decide_eq_true h2];simp)⟩
   .exact if_neg (by rw[Gq];unfold Dx sg;rw[decide_eq_false h2,decide_eq_false h1];simp)
 have ef:AME (λx=>match x with|D.int i=>if Dx kind (sg y i.toNat)=true then some (D.int i) else none|_=>none) ((List.range y.cps.size).map λ(i:Nat)=>D.int (i:Int))=(nums (λi=>Dx kind (sg y i)) y.cps.size).map D.int:=by rw[List.filterMap_map];unfold nums;rw[List.map_filterMap];apply LK;intro i _;simp only[Function.comp,Gq];split <;> simp
 rw[ef];generalize nums (λi=>Dx kind (sg y i)) y.cps.size=ns at e ⊢;have hl:((ns.map D.int).length:Int)=ns.length:=by simp
 unfold Gu at e;rfl';rw[hl];refine BN (λhlt=>?_) (λhlt=>?_)
 .rw[if_pos hlt] at e;cases e;rfl';exact⟨rfl,Ai _ _,h⟩
 .rw[if_neg hlt] at e;rfl';obtain⟨i,q,e⟩:=mS e;cases e
  have q2:atI (ns.map D.int) (if nth>0 then nth-1 else nth)=some (.int i):=by rw[YZ,q];rfl
  have fin:(D.int (i+if decide (edge = "behind")=true then 1 else 0))=.int (if decide (edge = "behind")=true then i+1 else i):=by split <;> simp
  refine BN (λhp=>?_) (λhp=>?_)
  .rw[if_pos hp] at q2;rfl';refine Bp AY q2 ?_;rfl';rw[fin];exact⟨rfl,Ai _ _,h⟩
  .rw[if_neg hp] at q2;rfl';refine Bp AY q2 ?_;rfl';rw[fin];exact⟨rfl,Ai _ _,h⟩
def NA(p:Nat->Bool)(m:Nat){n:Int}(hn:LY n)(b:Bool):∃d,Gu (nums p m) n b=some d/\(d=.non\/∃i:Int,d=.int i/\0<=i/\i<=m):=by
 unfold Gu
 by_cases hlt:((nums p m).length:Int)<(if n<0 then -n else n)
 .rw[if_pos hlt];exact⟨_,rfl,.inl rfl⟩
 .rw[if_neg hlt]
  obtain⟨v,hv⟩:∃v,atI (nums p m) (if n>0 then n-1 else n)=some v:=YX (by
   rcases hn with rfl|rfl|rfl|rfl <;> simp at hlt ⊢ <;> omega)
  rw[hv];have:=AEB (YY hv);refine⟨_,rfl,.inr ⟨_,rfl,?_⟩⟩;cases b <;> simp <;> omega
def AIh{y:Str}{p:D}(hy:y.length<=1000)(hs:Ay y)(hp:Dr p):∃d,(d=.non\/∃i:Int,d=.int i/\0<=i/\i<=y.cps.size)/\(∀{Q:ANn} {L:AC},Q d L->W2 (zm [p,.str y] L) Q)/\(∀{Q:ANn} {L:AC},Q d L->W2 (zg [p,.str y] L) Q):=by
 obtain⟨kind,nth,edge,rfl,hn,he,_⟩:=hp;obtain⟨d,h1,h2⟩:=NA (λi=>FP kind (sg y i)) y.cps.size hn (!decide (edge = "ahead"));refine⟨d,h2,λ{Q L} h=>VI hy h1 h,λ{Q L} h=>WP hy ?_ h⟩;rw[<-WC hs];have e:(decide (edge = "behind"))=!decide (edge = "ahead"):=by rcases he with rfl|rfl <;> decide
 rw[e];exact h1
abbrev Lc(s:Str):Prop:=s = "copy"\/s = "raise"\/s = "sink"
abbrev DX(d:D):Prop:=(∃w:Str,d=.tup [.str "word",.str w]/\Ay w/\w.length<=8/\0<w.length)\/(∃(deed:Str) (p q:D),d=.tup [.str deed,p,q]/\Lc deed/\Dr p/\Dr q)
def Dr.noRef{p:D}(h:Dr p):p.noRef=true:=by obtain⟨_,_,_,rfl,_⟩:=h;rfl
def DX.noRef{p:D}(h:DX p):p.noRef=true:=by
 rcases h with⟨w,rfl,_⟩|⟨deed,p,q,rfl,_,hp,hq⟩
 .rfl
 .simp[D.noRef,D.noRefL,hp.noRef,hq.noRef]
def AGj:∀c∈Ia,c<128:=by decide
def Ay.ascii{x:Str}(h:Ay x):∀c∈x.cps.toList,c<128:=λc hc=>AGj c (h c hc)
def Qr{x:Str}(h:Ay x):(Txt.upper x).length=x.length:=by rw[upper_ascii h.ascii];show(x.cps.map _).size=x.cps.size;simp
def Rb{x:Str}(h:Ay x):(Txt.lower x).length=x.length:=by rw[lower_ascii h.ascii];show(x.cps.map _).size=x.cps.size;simp
def VA:∀{xs:List D} {ys:ANE},BW xs=some ys->ys.length=xs.length
 |[],ys,h=>by cases h;rfl
 |x::xs,ys,h=>by
  cases x with
  |str s =>
   simp only[BW] at h
   cases e:BW xs with
   |none=>rw[e] at h;cases h
   |some a=>rw[e] at h;cases h;simp[VA e]
  |_=>simp[BW] at h
def VC:∀{xs:List D} {ys:ANE} {P:Str->Prop},BW xs=some ys->(∀s,D.str s∈xs->P s)->∀y∈ys,P y
 |[],ys,P,h,_=>by cases h;exact λ_ hy=>(nomatch hy)
 |x::xs,ys,P,h,hP=>by
  cases x with
  |str s =>
   simp only[BW] at h
   cases e:BW xs with
   |none=>rw[e] at h;cases h
   |some a =>
    rw[e] at h;cases h;intro y hy;rcases AX.mp hy with rfl|hy
    .exact hP y Az
    .exact VC e (λs hs=>hP s (BA _ hs)) y hy
  |_=>simp[BW] at h
def Uz:∀{xs:List D} {ys:ANE},BW xs=some ys->xs=ys.map D.str
 |[],ys,h=>by cases h;rfl
 |x::xs,ys,h=>by
  cases x with
  |str s =>
   simp only[BW] at h
   cases e:BW xs with
   |none=>rw[e] at h;cases h
   |some a=>rw[e] at h;cases h;simp[<-Uz e]
  |_=>simp[BW] at h
def Rr:∀{xs:List D},(∀d∈xs,d=.non\/∃t,d=.str t)->Cw .non xs=(BW xs).isNone
 |[],_=>rfl
 |x::xs,h=>by
  have ih:=Rr λd hd=>h d (BA _ hd);rcases h x Az with rfl|⟨t,rfl⟩
  .rfl
  .have:Cw .non (.str t::xs)=Cw .non xs:=rfl;rw[this,ih];simp only[BW];cases BW xs <;> rfl
abbrev DF(p:D)(y:Str):D:=match p with
 |.tup [.str kind,.int nth,.str edge]=>(Gu (nums (λi=>Dx kind (sg y i)) y.cps.size) nth (decide (edge = "behind"))).getD .non
 |_=>.non
def Kk{kind edge y:Str}{nth:Int}:DF (.tup [.str kind,.int nth,.str edge]) y=(Gu (nums (λi=>Dx kind (sg y i)) y.cps.size) nth (decide (edge = "behind"))).getD .non:=rfl
def HN{p:D}(hp:Dr p)(y:Str):DF p y=.non\/∃i:Int,DF p y=.int i/\0<=i/\i<=y.length:=by obtain⟨kind,nth,edge,rfl,hn,he,_⟩:=hp;obtain⟨d,h1,h2⟩:=NA (λi=>Dx kind (sg y i)) y.cps.size hn (decide (edge = "behind"));simp only[Kk,h1,AMn];exact h2
def WQ{Q:ANn}{L:AC}{p:D}{y:Str}(hy:y.length<=1000)(hp:Dr p)(h:Q (DF p y) L):W2 (zg [p,.str y] L) Q:=by obtain⟨kind,nth,edge,rfl,hn,he,_⟩:=hp;obtain⟨d,h1,h2⟩:=NA (λi=>Dx kind (sg y i)) y.cps.size hn (decide (edge = "behind"));simp only[Kk,h1,AMn] at h;exact WP hy h1 h
abbrev Do(deed:Str)(t:Str):Str:=if deed = "raise" then Txt.upper t else if deed = "sink" then Txt.lower t else t
abbrev Bg(y:Str)(pc:D):D:=match pc with
 |.tup [_,q]=>(match q with|.str w=>.str w|_=>.non)
 |.tup [a,p,q]=>(match a with|.str deed=>(match DF p y,DF q y with|.int i,.int j=>if j<=i then .non else .str (Do deed (Txt.slice y (some i) (some j)))|_,_=>.non)|_=>.non)
 |_=>.non
def JB{y deed:Str}{p q:D}:Bg y (.tup [.str deed,p,q])=(match DF p y,DF q y with|.int i,.int j=>if j<=i then .non else .str (Do deed (Txt.slice y (some i) (some j)))|_,_=>.non):=rfl
def YA{deed t:Str}(h:Ay t):(Do deed t).length=t.length:=by
 unfold Do;split
 .exact Qr h
 .split
  .exact Rb h
  .rfl
def NL{y:Str}{pc:D}(hy:y.length<=1000)(hs:Ay y)(hp:DX pc):Bg y pc=.non\/∃t:Str,Bg y pc=.str t/\t.length<=1000:=by
 rcases hp with⟨w,rfl,h1,h2,_⟩|⟨deed,p,q,rfl,hd,hp,hq⟩
 .exact .inr ⟨w,rfl,by omega⟩
 .obtain⟨k,n,e,rfl,_⟩:=id hq;rw[JB];rcases HN hp y with e1|⟨i,e1,_⟩
  .rw[e1];exact .inl rfl
  .rcases HN hq y with e2|⟨j,e2,_⟩
   .rw[e1,e2];exact .inl rfl
   .rw[e1,e2];simp only;split
    .exact .inl rfl
    .exact .inr ⟨_,rfl,by rw[YA (hs.slice _ _)];exact CV (Txt.slice_le _ _ _) hy⟩
def RZ{Q:ANn}{L:AC}{y:Str}{pc:D}(hy:y.length<=1000)(hs:Ay y)(hp:DX pc)(h:Q (Bg y pc) L):W2 (zf [pc,.str y] L) Q:=by
 rcases hp with⟨w,rfl,h1,h2,_⟩|⟨deed,p,q,rfl,hd,hp,hq⟩
 .unfold zf;refine BZ rfl ?_;unfold MS;rfl';exact⟨rfl,AW _,h⟩
 .have hnw:deed≠"word":=by rcases hd with rfl|rfl|rfl <;> decide
  obtain⟨k,n,e,rfl,_⟩:=id hq;rw[JB] at h;unfold zf;refine BZ rfl ?_;unfold MS;rfl';refine WQ hy hp ?_;rfl';refine WQ hy hq ?_;rcases HN hp y with e1|⟨i,e1,hi⟩
  .rw[e1] at h ⊢;rfl';exact⟨rfl,AW _,h⟩
  rcases HN hq y with e2|⟨j,e2,hj⟩
  .rw[e1,e2] at h ⊢;rfl';exact⟨rfl,AW _,h⟩
  rw[e1,e2] at h ⊢;simp only at h
  by_cases hij:j<=i
  .rw[if_pos hij] at h;rfl';exact⟨rfl,AW _,h⟩
  rw[if_neg hij] at h;have hts:=hs.slice (some i) (some j);have htl:(Txt.slice y (some i) (some j)).length<=1000:=CV (Txt.slice_le _ _ _) hy;unfold Do at h;rfl';refine BN (λh1=>?_) (λh1=>?_)
  .rw[if_pos h1] at h;rfl';refine Nf (by rw[Qr hts];omega) ?_;exact⟨rfl,AW _,h⟩
  rw[if_neg h1] at h;rfl';refine BN (λh2=>?_) (λh2=>?_)
  .rw[if_pos h2] at h;rfl';refine Nf (by rw[Rb hts];omega) ?_;exact⟨rfl,AW _,h⟩
  .rw[if_neg h2] at h;rfl';exact⟨rfl,AW _,h⟩
abbrev Ez(y:Str)(ps:List D):D:=match BW (ps.map (Bg y)) with|some ys=>.str (Txt.join "" ys)|none=>.non
def AB4{y:Str}{ps:List D}:Ez y ps=.non\/∃t,Ez y ps=.str t:=by
 unfold Ez;split
 .exact .inr ⟨_,rfl⟩
 .exact .inl rfl
def Ut{y:Str}{ps:List D}{ys:ANE}(hy:y.length<=1000)(hs:Ay y)(hp:∀p∈ps,DX p)(e:BW (ps.map (Bg y))=some ys):(ys.map (·.length)).sum<=ps.length*1000:=by
 have hl:=VA e;rw[Aa] at hl;rw[<-hl];refine ABL λz hz=>VC (P:=λz=>z.length<=1000) e (λs hs'=>?_) z hz;rw[Aq] at hs';obtain⟨p,hp',e⟩:=hs';rcases NL hy hs (hp p hp') with h|⟨t,h,ht⟩
 .rw[h] at e;cases e
 .rw[h] at e;cases e;exact ht
def WT{Q:ANn}{L:AC}{y:Str}{ps:List D}(hy:y.length<=1000)(hs:Ay y)(hp:∀p∈ps,DX p)(hl:ps.length<=1000)(h:Q (Ez y ps) L):W2 (Iu [.tup ps,.str y] L) Q:=by
 unfold Iu;refine BZ rfl ?_;unfold Oz;rfl';refine Ms (λZ=>∃a,Z=[a,some (.str y)]) (λx=>some (Bg y x)) _ _ ⟨none,rfl⟩ (by omega) ?_ ?_
 .rintro x hx Z ⟨a,rfl⟩;rfl';refine⟨⟨_,rfl⟩,λacc=>?_⟩;rfl';refine⟨rfl,?_⟩;rfl';refine RZ hy hs (hp x hx) ?_;exact⟨rfl,rfl⟩
 have ef:AME (λx=>some (Bg y x)) ps=ps.map (Bg y):=by rw[<-List.filterMap_eq_map];rfl
 rw[ef]
 have hk:∀d∈ps.map (Bg y),d=.non\/∃t,d=.str t:=λd hd=>by
  rw[Aq] at hd;obtain⟨p,hp',rfl⟩:=hd;rcases NL hy hs (hp p hp') with e|⟨t,e,_⟩
  .exact .inl e
  .exact .inr ⟨t,e⟩
 have hfl:(BD .non&&(ps.map (Bg y)).all BD)=true:=by rw[Bz,Bu];refine⟨rfl,λd hd=>?_⟩;rcases hk d hd with rfl|⟨t,rfl⟩ <;> rfl
 rfl';refine AFp AY hfl ?_;rw[Rr hk];unfold Ez at h
 cases e:BW (ps.map (Bg y)) with
 |none =>
  rw[e] at h;rfl';refine Nz rfl ?_;rfl';exact⟨rfl,Ai _ _,h⟩
 |some ys =>
  rw[e] at h;rfl';refine Jc rfl ?_;rfl';have hsum:=Ut hy hs hp e;have e0:(Str.ofString "").length=0:=rfl;refine AFo AY e (by rw[e0];omega) ?_;exact⟨rfl,Ai _ _,h⟩
abbrev EB(ws:ANE)(d:D):Prop:=(∃w∈ws,d=.tup [.str "word",.str w])\/(∃(deed:Str) (p q:D),d=.tup [.str deed,p,q]/\Lc deed/\Dr p/\Dr q)
def EB.piece{ws:ANE}{d:D}(hw:Ga ws)(h:EB ws d):DX d:=by
 rcases h with⟨w,hm,rfl⟩|h
 .exact .inl ⟨w,rfl,(hw.2.1 w hm).1,(hw.2.1 w hm).2.2,(hw.2.1 w hm).2.1⟩
 .exact .inr h
def WV{Q:ANn}{L:AC}{k:Nat}{ws:ANE}(c:Int)(hk:L[k]?=some (.lst (ws.map D.str)))(q:∀p,EB ws p->Q p L):W2 (Iw [.int c,.ref k] L) Q:=by
 unfold Iw;refine BZ rfl ?_;refine Bf (λCz=>Cz [some (.int c),some (.ref k),none] L) (λCz kz1=>?_) ?_
 .rfl';refine BN (λh7=>?_) (λh7=>?_)
  .rfl';refine BN (λhl=>?_) (λhl=>?_)
   .rfl';refine GP _ hk (by omega) (Int.le_refl _) λd hd=>?_;rw[Aq] at hd;obtain⟨w,hm,rfl⟩:=hd;rfl';exact⟨rfl,AW _,q _ (.inl ⟨w,hm,rfl⟩)⟩
   .rfl';exact kz1
  .rfl';exact kz1
 skip
 rfl';refine GP _ AY (by decide) (by decide) λd hd=>?_
 have hd':∃m:Str,d=.str m/\Lc m:=by
  simp only[AX,Db,or_false] at hd;rcases hd with rfl|rfl|rfl|rfl
  .exact⟨_,rfl,.inl rfl⟩
  .exact⟨_,rfl,.inr (.inl rfl)⟩
  .exact⟨_,rfl,.inr (.inr rfl)⟩
  .exact⟨_,rfl,.inl rfl⟩
 obtain⟨m,rfl,hm⟩:=hd';rfl';refine WU _ λp1 hp1=>?_;rfl';refine WU _ λp2 hp2=>?_;rfl';have hP:EB ws (.tup [.str m,p1,p2]):=.inr ⟨m,p1,p2,rfl,hm,hp1,hp2⟩;exact⟨DX.noRef (.inr ⟨m,p1,p2,rfl,hm,hp1,hp2⟩),by wtm_at "z_pf",q _ hP⟩
abbrev Gb(ts:ANE):Prop:=∀y∈ts,Ay y/\y.length<=100
abbrev Fx(ts:ANE)(d:D):Prop:=∀y∈ts,∃t,Bg y d=.str t
abbrev Hg(deed:Str):D:=.tup [.str deed,.tup [.str "any",.int 1,.str "ahead"],.tup [.str "any",.int (-1),.str "behind"]]
def AHI:Dr (.tup [.str "any",.int 1,.str "ahead"]):=⟨"any",1,"ahead",rfl,.inl rfl,.inl rfl,by decide⟩
def AHH:Dr (.tup [.str "any",.int (-1),.str "behind"]):=⟨"any",-1,"behind",rfl,.inr (.inr (.inl rfl)),.inr rfl,by decide⟩
def WB(y:Str):nums (λi=>Dx "any" (sg y i)) y.cps.size=(List.range y.cps.size).map λ(i:Nat)=>(i:Int):=by
 unfold nums;rw[<-List.filterMap_eq_map];apply LK;intro i _;have:Dx "any" (sg y i)=true:=by simp[Dx]
 simp only[this,if_true];rfl
def AAR{deed y:Str}(hd:Lc deed)(hy:y≠""):∃t,Bg y (Hg deed)=.str t:=by
 have hpos:0<y.cps.size:=VF hy
 have e1:DF (.tup [.str "any",.int 1,.str "ahead"]) y=.int 0:=by
  simp only[Kk,WB];unfold Gu;rw[if_neg (by simp;omega)]
  have:atI ((List.range y.cps.size).map λ(i:Nat)=>(i:Int)) (if (1:Int)>0 then 1-1 else 1)=some 0:=by have:=Di (xs:=(List.range y.cps.size).map λ(i:Nat)=>(i:Int)) (j:=0) (v:=0) (by simp[AL3,hpos]);simpa using this
  rw[this];have:decide (("ahead":Str) = "behind")=false:=by decide
  simp[this]
 have e2:DF (.tup [.str "any",.int (-1),.str "behind"]) y=.int (y.cps.size:Int):=by
  simp only[Kk,WB];unfold Gu;rw[if_neg (by simp;omega)]
  have:atI ((List.range y.cps.size).map λ(i:Nat)=>(i:Int)) (if (-1:Int)>0 then -1-1 else -1)=some ((y.cps.size:Int)-1):=by
   have hs:y.cps.size=(y.cps.size-1)+1:=by omega
   rw[hs,AMF,DM];have:=AHB ((List.range (y.cps.size-1)).map λ(i:Nat)=>(i:Int)) (((y.cps.size-1:Nat):Int));simp only[Aj,AMB];rw[if_neg (by decide),this]
   congr 1
   omega
  rw[this];have:decide (("behind":Str) = "behind")=true:=by decide
  simp
 unfold Hg;simp only[JB,e1,e2];exact⟨_,by rw[if_neg (by omega)]⟩
def Yg{ts:ANE}{d:D}(ht:Gb ts)(hp:DX d):(BW (ts.map λy=>Bg y d)).isNone=false↔Fx ts d:=by
 induction ts with
 |nil=>simp[BW,Fx]
 |cons y r ih =>
  have ih:=ih λz hz=>ht z (BA _ hz);have hy:=ht y Az;rw[Aj];rcases NL (by omega) hy.1 hp with e|⟨t,e,_⟩
  .rw[e];simp only[BW,Option.isNone_none,Bool.true_eq_false,false_iff];intro h;obtain⟨t,h⟩:=h y Az;rw[e] at h;cases h
  .rw[e];simp only[BW,Option.isNone_map,ih];constructor
   .intro h z hz;rcases AX.mp hz with rfl|hz
    .exact⟨t,e⟩
    .exact h z hz
   .exact λh z hz=>h z (BA _ hz)
def AEn{Q:ANn}{L:AC}{k t:Nat}{ws ts:ANE}(c:Int)(hk:L[k]?=some (.lst (ws.map D.str)))(htx:L[t]?=some (.lst (ts.map D.str)))(hw:Ga ws)(ht:Gb ts)(hl:ts.length<=1000)
  (hne:ws≠[]\/∀y∈ts,y≠"") (q:∀p,EB ws p->Fx ts p->Q p L):W2 (KA [.int c,.ref k,.ref t] L) Q:=by
 unfold KA;refine BZ rfl ?_;unfold PL;have wordAns:∀w:Str,Fx ts (.tup [.str "word",.str w]):=λw y _=>⟨w,rfl⟩;rfl';refine WV _ hk λp hp=>?_;rcases hp with⟨w,hm,rfl⟩|⟨deed,p1,p2,rfl,hd,hp1,hp2⟩
 .rfl';exact⟨rfl,AW _,q _ (.inl ⟨w,hm,rfl⟩) (wordAns w)⟩
 have hnw:deed≠"word":=by rcases hd with rfl|rfl|rfl <;> decide
 rfl';have hW:(D.tup [D.str deed,D.tup [D.str "any",D.int 1,D.str "ahead"],D.tup [D.str "any",D.int (-1),D.str "behind"]])=Hg deed:=rfl
 have hin:∀x∈[D.tup [.str deed,p1,p2],.tup [.str deed,p2,p1],Hg deed],EB ws x:=λx hx=>by
  simp only[AX,Db,or_false] at hx;rcases hx with rfl|rfl|rfl
  .exact .inr ⟨deed,p1,p2,rfl,hd,hp1,hp2⟩
  .exact .inr ⟨deed,p2,p1,rfl,hd,hp2,hp1⟩
  .exact .inr ⟨deed,_,_,rfl,hd,AHI,AHH⟩
 rw[hW];generalize hxs:[D.tup [.str deed,p1,p2],.tup [.str deed,p2,p1],Hg deed]=xs at hin ⊢;have hlast:xs[2]?=some (Hg deed):=by rw[<-hxs];rfl
 have hlen:xs.length=3:=by rw[<-hxs];rfl
 refine Cn (λj Cz=>∀L':AC,L++[Ob.lst xs] <+: L'->(3<=j->∃y∈ts,y = "")->∀(a:Option D),Cz [some (.int c),some (.ref k),some (.ref t),some (.tup [.str deed,p1,p2]),some (Hg deed),a] L') _ 0 _ _ (λCz kz1=>kz1 _ (AW _) (λh=>by omega) none) ?_ ?_
 .rintro i x hx Cz Cy fz1 kz1 L' hpre _ a;have hxp:=hin x (Bk hx);have hxi:=hxp.piece hw;have htx':=CW hpre (AV (M:=[Ob.lst xs]) htx);refine fz1 _ _ (decide_eq_true (CW hpre AY)) ?_;rfl';have hfin:∀p:Prop,p->p:=λ_ h=>h
  have comp:W1 (DR (λL''=>decide (L''[t]?=some (Ob.lst (ts.map D.str)))) (Ak 0) Co (AK zf (AB (AA 1) (AB (AA 0) AG))) L'.length (ts.map D.str) [none,some x] (L'++[Ob.lst []])) (λL2=>L2=L'++[Ob.lst (ts.map λy=>Bg y x)]):=by
   refine Fc (λj Cz=>∀a,Cz [a,some x] (L'++[Ob.lst ((ts.take j).map λy=>Bg y x)])) _ 0 _ _ (λCz kw1=>kw1 none) ?_ ?_
   .rintro i2 z hz Cz Cy fw1 kw1 a;rw[Ar] at hz;obtain⟨y,hy,hz⟩:=mS hz;cases hz;have hyt:=ht y (Bk hy);have hi2:i2<ts.length:=(Ax.mp hy).1;have htk:ts.take (0+i2+1)=ts.take (0+i2)++[y]:=by rw[BR,Gk,hy];rfl
    refine fw1 _ _ (decide_eq_true (AV htx')) ?_;rfl';refine RZ (by omega) hyt.1 hxi ?_;refine⟨_,AY,by simp;omega,FE (kw1 _) ?_⟩;rw[htk];simp
   .rintro Cy fw1 _;refine fw1 _ _ (decide_eq_true (AV htx')) ?_;simp
  obtain⟨L2,ec,rfl⟩:=comp;refine⟨_,ec,?_⟩
  have hk2:∀d∈ts.map (λy=>Bg y x),d=.non\/∃t,d=.str t:=λd hd=>by
   rw[Aq] at hd;obtain⟨y,hy,rfl⟩:=hd;rcases NL (by have:=ht y hy;omega) (ht y hy).1 hxi with e|⟨t,e,_⟩
   .exact .inl e
   .exact .inr ⟨t,e⟩
  have hfl:(BD .non&&(ts.map (λy=>Bg y x)).all BD)=true:=by rw[Bz,Bu];refine⟨rfl,λd hd=>?_⟩;rcases hk2 d hd with rfl|⟨t,rfl⟩ <;> rfl
  refine Ni AY hfl ?_;rw[Rr hk2];rfl';refine GY (λh=>?_) (λh=>?_)
  .rfl';refine kz1 _ (hpre.trans (Ai _ _)) (λh3=>?_) _;have:i=2:=by have:=(Ax.mp hx).1;omega
   subst this;rw[hlast] at hx;cases hx;refine Classical.byContradiction λhno=>?_;have:Fx ts (Hg deed):=λy hy=>AAR hd λe=>hno ⟨y,hy,e⟩;rw[(Yg ht hxi).mpr this] at h;cases h
  .rfl';exact⟨hxi.noRef,(Ai _ _).trans (hpre.trans (Ai _ _)),q _ hxp ((Yg ht hxi).mp h)⟩
 .rintro Cy fz1 L' hpre h3 a;have hk':=CW hpre (AV (M:=[Ob.lst xs]) hk);refine fz1 _ _ (decide_eq_true (CW hpre AY)) ?_
  have hwne:ws≠[]:=by
   rcases hne with h|h
   .exact h
   .obtain⟨y,hy,e⟩:=h3 (by omega);exact absurd e (h y hy)
  have hwl:0<ws.length:=List.length_pos_iff.mpr hwne;have hwl':(((ws.map D.str).length:Nat):Int)=ws.length:=by simp
  rfl';refine GP _ hk' (by omega) (Int.le_refl _) λd hd=>?_;rw[Aq] at hd;obtain⟨w,hm,rfl⟩:=hd;rfl';exact⟨rfl,(Ai _ _).trans hpre,q _ (.inl ⟨w,hm,rfl⟩) (wordAns w)⟩
abbrev Sj(ws ts:ANE)(ps:List D):Prop:=(∀p∈ps,EB ws p)/\(∀p∈ps,Fx ts p)/\0<ps.length/\ps.length<=3
def NQ:∀{ps:List D},(∀p∈ps,p.noRef=true)->D.noRefL ps=true
 |[],_=>rfl
 |p::ps,h=>by rw[D.noRefL,h p Az,NQ λq hq=>h q (BA _ hq)];rfl
def WR{Q:ANn}{L:AC}{k t:Nat}{ws ts:ANE}(c:Int)(hk:L[k]?=some (.lst (ws.map D.str)))(htx:L[t]?=some (.lst (ts.map D.str)))(hw:Ga ws)(ht:Gb ts)(hl:ts.length<=1000)
  (hne:ws≠[]\/∀y∈ts,y≠"") (q:∀ps,Sj ws ts ps->Q (.tup ps) L):W2 (Iv [.int c,.ref k,.ref t] L) Q:=by
 unfold Iv;refine BZ rfl ?_;unfold PF;have hm:=DN c (b:=3) (by decide);have hm':=EX c (b:=3) (by decide);have hkl:k<L.length:=(Ax.mp hk).1;have htl:t<L.length:=(Ax.mp htx).1;rfl';refine Cn (λj Cz=>∀L':AC,∀(ps:List D) (p:Int) (a b:Option D),L'=L++[Ob.lst ps]->(∀p∈ps,EB ws p)->(∀p∈ps,Fx ts p)->ps.length=j->Cz [some (.int c),some (.ref k),some (.ref t),some (.ref L.length),some (.int p),a,b] L') _ 0 _ _ (λCz kz1=>kz1 _ [] _ none none rfl (λ_ h=>(nomatch h)) (λ_ h=>(nomatch h)) rfl) ?_ ?_
 .rintro i x hx Cz Cy fz1 kz1 L' ps p a b rfl h1 h2 h3;obtain⟨hi,rfl⟩:=Km hx;refine fz1 _ _ rfl ?_;rfl';refine AEn _ (AV hk) (AV htx) hw ht hl hne λd hd1 hd2=>?_
  have hnn:HS d=false:=by rcases hd1 with⟨w,_,rfl⟩|⟨_,_,_,rfl,_⟩ <;> rfl
  rfl';refine Jc hnn ?_;rfl';refine GR AY (by omega) ?_;rfl';refine kz1 _ (ps++[d]) _ _ _ (by simp) (λr hr=>?_) (λr hr=>?_) (by simp;omega)
  .rcases Bi.mp hr with h|h
   .exact h1 r h
   .have:r=d:=by simpa using h
    rw[this];exact hd1
  .rcases Bi.mp hr with h|h
   .exact h2 r h
   .have:r=d:=by simpa using h
    rw[this];exact hd2
 .rintro Cy fz1 L' ps p a b rfl h1 h2 h3;refine fz1 _ _ rfl ?_;rw[Ff] at h3;rfl';have hR:Sj ws ts ps:=⟨h1,h2,by omega,by omega⟩;refine⟨?_,Ai _ _,q ps hR⟩;rw[D.noRef];exact NQ λp hp=>((h1 p hp).piece hw).noRef
def ABb(x:Str)(n:Int)(h:0<=n):((Txt.slice x none (some n)).length:Int)<=n:=by
 have hs:∀k:Nat,(Builtin.Str.strSliceIndices none (some (k:Int)) 1 x.length).length<=k:=λk=>by
  unfold Builtin.Str.strSliceIndices sliceRange;simp only[show(1:Int)>0 by decide,if_true,Aa,AMm]
  split <;> (try split) <;> (try simp only[Int.ediv_one]) <;> omega
 have hn:((n.toNat:Nat):Int)=n:=by omega
 rw[<-hn];have:=hs n.toNat;unfold Txt.slice;split
 .rename_i h;simp only[Bz,beq_iff_eq] at h;omega
 .show(((AME _ (Builtin.Str.strSliceIndices none (some (n.toNat:Int)) 1 x.length)).toArray.size:Nat):Int)<=_;rw[Be];have:=List.length_filterMap_le (λx_1=>x.cps[x_1]?) (Builtin.Str.strSliceIndices none (some (n.toNat:Int)) 1 x.length);omega
def UQ{g:GF}{elt:EF}{L0:AC}{Q:AC->Prop}(P:Fm->Prop)(E:D->Prop){items:List D}{Z:Fm}(hp:P Z)(hz:items.length<=16777216)
  (h:∀x∈items,∀Z,P Z->W1 (g x Z) λZ1=>P Z1/\∀acc,W2 (elt Z1 (L0++[.lst acc])) λd L2=>L2=L0++[.lst acc]/\E d)
  (q:∀ds:List D,ds.length=items.length->(∀d∈ds,E d)->Q (L0++[.lst ds])):W1 (DR (λ_=>true) g Co elt L0.length items Z (L0++[.lst []])) Q:=by
 refine Fc (λj C=>∀Z,P Z->∀ds:List D,ds.length=j->(∀d∈ds,E d)->C Z (L0++[Ob.lst ds])) items 0 Z _ (λC k=>k _ hp [] rfl λd hd=>(nomatch hd)) ?_ ?_
 .rintro i x e C C' fi kk Z hp ds hl hE;refine fi _ _ rfl ?_;have hi:i<items.length:=(Ax.mp e).1;obtain⟨Z1,e1,hp1,h2⟩:=h x (Bk e) Z hp;obtain⟨d,L2,e3,rfl,q⟩:=h2 ds;refine⟨Z1,e1,true,_,rfl,d,_,e3,ds,by simp,by omega,FE (kk _ hp1 (ds++[d]) (by simp;omega) λz hz=>?_) (by simp)⟩;rcases Bi.mp hz with h|h
  .exact hE z h
  .have:z=d:=by simpa using h
   rw[this];exact q
 .rintro C' fi Z _ ds hl hE;exact fi _ _ rfl (q ds (by omega) hE)
def AEg{Q:ANn}{L:AC}{ns:ANK}{kd:Nat}(hd:L[kd]?=some (.lst (ns.map .int)))(hv:∀v∈ns,0<=v)(hp:0<ns.length)(hn:ns.length<=63)(st most:Int)(h0:0<=st)(h1:st<=20)(h2:0<=most)(h3:most<=24)
  (q:∀ts L',ts.Nodup->Gb ts->0<ts.length->ts.length<=6->∀k,L <+: L'->L'[k]?=some (.lst (ts.map D.str))->Q (.ref k) L'):W2 (Jw [.ref kd,.int st,.int most] L) Q:=by
 unfold Jw;refine FN rfl ?_;unfold Om;have hlen:((ns.map D.int).length:Int)=ns.length:=by simp
 refine Bf (λCz=>∀(c:Int),0<=c->Cz [some (.ref kd),some (.int st),some (.int most),some (.int c),none,none,none,none,none,none,none,none] L) (λCz kz1=>?_) ?_
 .rfl';exact SS hd hv hp hn h0 (by omega) λc hc1=>kz1 c hc1
 rintro c hc1;have c3:=DN c (b:=3) (by decide);have c3':=EX c (b:=3) (by decide);refine Mr (Mq (UV (UT (UV (Qn rfl (UT (AFk rfl (AFt ?_))))))));refine Bf (λCz=>∀(m n:Int),0<=m->m<=24->1<=n->n<=6->Cz [some (.ref kd),some (.int st),some (.int m),some (.int c),some (.int n),none,none,none,none,none,none,none] L) (λCz kz2=>?_) ?_
 .rfl';refine BN (λh=>?_) (λh=>?_)
  .rfl';exact kz2 _ _ (by split <;> omega) (by split <;> omega) (by omega) (by omega)
  .rfl';exact kz2 _ _ h2 h3 (by omega) (by omega)
 rintro m n hm0 hm1 hn1 hn6;refine Bf (λCz=>Cz [some (.ref kd),some (.int st),some (.int m),some (.int c),some (.int n),some (.ref L.length),none,none,none,none,none,none] (L++[Ob.lst (ALf n.toNat (D.str ""))])) (λCz kz3=>?_) ?_
 .rfl';refine Ms (λZ=>∃a,Z=[a]) (λ_=>some (D.str "")) _ _ ⟨none,rfl⟩ (by rw[Ff];omega) ?_ ?_
  .rintro x hx Z ⟨a,rfl⟩;rfl';refine⟨⟨_,rfl⟩,λacc=>?_⟩;rfl';refine⟨rfl,?_⟩;rfl';exact⟨rfl,rfl⟩
  .have e:AME (λ_=>some (D.str "")) (El 0 n.toNat)=ALf n.toNat (D.str ""):=by
    have:∀l:List D,AME (λ_=>some (D.str "")) l=ALf l.length (D.str ""):=λl=>by
     induction l with
     |nil=>rfl
     |cons x r ih=>rw[AL9,ih];rfl
    rw[this,Ff]
   rw[e];exact kz3
 skip
 refine Bf (λCz=>∀L1:AC,L <+: L1->∀(sm:Str) (rows:ANE),Ay sm->0<sm.length->sm.length<=20->L1[L.length]?=some (.lst (rows.map D.str))->rows.length=n.toNat->(∀y∈rows,y = "")->Cz [some (.ref kd),some (.int st),some (.int m),some (.int c),some (.int n),some (.ref L.length),some (.str sm),none,none,none,none,none] L1) (λCz kz4=>?_) ?_
 .rfl';refine GP _ AY (by decide) (by decide) λd hd=>?_
  have hd':∃s:Str,d=.str s/\Ay s/\0<s.length/\s.length<=20:=by simp only[AX,Db,or_false] at hd;rcases hd with rfl|rfl|rfl|rfl <;> exact⟨_,rfl,by decide +kernel,by decide +kernel,by decide +kernel⟩
  obtain⟨sm,rfl,e1,e2,e3⟩:=hd';refine kz4 _ (by wtm_at "z_pf") sm (ALf n.toNat "") e1 e2 e3 ?_ (by simp) (λy hy=>List.eq_of_mem_replicate hy);rw[List.map_replicate];exact AV AY
 rintro L1 hpre sm rows hs1 hs2 hs3 hg hrl hre;have hd1:=CW hpre hd
 -- the rows,filled
 refine Bf (λCz=>∀L2:AC,L <+: L2->∀(r:Nat) (rows:ANE) (a b e:Option D),L2[r]?=some (.lst (rows.map D.str))->rows.length=n.toNat->Gb rows->L.length<=r->Cz [some (.ref kd),some (.int st),some (.int m),some (.int c),some (.int n),some (.ref r),some (.str sm),a,b,e,none,none] L2) (λCz kz5=>?_) ?_
 .rfl';refine BN (λh=>?_) (λh=>?_)
  .rfl';refine UQ (λZ=>∃a,Z=[a,some (.int m),some (.ref kd),some (.int st)]) (λd=>∃s:Str,d=.str s/\Ay s/\s.length<=100) ⟨none,rfl⟩ (by rw[Ff];omega) ?_ ?_
   .rintro x hx Z ⟨a,rfl⟩;obtain⟨i,hi,rfl⟩:=VV hx;rfl';refine⟨⟨_,rfl⟩,λacc=>?_⟩;rfl';refine SS (AV hd1) hv hp hn (by omega) (by omega) λv hv1=>?_;rfl';refine RY _ _ hm0 (by omega) λt ht1 ht2=>?_;exact⟨rfl,t,rfl,ht1,by omega⟩
   .intro ds hd hE;rw[Ff] at hd;obtain⟨ys,_,e3⟩:=Uy λd hd=>let ⟨s,a,_⟩:=hE d hd;⟨s,a⟩;refine kz5 _ (hpre.trans (Ai _ _)) L1.length ys none none none (by rw[<-e3];exact AY) (by rw[<-hd,e3];simp) (λy hy=>?_) hpre.length_le;obtain⟨s,a,b,c⟩:=hE (.str y) (by rw[e3];exact CG hy);cases a;exact⟨b,c⟩
  .rfl';refine Cs (GO (by omega)) ?_;have hmn:0<=m*n/\m*n<=24*6:=⟨AMR hm0 (by omega),AMQ hm1 hn6 (by omega) (by omega)⟩;rfl'
   generalize hN:((if st+1+m*n<((List.map D.int ns).length:Int) then st+1+m*n else ((List.map D.int ns).length:Int))-(st+1)).toNat=Bc
   have hcnt:Bc<=63:=by rw[<-hN];split <;> omega
   clear hN hmn;refine Cn (λj Cz=>∀L2:AC,L <+: L2->∀(rows:ANE) (a b e:Option D),L2[L.length]?=some (.lst (rows.map D.str))->rows.length=n.toNat->(∀y∈rows,Ay y/\y.length<=j)->Cz [some (.ref kd),some (.int st),some (.int m),some (.int c),some (.int n),some (.ref L.length),some (.str sm),a,b,e,none,none] L2) _ 0 _ _ (λCz kz6=>kz6 _ hpre rows none none none hg hrl (λy hy=>by rw[hre y hy];exact⟨by decide,by decide⟩)) ?_ ?_
   .rintro i x hx Cz Cy fz6 kz6 L2 hpre2 rows a b e hg2 hrl2 hr2;obtain⟨hi,rfl⟩:=Km hx;refine fz6 _ _ rfl ?_;rfl';refine SS (CW hpre2 hd) hv hp hn (by omega) (by omega) λv hv1=>?_;rfl';obtain⟨sg0,hk1,hk2⟩:=OB (xs:=sm.cps.toList) (n:=(sm.length:Int)) v (by omega) (by simp[Str.length]);refine Rz hk2 ?_;rfl';obtain⟨d,hd,ed⟩:=OB (xs:=rows.map D.str) (n:=n) (st+1+(i:Int)) (by omega) (by simp;omega);rw[Aq] at hd;obtain⟨y,hy,rfl⟩:=hd;refine Bp hg2 ed ?_;rfl';have hone:(⟨#[sg0]⟩:Str).length=1:=rfl;have hy2:=hr2 y hy;refine Nk (by rw[hone];omega) ?_;rfl';have a0:=DN (st+1+(i:Int)) (b:=n) (by omega);have a1:=EX (st+1+(i:Int)) (b:=n) (by omega)
    have hix:ixN (rows.map D.str).length ((st+1+(i:Int)) % n)=some ((st+1+(i:Int)) % n).toNat:=by unfold ixN;rw[if_pos a0,if_pos (by simp;omega)]
    refine Ng hg2 hix ?_;refine kz6 _ (IJ hpre2 (Af _)) (rows.set ((st+1+(i:Int)) % n).toNat (y++⟨#[sg0]⟩)) _ _ _ ?_ (by simp[hrl2]) (λz hz=>?_)
    .rw[Ch hg2,List.map_set]
    .rcases List.mem_or_eq_of_mem_set hz with h|h
     .have:=hr2 z h;exact⟨this.1,by omega⟩
     .rw[h];exact⟨hy2.1.app (.one (hs1 _ hk1)),by rw[OH,hone];omega⟩
   .rintro Cy fz6 L2 hpre2 rows a b e hg2 hrl2 hr2;rw[Ff] at hr2;refine fz6 _ _ rfl (kz5 _ hpre2 _ rows _ _ _ hg2 hrl2 (λy hy=>?_) (Af _));have:=hr2 y hy;exact⟨this.1,by omega⟩
 clear hg hrl hre hpre rows;rintro L2 hpre r rows a b e hg hrl hr hrL;refine Bf (λCz=>∀L3:AC,L <+: L3->∀(rows:ANE),L3[r]?=some (.lst (rows.map D.str))->rows.length=n.toNat->Gb rows->Cz [some (.ref kd),some (.int st),some (.int m),some (.int c),some (.int n),some (.ref r),some (.str sm),a,b,e,none,none] L3) (λCz kz7=>?_) ?_
 .rfl';refine BN (λh=>?_) (λh=>?_)
  .rfl';have hsl:=Txt.slice_le sm none (some (1+c / 768 % 2));refine AFj ?_ ?_
   .unfold JE;simp only[Bz,decide_eq_true_eq];have e24:(24:Int).toNat=24:=rfl;rw[e24];refine⟨⟨by decide,by decide⟩,?_⟩;omega
   rfl'
   have hix:ixN (rows.map D.str).length 0=some 0:=by unfold ixN;rw[if_pos (by decide),if_pos (by simp;omega)];rfl
   refine Ng hg hix ?_;refine kz7 _ (IJ hpre hrL) (rows.set 0 (Txt.slice (Txt.mul (Txt.slice sm none (some (1+c / 768 % 2))) 24) none (some 24))) ?_ (by simp[hrl]) (λz hz=>?_)
   .rw[Ch hg,List.map_set]
   .rcases List.mem_or_eq_of_mem_set hz with h|h
    .exact hr z h
    .rw[h];refine⟨((hs1.slice _ _).mul _).slice _ _,?_⟩;have:=ABb (Txt.mul (Txt.slice sm none (some (1+c / 768 % 2))) 24) 24 (by decide);omega
  .rfl';exact kz7 _ hpre rows hg hrl hr
 clear hg hrl hr hpre rows;rintro L3 hpre rows hg hrl hr;rfl';have hrlt:r<L3.length:=(Ax.mp hg).1;refine Cn (λj Cz=>∀L4:AC,∀(ts:ANE) (z:Option D),L4=L3++[Ob.lst (ts.map D.str)]->ts.Nodup->Gb ts->ts.length<=j->(0<j->0<ts.length)->Cz [some (.ref kd),some (.int st),some (.int m),some (.int c),some (.int n),some (.ref r),some (.str sm),a,b,e,some (.ref L3.length),z] L4) _ 0 _ _ (λCz kz8=>kz8 _ [] none rfl Gm (λ_ h=>(nomatch h)) (Af _) (λh=>absurd h (by decide))) ?_ ?_
 .rintro i x hx Cz Cy fz8 kz8 L4 ts z rfl hnd hts hl hp;rw[Ar] at hx;obtain⟨y,hy,hx⟩:=mS hx;cases hx;have hyr:=hr y (Bk hy);have hil:=(Ax.mp hy).1;refine fz8 _ _ (decide_eq_true (AV hg)) ?_;rfl';refine Ni AY (by rw[Nt];rfl) ?_;rw[Kv];rfl';refine BN (λhm=>?_) (λhm=>?_)
  .rfl';exact kz8 _ ts _ rfl hnd hts (by omega) (λ_=>List.length_pos_of_mem hm)
  .rfl';refine GR AY (by simp;omega) ?_;refine kz8 _ (ts++[y]) _ (by simp) ?_ (λw hw=>?_) (by simp;omega) (λ_=>by simp)
   .rw[Gp];refine⟨hnd,by simp,λa ha b hb=>?_⟩;have:b=y:=by simpa using hb
    rw[this];rintro rfl;exact hm ha
   .rcases Bi.mp hw with h|h
    .exact hts w h
    .have:w=y:=by simpa using h
     rw[this];exact hyr
 .rintro Cy fz8 L4 ts z rfl hnd hts hl hp;refine fz8 _ _ (decide_eq_true (AV hg)) ?_;rw[Aa,hrl] at hl hp;rfl';exact⟨rfl,q ts _ hnd hts (hp (by omega)) (by omega) _ (hpre.trans (Ai _ _)) AY⟩
def WW{Q:ANn}{L:AC}{p:D}(hp:Dr p)(h:Q (.bl true) L):W2 (Io [p] L) Q:=by
 obtain⟨kind,nth,edge,rfl,hn,he,hk⟩:=hp;unfold Io;refine BZ rfl ?_;unfold Qj;rfl';refine Nh rfl ?_;have e1:Cw (.int nth) [.int 1,.int 2,.int (-1),.int (-2)]=true:=by rcases hn with rfl|rfl|rfl|rfl <;> decide +kernel
 rw[e1];rfl';refine Nj rfl ?_
 have e2:Cw (.str kind) [.str "small",.str "great",.str "figure",.str "mark",.str "any"]=true:=by simp only[AX,Db,or_false] at hk;rcases hk with rfl|rfl|rfl|rfl|rfl <;> decide +kernel
 rw[e2];rfl';refine Nj rfl ?_;have e3:Cw (.str edge) [.str "ahead",.str "behind"]=true:=by rcases he with rfl|rfl <;> decide +kernel
 rw[e3];exact⟨rfl,AW _,h⟩
abbrev Ih(ws:ANE)(ps:List D):Prop:=(∀p∈ps,EB ws p)/\0<ps.length/\ps.length<=3
abbrev EN(ws:ANE)(p:D):Bool:=if (NZ p).length=2 then decide (Qs ((NZ p).tail.headD .non)∈ws) else true
def NO(ws:ANE)(x:D)(w:Str):EN ws (.tup [x,.str w])=decide (w∈ws):=rfl
def AD8{ws:ANE}{ps:List D}(h:Ih ws ps):ps.all (EN ws)=true:=by
 rw[Bu];intro p hp;rcases h.1 p hp with⟨w,hw,rfl⟩|⟨d,x,y,rfl,_⟩
 .rw[NO,decide_eq_true hw]
 .rfl
def AD7{ws:ANE}{ps:List D}(hp:∀p∈ps,DX p)(hl:0<ps.length/\ps.length<=3)(h:ps.all (EN ws)=true):Ih ws ps:=by
 refine⟨λp hm=>?_,hl⟩;have h1:=Bu.mp h p hm;rcases hp p hm with⟨w,rfl,_⟩|⟨d,x,y,rfl,h2⟩
 .rw[NO] at h1;exact .inl ⟨w,of_decide_eq_true h1,rfl⟩
 .exact .inr ⟨d,x,y,rfl,h2⟩
def AEm{Q:ANn}{L:AC}{ws:ANE}{ps:List D}{k:Nat}(hk:L[k]?=some (.lst (ws.map D.str)))(hp:∀p∈ps,DX p)(hl:0<ps.length/\ps.length<=3)(h:Q (.bl (ps.all (EN ws))) L):W2 (KF [.tup ps,.ref k] L) Q:=by
 unfold KF;refine BZ rfl ?_;unfold Qf;have hl1:(1:Int)<=(ps.length:Int):=by have:=hl.1;omega
 have hl3:(ps.length:Int)<=3:=by have:=hl.2;omega
 rfl';refine Cn (λj Cz=>(ps.take j).all (EN ws)=true->∀a,Cz [some (.tup ps),some (.ref k),a] L) _ 0 _ _ (λCz kz1=>kz1 rfl none) ?_ ?_
 .rintro i x hx Cz Cy fz1 kz1 hf a;refine fz1 _ _ rfl ?_;have hxm:=Bk hx;have htk:ps.take (0+i+1)=ps.take (0+i)++[x]:=by rw[BR,Gk,hx];rfl
  have next:EN ws x=true->(ps.take (0+i+1)).all (EN ws)=true:=λe=>by rw[htk,List.all_append,hf];simp[e]
  rcases hp x hxm with⟨w,rfl,_⟩|⟨deed,p,q,rfl,hd,hp,hq⟩
  .rfl';refine Ni hk (by rw[Nt];rfl) ?_;rw[Kv];rfl';refine BN (λhm=>?_) (λhm=>?_)
   .rfl';exact kz1 (next (by rw[NO];exact decide_eq_true hm)) _
   .rfl';refine⟨rfl,AW _,?_⟩
    have:ps.all (EN ws)=false:=by rw[List.all_eq_false];exact⟨_,hxm,by rw[NO];simp[hm]⟩
    rw[this] at h;exact h
  .have hnw:deed≠"word":=by rcases hd with rfl|rfl|rfl <;> decide
   rfl';refine Nh rfl ?_;have e1:Cw (.str deed) [.str "copy",.str "raise",.str "sink"]=true:=by rcases hd with rfl|rfl|rfl <;> decide +kernel
   rw[e1];rfl';refine WW hp ?_;rfl';refine WW hq ?_;rfl';exact kz1 (next rfl) _
 .rintro Cy fz1 hf a;refine fz1 _ _ rfl ?_;rw[BR,Ei] at hf;rw[hf] at h;rfl';exact⟨rfl,AW _,h⟩
noncomputable abbrev Ee:=List (Str×Str)
abbrev Bb(e:Str×Str):D:=.tup [.str e.1,.str e.2]
abbrev Ii(exs:Ee):Prop:=∀e∈exs,Ay e.1/\e.1.length<=100/\e.2.length<=10000
abbrev HB(ps:List D)(exs:Ee):Bool:=exs.all λe=>decide (Ez e.1 ps=.str e.2)
def AFx{Q:ANn}{L:AC}{a b:D}(hs:GI a b=true)(h:Q (.bl (!decide (a=b))) L):W2 (Hu a b L) Q:=⟨_,_,by unfold Hu;rw[if_pos hs],h⟩
def Ra{Q:ANn}{L:AC}{ws:ANE}{ps:List D}{exs:Ee}{k e:Nat}(hk:L[k]?=some (.lst (ws.map D.str)))(he:L[e]?=some (.lst (exs.map Bb)))(hp:∀p∈ps,DX p)(hl:0<ps.length/\ps.length<=3)(hx:Ii exs)(h:Q (.bl (ps.all (EN ws)&&HB ps exs)) L):W2 (KB [.tup ps,.ref k,.ref e] L) Q:=by
 unfold KB;refine BZ rfl ?_;unfold Qb;rfl';refine AEm hk hp hl ?_;rfl';refine GY (λho=>?_) (λho=>?_)
 rotate_left
 .rfl';rw[ho] at h;exact⟨rfl,AW _,h⟩
 rw[ho,Bool.true_and] at h;rfl';refine Cn (λj Cz=>HB ps (exs.take j)=true->∀a b,Cz [some (.tup ps),some (.ref k),some (.ref e),a,b] L) _ 0 _ _ (λCz kz1=>kz1 rfl none none) ?_ ?_
 .rintro i x hxi Cz Cy fz1 kz1 hf a b;rw[Ar] at hxi;obtain⟨ex,hy,hxi⟩:=mS hxi;cases hxi;have hxo:=hx ex (Bk hy);have htk:exs.take (0+i+1)=exs.take (0+i)++[ex]:=by rw[BR,Gk,hy];rfl
  refine fz1 _ _ (decide_eq_true he) ?_;unfold Bb;rfl';refine WT (by omega) hxo.1 hp (by have:=hl.2;omega) ?_;rfl';refine AFx ?_ ?_
  .rcases AB4 (y:=ex.1) (ps:=ps) with e|⟨t,e⟩ <;> rw[e] <;> rfl
  rfl';refine BN (λhd=>?_) (λhd=>?_)
  .rfl';refine kz1 ?_ _ _;rw[htk];unfold HB at hf ⊢;rw[List.all_append,hf];simp[hd]
  .rfl';refine⟨rfl,AW _,?_⟩
   have:HB ps exs=false:=by unfold HB;rw[List.all_eq_false];exact⟨ex,Bk hy,by simp[hd]⟩
   rw[this] at h;exact h
 .rintro Cy fz1 hf a b;refine fz1 _ _ (decide_eq_true he) ?_;rw[BR,Aa,Ei] at hf;rfl';rw[hf] at h;exact⟨rfl,AW _,h⟩
def VD:∀{xs:List D},(∀x∈xs,∃t,x=D.str t)->∃ys,BW xs=some ys
 |[],_=>⟨[],rfl⟩
 |x::xs,h=>by
  obtain⟨t,rfl⟩:=h x Az;obtain⟨ys,e⟩:=VD λz hz=>h z (BA _ hz);exact⟨t::ys,by simp[BW,e]⟩
def AB3{y:Str}{ps:List D}(hy:y.length<=1000)(hs:Ay y)(hp:∀p∈ps,DX p)(ha:∀p∈ps,∃t,Bg y p=.str t)(hl:ps.length<=3):∃a:Str,Ez y ps=.str a/\a.length<=3000:=by
 obtain⟨ys,e⟩:=VD (xs:=ps.map (Bg y)) λx hx=>by
  rw[Aq] at hx;obtain⟨p,hp',rfl⟩:=hx;exact ha p hp'
 have hsum:=Ut hy hs hp e;refine⟨Txt.join "" ys,by unfold Ez;rw[e],?_⟩;have:=join_len "" ys;have e0:(Str.ofString "").length=0:=rfl;rw[e0] at this;have:ps.length*1000<=3*1000:=ALm _ hl;omega
abbrev IB(ps:List D)(y:Str):Str:=match Ez y ps with|.str a=>a|_=>""
def Ja(xs:List D)(k:Nat):cutD xs none (some (k:Int))=xs.take k:=by
 unfold cutD;have e:HT.sIx xs.length 0 none=0:=rfl;rw[e,ALr,Nat.sub_zero,HT.AIy]
 by_cases h:k<=xs.length
 .rw[Nat.min_eq_left h]
 .rw[Nat.min_eq_right (by omega),Ei,AMD (by omega)]
def SN(xs:List D)(k:Nat):cutD xs (some (k:Int)) none=xs.drop k:=by
 unfold cutD;have e:HT.sIx xs.length xs.length none=xs.length:=rfl;rw[e,HT.AIy]
 by_cases h:k<=xs.length
 .rw[Nat.min_eq_left h,AMD (by simp)]
 .rw[Nat.min_eq_right (by omega),AMN,List.drop_of_length_le (by omega)];simp
def Zr{xs ys:List D}{i:Nat}{x:D}(h:(EJ xs.length [xs,ys])[i]?=some x):∃a b,xs[i]?=some a/\x=.tup [a,b]/\b=ys[i]?.getD .non:=by
 rw[Tu] at h;split at h
 .rename_i hi;cases h;exact⟨xs[i],_,by simp[hi],by simp[hi],rfl⟩
 .cases h
def AEo{Q:ANn}{L:AC}{ts:ANE}{ps:List D}{t g:Nat}{gs:ANK}(c:Int)(htx:L[t]?=some (.lst (ts.map D.str)))(hgx:L[g]?=some (.lst (gs.map D.int)))(hgl:ts.length<=gs.length)(ht:Gb ts)(hl:ts.length<=1000)(hp:∀p∈ps,DX p)(ha:∀p∈ps,Fx ts p)(hpl:ps.length<=3)
  (q:∀exs:Ee,exs.map Prod.fst=ts->Ii exs->∀k L',L <+: L'->L'[k]?=some (.lst (exs.map Bb))->Q (.ref k) L'):W2 (Jy [.tup ps,.ref t,.int c,.ref g] L) Q:=by
 have hans:∀y∈ts,Ez y ps=.str (IB ps y)/\(IB ps y).length<=3000:=λy hy=>by
  obtain⟨a,e,hl⟩:=AB3 (by have:=ht y hy;omega) (ht y hy).1 hp (λp hp=>ha p hp y hy) hpl;have:IB ps y=a:=by unfold IB;rw[e]
  rw[this];exact⟨e,hl⟩
 unfold Jy;refine FN rfl ?_;unfold Ov;refine Bf (λCz=>Cz [some (.tup ps),some (.ref t),some (.int c),some (.ref g),some (.ref L.length),none,none,none,none] (L++[Ob.lst ((ts.map λy=>(y,IB ps y)).map Bb)])) (λCz kz1=>?_) ?_
 .rfl';refine Fc (λj Cz=>∀a,Cz [a,some (.tup ps)] (L++[Ob.lst (((ts.take j).map λy=>(y,IB ps y)).map Bb)])) _ 0 _ _ (λCz kw1=>kw1 none) ?_ ?_
  .rintro i2 z hz Cz Cy fw1 kw1 a;rw[Ar] at hz;obtain⟨y,hy,hz⟩:=mS hz;cases hz;have hym:=Bk hy;have hyt:=ht y hym;have hi2:i2<ts.length:=(Ax.mp hy).1;have htk:ts.take (0+i2+1)=ts.take (0+i2)++[y]:=by rw[BR,Gk,hy];rfl
   refine fw1 _ _ (decide_eq_true (AV htx)) ?_;rfl';refine WT (by omega) hyt.1 hp (by omega) ?_;rfl';refine⟨_,AY,by simp;omega,FE (kw1 _) ?_⟩;rw[htk,(hans y hym).1];simp[Bb]
  .rintro Cy fw1 _;refine fw1 _ _ (decide_eq_true (AV htx)) ?_;rw[BR,Aa,Ei];exact kz1
 skip
 refine Bf (λCz=>∀L2:AC,∀(k:Nat) (exs:Ee),L <+: L2->L2[k]?=some (.lst (exs.map Bb))->exs.map Prod.fst=ts->(∀e∈exs,Ay e.1/\e.1.length<=100/\e.2.length<=3000)->Cz [some (.tup ps),some (.ref t),some (.int c),some (.ref g),some (.ref k),none,none,none,none] L2) (λCz kz2=>?_) ?_
 .have keepIt:=kz2 _ L.length (ts.map λy=>(y,IB ps y)) (Ai _ _) AY (by rw[CH];exact AMT ts) (λe he=>by
    obtain⟨y,hy,rfl⟩:=Aq.mp he
    exact⟨(ht y hy).1,(ht y hy).2,(hans y hy).2⟩)
  rfl';refine BN (λh1=>?_) (λh1=>?_)
  .generalize hL0:L++[Ob.lst ((ts.map λy=>(y,IB ps y)).map Bb)]=L0;have p0:L <+: L0:=by rw[<-hL0];exact Ai _ _
   have htx0:=CW p0 htx;have hgx0:=CW p0 hgx;clear keepIt hL0;have hsq:∀L':AC,L'[t]?=some (.lst (ts.map D.str))->L'[g]?=some (.lst (gs.map D.int))->seqs [.ref t,.ref g] L'=some [ts.map D.str,gs.map D.int]:=λL' e1 e2=>by simp[seqs,Cg,e1,e2]
   refine Mq (AAZ (UP (UU (Qn rfl (UU (Qn rfl (US ⟨_,_,hsq _ htx0 hgx0,⟨by simpa using hgl,Nat.lt_of_sub_eq_succ rfl,rfl⟩,?_⟩)))))));have hzl:(EJ (ts.map D.str).length [ts.map D.str,gs.map D.int]).length=ts.length:=by unfold EJ;simp
   refine Fc (λj Cz=>∀a b,∀(as:ANE),as.length=j->(∀a∈as,a.length<=3000)->Cz [a,b] (L0++[Ob.lst (((ts.take j).zip as).map Bb)])) _ 0 _ _ (λCz kw2=>kw2 none none [] rfl (λ_ h=>(nomatch h))) ?_ ?_
   .rintro i2 z hz Cz Cy fw2 kw2 a b as hal has;obtain⟨y,v,hy,rfl,hv⟩:=Zr hz;rw[Ar] at hy
    cases hy':ts[i2]? with
    |none=>rw[hy'] at hy;cases hy
    |some y' =>
     rw[hy'] at hy;cases hy;have hi2:i2<ts.length:=(Ax.mp hy').1;have hv':v=.int gs[i2]:=by rw[hv];simp[show i2<gs.length by omega]
     subst hv';refine fw2 _ _ (decide_eq_true (hsq _ (AV htx0) (AV hgx0))) ?_;rfl';refine RY _ _ (by decide) (by decide) λa ha1 ha2=>?_;rfl';refine⟨_,AY,by simp;omega,FE (kw2 _ _ (as++[a]) (by simp[hal]) (λx hx=>?_)) ?_⟩
     .rcases Bi.mp hx with h|h
      .exact has x h
      .rw[Dt.mp h];omega
     .have e1:ts.take (0+i2+1)=ts.take (0+i2)++[y']:=by rw[BR,Gk,hy'];rfl
      rw[e1,List.zip_append (by rw[EW];omega)];simp[Bb]
   .rintro Cy fw2 _ _ as hal has;refine fw2 _ _ (decide_eq_true (hsq _ (AV htx0) (AV hgx0))) ?_;rw[hzl,BR] at hal ⊢;rw[Ei];refine kz2 _ L0.length (ts.zip as) (p0.trans (Ai _ _)) AY (List.map_fst_zip (by omega)) (λe he=>?_);obtain⟨y,a⟩:=e;have h1:=ht y (AMK he).1;exact⟨h1.1,h1.2,has a (AMK he).2⟩
  .rfl';exact keepIt
 rintro L1 k1 exs hpre1 hk1 hfst hok;have hok':Ii exs:=λe he=>⟨(hok e he).1,(hok e he).2.1,by have:=(hok e he).2.2;omega⟩;have hxl:exs.length<=1000:=by have:=congrArg List.length hfst;simp at this;omega
 refine Bf (λCz=>∀L2:AC,∀(k:Nat) (exs:Ee) (a b e f:Option D),L <+: L2->L2[k]?=some (.lst (exs.map Bb))->exs.map Prod.fst=ts->Ii exs->Cz [some (.tup ps),some (.ref t),some (.int c),some (.ref g),some (.ref k),a,b,e,f] L2) (λCz kz3=>?_) ?_
 .have keepIt:=kz3 _ k1 exs none none none none hpre1 hk1 hfst hok';rfl';refine BN (λh1=>?_) (λh1=>?_)
  .rfl';refine BN (λh2=>?_) (λh2=>?_)
   .have h2':0<exs.length:=by simpa using h2
    have hml:(((exs.map Bb).length:Nat):Int)=exs.length:=by simp
    rfl';have a0:=DN (c / 4) (b:=((exs.map Bb).length:Int)) (by omega);have a1:=EX (c / 4) (b:=((exs.map Bb).length:Int)) (by omega);generalize hat:(c / 4 % ((exs.map Bb).length:Int))=at0 at a0 a1 ⊢;obtain⟨n,rfl⟩:∃n:Nat,at0=(n:Int):=⟨at0.toNat,by omega⟩;have hlt:n<exs.length:=by omega
    obtain⟨ex,hex0⟩:∃ex,exs[n]?=some ex:=⟨exs[n],by simp[hlt]⟩
    have hsplit:exs=exs.take n++ex::exs.drop (n+1):=by obtain⟨h1,h2⟩:=Ax.mp hex0;rw[<-h2,List.getElem_cons_drop,AMk]
    have ex0:atI (exs.map Bb) (n:Int)=some (Bb ex):=Di (by rw[Ar,hex0];rfl);have hex:=hok ex (Bk hex0);refine Bp hk1 ex0 ?_;rw[show Bb ex=D.tup [.str ex.1,.str ex.2] from rfl];rfl';have ha1:(Str.ofString "a").length=1:=by decide
    have s1:=Txt.slice_le (ex.2++"a") none (some 72);have s2:=Txt.slice_le ex.2 none (some (-1));have s3:=Txt.slice_le ex.2 (some 1) none;have s4:=Txt.slice_le ex.2 none (some 1);rw[OH,ha1] at s1;refine Nk (by rw[ha1];omega) ?_;rfl';refine Nk (by omega) ?_;rfl';refine GP _ AY (by decide) (by simp) λd hd=>?_
    have hd':∃o:Str,d=.str o/\o.length<=10000:=by
     simp only[AX,Db,or_false] at hd;rcases hd with rfl|rfl|rfl|rfl
     .exact⟨_,rfl,by omega⟩
     .exact⟨_,rfl,by omega⟩
     .exact⟨_,rfl,by rw[OH];omega⟩
     .exact⟨_,rfl,by decide⟩
    obtain⟨o,rfl,ho⟩:=hd';rfl';rw[Ja];refine Nl (by wtm_at "z_lk") AY (by simp;omega) ?_;rfl';have en1:((n:Int)+1)=((n+1:Nat):Int):=by omega
    rw[en1,SN];refine Nl (by wtm_at "z_lk") AY (by simp;omega) ?_;refine kz3 _ _ (exs.take n++(ex.1,o)::exs.drop (n+1)) _ _ _ _ (hpre1.trans (by wtm_at "z_pf")) ?_ ?_ (λe he=>?_)
    .rw[AY];simp[Bb,List.map_take,List.map_drop]
    .rw[<-hfst]
     conv=>rhs;rw[hsplit]
     simp
    .rcases Bi.mp he with h|h
     .exact hok' e (ALb h)
     .rcases AX.mp h with rfl|h
      .exact⟨hex.1,hex.2.1,ho⟩
      .exact hok' e (AMS h)
   .rfl';exact keepIt
  .rfl';exact keepIt
 .rintro L2 k exs a b e f hpre hg h1 h2;rfl';exact⟨rfl,q exs h1 h2 k L2 hpre hg⟩
def AFm{Q:ANn}{L:AC}{xs:List D}(h:Q (.ref L.length) (L++[.lst xs])):W2 (LC [.fz xs] L) Q:=⟨_,_,rfl,h⟩
def Wy:∀{ds:List D},(∀d∈ds,∃v:Int,d=.int v/\0<=v)->∃vs:ANK,ds=vs.map .int/\∀v∈vs,0<=v
 |[],_=>⟨[],rfl,λ_ h=>(nomatch h)⟩
 |d::ds,h=>by
  obtain⟨v,rfl,hv⟩:=h d Az;obtain⟨vs,rfl,hvs⟩:=Wy λx hx=>h x (BA _ hx);refine⟨v::vs,rfl,λx hx=>?_⟩;rcases AX.mp hx with rfl|hx
  .exact hv
  .exact hvs x hx
def Wp{n j:Nat}(h:j<n):ixN n (j:Int)=some j:=by simp[ixN];omega
def AEj{Q:ANn}{L:AC}{ns:ANK}(hb:∀z∈ns,Builtin.Int.intBits z<=1048576)(hn:ns.length<=63){k:Int}(h0:0<=k)(h1:k<1000)(q:∀v:Int,0<=v->Q (.int v) L):W2 (KL [.fz (ns.map .int),.int k] L) Q:=by
 have hC:Builtin.Int.intBits 2718281828459045235360287471352662497757<=132:=by decide
 have hlen:((ns.map D.int).length:Int)=ns.length:=by simp
 unfold KL;refine BZ rfl ?_;unfold Pt;rfl';refine BN (λhk=>?_) (λhk=>?_)
 .obtain⟨z,hz,ez⟩:=HD h0 (hlen▸hk);rfl';refine XU ez ?_;rfl';refine Cs (RW (hb z hz) hC (by decide)) ?_;rfl';exact⟨rfl,AW _,q _ (DN _ (by decide))⟩
 .rfl'
  have hkk:0<=k*k/\k*k<=1000000:=by have a1:k*k<=1000*1000:=AMQ (by omega) (by omega) h0 (by omega);exact⟨AMR h0 h0,by omega⟩
  have hk3:0<=k*k*k/\k*k*k<=1000000000:=by have a1:k*k*k<=1000000*1000:=AMQ (by omega) (by omega) h0 (by omega);exact⟨AMR hkk.1 h0,by omega⟩
  refine Cs (GO (by omega)) ?_;rfl';refine Cs (Gw (by omega)) ?_;rfl'
  have sq:∀v:Int,0<=v->v<100000000000000000000000000000000000000000000000->cMul v v=true:=λv a b=>by
   have hv:Builtin.Int.intBits v<=160:=YR (by
    have:(v.natAbs:Int)<((2 ^ 160:Nat):Int):=by
     have e:((2 ^ 160:Nat):Int)=1461501637330902918203684832716283019655932542976:=by decide
     rw[e];omega
    exact Int.ofNat_lt.mp this)
   exact RW hv hv (by decide)
  have r1:=λx:Int=>DN x (b:=2147483629) (by decide);have r2:=λx:Int=>EX x (b:=2147483629) (by decide);have r3:=λx:Int=>DN x (b:=4611686018427387847) (by decide);have r4:=λx:Int=>EX x (b:=4611686018427387847) (by decide);refine BN (λhl=>?_) (λhl=>?_)
  .rfl';refine Cs (Gw (by omega)) ?_;rfl';obtain⟨z,hz,ez⟩:=HD (ns:=ns) (k:=k*7 % ((ns.map D.int).length:Int)) (DN _ (by omega)) (by have:=EX (k*7) (b:=((ns.map D.int).length:Int)) (by omega);omega);refine XU ez ?_;rfl';refine Cs (GO (by omega)) ?_;rfl';have hr1:=DN z (b:=10000000000000000000000000000000000000000) (by decide);have hr2:=EX z (b:=10000000000000000000000000000000000000000) (by decide);refine Cs (Gw (by omega)) ?_;rfl'
   have hp:0<=z % 10000000000000000000000000000000000000000*(48271+2*k)/\z % 10000000000000000000000000000000000000000*(48271+2*k)<=10000000000000000000000000000000000000000*60000 :=
    ⟨AMR hr1 (by omega),AMQ (by omega) (by omega) (by omega) (by omega)⟩
   generalize z % 10000000000000000000000000000000000000000*(48271+2*k)=y at hp ⊢;refine Cs (sq _ (by omega) (by omega)) ?_;rfl';generalize (k*k*7919+5+y)*(k*k*7919+5+y)=u;have a1:=r1 u;have a2:=r2 u;generalize u % 2147483629=p at a1 a2 ⊢;refine Cs (GO (by omega)) ?_;rfl';refine Cs (Gw (by omega)) ?_;rfl';refine Cs (Gw (by omega)) ?_;rfl';refine Cs (GO ?_) ?_
   .have b1:=r3 ((p+k*k*k+16807)*(p+69621));have b2:=r4 ((p+k*k*k+16807)*(p+69621));omega
   rfl';exact⟨rfl,AW _,q _ (DN _ (by decide))⟩
  .rfl';refine Cs (sq _ (by omega) (by omega)) ?_;rfl';generalize (k*k*7919+5)*(k*k*7919+5)=u;have a1:=r1 u;have a2:=r2 u;generalize u % 2147483629=p at a1 a2 ⊢;refine Cs (GO (by omega)) ?_;rfl';refine Cs (Gw (by omega)) ?_;rfl';refine Cs (Gw (by omega)) ?_;rfl';refine Cs (GO ?_) ?_
   .have b1:=r3 ((p+k*k*k+16807)*(p+69621));have b2:=r4 ((p+k*k*k+16807)*(p+69621));omega
   rfl';exact⟨rfl,AW _,q _ (DN _ (by decide))⟩
def AEp{Q:ANn}{L:AC}{ns:ANK}(hb:∀z∈ns,Builtin.Int.intBits z<=1048576)(hn:ns.length<=63)(ah mo:Int)(h0:0<ah)(h1:ah<=mo)(h2:mo<=100)
  (q:∀(vs:ANK) (k:Nat) (L2:AC),L <+: L2->L2[k]?=some (.lst (vs.map .int))->(∀v∈vs,0<=v)->ah<=vs.length->(vs.length:Int)<=mo->Q (.ref k) L2):W2 (KI [.fz (ns.map .int),.int ah,.int mo] L) Q:=by
 have hlen:∀ms:ANK,((ms.map D.int).length:Int)=ms.length:=λ_=>by simp
 unfold KI;refine FN rfl ?_;unfold Pp;refine Bf (λCz=>Cz [some (.fz (ns.map .int)),some (.int ah),some (.int mo),some (.ref L.length),none,none,none] (L++[Ob.lst (ns.map .int)])) (λCz kz1=>?_) ?_
 .rfl';refine AFm ?_;exact kz1
 skip
 refine Bf (λCz=>∀L':AC,∀a b c d,L <+: L'->Cz [some (.fz (ns.map .int)),some (.int ah),some (.int mo),a,b,c,d] L') (λCz kz2=>?_) ?_
 .rfl';refine BN (λhl=>?_) (λhl=>?_)
  .rw[hlen] at hl;obtain⟨z,hz,ez⟩:=HD (ns:=ns) (k:=0) (by decide) hl;have hm1:=DN z (b:=mo-ah+1) (by omega);have hm2:=EX z (b:=mo-ah+1) (by omega);rfl';refine Bp AY ez ?_;rfl';refine Bp AY ez ?_;rfl';refine Ng AY (n:=0) (Wp (j:=0) (by simp;omega)) ?_;rfl';generalize hL1:(L++[Ob.lst (ns.map D.int)]).set L.length (Ob.lst ((ns.map D.int).set 0 (.int (z / (mo-ah+1)))))=L1;have hpre1:L <+: L1:=by rw[<-hL1];exact IJ (Ai _ _) (Af _)
   have hlen1:L1.length=L.length+1:=by rw[<-hL1];simp
   have hg1:L1[L.length]?=some (.lst ((ns.set 0 (z / (mo-ah+1))).map .int)):=by rw[<-hL1,Ch AY,List.map_set]
   generalize hT:(ah+z % (mo-ah+1)).toNat=n;have hn1:ah<=(n:Int)/\(n:Int)<=mo:=by omega
   refine Cn (λj Cz=>∀L':AC,∀(cs ds:ANK) (a:Option D),L <+: L'->L'[L.length]?=some (.lst (cs.map .int))->cs.length=ns.length->L'[L1.length]?=some (.lst (ds.map .int))->ds.length=j->(∀v∈ds,0<=v)->Cz [some (.fz (ns.map .int)),some (.int ah),some (.int mo),some (.ref L.length),some (.int (ah+z % (mo-ah+1))),some (.ref L1.length),a] L') _ 0 _ _ (λCz kz3=>kz3 _ _ [] none (hpre1.trans (Ai _ _)) (AV hg1) (by simp) AY rfl (λ_ h=>(nomatch h))) ?_ ?_
   .rintro i x hx Cz Cy fz3 kz3 L' cs ds a hp hgc hcl hgd hdl hd0;obtain⟨hi,rfl⟩:=Km hx;refine fz3 _ _ rfl ?_;have hcl':((cs.map D.int).length:Int)=ns.length:=by rw[hlen,hcl]
    have hpos:0<((cs.map D.int).length:Int):=by omega
    have hm3:=DN (0+(i:Int)) (b:=((cs.map D.int).length:Int)) (by omega);have hm4:=EX (0+(i:Int)) (b:=((cs.map D.int).length:Int)) hpos;obtain⟨y,hy,ey⟩:=HD (ns:=cs) (k:=(0+(i:Int)) % ((cs.map D.int).length:Int)) hm3 (by rw[<-hlen];exact hm4);rfl';refine Bp hgc ey ?_;rfl';refine GR hgd (by rw[Aa];omega) ?_;have hgc2:(L'.set L1.length (Ob.lst (ds.map D.int++[D.int (y % 10000000000000000000000000000000000000000)])))[L.length]?=some (.lst (cs.map .int)):=Fl (by omega) hgc;have hgd2:=Ch (a:=Ob.lst (ds.map D.int++[D.int (y % 10000000000000000000000000000000000000000)])) hgd;have hp2:L <+: L'.set L1.length (Ob.lst (ds.map D.int++[D.int (y % 10000000000000000000000000000000000000000)])):=IJ hp (by omega);generalize L'.set L1.length (Ob.lst (ds.map D.int++[D.int (y % 10000000000000000000000000000000000000000)]))=L2 at hgc2 hgd2 hp2 ⊢;rfl';refine Bp hgc2 ey ?_;rfl';obtain⟨r,hr⟩:∃r:Nat,(0+(i:Int)) % ((cs.map D.int).length:Int)=r:=⟨_,(Int.toNat_of_nonneg hm3).symm⟩;rw[hr];refine Ng hgc2 (n:=r) (Wp (by omega)) ?_;refine kz3 _ (cs.set r (y / 10000000000000000000000000000000000000000)) (ds++[y % 10000000000000000000000000000000000000000]) _ (IJ hp2 (by omega)) ?_ (by simp[hcl]) ?_ (by simp;omega) (λv hv=>?_)
    .rw[Ch hgc2,List.map_set]
    .rw[DM];exact Fl (by omega) hgd2
    .rcases Bi.mp hv with h|h
     .exact hd0 v h
     .have:v=y % 10000000000000000000000000000000000000000:=by simpa using h
      rw[this];exact DN _ (by decide)
   .rintro Cy fz3 L' cs ds a hp hgc hcl hgd hdl hd0;rw[Ff] at hdl;refine fz3 _ _ rfl ?_
    have hne:cs.min?≠none:=λh=>by
     rw[List.min?_eq_none_iff] at h;subst h;simp at hcl;omega
    obtain⟨m,hm⟩:=Option.ne_none_iff_exists'.mp hne;rfl';refine AFl hgc (AFP cs) hm ?_;rfl';refine BN (λ_=>?_) (λ_=>?_)
    .rfl';exact⟨rfl,q ds _ L' hp hgd hd0 (by omega) (by omega)⟩
    .rfl';exact kz2 _ _ _ _ _ hp
  .rfl';exact kz2 _ _ _ _ _ (Ai _ _)
 .rintro L' a b c d hp;have hlen':=hlen ns;rfl'
  generalize hN:(if (if ((List.map D.int ns).length:Int)<mo then ((List.map D.int ns).length:Int) else mo)>ah then (if ((List.map D.int ns).length:Int)<mo then ((List.map D.int ns).length:Int) else mo) else ah)=n
  have hn1:ah<=n/\n<=mo:=by
   rw[<-hN]
   split <;> (try split) <;> omega
  refine UQ (λZ=>∃a,Z=[a,some (.fz (ns.map .int))]) (λd=>∃v:Int,d=.int v/\0<=v) ⟨none,rfl⟩ ?_ ?_ ?_
  .rw[Ff];omega
  .rintro x hx Z ⟨a,rfl⟩;obtain⟨i,hi,rfl⟩:=VV hx;rfl';refine⟨⟨_,rfl⟩,λacc=>?_⟩;rfl';refine AEj hb hn (by omega) (by omega) λv hv=>?_;exact⟨rfl,v,rfl,hv⟩
  intro ds hd hE;rw[Ff] at hd;obtain⟨vs,rfl,hvs⟩:=Wy hE;rw[Aa] at hd;exact⟨rfl,q vs _ _ (hp.trans (Ai _ _)) AY hvs (by omega) (by omega)⟩
def YH(ns:ANK)(a b:Option Int):∃cs:ANK,cutD (ns.map D.int) a b=cs.map D.int/\∀v∈cs,v∈ns:=by unfold cutD;rw[<-List.map_drop,<-List.map_take];exact⟨_,rfl,λv hv=>AMS (ALb hv)⟩
def AGb(ns:ANK)(h:24<=ns.length):∃cs:ANK,cutD (ns.map D.int) (some 11) (some 17)=cs.map D.int/\6<=cs.length:=by obtain⟨cs,e,_⟩:=YH ns (some 11) (some 17);refine⟨cs,e,?_⟩;have:=congrArg List.length e;unfold cutD at this;rw[show(11:Int)=((11:Nat):Int) from rfl,show(17:Int)=((17:Nat):Int) from rfl,HT.AIy,HT.AIy,EW,AL0,Aa,Aa] at this;omega
def AEk{Q:ANn}{L:AC}{ns:ANK}{kd:Nat}(hd:L[kd]?=some (.lst (ns.map .int)))(hv:∀v∈ns,0<=v)(h24:24<=ns.length)(hn:ns.length<=63)
  (q:∀(ws:ANE) (ps:List D) (exs:Ee) L' kw ke kk,Ga ws->Ih ws ps->Ii exs->(exs.map Prod.fst).Nodup->exs.length<=6->(∀p∈ps,Fx (exs.map Prod.fst) p)->(ws≠[]\/∀y∈exs.map Prod.fst,y≠"")->L <+: L'->L'[kw]?=some (.lst (ws.map D.str))->L'[ke]?=some (.lst (exs.map Bb))->L'[kk]?=some (.lst [.ref kw,.tup ps,.ref ke])->Q (.ref kk) L') :
  W2 (Ju [.ref kd] L) Q:=by
 obtain⟨z0,_,e0⟩:=HD (ns:=ns) (k:=0) (by decide) (by omega);obtain⟨z1,_,e1⟩:=HD (ns:=ns) (k:=1) (by decide) (by omega);obtain⟨z2,_,e2⟩:=HD (ns:=ns) (k:=2) (by decide) (by omega);obtain⟨cs,hcs,_⟩:=YH ns (some 5) (some 11);obtain⟨gs,hgs,hg6⟩:=AGb ns h24
 have hcl:cs.length<=63:=by have:=congrArg List.length hcs;unfold cutD at this;rw[EW,AL0,Aa,Aa] at this;omega
 unfold Ju;refine FN rfl ?_;unfold Og;refine Bf (λCz=>∀L':AC,∀ws kw,Ga ws->L <+: L'->L'[kw]?=some (.lst (ws.map D.str))->Cz [some (.ref kd),some (.ref kw),none,none] L') (λCz kz1=>?_) ?_
 .rfl';refine Bp hd e0 ?_;rfl';rw[hcs];refine Nl (by wtm_at "z_lk") AY (by simp;omega) ?_;rfl';refine AEf (cs:=z0::cs) AY (by simp) λws L' h1 h2 h3=>kz1 _ ws _ h1 ?_ h3;exact(((Ai _ _).trans (Ai _ _)).trans (Ai _ _)).trans h2
 rintro L1 ws kw hws hpre1 hkw;have hd1:=CW hpre1 hd;have hwl:(((ws.map D.str).length:Nat):Int)=ws.length:=by simp
 refine Bf (λCz=>∀L':AC,∀(ts:ANE) (kt:Nat),Gb ts->ts.Nodup->ts.length<=6->(ws≠[]\/∀y∈ts,y≠"")->L1 <+: L'->L'[kt]?=some (.lst (ts.map D.str))->Cz [some (.ref kd),some (.ref kw),some (.ref kt),none] L') (λCz kz2=>?_) ?_
 .rfl';refine AEg hd1 hv (by omega) hn 17 10 (by decide) (by decide) (by decide) (by decide) λts L2 hnd hts hl0 hl6 k hpre hg=>?_;have hkw2:=CW hpre hkw;rfl';refine Fc (λj Cz=>∀a,Cz [a,some (.ref kw)] (L2++[Ob.lst (((ts.take j).filter λ(y:Str)=>decide (y≠("":Str)) || decide (ws≠[])).map D.str)])) _ 0 _ _ (λCz kw1=>kw1 none) ?_ ?_
  .rintro i2 z hz Cz Cy fw1 kw1 a;rw[Ar] at hz;obtain⟨y,hy,hz⟩:=mS hz;cases hz;have hi2:i2<ts.length:=(Ax.mp hy).1;have htk:ts.take (0+i2+1)=ts.take (0+i2)++[y]:=by rw[BR,Gk,hy];rfl
   refine fw1 _ _ (decide_eq_true (AV hg)) ?_;have hfl:((ts.take (0+i2)).filter λ(y:Str)=>decide (y≠("":Str)) || decide (ws≠[])).length<16777216:=Nat.lt_of_le_of_lt (List.length_filter_le _ _) (by simp;omega);rfl';refine BN (λh1=>?_) (λh1=>?_)
   .rfl';refine BN (λh2=>?_) (λh2=>?_)
    .rfl';refine⟨_,AY,by simpa using hfl,FE (kw1 _) ?_⟩;have hw':ws≠[]:=by rintro rfl;simp at h2
     rw[htk,List.filter_append];simp[hw']
    .rfl';refine FE (kw1 _) ?_
     have hw':ws=[]:=by
      rcases ws with _|⟨x,r⟩
      .rfl
      .exfalso;apply h2;simp
     rw[htk,List.filter_append];simp[hw',h1]
   .rfl';refine⟨_,AY,by simpa using hfl,FE (kw1 _) ?_⟩;rw[htk,List.filter_append];simp[h1]
  .rintro Cy fw1 _;refine fw1 _ _ (decide_eq_true (AV hg)) ?_;rw[BR,Aa,Ei];refine kz2 _ (ts.filter λ(y:Str)=>decide (y≠("":Str)) || decide (ws≠[])) L2.length (λy hy=>hts y (AMZ.mp hy).1) (hnd.filter _) (CV (List.length_filter_le _ _) hl6) ?_ (hpre.trans (Ai _ _)) AY
   by_cases hw:ws=[]
   .refine .inr λy hy=>?_;have:=(AMZ.mp hy).2;simpa[hw] using this
   .exact .inl hw
 rintro L2 ts kt hts hnd hl6 hne hpre2 hkt;have hkw2:=CW hpre2 hkw;have hd2:=CW hpre2 hd1;refine Bf (λCz=>∀ps,Sj ws ts ps->Cz [some (.ref kd),some (.ref kw),some (.ref kt),some (.tup ps)] L2) (λCz kz3=>?_) ?_
 .rfl';refine Bp hd2 e1 ?_;rfl';exact WR _ hkw2 hkt hws hts (by omega) hne λps hps=>kz3 ps hps
 rintro ps hps;rfl';refine Bp hd2 e2 ?_;rfl';rw[hgs];refine AEo _ (AV hkt) AY (by omega) hts (by omega) (λp hp=>(hps.1 p hp).piece hws) hps.2.1 hps.2.2.2 λexs he1 he2 ke L4 hpre4 hke=>?_;have hp4:=(Ai _ _).trans hpre4;rfl';refine⟨rfl,q ws ps exs _ kw ke _ hws ⟨hps.1,hps.2.2⟩ he2 (by rw[he1];exact hnd) ?_ (by rw[he1];exact hps.2.1) (by rw[he1];exact hne) ((hpre1.trans hpre2).trans (hp4.trans (Ai _ _))) (AV (CW hp4 hkw2)) (AV hke) AY⟩;have:=congrArg List.length he1;simp at this;omega
abbrev Rg:List D:=[.str "small",.str "great",.str "figure",.str "mark",.str "any"]
abbrev Nv:List D:=[.str "ahead",.str "behind"]
abbrev p1(k:D):List D:=[D.int 1,.int 2,.int (-1),.int (-2)].flatMap λn=>Nv.flatMap λe=>[D.tup [k,n,e]]
abbrev Cq:List D:=Rg.flatMap p1
def RI:∀p∈Cq,Dr p:=by
 intro p hp;simp only[Cq,p1,Rg,Nv,Dc,AX,Db,or_false] at hp;obtain⟨k,hk,n,hn,e,he,rfl⟩:=hp
 have h1:∃s:Str,k=.str s/\s∈([("small":Str),"great","figure","mark","any"]:ANE):=by rcases hk with rfl|rfl|rfl|rfl|rfl <;> exact⟨_,rfl,by decide +kernel⟩
 have h2:∃i:Int,n=.int i/\LY i:=by
  rcases hn with rfl|rfl|rfl|rfl
  .exact⟨_,rfl,.inl rfl⟩
  .exact⟨_,rfl,.inr (.inl rfl)⟩
  .exact⟨_,rfl,.inr (.inr (.inl rfl))⟩
  .exact⟨_,rfl,.inr (.inr (.inr rfl))⟩
 have h3:∃s:Str,e=.str s/\(s = "ahead"\/s = "behind"):=by
  clear hk hn h1 h2;rcases he with rfl|rfl
  .exact⟨_,rfl,.inl rfl⟩
  .exact⟨_,rfl,.inr rfl⟩
 obtain⟨s,rfl,hs⟩:=h1;obtain⟨i,rfl,hi⟩:=h2;obtain⟨e,rfl,he'⟩:=h3;exact⟨s,i,e,rfl,hi,he',hs⟩
def RH:Cq.length=40:=by decide +kernel
def AHK{Q:ANn}{L:AC}(h:∀L',L'[L.length]?=some (.lst Cq)->L <+: L'->Q (.ref L.length) L'):W2 (Jq [] L) Q:=by
 unfold Jq;refine FN rfl ?_;simp only[Qg,zt,zu,zw];rfl';refine Ql (λZ=>∃a b c,Z=[some (.ref L.length),a,b,c]) L.length 8 40 p1 AY ⟨none,none,none,rfl⟩ (λx _=>Af _) (by decide) ?_ ?_
 .rintro x hx Z L1 acc1 ⟨a,b,c,rfl⟩ hkp hl hB;refine⟨rfl,?_⟩;rfl';refine Ql (λZ=>∃b c,Z=[some (.ref L.length),some x,b,c]) L.length 2 48 (λn=>Nv.flatMap λe=>[D.tup [x,n,e]]) hl ⟨_,_,rfl⟩ (λx _=>Af _) (by show acc1.length+8<=48;omega) ?_ ?_
  .rintro n hn Z L2 acc2 ⟨b,c,rfl⟩ hkp2 hl2 hB2;refine⟨rfl,?_⟩;rfl';refine Ql (λZ=>∃c,Z=[some (.ref L.length),some x,some n,c]) L.length 1 50 (λe=>[D.tup [x,n,e]]) hl2 ⟨_,rfl⟩ (λx _=>Af _) (by show acc2.length+2<=50;omega) ?_ ?_
   .rintro e he Z L3 acc3 ⟨c,rfl⟩ hkp3 hl3 hB3;refine⟨rfl,?_⟩;rfl';refine GR hl3 (by omega) ?_;exact⟨⟨_,rfl⟩,.set _ _ _,Ch hl3⟩
   .rintro Z L3 ⟨c,rfl⟩ hkp3 hl3;exact⟨rfl,⟨_,_,rfl⟩,hkp3,hl3⟩
  .rintro Z L2 ⟨b,c,rfl⟩ hkp2 hl2;exact⟨rfl,⟨_,_,_,rfl⟩,hkp2,hl2⟩
 .rintro Z L1 ⟨a,b,c,rfl⟩ hkp hl;refine⟨rfl,?_⟩;rfl';exact⟨rfl,h _ hl (Wm hkp)⟩
abbrev Av(S:ANJ)(L L':AC):Prop:=L.length<=L'.length/\∀j,j<L.length->j∉S->L'[j]?=L[j]?
def Av.refl(S:ANJ)(L:AC):Av S L L:=⟨Af _,λ_ _ _=>rfl⟩
def Av.trans{S:ANJ}{L L1 L2:AC}(a:Av S L L1)(b:Av S L1 L2):Av S L L2:=⟨CV a.1 b.1,λj h1 h2=>by rw[b.2 j (DE h1 a.1) h2,a.2 j h1 h2]⟩
def Av.app(S:ANJ)(L M:AC):Av S L (L++M):=⟨by simp,λj h _=>by rw[Ey h]⟩
def Av.set{S:ANJ}{L L1:AC}{k:Nat}{o:Ob}(h:Av S L L1)(hk:k∈S\/L.length<=k):Av S L (L1.set k o):=⟨by rw[AL1];exact h.1,λj h1 h2=>by
 rw[EI (λe=>by subst e;rcases hk with z|z;exact h2 z;omega),h.2 j h1 h2]⟩
def Av.step{S S':ANJ}{L L1 L2:AC}(a:Av S L L1)(b:Av S' L1 L2)(i:∀j∈S',j∈S\/L.length<=j):Av S L L2:=⟨CV a.1 b.1,λj h1 h2=>by
 rw[b.2 j (DE h1 a.1) (λz=>by rcases i j z with q|q;exact h2 q;omega),a.2 j h1 h2]⟩
def Av.get{S:ANJ}{L L':AC}{j:Nat}{o:Ob}(h:Av S L L')(n:j∉S)(e:L[j]?=some o):L'[j]?=some o:=by rw[h.2 j (Ax.mp e).1 n];exact e
def Av.pre{L L':AC}(h:Av [] L L'):L <+: L':=by rw[List.prefix_iff_getElem?];intro j hj;rw[h.2 j hj (by simp)];simp[hj]
def Av.of_pre{S:ANJ}{L L':AC}(h:L <+: L'):Av S L L':=by obtain⟨M,rfl⟩:=h;exact .app _ _ _
def Av.mono{S S':ANJ}{L L':AC}(h:Av S L L')(i:∀j∈S,j∈S'\/L.length<=j):Av S' L L':=⟨h.1,λj h1 h2=>h.2 j h1 λz=>by rcases i j z with q|q;exact h2 q;omega⟩
def CY{L L':AC}{j:Nat}{o:Ob}(h:L <+: L')(e:L[j]?=some o):L'[j]?=some o:=by obtain⟨M,rfl⟩:=h;exact AV e
def Nd{L:AC}{j k:Nat}{a o o':Ob}(hj:L[j]?=some o)(hk:L[k]?=some o')(ne:o≠o'):(L.set j a)[k]?=some o':=by rw[EI (λe=>by subst e;rw[hj] at hk;exact ne (Option.some.inj hk))];exact hk
def DG{L:AC}{j:Nat}{o:Ob}(h:L[j]?=some o):j<L.length:=(Ax.mp h).1
def Hh{ok:AC->Bool}{g:GF}{elt:EF}{L0:AC}{Q:AC->Prop}(P:Fm->Prop)(f:D->D){items:List D}{Z:Fm}(hok:∀acc,ok (L0++[.lst acc])=true)(hp:P Z)(hz:items.length<=16777216)
  (h:∀x∈items,∀Z,P Z->W1 (g x Z) λZ1=>P Z1/\∀acc,W2 (elt Z1 (L0++[.lst acc])) λd L2=>L2=L0++[.lst acc]/\d=f x)
  (q:Q (L0++[.lst (items.map f)])):W1 (DR ok g Co elt L0.length items Z (L0++[.lst []])) Q:=by
 refine Fc (λj C=>∀Z,P Z->C Z (L0++[Ob.lst ((items.take j).map f)])) items 0 Z _ (λC k=>k _ hp) ?_ ?_
 .rintro i x e C C' fi kk Z hp;refine fi _ _ (hok _) ?_;have hi:i<items.length:=(Ax.mp e).1;obtain⟨Z1,e1,hp1,h2⟩:=h x (Bk e) Z hp;obtain⟨d,L2,e3,rfl,rfl⟩:=h2 ((items.take (0+i)).map f);refine⟨Z1,e1,true,_,rfl,f x,_,e3,(items.take (0+i)).map f,by simp,by simp;omega,FE (kk _ hp1) ?_⟩;have ht:items.take (0+i+1)=items.take (0+i)++[x]:=by rw[BR,Gk,e];rfl
  rw[ht,DM];simp
 .rintro C' fi Z _;exact fi _ _ (hok _) (by simpa using q)
def Hi{U:Type}{xs:List U}{i:Nat}{x:U}(h:xs[i]?=some x):xs.take (0+i+1)=xs.take (0+i)++[x]:=by rw[BR,Gk,h];rfl
abbrev EQ(d:Str)(xs ys:List D):List D:=xs.flatMap λx=>ys.map λy=>.tup [.str d,x,y]
def Ib(d:Str)(xs ys:List D):(EQ d xs ys).length=xs.length*ys.length:=by
 unfold EQ
 induction xs with
 |nil=>simp
 |cons x xs ih=>rw[Du,By,ih,Aa,Dd,ALg];omega
def AG0{Q:ANn}{L:AC}{d:Str}{a b:Nat}{xs ys:List D}(ha:L[a]?=some (.lst xs))(hb:L[b]?=some (.lst ys))(hz:xs.length*ys.length<=10000000)(hy:ys.length<=1000000)
  (h:∀L2,L <+: L2->L2[L.length]?=some (.lst (EQ d xs ys))->Q (.ref L.length) L2):W2 (Kb [.str d,.ref a,.ref b] L) Q:=by
 unfold Kb;refine FN rfl ?_;unfold Pw;have hal:=DG ha;have hbl:=DG hb;rfl';refine Cn (λj Cz=>∀L':AC,L <+: L'->L'[L.length]?=some (.lst (EQ d (xs.take j) ys))->∀e,Cz [some (.str d),some (.ref a),some (.ref b),some (.ref L.length),e] L') _ 0 _ _ (λCz kz1=>kz1 _ (Ai _ _) AY none) ?_ ?_
 .rintro i x hx Cz Cy fz1 kz1 L' hp hl e;refine fz1 _ _ (decide_eq_true (CY hp ha)) ?_;have hb':=CY hp hb;have hi:i<xs.length:=(Ax.mp hx).1;rfl';refine Hh (λZ=>∃e,Z=[e,some (.str d),some x]) (λy=>.tup [.str d,x,y]) (λacc=>decide_eq_true (AV hb')) ⟨_,rfl⟩ (by omega) ?_ ?_
  .rintro y hy Z ⟨e,rfl⟩;rfl';refine⟨⟨_,rfl⟩,λacc=>?_⟩;rfl';exact⟨rfl,rfl⟩
  .rfl';have hll:=DG hl;refine SE (AV hl) AY ?_ ?_
   .rw[Ib,Aa,EW];have h1:min (0+i) xs.length*ys.length<=xs.length*ys.length:=ALu (Nat.min_le_right _ _) (Af _);omega
   .rfl';refine kz1 _ (IJ (hp.trans (Ai _ _)) (Af _)) ?_ _;rw[Ch (AV hl),Hi hx];unfold EQ;rw[ALv];simp
 .rintro Cy fz1 L' hp hl e;refine fz1 _ _ (decide_eq_true (CY hp ha)) ?_;rfl';refine⟨rfl,h _ hp ?_⟩;simpa using hl
abbrev Gr(w:Str):D:=.tup [.str "word",.str w]
abbrev DV:ANE:=["copy","raise","sink"]
def NE{kvs:List (NK×D)}{k:NK}{d:D}{ep:Nat}(h:k∉kvs.map (·.1)):Cp kvs k d=kvs++[(k,d)]/\epN kvs k ep=ep+1:=by
 have:(kvs.any λkv=>decide (kv.1=k))=false:=by rw[AMY];intro ha;obtain⟨x,hx,e⟩:=List.any_eq_true.mp ha;exact h (by rw[<-of_decide_eq_true e];exact CG hx)
 unfold Cp epN;rw[this];exact⟨rfl,rfl⟩
def AEs{kvs:List (NK×D)}{k:NK}(h:k∉kvs.map (·.1)):BP kvs k=none:=by
 unfold BP;rw[AMO.mpr]
 .rfl
 .intro x hx hd;exact h (by rw[<-of_decide_eq_true hd];exact CG hx)
def Wb{kvs:List (NK×D)}{i:Nat}{k:NK}{d:D}(nd:(kvs.map (·.1)).Nodup)(h:kvs[i]?=some (k,d)):BP kvs k=some d:=by
 induction kvs generalizing i with
 |nil=>simp at h
 |cons x xs ih =>
  rw[Aj,Go] at nd;unfold BP
  cases i with
  |zero =>
   simp at h;subst h;simp
  |succ i =>
   have h':xs[i]?=some (k,d):=by simpa using h
   have hne:x.1≠k:=λe=>nd.1 (by rw[e];exact CG (f:=λz:NK×D=>z.1) (Bk h'));rw[FM,decide_eq_false hne];exact ih nd.2 h'
abbrev ED(L:AC)(r:Nat)(w:Int)(a:Nat)(kvs:List (NK×D))(ep:Nat):Prop:=L[r]?=some (.ins ANN [(ANO,.int w),(ANR,.ref a)])/\L[a]?=some (.dt kvs ep)
def RS{Q:ANn}{L:AC}{k:Nat}{w:Int}(hk:L[k]?=some (.ins ANN []))(h:∀L2,ED L2 k w L.length [] 0->L2.length=L.length+1->Av [k] L L2->Q .non L2):W2 (zk [.ref k,.int w] L) Q:=by
 unfold zk;refine Ke rfl ?_;unfold OX;have hkl:=DG hk;rfl';have e1:(L.set k (.ins ANN (EZ ANO (.int w) [])))[k]?=some (.ins ANN [(ANO,.int w)]):=Ch hk;refine XS (AV e1) rfl rfl ?_;rfl'
 have e2:(((L.set k (.ins ANN (EZ ANO (.int w) [])))++[Ob.dt [] 0]).set k (.ins ANN (EZ ANR (.ref (L.set k (.ins ANN (EZ ANO (.int w) []))).length) [(ANO,.int w)])))[k]?=some (.ins ANN [(ANO,.int w),(ANR,.ref L.length)]):=by rw[Ch (AV e1),AL1];rfl
 refine⟨λhp=>?_,h _ ⟨e2,?_⟩ (by simp) ?_⟩
 .have:=CY hp hk;rw[e2] at this;cases this
 .rw[EI (by omega)];have:=AY (L:=L.set k (.ins ANN (EZ ANO (.int w) []))) (a:=Ob.dt [] 0)
  rwa [AL1] at this
 .exact((((Av.refl _ _).set (.inl (by simp))).trans (.app _ _ _)).set (.inl (by simp)))
abbrev Mx(W:D)(g m nd nn rt:Nat):List (Str×D):=[(ANS,W),(ANP,.ref g),(ANT,.ref m),(ANQ,.ref nd),(ANV,.ref nn),(ANW,.ref rt)]
abbrev kfD(d:D):NK:=(dNK d).getD []
def Kt{d:D}(h:(dNK d).isSome=true):dNK d=some (kfD d):=by
 unfold kfD
 cases e:dNK d with
 |none=>rw[e] at h;cases h
 |some k=>rfl
def IM{U β:Type}{f:U->β}:∀{l:List U},(l.map f).Nodup->∀{a b},a∈l->b∈l->f a=f b->a=b
 |[],_,_,_,h,_,_=>nomatch h
 |x::l,h,a,b,ha,hb,e=>by
  rw[Aj,Go] at h;rcases AX.mp ha with ha'|ha'
  .rcases AX.mp hb with hb'|hb'
   .rw[ha',hb']
   .exact absurd (by rw[<-ha',e];exact CG hb') h.1
  .rcases AX.mp hb with hb'|hb'
   .exact absurd (by rw[<-hb',<-e];exact CG ha') h.1
   .exact IM h.2 ha' hb' e
structure KD {κ:Type} (kd:κ->D):Prop where
 key:∀a,dNK (kd a)=some (kfD (kd a))
 inj:∀a b,kd a=kd b->a=b
def KD.kf{κ:Type}{kd:κ->D}(K:KD kd){a b:κ}(h:kfD (kd a)=kfD (kd b)):a=b :=
 K.inj a b ((Hz (K.key a)).trans (by rw[h];exact(Hz (K.key b)).symm))
def KD.nk{κ:Type}{kd:κ->D}(K:KD kd)(a:κ):Dm (kfD (kd a))=kd a:=(Hz (K.key a)).symm
abbrev Ad(xs:ANE):D:=.tup (xs.map D.str)
abbrev EK(xs:ANK):D:=.tup (xs.map D.int)
def NS{U β:Type}{f:U->β}(hf:∀a b,f a=f b->a=b):∀{xs ys:List U},xs.map f=ys.map f->xs=ys
 |[],[],_=>rfl
 |[],_::_,h=>by cases h
 |_::_,[],h=>by cases h
 |x::xs,y::ys,h=>by
  rw[Aj,Aj] at h;have h1:=List.cons.inj h;rw[hf _ _ h1.1,NS hf h1.2]
def Dh:KD Ad:=⟨λa=>Kt (by
  unfold Ad;show(Fs (a.map D.str)).isSome=true
  induction a with
  |nil=>rfl
  |cons x a ih =>
   rw[Aj];show((JZ (.str x)).bind λk=>(Fs (a.map D.str)).map (k::·)).isSome=true
   cases e:Fs (a.map D.str) with
   |none=>rw[e] at ih;cases ih
   |some y=>rfl),λa b h=>NS (λ_ _ e=>D.str.inj e) (D.tup.inj h)⟩
def IR:KD EK:=⟨λa=>Kt (by
  unfold EK;show(Fs (a.map D.int)).isSome=true
  induction a with
  |nil=>rfl
  |cons x a ih =>
   rw[Aj];show((JZ (.int x)).bind λk=>(Fs (a.map D.int)).map (k::·)).isSome=true
   cases e:Fs (a.map D.int) with
   |none=>rw[e] at ih;cases ih
   |some y=>rfl),λa b h=>NS (λ_ _ e=>D.int.inj e) (D.tup.inj h)⟩
abbrev BO{κ:Type}[DecidableEq κ](c:List (κ×List D))(k:κ)(ds:List D):List (κ×List D):=if k∈c.map (·.1) then c.map (λe=>if e.1=k then (e.1,e.2++ds) else e) else c++[(k,ds)]
abbrev Dz{κ:Type}[DecidableEq κ](c:List (κ×List D))(k:κ):Option (List D):=(c.find? λe=>decide (e.1=k)).map (·.2)
abbrev cont{κ:Type}(es:List (κ×Nat×List D)):List (κ×List D):=es.map λe=>(e.1,e.2.2)
abbrev BQ{κ:Type}(es:List (κ×Nat×List D)):ANJ:=es.map (·.2.1)
abbrev CP{κ:Type}(kd:κ->D)(es:List (κ×Nat×List D)):List (NK×D):=es.map λe=>(kfD (kd e.1),D.ref e.2.1)
structure DL {κ:Type} (kd:κ->D) (L:AC) (g:Nat) (es:List (κ×Nat×List D)):Prop where
 at_:∃ep,L[g]?=some (.dt (CP kd es) ep)
 it:∀e∈es,L[e.2.1]?=some (.lst e.2.2)
 nd:(BQ es).Nodup
 kn:(es.map (·.1)).Nodup
section
variable {κ:Type}[DecidableEq κ]{kd:κ->D}{L L':AC}{g:Nat}{es:List (κ×Nat×List D)}
def LO(es:List (κ×Nat×List D)):(cont es).map (·.1)=es.map (·.1):=by unfold cont;rw[CH];rfl
def GZ{e:κ×Nat×List D}(h:e∈es):e.2.1∈BQ es:=CG h
def DL.same(h:DL kd L g es)(hg:L'[g]?=L[g]?)(ha:∀q∈BQ es,L'[q]?=L[q]?):DL kd L' g es :=
 ⟨let ⟨ep,e⟩:=h.at_;⟨ep,hg.trans e⟩,λe he=>(ha _ (GZ he)).trans (h.it e he),h.nd,h.kn⟩
def DL.lt(h:DL kd L g es){q:Nat}(hq:q∈BQ es):q<L.length:=by obtain⟨e,he,rfl⟩:=Aq.mp hq;exact DG (h.it e he)
def DL.glt(h:DL kd L g es):g<L.length:=by obtain⟨ep,e⟩:=h.at_;exact DG e
def DL.keep{S:ANJ}(h:DL kd L g es)(k:Av S L L')(hg:g∉S)(ha:∀q∈BQ es,q∉S):DL kd L' g es:=h.same (k.2 g h.glt hg) λq hq=>k.2 q (h.lt hq) (ha q hq)
def DL.pre(h:DL kd L g es)(p:L <+: L'):DL kd L' g es:=h.keep (S:=[]) (.of_pre p) (by simp) (by simp)
def VX(K:KD kd):∀{es es':List (κ×Nat×List D)},CP kd es=CP kd es'->(∀e∈es,L[e.2.1]?=some (.lst e.2.2))->(∀e∈es',L[e.2.1]?=some (.lst e.2.2))->es=es'
 |[],[],_,_,_=>rfl
 |[],_::_,h,_,_=>by cases h
 |_::_,[],h,_,_=>by cases h
 |(k,q,ds)::es,(k',q',ds')::es',h,h1,h2=>by
  unfold CP at h;rw[Aj,Aj] at h;have h0:=List.cons.inj h;have hk:=K.kf (congrArg Prod.fst h0.1);have hq:q=q':=by have:=congrArg Prod.snd h0.1;exact D.ref.inj this
  have a1:=h1 _ Az;have a2:=h2 _ Az;subst hk hq;rw[a1] at a2;have hd:ds=ds':=Ob.lst.inj (Option.some.inj a2);subst hd;rw[VX K h0.2 (λe he=>h1 e (BA _ he)) λe he=>h2 e (BA _ he)]
def DL.uniq(K:KD kd){es':List (κ×Nat×List D)}(h:DL kd L g es)(h':DL kd L g es'):es=es':=by obtain⟨ep,e⟩:=h.at_;obtain⟨ep',e'⟩:=h'.at_;rw[e] at e';exact VX K (Ob.dt.inj (Option.some.inj e')).1 h.it h'.it
def GU{β:Type}{es:List (κ×β)}{k:κ}(h:k∈es.map (·.1)):∃e,es.find? (λe=>decide (e.1=k))=some e/\e∈es/\e.1=k:=by
 cases hf:es.find? (λe=>decide (e.1=k)) with
 |none =>
  obtain⟨e,he,rfl⟩:=Aq.mp h;have:=AMO.mp hf e he;simp at this
 |some e=>exact⟨e,rfl,AL6 hf,by have:=AMU hf;simpa using this⟩
def AGF{β:Type}{es:List (κ×β)}{k:κ}(h:k∉es.map (·.1)):es.find? (λe=>decide (e.1=k))=none:=by rw[AMO];intro e he hd;exact h (by rw[<-of_decide_eq_true hd];exact CG he)
def NT(K:KD kd)(es:List (κ×Nat×List D))(k:κ):BP (CP kd es) (kfD (kd k))=(es.find? λe=>decide (e.1=k)).map λe=>D.ref e.2.1:=by
 unfold BP CP
 induction es with
 |nil=>rfl
 |cons e es ih =>
  rw[Aj,FM,FM]
  by_cases h:e.1=k
  .subst h;simp
  .rw[decide_eq_false h,decide_eq_false (λz=>h (K.kf z))];exact ih
def AGg(es:List (κ×Nat×List D))(k:κ):(cont es).find? (λe=>decide (e.1=k))=(es.find? λe=>decide (e.1=k)).map λe=>(e.1,e.2.2):=by unfold cont;rw[List.find?_map];rfl
def DL.get(K:KD kd)(h:DL kd L g es){k:κ}{ds:List D}(e:Dz (cont es) k=some ds):∃q,BP (CP kd es) (kfD (kd k))=some (.ref q)/\L[q]?=some (.lst ds):=by
 unfold Dz at e;rw[AGg] at e;rw[NT K]
 cases hf:es.find? (λe=>decide (e.1=k)) with
 |none=>rw[hf] at e;cases e
 |some x =>
  rw[hf] at e;have e2:x.2.2=ds:=Option.some.inj e;exact⟨x.2.1,rfl,by rw[<-e2];exact h.it x (AL6 hf)⟩
def AEu(K:KD kd)(es:List (κ×Nat×List D))(k:κ):(BP (CP kd es) (kfD (kd k))).isSome=decide (k∈(cont es).map (·.1)):=by
 rw[NT K,LO]
 by_cases h:k∈es.map (·.1)
 .obtain⟨e,he,_⟩:=GU h;rw[he,decide_eq_true h];rfl
 .rw[AGF h,decide_eq_false h];rfl
def Yk(c:List (κ×List D)){k:κ}(h:k∈c.map (·.1)):BO c k []=c:=by
 unfold BO;rw[if_pos h]
 conv=>rhs;rw[<-AMT c]
 apply GB;intro e _
 by_cases z:e.1=k
 .rw[if_pos z];simp
 .rw[if_neg z];rfl
def Yl(c:List (κ×List D))(k:κ)(ds:List D):BO (BO c k []) k ds=BO c k ds:=by
 by_cases h:k∈c.map (·.1)
 .rw[Yk c h]
 .have e1:BO c k []=c++[(k,[])]:=by unfold BO;rw[if_neg h]
  have e2:BO c k ds=c++[(k,ds)]:=by unfold BO;rw[if_neg h]
  rw[e1,e2];unfold BO;rw[if_pos (by simp),DM]
  congr 1
  .conv=>rhs;rw[<-AMT c]
   apply GB;intro e he;rw[if_neg (λz=>h (by rw[<-z];exact CG he))];rfl
  .simp
def Sf(c:List (κ×List D))(k:κ)(ds:List D):(BO c k ds).map (·.1)=if k∈c.map (·.1) then c.map (·.1) else c.map (·.1)++[k]:=by
 unfold BO
 by_cases h:k∈c.map (·.1)
 .rw[if_pos h,if_pos h,CH];apply GB;intro e _
  show(if e.1=k then (e.1,e.2++ds) else e).1=e.1
  split <;> rfl
 .rw[if_neg h,if_neg h,DM];rfl
def LW{c:List (κ×List D)}{k:κ}{ds:List D}(h:(c.map (·.1)).Nodup):((BO c k ds).map (·.1)).Nodup:=by
 rw[Sf]
 by_cases z:k∈c.map (·.1)
 .rw[if_pos z];exact h
 .rw[if_neg z,Gp]
  exact⟨h,by simp,λa ha b hb e=>z (by have:b=k:=by simpa using hb
                                      rw[<-this,<-e];exact ha)⟩
def Ig{c:List (κ×List D)}{k k':κ}{ds ps:List D}(h:(k',ps)∈BO c k ds):(k',ps)∈c\/k'=k/\((ps=ds)\/∃qs,(k,qs)∈c/\ps=qs++ds):=by
 unfold BO at h
 by_cases z:k∈c.map (·.1)
 .rw[if_pos z] at h;obtain⟨e,he,h⟩:=Aq.mp h
  by_cases y:e.1=k
  .rw[if_pos y] at h;have h1:=congrArg Prod.fst h;have h2:=congrArg Prod.snd h;simp only at h1 h2;refine .inr ⟨by rw[<-h1,y],.inr ⟨e.2,?_,h2.symm⟩⟩;rw[<-y];exact he
  .rw[if_neg y] at h;rw[<-h];exact .inl he
 .rw[if_neg z] at h;rcases Bi.mp h with h|h
  .exact .inl h
  .have h':(k',ps)=(k,ds):=by simpa using h
   cases h';exact .inr ⟨rfl,.inl rfl⟩
abbrev Ds(c:List (κ×List D))(n b:Nat):Prop:=c.length<=n/\∀e∈c,e.2.length<=b
def Ds.add{c:List (κ×List D)}{n b m:Nat}{k:κ}{ds:List D}(h:Ds c n b)(hd:ds.length<=m):Ds (BO c k ds) (n+1) (b+m):=by
 refine⟨?_,λ⟨k',ps⟩ he=>?_⟩
 .have:=congrArg List.length (Sf c k ds);rw[Aa] at this;rw[this];have h1:=h.1;split
  .rw[Aa];omega
  .rw[By,Aa];simp;omega
 .rcases Ig he with h'|⟨_,h'|⟨qs,h',h2⟩⟩
  .have:=h.2 _ h';simp only at this ⊢;omega
  .simp only;rw[h'];omega
  .have:=h.2 _ h';simp only at this ⊢;rw[h2,By];omega
def Ds.mono{c:List (κ×List D)}{n b n' b':Nat}(h:Ds c n b)(h1:n<=n')(h2:b<=b'):Ds c n' b':=⟨CV h.1 h1,λe he=>CV (h.2 e he) h2⟩
def Jb(es:List (κ×Nat×List D)):(cont es).length=es.length:=by unfold cont;rw[Aa]
def Xz{Q:ANn}(K:KD kd){k:κ}{q:Nat}(h:DL kd L g es)(hz:es.length<16777216)(hq:L[q]?=some (.lst []))(hqn:q∉BQ es)
  (p:∀L2 q2 es2 old,DL kd L2 g es2->(k,q2,old)∈es2->cont es2=BO (cont es) k []->(∀x∈BQ es2,x∈BQ es\/x=q)->Av [g] L L2->L2.length=L.length->Q (.ref q2) L2):W2 (HX (.ref g) [kd k,.ref q] L) Q:=by
 obtain⟨ep,ha⟩:=h.at_
 by_cases hk:k∈es.map (·.1)
 .obtain⟨e,hf,he,hek⟩:=GU hk;refine AFg ha (K.key _) (d:=.ref e.2.1) (by rw[NT K,hf];rfl) ?_;refine p L e.2.1 es e.2.2 h (by rw[<-hek];exact he) ?_ (λx hx=>.inl hx) (.refl _ _) rfl;rw[Yk _ (by rw[LO];exact hk)]
 .have hnk:kfD (kd k)∉(CP kd es).map (·.1):=λz=>by
   unfold CP at z;rw[CH] at z;obtain⟨e,he,h2⟩:=Aq.mp z;exact hk (by rw[<-K.kf h2];exact CG he)
  refine AFh ha (K.key _) (AEs hnk) (by unfold CP;rw[Aa];exact hz) ?_;have hput:=λd ep=>NE (d:=d) (ep:=ep) hnk;rw[(hput _ 0).1,(hput .non _).2];have hgq:g≠q:=λz=>by rw[z,hq] at ha;cases ha
  have er:CP kd es++[(kfD (kd k),D.ref q)]=CP kd (es++[(k,q,[])]):=by unfold CP;rw[DM];rfl
  rw[er];refine p _ q (es++[(k,q,[])]) [] ⟨⟨_,Ch ha⟩,λe he=>?_,?_,?_⟩ (by simp) ?_ (λx hx=>?_) ((Av.refl _ _).set (.inl (by simp))) (by simp)
  .rcases Bi.mp he with he|he
   .exact Nd ha (h.it e he) (by simp)
   .have:e=(k,q,[]):=by simpa using he
    subst this;exact Fl hgq hq
  .unfold BQ;rw[DM,Gp]
   exact⟨h.nd,by simp,λa ha b hb z=>hqn (by have:b=q:=by simpa using hb
                                            rw[<-this,<-z];exact ha)⟩
  .rw[DM,Gp]
   exact⟨h.kn,by simp,λa ha b hb z=>hk (by have:b=k:=by simpa using hb
                                           rw[<-this,<-z];exact ha)⟩
  .unfold BO;rw[LO,if_neg hk];unfold cont;rw[DM];rfl
  .unfold BQ at hx;rw[DM] at hx;rcases Bi.mp hx with hx|hx
   .exact .inl hx
   .exact .inr (by simpa using hx)
def DL.grow{k:κ}{q:Nat}{old ds:List D}(h:DL kd L g es)(hm:(k,q,old)∈es):∃es2,DL kd (L.set q (.lst (old++ds))) g es2/\cont es2=BO (cont es) k ds/\BQ es2=BQ es:=by
 obtain⟨ep,ha⟩:=h.at_;have hgq:q≠g:=λz=>by have:=h.it _ hm;simp only at this;rw[z,ha] at this;cases this
 have hraw:CP kd (es.map λe=>if e.1=k then (e.1,e.2.1,e.2.2++ds) else e)=CP kd es:=by
  unfold CP;rw[CH];apply GB;intro e _
  show(kfD (kd (if e.1=k then (e.1,e.2.1,e.2.2++ds) else e).1),D.ref (if e.1=k then (e.1,e.2.1,e.2.2++ds) else e).2.1)=_
  split <;> rfl
 have hadr:BQ (es.map λe=>if e.1=k then (e.1,e.2.1,e.2.2++ds) else e)=BQ es:=by
  unfold BQ;rw[CH];apply GB;intro e _
  show(if e.1=k then (e.1,e.2.1,e.2.2++ds) else e).2.1=_
  split <;> rfl
 refine⟨es.map λe=>if e.1=k then (e.1,e.2.1,e.2.2++ds) else e,⟨⟨ep,by rw[hraw];exact Fl hgq ha⟩,λe he=>?_,by rw[hadr];exact h.nd,?_⟩,?_,hadr⟩
 .obtain⟨e0,he0,rfl⟩:=Aq.mp he
  by_cases z:e0.1=k
  .rw[if_pos z];have:e0=(k,q,old):=IM (f:=λe=>e.1) h.kn he0 hm z;subst this;exact Ch (h.it _ hm)
  .rw[if_neg z];refine Fl (λy=>z ?_) (h.it e0 he0);have:(k,q,old)=e0:=IM (l:=es) (f:=λe:κ×Nat×List D=>e.2.1) (show(es.map λe=>e.2.1).Nodup from h.nd) hm he0 y;rw[<-this]
 .rw[CH]
  have:((λe:κ×Nat×List D=>e.1)∘λe=>if e.1=k then (e.1,e.2.1,e.2.2++ds) else e)=λe=>e.1:=by
   funext e
   show(if e.1=k then (e.1,e.2.1,e.2.2++ds) else e).1=e.1
   split <;> rfl
  rw[this];exact h.kn
 .unfold BO;rw[if_pos (by rw[LO];exact CG (f:=λe:κ×Nat×List D=>e.1) hm)];unfold cont;rw[CH,CH];apply GB;intro e _
  show((if e.1=k then (e.1,e.2.1,e.2.2++ds) else e).1,(if e.1=k then (e.1,e.2.1,e.2.2++ds) else e).2.2)=if e.1=k then (e.1,e.2.2++ds) else (e.1,e.2.2)
  split <;> rfl
end
def Ks{U β:Type}(f:U->β)(xs:List U)(i:Nat)(a:U)(b:β)(h:i<xs.length):(xs.map f)[i]?.getD b=f (xs.getD i a):=by simp[h]
def Px{xs ys:ANE}{i:Nat}{x:D}(hl:ys.length=xs.length)(h:(EJ (xs.map D.str).length [xs.map D.str,ys.map D.str])[i]?=some x):i<xs.length/\x=.tup [.str (xs.getD i ""),.str (ys.getD i "")]:=by
 unfold EJ at h;rw[Ar,Aa] at h
 by_cases hi:i<xs.length
 .rw[AL3 hi] at h;refine⟨hi,?_⟩;have h':=Option.some.inj h;rw[<-h'];simp only[Aj,AMB];rw[Ks D.str xs i "" .non hi,Ks D.str ys i "" .non (by omega)]
 .rw[ALn (by simp;omega)] at h;cases h
def MQ(n:Nat)(yss:List (List D)):(EJ n yss).length=n:=by unfold EJ;simp
abbrev Hr(as w:ANE):Bool:=(List.range as.length).all λi=>Fj (as.getD i "") (w.getD i "")
def AAP{Q:ANn}{L:AC}{as w:ANE}(hl:w.length=as.length)(hz:as.length<=1000)(h:Q (.bl (Hr as w)) L):W2 (Kd [Ad as,Ad w] L) Q:=by
 unfold Kd;refine BZ rfl ?_;unfold QK Ad;rfl';refine⟨as.map D.str,[w.map D.str],rfl,⟨by simp[hl],by simp,rfl⟩,?_⟩
 refine Hh (λZ=>∃e1 e2,Z=[e1,e2]) (λx=>match x with|.tup [.str a,.str b]=>.bl (Fj a b)|_=>.non) (λacc=>decide_eq_true rfl) ⟨none,none,rfl⟩ (by rw[MQ,Aa];omega) ?_ ?_
 .rintro x hx Z ⟨e1,e2,rfl⟩;obtain⟨i,hi,hx⟩:=AML hx;obtain⟨hi2,rfl⟩:=Px hl (x:=x) (i:=i) (by rw[List.getElem?_eq_getElem hi,hx]);rfl';refine⟨⟨_,_,rfl⟩,λacc=>?_⟩;rfl';exact⟨rfl,rfl⟩
 .rfl'
  have e0:(EJ (as.map D.str).length [as.map D.str,w.map D.str]).map (λx=>match x with|.tup [.str a,.str b]=>D.bl (Fj a b)|_=>.non)=((List.range as.length).map λi=>Fj (as.getD i "") (w.getD i "")).map D.bl:=by
   apply AMH;intro i;rw[Ar,Ar,Ar]
   cases hx:(EJ (as.map D.str).length [as.map D.str,w.map D.str])[i]? with
   |none =>
    have:as.length<=i:=by have:=AMv.mp hx;rw[MQ,Aa] at this;exact this
    rw[ALn (by simp;exact this)];rfl
   |some x =>
    obtain⟨hi2,rfl⟩:=Px hl hx;rw[AL3 hi2];rfl
  rw[e0]
  have e2:∀l:List Bool,blsD (l.map D.bl)=some l:=λl=>by
   induction l with
   |nil=>rfl
   |cons x l ih=>rw[Aj];simp[blsD,ih]
  refine XW AY (e2 _) ?_;refine⟨rfl,Ai _ _,?_⟩;rw[List.all_map];exact h
abbrev BX(w:ANE)(c:List (ANE×List D))(a:ANE×List D):List (ANE×List D):=if Hr a.1 w=true then BO c a.1 a.2 else c
def Ym{Q:ANn}{L:AC}{g p:Nat}{es:List (ANE×Nat×List D)}{as w:ANE}{ds:List D}(hg:DL Ad L g es)(hp:L[p]?=some (.lst ds))(hpn:p∉BQ es)(hl:w.length=as.length)(hn:as.length<=1000)
  (hz:es.length<16777216) (hb:∀e∈cont es,e.2.length+ds.length<=16777216) (hd:ds.length<=16777216)
  (h:∀L2 es2,DL Ad L2 g es2->cont es2=BX w (cont es) (as,ds)->(∀x∈BQ es2,x∈BQ es\/L.length<=x)->Av (g::BQ es) L L2->Q .non L2):W2 (Iq [.ref g,Ad w,Ad as,.ref p] L) Q:=by
 unfold Iq;refine Ke rfl ?_;unfold QF;obtain⟨ep0,hg0⟩:=hg.at_;rfl';refine AAP hl hn ?_
 by_cases hw:Hr as w=true
 .rw[hw];rfl';refine Xz (q:=L.length) Dh (hg.pre (Ai _ _)) hz AY (λz=>ALd _ (hg.lt z)) λL2 q2 es2 old h2 hm hc ha hk hlen=>?_;have hpl:=DG hp
  have hp2:L2[p]?=some (.lst ds):=hk.get (λz=>by
   have:p=g:=by simpa using z
   obtain⟨ep,e⟩:=hg.at_
   rw[<-this,hp] at e;cases e) (AV hp)
  refine Ua (h2.it _ hm) ?_;rfl';refine SE (h2.it _ hm) hp2 ?_ ?_
  .have:(as,old)∈cont es2:=CG (f:=λe:ANE×Nat×List D=>(e.1,e.2.2)) hm;rw[hc] at this;rcases Ig this with h'|⟨_,h'|⟨qs,h',h3⟩⟩
   .exact hb _ h'
   .rw[h'];simpa using hd
   .rw[h3];simpa using hb _ h'
  .rfl';obtain⟨es3,h3,hc3,ha3⟩:=h2.grow (ds:=ds) hm
   have hcc:cont es3=BX w (cont es) (as,ds):=by rw[hc3,hc,Yl];unfold BX;rw[if_pos hw]
   refine⟨λhpre=>?_,h _ es3 h3 hcc (λx hx=>?_) ?_⟩
   .have e:=DL.uniq Dh (hg.pre hpre) h3;refine h L es hg ?_ (λx hx=>.inl hx) (.refl _ _);rw[<-hcc,<-e]
   .rw[ha3] at hx;rcases ha x hx with z|z
    .exact .inl z
    .exact .inr (ALe z.symm)
   .have k1:Av (g::BQ es) L L2:=(Av.app _ _ _).step hk λj hj=>.inl (by simp at hj;simp[hj]);refine k1.set ?_;rcases ha q2 (GZ hm) with z|z
    .exact .inl (BA _ z)
    .exact .inr (ALe z.symm)
 .rw[Bool.not_eq_true] at hw;rw[hw];rfl';have hcc:cont es=BX w (cont es) (as,ds):=by unfold BX;rw[if_neg (by simp[hw])]
  exact⟨λ_=>h L es hg hcc (λx hx=>.inl hx) (.refl _ _),h L es hg hcc (λx hx=>.inl hx) (.refl _ _)⟩
def ABV{Q:ANn}{L:AC}{p:D}{y:Str}(hy:y.length<=1000)(hs:Ay y)(hp:Dr p)(h:Q (DF p y) L):W2 (zm [p,.str y] L) Q:=by
 obtain⟨kind,nth,edge,rfl,hn,he,_⟩:=hp;obtain⟨d,h1,h2⟩:=NA (λi=>Dx kind (sg y i)) y.cps.size hn (decide (edge = "behind"));simp only[Kk,h1,AMn] at h;refine VI hy ?_ h;rw[WC hs];have e:(!decide (edge = "ahead"))=decide (edge = "behind"):=by rcases he with rfl|rfl <;> decide
 rw[e];exact h1
abbrev OK(ts:ANE):Prop:=(∀y∈ts,Ay y/\y.length<=100)/\ts.length<=100
abbrev EL(ts:ANE)(p:D):Option (ANK):=DP (ts.map λy=>DF p y)
def Ku:∀{xs:List D} {ys:ANK},DP xs=some ys->xs=ys.map D.int
 |[],ys,h=>by cases h;rfl
 |x::xs,ys,h=>by
  cases x with
  |int s =>
   simp only[DP] at h
   cases e:DP xs with
   |none=>rw[e] at h;cases h
   |some a=>rw[e] at h;cases h;simp[<-Ku e]
  |_=>simp[DP] at h
def XB:∀{xs:List D},(∀d∈xs,d=.non\/∃t,d=.int t)->Cw .non xs=(DP xs).isNone
 |[],_=>rfl
 |x::xs,h=>by
  have ih:=XB λd hd=>h d (BA _ hd);rcases h x Az with rfl|⟨t,rfl⟩
  .rfl
  .have:Cw .non (.int t::xs)=Cw .non xs:=rfl;rw[this,ih];simp only[DP];cases DP xs <;> rfl
abbrev Bv(ts:ANE)(c:List (ANK×List D))(p:D):List (ANK×List D):=match EL ts p with|some ks=>BO c ks [p]|none=>c
abbrev Bl(ts:ANE):List (ANK×List D):=Cq.foldl (Bv ts) []
def RN{ts:ANE}:∀(ps:List D) {c:List (ANK×List D)} {n b:Nat},Ds c n b->Ds (ps.foldl (Bv ts) c) (n+ps.length) (b+ps.length)
 |[],c,n,b,h=>h
 |p::ps,c,n,b,h=>by
  have h1:Ds (Bv ts c p) (n+1) (b+1):=by
   unfold Bv;split
   .exact h.add (by simp)
   .exact h.mono (by omega) (by omega)
  exact(RN ps h1).mono (by simp;omega) (by simp;omega)
def LR{κ:Type}[DecidableEq κ]:Ds ([]:List (κ×List D)) 0 0:=⟨Af _,(λ_ h=>(nomatch h))⟩
def SI{U β:Type}{f:β->U->β}{xs:List U}{i:Nat}{x:U}{b:β}(h:xs[i]?=some x):(xs.take (0+i+1)).foldl f b=f ((xs.take (0+i)).foldl f b) x:=by rw[Hi h,List.foldl_append];rfl
def AGx{Q:ANn}{L:AC}{tx:Nat}{ts:ANE}(ht:L[tx]?=some (.lst (ts.map D.str)))(ok:OK ts)
  (h:∀L2 es,L <+: L2->DL EK L2 L.length es->cont es=Bl ts->(∀x∈BQ es,L.length<x)->Q (.ref L.length) L2):W2 (Jn [.ref tx] L) Q:=by
 unfold Jn;refine FN rfl ?_;unfold QP;rfl';refine AHK λL1 h1 hp1=>?_;rfl';have hlen1:=DG h1;have ed1:L1[L.length]?=some (.dt [] 0):=CY hp1 AY;have e0:(L++[Ob.dt [] 0]).length=L.length+1:=by simp
 have htl:=DG ht;refine Cn (λj Cz=>∀L':AC,Av [L.length] L1 L'->∀e1 e2,∀es,DL EK L' L.length es->cont es=(Cq.take j).foldl (Bv ts) []->(∀x∈BQ es,L1.length<=x)->Cz [some (.ref tx),some (.ref L.length),e1,e2] L') _ 0 _ _ (λCz kz1=>kz1 _ (.refl _ _) none none [] ⟨⟨0,ed1⟩,(λ_ h=>(nomatch h)),Gm,Gm⟩ rfl (λ_ h=>(nomatch h))) ?_ ?_
 .rintro i x hx Cz Cy fz1 kz1 L' hk e1 e2 es hd hc ha;refine fz1 _ _ (decide_eq_true (hk.get (by simp) h1)) ?_;have ht1:L'[tx]?=some (.lst (ts.map D.str)):=hk.get (by simp;omega) (CY hp1 (AV ht));have hpl:=RI x (Bk hx);have hi:i<40:=by have:=(Ax.mp hx).1;rw[RH] at this;exact this
  have hb:Ds (cont es) 40 40:=by
   rw[hc];have:=RN (ts:=ts) (Cq.take (0+i)) LR;have hl:(Cq.take (0+i)).length<=40:=by rw[EW,RH];omega
   exact this.mono (by omega) (by omega)
  rfl'
  refine Hh (λZ=>∃e,Z=[e,some x]) (λy=>match y with|.str s=>DF x s|_=>.non) (λacc=>decide_eq_true (AV ht1)) ⟨_,rfl⟩ (by rw[Aa];have:=ok.2;omega) ?_ ?_
  .rintro y hy Z ⟨e,rfl⟩;obtain⟨s,hs,rfl⟩:=Aq.mp hy;rfl';refine⟨⟨_,rfl⟩,λacc=>?_⟩;rfl';refine ABV (by have:=(ok.1 s hs).2;omega) (ok.1 s hs).1 hpl ?_;exact⟨rfl,rfl⟩
  .have em:(ts.map D.str).map (λy=>match y with|.str s=>DF x s|_=>.non)=ts.map λy=>DF x y:=by rw[CH];rfl
   rw[em]
   have hk2:∀d∈ts.map (λy=>DF x y),d=.non\/∃t,d=.int t:=λd hd=>by
    obtain⟨y,_,rfl⟩:=Aq.mp hd;rcases HN hpl y with e|⟨t,e,_⟩
    .exact .inl e
    .exact .inr ⟨t,e⟩
   rfl'
   refine Nh (by
    rw[Bz,Bu];refine⟨rfl,λd hd=>?_⟩
    rcases hk2 d hd with rfl|⟨t,rfl⟩ <;> rfl) ?_
   rw[XB hk2];have hf:=SI (f:=Bv ts) (b:=[]) hx
   cases e3:DP (ts.map λy=>DF x y) with
   |none =>
    have e4:Bv ts ((Cq.take (0+i)).foldl (Bv ts) []) x=(Cq.take (0+i)).foldl (Bv ts) []:=by unfold Bv EL;rw[e3]
    rw[show(none:Option (ANK)).isNone=true from rfl];rfl';exact kz1 _ (hk.trans (.app _ _ _)) _ _ es (hd.pre (Ai _ _)) (by rw[hf,e4];exact hc) ha
   |some ks =>
    have e4:Bv ts ((Cq.take (0+i)).foldl (Bv ts) []) x=BO ((Cq.take (0+i)).foldl (Bv ts) []) ks [x]:=by unfold Bv EL;rw[e3]
    rw[show(some ks).isNone=false from rfl,Ku e3];obtain⟨epd,hd0⟩:=hd.at_;rfl';have hkl:=hk.1;refine Xz (k:=ks) (q:=(L'++[Ob.lst (ks.map D.int)]).length) IR ((hd.pre (Ai _ [Ob.lst (ks.map D.int)])).pre (Ai _ _)) (by have:=hb.1;rw[Jb] at this;omega) AY (λz=>by have:=hd.lt z;simp at this;omega) λL2 q2 es2 old h2 hm hcc haa hkk hlen=>?_;refine Ua (h2.it _ hm) ?_;rfl';refine GR (h2.it _ hm) ?_ ?_
    .have:(ks,old)∈cont es2:=CG (f:=λe:ANK×Nat×List D=>(e.1,e.2.2)) hm;rw[hcc] at this;have h9:old.length<=40+0:=(hb.add (m:=0) (ds:=[]) (k:=ks) (Af _)).2 _ this;show old.length<16777216;omega
    .rfl';obtain⟨es3,h3,hc3,ha3⟩:=h2.grow (ds:=[x]) hm;have kk:Av [L.length] L1 L2:=((hk.trans (.app _ _ _)).trans (.app _ _ _)).trans hkk
     have hq2:L1.length<=q2:=by
      rcases haa q2 (GZ hm) with z|z
      .exact ha q2 z
      .rw[z];simp;omega
     refine kz1 _ (kk.set (.inr hq2)) _ _ es3 h3 ?_ (λy hy=>?_)
     .rw[hc3,hcc,Yl,hf,e4,hc]
     .rw[ha3] at hy;rcases haa y hy with z|z
      .exact ha y z
      .rw[z];simp;omega
 .rintro Cy fz1 L' hk e1 e2 es hd hc ha;refine fz1 _ _ (decide_eq_true (hk.get (by simp) h1)) ?_;rfl';refine⟨rfl,h _ es ?_ hd ?_ λx hx=>?_⟩
  .have:Av [L.length] (L++[Ob.dt [] 0]) L':=(Av.of_pre hp1).trans hk;exact Av.pre (((Av.app _ _ _).trans this).mono λj hj=>.inr (by simp at hj;omega))
  .rw[hc,BR,Ei];rfl
  .have:=ha x hx;omega
abbrev Es(ts:ANE)(ss ee:ANK):Bool:=(List.range ts.length).all λi=>decide (ss.getD i 0<ee.getD i 0)
abbrev EO(ts:ANE)(ss ee:ANK)(n:Nat):ANE:=(List.range n).map λi=>Txt.slice (ts.getD i "") (some (ss.getD i 0)) (some (ee.getD i 0))
def Zq{ts:ANE}{ss ee:ANK}{i:Nat}{x:D}(h1:ss.length=ts.length)(h2:ee.length=ts.length)(h:(EJ (ts.map D.str).length [ts.map D.str,ss.map D.int,ee.map D.int])[i]?=some x):i<ts.length/\x=.tup [.str (ts.getD i ""),.int (ss.getD i 0),.int (ee.getD i 0)]:=by
 unfold EJ at h;rw[Ar,Aa] at h
 by_cases hi:i<ts.length
 .rw[AL3 hi] at h;refine⟨hi,?_⟩;have h':=Option.some.inj h;rw[<-h'];simp only[Aj,AMB];rw[Ks D.str ts i "" .non hi,Ks D.int ss i 0 .non (by omega),Ks D.int ee i 0 .non (by omega)]
 .rw[ALn (by simp;omega)] at h;cases h
def ABN{Q:ANn}{L:AC}{tx:Nat}{ts:ANE}{ss ee:ANK}(ht:L[tx]?=some (.lst (ts.map D.str)))(hz:ts.length<=1000)(h1:ss.length=ts.length)(h2:ee.length=ts.length)
  (hn:Es ts ss ee=false->Q .non L) (hy:Es ts ss ee=true->Q (.ref L.length) (L++[.lst ((EO ts ss ee ts.length).map D.str)])):W2 (Kc [.ref tx,EK ss,EK ee] L) Q:=by
 unfold Kc;refine AAW rfl ?_;unfold QB EK;rfl';have e0:∀M:AC,M[tx]?=some (.lst (ts.map D.str))->seqs [.ref tx,.tup (ss.map D.int),.tup (ee.map D.int)] M=some [ts.map D.str,ss.map D.int,ee.map D.int]:=λM hM=>by simp[seqs,Cg,hM]
 refine⟨ts.map D.str,[ss.map D.int,ee.map D.int],e0 _ (AV ht),⟨by simp[h1,h2],by simp,rfl⟩,?_⟩;refine Cn (λj Cz=>∀L':AC,L'=L++[Ob.lst ((EO ts ss ee j).map D.str)]->(∀i,i<j->i<ts.length->ss.getD i 0<ee.getD i 0)->∀e1 e2 e3,Cz [some (.ref tx),some (.tup (ss.map D.int)),some (.tup (ee.map D.int)),some (.ref L.length),e1,e2,e3] L') _ 0 _ _ (λCz kz1=>kz1 _ rfl (λi hi=>(by omega)) none none none) ?_ ?_
 .rintro i x hx Cz Cy fz1 kz1 L' rfl hlt e1 e2 e3;refine fz1 _ _ (decide_eq_true (e0 _ (AV ht))) ?_;obtain⟨hi,rfl⟩:=Zq h1 h2 hx;rfl';refine BN (λhge=>?_) (λhge=>?_)
  .rfl';refine⟨Ai _ _,λ_=>hn ?_,λz=>by cases z⟩;rw[AMY];intro hall;unfold Es at hall;have:=Bu.mp hall i (CM.mpr hi);have:=of_decide_eq_true this;omega
  .rfl';refine GR AY (by unfold EO;simp;omega) ?_;rfl';refine kz1 _ ?_ (λk hk hkt=>?_) _ _ _
   .have:EO ts ss ee (0+i+1)=EO ts ss ee (0+i)++[Txt.slice (ts.getD i "") (some (ss.getD i 0)) (some (ee.getD i 0))]:=by
     unfold EO;rw[AMF,DM,BR];rfl
    rw[this,DM];simp
   .by_cases z:k=i
    .subst z;omega
    .exact hlt k (by omega) hkt
 .rintro Cy fz1 L' rfl hlt e1 e2 e3;refine fz1 _ _ (decide_eq_true (e0 _ (AV ht))) ?_;rw[MQ,Aa,BR] at *;rfl';refine⟨Ai _ _,(λz=>by cases z),λ_=>hy ?_⟩;unfold Es;rw[Bu];exact λi hi=>decide_eq_true (hlt i (CM.mp hi) (CM.mp hi))
def AGU{Q:ANn}{L:AC}{d y:Str}(hd:d∈DV)(hs:Ay y)(hl:y.length<=1000)(h:Q (.str (Do d y)) L):W2 (Ka [.str d,.str y] L) Q:=by
 unfold Ka;refine BZ rfl ?_;unfold Ps;unfold Do at h;simp only[DV,AX,Db,or_false] at hd;rcases hd with rfl|rfl|rfl
 .rw[if_neg (by decide),if_neg (by decide)] at h;rfl';exact⟨rfl,AW _,h⟩
 .rw[if_pos rfl] at h;rfl';refine Nf (by rw[Qr hs];omega) ?_;exact⟨rfl,AW _,h⟩
 .rw[if_neg (by decide),if_pos rfl] at h;rfl';refine Nf (by rw[Rb hs];omega) ?_;exact⟨rfl,AW _,h⟩
abbrev CU(ws ts:ANE):List (ANE×List D):=ws.map λw=>(ts.map (λ_=>w),[Gr w])
abbrev Fq(ts:ANE)(s e:ANK×List D)(d:Str):ANE×List D:=((EO ts s.1 e.1 ts.length).map (Do d),EQ d s.2 e.2)
abbrev CQ(ts:ANE)(s e:ANK×List D):List (ANE×List D):=if Es ts s.1 e.1=true then DV.map (Fq ts s e) else []
abbrev Ed(ts:ANE)(P:List (ANK×List D)):List (ANE×List D):=P.flatMap λs=>P.flatMap λe=>CQ ts s e
abbrev CZ(ws ts w:ANE):List (ANE×List D):=(CU ws ts++Ed ts (Bl ts)).foldl (BX w) []
def Nb{w:ANE}:∀(A:List (ANE×List D)) {c:List (ANE×List D)} {n b:Nat},Ds c n b->(∀a∈A,a.2.length<=1600)->Ds (A.foldl (BX w) c) (n+A.length) (b+1600*A.length)
 |[],c,n,b,h,_=>h
 |a::A,c,n,b,h,hA=>by
  have h1:Ds (BX w c a) (n+1) (b+1600):=by
   unfold BX;split
   .exact h.add (hA a Az)
   .exact h.mono (by omega) (by omega)
  exact(Nb A h1 λx hx=>hA x (BA _ hx)).mono (by simp;omega) (by simp;omega)
def NJ(ts:ANE):Ds (Bl ts) 40 40:=by have:=RN (ts:=ts) Cq LR;rw[RH] at this;exact this.mono (by omega) (by omega)
def Vn{ts:ANE}:∀(ps:List D) {c:List (ANK×List D)},(∀e∈c,e.1.length=ts.length)->∀e∈ps.foldl (Bv ts) c,e.1.length=ts.length
 |[],c,h=>h
 |p::ps,c,h=>by
  refine Vn ps ?_;unfold Bv
  cases e3:EL ts p with
  |none=>exact h
  |some ks =>
   rintro⟨k,qs⟩ he;rcases Ig he with h'|⟨rfl,_⟩
   .exact h _ h'
   .have:=congrArg List.length (Ku e3);simpa using this.symm
def NI{ts:ANE}{e:ANK×List D}(h:e∈Bl ts):e.1.length=ts.length:=Vn Cq (by simp) e h
def Vv{ts:ANE}(s e:ANK×List D):(CQ ts s e).length<=3:=by
 unfold CQ;split
 .simp[DV]
 .simp
def Nu{U β:Type}{f:U->List β}{m:Nat}:∀(l:List U),(∀x∈l,(f x).length<=m)->(l.flatMap f).length<=l.length*m
 |[],_=>by simp
 |x::l,h=>by
  rw[Du,By,Dd,ALg];have h1:=h x Az;have h2:=Nu l λy hy=>h y (BA _ hy);omega
def Vu{ts:ANE}{P:List (ANK×List D)}(hP:Ds P 40 40){s e:ANK×List D}(hs:s∈P)(he:e∈P):∀a∈CQ ts s e,a.2.length<=1600:=by
 intro a ha;unfold CQ at ha;split at ha
 .obtain⟨d,_,rfl⟩:=Aq.mp ha;show(EQ d s.2 e.2).length<=1600;rw[Ib];exact ALu (hP.2 s hs) (hP.2 e he)
 .cases ha
def Rh{κ:Type}{kd:κ->D}(K:KD kd)(es:List (κ×Nat×List D)):Fi (CP kd es)=es.map λe=>kd e.1:=by unfold Fi CP;rw[CH];apply GB;intro e _;exact K.nk e.1
def DL.look_mem{κ:Type}[DecidableEq κ]{kd:κ->D}(K:KD kd){L:AC}{g:Nat}{es:List (κ×Nat×List D)}(h:DL kd L g es){e:κ×Nat×List D}(he:e∈es):BP (CP kd es) (kfD (kd e.1))=some (.ref e.2.1):=by rw[NT K];obtain⟨e',hf,he',hk⟩:=GU (CG (f:=λe:κ×Nat×List D=>e.1) he);rw[hf];have:e'=e:=IM (f:=λe=>e.1) h.kn he' he hk;rw[this];rfl
def AGc{ts:ANE}(ok:OK ts)(ss ee:ANK){n:Nat}{y:Str}(h:y∈EO ts ss ee n):Ay y/\y.length<=100:=by
 unfold EO at h;obtain⟨i,_,rfl⟩:=Aq.mp h
 by_cases hi:i<ts.length
 .have hm:ts.getD i ""∈ts:=by simp[hi]
  exact⟨(ok.1 _ hm).1.slice _ _,CV (Txt.slice_le _ _ _) (ok.1 _ hm).2⟩
 .have e:ts.getD i "" = "":=by simp[Nat.le_of_not_lt hi]
  rw[e];have h0:Ay "":=λc hc=>by cases hc
  exact⟨h0.slice _ _,CV (Txt.slice_le _ _ _) (by decide)⟩
def SO(ts:ANE)(ss ee:ANK)(n:Nat):(EO ts ss ee n).length=n:=by unfold EO;simp
def AFc{Q:ANn}{L:AC}{w tx:Nat}{ws ts wd:ANE}(hw:L[w]?=some (.lst (ws.map D.str)))(hl:ws.length<=6)(ht:L[tx]?=some (.lst (ts.map D.str)))(ok:OK ts)(hwd:wd.length=ts.length)
  (h:∀L2 es,L <+: L2->DL Ad L2 L.length es->cont es=CZ ws ts wd->(∀x∈BQ es,L.length<x)->Q (.ref L.length) L2):W2 (KZ [.ref w,.ref tx,Ad wd] L) Q:=by
 unfold KZ;refine FN rfl ?_;unfold Po;simp only[KP];have hwl:=DG hw;have htl:=DG ht;have htn:=ok.2;refine Mr (Mq (AAY ?_));generalize hL1:L++[Ob.dt [] 0]=L1;have hL1l:L1.length=L.length+1:=by rw[<-hL1];simp
 have hg1:L1[L.length]?=some (.dt [] 0):=by rw[<-hL1];exact AY
 have hw1:L1[w]?=some (.lst (ws.map D.str)):=by rw[<-hL1];exact AV hw
 have ht1:L1[tx]?=some (.lst (ts.map D.str)):=by rw[<-hL1];exact AV ht
 have hAw:∀a∈CU ws ts,a.2.length<=1600:=λa ha=>by
  obtain⟨x,_,rfl⟩:=Aq.mp ha;simp
 have hAl:(CU ws ts).length<=6:=by unfold CU;rw[Aa];exact hl
 refine Bf (λCz=>∀L':AC,∀es,DL Ad L' L.length es->cont es=(CU ws ts).foldl (BX wd) []->(∀x∈BQ es,L1.length<=x)->Av [L.length] L1 L'->∀e,Cz [some (.ref w),some (.ref tx),some (Ad wd),some (.ref L.length),e,none,none,none,none,none,none] L') (λCz kz1=>?_) ?_
 .rfl';refine Cn (λj Cz=>∀L':AC,∀es,DL Ad L' L.length es->cont es=((CU ws ts).take j).foldl (BX wd) []->(∀x∈BQ es,L1.length<=x)->Av [L.length] L1 L'->∀e,Cz [some (.ref w),some (.ref tx),some (Ad wd),some (.ref L.length),e,none,none,none,none,none,none] L') _ 0 _ _ (λCz kz2=>kz2 _ [] ⟨⟨0,hg1⟩,(λ_ h=>(nomatch h)),Gm,Gm⟩ rfl (λ_ h=>(nomatch h)) (.refl _ _) none) ?_ ?_
  .rintro i x hx Cz Cy fz2 kz2 L' es hd hc ha hk e;refine fz2 _ _ (decide_eq_true (hk.get (by simp;omega) hw1)) ?_;have ht':L'[tx]?=some (.lst (ts.map D.str)):=hk.get (by simp;omega) ht1;rw[Ar] at hx;obtain⟨wd1,hxw,hx⟩:=mS hx;cases hx
   have hb:Ds (cont es) 6 9600:=by
    rw[hc];have:=Nb (w:=wd) ((CU ws ts).take (0+i)) LR λa ha=>hAw a (ALb ha);have hl:((CU ws ts).take (0+i)).length<=6:=by rw[EW];omega
    exact this.mono (by omega) (by omega)
   rfl';refine Hh (λZ=>∃e,Z=[e,some (.str wd1)]) (λ_=>.str wd1) (λacc=>decide_eq_true (AV ht')) ⟨_,rfl⟩ (by rw[Aa];omega) ?_ ?_
   .rintro y hy Z ⟨e,rfl⟩;rfl';refine⟨⟨_,rfl⟩,λacc=>?_⟩;rfl';exact⟨rfl,rfl⟩
   .have em:(ts.map D.str).map (λ_=>D.str wd1)=(ts.map λ_=>wd1).map D.str:=by rw[CH,CH];rfl
    rw[em];rfl';have hkl:=hk.1;refine Ym (as:=ts.map λ_=>wd1) (w:=wd) (ds:=[.tup [.str "word",.str wd1]]) ((hd.pre (Ai _ _)).pre (Ai _ _)) AY (λz=>by have:=hd.lt z;simp at this;omega) (by simp[hwd]) (by simp;omega) (by have:=hb.1;rw[Jb] at this;omega) (λe he=>by have:=hb.2 e he;simp;omega) (by simp) λL2 es2 h2 hc2 ha2 hk2=>?_;rfl';refine kz2 _ es2 h2 ?_ (λy hy=>?_) ?_ _
    .have hxa:(CU ws ts)[i]?=some (ts.map (λ_=>wd1),[Gr wd1]):=by unfold CU;rw[Ar,hxw];rfl
     rw[SI hxa,<-hc];exact hc2
    .rcases ha2 y hy with z|z
     .exact ha y z
     .simp at z;omega
    .exact((hk.trans (.app _ _ _)).trans (.app _ _ _)).step hk2 (λj hj=>by
      rcases AX.mp hj with e1|e1
      .exact .inl (by simp[e1])
      .exact .inr (ha j e1))
  .rintro Cy fz2 L' es hd hc ha hk e;refine fz2 _ _ (decide_eq_true (hk.get (by simp;omega) hw1)) ?_;refine kz1 _ es hd ?_ ha hk _;rw[hc,Aa,BR];have:(CU ws ts).length=ws.length:=by unfold CU;simp
   rw[<-this,Ei]
 rintro L2 es1 hd1 hc1 ha1 hk1 e;have ht2:L2[tx]?=some (.lst (ts.map D.str)):=hk1.get (by simp;omega) ht1;have hk1l:=hk1.1;rfl';refine AGx ht2 ok λL3 esP hp3 hdP hcP haP=>?_;have hL3:L2.length<L3.length:=hdP.glt;have hd3:=hd1.pre hp3;have ht3:L3[tx]?=some (.lst (ts.map D.str)):=CY hp3 ht2;obtain⟨epP,hP0⟩:=hdP.at_;have hPb:Ds (cont esP) 40 40:=by rw[hcP];exact NJ ts
 have hPl:(cont esP).length<=40:=hPb.1
 have free:∀j,j≠L.length->(j<L1.length\/L2.length<=j)->j∉L.length::BQ es1:=λj h1 h2 hj=>by
  rcases AX.mp hj with e1|e1
  .exact h1 e1
  .have:=hd1.lt e1;have:=ha1 j e1;omega
 rfl';rw[Rh IR]
 refine Cn (λi Cz=>∀L':AC,∀es,DL Ad L' L.length es->cont es=(CU ws ts++((cont esP).take i).flatMap λs=>(cont esP).flatMap λe=>CQ ts s e).foldl (BX wd) []->(∀x∈BQ es,x∈BQ es1\/L3.length<=x)->Av (L.length::BQ es1) L3 L' ->
   ∀e1 e2 e3 e4 e5,Cz [some (.ref w),some (.ref tx),some (Ad wd),some (.ref L.length),e,some (.ref L2.length),e1,e2,e3,e4,e5] L') _ 0 _ _ (λCz kz3=>kz3 _ es1 hd3 (by simpa using hc1) (λx hx=>.inl hx) (.refl _ _) none none none none none) ?_ ?_
 .rintro i x hx Cz Cy fz3 kz3 L' es hd hc ha hk e1 e2 e3 e4 e5;have hP':L'[L2.length]?=some (.dt (CP EK esP) epP):=hk.get (free _ (by omega) (by omega)) hP0;refine fz3 _ _ (by simp[Hk,hP']) ?_;rw[Ar] at hx;obtain⟨se,hse,hx⟩:=mS hx;cases hx;have hsm:=Bk hse;have hsc:(cont esP)[i]?=some (se.1,se.2.2):=by unfold cont;rw[Ar,hse];rfl
  have hscm:=Bk hsc;rfl';rw[Rh IR];generalize hA1:(CU ws ts++((cont esP).take (0+i)).flatMap λs=>(cont esP).flatMap λe=>CQ ts s e)=A1 at hc
  have hA1s:∀a∈A1,a.2.length<=1600:=λa ha=>by
   rw[<-hA1] at ha;rcases Bi.mp ha with ha|ha
   .exact hAw a ha
   .obtain⟨s,hs,ha⟩:=Dc.mp ha;obtain⟨e,he,ha⟩:=Dc.mp ha;exact Vu hPb (ALb hs) he a ha
  have hA1l:A1.length<=6+4800:=by
   rw[<-hA1,By]
   have h1:=Nu (m:=120) ((cont esP).take (0+i)) (f:=λs=>(cont esP).flatMap λe=>CQ ts s e) λs _=>by
    have:=Nu (m:=3) (cont esP) (f:=λe=>CQ ts s e) λe _=>Vv s e;omega
   have h2:((cont esP).take (0+i)).length<=40:=by rw[EW];omega
   have h3:=ALm 120 h2;omega
  refine Cn (λj Cz=>∀L':AC,∀es,DL Ad L' L.length es->cont es=(A1++((cont esP).take j).flatMap λe=>CQ ts (se.1,se.2.2) e).foldl (BX wd) []->(∀x∈BQ es,x∈BQ es1\/L3.length<=x)->Av (L.length::BQ es1) L3 L' ->
   ∀e2 e3 e4 e5,Cz [some (.ref w),some (.ref tx),some (Ad wd),some (.ref L.length),e,some (.ref L2.length),some (EK se.1),e2,e3,e4,e5] L') _ 0 _ _ (λCz kz4=>kz4 _ es hd (by simpa using hc) ha hk _ _ _ _) ?_ ?_
  .clear hP' hk ha hc hd es;rintro j x hx Cz Cy fz4 kz4 L' es hd hc ha hk e2 e3 e4 e5;have hP':L'[L2.length]?=some (.dt (CP EK esP) epP):=hk.get (free _ (by omega) (by omega)) hP0;have ht':L'[tx]?=some (.lst (ts.map D.str)):=hk.get (free _ (by omega) (by omega)) ht3;refine fz4 _ _ (by simp[Hk,hP']) ?_;rw[Ar] at hx;obtain⟨ee,hee,hx⟩:=mS hx;cases hx;have hem:=Bk hee;have hec:(cont esP)[j]?=some (ee.1,ee.2.2):=by unfold cont;rw[Ar,hee];rfl
   have hecm:=Bk hec;have hkl:=hk.1
   have htake:((cont esP).take (0+j+1)).flatMap (λe=>CQ ts (se.1,se.2.2) e)=((cont esP).take (0+j)).flatMap (λe=>CQ ts (se.1,se.2.2) e)++CQ ts (se.1,se.2.2) (ee.1,ee.2.2):=by rw[Hi hec,ALv];simp
   generalize hA2:(A1++((cont esP).take (0+j)).flatMap λe=>CQ ts (se.1,se.2.2) e)=A2 at hc
   have hA2s:∀a∈A2,a.2.length<=1600:=λa ha=>by
    rw[<-hA2] at ha;rcases Bi.mp ha with ha|ha
    .exact hA1s a ha
    .obtain⟨e,he,ha⟩:=Dc.mp ha;exact Vu hPb hscm (ALb he) a ha
   have hA2l:A2.length<=6+4800+120:=by
    rw[<-hA2,By];have h1:=Nu (m:=3) ((cont esP).take (0+j)) (f:=λe=>CQ ts (se.1,se.2.2) e) λe _=>Vv _ e;have h2:((cont esP).take (0+j)).length<=40:=by rw[EW];omega
    omega
   rw[show A1++((cont esP).take (0+j+1)).flatMap (λe=>CQ ts (se.1,se.2.2) e)=A2++CQ ts (se.1,se.2.2) (ee.1,ee.2.2) by rw[htake,<-hA2,ALc]] at kz4;rfl';refine ABN ht' (by omega) (NI (e:=(se.1,se.2.2)) (by rw[<-hcP];exact hscm)) (NI (e:=(ee.1,ee.2.2)) (by rw[<-hcP];exact hecm)) (λhno=>?_) (λhyes=>?_)
   .rfl';refine kz4 _ es hd ?_ ha hk _ _ _ _;rw[hc];unfold CQ;rw[if_neg (by rw[hno];simp),ALy]
   .rfl';have hpa:CQ ts (se.1,se.2.2) (ee.1,ee.2.2)=DV.map (Fq ts (se.1,se.2.2) (ee.1,ee.2.2)):=by unfold CQ;rw[if_pos hyes]
    rw[hpa] at kz4;generalize hcut:EO ts se.1 ee.1 ts.length=sgs;have hcl:sgs.length=ts.length:=by rw[<-hcut,SO]
    generalize hL4:L'++[Ob.lst (sgs.map D.str)]=L4;have hp4:L' <+: L4:=by rw[<-hL4];exact Ai _ _
    have hL4l:L4.length=L'.length+1:=by rw[<-hL4];simp
    have hs4:L4[L'.length]?=some (.lst (sgs.map D.str)):=by rw[<-hL4];exact AY
    have hd4:=hd.pre hp4;have hP4:=CY hp4 hP';have hxs:L4[se.2.1]?=some (.lst se.2.2):=CY hp4 (hk.get (free _ (by have:=haP _ (GZ hsm);omega) (by have:=haP _ (GZ hsm);omega)) (hdP.it se hsm));have hys:L4[ee.2.1]?=some (.lst ee.2.2):=CY hp4 (hk.get (free _ (by have:=haP _ (GZ hem);omega) (by have:=haP _ (GZ hem);omega)) (hdP.it ee hem))
    have outP:∀q,L2.length<=q->q<L3.length->q∉L.length::BQ es:=λq h1 h2 hj=>by
     rcases AX.mp hj with z|z
     .omega
     .rcases ha q z with y|y
      .have:=hd1.lt y;omega
      .omega
    have outS:L'.length∉L.length::BQ es:=λhj=>by
     rcases AX.mp hj with z|z
     .omega
     .have:=hd.lt z;omega
    have hsl:=hdP.lt (GZ hsm);have hel:=hdP.lt (GZ hem);have hsl2:=haP _ (GZ hsm);have hel2:=haP _ (GZ hem)
    refine Cn (λk Cz=>∀L9:AC,∀es',DL Ad L9 L.length es'->cont es'=(A2++(DV.take k).map (Fq ts (se.1,se.2.2) (ee.1,ee.2.2))).foldl (BX wd) []->(∀x∈BQ es',x∈BQ es\/L4.length<=x)->Av (L.length::BQ es) L4 L9 ->
     ∀e4 e5,Cz [some (.ref w),some (.ref tx),some (Ad wd),some (.ref L.length),e,some (.ref L2.length),some (EK se.1),some (EK ee.1),some (.ref L'.length),e4,e5] L9) _ 0 _ _ (λCz kz5=>kz5 _ es hd4 (by simpa using hc) (λx hx=>.inl hx) (.refl _ _) _ _) ?_ ?_
    .rintro k x hx Cz Cy fz5 kz5 L5 es5 hd5 hc5 ha5 hk5 e4 e5
     have hds:∃d,DV[k]?=some d/\x=.str d:=by
      have:(DV.map D.str)[k]?=some x:=hx;rw[Ar] at this
      cases hd:DV[k]? with
      |none=>rw[hd] at this;cases this
      |some d=>rw[hd] at this;exact⟨d,rfl,(Option.some.inj this).symm⟩
     obtain⟨d,hdk,rfl⟩:=hds;have hdm:=Bk hdk;refine fz5 _ _ rfl ?_;have hs5:L5[L'.length]?=some (.lst (sgs.map D.str)):=hk5.get outS hs4;have hP5:L5[L2.length]?=some (.dt (CP EK esP) epP):=hk5.get (outP _ (by omega) (by omega)) hP4;have hxs5:L5[se.2.1]?=some (.lst se.2.2):=hk5.get (outP _ (by omega) hsl) hxs;have hys5:L5[ee.2.1]?=some (.lst ee.2.2):=hk5.get (outP _ (by omega) hel) hys;have hk5l:=hk5.1
     have hb5:Ds (cont es5) 10000 12000000:=by
      rw[hc5]
      have h3:((DV.take (0+k)).map (Fq ts (se.1,se.2.2) (ee.1,ee.2.2))).length<=3:=by rw[Aa,EW];have:DV.length=3:=rfl;omega
      have:=Nb (w:=wd) (A2++(DV.take (0+k)).map (Fq ts (se.1,se.2.2) (ee.1,ee.2.2))) LR λa ha=>by
       rcases Bi.mp ha with ha|ha
       .exact hA2s a ha
       .obtain⟨d',_,rfl⟩:=Aq.mp ha;show(EQ d' se.2.2 ee.2.2).length<=1600;rw[Ib];exact ALu (hPb.2 _ hscm) (hPb.2 _ hecm)
      rw[By] at this;exact this.mono (by omega) (by omega)
     have hbw:(EQ d se.2.2 ee.2.2).length<=1600:=by rw[Ib];exact ALu (hPb.2 _ hscm) (hPb.2 _ hecm)
     rfl'
     refine Hh (λZ=>∃e,Z=[e,some (.str d)]) (λy=>match y with|.str s=>.str (Do d s)|_=>.non) (λacc=>decide_eq_true (AV hs5)) ⟨_,rfl⟩ (by rw[Aa,hcl];omega) ?_ ?_
     .rintro y hy Z ⟨e,rfl⟩;obtain⟨s,hs,rfl⟩:=Aq.mp hy;rw[<-hcut] at hs;have hso:=AGc ok _ _ hs;rfl';refine⟨⟨_,rfl⟩,λacc=>?_⟩;rfl';refine AGU hdm hso.1 (by omega) ?_;exact⟨rfl,rfl⟩
     .have em:(sgs.map D.str).map (λy=>match y with|.str s=>D.str (Do d s)|_=>.non)=(sgs.map (Do d)).map D.str:=by rw[CH,CH];rfl
      rw[em];rfl';refine Ht (kk:=kfD (EK se.1)) (AV hP5) (IR.key _) (hdP.look_mem IR hsm) ?_;rfl';refine Ht (kk:=kfD (EK ee.1)) (AV hP5) (IR.key _) (hdP.look_mem IR hem) ?_;rfl';refine AG0 (AV hxs5) (AV hys5) (by have:=hbw;rw[Ib] at this;omega) (by have:=hPb.2 _ hecm;simp only at this;omega) λL6 hp6 hl6=>?_;have hp56:L5 <+: L6:=(Ai _ _).trans hp6;have hp6l:=hp6.length_le;simp only[By,Dd,List.length_nil] at hp6l;rfl';refine Ym (as:=sgs.map (Do d)) (w:=wd) (hd5.pre hp56) hl6 (λz=>by have:=hd5.lt z;simp at this;omega) (by simp[hwd,hcl]) (by simp[hcl];omega) (by have:=hb5.1;rw[Jb] at this;omega) (λe he=>by have:=hb5.2 e he;omega) (by omega) λL7 es7 h7 hc7 ha7 hk7=>?_;rfl';refine kz5 _ es7 h7 ?_ (λy hy=>?_) ?_ _ _
      .rw[Hi hdk,DM,<-ALc,List.foldl_append,<-hc5,hc7];show _=BX wd (cont es5) (Fq ts (se.1,se.2.2) (ee.1,ee.2.2) d);unfold Fq;rw[hcut]
      .rcases ha7 y hy with z|z
       .exact ha5 y z
       .exact .inr (by omega)
      .refine(hk5.trans (.of_pre hp56)).step hk7 λj hj=>?_;rcases AX.mp hj with z|z
       .exact .inl (by simp[z])
       .rcases ha5 j z with y|y
        .exact .inl (BA _ y)
        .exact .inr y
    .rintro Cy fz5 L5 es5 hd5 hc5 ha5 hk5 e4 e5;refine fz5 _ _ rfl (kz4 _ es5 hd5 ?_ (λy hy=>?_) ?_ _ _ _ _)
     .rw[hc5]
      congr 2
     .rcases ha5 y hy with z|z
      .exact ha y z
      .exact .inr (by omega)
     .refine(hk.trans (.of_pre hp4)).step hk5 λj hj=>?_;rcases AX.mp hj with z|z
      .exact .inl (by simp[z])
      .rcases ha j z with y|y
       .exact .inl (BA _ y)
       .exact .inr y
  .rintro Cy fz4 L' es hd hc ha hk e2 e3 e4 e5;have hP':L'[L2.length]?=some (.dt (CP EK esP) epP):=hk.get (free _ (by omega) (by omega)) hP0;refine fz4 _ _ (by simp[Hk,hP']) (kz3 _ es hd ?_ ha hk _ _ _ _ _);rw[hc,Aa,BR];have:esP.length=(cont esP).length:=(Jb esP).symm;rw[this,Ei,Hi hsc,ALv,<-hA1,ALc];simp
 .rintro Cy fz3 L' es hd hc ha hk e1 e2 e3 e4 e5;have hP':L'[L2.length]?=some (.dt (CP EK esP) epP):=hk.get (free _ (by omega) (by omega)) hP0;refine fz3 _ _ (by simp[Hk,hP']) ?_;rfl';refine⟨rfl,h L' es ?_ hd ?_ λx hx=>?_⟩
  .have k1:Av [L.length] L L':=by
    have a1:Av [L.length] L L1:=by rw[<-hL1];exact .app _ _ _
    have a2:=(a1.trans hk1).trans (Av.of_pre hp3);refine a2.step hk λj hj=>?_;rcases AX.mp hj with e8|e8
    .exact .inl (by simp[e8])
    .exact .inr (by have:=ha1 j e8;omega)
   exact(k1.mono λj hj=>.inr (by simp at hj;omega)).pre
  .rw[hc,Aa,BR];have:esP.length=(cont esP).length:=(Jb esP).symm;rw[this,Ei,hcP];rfl
  .rcases ha x hx with z|z
   .have:=ha1 x z;omega
   .omega
abbrev Dn(a:ANE)(ps:List D):List (NK×D):=ps.zipIdx.map λq=>(kfD q.1,D.tup [Ad a,.int (q.2:Int)])
def AGJ{a:ANE}{ps:List D}{i:Nat}{x:D}(h:ps[i]?=some x):Dn a (ps.take (0+i+1))=Dn a (ps.take (0+i))++[(kfD x,.tup [Ad a,.int (i:Int)])]:=by have hi:i<ps.length:=(Ax.mp h).1;rw[Hi h];unfold Dn;rw[List.zipIdx_append,DM];simp[Nat.min_eq_left (AL8 hi)]
abbrev CK(G:List (ANE×List D)):List (NK×D):=G.flatMap λe=>Dn e.1 e.2
abbrev DS(xs:List (NK×D)):List (NK×D):=xs.foldl (λm x=>Cp m x.1 x.2) []
def ACQ(m:List (NK×D))(k:NK)(d:D):(Cp m k d).length<=m.length+1:=by
 unfold Cp;split
 .rw[Aa];omega
 .simp
def ACU(xs:List (NK×D)):(DS xs).length<=xs.length:=by
 have:∀(xs:List (NK×D)) (m:List (NK×D)),(xs.foldl (λm x=>Cp m x.1 x.2) m).length<=m.length+xs.length:=by
  intro xs
  induction xs with
  |nil=>intro m;simp
  |cons x xs ih =>
   intro m;rw[ALa,Dd];have h1:=ih (Cp m x.1 x.2);have h2:=ACQ m x.1 x.2;omega
 have h:=this xs [];simpa[DS] using h
abbrev EY{κ:Type}(c:List (κ×List D)):Nat:=(c.map λe=>e.2.length).sum
def AGC(G:List (ANE×List D)):(CK G).length=EY G:=by
 unfold CK EY
 induction G with
 |nil=>rfl
 |cons e G ih =>
  rw[Du,By,ih,Aj,Ex];unfold Dn;simp
def AAq{κ:Type}[DecidableEq κ]{c:List (κ×List D)}{k:κ}{ds:List D}(nd:(c.map (·.1)).Nodup):EY (BO c k ds)=EY c+ds.length:=by
 by_cases h:k∈c.map (·.1)
 .have e:BO c k ds=c.map (λe=>if e.1=k then (e.1,e.2++ds) else e):=by unfold BO;rw[if_pos h]
  rw[e];clear e
  induction c with
  |nil=>cases h
  |cons x c ih =>
   rw[Aj,Go] at nd;rw[Aj];unfold EY;rw[Aj,Ex,Aj,Ex]
   by_cases hx:x.1=k
   .rw[if_pos hx]
    have e2:c.map (λe=>if e.1=k then (e.1,e.2++ds) else e)=c:=by
     conv=>rhs;rw[<-AMT c]
     apply GB;intro e he;rw[if_neg (λz=>nd.1 (by rw[hx,<-z];exact CG he))];rfl
    rw[e2];simp only[By];omega
   .rw[if_neg hx]
    have h':k∈c.map (·.1):=by
     rw[Aj] at h;rcases AX.mp h with z|z
     .exact absurd z.symm hx
     .exact z
    have:=ih nd.2 h';unfold EY at this;omega
 .have e:BO c k ds=c++[(k,ds)]:=by unfold BO;rw[if_neg h]
  rw[e];unfold EY;simp
def XG{w:ANE}:∀(A:List (ANE×List D)) {c:List (ANE×List D)},(c.map (·.1)).Nodup->((A.foldl (BX w) c).map (·.1)).Nodup
 |[],_,h=>h
 |a::A,c,h=>XG A (by unfold BX;split;exact LW h;exact h)
def XD{w:ANE}{m:Nat}:∀(A:List (ANE×List D)) {c:List (ANE×List D)},(c.map (·.1)).Nodup->(∀a∈A,a.2.length<=m)->EY (A.foldl (BX w) c)<=EY c+A.length*m
 |[],c,_,_=>by simp
 |a::A,c,h,hA=>by
  have h1:EY (BX w c a)<=EY c+m:=by
   unfold BX;split
   .rw[AAq h];have:=hA a Az;omega
   .omega
  have h2:=XD (w:=w) A (c:=BX w c a) (by unfold BX;split;exact LW h;exact h) λx hx=>hA x (BA _ hx);rw[ALa,Dd,ALg];omega
def ADd{κ:Type}{kd:κ->D}(K:KD kd)(es:List (κ×Nat×List D)):GJ (CP kd es)=es.map λe=>.tup [kd e.1,.ref e.2.1]:=by unfold GJ CP;rw[CH];apply GB;intro e _;show D.tup [Dm (kfD (kd e.1)),.ref e.2.1]=_;rw[K.nk e.1]
def AGB{G:List (ANE×List D)}{i:Nat}{e:ANE×List D}(h:G[i]?=some e):CK (G.take (0+i+1))=CK (G.take (0+i))++Dn e.1 e.2:=by unfold CK;rw[Hi h,ALv];simp
def AGA(G:List (ANE×List D))(i:Nat):(CK (G.take i)).length<=EY G:=by
 rw[<-AGC G]
 conv=>rhs;rw[<-AMk i G]
 unfold CK;rw[ALv,By];omega
def AES{Q:ANn}{L:AC}{g:Nat}{es:List (ANE×Nat×List D)}(hg:DL Ad L g es)(hk:∀e∈cont es,∀p∈e.2,dNK p=some (kfD p))(hz:EY (cont es)<=8000000)(hb:∀e∈cont es,e.2.length<=8000000)
  (h:∀ep,Q (.ref L.length) (L++[.dt (DS (CK (cont es))) ep])):W2 (Ir [.ref g] L) Q:=by
 unfold Ir;refine FN rfl ?_;unfold Oc;obtain⟨ep0,hg0⟩:=hg.at_;rfl';rw[ADd Dh];refine Cn (λj Cz=>∀L':AC,(∃ep,L'=L++[Ob.dt (DS (CK ((cont es).take j))) ep])->∀e1 e2 e3 e4,Cz [some (.ref g),some (.ref L.length),e1,e2,e3,e4] L') _ 0 _ _ (λCz kz1=>kz1 _ ⟨0,rfl⟩ none none none none) ?_ ?_
 .rintro i x hx Cz Cy fz1 kz1 L' ⟨ep,rfl⟩ e1 e2 e3 e4;refine fz1 _ _ (decide_eq_true (AV hg0)) ?_;rw[Ar] at hx;obtain⟨e,hse,hx⟩:=mS hx;cases hx;have hem:=Bk hse;have hq:=hg.it e hem;have hec:(cont es)[i]?=some (e.1,e.2.2):=by unfold cont;rw[Ar,hse];rfl
  have hecm:=Bk hec;rfl';refine Cn (λj Cz=>∀L':AC,(∃ep,L'=L++[Ob.dt (DS (CK ((cont es).take (0+i))++Dn e.1 (e.2.2.take j))) ep])->∀e3 e4,Cz [some (.ref g),some (.ref L.length),some (Ad e.1),some (.ref e.2.1),e3,e4] L') _ 0 _ _ (λCz kz2=>kz2 _ ⟨ep,by simp[Dn]⟩ _ _) ?_ ?_
  .rintro j x hx Cz Cy fz2 kz2 L' ⟨ep,rfl⟩ e3 e4;refine fz2 _ _ (decide_eq_true (AV hq)) ?_;rw[Xu] at hx;obtain⟨p,hp,hx⟩:=mS hx;cases hx;rfl';refine SG (kk:=kfD p) AY ?_ (hk _ hecm p (Bk hp)) ?_
   .have h1:=ACU (CK ((cont es).take (0+i))++Dn e.1 (e.2.2.take (0+j)));have h2:=AGA (cont es) (0+i)
    have h3:(Dn e.1 (e.2.2.take (0+j))).length<=8000000:=by unfold Dn;rw[Aa,List.length_zipIdx,EW];have:=hb _ hecm;simp only at this;omega
    rw[By] at h1;omega
   .have e5:DS (CK ((cont es).take (0+i))++Dn e.1 (e.2.2.take (0+j+1)))=Cp (DS (CK ((cont es).take (0+i))++Dn e.1 (e.2.2.take (0+j)))) (kfD p) (.tup [Ad e.1,.int (j:Int)]):=by
     rw[AGJ hp,<-ALc];unfold DS;rw[List.foldl_append];rfl
    rfl';rw[e5] at kz2;refine kz2 _ ⟨epN (DS (CK ((cont es).take (0+i))++Dn e.1 (e.2.2.take (0+j)))) (kfD p) ep,?_⟩ _ _;simp
  .rintro Cy fz2 L' ⟨ep,rfl⟩ e3 e4;refine fz2 _ _ (decide_eq_true (AV hq)) (kz1 _ ⟨ep,?_⟩ _ _ _ _);have e6:(FD e.2.2).length=e.2.2.length:=by simp[FD]
   rw[e6,BR e.2.2.length,Ei,AGB hec]
 .rintro Cy fz1 L' ⟨ep,rfl⟩ e1 e2 e3 e4;refine fz1 _ _ (decide_eq_true (AV hg0)) ?_;rfl';refine⟨rfl,?_⟩;rw[Aa,BR];have:es.length=(cont es).length:=(Jb es).symm;rw[this,Ei];exact h ep
def AAs{Q:ANn}{L:AC}{k g:Nat}{W:D}{M:List (NK×D)}(hk:L[k]?=some (.ins ANM []))(hgl:g<L.length)(hm:∀(L':AC) (Q':ANn),Av [k] L L'->L'.length=L.length->(∀ep,Q' (.ref L'.length) (L'++[.dt M ep]))->W2 (Ir [.ref g] L') Q')
  (h:∀L2,L2.length=L.length+8->Av [k] L L2->L2[k]?=some (.ins ANM (Mx W g L.length (L.length+5) (L.length+6) (L.length+7)))->(∃ep,L2[L.length]?=some (.dt M ep)) ->
   L2[L.length+5]?=some (.lst [.ref (L.length+1),.ref (L.length+3)])->ED L2 (L.length+1) 1 (L.length+2) [] 0->ED L2 (L.length+3) 0 (L.length+4) [] 0->L2[L.length+6]?=some (.dt [] 0)->L2[L.length+7]?=some (.lst [])->Q .non L2) :
  W2 (Jr [.ref k,W,.ref g] L) Q:=by
 unfold Jr;refine Ke rfl ?_;unfold Qk;have hkl:=DG hk;refine Bf (λCz=>∀L':AC,L'.length=L.length->Av [k] L L'->L'[k]?=some (.ins ANM [(ANS,W)])->Cz [some (.ref k),some W,some (.ref g)] L') (λCz kz1=>?_) ?_
 .rfl';exact kz1 _ (by simp) ((Av.refl _ _).set (.inl (by simp))) (Ch hk)
 rintro L1 l1 k1 t1;refine Bf (λCz=>∀L':AC,L'.length=L.length->Av [k] L L'->L'[k]?=some (.ins ANM [(ANS,W),(ANP,.ref g)])->Cz [some (.ref k),some W,some (.ref g)] L') (λCz kz2=>?_) ?_
 .rfl';exact kz2 _ (by simp[l1]) (k1.set (.inl (by simp))) (Ch t1)
 rintro L2 l2 k2 t2;refine Bf (λCz=>∀L' ep,L'.length=L.length+1->Av [k] L L'->L'[k]?=some (.ins ANM [(ANS,W),(ANP,.ref g),(ANT,.ref L.length)])->L'[L.length]?=some (.dt M ep)->Cz [some (.ref k),some W,some (.ref g)] L') (λCz kz3=>?_) ?_
 .rfl';refine hm _ _ k2 l2 λep=>?_;rfl';refine kz3 _ ep (by simp[l2]) ((k2.trans (.app _ _ _)).set (.inl (by simp))) ?_ ?_
  .rw[Ch (AV t2),l2];rfl
  .rw[<-l2,EI (by omega)];exact AY
 rintro L3 ep l3 k3 t3 m3;have stayK:∀{L4 L5:AC} {j:Nat} {o:Ob},Av [j] L4 L5->L4.length<=j->∀i,i<L4.length->L4[i]?=some o->L5[i]?=some o:=λ{L4 L5 j o} hk hj i hi e=>hk.get (by simp;omega) e;refine Bf (λCz=>∀L':AC,L'.length=L.length+6->Av [k] L L'->L'[k]?=some (.ins ANM [(ANS,W),(ANP,.ref g),(ANT,.ref L.length),(ANQ,.ref (L.length+5))])->(∃ep,L'[L.length]?=some (.dt M ep))->L'[L.length+5]?=some (.lst [.ref (L.length+1),.ref (L.length+3)])->ED L' (L.length+1) 1 (L.length+2) [] 0->ED L' (L.length+3) 0 (L.length+4) [] 0->Cz [some (.ref k),some W,some (.ref g)] L') (λCz kz4=>?_) ?_
 .rfl';refine RS AY λL4 n4 l4 k4=>?_;have l4':L4.length=L.length+3:=by rw[l4];simp;omega
  have p4:∀i o,i<L3.length->L3[i]?=some o->L4[i]?=some o:=λi o hi e=>k4.get (by simp;omega) (AV e);refine⟨rfl,?_⟩;rfl';refine RS AY λL5 n5 l5 k5=>?_;have l5':L5.length=L.length+5:=by rw[l5];simp;omega
  have p5:∀i o,i<L4.length->L4[i]?=some o->L5[i]?=some o:=λi o hi e=>k5.get (by simp;omega) (AV e);refine⟨rfl,?_⟩;have t5:=p5 _ _ (by omega) (p4 _ _ (by omega) t3);have m5:=p5 _ _ (by omega) (p4 _ _ (by omega) m3);have a5:=p5 _ _ (by omega) n4.1;have b5:=p5 _ _ (by simp at *;omega) n4.2;rfl';have e1:L3.length=L.length+1:=l3;have e2:(L3++[Ob.ins ANN []]).length=L.length+2:=by simp[l3]
  have e3:L4.length=L.length+3:=l4';have e4:(L4++[Ob.ins ANN []]).length=L.length+4:=by simp[l4']
  rw[e1] at n4 a5;rw[e2] at n4 b5 a5;rw[e3,e4] at n5;have far:∀(i:Nat) (o o':Ob) (M:AC),i≠k->L5[i]?=some o->((L5++M).set k o')[i]?=some o:=λi o o' M hi e=>by rw[EI (Ne.symm hi)];exact AV e
  refine kz4 _ (by simp[l5']) ?_ ?_ ⟨ep,far _ _ _ _ (by omega) m5⟩ ?_ ⟨far _ _ _ _ (by omega) a5,far _ _ _ _ (by omega) b5⟩ ⟨far _ _ _ _ (by omega) n5.1,far _ _ _ _ (by omega) n5.2⟩
  .have q1:Av [k] L L4:=(k3.trans (.app _ _ _)).step k4 λj hj=>.inr (by simp at hj;omega);have q2:Av [k] L L5:=(q1.trans (.app _ _ _)).step k5 λj hj=>.inr (by simp at hj;omega);exact(q2.trans (.app _ _ _)).set (.inl (by simp))
  .rw[Ch (AV t5),l5'];rfl
  .rw[EI (by omega),<-l5',e1,e3];exact AY
 rintro L4 l4 k4 t4 ⟨ep,m4⟩ n4 a4 b4;rfl';have far:∀(i:Nat) (o o':Ob) (N M:AC),i≠k->N[i]?=some o->((N++M).set k o')[i]?=some o:=λi o o' N M hi e=>by rw[EI (Ne.symm hi)];exact AV e
 have f2:∀(i:Nat) (o o' o'':Ob) (M M':AC),i≠k->L4[i]?=some o->((((L4++M).set k o')++M').set k o'')[i]?=some o:=λi o o' o'' M M' hi e=>far i o o'' _ _ hi (far i o o' _ _ hi e)
 have t5:((L4++[Ob.dt [] 0]).set k (.ins ANM (EZ ANV (.ref L4.length) [(ANS,W),(ANP,.ref g),(ANT,.ref L.length),(ANQ,.ref (L.length+5))])))[k]?=some (.ins ANM [(ANS,W),(ANP,.ref g),(ANT,.ref L.length),(ANQ,.ref (L.length+5)),(ANV,.ref (L.length+6))]):=by rw[Ch (AV t4),l4];rfl
 refine XS (AV t5) rfl rfl ?_;rfl';refine⟨λhp=>?_,h _ (by simp[l4]) ?_ ?_ ⟨ep,f2 _ _ _ _ _ _ (by omega) m4⟩ (f2 _ _ _ _ _ _ (by omega) n4) ⟨f2 _ _ _ _ _ _ (by omega) a4.1,f2 _ _ _ _ _ _ (by omega) a4.2⟩ ⟨f2 _ _ _ _ _ _ (by omega) b4.1,f2 _ _ _ _ _ _ (by omega) b4.2⟩ (far _ _ _ _ _ (by omega) ?_) ?_⟩
 .have:=CY hp hk;rw[Ch (AV t5)] at this;cases this
 .exact(((k4.trans (.app _ _ _)).set (.inl (by simp))).trans (.app _ _ _)).set (.inl (by simp))
 .rw[Ch (AV t5),AL1,By,l4];rfl
 .rw[EI (by omega),<-l4];exact AY
 .rw[EI (by omega)];have e6:((L4++[Ob.dt [] 0]).set k (.ins ANM (EZ ANV (.ref L4.length) [(ANS,W),(ANP,.ref g),(ANT,.ref L.length),(ANQ,.ref (L.length+5))]))).length=L.length+7:=by simp[l4]
  rw[<-e6];exact AY
noncomputable abbrev Ah:=List (ANE×List D)
abbrev CN(G:Ah)(a:ANE):Nat:=((Dz G a).getD []).length
abbrev NG(rest a:ANE):Bool:=(List.range rest.length).all λi=>Txt.startswith (rest.getD i "") (a.getD i "")
abbrev FV(rest a:ANE)(n:Nat):ANE:=(List.range n).map λi=>Txt.slice (rest.getD i "") (some ((a.getD i "").length:Int)) none
abbrev DI(rest a:ANE):Option (ANE):=if NG rest a=true then some (FV rest a rest.length) else none
def SX{rest a b:ANE}(h:DI rest a=some b):b.length=rest.length:=by
 unfold DI at h;split at h
 .cases h;unfold FV;simp
 .cases h
def Ux(xs:ANE):(Ad xs).noRef=true:=by
 unfold Ad;show D.noRefL (xs.map D.str)=true
 induction xs with
 |nil=>rfl
 |cons x xs ih=>rw[Aj,D.noRefL,ih];rfl
def AG2{Q:ANn}{L:AC}{rest a:ANE}(hl:a.length=rest.length)(hz:rest.length<=1000)(hn:DI rest a=none->Q .non L)(hy:∀b,DI rest a=some b->Q (Ad b) L):W2 (KW [Ad rest,Ad a] L) Q:=by
 unfold KW;refine BZ rfl ?_;unfold Pe;have et:∀xs:ANE,Ad xs=.tup (xs.map D.str):=λ_=>rfl;rw[et rest,et a];rfl';refine⟨rest.map D.str,[a.map D.str],rfl,⟨by simp[hl],by simp,rfl⟩,?_⟩;refine Cn (λj Cz=>∀L':AC,L'=L++[Ob.lst ((FV rest a j).map D.str)]->(∀i,i<j->i<rest.length->Txt.startswith (rest.getD i "") (a.getD i "")=true)->∀e1 e2,Cz [some (.tup (rest.map D.str)),some (.tup (a.map D.str)),some (.ref L.length),e1,e2] L') _ 0 _ _ (λCz kz1=>kz1 _ rfl (λi hi=>(by omega)) none none) ?_ ?_
 .rintro i x hx Cz Cy fz1 kz1 L' rfl hlt e1 e2;refine fz1 _ _ (decide_eq_true rfl) ?_;obtain⟨hi,rfl⟩:=Px hl hx;rfl';refine GY (λhs=>?_) (λhs=>?_)
  .rfl';refine GR AY (by unfold FV;simp;omega) ?_;rfl';refine kz1 _ ?_ (λk hk hkt=>?_) _ _
   .have:FV rest a (0+i+1)=FV rest a (0+i)++[Txt.slice (rest.getD i "") (some ((a.getD i "").length:Int)) none]:=by
     unfold FV;rw[AMF,DM,BR];rfl
    rw[this,DM];simp
   .by_cases z:k=i
    .subst z;exact hs
    .exact hlt k (by omega) hkt
  .rfl';refine⟨rfl,Ai _ _,hn ?_⟩;unfold DI;rw[if_neg];intro hall;unfold NG at hall;have:=Bu.mp hall i (CM.mpr hi);rw[hs] at this;cases this
 .rintro Cy fz1 L' rfl hlt e1 e2;refine fz1 _ _ (decide_eq_true rfl) ?_;rw[MQ,Aa,BR] at *;rfl';refine⟨Ux _,Ai _ _,hy _ ?_⟩;unfold DI;rw[if_pos];unfold NG;rw[Bu];exact λi hi=>hlt i (CM.mp hi) (CM.mp hi)
abbrev BH(G:Ah)(l:Nat)(rest:ANE):List (ANE):=if l=1 then (if rest∈G.map (·.1) then [rest] else []) else G.map (·.1)
abbrev AM(G:Ah):Nat->ANE->Nat
 |0,_=>1
 |l+1,rest=>((BH G (l+1) rest).map λa=>match DI rest a with|some b=>CN G a*AM G l b|none=>0).sum
abbrev DC(G:Ah)(l:Nat)(rest:ANE)(st:List (ANE×Nat×ANE)×Nat)(a:ANE):List (ANE×Nat×ANE)×Nat:=match DI rest a with
 |none=>st
 |some b=>if AM G l b=0 then st else (st.1++[(a,st.2,b)],st.2+CN G a*AM G l b)
abbrev DB(G:Ah)(l:Nat)(rest:ANE)(xs:List (ANE)):List (ANE×Nat×ANE)×Nat:=xs.foldl (DC G l rest) ([],0)
abbrev DA(G:Ah)(l:Nat)(rest:ANE):List (ANE×Nat×ANE):=(DB G l rest (BH G (l+1) rest)).1
def Yc{G:Ah}{l:Nat}{rest:ANE}:∀(xs:List (ANE)) (st:List (ANE×Nat×ANE)×Nat),(xs.foldl (DC G l rest) st).2=st.2+(xs.map λa=>match DI rest a with|some b=>CN G a*AM G l b|none=>0).sum
 |[],st=>by simp
 |x::xs,st=>by
  rw[ALa,Yc xs,Aj,Ex];unfold DC
  cases e:DI rest x with
  |none=>simp
  |some b =>
   simp only
   by_cases z:AM G l b=0
   .rw[if_pos z,z];simp
   .rw[if_neg z];simp only;omega
def Ya(G:Ah)(l:Nat)(rest:ANE):(DB G l rest (BH G (l+1) rest)).2=AM G (l+1) rest:=by unfold DB;rw[Yc];simp[AM]
def Yd{G:Ah}{l:Nat}{rest:ANE}:∀(xs:List (ANE)) (st:List (ANE×Nat×ANE)×Nat),∃ys,ys.Sublist xs/\((xs.foldl (DC G l rest) st).1).map (·.1)=st.1.map (·.1)++ys
 |[],st=>⟨[],List.Sublist.refl _,by simp⟩
 |x::xs,st=>by
  rw[ALa]
  have key:(DC G l rest st x).1.map (·.1)=st.1.map (·.1)\/(DC G l rest st x).1.map (·.1)=st.1.map (·.1)++[x]:=by
   unfold DC
   cases e:DI rest x with
   |none=>exact .inl rfl
   |some b =>
    simp only
    by_cases z:AM G l b=0
    .rw[if_pos z];exact .inl rfl
    .rw[if_neg z];exact .inr (by simp)
  obtain⟨ys,h1,h2⟩:=Yd xs (DC G l rest st x);rcases key with k|k
  .exact⟨ys,h1.cons x,by rw[h2,k]⟩
  .exact⟨x::ys,h1.cons₂ x,by rw[h2,k];simp⟩
def OD(G:Ah)(l:Nat)(rest:ANE)(xs:List (ANE)):((DB G l rest xs).1.map (·.1)).Sublist xs:=by obtain⟨ys,h1,h2⟩:=Yd (G:=G) (l:=l) (rest:=rest) xs ([],0);unfold DB;rw[h2];simpa using h1
def Uh{G:Ah}(h:(G.map (·.1)).Nodup)(l:Nat)(rest:ANE):(BH G l rest).Nodup:=by
 unfold BH;split
 .split
  .simp
  .exact .nil
 .exact h
def Iy{G:Ah}{l:Nat}{rest a:ANE}(h:a∈BH G l rest):a∈G.map (·.1):=by
 unfold BH at h;split at h
 .split at h
  .have:a=rest:=by simpa using h
   subst this;assumption
  .cases h
 .exact h
def Ui{G:Ah}{l:Nat}{rest:ANE}:(BH G l rest).length<=G.length:=by
 unfold BH;split
 .split
  .rename_i h
   cases G with
   |nil=>cases h
   |cons=>simp
  .simp
 .simp
abbrev Df(G:Ah)(sp:List (Nat×ANE))(k:Nat):Nat->ANE->Prop
 |0,_=>k=0
 |l+1,rest=>(AM G (l+1) rest=0/\k=1)\/(AM G (l+1) rest≠0/\∃j,k=j+2/\sp[j]?=some (l,rest))
def Df.mono{G:Ah}{sp sp':List (Nat×ANE)}{k l:Nat}{rest:ANE}(h:Df G sp k l rest)(p:sp <+: sp'):Df G sp' k l rest:=by
 cases l with
 |zero=>exact h
 |succ l =>
  rcases h with h|⟨h1,j,h2,h3⟩
  .exact .inl h
  .exact .inr ⟨h1,j,h2,CW p h3⟩
def Df.one{G:Ah}{sp:List (Nat×ANE)}{k l:Nat}{rest:ANE}(h:Df G sp k l rest):k=1↔AM G l rest=0:=by
 cases l with
 |zero =>
  have:k=0:=h;subst this;simp[AM]
 |succ l =>
  rcases h with⟨h1,h2⟩|⟨h1,j,h2,h3⟩
  .simp[h1,h2]
  .constructor
   .intro z;omega
   .intro z;exact absurd z h1
abbrev Ew(G:Ah)(sp:List (Nat×ANE))(l:Nat)(x:ANE×Nat×ANE)(y:NK×D):Prop:=∃num:Nat,y=(kfD (Ad x.1),.tup [.int (x.2.1:Int),.int (num:Int)])/\Df G sp num l x.2.2
def RQ{U β:Type}{R S:U->β->Prop}{xs:List U}{ys:List β}(h:Paired R xs ys)(i:∀a b,R a b->S a b):Paired S xs ys:=by
 induction h with
 |nil=>exact .nil
 |cons r _ ih=>exact .cons (i _ _ r) ih
def ADh{U β:Type}{R:U->β->Prop}{xs:List U}{ys:List β}{x:U}{y:β}(h:Paired R xs ys)(r:R x y):Paired R (xs++[x]) (ys++[y]):=by
 induction h with
 |nil=>exact .cons r .nil
 |cons q _ ih=>exact .cons q ih
def Ew.mono{G:Ah}{sp sp':List (Nat×ANE)}{l:Nat}{x:ANE×Nat×ANE}{y:NK×D}(p:sp <+: sp')(h:Ew G sp l x y):Ew G sp' l x y:=let ⟨n,e,k⟩:=h;⟨n,e,k.mono p⟩
def OE{G:Ah}{sp:List (Nat×ANE)}{l:Nat}{xs:List (ANE×Nat×ANE)}{ys:List (NK×D)}(h:Paired (Ew G sp l) xs ys):ys.map (·.1)=xs.map λx=>kfD (Ad x.1):=by
 induction h with
 |nil=>rfl
 |cons r _ ih=>obtain⟨n,rfl,_⟩:=r;rw[Aj,Aj,ih]
abbrev Dy(k:Nat×ANE):D:=.tup [.int (k.1:Int),Ad k.2]
def IQ:KD Dy:=⟨λa=>Kt (by
  have h:(IZ (a.2.map D.str)).isSome=true:=by
   induction a.2 with
   |nil=>rfl
   |cons x a ih =>
    rw[Aj]
    cases e:IZ (a.map D.str) with
    |none=>rw[e] at ih;cases ih
    |some y=>simp[IZ,LN,e]
  obtain⟨y,hy⟩:=Option.isSome_iff_exists.mp h;show(Fs [.int (a.1:Int),.tup (a.2.map D.str)]).isSome=true
  simp[Fs,JZ,LN,hy]),λa b h=>by
  have h1:=D.tup.inj h;have h2:=List.cons.inj h1;have h3:=List.cons.inj h2.2;have e1:a.1=b.1:=by have:=D.int.inj h2.1;omega
  have e2:=Dh.inj _ _ h3.1
  exact Prod.ext e1 e2⟩
abbrev Dw(mk:List ((Nat×ANE)×Nat)):List (NK×D):=mk.map λe=>(kfD (Dy e.1),D.int (e.2:Int))
def Wa(mk:List ((Nat×ANE)×Nat))(k:Nat×ANE):BP (Dw mk) (kfD (Dy k))=(mk.find? λe=>decide (e.1=k)).map λe=>D.int (e.2:Int):=by
 unfold BP Dw
 induction mk with
 |nil=>rfl
 |cons e es ih =>
  rw[Aj,FM,FM]
  by_cases h:e.1=k
  .subst h;simp
  .rw[decide_eq_false h,decide_eq_false (λz=>h (IQ.kf z))];exact ih
abbrev Jj(G:Ah)(sp:List (Nat×ANE))(L:AC)(r a:Nat):Nat->Prop
 |0=>∃ep,ED L r 1 a [] ep
 |1=>∃ep,ED L r 0 a [] ep
 |i+2=>∃l rest kvs ep,sp[i]?=some (l,rest)/\ED L r (AM G (l+1) rest:Int) a kvs ep/\l<=1000/\Paired (Ew G (sp.take i) l) (DA G l rest) kvs
def Jj.mono{G:Ah}{sp sp':List (Nat×ANE)}{L L':AC}{r a i:Nat}(h:Jj G sp L r a i)(p:sp <+: sp')(h1:L'[r]?=L[r]?)(h2:L'[a]?=L[a]?):Jj G sp' L' r a i:=by
 match i,h with
 |0,⟨ep,n⟩=>exact⟨ep,h1.trans n.1,h2.trans n.2⟩
 |1,⟨ep,n⟩=>exact⟨ep,h1.trans n.1,h2.trans n.2⟩
 |i+2,⟨l,rest,kvs,ep,e,n,hl,k⟩ =>
  refine⟨l,rest,kvs,ep,CW p e,⟨h1.trans n.1,h2.trans n.2⟩,hl,?_⟩;obtain⟨q,rfl⟩:=p;rw[List.take_append_of_le_length (AL8 (Ax.mp e).1)];exact k
def Jj.node{G:Ah}{sp:List (Nat×ANE)}{L:AC}{r a i:Nat}(h:Jj G sp L r a i):∃w kvs ep,ED L r w a kvs ep:=by
 match i,h with
 |0,⟨ep,n⟩=>exact⟨_,_,ep,n⟩
 |1,⟨ep,n⟩=>exact⟨_,_,ep,n⟩
 |i+2,⟨l,rest,kvs,ep,e,n,_,k⟩=>exact⟨_,_,ep,n⟩
structure BY (G:Ah) (X:ANJ) (L:AC) (t g m nd nn rt:Nat) (W:D) (es:List (ANE×Nat×List D)) (sp:List (Nat×ANE)) (rs:List (Nat×Nat)) (mk:List ((Nat×ANE)×Nat)):Prop where
 t_:L[t]?=some (.ins ANM (Mx W g m nd nn rt))
 g_:DL Ad L g es
 gc:cont es=G
 nd_:L[nd]?=some (.lst (rs.map λp=>D.ref p.1))
 nn_:∃ep,L[nn]?=some (.dt (Dw mk) ep)
 mk_:∀e∈mk,Df G sp e.2 e.1.1 e.1.2
 len:rs.length=sp.length+2
 rsl:rs.length<=16000000
 nod:∀i r a,rs[i]?=some (r,a)->Jj G sp L r a i
 ndg:nd∉BQ es
 nng:nn≠g
 nnr:∀p∈rs,nn≠p.2
 out:∀x∈X,x≠t/\x≠g/\x∉BQ es/\x≠nd/\x≠nn/\∀p∈rs,x≠p.1/\x≠p.2
section
variable {G:Ah}{X:ANJ}{L L':AC}{t g m nd nn rt:Nat}{W:D}{es:List (ANE×Nat×List D)}{sp:List (Nat×ANE)}{rs:List (Nat×Nat)}{mk:List ((Nat×ANE)×Nat)}
def BY.same(T:BY G X L t g m nd nn rt W es sp rs mk)(h:∀j,(j=t\/j=g\/j∈BQ es\/j=nd\/j=nn\/∃p∈rs,j=p.1\/j=p.2)->L'[j]?=L[j]?):BY G X L' t g m nd nn rt W es sp rs mk :=
 ⟨(h t (.inl rfl)).trans T.t_,T.g_.same (h g (.inr (.inl rfl))) λq hq=>h q (.inr (.inr (.inl hq))),T.gc,(h nd (.inr (.inr (.inr (.inl rfl))))).trans T.nd_,let ⟨ep,e⟩:=T.nn_;⟨ep,(h nn (.inr (.inr (.inr (.inr (.inl rfl)))))).trans e⟩,T.mk_,T.len,T.rsl,
   λi r a e=>(T.nod i r a e).mono (AW _) (h r (.inr (.inr (.inr (.inr (.inr ⟨_,Bk e,.inl rfl⟩)))))) (h a (.inr (.inr (.inr (.inr (.inr ⟨_,Bk e,.inr rfl⟩)))))),T.ndg,T.nng,T.nnr,T.out⟩
def BY.lt(T:BY G X L t g m nd nn rt W es sp rs mk){j:Nat}(h:j=t\/j=g\/j∈BQ es\/j=nd\/j=nn\/∃p∈rs,j=p.1\/j=p.2):j<L.length:=by
 rcases h with rfl|rfl|h|rfl|rfl|⟨p,hp,h⟩
 .exact DG T.t_
 .exact T.g_.glt
 .exact T.g_.lt h
 .exact DG T.nd_
 .obtain⟨ep,e⟩:=T.nn_;exact DG e
 .obtain⟨i,hi⟩:=AMV hp;obtain⟨w,kvs,ep,n⟩:=(T.nod i p.1 p.2 hi).node;rcases h with rfl|rfl
  .exact DG n.1
  .exact DG n.2
def BY.pre(T:BY G X L t g m nd nn rt W es sp rs mk)(p:L <+: L'):BY G X L' t g m nd nn rt W es sp rs mk:=T.same λj hj=>by
 have:=T.lt hj;obtain⟨M,rfl⟩:=p;rw[Ey this]
def BY.setX(T:BY G X L t g m nd nn rt W es sp rs mk){x:Nat}(hx:x∈X)(o:Ob):BY G X (L.set x o) t g m nd nn rt W es sp rs mk:=T.same λj hj=>by
 have hne:x≠j:=λz=>by
  obtain⟨h1,h2,h3,h4,h5,h6⟩:=T.out x hx;rcases hj with rfl|rfl|h|rfl|rfl|⟨p,hp,h⟩
  .exact h1 z
  .exact h2 z
  .exact h3 (z▸h)
  .exact h4 z
  .exact h5 z
  .rcases h with rfl|rfl
   .exact(h6 p hp).1 z
   .exact(h6 p hp).2 z
 rw[EI hne]
def BY.more(T:BY G X L t g m nd nn rt W es sp rs mk){Y_:ANJ}(h:∀y∈Y_,y∈X\/L.length<=y):BY G Y_ L t g m nd nn rt W es sp rs mk :=
 ⟨T.t_,T.g_,T.gc,T.nd_,T.nn_,T.mk_,T.len,T.rsl,T.nod,T.ndg,T.nng,T.nnr,λy hy=>by
  rcases h y hy with z|z
  .exact T.out y z
  .have lt:∀j,(j=t\/j=g\/j∈BQ es\/j=nd\/j=nn\/∃p∈rs,j=p.1\/j=p.2)->y≠j:=λj hj e=>by have:=T.lt hj;omega
   exact⟨lt _ (.inl rfl),lt _ (.inr (.inl rfl)),λhm=>lt y (.inr (.inr (.inl hm))) rfl,lt _ (.inr (.inr (.inr (.inl rfl)))),lt _ (.inr (.inr (.inr (.inr (.inl rfl))))),λp hp=>⟨lt _ (.inr (.inr (.inr (.inr (.inr ⟨p,hp,.inl rfl⟩))))),lt _ (.inr (.inr (.inr (.inr (.inr ⟨p,hp,.inr rfl⟩)))))⟩⟩⟩
def BY.node(T:BY G X L t g m nd nn rt W es sp rs mk){k l:Nat}{rest:ANE}(h:Df G sp k l rest)(h1:k≠1):∃r a kvs ep,rs[k]?=some (r,a)/\ED L r (AM G l rest:Int) a kvs ep/\(l=0->kvs=[])/\∀l',l=l'+1->Paired (Ew G sp l') (DA G l' rest) kvs:=by
 cases l with
 |zero =>
  have hk:k=0:=h;subst hk;have hlt:0<rs.length:=by rw[T.len];omega
  obtain⟨ep,n⟩:=T.nod 0 rs[0].1 rs[0].2 (by simp[hlt]);exact⟨_,_,[],ep,by simp[hlt],n,λ_=>rfl,λl' e=>by omega⟩
 |succ l =>
  rcases h with⟨_,h2⟩|⟨h2,j,rfl,h3⟩
  .exact absurd h2 h1
  .have hj:j<sp.length:=(Ax.mp h3).1;have hlt:j+2<rs.length:=by rw[T.len];omega
   obtain⟨l',rest',kvs,ep,e,n,_,k⟩:=T.nod (j+2) rs[j+2].1 rs[j+2].2 (by simp[hlt]);rw[h3] at e;cases e;exact⟨_,_,kvs,ep,by simp[hlt],n,λz=>by omega,λl' e=>by cases e;exact RQ k λ_ _=>Ew.mono (List.take_prefix _ _)⟩
def XQ{k:ANE}(h:k∈G.map (·.1)):∃ds,Dz G k=some ds/\CN G k=ds.length:=by
 obtain⟨e,hf,_⟩:=GU h;have:Dz G k=some e.2:=by unfold Dz;rw[hf];rfl
 exact⟨e.2,this,by unfold CN;rw[this];rfl⟩
end
abbrev Bc(g:Nat):Nat->Nat
 |0=>0
 |l+1=>1+g*Bc g l
section
variable {G:Ah}{X:ANJ}{L:AC}{t g m nd nn rt:Nat}{W:D}{es:List (ANE×Nat×List D)}{sp:List (Nat×ANE)}{rs:List (Nat×Nat)}{mk:List ((Nat×ANE)×Nat)}{Q:ANn}
def AAp(T:BY G X L t g m nd nn rt W es sp rs mk)(l:Nat)(rest:ANE)(h:Q (.ref L.length) (L++[.lst ((BH G l rest).map Ad)])):W2 (KY [.ref t,.int (l:Int),Ad rest] L) Q:=by
 unfold KY;refine FN rfl ?_;unfold Pj;have ht:=T.t_;obtain⟨ep,hg⟩:=T.g_.at_;unfold BH at h;rfl';refine BN (λh0=>?_) (λh0=>?_)
 .rw[if_pos (by omega)] at h;rfl';refine SD hg (Dh.key rest) ?_;have e1:(BP (CP Ad es) (kfD (Ad rest))).isSome=decide (rest∈G.map (·.1)):=by rw[AEu Dh,T.gc];exact decide_eq_decide.mpr Iff.rfl
  rw[e1]
  by_cases hm:rest∈G.map (·.1)
  .rw[if_pos hm] at h;rw[decide_eq_true hm];rfl';refine Nz rfl ?_;rfl';exact⟨rfl,h⟩
  .rw[if_neg hm] at h;rw[decide_eq_false hm];rfl';refine Jc rfl ?_;rfl';exact⟨rfl,h⟩
 .rw[if_neg (by omega)] at h;rfl';rw[Rh Dh];refine⟨rfl,?_⟩;have e2:es.map (λe=>Ad e.1)=(G.map (·.1)).map Ad:=by rw[<-T.gc,LO,CH];rfl
  rw[e2];exact h
end
abbrev Sm(G:Ah)(n l:Nat)(f:Nat):Prop:=∀{X:ANJ} {L:AC} {t g m nd nn rt:Nat} {W:D} {es:List (ANE×Nat×List D)} {sp:List (Nat×ANE)} {rs:List (Nat×Nat)} {mk:List ((Nat×ANE)×Nat)} {Q:ANn} {rest:ANE},
 BY G X L t g m nd nn rt W es sp rs mk->(∀x∈X,x<L.length)->rest.length=n->mk.length+Bc G.length l<=16000000->rs.length+Bc G.length l<=16000000 ->
 (∀L2 sp' rs' mk' k,BY G X L2 t g m nd nn rt W es sp' rs' mk'->sp <+: sp'->mk'.length<=mk.length+Bc G.length l->rs'.length<=rs.length+Bc G.length l->Df G sp' k l rest->Av [nd,nn] L L2->Q (.int (k:Int)) L2) ->
 W2 (zh f [.ref t,.int (l:Int),Ad rest] L) Q
def VJ{G:Ah}{X X':ANJ}{L L2:AC}{t g m nd nn rt:Nat}{W:D}{es:List (ANE×Nat×List D)}{sp sp':List (Nat×ANE)}{rs rs':List (Nat×Nat)}{mk mk':List ((Nat×ANE)×Nat)}(T:BY G X L t g m nd nn rt W es sp rs mk)(T':BY G X' L2 t g m nd nn rt W es sp' rs' mk')(p:sp <+: sp')(hp:L <+: L2):sp'=sp:=by have h1:=CY hp T.nd_;rw[T'.nd_] at h1;have h2:=congrArg List.length (Ob.lst.inj (Option.some.inj h1));rw[Aa,Aa,T.len,T'.len] at h2;exact(p.eq_of_length (by omega)).symm
def AEK{G:Ah}{n l f:Nat}(hl1:l<=1000)(ih:Sm G n l f)(hG:(G.map (·.1)).Nodup)(hGn:∀a∈G.map (·.1),a.length=n)(hn:n<=1000)(hGl:G.length<=16000000)(hGs:∀a∈G.map (·.1),CN G a<=16777216)
  {X:ANJ} {L:AC} {t g m nd nn rt:Nat} {W:D} {es:List (ANE×Nat×List D)} {sp:List (Nat×ANE)} {rs:List (Nat×Nat)} {mk:List ((Nat×ANE)×Nat)} {Q:ANn} {rest:ANE}
  (T:BY G X L t g m nd nn rt W es sp rs mk) (hX:∀x∈X,x<L.length) (hr:rest.length=n) (hz:mk.length+Bc G.length (l+1)<=16000000) (hrs:rs.length+Bc G.length (l+1)<=16000000)
  (h:∀L2 sp' rs' mk' k,BY G X L2 t g m nd nn rt W es sp' rs' mk'->sp <+: sp'->mk'.length<=mk.length+G.length*Bc G.length l->rs'.length<=rs.length+Bc G.length (l+1)->Df G sp' k (l+1) rest->Av [nd,nn] L L2->Q (.int (k:Int)) L2) :
  W2 (MT (zh f) [.ref t,.int ((l+1:Nat):Int),Ad rest] L) Q:=by
 unfold MT;refine Ke rfl ?_;unfold Pa;simp only[KN];refine Bf (λC=>∀L1,ED L1 L.length 0 (L.length+1) [] 0->L1.length=L.length+2->L <+: L1->C [some (.ref t),some (.int ((l+1:Nat):Int)),some (Ad rest),some (.ref L.length),none,none,none] L1) (λC kk=>?_) ?_
 .rfl';refine RS AY λL1 n1 l1 k1=>⟨rfl,?_⟩;have e1:(L++[Ob.ins ANN []]).length=L.length+1:=by simp
  rw[e1] at n1 l1;have p1:L <+: L1:=(((Av.app [L.length] L [Ob.ins ANN []]).trans k1).mono λj hj=>.inr (by simp at hj;omega)).pre;rfl';exact kk _ n1 (by omega) p1
 intro L1 n1 l1 p1;have T1:=T.pre p1;have htl:=Ui (G:=G) (l:=l+1) (rest:=rest)
 have hfree:∀x,L.length<=x->x∉[nd,nn]:=λx hx hm=>by
  have h1:=DG T.nd_;obtain⟨ep,h2⟩:=T.nn_;have h2:=DG h2;simp only[AX,Db,or_false] at hm;omega
 refine Bf (λC=>∀L' sp' rs' mk' kvs ep,BY G (L.length::(L.length+1)::(L.length+2)::X) L' t g m nd nn rt W es sp' rs' mk'->sp <+: sp'->mk'.length<=mk.length+G.length*Bc G.length l->rs'.length<=rs.length+G.length*Bc G.length l ->
  ED L' L.length (AM G (l+1) rest:Int) (L.length+1) kvs ep->Paired (Ew G sp' l) (DA G l rest) kvs->Av [nd,nn] L L'->∀e4 e5 e6,C [some (.ref t),some (.int ((l+1:Nat):Int)),some (Ad rest),some (.ref L.length),e4,e5,e6] L') (λC kk=>?_) ?_
 .have ht1:=T1.t_;rfl';refine AAp T1 (l+1) rest ?_;rfl';generalize hL2:L1++[Ob.lst ((BH G (l+1) rest).map Ad)]=L2;have p2:L1 <+: L2:=by rw[<-hL2];exact Ai _ _
  have l2:L2.length=L.length+3:=by rw[<-hL2];simp[l1]
  have a2:L2[L1.length]?=some (.lst ((BH G (l+1) rest).map Ad)):=by rw[<-hL2];exact AY
  have n2:ED L2 L.length 0 (L.length+1) [] 0:=⟨CY p2 n1.1,CY p2 n1.2⟩
  have T2:BY G (L.length::(L.length+1)::(L.length+2)::X) L2 t g m nd nn rt W es sp rs mk:=by
   refine(T.more λy hy=>?_).pre (p1.trans p2);simp only[AX] at hy;rcases hy with rfl|rfl|rfl|hy
   .exact .inr (by omega)
   .exact .inr (by omega)
   .exact .inr (by omega)
   .exact .inl hy
  rw[l1] at a2 ⊢
  refine Cn (λj C=>∀L' sp' rs' mk' kvs ep,BY G (L.length::(L.length+1)::(L.length+2)::X) L' t g m nd nn rt W es sp' rs' mk'->sp <+: sp'->mk'.length<=mk.length+j*Bc G.length l->rs'.length<=rs.length+j*Bc G.length l ->
   ED L' L.length ((DB G l rest ((BH G (l+1) rest).take j)).2:Int) (L.length+1) kvs ep->Paired (Ew G sp' l) (DB G l rest ((BH G (l+1) rest).take j)).1 kvs->L'[L.length+2]?=some (.lst ((BH G (l+1) rest).map Ad))->Av [nd,nn] L L' ->
   ∀e4 e5 e6,C [some (.ref t),some (.int ((l+1:Nat):Int)),some (Ad rest),some (.ref L.length),e4,e5,e6] L') _ 0 _ _ (λC kk=>kk _ sp rs mk [] 0 T2 (AW _) (by omega) (by omega) n2 .nil a2 (.of_pre (p1.trans p2)) none none none) ?_ ?_
  .intro i x hx C C' fi kk L' sp' rs' mk' kvs ep T' psp hmk hrs' nA pA hL' hk e4 e5 e6;refine fi _ _ (decide_eq_true hL') ?_;rw[Ar] at hx;obtain⟨a,hse,hx⟩:=mS hx;cases hx;have hi:i<(BH G (l+1) rest).length:=(Ax.mp hse).1;have haG:=Iy (Bk hse)
   have hst:DB G l rest ((BH G (l+1) rest).take (0+i+1))=DC G l rest (DB G l rest ((BH G (l+1) rest).take (0+i))) a:=by unfold DB;rw[SI hse]
   have hmul:(i+1)*Bc G.length l<=G.length*Bc G.length l:=ALm _ (by omega);have hcn:Bc G.length (l+1)=1+G.length*Bc G.length l:=rfl;rw[ALg,Nat.one_mul] at hmul;have hstep:(0+i+1)*Bc G.length l=(0+i)*Bc G.length l+Bc G.length l:=by rw[ALg (0+i) 1,Nat.one_mul]
   have hzi:(0+i)*Bc G.length l=i*Bc G.length l:=by rw[BR]
   have hmk2:mk'.length+Bc G.length l<=16000000:=by omega
   have hrs2:rs'.length+Bc G.length l<=16000000:=by omega
   rfl';refine AG2 (by rw[hGn a haG,hr]) (by omega) (λhb=>?_) (λb hb=>?_)
   .have e7:DC G l rest (DB G l rest ((BH G (l+1) rest).take (0+i))) a=DB G l rest ((BH G (l+1) rest).take (0+i)):=by unfold DC;rw[hb]
    rw[hst,e7] at kk;rfl';exact kk _ sp' rs' mk' kvs ep T' psp (by omega) (by omega) nA pA hL' hk _ _ _
   .rfl';refine Jc rfl ?_;have ec:((l+1:Nat):Int)-1=(l:Int):=by omega
    rfl';rw[ec];refine ih T' (λy hy=>?_) (by rw[SX hb,hr]) hmk2 hrs2 λL3 sp3 rs3 mk3 k3 T3 psp3 hmk3' hrs3 nk3 hk3=>?_
    .have hkl:=hk.1;have hl2:=DG hL';simp only[AX] at hy;rcases hy with rfl|rfl|rfl|hy
     .omega
     .omega
     .omega
     .have:=hX y hy;omega
    have nA3:ED L3 L.length ((DB G l rest ((BH G (l+1) rest).take (0+i))).2:Int) (L.length+1) kvs ep:=⟨hk3.get (hfree _ (Af _)) nA.1,hk3.get (hfree _ (by omega)) nA.2⟩;have hL3:L3[L.length+2]?=some (.lst ((BH G (l+1) rest).map Ad)):=hk3.get (hfree _ (by omega)) hL';have pA3:Paired (Ew G sp3 l) (DB G l rest ((BH G (l+1) rest).take (0+i))).1 kvs:=RQ pA λ_ _=>Ew.mono psp3;have hone:=nk3.one;rfl';refine BN (λhne=>?_) (λhne=>?_)
    .have hk1:k3=1:=by omega
     have hw0:=hone.mp hk1;have e7:DC G l rest (DB G l rest ((BH G (l+1) rest).take (0+i))) a=DB G l rest ((BH G (l+1) rest).take (0+i)):=by unfold DC;rw[hb];simp only;rw[if_pos hw0]
     rw[hst,e7] at kk;rfl';exact kk _ sp3 rs3 mk3 kvs ep T3 (psp.trans psp3) (by omega) (by omega) nA3 pA3 hL3 (hk.trans hk3) _ _ _
    .have hk1:k3≠1:=by omega
     have hw0:AM G l b≠0:=λz=>hk1 (hone.mpr z)
     have e7:DC G l rest (DB G l rest ((BH G (l+1) rest).take (0+i))) a=((DB G l rest ((BH G (l+1) rest).take (0+i))).1++[(a,(DB G l rest ((BH G (l+1) rest).take (0+i))).2,b)],(DB G l rest ((BH G (l+1) rest).take (0+i))).2+CN G a*AM G l b):=by unfold DC;rw[hb];simp only;rw[if_neg hw0]
     rw[hst,e7] at kk
     have hknew:kfD (Ad a)∉kvs.map (·.1):=by rw[OE pA3];intro hm;obtain⟨y,hy,hy2⟩:=Aq.mp hm;have hya:=Dh.kf hy2;have hsub:=(OD G l rest ((BH G (l+1) rest).take (0+i))).subset (CG (f:=λx:ANE×Nat×ANE=>x.1) hy);have hnd:((BH G (l+1) rest).take (0+i+1)).Nodup:=List.Sublist.nodup (List.take_sublist _ _) (Uh hG _ _);rw[Hi hse,Gp] at hnd;exact hnd.2.2 _ hsub a (by simp) hya
     have hkvl:kvs.length<=i:=by have h1:=congrArg List.length (OE pA3);rw[Aa,Aa] at h1;have h2:=(OD G l rest ((BH G (l+1) rest).take (0+i))).length_le;rw[Aa,EW] at h2;omega
     generalize hwz:(DB G l rest ((BH G (l+1) rest).take (0+i))).2=wz at *;generalize haz:(DB G l rest ((BH G (l+1) rest).take (0+i))).1=az at *;have n3a:=nA3.1;rfl';refine SG (kk:=kfD (Ad a)) nA3.2 (by omega) (Dh.key a) ?_;have hput:=λd ep=>NE (d:=d) (ep:=ep) hknew;rw[(hput _ 0).1,(hput .non _).2];generalize hL4:L3.set (L.length+1) (.dt (kvs++[(kfD (Ad a),.tup [.int (wz:Int),.int (k3:Int)])]) (ep+1))=L4;have T4:BY G (L.length::(L.length+1)::(L.length+2)::X) L4 t g m nd nn rt W es sp3 rs3 mk3:=by rw[<-hL4];exact T3.setX (by simp) _
     have nA4:ED L4 L.length (wz:Int) (L.length+1) (kvs++[(kfD (Ad a),.tup [.int (wz:Int),.int (k3:Int)])]) (ep+1):=by rw[<-hL4];exact⟨Fl (by omega) nA3.1,Ch nA3.2⟩
     have hL4':L4[L.length+2]?=some (.lst ((BH G (l+1) rest).map Ad)):=by rw[<-hL4];exact Fl (by omega) hL3
     have hk4:Av [nd,nn] L L4:=by rw[<-hL4];exact(hk.trans hk3).set (.inr (by omega))
     have ht4:=T4.t_;obtain⟨epg,hg4⟩:=T4.g_.at_;have hnd4:=T4.nd_;obtain⟨ds,hds,hsz⟩:=XQ haG;obtain⟨q,hq1,hq2⟩:=T4.g_.get Dh (k:=a) (ds:=ds) (by rw[T4.gc];exact hds);obtain⟨r0,a0,kv0,ep0,hr0,m0,_⟩:=T4.node nk3 hk1;have n4a:=nA4.1;have m0a:=m0.1;rfl';refine AG7 nA4.1 (by simp) rfl ?_;rfl';refine Ht (kk:=kfD (Ad a)) hg4 (Dh.key a) hq1 ?_;rfl';refine Bp (d:=.ref r0) hnd4 (Di (by rw[Ar,hr0];rfl)) ?_;rfl';refine Cs (GO (by have:=hGs a haG;rw[hsz] at this;omega)) ?_;refine⟨_,_,rfl,n4a,by show 2<1000;decide,?_⟩;refine kk _ sp3 rs3 mk3 _ (ep+1) (T4.setX (by simp) _) (psp.trans psp3) (by omega) (by omega) ⟨?_,Fl (by omega) nA4.2⟩ (ADh pA3 ⟨k3,rfl,nk3⟩) (Fl (by omega) hL4') (hk4.set (.inr (Af _))) _ _ _;rw[Ch n4a,hsz];push_cast;rfl
  .intro C' fi L' sp' rs' mk' kvs ep T' psp hmk hrs' nA pA hL' hk e4 e5 e6;rw[Aa,BR] at hmk hrs';have hmx:=ALm (Bc G.length l) htl;refine fi _ _ (decide_eq_true hL') (kk _ sp' rs' mk' kvs ep T' psp (by omega) (by omega) ?_ ?_ hk _ _ _)
   .rw[Aa,BR,Ei,Ya] at nA;exact nA
   .rw[Aa,BR,Ei] at pA;exact pA
 intro L3 sp' rs' mk' kvs ep T' psp hmk hrs' nA pA hk e4 e5 e6;have TX:BY G X L3 t g m nd nn rt W es sp' rs' mk':=T'.more λy hy=>.inl (by simp[hy]);have n3a:=nA.1;have ht3:=TX.t_;have hnd3:=TX.nd_;rfl';refine BN (λhw0=>?_) (λhw0=>?_)
 .have hw:AM G (l+1) rest=0:=by omega
  rfl';have hcn:Bc G.length (l+1)=1+G.length*Bc G.length l:=rfl;refine⟨λhp _=>?_,h L3 sp' rs' mk' 1 TX psp hmk (by omega) (.inl ⟨hw,rfl⟩) hk⟩;exact h L sp rs mk 1 T (AW _) (by omega) (by omega) (.inl ⟨hw,rfl⟩) (.refl _ _)
 .have hw:AM G (l+1) rest≠0:=by omega
  have hmx:=hz;have hcn:Bc G.length (l+1)=1+G.length*Bc G.length l:=rfl;rfl';refine GR hnd3 (by rw[Aa];omega) ?_;have hnd5:(L3.set nd (.lst (rs'.map (λp=>D.ref p.1)++[.ref L.length])))[nd]?=some (.lst (rs'.map (λp=>D.ref p.1)++[.ref L.length])):=Ch hnd3;have ht5:(L3.set nd (.lst (rs'.map (λp=>D.ref p.1)++[.ref L.length])))[t]?=some (.ins ANM (Mx W g m nd nn rt)):=Nd hnd3 ht3 (by simp);rfl';have el:(((rs'.map (λp=>D.ref p.1)++[D.ref L.length]).length:Nat):Int)-1=((sp'.length+2:Nat):Int):=by rw[By,Aa,T'.len];simp
  rw[el];have hndn:nd≠L.length/\nd≠L.length+1:=by have:=DG T.nd_;omega
  have pq:sp' <+: sp'++[(l,rest)]:=Ai _ _
  have T5:BY G X (L3.set nd (.lst (rs'.map (λp=>D.ref p.1)++[.ref L.length]))) t g m nd nn rt W es (sp'++[(l,rest)]) (rs'++[(L.length,L.length+1)]) mk':=by
   have stay:∀j,j≠nd->(L3.set nd (.lst (rs'.map (λp=>D.ref p.1)++[.ref L.length])))[j]?=L3[j]?:=λj hj=>EI (Ne.symm hj);obtain⟨epg,hg0⟩:=TX.g_.at_;obtain⟨epn,hnn0⟩:=TX.nn_;have ne1:g≠nd:=λz=>by rw[z,hnd3] at hg0;cases hg0
   have ne2:nn≠nd:=λz=>by rw[z,hnd3] at hnn0;cases hnn0
   refine⟨ht5,TX.g_.same (stay g ne1) λq hq=>stay q λz=>TX.ndg (z▸hq),TX.gc,by rw[hnd5];simp,⟨epn,(stay nn ne2).trans hnn0⟩,λe he=>(TX.mk_ e he).mono pq,by rw[By,By,TX.len];simp,?rsl,λi r a hi=>?_,TX.ndg,TX.nng,λp hp=>?_,λx hx=>?_⟩
   case rsl =>
    have hcn:Bc G.length (l+1)=1+G.length*Bc G.length l:=rfl;rw[By];simp only[List.length_singleton];omega
   .by_cases hlt:i<rs'.length
    .rw[Ey hlt] at hi;have hN:=TX.nod i r a hi;obtain⟨w0,kv0,ep0,m0⟩:=hN.node;refine hN.mono pq (stay r λz=>?_) (stay a λz=>?_)
     .have:=m0.1;rw[z,hnd3] at this;cases this
     .have:=m0.2;rw[z,hnd3] at this;cases this
    .have hi':i=sp'.length+2:=by
      have:=(Ax.mp hi).1;rw[By,TX.len] at this;rw[TX.len] at hlt;simp at this;omega
     subst hi';rw[ALp (by rw[TX.len];exact Af _),TX.len,Nat.sub_self] at hi;cases hi;exact⟨l,rest,kvs,ep,by simp,⟨(stay _ (Ne.symm hndn.1)).trans nA.1,(stay _ (Ne.symm hndn.2)).trans nA.2⟩,hl1,RQ pA λ_ _=>Ew.mono (by rw[List.take_left];exact AW _)⟩
   .rcases Bi.mp hp with hp|hp
    .exact TX.nnr p hp
    .have:p=(L.length,L.length+1):=by simpa using hp
     subst this;obtain⟨ep0,h0⟩:=T.nn_;have:=DG h0;show nn≠L.length+1;omega
   .obtain⟨h1,h2,h3,h4,h5,h6⟩:=TX.out x hx;refine⟨h1,h2,h3,h4,h5,λp hp=>?_⟩;rcases Bi.mp hp with hp|hp
    .exact h6 p hp
    .have:p=(L.length,L.length+1):=by simpa using hp
     subst this;have:=hX x hx;exact⟨by show x≠L.length;omega,by show x≠L.length+1;omega⟩
  refine⟨λhp _=>?_,h _ (sp'++[(l,rest)]) (rs'++[(L.length,L.length+1)]) mk' (sp'.length+2) T5 (psp.trans pq) hmk (by simp;omega) (.inr ⟨hw,sp'.length,rfl,by simp⟩) (hk.set (.inl (by simp)))⟩;have hbad:=VJ T T5 (psp.trans pq) hp;have:=congrArg List.length hbad;have hl:=psp.length_le;rw[By] at this;simp at this;omega
abbrev EM(mk:List ((Nat×ANE)×Nat))(k:Nat×ANE)(v:Nat):List ((Nat×ANE)×Nat):=if k∈mk.map (·.1) then mk.map (λe=>if e.1=k then (e.1,v) else e) else mk++[(k,v)]
def ACT(mk:List ((Nat×ANE)×Nat))(k:Nat×ANE)(v:Nat):(EM mk k v).length<=mk.length+1:=by
 unfold EM;split
 .rw[Aa];omega
 .simp
def ACS{mk:List ((Nat×ANE)×Nat)}{k:Nat×ANE}{v:Nat}{e:(Nat×ANE)×Nat}(h:e∈EM mk k v):e∈mk\/e=(k,v):=by
 unfold EM at h;split at h
 .obtain⟨x,hx,rfl⟩:=Aq.mp h
  by_cases z:x.1=k
  .rw[if_pos z];exact .inr (by rw[z])
  .rw[if_neg z];exact .inl hx
 .rcases Bi.mp h with h|h
  .exact .inl h
  .exact .inr (by simpa using h)
def AB9(mk:List ((Nat×ANE)×Nat))(k:Nat×ANE)(v:Nat):Dw (EM mk k v)=Cp (Dw mk) (kfD (Dy k)) (.int (v:Int)):=by
 by_cases h:k∈mk.map (·.1)
 .have h2:((Dw mk).any λkv=>decide (kv.1=kfD (Dy k)))=true:=by
   obtain⟨e,he,rfl⟩:=Aq.mp h;rw[List.any_eq_true];exact⟨(kfD (Dy e.1),.int (e.2:Int)),CG (f:=λe:(Nat×ANE)×Nat=>(kfD (Dy e.1),D.int (e.2:Int))) he,by simp⟩
  unfold Cp;rw[if_pos h2];unfold EM;rw[if_pos h];unfold Dw;rw[CH,CH];apply GB;intro e _
  show(kfD (Dy (if e.1=k then (e.1,v) else e).1),D.int ((if e.1=k then (e.1,v) else e).2:Int))=if kfD (Dy e.1)=kfD (Dy k) then (kfD (Dy e.1),D.int (v:Int)) else (kfD (Dy e.1),D.int (e.2:Int))
  by_cases z:e.1=k
  .rw[if_pos z,if_pos (by rw[z])]
  .rw[if_neg z,if_neg (λy=>z (IQ.kf y))]
 .have hn:kfD (Dy k)∉(Dw mk).map (·.1):=λhm=>by
   unfold Dw at hm;rw[CH] at hm;obtain⟨e,he,h2⟩:=Aq.mp hm;exact h (by rw[<-IQ.kf h2];exact CG he)
  rw[(NE (ep:=0) hn).1];unfold EM;rw[if_neg h];unfold Dw;rw[DM];rfl
def AEr(mk:List ((Nat×ANE)×Nat))(k:Nat×ANE)(v:Nat):BP (Dw (EM mk k v)) (kfD (Dy k))=some (.int (v:Int)):=by
 rw[Wa]
 have hin:k∈(EM mk k v).map (·.1):=by
  unfold EM
  by_cases h:k∈mk.map (·.1)
  .rw[if_pos h,CH];obtain⟨e,he,hek⟩:=Aq.mp h;refine Aq.mpr ⟨e,he,?_⟩
   show(if e.1=k then (e.1,v) else e).1=k
   rw[if_pos hek];exact hek
  .rw[if_neg h];simp
 obtain⟨e,hf,he,hk⟩:=GU hin;rw[hf];unfold EM at he
 by_cases h:k∈mk.map (·.1)
 .rw[if_pos h] at he;obtain⟨x,_,rfl⟩:=Aq.mp he
  by_cases z:x.1=k
  .rw[if_pos z];rfl
  .rw[if_neg z] at hk;exact absurd hk z
 .rw[if_neg h] at he;rcases Bi.mp he with he|he
  .exact absurd (by rw[<-hk];exact CG he) h
  .have:e=(k,v):=by simpa using he
   rw[this];rfl
def WH{G:Ah}{n:Nat}(hG:(G.map (·.1)).Nodup)(hGn:∀a∈G.map (·.1),a.length=n)(hn:n<=1000)(hGl:G.length<=16000000)(hGs:∀a∈G.map (·.1),CN G a<=16777216):∀(l f:Nat),l<f->f<=1000->Sm G n l f
 |0,0,hf,_=>absurd hf (by omega)
 |0,f+1,hf,hf1=>by
  intro T hX hr hz hrs h;rename_i X L t g m nd nn rt W es sp rs mk Q rest;unfold zh;refine BZ rfl ?_;unfold MO;simp only[Lk];rfl';exact⟨rfl,AW _,h L sp rs mk 0 T (AW _) (by omega) (by omega) rfl (.refl _ _)⟩
 |l+1,0,hf,_=>absurd hf (by omega)
 |l+1,f+1,hf,hf1=>by
  intro T hX hr hz hrs h;rename_i X L t g m nd nn rt W es sp rs mk Q rest;have ih:Sm G n l f:=WH hG hGn hn hGl hGs l f (by omega) (by omega);unfold zh;refine Ke rfl ?_;unfold MO;have ht:=T.t_;obtain⟨epn,hnn⟩:=T.nn_;have hcn:Bc G.length (l+1)=1+G.length*Bc G.length l:=rfl;rfl';refine SD hnn (IQ.key (l+1,rest)) ?_;have hlk:=Wa mk (l+1,rest)
  cases hf:mk.find? (λe=>decide (e.1=(l+1,rest))) with
  |some e =>
   rw[hf] at hlk;have hem:=AL6 hf;have hek:e.1=(l+1,rest):=by have:=AMU hf;simpa using this
   have hnum:=T.mk_ e hem;rw[hek] at hnum;rw[hlk];rfl';refine Jc rfl ?_;rfl';refine Ht (kk:=kfD (Dy (l+1,rest))) hnn (IQ.key (l+1,rest)) hlk ?_;refine⟨λ_ _=>h L sp rs mk e.2 T (AW _) (by omega) (by omega) hnum (.refl _ _),h L sp rs mk e.2 T (AW _) (by omega) (by omega) hnum (.refl _ _)⟩
  |none =>
   rw[hf] at hlk;rw[hlk];rfl';refine Nz rfl ?_;rfl';refine AEK (by omega) ih hG hGn hn hGl hGs T hX hr hz hrs λL2 sp2 rs2 mk2 k2 T2 psp2 hmk2 hrs2 nk2 hk2=>?_;have ht2:=T2.t_;obtain⟨ep2,hnn2⟩:=T2.nn_;rfl';refine SG (kk:=kfD (Dy (l+1,rest))) hnn2 (by unfold Dw;rw[Aa];omega) (IQ.key (l+1,rest)) ?_;have hput:=AB9 mk2 (l+1,rest) k2;rw[<-hput];have hlk3:=AEr mk2 (l+1,rest) k2;have ne1:nn≠nd:=λz=>by have:=T2.nd_;rw[<-z,hnn2] at this;cases this
   generalize hep:epN (Dw mk2) (kfD (Dy (l+1,rest))) ep2=ep3;have hnn3:(L2.set nn (.dt (Dw (EM mk2 (l+1,rest) k2)) ep3))[nn]?=some (.dt (Dw (EM mk2 (l+1,rest) k2)) ep3):=Ch hnn2;have stay:∀j,j≠nn->(L2.set nn (.dt (Dw (EM mk2 (l+1,rest) k2)) ep3))[j]?=L2[j]?:=λj hj=>EI (Ne.symm hj);have ht3:(L2.set nn (.dt (Dw (EM mk2 (l+1,rest) k2)) ep3))[t]?=some (.ins ANM (Mx W g m nd nn rt)):=Nd hnn2 ht2 (by simp)
   have T3:BY G X (L2.set nn (.dt (Dw (EM mk2 (l+1,rest) k2)) ep3)) t g m nd nn rt W es sp2 rs2 (EM mk2 (l+1,rest) k2):=by
    refine⟨ht3,T2.g_.same (stay g (Ne.symm T2.nng)) λq hq=>stay q λz=>?_,T2.gc,(stay nd (Ne.symm ne1)).trans T2.nd_,⟨ep3,hnn3⟩,λe he=>?_,T2.len,T2.rsl,λi r a hi=>?_,T2.ndg,T2.nng,T2.nnr,T2.out⟩
    .obtain⟨e,he,rfl⟩:=Aq.mp hq;have:=T2.g_.it e he;rw[z,hnn2] at this;cases this
    .rcases ACS he with h'|rfl
     .exact T2.mk_ e h'
     .exact nk2
    .have hN:=T2.nod i r a hi;obtain⟨w0,kv0,ep0,m0⟩:=hN.node;refine hN.mono (AW _) (stay r λz=>?_) (stay a λz=>?_)
     .have:=m0.1;rw[z,hnn2] at this;cases this
     .exact T2.nnr _ (Bk hi) z.symm
   have hml:=ACT mk2 (l+1,rest) k2;rfl';refine Ht (kk:=kfD (Dy (l+1,rest))) hnn3 (IQ.key (l+1,rest)) hlk3 ?_;refine⟨λhp _=>?_,h _ sp2 rs2 _ k2 T3 psp2 (by omega) (by omega) nk2 (hk2.set (.inl (by simp)))⟩;have hsp:=VJ T T3 psp2 hp;rw[hsp] at nk2;exact h L sp rs mk k2 T (AW _) (by omega) (by omega) nk2 (.refl _ _)
def XH{w:ANE}:∀(A:List (ANE×List D)) {c:List (ANE×List D)} {a:ANE} {ps:List D},(a,ps)∈A.foldl (BX w) c->∀p∈ps,(∃qs,(a,qs)∈c/\p∈qs)\/∃x∈A,x.1=a/\p∈x.2
 |[],c,a,ps,h,p,hp=>.inl ⟨ps,h,hp⟩
 |x::A,c,a,ps,h,p,hp=>by
  rcases XH A (c:=BX w c x) h p hp with⟨qs,h1,h2⟩|⟨y,hy,h1,h2⟩
  .unfold BX at h1;split at h1
   .rcases Ig h1 with h'|⟨h3,h'|⟨zs,h',h4⟩⟩
    .exact .inl ⟨qs,h',h2⟩
    .exact .inr ⟨x,Az,h3.symm,by rw[<-h'];exact h2⟩
    .rw[h4] at h2;rcases Bi.mp h2 with h2|h2
     .exact .inl ⟨zs,by rw[h3];exact h',h2⟩
     .exact .inr ⟨x,Az,h3.symm,h2⟩
   .exact .inl ⟨qs,h1,h2⟩
  .exact .inr ⟨y,BA _ hy,h1,h2⟩
def Vm{ts:ANE}:∀(A:List D) {c:List (ANK×List D)} {a:ANK} {ps:List D},(a,ps)∈A.foldl (Bv ts) c->∀p∈ps,(∃qs,(a,qs)∈c/\p∈qs)\/(p∈A/\EL ts p=some a)
 |[],c,a,ps,h,p,hp=>.inl ⟨ps,h,hp⟩
 |x::A,c,a,ps,h,p,hp=>by
  rcases Vm A (c:=Bv ts c x) h p hp with⟨qs,h1,h2⟩|⟨h1,h2⟩
  .unfold Bv at h1
   cases e:EL ts x with
   |none=>rw[e] at h1;exact .inl ⟨qs,h1,h2⟩
   |some ks =>
    rw[e] at h1
    have hx:∀p,p∈[x]->(p∈x::A/\EL ts p=some ks):=λp hp=>by
     have:p=x:=by simpa using hp
     subst this;exact⟨Az,e⟩
    rcases Ig h1 with h'|⟨h3,h'|⟨zs,h',h4⟩⟩
    .exact .inl ⟨qs,h',h2⟩
    .rw[h'] at h2;rw[h3];exact .inr (hx p h2)
    .rw[h4] at h2;rcases Bi.mp h2 with h2|h2
     .exact .inl ⟨zs,by rw[h3];exact h',h2⟩
     .rw[h3];exact .inr (hx p h2)
  .exact .inr ⟨BA _ h1,h2⟩
def Vj{ts:ANE}{ks:ANK}{ps:List D}(h:(ks,ps)∈Bl ts){p:D}(hp:p∈ps):p∈Cq/\EL ts p=some ks:=by
 rcases Vm Cq h p hp with⟨_,h1,_⟩|h1
 .cases h1
 .exact h1
def XI{w:ANE}:∀(A:List (ANE×List D)) {c:List (ANE×List D)} {a:ANE},a∈(A.foldl (BX w) c).map (·.1)->a∈c.map (·.1)\/∃x∈A,x.1=a
 |[],c,a,h=>.inl h
 |x::A,c,a,h=>by
  rcases XI A (c:=BX w c x) h with h1|⟨y,hy,h1⟩
  .unfold BX at h1;split at h1
   .rw[Sf] at h1;split at h1
    .exact .inl h1
    .rcases Bi.mp h1 with h1|h1
     .exact .inl h1
     .have h5:a=x.1:=by simpa using h1
      exact .inr ⟨x,Az,h5.symm⟩
   .exact .inl h1
  .exact .inr ⟨y,BA _ hy,h1⟩
def OI{ws ts:ANE}{x:ANE×List D}(h:x∈CU ws ts++Ed ts (Bl ts)):(∃w∈ws,x=(ts.map (λ_=>w),[Gr w]))\/∃s∈Bl ts,∃e∈Bl ts,∃d∈DV,Es ts s.1 e.1=true/\x=Fq ts s e d:=by
 rcases Bi.mp h with h|h
 .obtain⟨w,hw,rfl⟩:=Aq.mp h;exact .inl ⟨w,hw,rfl⟩
 .obtain⟨s,hs,h⟩:=Dc.mp h;obtain⟨e,he,h⟩:=Dc.mp h;unfold CQ at h;split at h
  .obtain⟨d,hd,rfl⟩:=Aq.mp h;exact .inr ⟨s,hs,e,he,d,hd,by assumption,rfl⟩
  .cases h
def XN{ws ts w:ANE}{a:ANE}(h:a∈(CZ ws ts w).map (·.1)):a.length=ts.length:=by
 rcases XI _ h with h|⟨x,hx,rfl⟩
 .cases h
 .rcases OI hx with⟨w,_,rfl⟩|⟨s,_,e,_,d,_,_,rfl⟩
  .simp
  .unfold Fq;simp[SO]
def XM(ws ts w:ANE):((CZ ws ts w).map (·.1)).Nodup:=XG _ .nil
abbrev ON(ws ts:ANE)(a:ANE)(p:D):Prop:=EB ws p/\dNK p=some (kfD p)/\∀i,i<ts.length->Bg (ts.getD i "") p=.str (a.getD i "")
def Ro{ts:ANE}{p:D}{ks:ANK}(h:EL ts p=some ks){i:Nat}(hi:i<ts.length):DF p (ts.getD i "")=.int (ks.getD i 0):=by
 have e:=Ku h;have hl:ks.length=ts.length:=by have:=congrArg List.length e;simpa using this.symm
 have h1:=congrArg (λl=>l[i]?) e;simp only[Ar] at h1;have e1:ts[i]?=some (ts.getD i ""):=by simp[hi]
 have e2:ks[i]?=some (ks.getD i 0):=by simp[hl,hi]
 rw[e1,e2] at h1;exact Option.some.inj h1
def XJ{ws ts w:ANE}{a:ANE}{ps:List D}(h:(a,ps)∈CZ ws ts w){p:D}(hp:p∈ps):ON ws ts a p:=by
 rcases XH _ h p hp with⟨_,h1,_⟩|⟨x,hx,rfl,h2⟩
 .cases h1
 .rcases OI hx with⟨w,hw,rfl⟩|⟨s,hs,e,he,d,hd,hlt,rfl⟩
  .have:p=Gr w:=by simpa using h2
   subst this;refine⟨.inl ⟨w,hw,rfl⟩,Kt rfl,λi hi=>?_⟩;have:(ts.map λ_=>w).getD i ""=w:=by simp[hi]
   rw[this];rfl
  .unfold Fq EQ at h2;simp only[Dc,Aq] at h2;obtain⟨x,hx,y,hy,rfl⟩:=h2;obtain⟨hx1,hx2⟩:=Vj (ks:=s.1) (ps:=s.2) hs hx;obtain⟨hy1,hy2⟩:=Vj (ks:=e.1) (ps:=e.2) he hy;have px:=RI x hx1;have py:=RI y hy1
   have hdd:Lc d:=by simp only[DV,AX,Db,or_false] at hd;exact hd
   refine⟨.inr ⟨d,x,y,rfl,hdd,px,py⟩,?_,λi hi=>?_⟩
   .obtain⟨k,n,e,rfl,_⟩:=px;obtain⟨k',n',e',rfl,_⟩:=py;exact Kt rfl
   .have i1:=Ro hx2 hi;have i2:=Ro hy2 hi;have hl:=of_decide_eq_true (Bu.mp hlt i (CM.mpr hi))
    have ec:((EO ts s.1 e.1 ts.length).map (Do d)).getD i ""=Do d (Txt.slice (ts.getD i "") (some (s.1.getD i 0)) (some (e.1.getD i 0))):=by unfold EO;simp[hi]
    show Bg (ts.getD i "") (.tup [.str d,x,y])=.str (((EO ts s.1 e.1 ts.length).map (Do d)).getD i "");rw[ec];obtain⟨k',n',e',rfl,_⟩:=py;rw[JB];rw[i1,i2];simp only;rw[if_neg (by omega)]
def YJ{U:Type}{p q:U->Bool}(h:∀x,p x=true->q x=false):∀l:List U,l.countP p+l.countP q<=l.length
 |[]=>by simp
 |x::l=>by
  have ih:=YJ h l;rw[AMG,AMG,Dd]
  cases hp:p x with
  |false=>cases hq:q x <;> simp <;> omega
  |true=>rw[h x hp];simp;omega
abbrev GK{U:Type}(r:U->U->Bool)(l m:List U):Nat:=(l.map λx=>m.countP (r x)).sum
def ADk{U:Type}(r:U->U->Bool)(x:U)(l m:List U):GK r l (x::m)=GK r l m+l.countP (λy=>r y x):=by
 unfold GK
 induction l with
 |nil=>rfl
 |cons y l ih =>
  rw[Aj,Aj,Ex,Ex,ih,AMG,AMG];omega
def Vw{U:Type}{r:U->U->Bool}(h:∀x y,r x y=true->r y x=false):∀l:List U,2*GK r l l<=l.length*l.length
 |[]=>by simp[GK]
 |x::l=>by
  have ih:=Vw h l
  have hx:r x x=false:=by
   cases e:r x x with
   |false=>rfl
   |true=>rw[h x x e] at e;cases e
  have e1:GK r (x::l) (x::l)=(x::l).countP (r x)+GK r l (x::l):=by unfold GK;rw[Aj,Ex]
  rw[e1,ADk,AMG,hx];have h2:=YJ (p:=r x) (q:=λy=>r y x) (λy hy=>h x y hy) l;simp only[AL5,if_false,Dd]
  have e3:(l.length+1)*(l.length+1)=l.length*l.length+2*l.length+1:=by rw[ALg,Nat.mul_add];omega
  omega
def Xe{U β:Type}(f:U->List β)(n:U->Nat)(h:∀x,(f x).length=n x):∀l:List U,(l.flatMap f).length=(l.map n).sum
 |[]=>rfl
 |x::l=>by rw[Du,By,h,Xe f n h l,Aj,Ex]
def Vy(ts:ANE)(s:ANK×List D):∀P:List (ANK×List D),(P.flatMap λe=>CQ ts s e).length=3*P.countP λe=>Es ts s.1 e.1
 |[]=>rfl
 |e::P=>by
  rw[Du,By,Vy ts s P,AMG];unfold CQ
  by_cases h:Es ts s.1 e.1=true
  .rw[if_pos h,if_pos h];simp[DV];omega
  .rw[if_neg h,if_neg h];simp
def Uu{U:Type}(f:U->Nat):∀l:List U,(l.map λx=>3*f x).sum=3*(l.map f).sum
 |[]=>rfl
 |x::l=>by rw[Aj,Ex,Uu f l,Aj,Ex];omega
def AHR(ts:ANE):(Ed ts (Bl ts)).length<=2400:=by
 have hb:=NJ ts
 have e1:(Ed ts (Bl ts)).length=3*GK (λs e=>Es ts s.1 e.1) (Bl ts) (Bl ts):=by unfold Ed;rw[Xe _ (λs=>3*(Bl ts).countP λe=>Es ts s.1 e.1) (λs=>Vy ts s _),Uu];rfl
 rw[e1]
 cases ts with
 |nil =>
  have hlen:(Bl []).length<=1:=by
   have hnd:((Bl []).map (·.1)).Nodup:=by
    have:∀(A:List D) (c:List (ANK×List D)),(c.map (·.1)).Nodup->((A.foldl (Bv []) c).map (·.1)).Nodup:=by
     intro A
     induction A with
     |nil=>intro c h;exact h
     |cons x A ih =>
      intro c h;refine ih _ ?_;unfold Bv;split
      .exact LW h
      .exact h
    exact this Cq [] .nil
   match h:Bl [] with
   |[]=>simp
   |[_]=>simp
   |a::b::r =>
    rw[h] at hnd;have h1:a.1=[]:=AL4.mp (NI (ts:=[]) (by rw[h];simp));have h2:b.1=[]:=AL4.mp (NI (ts:=[]) (by rw[h];simp));rw[Aj,Aj,Go] at hnd;exact absurd (by rw[h1,h2];simp) hnd.1
  have h2:GK (λs e:ANK×List D=>Es [] s.1 e.1) (Bl []) (Bl [])<=1:=by
   unfold GK
   match h:Bl [] with
   |[]=>simp
   |[a] =>
    simp only[Aj,AMB,Ex,List.sum_nil];have:=List.countP_le_length (p:=λe:ANK×List D=>Es [] a.1 e.1) (l:=[a]);simp at this ⊢;omega
   |a::b::r=>rw[h] at hlen;simp at hlen
  omega
 |cons t ts =>
  have h:=Vw (r:=λs e:ANK×List D=>Es (t::ts) s.1 e.1) (λs e hse=>by
   rw[AMY];intro hes;have h1:=of_decide_eq_true (Bu.mp hse 0 (CM.mpr (by simp)));have h2:=of_decide_eq_true (Bu.mp hes 0 (CM.mpr (by simp)))
   omega) (Bl (t::ts))
  have h3:(Bl (t::ts)).length*(Bl (t::ts)).length<=40*40:=ALu hb.1 hb.1;omega
def Yj{ws ts:ANE}{x:ANE×List D}(h:x∈CU ws ts++Ed ts (Bl ts)):x.2.length<=1600:=by
 rcases OI h with⟨w,_,rfl⟩|⟨s,hs,e,he,d,_,_,rfl⟩
 .simp
 .show(EQ d s.2 e.2).length<=1600;rw[Ib];exact ALu ((NJ ts).2 s hs) ((NJ ts).2 e he)
def Ry{ws:ANE}(hw:ws.length<=6)(ts w:ANE):(CZ ws ts w).length<=2406/\EY (CZ ws ts w)<=4000000/\∀e∈CZ ws ts w,e.2.length<=4000000:=by
 have hl:(CU ws ts++Ed ts (Bl ts)).length<=2406:=by
  rw[By];have:=AHR ts;have:(CU ws ts).length=ws.length:=by unfold CU;simp
  omega
 have h1:=Nb (w:=w) (CU ws ts++Ed ts (Bl ts)) LR λa ha=>Yj ha;have h2:=XD (w:=w) (m:=1600) (CU ws ts++Ed ts (Bl ts)) (c:=[]) .nil λa ha=>Yj ha;have h3:=ALm 1600 hl;have e0:EY ([]:List (ANE×List D))=0:=rfl;refine⟨?_,?_,λe he=>?_⟩
 .have:=h1.1;unfold CZ;omega
 .unfold CZ;omega
 .have:=h1.2 e he;omega
def Us{ws:ANE}(hw:ws.length<=6)(ts w:ANE){a:ANE}(h:a∈(CZ ws ts w).map (·.1)):CN (CZ ws ts w) a<=4000000:=by
 obtain⟨e,hf,he,_⟩:=GU h;have:CN (CZ ws ts w) a=e.2.length:=by unfold CN Dz;rw[hf];rfl
 rw[this];exact(Ry hw ts w).2.2 e he
abbrev BM(exs:Ee):Ee:=(Cr (exs.map Bb)).map λi=>exs.getD i ("","")
def ABZ(exs:Ee):sortP (exs.map Bb)=(BM exs).map Bb:=by unfold sortP BM;rw[CH];apply GB;intro i hi;have hi2:=CM.mp ((Kq (exs.map Bb)).mem_iff.mp hi);rw[Aa] at hi2;show(exs.map Bb).getD i D.non=Bb (exs.getD i ("",""));simp[hi2]
def NB(exs:Ee):(BM exs).Perm exs:=by have h:=(Kq (exs.map Bb)).map λi=>exs.getD i (("",""):Str×Str);rw[Aa,VZ] at h;exact h
def AHJ(exs:Ee):(exs.map Bb).all isPr=true:=by rw[Bu];intro d hd;obtain⟨e,_,rfl⟩:=Aq.mp hd;exact decide_eq_true rfl
def AFf{Q:ANn}{L:AC}{k:Nat}{exs:Ee}(e:L[k]?=some (.lst (exs.map Bb)))(hz:exs.length<64)(h:Q (.ref L.length) (L++[.lst ((BM exs).map Bb)])):W2 (LA [.ref k] L) Q:=by refine⟨_,_,?_,h⟩;unfold LA;simp only[e];rw[if_pos (by rw[AHJ,Aa];simp[hz]),ABZ]
abbrev cs(g:Nat):Nat->Nat
 |0=>0
 |j+1=>cs g j+Bc g (j+1)
abbrev HF(L:AC)(t:Nat)(ws:ANE)(G:Ah)(wd:ANE):Prop:=∀P:Prop,(∀g m nd nn rt es sp rs mk (ks:ANJ),BY G [] L t g m nd nn rt (Ad ws) es sp rs mk->(∃ep,L[m]?=some (.dt (DS (CK G)) ep))->L[rt]?=some (.lst (ks.map λ(k:Nat)=>D.int (k:Int)))->ks.length=3->(∀i k,ks[i]?=some k->Df G sp k (i+1) wd)->P)->P
def HF.pre{L L':AC}{t:Nat}{ws:ANE}{G:Ah}{wd:ANE}(T:HF L t ws G wd)(p:L <+: L'):HF L' t ws G wd:=by refine T _ λg m nd nn rt es sp rs mk ks T hm hr hk hn=>?_;obtain⟨ep,hm⟩:=hm;exact λP kp=>kp g m nd nn rt es sp rs mk ks (T.pre p) ⟨ep,CY p hm⟩ (CY p hr) hk hn
abbrev HG(b:Nat)(L:AC)(t:Nat)(ws:ANE)(G:Ah)(wd:ANE):Prop:=∀P:Prop,(∀g m nd nn rt es sp rs mk (ks:ANJ),BY G (List.range b) L t g m nd nn rt (Ad ws) es sp rs mk->(b<=m/\b<=rt)->(∃ep,L[m]?=some (.dt (DS (CK G)) ep))->L[rt]?=some (.lst (ks.map λ(k:Nat)=>D.int (k:Int)))->ks.length=3->(∀i k,ks[i]?=some k->Df G sp k (i+1) wd)->P)->P
def HG.tab{b:Nat}{L:AC}{t:Nat}{ws:ANE}{G:Ah}{wd:ANE}(T:HG b L t ws G wd):HF L t ws G wd:=by refine T _ λg m nd nn rt es sp rs mk ks T _ h1 h2 h3 h4=>?_;exact λP kp=>kp g m nd nn rt es sp rs mk ks (T.more (λ_ hy=>(nomatch hy))) h1 h2 h3 h4
def HG.pre{b:Nat}{L L':AC}{t:Nat}{ws:ANE}{G:Ah}{wd:ANE}(T:HG b L t ws G wd)(p:L <+: L'):HG b L' t ws G wd:=by refine T _ λg m nd nn rt es sp rs mk ks T hb hm hr hk hn=>?_;obtain⟨ep,hm⟩:=hm;exact λP kp=>kp g m nd nn rt es sp rs mk ks (T.pre p) hb ⟨ep,CY p hm⟩ (CY p hr) hk hn
def HG.set{b:Nat}{L:AC}{t k:Nat}{ws:ANE}{G:Ah}{wd:ANE}(T:HG b L t ws G wd)(h:k<b)(o:Ob):HG b (L.set k o) t ws G wd:=by refine T _ λg m nd nn rt es sp rs mk ks T hb hm hr hk hn=>?_;obtain⟨ep,hm⟩:=hm;exact λP kp=>kp g m nd nn rt es sp rs mk ks (T.setX (CM.mpr h) o) hb ⟨ep,Fl (by omega) hm⟩ (Fl (by omega) hr) hk hn
def AGG{x l N g:Nat}(h:x<l\/x=N+1+7\/x=N+1+8)(hg:g=l+3)(hN:g<N)(n:Nat)(hn:n<=7):x≠N+n:=by omega
def AGI{x l N g:Nat}(h:x<l\/x=N+1+7\/x=N+1+8)(hg:g=l+3)(hN:g<N):x≠g:=by omega
def AGH{x l N g:Nat}(h:x<l\/x=N+1+7\/x=N+1+8)(hg:g=l+3)(h1:x<N)(h2:g<x):False:=by omega
def AAt{Q:ANn}{L:AC}{w ex:Nat}{ws:ANE}{exs:Ee}(hw:L[w]?=some (.lst (ws.map D.str)))(hl:ws.length<=6)(he:L[ex]?=some (.lst (exs.map Bb)))(hx:Ii exs)(hxl:exs.length<60)
  (h:∀L2 t,L <+: L2->HG L.length L2 t ws (CZ ws ((BM exs).map (·.1)) ((BM exs).map (·.2))) ((BM exs).map (·.2))->Q (.ref t) L2):W2 (KU [.ref w,.ref ex] L) Q:=by
 unfold KU;refine FN rfl ?_;unfold PV;simp only[zx];have hsl:(BM exs).length=exs.length:=(NB exs).length_eq;generalize hts:(BM exs).map (·.1)=ts at h;generalize hwd:(BM exs).map (·.2)=wd at h;have htl:ts.length=exs.length:=by rw[<-hts,Aa,hsl]
 have hwl:wd.length=ts.length:=by rw[<-hts,<-hwd,Aa,Aa]
 have ok:OK ts:=⟨λy hy=>by
  rw[<-hts] at hy;obtain⟨e,he,rfl⟩:=Aq.mp hy;have:=hx e ((NB exs).mem_iff.mp he)
  exact⟨this.1,this.2.1⟩,by omega⟩
 generalize hS:BM exs=S at hts hwd hsl;rfl';refine AFf he (by omega) ?_;rw[hS];rfl'
 refine Hh (λZ=>∃e,Z=[e]) (λx=>match x with|.tup [.str a,.str b]=>.str a|_=>.non) (λacc=>decide_eq_true (AV AY)) ⟨_,rfl⟩ (by rw[Aa];omega) ?_ ?_
 .rintro x hx Z ⟨e,rfl⟩;obtain⟨y,_,rfl⟩:=Aq.mp hx;unfold Bb;rfl';refine⟨⟨_,rfl⟩,λacc=>?_⟩;rfl';exact⟨rfl,rfl⟩
 have em1:(S.map Bb).map (λx=>match x with|.tup [.str a,.str b]=>D.str a|_=>.non)=ts.map D.str:=by rw[<-hts,CH,CH];rfl
 rw[em1];rfl'
 refine Hh (λZ=>∃e,Z=[e]) (λx=>match x with|.tup [.str a,.str b]=>.str b|_=>.non) (λacc=>decide_eq_true (AV (AV AY))) ⟨_,rfl⟩ (by rw[Aa];omega) ?_ ?_
 .rintro x hx Z ⟨e,rfl⟩;obtain⟨y,_,rfl⟩:=Aq.mp hx;unfold Bb;rfl';refine⟨⟨_,rfl⟩,λacc=>?_⟩;rfl';exact⟨rfl,rfl⟩
 have em2:(S.map Bb).map (λx=>match x with|.tup [.str a,.str b]=>D.str b|_=>.non)=wd.map D.str:=by rw[<-hwd,CH,CH];rfl
 rw[em2];rfl';refine AFc (AV (AV (AV hw))) hl (AV AY) ok hwl λL1 es p1 g1 c1 a1=>?_;generalize hGg:CZ ws ts wd=G at c1 h;have hGb:G.length<=2406/\EY G<=4000000/\∀e∈G,e.2.length<=4000000:=by rw[<-hGg];exact Ry hl ts wd
 have hGnd:(G.map (·.1)).Nodup:=by rw[<-hGg];exact XM ws ts wd
 have hGn:∀a∈G.map (·.1),a.length=ts.length:=λa ha=>by rw[<-hGg] at ha;exact XN ha
 have hGs:∀a∈G.map (·.1),CN G a<=16777216:=λa ha=>by
  rw[<-hGg] at ha ⊢;have:=Us hl ts wd ha;omega
 have hGp:∀e∈G,∀p∈e.2,dNK p=some (kfD p):=λe he p hp=>by
  rw[<-hGg] at he;exact(XJ (a:=e.1) (ps:=e.2) he hp).2.1
 generalize hG:(L++[Ob.lst (S.map Bb)]++[Ob.lst (ts.map D.str)]++[Ob.lst (wd.map D.str)]).length=g at g1 a1 ⊢;have hG':g=L.length+3:=by rw[<-hG];simp
 have p1':L <+: L1:=((Ai _ _).trans ((Ai _ _).trans (Ai _ _))).trans p1;have hl1:=p1'.length_le;have gl:=g1.glt;rfl';have g1':DL Ad (L1++[Ob.ins ANM []]) g es:=g1.pre (Ai _ _);refine AAs (M:=DS (CK G)) AY g1'.glt (λL' Q' kL lL q=>?_) λL2 l2 k2 t2 m2 n2 a2 b2 nn2 rt2=>⟨rfl,?_⟩
 .have hLn:L1.length∉g::BQ es:=λhm=>by
   rcases AX.mp hm with z|z
   .omega
   .have:=g1.lt z;omega
  have gL:DL Ad L' g es:=g1'.keep kL (by simp;omega) λq hq z=>by
   have z':q=L1.length:=by simpa using z
   exact hLn (BA _ (by rw[<-z'];exact hq))
  refine AES gL (by rw[c1];exact hGp) (by rw[c1];omega) (by rw[c1];exact λe he=>by have:=hGb.2.2 e he;omega) λep=>?_;rw[c1];exact q ep
 have e1:(L1++[Ob.ins ANM []]).length=L1.length+1:=by simp
 rw[e1] at t2 m2 n2 a2 b2 nn2 rt2 l2;clear e1;generalize hN:L1.length=N at *;have adl:∀q∈BQ es,q<N:=λq hq=>by rw[<-hN];exact g1.lt hq
 have g2:DL Ad L2 g es:=g1'.keep k2 (by simp;omega) λq hq z=>by
  have:q=N:=by simpa using z
  have:=adl q hq;omega
 have T2:BY G (List.range L.length++[N+1+7,L2.length]) L2 N g (N+1) (N+1+5) (N+1+6) (N+1+7) (Ad ws) es [] [(N+1+1,N+1+2),(N+1+3,N+1+4)] []:=by
  refine⟨t2,g2,c1,n2,⟨0,nn2⟩,(λ_ hm=>(nomatch hm)),rfl,(by show 2<=16000000;decide),λi r a hr=>?_,λhm=>?_,by omega,λp hp=>?_,λx hx=>?_⟩
  .match i,hr with
   |0,hr=>cases hr;exact⟨_,a2⟩
   |1,hr=>cases hr;exact⟨_,b2⟩
   |i+2,hr=>simp at hr
  .have:=adl _ hm;omega
  .simp only[AX,Db,or_false] at hp;rcases hp with rfl|rfl
   .exact λh=>absurd (Nat.add_left_cancel h) (by decide)
   .exact λh=>absurd (Nat.add_left_cancel h) (by decide)
  .have hx2:x<L.length\/x=N+1+7\/x=N+1+8:=by
    rcases Bi.mp hx with hx|hx
    .exact .inl (CM.mp hx)
    .simp only[AX,Db,or_false] at hx;rcases hx with rfl|rfl
     .exact .inr (.inl rfl)
     .exact .inr (.inr (by omega))
   have far:∀n,n<=7->x≠N+n:=AGG hx2 hG' gl;refine⟨far 0 (EH _),AGI hx2 hG' gl,λhm=>AGH hx2 hG' (adl _ hm) (a1 _ hm),far 6 (by decide),far 7 (by decide),λp hp=>?_⟩;simp only[AX,Db,or_false] at hp;rcases hp with rfl|rfl
   .exact⟨far 2 (by decide),far 3 (by decide)⟩
   .exact⟨far 4 (by decide),far 5 (by decide)⟩
 have p2:L <+: L2:=by have:Av [N] L1 L2:=(Av.app _ _ _).trans k2;exact p1'.trans (this.mono λj hj=>.inr (by simp at hj;omega)).pre
 have ht2:=T2.t_;rfl';generalize hM:L2.length=M at *
 have hcs:∀j,j<=3->cs G.length j<=6000000:=λj hj=>by
  have hg:=hGb.1
  have e3:cs G.length 3=3+2*G.length+G.length*G.length:=by simp only[cs,Bc];simp only[Nat.mul_zero,Nat.add_zero,Nat.mul_one,Nat.mul_add];omega
  have h4:G.length*G.length<=2406*2406:=ALu hg hg
  have:cs G.length j<=cs G.length 3:=by
   match j,hj with
   |0,_=>exact EH _
   |1,_=>simp only[cs];omega
   |2,_=>simp only[cs];omega
   |3,_=>exact Af _
  omega
 refine Fc (λj Cz=>∀L':AC,∀e,∀sp rs mk,∀(ks:ANJ),BY G (List.range L.length++[N+1+7,M]) L' N g (N+1) (N+1+5) (N+1+6) (N+1+7) (Ad ws) es sp rs mk->mk.length<=cs G.length j->rs.length<=2+cs G.length j->ks.length=j->(∀i k,ks[i]?=some k->Df G sp k (i+1) wd)->Av [N+1+5,N+1+6] L2 L'->L'[M]?=some (.lst (ks.map λ(k:Nat)=>D.int (k:Int)))->Cz [e,some (.ref N),some (Ad wd)] L') _ 0 _ _ (λCz kw1=>kw1 _ _ [] _ [] [] (T2.pre (Ai _ _)) (Af _) (Af _) rfl (λi k hk=>by simp at hk) (.app _ _ _) (by rw[<-hM];exact AY)) ?_ ?_
 .rintro i x hx Cz Cy fw1 kw1 L' e sp rs mk ks T hmk hrs hks hkn k' hM';refine fw1 _ _ rfl ?_
  have hi:i<3/\x=.int ((i+1:Nat):Int):=by
   match i,hx with
   |0,hx=>cases hx;exact⟨by decide,rfl⟩
   |1,hx=>cases hx;exact⟨by decide,rfl⟩
   |2,hx=>cases hx;exact⟨by decide,rfl⟩
   |i+3,hx=>simp at hx
  obtain⟨hi,rfl⟩:=hi;have hc:=hcs (0+i+1) (by omega);have hce:cs G.length (0+i+1)=cs G.length (0+i)+Bc G.length (i+1):=by rw[BR];rfl
  rfl';refine WH hGnd hGn (by omega) (by omega) hGs (i+1) 5 (by omega) (by omega) T (λy hy=>?_) hwl (by omega) (by omega) λL3 sp3 rs3 mk3 k3 T3 psp3 hmk3 hrs3 nk3 hk3=>?_
  .have hM2:=DG hM';rcases Bi.mp hy with hy|hy
   .have:=CM.mp hy;have:=p2.length_le;omega
   .simp only[AX,Db,or_false] at hy;rcases hy with rfl|rfl <;> omega
  have hM3:L3[M]?=some (.lst (ks.map λ(k:Nat)=>D.int (k:Int))):=hk3.get (by simp;omega) hM';refine⟨_,hM3,by rw[Aa,hks];omega,kw1 _ _ sp3 rs3 mk3 (ks++[k3]) (T3.setX (by simp) _) (by omega) (by omega) (by simp[hks]) (λj k hj=>?_) ((k'.trans hk3).set (.inr (by omega))) ?_⟩
  .by_cases hlt:j<ks.length
   .rw[Ey hlt] at hj;exact(hkn j k hj).mono psp3
   .have hj':j=ks.length:=by
     have:=(Ax.mp hj).1;simp at this;omega
    subst hj';rw[ALp (Af _),Nat.sub_self] at hj;cases hj;rw[hks,BR];exact nk3
  .rw[Ch hM3];simp
 .rintro Cy fw1 L' e sp rs mk ks T hmk hrs hks hkn k' hM';refine fw1 _ _ rfl ?_;have hks3:ks.length=3:=hks;have rt':L'[N+1+7]?=some (.lst []):=k'.get (by simp) rt2;obtain⟨epm,m2⟩:=m2;have m':L'[N+1]?=some (.dt (DS (CK G)) epm):=k'.get (by simp) m2;have htk:=T.t_;rfl';refine SE rt' hM' (by simp[hks3]) ?_;rfl';refine⟨rfl,h _ N ?_ λP kp=>kp g (N+1) (N+1+5) (N+1+6) (N+1+7) es sp rs mk ks ((T.setX (by simp) _).more (λy hy=>.inl (ALh _ hy))) ⟨by omega,by omega⟩ ⟨epm,Nd rt' m' (by simp)⟩ ?_ hks3 hkn⟩
  .exact(((Av.of_pre p2).step k' λj hj=>.inr (by simp at hj;omega)).set (.inr (by omega))).pre
  .rw[Ch rt'];simp
noncomputable abbrev Arm:=ANE×Nat×ANE
abbrev Ec(z:Nat):Option Arm->List Arm->Option Arm
 |o,[]=>o
 |o,x::r=>if z<x.2.1 then o else Ec z (some x) r
abbrev CA(G:Ah):Nat->ANE->Nat->List D
 |0,_,_=>[]
 |l+1,rest,z=>match Ec z none (DA G l rest) with
  |none=>[]
  |some x=>(((Dz G x.1).getD [])[(z-x.2.1) / AM G l x.2.2]?.getD .non)::CA G l x.2.2 ((z-x.2.1) % AM G l x.2.2)
abbrev GD(G:Ah)(l:Nat)(x:Arm):Nat:=CN G x.1*AM G l x.2.2
abbrev GW(G:Ah)(l:Nat):Nat->List Arm->Nat->Prop
 |s,[],e=>s=e
 |s,x::r,e=>x.2.1=s/\0<GD G l x/\GW G l (s+GD G l x) r e
def YN{G:Ah}{l:Nat}{x:Arm}:∀{r:List Arm} {s e:Nat},GW G l s r e->x.2.1=e->0<GD G l x->GW G l s (r++[x]) (e+GD G l x)
 |[],s,e,h,h1,h2=>⟨h1.trans (Eq.symm h),h2,by show _=_;rw[show s=e from h]⟩
 |y::r,s,e,h,h1,h2=>⟨h.1,h.2.1,YN h.2.2 h1 h2⟩
def Sa{G:Ah}{l:Nat}{rest:ANE}(hp:∀a∈G.map (·.1),0<CN G a):GW G l 0 (DA G l rest) (AM G (l+1) rest):=by
 rw[<-Ya];unfold DA DB
 have:∀(xs:List (ANE)) (st:List Arm×Nat),(∀a∈xs,a∈G.map (·.1))->GW G l 0 st.1 st.2->GW G l 0 (xs.foldl (DC G l rest) st).1 (xs.foldl (DC G l rest) st).2:=by
  intro xs
  induction xs with
  |nil=>intro st _ h;exact h
  |cons x xs ih =>
   intro st hm h;refine ih _ (λa ha=>hm a (BA _ ha)) ?_;unfold DC
   cases e:DI rest x with
   |none=>exact h
   |some b =>
    simp only
    by_cases z:AM G l b=0
    .rw[if_pos z];exact h
    .rw[if_neg z];exact YN h rfl (Nat.mul_pos (hp x (hm x Az)) (Nat.pos_of_ne_zero z))
 exact this _ ([],0) (λa ha=>Iy ha) rfl
def Xk{G:Ah}{l z:Nat}{x:Arm}:∀{r:List Arm} {s e:Nat},GW G l s r e->z<s->Ec z (some x) r=some x
 |[],s,e,_,_=>rfl
 |y::r,s,e,h,hz=>by
  unfold Ec;rw[if_pos (by rw[h.1];exact hz)]
def Xl{G:Ah}{l z:Nat}:∀{r:List Arm} {s e:Nat} {o:Option Arm},GW G l s r e->s<=z->z<e->∃x∈r,Ec z o r=some x/\x.2.1<=z/\z<x.2.1+GD G l x
 |[],s,e,o,h,h1,h2=>by have:s=e:=h;omega
 |y::r,s,e,o,h,h1,h2=>by
  unfold Ec;rw[if_neg (by rw[h.1];omega)]
  by_cases hz:z<s+GD G l y
  .exact⟨y,Az,Xk h.2.2 hz,by rw[h.1];exact h1,by rw[h.1];exact hz⟩
  .obtain⟨x,hx,h3⟩:=Xl (o:=some y) h.2.2 (by omega) h2;exact⟨x,BA _ hx,h3⟩
def Ie{G:Ah}{l:Nat}{rest:ANE}{x:Arm}(h:x∈DA G l rest):x.1∈BH G (l+1) rest/\DI rest x.1=some x.2.2/\AM G l x.2.2≠0:=by
 unfold DA DB at h
 have:∀(xs:List (ANE)) (st:List Arm×Nat),x∈(xs.foldl (DC G l rest) st).1->x∈st.1\/(x.1∈xs/\DI rest x.1=some x.2.2/\AM G l x.2.2≠0):=by
  intro xs
  induction xs with
  |nil=>intro st h;exact .inl h
  |cons y xs ih =>
   intro st h;rcases ih _ h with h1|⟨h1,h2⟩
   .unfold DC at h1
    cases e:DI rest y with
    |none=>rw[e] at h1;exact .inl h1
    |some b =>
     rw[e] at h1;simp only at h1
     by_cases z:AM G l b=0
     .rw[if_pos z] at h1;exact .inl h1
     .rw[if_neg z] at h1;rcases Bi.mp h1 with h1|h1
      .exact .inl h1
      .have h1':x=(y,st.2,b):=by simpa using h1
       subst h1';exact .inr ⟨Az,e,z⟩
   .exact .inr ⟨BA _ h1,h2⟩
 rcases this _ _ h with h1|h1
 .cases h1
 .exact h1
def Uv{U:Type}{f:U->Nat}{m:Nat}:∀(l:List U),(∀x∈l,f x<=m)->(l.map f).sum<=l.length*m
 |[],_=>by simp
 |x::l,h=>by
  rw[Aj,Ex,Dd,ALg];have h1:=h x Az;have h2:=Uv l λy hy=>h y (BA _ hy);omega
structure DY (ws ts:ANE) (G:Ah):Prop where
 nd:(G.map (·.1)).Nodup
 ln:G.length<=2406
 sz:∀a∈G.map (·.1),CN G a<=4000000
 pos:∀a∈G.map (·.1),0<CN G a
 snd:∀e∈G,∀p∈e.2,ON ws ts e.1 p
 len:∀a∈G.map (·.1),a.length=ts.length
def RK{ts:ANE}:∀(A:List D) {c:List (ANK×List D)},(∀e∈c,e.2≠[])->∀e∈A.foldl (Bv ts) c,e.2≠[]
 |[],c,h=>h
 |x::A,c,h=>by
  refine RK A ?_;unfold Bv
  cases e:EL ts x with
  |none=>exact h
  |some ks =>
   rintro⟨k,qs⟩ he;rcases Ig he with h'|⟨_,h'|⟨zs,h',h4⟩⟩
   .exact h _ h'
   .simp only;rw[h'];simp
   .simp only;rw[h4];simp
def XF{w:ANE}:∀(A:List (ANE×List D)) {c:List (ANE×List D)},(∀a∈A,a.2≠[])->(∀e∈c,e.2≠[])->∀e∈A.foldl (BX w) c,e.2≠[]
 |[],c,_,h=>h
 |x::A,c,hA,h=>by
  refine XF A (λa ha=>hA a (BA _ ha)) ?_;unfold BX;split
  .rintro⟨k,qs⟩ he;have hx:=hA x Az;rcases Ig he with h'|⟨_,h'|⟨zs,h',h4⟩⟩
   .exact h _ h'
   .simp only;rw[h'];exact hx
   .simp only;rw[h4];simp[hx]
  .exact h
def Rx{ws:ANE}(hw:ws.length<=6)(ts w:ANE):DY ws ts (CZ ws ts w):=by
 refine⟨XM ws ts w,(Ry hw ts w).1,λa ha=>Us hw ts w ha,λa ha=>?_,λe he p hp=>XJ (a:=e.1) (ps:=e.2) he hp,λa ha=>XN ha⟩;obtain⟨e,hf,he,_⟩:=GU ha;have:CN (CZ ws ts w) a=e.2.length:=by unfold CN Dz;rw[hf];rfl
 rw[this];refine List.length_pos_iff.mpr (XF (w:=w) (CU ws ts++Ed ts (Bl ts)) (c:=[]) (λx hx=>?_) (by simp) e he);rcases OI hx with⟨w,_,rfl⟩|⟨s,hs,e,he,d,_,_,rfl⟩
 .simp
 .have h1:=RK (ts:=ts) Cq (c:=[]) (by simp) s hs;have h2:=RK (ts:=ts) Cq (c:=[]) (by simp) e he;intro z;have z':(EQ d s.2 e.2).length=0:=congrArg List.length z;rw[Ib] at z';rcases Nat.mul_eq_zero.mp z' with q|q
  .exact h1 (AL4.mp q)
  .exact h2 (AL4.mp q)
def UR{ws ts:ANE}{G:Ah}(K:DY ws ts G):∀(l:Nat) (rest:ANE),AM G l rest<=10000000000 ^ l
 |0,_=>by simp[AM]
 |l+1,rest=>by
  have h:=Uv (m:=4000000*10000000000 ^ l) (f:=λa=>match DI rest a with|some b=>CN G a*AM G l b|none=>0) (BH G (l+1) rest) λa ha=>by
   cases e:DI rest a with
   |none=>exact EH _
   |some b=>exact ALu (K.sz a (Iy ha)) (UR K l b)
  have h2:(BH G (l+1) rest).length<=2406:=CV Ui K.ln;have h3:=ALm (4000000*10000000000 ^ l) h2;rw[Nat.pow_succ]
  show((BH G (l+1) rest).map λa=>match DI rest a with|some b=>CN G a*AM G l b|none=>0).sum<=_
  generalize 10000000000 ^ l=B at *;omega
def AAU{ws ts:ANE}{G:Ah}(K:DY ws ts G){l:Nat}(hl:l<=3)(rest:ANE):AM G l rest<=1000000000000000000000000000000:=by refine CV (UR K l rest) (CV (Nat.pow_le_pow_right (by decide) hl) (by decide))
def RB{G:Ah}(hp:∀a∈G.map (·.1),0<CN G a){l z:Nat}{rest:ANE}(hz:z<AM G (l+1) rest):∃x∈DA G l rest,Ec z none (DA G l rest)=some x/\x.2.1<=z/\(z-x.2.1) / AM G l x.2.2<CN G x.1/\(z-x.2.1) % AM G l x.2.2<AM G l x.2.2:=by obtain⟨x,hx,h1,h2,h3⟩:=Xl (o:=none) (Sa (l:=l) (rest:=rest) hp) (EH z) hz;have hw:=(Ie hx).2.2;refine⟨x,hx,h1,h2,Nat.div_lt_of_lt_mul ?_,Nat.mod_lt _ (Nat.pos_of_ne_zero hw)⟩;unfold GD at h3;rw[Nat.mul_comm];omega
def NC{ws ts:ANE}{G:Ah}(K:DY ws ts G):∀{l z:Nat} {rest:ANE},z<AM G l rest->(CA G l rest z).length=l/\∀p∈CA G l rest z,EB ws p
 |0,z,rest,_=>⟨rfl,(λ_ h=>(nomatch h))⟩
 |l+1,z,rest,hz=>by
  obtain⟨x,hx,h1,h2,h3,h4⟩:=RB K.pos hz;have ih:=NC K h4;unfold CA;rw[h1];refine⟨by simp[ih.1],λp hp=>?_⟩;rcases AX.mp hp with hp|hp
  .obtain⟨e,hf,he,hek⟩:=GU (Iy (Ie hx).1);have hg:Dz G x.1=some e.2:=by unfold Dz;rw[hf];rfl
   have hlt:(z-x.2.1) / AM G l x.2.2<e.2.length:=by unfold CN at h3;rw[hg] at h3;exact h3
   rw[hg] at hp;have:p∈e.2:=by rw[hp];simp[hlt]
   exact(K.snd e he p this).1
  .exact ih.2 p hp
def VE{a b:Str}(h:a.cps.toList=b.cps.toList):a=b:=by obtain⟨x⟩:=a;obtain⟨y⟩:=b;have:x=y:=Array.toList_inj.mp h;rw[this]
def VM{a:Str}{n:Nat}(h:n<=a.length):(Txt.slice a (some (n:Int)) none).cps.toList=a.cps.toList.drop n:=by
 have e0:Builtin.Str.strSliceIndices (some (n:Int)) none 1 a.length=Builtin.Str.strSliceIndices (some (n:Int)) (some (a.length:Int)) 1 a.length:=by
  unfold Builtin.Str.strSliceIndices;simp only[show((1:Int)>0)=True from by simp,if_true];rw[if_neg (by omega)]
  congr 1
  omega
 have e1:=StrLaws.sliced_plain a h (Af _);have hl:(a.cps.toList.drop n).take (a.length-n)=a.cps.toList.drop n:=AMD (by rw[AL0];exact Af _);rw[hl,<-e0] at e1;unfold Txt.slice;split
 .rename_i hc;rw[Bz] at hc;have h2:=eq_of_beq hc.2;rw[e0,StrLaws.strSliceIndices_plain h (Af _),Aa,AMm] at h2
  by_cases hz:a.length=0
  .have:a.cps.toList=[]:=AL4.mp hz;rw[this];simp
  .have:n=0:=by omega
   rw[this];rfl
 .exact e1
def ABO{a b:Str}(h:Txt.startswith a b=true):a.cps.toList=b.cps.toList++(Txt.slice a (some (b.length:Int)) none).cps.toList:=by
 unfold Txt.startswith at h;rw[Bz] at h;have h1:b.length<=a.length:=by have:=of_decide_eq_true h.1;omega
 have h2:=h.2;rw[StrLaws.subAt_eq] at h2;have h3:=eq_of_beq h2;rw[ALr] at h3;rw[VM h1]
 conv=>lhs;rw[<-AMk b.length a.cps.toList]
 rw[h3]
def Wn:∀(ys:ANE),(Txt.join "" ys).cps.toList=ys.flatMap λy=>y.cps.toList:=by
 intro ys;rw[show Txt.join "" ys=Str.join "" ys from StrLaws.glued_eq_join "" ys]
 induction ys with
 |nil=>rfl
 |cons y ys ih =>
  cases ys with
  |nil=>simp[Str.join]
  |cons z ys =>
   have e:Str.join "" (y::z::ys)=y++""++Str.join "" (z::ys):=rfl;rw[e,Sb,Sb,ih,Du];have:(Str.ofString "").cps.toList=[]:=rfl;simp[this]
def AB0{ws ts:ANE}{G:Ah}(K:DY ws ts G):∀{l z:Nat} {rest:ANE},z<AM G (l+1) rest->rest.length=ts.length->∃as:List (ANE),as.length=l+1/\(∀(j:Nat) (p:D),(CA G (l+1) rest z)[j]?=some p->∃a:ANE,as[j]?=some a/\ON ws ts a p)/\∀i,i<ts.length->(as.flatMap λa=>(a.getD i "").cps.toList)=(rest.getD i "").cps.toList:=by
 have one:∀{l z:Nat} {rest:ANE},z<AM G (l+1) rest->∃x∈DA G l rest,Ec z none (DA G l rest)=some x/\(z-x.2.1) % AM G l x.2.2<AM G l x.2.2/\∃p,CA G (l+1) rest z=p::CA G l x.2.2 ((z-x.2.1) % AM G l x.2.2)/\ON ws ts x.1 p:=by
  intro l z rest hz;obtain⟨x,hx,h1,h2,h3,h4⟩:=RB K.pos hz;obtain⟨e,hf,he,hek⟩:=GU (Iy (Ie hx).1);have hg:Dz G x.1=some e.2:=by unfold Dz;rw[hf];rfl
  have hlt:(z-x.2.1) / AM G l x.2.2<e.2.length:=by unfold CN at h3;rw[hg] at h3;exact h3
  have hr:CA G (l+1) rest z=(((Dz G x.1).getD [])[(z-x.2.1) / AM G l x.2.2]?.getD .non)::CA G l x.2.2 ((z-x.2.1) % AM G l x.2.2):=by
   conv=>lhs;unfold CA
   rw[h1]
  refine⟨x,hx,h1,h4,_,hr,?_⟩;rw[hg];have hm:(((some e.2).getD [])[(z-x.2.1) / AM G l x.2.2]?).getD .non∈e.2:=by simp[hlt]
  have:=K.snd e he _ hm;rw[hek] at this;exact this
 intro l
 induction l with
 |zero =>
  intro z rest hz hr;obtain⟨x,hx,h1,h4,p,hp,hs⟩:=one hz;have hm:=Ie hx
  have hxr:x.1=rest:=by
   have:=hm.1;unfold BH at this;rw[if_pos rfl] at this;split at this
   .simpa using this
   .cases this
  refine⟨[x.1],rfl,λj q hq=>?_,λi hi=>?_⟩
  .rw[hp] at hq
   cases j with
   |zero =>
    have e:p=q:=by simpa using hq
    exact⟨x.1,rfl,e▸hs⟩
   |succ j=>simp[CA] at hq
  .rw[hxr];simp
 |succ l ih =>
  intro z rest hz hr;obtain⟨x,hx,h1,h4,p,hp,hs⟩:=one hz;have hm:=Ie hx;have hbl:=SX hm.2.1;obtain⟨as,ha1,ha2,ha3⟩:=ih h4 (hbl.trans hr);refine⟨x.1::as,by simp[ha1],λj q hq=>?_,λi hi=>?_⟩
  .rw[hp] at hq
   cases j with
   |zero =>
    have e:p=q:=by simpa using hq
    exact⟨x.1,rfl,e▸hs⟩
   |succ j =>
    obtain⟨a,h5,h6⟩:=ha2 j q (by simpa using hq);exact⟨a,by simpa using h5,h6⟩
  .rw[Du,ha3 i hi];have hb:=hm.2.1;unfold DI at hb;split at hb
   .rename_i hall;have hs:=Bu.mp hall i (CM.mpr (by omega));have hb':=Option.some.inj hb;rw[<-hb']
    have e5:(FV rest x.1 rest.length).getD i ""=Txt.slice (rest.getD i "") (some ((x.1.getD i "").length:Int)) none:=by unfold FV;simp[show i<rest.length by omega]
    rw[e5];exact(ABO hs).symm
   .cases hb
def AB2{ws ts wd:ANE}{G:Ah}(K:DY ws ts G){l z:Nat}(hz:z<AM G (l+1) wd)(hw:wd.length=ts.length){i:Nat}(hi:i<ts.length):Ez (ts.getD i "") (CA G (l+1) wd z)=.str (wd.getD i ""):=by
 obtain⟨as,ha1,ha2,ha3⟩:=AB0 K hz hw;have hlen:=(NC K hz).1
 have e1:(CA G (l+1) wd z).map (Bg (ts.getD i ""))=(as.map λa=>a.getD i "").map D.str:=by
  apply AMH;intro j;rw[Ar,Ar,Ar]
  cases hp:(CA G (l+1) wd z)[j]? with
  |none =>
   have:as[j]?=none:=by rw[AMv] at hp ⊢;omega
   rw[this];rfl
  |some p =>
   obtain⟨a,h1,h2⟩:=ha2 j p hp;rw[h1];simp only[AMC];rw[h2.2.2 i hi]
 have e2:∀ys:ANE,BW (ys.map D.str)=some ys:=λys=>by
  induction ys with
  |nil=>rfl
  |cons y ys ih=>rw[Aj];simp only[BW,ih];rfl
 unfold Ez;rw[e1,e2];simp only
 congr 1
 apply VE;rw[Wn,<-ha3 i hi,AMW]
section
variable {G:Ah}{X:ANJ}{L:AC}{t g m nd nn rt:Nat}{W:D}{es:List (ANE×Nat×List D)}{sp:List (Nat×ANE)}{rs:List (Nat×Nat)}{mk:List ((Nat×ANE)×Nat)}{Q:ANn}
def BY.ways(T:BY G X L t g m nd nn rt W es sp rs mk){k l:Nat}{rest:ANE}(h:Df G sp k (l+1) rest):∃r a,rs[k]?=some (r,a)/\L[r]?=some (.ins ANN [(ANO,.int (AM G (l+1) rest:Int)),(ANR,.ref a)]):=by
 by_cases h1:k=1
 .subst h1;have hw:=h.one.mp rfl;have hlt:1<rs.length:=by rw[T.len];omega
  obtain⟨ep,n⟩:=T.nod 1 rs[1].1 rs[1].2 (by simp[hlt]);exact⟨rs[1].1,rs[1].2,by simp[hlt],by rw[hw];exact n.1⟩
 .obtain⟨r,a,kvs,ep,e,n,_⟩:=T.node h h1;exact⟨r,a,e,n.1⟩
def ADj{U β:Type}{R:U->β->Prop}{xs:List U}{ys:List β}(h:Paired R xs ys):∀{i:Nat} {y:β},ys[i]?=some y->∃x,xs[i]?=some x/\R x y:=by
 induction h with
 |nil=>intro i y e;simp at e
 |cons r _ ih =>
  intro i y e
  cases i with
  |zero=>simp at e;subst e;exact⟨_,rfl,r⟩
  |succ i=>obtain⟨x,h1,h2⟩:=ih (i:=i) (y:=y) (by simpa using e);exact⟨x,by simpa using h1,h2⟩
def ADi{U β:Type}{R:U->β->Prop}{xs:List U}{ys:List β}(h:Paired R xs ys):∀{i:Nat} {x:U},xs[i]?=some x->∃y,ys[i]?=some y/\R x y:=by
 induction h with
 |nil=>intro i y e;simp at e
 |cons r _ ih =>
  intro i y e
  cases i with
  |zero=>simp at e;subst e;exact⟨_,rfl,r⟩
  |succ i=>obtain⟨x,h1,h2⟩:=ih (i:=i) (x:=y) (by simpa using e);exact⟨x,by simpa using h1,h2⟩
abbrev OG:Option Arm->D
 |none=>.non
 |some x=>Ad x.1
def Yf(o:Option Arm):(OG o).noRef=true:=by
 cases o with
 |none=>rfl
 |some x=>exact Ux _
def AHE{r a ep l z:Nat}{w:Int}{kvs:List (NK×D)}{arms:List Arm}(hn:ED L r w a kvs ep)(pA:Paired (Ew G sp l) arms kvs)(h:Q (OG (Ec z none arms)) L):W2 (Jx [.ref r,.int (z:Int)] L) Q:=by
 unfold Jx;refine BZ rfl ?_;unfold QS;have n1:=hn.1;have n2:=hn.2;rfl';refine Cn (λj Cz=>∀o e3 e4,Ec z o (arms.drop j)=Ec z none arms->Cz [some (.ref r),some (.int (z:Int)),some (OG o),e3,e4] L) _ 0 _ _ (λCz kz1=>kz1 none none none (by rw[ALr])) ?_ ?_
 .rintro i x hx Cz Cy fz1 kz1 o e3 e4 ho;refine fz1 _ _ (decide_eq_true n2) ?_;unfold GJ at hx;rw[Ar] at hx;obtain⟨kv,hkv,hx⟩:=mS hx;cases hx;obtain⟨y,hy,num,rfl,_⟩:=ADj pA hkv;dsimp only;rw[Dh.nk]
  have hdr:arms.drop (0+i)=y::arms.drop (0+i+1):=by rw[BR];exact(List.getElem_cons_drop (h:=(Ax.mp hy).1)).symm.trans (by rw[(Ax.mp hy).2])
  have hstep:Ec z o (y::arms.drop (0+i+1))=if z<y.2.1 then o else Ec z (some y) (arms.drop (0+i+1)):=rfl
  rw[hdr,hstep] at ho;rfl';refine BN (λhgt=>?_) (λhgt=>?_)
  .rw[if_pos (by omega)] at ho;rfl';rw[ho];exact⟨Yf _,AW _,h⟩
  .rw[if_neg (by omega)] at ho;rfl';exact kz1 (some y) _ _ ho
 .rintro Cy fz1 o e3 e4 ho;refine fz1 _ _ (decide_eq_true n2) ?_
  have hl:kvs.length=arms.length:=by have:=congrArg List.length (OE pA);rw[Aa,Aa] at this;exact this
  have e5:(GJ kvs).length=arms.length:=by unfold GJ;rw[Aa,hl]
  rw[e5,BR,AMN] at ho;have ho':o=Ec z none arms:=ho;rfl';rw[ho'];exact⟨Yf _,AW _,h⟩
def RC{ws ts:ANE}(K:DY ws ts G)(T:BY G X L t g m nd nn rt W es sp rs mk){k l z:Nat}{rest:ANE}(hk:Df G sp k l rest)(hl3:l<=3)(hz:z<AM G l rest)(hrow:(D.tup (CA G l rest z)).noRef=true)(h:Q (.tup (CA G l rest z)) L):W2 (Jv [.ref t,.int (k:Int),.int (z:Int)] L) Q:=by
 unfold Jv;refine BZ rfl ?_;unfold QN;have ht:=T.t_;have hnd:=T.nd_;obtain⟨epg,hg⟩:=T.g_.at_
 have notone:∀{k' l' z':Nat} {rest':ANE},Df G sp k' l' rest'->z'<AM G l' rest'->k'≠1:=λh1 h2 e=>by
  have:=h1.one.mp e;omega
 rfl';obtain⟨r1,a1,kv1,ep1,hr1,n1,_,_⟩:=T.node hk (notone hk hz);refine Bp (d:=.ref r1) (AV hnd) (Di (by rw[Ar,hr1];rfl)) ?_;rfl';refine AAN (λj Cz=>j<=3->∀(acc:List D) (z' k' r:Nat) (rest':ANE) (a':Nat) (e1 e2 e3 e4:Option D),Df G sp k' j rest'->rs[k']?=some (r,a')->z'<AM G j rest'->acc++CA G j rest' z'=CA G l rest z->acc.length+j<=3->Cz [some (.ref t),some (.int (k:Int)),some (.int (z':Int)),some (.ref L.length),some (.ref r),e1,e2,e3,e4] (L++[Ob.lst acc])) (n:=l) (by omega) (λCz kz=>kz hl3 [] z k r1 rest a1 none none none none hk hr1 hz rfl (by simpa using hl3)) ?_;rintro j Cz Cy fz kz hj3 acc z' k' r rest' a' e1 e2 e3 e4 hnk hrk hzk hacc hal;refine fz _ _ ?_;obtain⟨r',a'',kvs,ep',hr',n',hn0,hnS⟩:=T.node hnk (notone hnk hzk);rw[hrk] at hr';cases hr';have n'a:(L++[Ob.lst acc])[r]?=_:=AV n'.1;have n'b:(L++[Ob.lst acc])[a']?=_:=AV n'.2;have ht':(L++[Ob.lst acc])[t]?=_:=AV ht
 cases j with
 |zero =>
  rw[hn0 rfl] at n'b;have n'c:(L++[Ob.lst acc])[a']?=some (.dt [] ep'):=n'b;rfl';have ea:acc=CA G l rest z:=by simpa[CA] using hacc
  rw[ea];exact⟨hrow,Ai _ _,h⟩
 |succ j =>
  have pA:=hnS j rfl;obtain⟨x,hx,hf,hle,hdv,hmd⟩:=RB K.pos hzk;have hxm:=Ie hx;obtain⟨i,hi⟩:=AMV hx;obtain⟨y,hy,num,rfl,hnum⟩:=ADi pA hi;have hlen:0<kvs.length:=by have:=(Ax.mp hy).1;omega
  have hknd:(kvs.map (·.1)).Nodup:=by rw[OE pA];have h1:((DA G j rest').map (·.1)).Nodup:=List.Sublist.nodup (OD G j rest' (BH G (j+1) rest')) (Uh K.nd _ _);unfold List.Nodup at h1 ⊢;rw[AMo] at h1 ⊢;exact h1.imp λhne e=>hne (Dh.kf e)
  have hlk:=Wb hknd hy;rfl';refine AHE (z:=z') ⟨n'a,n'b⟩ pA ?_;rw[hf];show WS _ _ _ _ _;have eD:OG (some x)=Ad x.1:=rfl;rw[eD];rfl';refine Ht (kk:=kfD (Ad x.1)) n'b (Dh.key _) hlk ?_;rfl';obtain⟨r2,a2,kv2,ep2,hr2,n2,_,_⟩:=T.node hnum (notone hnum hmd);have n2a:(L++[Ob.lst acc])[r2]?=_:=AV n2.1;refine Bp (d:=.ref r2) (AV hnd) (Di (by rw[Ar,hr2];rfl)) ?_;rfl';obtain⟨ds,hds,hsz⟩:=XQ (Iy hxm.1);obtain⟨q,hq1,hq2⟩:=T.g_.get Dh (k:=x.1) (ds:=ds) (by rw[T.gc];exact hds);refine Ht (kk:=kfD (Ad x.1)) (AV hg) (Dh.key _) hq1 ?_;rfl';have hwb:=AAU K (l:=j) (by omega) x.2.2;have hwp:0<AM G j x.2.2:=Nat.pos_of_ne_zero hxm.2.2;generalize hN:AM G j x.2.2=N at *;refine AFq (by unfold LQ;rw[Bz];exact⟨decide_eq_true (by omega),decide_eq_true (by omega)⟩) ?_;have es0:(z':Int)-(x.2.1:Int)=((z'-x.2.1:Nat):Int):=by omega
  have e0:((z'-x.2.1:Nat):Int) / (N:Int)=(((z'-x.2.1) / N:Nat):Int):=by push_cast;rfl
  have e1':((z'-x.2.1:Nat):Int) % (N:Int)=(((z'-x.2.1) % N:Nat):Int):=by push_cast;rfl
  rw[es0,e0];rw[hsz] at hdv;refine Bp (d:=ds[(z'-x.2.1) / N]?.getD .non) (AV hq2) (Di (by simp[hdv])) ?_;rfl';refine GR AY (by omega) ?_;have es1:(L++[Ob.lst acc]).set L.length (.lst (acc++[ds[(z'-x.2.1) / N]?.getD .non]))=L++[Ob.lst (acc++[ds[(z'-x.2.1) / N]?.getD .non])]:=by simp
  rw[es1];have n3a:(L++[Ob.lst (acc++[ds[(z'-x.2.1) / N]?.getD .non])])[r2]?=some (.ins ANN [(ANO,.int (N:Int)),(ANR,.ref a2)]):=AV n2.1;rfl';rw[e1'];refine kz j (by omega) (by omega) (acc++[ds[(z'-x.2.1) / N]?.getD .non]) ((z'-x.2.1) % N) num r2 x.2.2 a2 _ _ _ _ hnum hr2 (by rw[hN];exact hmd) ?_ (by simp;omega);rw[<-hacc,ALc]
  congr 1
  conv=>rhs;unfold CA
  rw[hf];simp only;rw[hds,hN];rfl
end
abbrev HR(G:Ah)(wd:ANE):Nat:=AM G 1 wd+AM G 2 wd+AM G 3 wd
abbrev ND(G:Ah)(wd:ANE)(z:Nat):List D:=if z<AM G 1 wd then CA G 1 wd z else if z-AM G 1 wd<AM G 2 wd then CA G 2 wd (z-AM G 1 wd) else CA G 3 wd (z-AM G 1 wd-AM G 2 wd)
section
variable {L:AC}{t:Nat}{ws ts wd:ANE}{G:Ah}{Q:ANn}
def AEa(T:HF L t ws G wd)(h:Q (.int (HR G wd:Int)) L):W2 (KS [.ref t] L) Q:=by
 refine T _ λg m nd nn rt es sp rs mk ks T hm hr hk3 hkn=>?_;unfold KS;refine BZ rfl ?_;unfold PP;have ht:=T.t_;rfl';refine Fc (λj Cz=>∀e,Cz [e,some (.ref t)] (L++[Ob.lst ((List.range j).map λi=>D.int (AM G (i+1) wd:Int))])) _ 0 _ _ (λCz kw1=>kw1 _) ?_ ?_
 .rintro i x hx Cz Cy fw1 kw1 e;refine fw1 _ _ (decide_eq_true (AV hr)) ?_;rw[Ar] at hx;obtain⟨k,hse,hx⟩:=mS hx;cases hx;have hi:i<3:=by rw[<-hk3];exact(Ax.mp hse).1
  obtain⟨r,a,h1,h2⟩:=T.ways (hkn i k hse);have ht':(L++[Ob.lst ((List.range (0+i)).map λi=>D.int (AM G (i+1) wd:Int))])[t]?=_:=AV ht;have h2':(L++[Ob.lst ((List.range (0+i)).map λi=>D.int (AM G (i+1) wd:Int))])[r]?=_:=AV h2;rfl';refine Bp (d:=.ref r) (AV T.nd_) (Di (by rw[Ar,h1];rfl)) ?_;rfl';refine⟨_,AY,by simp;omega,FE (kw1 _) ?_⟩;rw[AMF,DM,BR];simp
 .rintro Cy fw1 e;refine fw1 _ _ (decide_eq_true (AV hr)) ?_;have e3:(0+(ks.map λ(k:Nat)=>D.int (k:Int)).length)=3:=by rw[Aa,hk3]
  rw[e3];have e4:((List.range 3).map λi=>D.int (AM G (i+1) wd:Int))=[.int (AM G 1 wd:Int),.int (AM G 2 wd:Int),.int (AM G 3 wd:Int)]:=rfl;rw[e4];rfl';refine XR AY rfl ?_;refine⟨rfl,Ai _ _,?_⟩
  have e5:([(AM G 1 wd:Int),(AM G 2 wd:Int),(AM G 3 wd:Int)]:ANK).sum=(HR G wd:Int):=by unfold HR;simp only[Ex,List.sum_nil];omega
  rw[e5];exact h
def Iz(K:DY ws ts G)(hw:Ga ws){l z:Nat}{rest:ANE}(hz:z<AM G l rest):(D.tup (CA G l rest z)).noRef=true:=NQ λp hp=>(((NC K hz).2 p hp).piece hw).noRef
def AB6(K:DY ws ts G)(hw:Ga ws)(T:HF L t ws G wd){z:Nat}(hz:z<HR G wd)(h:Q (.tup (ND G wd z)) L):W2 (Js [.ref t,.int (z:Int)] L) Q:=by
 refine T _ λg m nd nn rt es sp rs mk ks T hm hr hk3 hkn=>?_
 match ks,hk3 with
 |[k1,k2,k3],_ =>
 have hr':L[rt]?=some (.lst [.int (k1:Int),.int (k2:Int),.int (k3:Int)]):=hr;have n1:=hkn 0 k1 rfl;have n2:=hkn 1 k2 rfl;have n3:=hkn 2 k3 rfl;obtain⟨r1,a1,hr1,w1'⟩:=T.ways n1;have w1:L[r1]?=some (.ins ANN [(ANO,.int (AM G 1 wd:Int)),(ANR,.ref a1)]):=w1';obtain⟨r2,a2,hr2,w2'⟩:=T.ways n2;have w2:L[r2]?=some (.ins ANN [(ANO,.int (AM G 2 wd:Int)),(ANR,.ref a2)]):=w2';obtain⟨r3,a3,hr3,w3'⟩:=T.ways n3;have w3:L[r3]?=some (.ins ANN [(ANO,.int (AM G 3 wd:Int)),(ANR,.ref a3)]):=w3';unfold Js;refine BZ rfl ?_;unfold QJ;have ht:=T.t_;have hnd:=T.nd_;unfold HR at hz;unfold ND at h;rfl';refine Hf (decide_eq_true hr') ?_;rfl';refine Bp (d:=.ref r1) hnd (Di (by rw[Ar,hr1];rfl)) ?_;rfl';refine BN (λh1=>?_) (λh1=>?_)
 .have h1':z<AM G 1 wd:=by omega
  rw[if_pos h1'] at h;rfl';refine RC K T n1 (by decide) h1' (Iz K hw h1') ?_;exact⟨Iz K hw h1',AW _,h⟩
 .have h1':¬z<AM G 1 wd:=by omega
  rw[if_neg h1'] at h;have e1:(z:Int)-(AM G 1 wd:Int)=((z-AM G 1 wd:Nat):Int):=by omega
  rfl';refine Hf (decide_eq_true hr') ?_;rfl';refine Bp (d:=.ref r2) hnd (Di (by rw[Ar,hr2];rfl)) ?_;rfl';rw[e1];refine BN (λh2=>?_) (λh2=>?_)
  .have h2':z-AM G 1 wd<AM G 2 wd:=by omega
   rw[if_pos h2'] at h;rfl';refine RC K T n2 (by decide) h2' (Iz K hw h2') ?_;exact⟨Iz K hw h2',AW _,h⟩
  .have h2':¬z-AM G 1 wd<AM G 2 wd:=by omega
   have h3':z-AM G 1 wd-AM G 2 wd<AM G 3 wd:=by omega
   rw[if_neg h2'] at h;have e2:((z-AM G 1 wd:Nat):Int)-(AM G 2 wd:Int)=((z-AM G 1 wd-AM G 2 wd:Nat):Int):=by omega
   rfl';refine Hf (decide_eq_true hr') ?_;rfl';refine Bp (d:=.ref r3) hnd (Di (by rw[Ar,hr3];rfl)) ?_;rfl';rw[e2];refine RC K T n3 (by decide) h3' (Iz K hw h3') ?_;exact⟨Iz K hw h3',AW _,h⟩
end
def Xi{κ:Type}[DecidableEq κ]{c:List (κ×List D)}{k:κ}{ds:List D}(nd:(c.map (·.1)).Nodup):((BO c k ds).flatMap (·.2)).Perm (c.flatMap (·.2)++ds):=by
 by_cases h:k∈c.map (·.1)
 .have e:BO c k ds=c.map (λe=>if e.1=k then (e.1,e.2++ds) else e):=by unfold BO;rw[if_pos h]
  rw[e];clear e
  induction c with
  |nil=>cases h
  |cons x c ih =>
   rw[Aj,Go] at nd;rw[Aj,Du,Du]
   by_cases hx:x.1=k
   .rw[if_pos hx]
    have e2:c.map (λe=>if e.1=k then (e.1,e.2++ds) else e)=c:=by
     conv=>rhs;rw[<-AMT c]
     apply GB;intro e he;rw[if_neg (λz=>nd.1 (by rw[hx,<-z];exact CG he))];rfl
    rw[e2];simp only[ALc];exact(List.perm_append_comm (l₁:=ds) (l₂:=c.flatMap (·.2))).append_left x.2
   .rw[if_neg hx,ALc]
    have h':k∈c.map (·.1):=by
     rw[Aj] at h;rcases AX.mp h with z|z
     .exact absurd z.symm hx
     .exact z
    exact(ih nd.2 h').append_left x.2
 .have e:BO c k ds=c++[(k,ds)]:=by unfold BO;rw[if_neg h]
  rw[e,ALv];simp
def Rv{w:ANE}:∀(A:List (ANE×List D)) {c:List (ANE×List D)},(c.map (·.1)).Nodup->((A.foldl (BX w) c).flatMap (·.2)).Perm (c.flatMap (·.2)++(A.filter λa=>Hr a.1 w).flatMap (·.2))
 |[],c,_=>by simp
 |a::A,c,nd=>by
  rw[ALa]
  by_cases h:Hr a.1 w=true
  .have e:BX w c a=BO c a.1 a.2:=by unfold BX;rw[if_pos h]
   rw[e,AL2,if_pos h,Du,<-ALc];exact(Rv A (LW nd)).trans ((Xi nd).append_right _)
  .have e:BX w c a=c:=by unfold BX;rw[if_neg h]
   rw[e,AL2,if_neg h];exact Rv A nd
def RL{ts:ANE}:∀(A:List D) {c:List (ANK×List D)},(c.map (·.1)).Nodup->((A.foldl (Bv ts) c).flatMap (·.2)).Perm (c.flatMap (·.2)++A.filter λp=>(EL ts p).isSome)
 |[],c,_=>by simp
 |x::A,c,nd=>by
  rw[ALa]
  cases e:EL ts x with
  |none =>
   have e2:Bv ts c x=c:=by unfold Bv;rw[e]
   rw[e2,AL2,if_neg (by rw[e];simp)];exact RL A nd
  |some ks =>
   have e2:Bv ts c x=BO c ks [x]:=by unfold Bv;rw[e]
   rw[e2,AL2,if_pos (by rw[e];rfl)];have h:=(RL (ts:=ts) A (c:=BO c ks [x]) (LW nd)).trans ((Xi nd).append_right _);rw[ALc] at h;exact h
def ACt:Cq.Nodup:=by decide +kernel
def ACv(ts:ANE):((Bl ts).flatMap (·.2)).Nodup:=by have h:=RL (ts:=ts) Cq (c:=[]) Gm;refine h.nodup_iff.mpr ?_;simpa using List.Sublist.nodup List.filter_sublist ACt
def OA{d:Str}{xs ys:List D}{p:D}:p∈EQ d xs ys↔∃x∈xs,∃y∈ys,p=.tup [.str d,x,y]:=by
 unfold EQ;simp only[Dc,Aq];constructor
 .rintro⟨x,hx,y,hy,rfl⟩;exact⟨x,hx,y,hy,rfl⟩
 .rintro⟨x,hx,y,hy,rfl⟩;exact⟨x,hx,y,hy,rfl⟩
def AG1{d:Str}{xs ys:List D}(hx:xs.Nodup)(hy:ys.Nodup):(EQ d xs ys).Nodup:=by
 unfold EQ List.Nodup;rw[AMX];refine⟨λx _=>?_,hx.imp λ{a b} h u hu v hv e=>?_⟩
 .rw[AMo];exact hy.imp λh e=>h (by simpa using e)
 .obtain⟨y,_,rfl⟩:=Aq.mp hu;obtain⟨z,_,rfl⟩:=Aq.mp hv;exact h (by simp at e;exact e.1)
def Xh{κ:Type}{c:List (κ×List D)}(nd:(c.flatMap (·.2)).Nodup){e:κ×List D}(h:e∈c):e.2.Nodup:=by unfold List.Nodup at nd;rw[AMX] at nd;exact nd.1 e h
def Vx(ts:ANE)(s e:ANK×List D):∃l:ANE,l.Nodup/\(∀d∈l,d∈DV)/\(CQ ts s e).flatMap (·.2)=l.flatMap λd=>EQ d s.2 e.2:=by
 unfold CQ;split
 .refine⟨DV,by decide +kernel,λd h=>h,?_⟩;rw[AMW];rfl
 .exact⟨[],Gm,λd h=>(nomatch h),rfl⟩
def ADe{κ:Type}{c:List (κ×List D)}(nd:(c.flatMap (·.2)).Nodup):c.Pairwise λa b=>∀p∈a.2,p∉b.2:=by
 induction c with
 |nil=>exact .nil
 |cons x c ih =>
  rw[Du,Gp] at nd;exact .cons (λb hb p hp hpb=>nd.2.2 p hp p (Dc.mpr ⟨b,hb,hpb⟩) rfl) (ih nd.2.1)
def AHQ{ws:ANE}(hw:ws.Nodup)(ts:ANE):((CU ws ts++Ed ts (Bl ts)).flatMap (·.2)).Nodup:=by
 have hP:=ACv ts;have pw:=ADe hP;rw[ALv,Gp]
 have e1:(CU ws ts).flatMap (·.2)=ws.map Gr:=by
  unfold CU;rw[AMW];show ws.flatMap (λw=>[Gr w])=_
  induction ws with
  |nil=>rfl
  |cons w ws ih=>rw[Du,ih (Go.mp hw).2];rfl
 have e2:(Ed ts (Bl ts)).flatMap (·.2)=(Bl ts).flatMap λs=>(Bl ts).flatMap λe=>(CQ ts s e).flatMap (·.2):=by unfold Ed;simp only[List.flatMap_assoc]
 have inP:∀{s e:ANK×List D} {p:D},p∈(CQ ts s e).flatMap (·.2)->∃d∈DV,∃x∈s.2,∃y∈e.2,p=.tup [.str d,x,y]:=λ{s e p} h=>by
  obtain⟨l,_,hl,he⟩:=Vx ts s e;rw[he] at h;obtain⟨d,hd,h⟩:=Dc.mp h;obtain⟨x,hx,y,hy,rfl⟩:=OA.mp h;exact⟨d,hl d hd,x,hx,y,hy,rfl⟩
 refine⟨?_,?_,?_⟩
 .rw[e1];unfold List.Nodup;rw[AMo];exact hw.imp λh e=>h (by simpa[Gr] using e)
 .rw[e2];unfold List.Nodup;rw[AMX];refine⟨λs hs=>?_,pw.imp λ{a b} h u hu v hv e=>?_⟩
  .rw[AMX];refine⟨λe he=>?_,pw.imp λ{a b} h u hu v hv e=>?_⟩
   .obtain⟨l,hl,_,hh⟩:=Vx ts s e;rw[hh,AMX];refine⟨λd _=>AG1 (Xh hP hs) (Xh hP he),hl.imp λ{a b} h u hu v hv e=>?_⟩;obtain⟨x,_,y,_,rfl⟩:=OA.mp hu;obtain⟨x',_,y',_,rfl⟩:=OA.mp hv;exact h (by simp at e;exact e.1)
   .obtain⟨d,_,x,hx,y,hy,rfl⟩:=inP hu;obtain⟨d',_,x',hx',y',hy',rfl⟩:=inP hv;have:y=y':=by simp at e;exact e.2.2
    subst this;exact h y hy hy'
  .obtain⟨e1,_,hu⟩:=Dc.mp hu;obtain⟨e2,_,hv⟩:=Dc.mp hv;obtain⟨d,_,x,hx,y,hy,rfl⟩:=inP hu;obtain⟨d',_,x',hx',y',hy',rfl⟩:=inP hv;have:x=x':=by simp at e;exact e.2.1
   subst this;exact h x hx hx'
 .rw[e1,e2];intro a ha b hb e;obtain⟨w,_,rfl⟩:=Aq.mp ha;obtain⟨s,_,hb⟩:=Dc.mp hb;obtain⟨e',_,hb⟩:=Dc.mp hb;obtain⟨d,_,x,_,y,_,rfl⟩:=inP hb;simp[Gr] at e
def AFb{ws:ANE}(hw:ws.Nodup)(ts w:ANE):((CZ ws ts w).flatMap (·.2)).Nodup:=by
 refine(Rv (w:=w) (CU ws ts++Ed ts (Bl ts)) (c:=[]) Gm).nodup_iff.mpr ?_;rw[List.flatMap_nil,List.nil_append];have h:=AHQ hw ts;generalize CU ws ts++Ed ts (Bl ts)=A at h;refine List.Sublist.nodup (?_:(List.Sublist _ _)) h
 induction A with
 |nil=>exact List.Sublist.refl _
 |cons a A ih =>
  rw[Du,Gp] at h;rw[AL2,Du];split
  .rw[Du];exact List.Sublist.append (List.Sublist.refl _) (ih h.2.1)
  .exact(ih h.2.1).trans (List.sublist_append_right _ _)
def XE{w:ANE}:∀(A:List (ANE×List D)) {c:List (ANE×List D)} {a:ANE} {p:D},(∃ps,(a,ps)∈c/\p∈ps)->∃ps,(a,ps)∈A.foldl (BX w) c/\p∈ps
 |[],_,_,_,h=>h
 |x::A,c,a,p,⟨ps,h1,h2⟩=>by
  refine XE A ?_;unfold BX;split
  .by_cases z:x.1∈c.map (·.1)
   .unfold BO;rw[if_pos z]
    by_cases y:a=x.1
    .exact⟨ps++x.2,Aq.mpr ⟨(a,ps),h1,by rw[if_pos y]⟩,ALh _ h2⟩
    .exact⟨ps,Aq.mpr ⟨(a,ps),h1,by rw[if_neg y]⟩,h2⟩
   .unfold BO;rw[if_neg z];exact⟨ps,ALh _ h1,h2⟩
  .exact⟨ps,h1,h2⟩
def AHS{c:List (ANE×List D)}{k:ANE}{ds:List D}{p:D}(h:p∈ds):∃ps,(k,ps)∈BO c k ds/\p∈ps:=by
 unfold BO
 by_cases z:k∈c.map (·.1)
 .rw[if_pos z];obtain⟨e,he,rfl⟩:=Aq.mp z;refine⟨e.2++ds,Aq.mpr ⟨e,he,by rw[if_pos rfl]⟩,Ej _ h⟩
 .rw[if_neg z];exact⟨ds,by simp,h⟩
def Rw{w:ANE}:∀(A:List (ANE×List D)) {c:List (ANE×List D)} {x:ANE×List D} {p:D},x∈A->Hr x.1 w=true->p∈x.2->∃ps,(x.1,ps)∈A.foldl (BX w) c/\p∈ps
 |[],_,_,_,h,_,_=>(nomatch h)
 |y::A,c,x,p,h,hi,hp=>by
  rw[ALa];rcases AX.mp h with e|h
  .subst e;refine XE A ?_;unfold BX;rw[if_pos hi];exact AHS hp
  .exact Rw A h hi hp
def Vl{ts:ANE}:∀(A:List D) {c:List (ANK×List D)} {a:ANK} {p:D},(∃ps,(a,ps)∈c/\p∈ps)->∃ps,(a,ps)∈A.foldl (Bv ts) c/\p∈ps
 |[],_,_,_,h=>h
 |x::A,c,a,p,⟨ps,h1,h2⟩=>by
  refine Vl A ?_;unfold Bv
  cases EL ts x with
  |none=>exact⟨ps,h1,h2⟩
  |some ks =>
   show ∃qs,(a,qs)∈BO c ks [x]/\p∈qs
   by_cases z:ks∈c.map (·.1)
   .unfold BO;rw[if_pos z]
    by_cases y:a=ks
    .exact⟨ps++[x],Aq.mpr ⟨(a,ps),h1,by rw[if_pos y]⟩,ALh _ h2⟩
    .exact⟨ps,Aq.mpr ⟨(a,ps),h1,by rw[if_neg y]⟩,h2⟩
   .unfold BO;rw[if_neg z];exact⟨ps,ALh _ h1,h2⟩
def RM{ts:ANE}:∀(A:List D) {c:List (ANK×List D)} {x:D} {ks:ANK},x∈A->EL ts x=some ks->∃ps,(ks,ps)∈A.foldl (Bv ts) c/\x∈ps
 |[],_,_,_,h,_=>(nomatch h)
 |y::A,c,x,ks,h,hs=>by
  rw[ALa];rcases AX.mp h with e|h
  .subst e;refine Vl A ?_;unfold Bv;rw[hs];show ∃ps,(ks,ps)∈BO c ks [x]/\x∈ps;unfold BO
   by_cases z:ks∈c.map (·.1)
   .rw[if_pos z];obtain⟨e,he,rfl⟩:=Aq.mp z;exact⟨e.2++[x],Aq.mpr ⟨e,he,by rw[if_pos rfl]⟩,by simp⟩
   .rw[if_neg z];exact⟨[x],by simp,by simp⟩
  .exact RM A h hs
def Vk{p:D}(h:Dr p):p∈Cq:=by
 obtain⟨k,n,e,rfl,hn,he,hk⟩:=h;simp only[Cq,p1,Rg,Nv,Dc,AX,Db,or_false];refine⟨.str k,?_,.int n,?_,.str e,?_,rfl⟩
 .simpa using hk
 .rcases hn with rfl|rfl|rfl|rfl <;> simp
 .rcases he with rfl|rfl <;> simp
def Wx{ts:ANE}{p:D}(h:∀i,i<ts.length->∃z,DF p (ts.getD i "")=.int z):∃ks,EL ts p=some ks/\ks.length=ts.length/\∀i,i<ts.length->DF p (ts.getD i "")=.int (ks.getD i 0):=by
 have:∃ks,EL ts p=some ks:=by
  unfold EL
  induction ts with
  |nil=>exact⟨[],rfl⟩
  |cons t ts ih =>
   obtain⟨z,hz⟩:=h 0 (by simp);obtain⟨ks,hk⟩:=ih λi hi=>by simpa using h (i+1) (by simpa using hi)
   have hz':DF p t=.int z:=by simpa using hz
   exact⟨z::ks,by rw[Aj,hz'];simp only[DP,hk];rfl⟩
 obtain⟨ks,hk⟩:=this;exact⟨ks,hk,by have:=congrArg List.length (Ku hk);simpa using this.symm,λi hi=>Ro hk hi⟩
def Qv{a b:ANE}(hl:a.length=b.length)(h:∀i,i<a.length->a.getD i ""=b.getD i ""):a=b:=by apply List.ext_getElem hl;intro i h1 h2;have:=h i h1;simpa[h1,h2] using this
def AC0{ws ts wd:ANE}{p:D}{a:ANE}(hp:EB ws p)(hl:a.length=ts.length)(ha:∀i,i<ts.length->Bg (ts.getD i "") p=.str (a.getD i ""))(hi:Hr a wd=true):∃ps,(a,ps)∈CZ ws ts wd/\p∈ps:=by
 unfold CZ;rcases hp with⟨w,hw,rfl⟩|⟨d,x,y,rfl,hd,hx,hy⟩
 .have e:a=ts.map λ_=>w:=by
   apply Qv (by simp[hl]);intro i h1;have:=ha i (by omega);have e2:(ts.map λ_=>w).getD i ""=w:=by simp[show i<ts.length by omega]
   rw[e2];exact(D.str.inj this).symm
  subst e;exact Rw _ (x:=(ts.map (λ_=>w),[Gr w])) (ALh _ (CG hw)) hi (by simp[Gr])
 .have key:∀i,i<ts.length->∃z z',DF x (ts.getD i "")=.int z/\DF y (ts.getD i "")=.int z'/\z<z'/\a.getD i ""=Do d (Txt.slice (ts.getD i "") (some z) (some z')):=λi h=>by
   have h1:=ha i h;obtain⟨k',n',e',rfl,_⟩:=id hy;rw[JB] at h1;rcases HN hx (ts.getD i "") with e1|⟨z,e1,_⟩
   .rw[e1] at h1;cases h1
   .rcases HN hy (ts.getD i "") with e2|⟨z',e2,_⟩
    .rw[e1,e2] at h1;cases h1
    .rw[e1,e2] at h1;simp only at h1;split at h1
     .cases h1
     .exact⟨z,z',e1,e2,by omega,(D.str.inj h1).symm⟩
  obtain⟨ks,hk1,hk2,hk3⟩:=Wx (p:=x) λi h=>by obtain⟨z,z',e1,_⟩:=key i h;exact⟨z,e1⟩
  obtain⟨ls,hl1,hl2,hl3⟩:=Wx (p:=y) λi h=>by obtain⟨z,z',_,e1,_⟩:=key i h;exact⟨z',e1⟩
  obtain⟨xs,hxs,hxm⟩:=RM (ts:=ts) Cq (c:=[]) (Vk hx) hk1;obtain⟨ys,hys,hym⟩:=RM (ts:=ts) Cq (c:=[]) (Vk hy) hl1
  have hlt:Es ts ks ls=true:=by unfold Es;rw[Bu];intro i h;have h:=CM.mp h;obtain⟨z,z',e1,e2,h3,_⟩:=key i h;rw[hk3 i h] at e1;rw[hl3 i h] at e2;have:=D.int.inj e1;have:=D.int.inj e2;exact decide_eq_true (by omega)
  have e:a=(EO ts ks ls ts.length).map (Do d):=by
   apply Qv (by simp[hl,SO]);intro i h1;have h:=show i<ts.length by omega
   obtain⟨z,z',e1,e2,_,h4⟩:=key i h;rw[hk3 i h] at e1;rw[hl3 i h] at e2;rw[h4,<-D.int.inj e1,<-D.int.inj e2];unfold EO;simp[h]
  have hdd:d∈DV:=by rcases hd with rfl|rfl|rfl <;> decide +kernel
  have hm:Fq ts (ks,xs) (ls,ys) d∈CU ws ts++Ed ts (Bl ts):=by refine Ej _ (Dc.mpr ⟨(ks,xs),hxs,Dc.mpr ⟨(ls,ys),hys,?_⟩⟩);unfold CQ;rw[if_pos hlt];exact CG hdd
  subst e;exact Rw _ (x:=Fq ts (ks,xs) (ls,ys) d) hm hi (OA.mpr ⟨x,hxm,y,hym,rfl⟩)
def AFR{x y:Str}{u v:ANJ}(h:y.cps.toList=u++x.cps.toList++v):Fj x y=true:=by
 unfold Fj;rw[StrLaws.found_iff]
 have hl:y.length=u.length+x.length+v.length:=by have:=congrArg List.length h;rw[By,By] at this;exact this
 refine⟨u.length,by omega,?_⟩;rw[StrLaws.subAt_eq,h,ALc,List.drop_left];have:(x.cps.toList++v).take x.length=x.cps.toList:=List.take_left' rfl;rw[this];simp
def ABP{a b:Str}{v:ANJ}(h:a.cps.toList=b.cps.toList++v):Txt.startswith a b=true/\(Txt.slice a (some (b.length:Int)) none).cps.toList=v:=by
 have hl:b.length<=a.length:=by have:=congrArg List.length h;rw[By] at this;show b.cps.toList.length<=a.cps.toList.length;omega
 refine⟨?_,?_⟩
 .unfold Txt.startswith
  rw[Bz];refine⟨decide_eq_true (by omega),?_⟩;rw[StrLaws.subAt_eq,h,ALr];have:(b.cps.toList++v).take b.length=b.cps.toList:=List.take_left' rfl;rw[this];simp
 .rw[VM hl,h];exact List.drop_left' rfl
abbrev Gz(d:D)(ws:List D):Bool:=match d with|.str _=>Cw d ws|_=>false
abbrev NP(d:D):Bool:=match d with|.int i=>Cw (.int i) [.int 1,.int 2,.int (-1),.int (-2)]|_=>false
abbrev NX:List D:=[.str "small",.str "great",.str "figure",.str "mark",.str "any"]
abbrev SL:List D:=[.str "ahead",.str "behind"]
def Sc{Q:ANn}{L:AC}{d:D}{ws:List D}{t:String}(ht:FO d L=some t)(hw:ws.all BD=true)(h:Q (.bl (Gz d ws)) L):W2 (ze [d,.tup ws] L) Q:=by
 unfold ze;refine BZ rfl ?_;unfold Ou;rfl'
 cases d with
 |str s =>
  refine SA rfl rfl rfl ?_;rfl';refine Nj (by rw[hw];rfl) ?_;exact⟨rfl,AW _,h⟩
 |non=>refine FR rfl rfl rfl ?_;rfl';exact⟨rfl,AW _,h⟩
 |bl b=>refine FR rfl rfl rfl ?_;rfl';exact⟨rfl,AW _,h⟩
 |int b=>refine FR rfl rfl rfl ?_;rfl';exact⟨rfl,AW _,h⟩
 |tup b=>refine FR rfl rfl rfl ?_;rfl';exact⟨rfl,AW _,h⟩
 |fz b=>refine FR rfl rfl rfl ?_;rfl';exact⟨rfl,AW _,h⟩
 |ty b=>cases ht
 |ref k =>
  have:t = "list"\/t = "dict":=by
   simp only[FO] at ht;split at ht
   .cases ht;exact .inl rfl
   .cases ht;exact .inr rfl
   .cases ht
  rcases this with rfl|rfl
  .refine FR rfl ht rfl ?_;rfl';exact⟨rfl,AW _,h⟩
  .refine FR rfl ht rfl ?_;rfl';exact⟨rfl,AW _,h⟩
def AEG{Q:ANn}{L:AC}{d:D}{t:String}(ht:FO d L=some t)(h:Q (.bl (NP d)) L):W2 (KO [d] L) Q:=by
 unfold KO;refine BZ rfl ?_;simp only[Op,zu];rfl'
 cases d with
 |int i =>
  refine SA rfl rfl rfl ?_;rfl';refine Nj rfl ?_;exact⟨rfl,AW _,h⟩
 |non=>refine FR rfl rfl rfl ?_;rfl';exact⟨rfl,AW _,h⟩
 |bl b=>refine SA rfl rfl rfl ?_;rfl';exact⟨rfl,AW _,h⟩
 |str b=>refine FR rfl rfl rfl ?_;rfl';exact⟨rfl,AW _,h⟩
 |tup b=>refine FR rfl rfl rfl ?_;rfl';exact⟨rfl,AW _,h⟩
 |fz b=>refine FR rfl rfl rfl ?_;rfl';exact⟨rfl,AW _,h⟩
 |ty b=>cases ht
 |ref k =>
  have:t = "list"\/t = "dict":=by
   simp only[FO] at ht;split at ht
   .cases ht;exact .inl rfl
   .cases ht;exact .inr rfl
   .cases ht
  rcases this with rfl|rfl
  .refine FR rfl ht rfl ?_;rfl';exact⟨rfl,AW _,h⟩
  .refine FR rfl ht rfl ?_;rfl';exact⟨rfl,AW _,h⟩
def ACw{Q:ANn}{L:AC}{a b c:D}{ta tb tc:String}(ha:FO a L=some ta)(hb:FO b L=some tb)(hc:FO c L=some tc)(h:Q (.bl (Gz a NX&&(NP b&&Gz c SL))) L):W2 (zo [.tup [a,b,c]] L) Q:=by
 unfold zo;refine BZ rfl ?_;simp only[Ol,zt,zw];rfl';refine Sc ha rfl ?_;rfl';have ea:Gz a [.str "small",.str "great",.str "figure",.str "mark",.str "any"]=Gz a NX:=rfl;have ec:Gz c [.str "ahead",.str "behind"]=Gz c SL:=rfl;rw[ea]
 cases h1:Gz a NX with
 |false=>rw[h1] at h;rfl';exact⟨rfl,AW _,h⟩
 |true =>
  rw[h1,Bool.true_and] at h;rfl';refine AEG hb ?_;rfl'
  cases h2:NP b with
  |false=>rw[h2] at h;rfl';exact⟨rfl,AW _,h⟩
  |true =>
   rw[h2,Bool.true_and] at h;rfl';refine Sc hc rfl ?_;rw[ec];exact⟨rfl,AW _,h⟩
def AE7{kind:Str}(h:kind∈([("small":Str),"great","figure","mark","any"]:ANE)):Gz (.str kind) NX=true:=by simp only[AX,Db,or_false] at h;rcases h with rfl|rfl|rfl|rfl|rfl <;> decide +kernel
def AGS{edge:Str}(h:edge = "ahead"\/edge = "behind"):Gz (.str edge) SL=true:=by rcases h with rfl|rfl <;> decide +kernel
def AEH{n:Int}(h:LY n):NP (.int n)=true:=by rcases h with rfl|rfl|rfl|rfl <;> decide +kernel
def Ws{Q:ANn}{L:AC}{p:D}(hp:Dr p)(h:Q (.bl true) L):W2 (zo [p] L) Q:=by obtain⟨kind,nth,edge,rfl,hn,he,hk⟩:=hp;refine ACw rfl rfl rfl ?_;rw[AE7 hk,AEH hn,AGS he];exact h
def ACN{xs:List (NK×D)}:∀{m:List (NK×D)},((m++xs).map (·.1)).Nodup->xs.foldl (λm x=>Cp m x.1 x.2) m=m++xs:=by
 induction xs with
 |nil=>intro m _;simp
 |cons x xs ih =>
  intro m h;rw[ALa]
  have hx:x.1∉m.map (·.1):=λz=>by
   rw[DM,Gp] at h;exact h.2.2 _ z x.1 (by simp) rfl
  rw[(NE (ep:=0) hx).1,ih (by simpa using h)];simp
def Vg{xs:List (NK×D)}(h:(xs.map (·.1)).Nodup):DS xs=xs:=by unfold DS;rw[ACN (m:=[]) (by simpa using h)];rfl
def AGK(a:ANE)(ps:List D):(Dn a ps).map (·.1)=ps.map kfD:=by
 unfold Dn;rw[CH];have e:((ps.zipIdx.map λq=>kfD q.1):List NK)=(ps.zipIdx.map Prod.fst).map kfD:=by rw[CH];rfl
 rw[List.zipIdx_map_fst] at e;exact e
def AGD(G:Ah):(CK G).map (·.1)=(G.flatMap (·.2)).map kfD:=by
 unfold CK
 induction G with
 |nil=>rfl
 |cons e G ih=>rw[Du,Du,DM,DM,ih,AGK]
def Xj{ws ts:ANE}{G:Ah}(K:DY ws ts G)(nd:(G.flatMap (·.2)).Nodup):((CK G).map (·.1)).Nodup:=by rw[AGD];unfold List.Nodup at nd ⊢;rw[AMo];refine List.Pairwise.imp_of_mem ?_ nd;intro x y hx hy hxy e;obtain⟨e1,h1,hx⟩:=Dc.mp hx;obtain⟨e2,h2,hy⟩:=Dc.mp hy;have k1:=Hz (K.snd e1 h1 x hx).2.1;have k2:=Hz (K.snd e2 h2 y hy).2.1;exact hxy (by rw[k1,k2,e])
def AEU{ws ts:ANE}{G:Ah}(K:DY ws ts G)(nd:(G.flatMap (·.2)).Nodup){a:ANE}{ps:List D}{i:Nat}{p:D}(h:(a,ps)∈G)(hp:ps[i]?=some p):BP (DS (CK G)) (kfD p)=some (.tup [Ad a,.int (i:Int)]):=by
 have hk:=Xj K nd;rw[Vg hk]
 have hm:(kfD p,D.tup [Ad a,.int (i:Int)])∈CK G:=by refine Dc.mpr ⟨(a,ps),h,?_⟩;unfold Dn;exact Aq.mpr ⟨(p,i),AMw.mpr hp,rfl⟩
 obtain⟨k,hkk⟩:=AMV hm;exact Wb hk hkk
abbrev IL(G:Ah):Nat->ANE->List D->Nat->Prop
 |0,_,[],n=>n=0
 |l+1,rest,p::row,n=>∃(a:ANE) (ps:List D) (i f:Nat) (b:ANE) (n':Nat),(a,ps)∈G/\ps[i]?=some p/\(a,f,b)∈DA G l rest/\IL G l b row n'/\n=f+i*AM G l b+n'
 |_,_,_,_=>False
def SQ{G:Ah}{l:Nat}:∀{r:List Arm} {s e:Nat},GW G l s r e->s<=e
 |[],s,e,h=>ALe h
 |x::r,s,e,h=>by have:=SQ h.2.2;omega
def Yb{G:Ah}(hp:∀a∈G.map (·.1),0<CN G a){l:Nat}{rest:ANE}{x:Arm}(hx:x∈DA G l rest):AM G (l+1) rest≠0:=by
 have h:=Sa (l:=l) (rest:=rest) hp
 cases e:DA G l rest with
 |nil=>rw[e] at hx;cases hx
 |cons y r =>
  rw[e] at h;have h1:=h.2.1;have:=SQ h.2.2;omega
def AEF{ws ts:ANE}{G:Ah}(K:DY ws ts G){l n:Nat}{rest:ANE}{row:List D}(h:IL G l rest row n):AM G l rest≠0:=by
 cases l with
 |zero=>simp[AM]
 |succ l =>
  cases row with
  |nil=>exact h.elim
  |cons p row =>
   obtain⟨a,ps,i,f,b,n',_,_,h3,_⟩:=h;exact Yb K.pos h3
def ACP{P:D->Prop}{m:List (NK×D)}{k:NK}{d:D}(hm:∀e∈m,P e.2)(hd:P d):∀e∈Cp m k d,P e.2:=by
 unfold Cp;intro e he;split at he
 .obtain⟨x,hx,rfl⟩:=Aq.mp he;split
  .exact hd
  .exact hm x hx
 .rcases Bi.mp he with h|h
  .exact hm e h
  .rw[Dt.mp h];exact hd
def Vf{P:D->Prop}:∀{xs m:List (NK×D)},(∀e∈m,P e.2)->(∀e∈xs,P e.2)->∀e∈xs.foldl (λm x=>Cp m x.1 x.2) m,P e.2
 |[],m,hm,_=>hm
 |x::xs,m,hm,hx=>Vf (xs:=xs) (ACP hm (hx x Az)) λe he=>hx e (BA _ he)
def AET{ws ts:ANE}{G:Ah}(K:DY ws ts G){k:NK}{d:D}(h:BP (DS (CK G)) k=some d):∃(a:ANE) (i:Nat),d=.tup [Ad a,.int (i:Int)]/\i<16777216:=by unfold BP at h;obtain⟨e,he,rfl⟩:=Gj.mp h;refine Vf (P:=λd=>∃(a:ANE) (i:Nat),d=.tup [Ad a,.int (i:Int)]/\i<16777216) (xs:=CK G) (m:=[]) (λe h=>by cases h) (λe he=>?_) e (AL6 he);obtain⟨⟨a,ps⟩,hG,he⟩:=Dc.mp he;unfold Dn at he;obtain⟨⟨p,i⟩,hp,rfl⟩:=Aq.mp he;have hp:=AMw.mp hp;refine⟨a,i,rfl,?_⟩;have h1:i<ps.length:=(Ax.mp hp).1;obtain⟨e,hf,he,hek⟩:=GU (CG (f:=λe:ANE×List D=>e.1) hG);have:e=(a,ps):=IM (f:=λe:ANE×List D=>e.1) K.nd he hG hek;have hs:=K.sz a (CG (f:=λe:ANE×List D=>e.1) hG);unfold CN Dz at hs;rw[hf,this] at hs;have:ps.length<=4000000:=hs;omega
abbrev armAt(G:Ah)(l:Nat)(rest:ANE)(k:NK):Option Arm:=(DA G l rest).find? λx=>decide (kfD (Ad x.1)=k)
abbrev Fh(G:Ah):Nat->ANE->List D->Nat->Option Nat
 |l+1,rest,p::row,z=>match BP (DS (CK G)) (kfD p) with
  |some (.tup [A,.int i])=>(match armAt G l rest (kfD A) with
   |some x=>Fh G l x.2.2 row (z+(x.2.1+i.toNat*AM G l x.2.2))
   |none=>none)
  |_=>none
 |_,_,_,z=>some z
def AHF{G:Ah}{sp:List (Nat×ANE)}{l:Nat}(k:NK):∀{xs:List Arm} {kvs:List (NK×D)},Paired (Ew G sp l) xs kvs ->
  ((xs.find? λx=>decide (kfD (Ad x.1)=k))=none/\BP kvs k=none)\/∃(x:Arm) (num:Nat),(xs.find? λx=>decide (kfD (Ad x.1)=k))=some x/\x∈xs/\BP kvs k=some (.tup [.int (x.2.1:Int),.int (num:Int)])/\Df G sp num l x.2.2:=by
 intro xs kvs h
 induction h with
 |nil=>exact .inl ⟨rfl,rfl⟩
 |@cons x y xs kvs r h ih =>
  obtain⟨num,rfl,hn⟩:=r;unfold BP at ih ⊢
  by_cases e:kfD (Ad x.1)=k
  .exact .inr ⟨x,num,by simp[e],Az,by simp[e],hn⟩
  .rcases ih with⟨h1,h2⟩|⟨x',n',h1,hm,h2,h3⟩
   .exact .inl ⟨by simp[e,h1],by simp[e];simpa using h2⟩
   .exact .inr ⟨x',n',by simp[e,h1],BA _ hm,by simp[e];simpa using h2,h3⟩
def Vp{ws:ANE}{p:D}(h:EB ws p):dNK p=some (kfD p):=by
 rcases h with⟨w,_,rfl⟩|⟨d,x,y,rfl,_,hx,hy⟩
 .rfl
 .obtain⟨a,b,c,rfl,_⟩:=hx;obtain⟨a',b',c',rfl,_⟩:=hy;rfl
def BY.nodeA{G:Ah}{X:ANJ}{L:AC}{t g m nd nn rt:Nat}{W:D}{es:List (ANE×Nat×List D)}{sp:List (Nat×ANE)}{rs:List (Nat×Nat)}{mk:List ((Nat×ANE)×Nat)}(hp:∀a∈G.map (·.1),0<CN G a)(T:BY G X L t g m nd nn rt W es sp rs mk){k l:Nat}{rest:ANE}(h:Df G sp k (l+1) rest):∃r a kvs ep w,rs[k]?=some (r,a)/\ED L r w a kvs ep/\Paired (Ew G sp l) (DA G l rest) kvs:=by
 by_cases h1:k=1
 .have hw:=h.one.mp h1;subst h1;have hlt:1<rs.length:=by rw[T.len];omega
  obtain⟨ep,n⟩:=T.nod 1 rs[1].1 rs[1].2 (by simp[hlt])
  have:DA G l rest=[]:=by
   cases e:DA G l rest with
   |nil=>rfl
   |cons x r=>exact absurd hw (Yb hp (x:=x) (by rw[e];exact Az))
  rw[this];exact⟨_,_,[],ep,_,by simp[hlt],n,.nil⟩
 .obtain⟨r,a,kvs,ep,e,n,_,q⟩:=T.node h h1;exact⟨r,a,kvs,ep,_,e,n,q l rfl⟩
section
variable {L:AC}{t:Nat}{ws ts wd:ANE}{G:Ah}{Q:ANn}
def Qt{n:Int}{xs:List D}(h:Q (.bl (decide ((xs.length:Int)=n))) L):W2 (Ip [.int n,.tup xs] L) Q:=by unfold Ip;refine BZ rfl ?_;unfold Oy;rfl';exact⟨rfl,AW _,h⟩
def Rl{w:Str}{ws:ANE}(h:Q (.bl (decide (w∈ws))) L):W2 (ze [.str w,.tup (ws.map D.str)] L) Q:=by refine Sc (t:="str") rfl (Nt ws) ?_;show Q (.bl (Cw (.str w) (ws.map D.str))) L;rw[Kv];exact h
def ABM{d:Str}{x y:D}(hd:d∈DV)(hx:Dr x)(hy:Dr y)(h:Q (.bl true) L):W2 (KM [.tup [.str d,x,y]] L) Q:=by unfold KM;refine BZ rfl ?_;unfold Of;rfl';refine Qt ?_;rfl';refine Rl (ws:=DV) ?_;rw[decide_eq_true hd];rfl';refine Ws hx ?_;rfl';refine Ws hy ?_;exact⟨rfl,AW _,h⟩
def AAa{p:D}(T:HF L t ws G wd)(hp:DX p)(h:Q (.bl (EN ws p)) L):W2 (KJ [.ref t,p] L) Q:=by
 refine T _ λg m nd nn rt es sp rs mk ks T hm hr hk3 hkn=>?_;have ht:=T.t_;unfold KJ;refine BZ rfl ?_;unfold Oa;rcases hp with⟨w,rfl,_⟩|⟨d,x,y,rfl,hd,hx,hy⟩
 .rfl';refine Qt ?_;rfl';refine Rl (ws:=["word"]) ?_;rfl';refine Rl ?_;exact⟨rfl,AW _,h⟩
 .rfl';refine Qt ?_;rfl';refine ABM (by rcases hd with rfl|rfl|rfl <;> decide +kernel) hx hy ?_;exact⟨rfl,AW _,h⟩
def VU{ps:List D}(T:HF L t ws G wd)(hp:∀p∈ps,DX p)(hl:0<ps.length/\ps.length<=3)(h:Q (.bl (ps.all (EN ws))) L):W2 (KH [.ref t,.tup ps] L) Q:=by
 unfold KH;refine BZ rfl ?_;unfold OW;simp only[zx];rfl';refine Nh rfl ?_;have h1:=hl.1;have h3:=hl.2
 have e1:Cw (.int (ps.length:Int)) [.int 1,.int 2,.int 3]=true:=by rcases(by omega:ps.length=1\/ps.length=2\/ps.length=3) with e|e|e <;> rw[e] <;> rfl
 rw[e1];rfl';refine Hh (λZ=>∃e,Z=[e,some (.ref t)]) (λp=>.bl (EN ws p)) (λacc=>rfl) ⟨_,rfl⟩ (by omega) ?_ ?_
 .rintro x hx Z ⟨e,rfl⟩;rfl';refine⟨⟨_,rfl⟩,λacc=>?_⟩;rfl';exact AAa (T.pre (Ai _ _)) (hp x hx) ⟨rfl,rfl⟩
 .rfl'
  have e2:∀l:List D,blsD (l.map λp=>.bl (EN ws p))=some (l.map (EN ws)):=λl=>by
   induction l with
   |nil=>rfl
   |cons x l ih=>simp[blsD,ih]
  refine XW AY (e2 ps) ?_;refine⟨rfl,Ai _ _,?_⟩;rw[List.all_map];exact h
abbrev Ft(G:Ah)(wd:ANE)(l:Nat):Nat:=((List.range l).map λi=>AM G (i+1) wd).sum
def Uw{U:Type}(f:U->Nat):∀xs:List U,(xs.map λi=>((f i:Nat):Int)).sum=(((xs.map f).sum:Nat):Int)
 |[]=>rfl
 |x::xs=>by rw[Aj,Aj,Ex,Ex,Uw f xs];omega
def Wz{U:Type}(f:U->Int):∀xs:List U,DP (xs.map λi=>D.int (f i))=some (xs.map f)
 |[]=>rfl
 |x::xs=>by rw[Aj];simp only[DP,Wz f xs];rfl
def AED(K:DY ws ts G)(hw:Ga ws)(T:HF L t ws G wd){row:List D}{l:Nat}(hr:Ih ws row)(hl:row.length=l+1)(hy:∀n,Fh G (l+1) wd row (Ft G wd l)=some n->Q (.int (n:Int)) L)(hn:Fh G (l+1) wd row (Ft G wd l)=none->Q .non L):W2 (zp [.ref t,.tup row] L) Q:=by
 have hl3:l<3:=by have:=hr.2.2;omega
 have T':=T;refine T _ λg m nd nn rt es sp rs mk ks T hm hrt hk3 hkn=>?_;obtain⟨epm,hm⟩:=hm;unfold zp;refine BZ rfl ?_;unfold Ll;rfl';refine VU T' (λp hp=>(hr.1 p hp).piece hw) hr.2 ?_;rw[AD8 hr];have ht:=T.t_;have es0:(row.length:Int)-1=((l:Nat):Int):=by omega
 rfl';rw[es0,Ja];have htk:(ks.map λ(k:Nat)=>D.int (k:Int)).take l=(ks.take l).map λ(k:Nat)=>D.int (k:Int):=by rw[List.map_take]
 rw[htk];generalize hL1:L++[Ob.lst ((ks.take l).map λ(k:Nat)=>D.int (k:Int))]=L1;have p1:L <+: L1:=by rw[<-hL1];exact Ai _ _
 have hc1:L1[L.length]?=some (.lst ((ks.take l).map λ(k:Nat)=>D.int (k:Int))):=by rw[<-hL1];exact AY
 have T1:=T.pre p1;have ht1:=T1.t_;refine Fc (λj Cz=>∀e,Cz [e,some (.ref t)] (L1++[Ob.lst ((List.range j).map λi=>D.int ((AM G (i+1) wd:Nat):Int))])) _ 0 _ _ (λCz kw1=>kw1 _) ?_ ?_
 .rintro i x hx Cz Cy fw1 kw1 e;refine fw1 _ _ (decide_eq_true (AV hc1)) ?_;rw[Ar] at hx;obtain⟨k,hse,hx⟩:=mS hx;cases hx;have hi:i<l:=by have:=(Ax.mp hse).1;rw[EW] at this;omega
  rw[List.getElem?_take_of_lt hi] at hse;obtain⟨r,a,h1,h2⟩:=T1.ways (hkn i k hse);have ht':(L1++[Ob.lst ((List.range (0+i)).map λi=>D.int ((AM G (i+1) wd:Nat):Int))])[t]?=_:=AV ht1;have h2':(L1++[Ob.lst ((List.range (0+i)).map λi=>D.int ((AM G (i+1) wd:Nat):Int))])[r]?=_:=AV h2;rfl';refine Bp (d:=.ref r) (AV T1.nd_) (Di (by rw[Ar,h1];rfl)) ?_;rfl';refine⟨_,AY,by simp;omega,FE (kw1 _) ?_⟩;rw[AMF,DM,BR];simp
 .rintro Cy fw1 e;refine fw1 _ _ (decide_eq_true (AV hc1)) ?_;have e3:(0+((ks.take l).map λ(k:Nat)=>D.int (k:Int)).length)=l:=by rw[Aa,EW];omega
  rw[e3];rfl';refine XR AY (Wz _ _) ?_;rw[Uw];have e4:((List.range l).map λi=>AM G (i+1) wd).sum=Ft G wd l:=rfl;rw[e4];generalize hL0:L1++[Ob.lst ((List.range l).map λi=>D.int ((AM G (i+1) wd:Nat):Int))]=L0;have p0:L <+: L0:=by rw[<-hL0];exact p1.trans (Ai _ _)
  have T0:=T.pre p0;have ht0:=T0.t_;have hr0:=CY p0 hrt;have hm0:=CY p0 hm;obtain⟨k0,hk0⟩:∃k0,ks[l]?=some k0:=⟨ks[l]'(by omega),by simp[hk3,hl3]⟩;have nk0:=hkn l k0 hk0;obtain⟨r1,a1,kv1,ep1,w1,hr1,n1,_⟩:=T0.nodeA K.pos nk0;rfl';refine Bp (d:=.int (k0:Int)) hr0 (Di (by rw[Ar,hk0];rfl)) ?_;rfl';refine Bp (d:=.ref r1) T0.nd_ (Di (by rw[Ar,hr1];rfl)) ?_;rfl';refine Cn (λj Cz=>∀(r a k z:Nat) (rest':ANE) (e1 e2 e3:Option D),Df G sp k (l+1-j) rest'->rs[k]?=some (r,a)->Fh G (l+1-j) rest' (row.drop j) z=Fh G (l+1) wd row (Ft G wd l)->Cz [some (.ref t),some (.tup row),some (.int ((l:Nat):Int)),some (.int (z:Int)),some (.ref r),e1,e2,e3] L0) _ 0 _ _ (λCz kz1=>kz1 r1 a1 k0 (Ft G wd l) wd none none none nk0 hr1 rfl) ?_ ?_
  .rintro j x hx Cz Cy fz1 kz1 r a k z rest' e1 e2 e3 hnk hrk hnr;refine fz1 _ _ rfl ?_;rw[BR] at hnk hnr;have hj:j<row.length:=(Ax.mp hx).1;obtain⟨l',hl'⟩:∃l',l+1-j=l'+1:=⟨l-j,by omega⟩
   have hd:row.drop j=x::row.drop (j+1):=by
    rw[AMM hj]
    congr 1
    exact(Ax.mp hx).2
   rw[hl'] at hnk;rw[hl',hd] at hnr;obtain⟨r',a2,kvs,ep',w',hr',nA,pA⟩:=T0.nodeA K.pos hnk;rw[hrk] at hr';cases hr';have nAa:=nA.1;have nAb:=nA.2;have hkx:=Vp (hr.1 x (Bk hx));rfl';refine AFr (kk:=kfD x) hm0 hkx ?_
   cases hlx:BP (DS (CK G)) (kfD x) with
   |none =>
    simp only[Option.getD_none];rfl';refine⟨rfl,p0,hn ?_⟩;rw[<-hnr];simp only[Fh,hlx]
   |some d =>
    obtain⟨a',i,rfl,hib⟩:=AET K hlx;simp only[AMn];rfl';refine SD nAb (Dh.key a') ?_;rcases AHF (kfD (Ad a')) pA with⟨f1,f2⟩|⟨y,num,f1,hym,f2,hnum⟩
    .rw[f2];rfl';refine Nz rfl ?_;rfl';refine⟨rfl,p0,hn ?_⟩;rw[<-hnr];simp only[Fh,hlx,armAt,f1]
    .rw[f2];have hne:=(Ie hym).2.2;obtain⟨r2,a3,kv2,ep2,hr2,nB,_⟩:=T0.node hnum (λe=>hne (hnum.one.mp e));have nBa:=nB.1;rfl';refine Jc rfl ?_;rfl';refine Ht (kk:=kfD (Ad a')) nAb (Dh.key a') f2 ?_;rfl';refine Bp (d:=.ref r2) T0.nd_ (Di (by rw[Ar,hr2];rfl)) ?_;rfl';refine Cs (GO (by omega)) ?_;rfl';have eN:(z:Int)+((y.2.1:Int)+(i:Int)*((AM G l' y.2.2:Nat):Int))=((z+(y.2.1+i*AM G l' y.2.2):Nat):Int):=by push_cast;rfl
     rw[eN];refine kz1 r2 a3 num (z+(y.2.1+i*AM G l' y.2.2)) y.2.2 _ _ _ ?_ hr2 ?_
     .rw[BR,show l+1-(j+1)=l' by omega];exact hnum
     .rw[BR,show l+1-(j+1)=l' by omega,<-hnr];simp only[Fh,hlx,armAt,f1,Gq]
  .rintro Cy fz1 r a k z rest' e1 e2 e3 hnk hrk hnr;refine fz1 _ _ rfl ?_;rw[BR,hl,Nat.sub_self] at hnr;rfl';refine⟨rfl,p0,hy z ?_⟩;rw[<-hnr];rfl
end
def AEE{L:AC}{t:Nat}{ws wd:ANE}{G:Ah}{Q:ANn}(T:HF L t ws G wd){row:List D}(hp:∀p∈row,DX p)(hl:0<row.length/\row.length<=3)(hno:row.all (EN ws)=false)(h:Q .non L):W2 (zp [.ref t,.tup row] L) Q:=by unfold zp;refine BZ rfl ?_;unfold Ll;rfl';refine VU T hp hl ?_;rw[hno];rfl';exact⟨rfl,AW _,h⟩
def AHD{ws ts:ANE}{G:Ah}(K:DY ws ts G){l:Nat}{rest:ANE}:((DA G l rest).map (·.1)).Nodup:=by
 have h1:=OD G l rest (BH G (l+1) rest);refine h1.nodup ?_;unfold BH;split
 .split <;> simp
 .exact K.nd
def AEt{ws ts:ANE}{G:Ah}(K:DY ws ts G)(nd:(G.flatMap (·.2)).Nodup){p d:D}(hp:EB ws p)(h:BP (DS (CK G)) (kfD p)=some d):∃(a:ANE) (ps:List D) (i:Nat),(a,ps)∈G/\ps[i]?=some p/\d=.tup [Ad a,.int (i:Int)]:=by
 rw[Vg (Xj K nd)] at h;unfold BP at h;obtain⟨e,he,rfl⟩:=Gj.mp h;have hk:e.1=kfD p:=by have h0:=AMU he;simpa using h0
 obtain⟨⟨a,ps⟩,hG,hm⟩:=Dc.mp (AL6 he);unfold Dn at hm;obtain⟨⟨q,i⟩,hq,rfl⟩:=Aq.mp hm;have hq:=AMw.mp hq;have k1:=Hz (K.snd (a,ps) hG q (Bk hq)).2.1;have k2:=Hz (Vp hp);have e:q=p:=by rw[k1,k2];exact congrArg Dm hk
 subst e;exact⟨a,ps,i,hG,hq,rfl⟩
def WG{ws ts:ANE}{G:Ah}(K:DY ws ts G)(nd:(G.flatMap (·.2)).Nodup):∀{l:Nat} {rest:ANE} {row:List D} {z m:Nat},(∀p∈row,EB ws p)->row.length=l->Fh G l rest row z=some m->∃n,IL G l rest row n/\m=z+n
 |0,rest,[],z,m,_,_,h=>by cases h;exact⟨0,rfl,rfl⟩
 |0,rest,_::_,z,m,_,hl,h=>by simp at hl
 |l+1,rest,[],z,m,_,hl,h=>by simp at hl
 |l+1,rest,p::row,z,m,hp,hl,h=>by
  unfold Fh at h
  cases e1:BP (DS (CK G)) (kfD p) with
  |none=>rw[e1] at h;cases h
  |some d =>
   obtain⟨a,ps,i,hG,hi,rfl⟩:=AEt K nd (hp p Az) e1;rw[e1] at h;dsimp only at h
   cases e2:armAt G l rest (kfD (Ad a)) with
   |none=>rw[e2] at h;cases h
   |some x =>
    rw[e2] at h;dsimp only at h;unfold armAt at e2;have hx:=AL6 e2;have hxa:x.1=a:=Dh.kf (by have h0:=AMU e2;simpa using h0);obtain⟨n',hn,rfl⟩:=WG K nd (λq hq=>hp q (BA _ hq)) (by simpa using hl) h;refine⟨x.2.1+i*AM G l x.2.2+n',⟨a,ps,i,x.2.1,x.2.2,n',hG,hi,by rw[<-hxa];exact hx,hn,rfl⟩,?_⟩;rw[Gq];omega
def WE{ws ts:ANE}{G:Ah}(K:DY ws ts G)(nd:(G.flatMap (·.2)).Nodup):∀{l n:Nat} {rest:ANE} {row:List D} {z:Nat},IL G l rest row n->Fh G l rest row z=some (z+n)
 |0,n,rest,[],z,h=>by have h:n=0:=h;subst h;rfl
 |0,n,rest,_::_,z,h=>by cases h
 |l+1,n,rest,[],z,h=>by cases h
 |l+1,n,rest,p::row,z,h=>by
  obtain⟨a,ps,i,f,b,n',hG,hi,hx,hn,rfl⟩:=h;unfold Fh;rw[AEU K nd hG hi];dsimp only
  have e2:armAt G l rest (kfD (Ad a))=some (a,f,b):=by
   unfold armAt
   cases e:(DA G l rest).find? λx=>decide (kfD (Ad x.1)=kfD (Ad a)) with
   |none =>
    have:=AMO.mp e (a,f,b) hx;simp at this
   |some y =>
    have hy:=AL6 e;have hya:y.1=a:=Dh.kf (by have h0:=AMU e;simpa using h0);have hnd:((DA G l rest).map (·.1)).Nodup:=AHD K;rw[IM (f:=λx:Arm=>x.1) hnd hy hx hya]
  rw[e2];dsimp only;rw[WE K nd hn,Gq]
  congr 1
  omega
def SR{G:Ah}{l:Nat}:∀{r:List Arm} {s e:Nat},GW G l s r e->∀x∈r,s<=x.2.1/\x.2.1+GD G l x<=e
 |[],_,_,_,x,h=>(nomatch h)
 |y::r,s,e,h,x,hx=>by
  have h2:=SQ h.2.2;have h1:=h.1;rcases AX.mp hx with rfl|hx
  .omega
  .have:=SR h.2.2 x hx;omega
def Xm{G:Ah}{l z:Nat}{x:Arm}:∀{r:List Arm} {s e:Nat} {o:Option Arm},GW G l s r e->x∈r->x.2.1<=z->z<x.2.1+GD G l x->Ec z o r=some x
 |[],_,_,_,_,h,_,_=>(nomatch h)
 |y::r,s,e,o,h,hx,h1,h2=>by
  have hy:=h.1;unfold Ec;rcases AX.mp hx with rfl|hx
  .rw[if_neg (by omega)];exact Xk h.2.2 (by omega)
  .have:=SR h.2.2 x hx;rw[if_neg (by omega)];exact Xm h.2.2 hx h1 h2
def AFe{ws ts:ANE}{G:Ah}(K:DY ws ts G){a:ANE}{ps:List D}(h:(a,ps)∈G):Dz G a=some ps:=by obtain⟨e,hf,he,hk⟩:=GU (CG (f:=λe:ANE×List D=>e.1) h);have:e=(a,ps):=IM (f:=λe:ANE×List D=>e.1) K.nd he h hk;unfold Dz;rw[hf,this];rfl
def WD{ws ts:ANE}{G:Ah}(K:DY ws ts G):∀{l n:Nat} {rest:ANE} {row:List D},IL G l rest row n->n<AM G l rest/\CA G l rest n=row
 |0,n,rest,[],h=>by
  have h:n=0:=h;subst h;exact⟨by simp[AM],rfl⟩
 |0,n,rest,_::_,h=>by cases h
 |l+1,n,rest,[],h=>by cases h
 |l+1,n,rest,p::row,h=>by
  obtain⟨a,ps,i,f,b,n',hG,hp,hx,hn,rfl⟩:=h;obtain⟨h1,h2⟩:=WD K hn;have hg:=AFe K hG;have hi:i<ps.length:=(Ax.mp hp).1;have hc:=Sa (l:=l) (rest:=rest) K.pos;have hwid:GD G l (a,f,b)=ps.length*AM G l b:=by unfold GD CN;rw[hg];rfl
  have hlt:i*AM G l b+n'<ps.length*AM G l b:=by have:=ALm (AM G l b) (show i+1<=ps.length from hi);rw[ALg] at this;omega
  have hge:=SR hc (a,f,b) hx;rw[hwid] at hge;have hf:=Xm (o:=none) (z:=f+i*AM G l b+n') hc hx (by show f<=_;omega) (by rw[hwid];show _<f+_;omega);have e1:f+i*AM G l b+n'-f=n'+AM G l b*i:=by rw[Nat.mul_comm i];omega
  refine⟨by have:=hge.2;show _<AM G (l+1) rest;have h5:f+ps.length*AM G l b<=AM G (l+1) rest:=this;omega,?_⟩;unfold CA;rw[hf];show(((Dz G a).getD [])[(f+i*AM G l b+n'-f) / AM G l b]?.getD .non)::CA G l b ((f+i*AM G l b+n'-f) % AM G l b)=_;rw[hg,e1,Nat.add_mul_div_left _ _ (by omega),Nat.div_eq_of_lt h1,Nat.add_mul_mod_self_left,Nat.mod_eq_of_lt h1,h2,BR];show(ps[i]?.getD .non)::row=_;rw[hp];rfl
def Ye{G:Ah}{l:Nat}{rest a b:ANE}(h1:a∈BH G (l+1) rest)(h2:DI rest a=some b)(h3:AM G l b≠0):∃f,(a,f,b)∈DA G l rest:=by
 have stay:∀(xs:List (ANE)) (st:List Arm×Nat) (x:Arm),x∈st.1->x∈(xs.foldl (DC G l rest) st).1:=by
  intro xs
  induction xs with
  |nil=>intro st x h;exact h
  |cons y xs ih =>
   intro st x h;refine ih _ x ?_;unfold DC
   cases DI rest y with
   |none=>exact h
   |some b =>
    simp only;split
    .exact h
    .exact ALh _ h
 have go:∀(xs:List (ANE)) (st:List Arm×Nat),a∈xs->∃f,(a,f,b)∈(xs.foldl (DC G l rest) st).1:=by
  intro xs
  induction xs with
  |nil=>intro st h;cases h
  |cons y xs ih =>
   intro st h;rcases AX.mp h with rfl|h
   .refine⟨st.2,stay xs _ _ ?_⟩;unfold DC;rw[h2];simp only;rw[if_neg h3];exact Ej _ (Dt.mpr rfl)
   .exact ih _ h
 exact go _ _ h1
def WF{ws ts:ANE}{G:Ah}(K:DY ws ts G):∀(qs:List (D×ANE)) (rest:ANE),rest.length=ts.length->(∀q∈qs,∃ps,(q.2,ps)∈G/\q.1∈ps)->(∀i,i<ts.length->(qs.flatMap λq=>(q.2.getD i "").cps.toList)=(rest.getD i "").cps.toList)->qs≠[]->∃n,IL G qs.length rest (qs.map (·.1)) n
 |[],_,_,_,_,h=>absurd rfl h
 |q::qs,rest,hr,hm,hc,_=>by
  obtain⟨ps,hG,hp⟩:=hm q Az;obtain⟨i,hi⟩:=AMV hp;have hin:q.2∈G.map (·.1):=CG (f:=λe:ANE×List D=>e.1) hG;have hal:=K.len q.2 hin;have hst:∀i,i<ts.length->Txt.startswith (rest.getD i "") (q.2.getD i "")=true/\(Txt.slice (rest.getD i "") (some ((q.2.getD i "").length:Int)) none).cps.toList=qs.flatMap λq=>(q.2.getD i "").cps.toList:=λi h=>ABP (by rw[<-hc i h,Du])
  have hb:DI rest q.2=some (FV rest q.2 rest.length):=by unfold DI;rw[if_pos];unfold NG;rw[Bu];exact λi h=>(hst i (by have:=CM.mp h;omega)).1
  have hbl:=SX hb
  have hdr:∀i,i<ts.length->(qs.flatMap λq=>(q.2.getD i "").cps.toList)=((FV rest q.2 rest.length).getD i "").cps.toList:=λi h=>by
   have e5:(FV rest q.2 rest.length).getD i ""=Txt.slice (rest.getD i "") (some ((q.2.getD i "").length:Int)) none:=by unfold FV;simp[show i<rest.length by omega]
   rw[e5,(hst i h).2]
  cases qs with
  |nil =>
   have e:q.2=rest:=by apply Qv (by omega);intro i h;have:=hc i (by omega);apply VE;simpa using this
   have ht:q.2∈BH G (0+1) rest:=by unfold BH;rw[if_pos rfl,if_pos (e▸hin)];simp[e]
   obtain⟨f,hf⟩:=Ye (l:=0) ht hb (by simp[AM]);exact⟨_,q.2,ps,i,f,_,0,hG,hi,hf,rfl,rfl⟩
  |cons q2 qs =>
   obtain⟨n',hn⟩:=WF K (q2::qs) _ (hbl.trans hr) (λx hx=>hm x (BA _ hx)) hdr (by simp)
   have ht:q.2∈BH G ((q2::qs).length+1) rest:=by unfold BH;rw[if_neg (by simp)];exact hin
   obtain⟨f,hf⟩:=Ye (l:=(q2::qs).length) ht hb (AEF K hn);exact⟨_,q.2,ps,i,f,_,n',hG,hi,hf,hn,rfl⟩
abbrev Gd(ps:List D):Prop:=(∀p∈ps,DX p)/\0<ps.length/\ps.length<=3
def Gd.noRef{ps:List D}(h:Gd ps):(D.tup ps).noRef=true:=by rw[D.noRef];exact NQ λp hp=>(h.1 p hp).noRef
def AFn{Q:ANn}{L:AC}{k:Nat}{ys:ANE}(e:L[k]?=some (.lst (ys.map D.str)))(hz:ys.length<1000)(h:Q (.int ((uqS [] ys).length:Int)) L):W2 (JS [.ref k] L) Q:=by
 refine⟨_,_,?_,h⟩
 have e2:BW (ys.map D.str)=some ys:=by
  clear e hz h
  induction ys with
  |nil=>rfl
  |cons y ys ih=>simp[BW,ih]
 simp only[JS,e,e2,AT];rw[if_pos hz]
def AGX{d t:Str}(h:Ay t):Ay (Do d t):=by
 have mp:∀(f:Nat->Nat),(∀c∈Ia,f c∈Ia)->Ay ⟨t.cps.map f⟩:=λf hf c hc=>by
  have hc:c∈(t.cps.map f).toList:=hc;rw[Array.toList_map] at hc;obtain⟨b,hb,rfl⟩:=Aq.mp hc;exact hf b (h b hb)
 unfold Do;split
 .rw[upper_ascii h.ascii];exact mp _ (by decide)
 .split
  .rw[lower_ascii h.ascii];exact mp _ (by decide)
  .exact h
def ABa{y:Str}{i j:Nat}(h1:i<j)(h2:j<=y.length):0<(Txt.slice y (some (i:Int)) (some (j:Int))).length:=by
 have key:Txt.slice y (some (i:Int)) (some (j:Int))=y\/(Txt.slice y (some (i:Int)) (some (j:Int))).cps.toList=(y.cps.toList.drop i).take (j-i):=by
  have e1:=StrLaws.sliced_plain y (AL8 h1) h2;unfold Txt.slice;split
  .exact .inl rfl
  .exact .inr e1
 rcases key with e|e
 .rw[e];omega
 .have:=congrArg List.length e;rw[EW,AL0] at this;have hy:y.cps.toList.length=y.length:=rfl;have hz:(Txt.slice y (some (i:Int)) (some (j:Int))).cps.toList.length=(Txt.slice y (some (i:Int)) (some (j:Int))).length:=rfl;omega
def ACz{y t:Str}{p:D}(hy:Ay y)(hp:DX p)(h:Bg y p=.str t):Ay t/\0<t.length:=by
 rcases hp with⟨w,rfl,h1,_,h3⟩|⟨d,a,b,rfl,_,ha,hb⟩
 .cases h;exact⟨h1,h3⟩
 .obtain⟨k,n,e,rfl,_⟩:=id hb;rw[JB] at h;rcases HN ha y with e1|⟨i,e1,hi0,_⟩
  .rw[e1] at h;cases h
  .rcases HN hb y with e2|⟨j,e2,hj0,hj⟩
   .rw[e1,e2] at h;cases h
   .rw[e1,e2] at h;dsimp only at h
    by_cases hji:j<=i
    .rw[if_pos hji] at h;cases h
    .rw[if_neg hji] at h;cases h;refine⟨AGX (hy.slice _ _),?_⟩;rw[YA (hy.slice _ _)];obtain⟨i,rfl⟩:=Int.eq_ofNat_of_zero_le hi0;obtain⟨j,rfl⟩:=Int.eq_ofNat_of_zero_le hj0;exact ABa (by omega) (by omega)
def Nm{Q:ANn}{L:AC}{xs ys:List D}(hz:xs.length+ys.length<=16777216)(h:Q (.tup (xs++ys)) L):W2 (BB (.tup xs) (.tup ys) L) Q:=by
 cases xs with
 |nil=>exact g_addTE h
 |cons x xs=>exact AFs (by simp) hz h
def AEh{Q:ANn}{L:AC}{ts:ANE}{ps:List D}{t n:Nat}(htx:L[t]?=some (.lst (ts.map D.str)))(ht:Gb ts)(hl:ts.length<=100)(hr:Gd ps)(hn:n<ps.length)(ha:∀p∈ps,Fx ts p)
  (q:∀ps',Gd ps'->Q (.tup ps') L):W2 (KR [.tup ps,.int (n:Int),.ref t] L) Q:=by
 obtain⟨p,hpn⟩:∃p,ps[n]?=some p:=⟨ps[n],by simp[hn]⟩;have hpm:=Bk hpn;have ep:atI ps (n:Int)=some p:=Di hpn;have h3:=hr.2.2
 let an:Str->Str:=λy=>match Bg y p with|.str a=>a|_=>""
 have han:∀y∈ts,Bg y p=.str (an y):=λy hy=>by
  obtain⟨a,e⟩:=ha p hpm y hy
  show Bg y p=.str (match Bg y p with|.str a=>a|_=>"")
  rw[e]
 unfold KR;refine BZ rfl ?_;unfold PK;refine Bf (λCz=>Cz [some (.tup ps),some (.int (n:Int)),some (.ref t),some (.ref L.length)] (L++[Ob.lst ((ts.map an).map D.str)])) (λCz kz1=>?_) ?_
 .rfl';refine Fc (λj Cz=>∀a,Cz [a,some (.tup ps),some (.int (n:Int))] (L++[Ob.lst (((ts.take j).map an).map D.str)])) _ 0 _ _ (λCz kw1=>kw1 none) ?_ ?_
  .rintro i z hz Cz Cy fw1 kw1 a;rw[Ar] at hz;obtain⟨y,hy,hz⟩:=mS hz;cases hz;have hym:=Bk hy;have hi:i<ts.length:=(Ax.mp hy).1;refine fw1 _ _ (decide_eq_true (AV htx)) ?_;rfl';refine XT ep ?_;rfl';refine RZ (by have:=ht y hym;omega) (ht y hym).1 (hr.1 p hpm) ?_;rw[han y hym];refine⟨_,AY,by simp;omega,FE (kw1 _) ?_⟩;have htk:ts.take (0+i+1)=ts.take (0+i)++[y]:=by rw[BR,Gk,hy];rfl
   rw[htk];simp
  .rintro Cy fw1 _;refine fw1 _ _ (decide_eq_true (AV htx)) ?_;rw[BR,Aa,Ei];exact kz1
 skip
 have keep:(D.tup ps).noRef=true/\L <+: L++[.lst ((ts.map an).map D.str)]/\Q (.tup ps) L:=⟨hr.noRef,Ai _ _,q ps hr⟩;rfl';refine BN (λh0=>?_) (λh0=>?_)
 .rfl';exact keep
 cases ts with
 |nil=>exact absurd rfl h0
 |cons y0 ts =>
 have e0:atI (((y0::ts).map an).map D.str) 0=some (.str (an y0)):=Di (j:=0) rfl;have hy0:=ht y0 Az;have hsg:=ACz hy0.1 (hr.1 p hpm) (han y0 Az);rfl';refine AFn AY (by rw[Aa];omega) ?_;rfl';refine BN (λh1=>?_) (λh1=>?_)
 .rfl';exact keep
 rfl';refine Bp AY e0 ?_;rfl';refine BN (λh2=>?_) (λh2=>?_)
 .rfl';exact keep
 rfl';refine Bp AY e0 ?_;rfl';rw[Ja];refine Nm (by simp;omega) ?_;rfl';rw[show((n:Int)+1)=((n+1:Nat):Int) by omega,SN];refine Nm (by simp;omega) ?_
 have hR:Gd (ps.take n++[.tup [.str "word",.str (an y0)]]++ps.drop (n+1)):=by
  refine⟨λx hx=>?_,by simp;omega,by simp;omega⟩;rcases Bi.mp hx with h|h
  .rcases Bi.mp h with h|h
   .exact hr.1 x (ALb h)
   .rw[Dt.mp h];exact .inl ⟨an y0,rfl,hsg.1,by omega,hsg.2⟩
  .exact hr.1 x (AMS h)
 exact⟨hR.noRef,Ai _ _,q _ hR⟩
def Mw{z m:Int}(h:0<m):∃n:Nat,z % m=n/\(n:Int)<m:=⟨(z % m).toNat,(Int.toNat_of_nonneg (DN z (by omega))).symm,by have:=EX z h;have:=DN z (b:=m) (by omega);omega⟩
def AEi{Q:ANn}{L:AC}{ns:ANK}{kd kw kt:Nat}{ws ts:ANE}{ps:List D}(hd:L[kd]?=some (.lst (ns.map .int)))(h24:24<=ns.length)(hkw:L[kw]?=some (.lst (ws.map D.str)))(hkt:L[kt]?=some (.lst (ts.map D.str)))(hw:Ga ws)(ht:Gb ts)(hl:ts.length<=6)(hne:ws≠[]\/∀y∈ts,y≠"")(hr:Gd ps)(ha:∀p∈ps,Fx ts p)
  (q:∀(rs:List (List D)) k L',(∀r∈rs,Gd r)->L <+: L'->L'[k]?=some (.lst (rs.map .tup))->Q (.ref k) L'):W2 (KQ [.ref kd,.ref kw,.tup ps,.ref kt] L) Q:=by
 obtain⟨z3,_,e3⟩:=HD (ns:=ns) (k:=3) (by decide) (by omega);have h0:=hr.2.1;have h3:=hr.2.2;have h6:=hw.2.2;obtain⟨n,hn,hnl⟩:=Mw (z:=z3) (m:=(ps.length:Int)+1) (by omega);obtain⟨m,hm,hml⟩:=Mw (z:=z3 / 16) (m:=(ps.length:Int)) (by omega);unfold KQ;refine FN rfl ?_;unfold PD;refine Bf (λCz=>Cz [some (.ref kd),some (.ref kw),some (.tup ps),some (.ref kt),some (.int z3),none,none,none,none,none,none,none,none] L) (λCz kz1=>?_) ?_
 .rfl';refine Bp hd e3 ?_;exact kz1
 skip
 refine Bf (λCz=>∀os,Gd os->Cz [some (.ref kd),some (.ref kw),some (.tup ps),some (.ref kt),some (.int z3),some (.tup os),none,none,none,none,none,none,none] L) (λCz kz2=>?_) ?_
 .rfl';exact WR _ hkw hkt hw ht (by omega) hne λos hos=>kz2 os ⟨λp hp=>(hos.1 p hp).piece hw,hos.2.2⟩
 rintro os hos;have ho:=hos.2.1;refine Bf (λCz=>Cz [some (.ref kd),some (.ref kw),some (.tup ps),some (.ref kt),some (.int z3),some (.tup os),some (.int (n:Int)),none,none,none,none,none,none] L) (λCz kz3=>?_) ?_
 .rfl';rw[hn];exact kz3
 skip
 refine Bf (λCz=>∀(ne:List D),Gd (ne.take 3)->Cz [some (.ref kd),some (.ref kw),some (.tup ps),some (.ref kt),some (.int z3),some (.tup os),some (.int (n:Int)),some (.tup ne),none,none,none,none,none] L) (λCz kz4=>?_) ?_
 .obtain⟨i,hi,hil⟩:=Mw (z:=z3 / 4) (m:=(os.length:Int)) (by omega);obtain⟨p,hp⟩:∃p,os[i]?=some p:=⟨os[i]'(by omega),List.getElem?_eq_getElem _⟩;rfl';rw[hi];refine XT (Di hp) ?_;rfl';rw[Ja];refine Nm (by simp;omega) ?_;rfl';rw[show((n:Int)+1)=((n+1:Nat):Int) by omega,SN];refine Nm (by simp;omega) ?_;refine kz4 _ ⟨λx hx=>?_,by simp;omega,by simp;omega⟩;rcases Bi.mp (ALb hx) with h|h
  .rcases Bi.mp h with h|h
   .exact hr.1 x (ALb h)
   .rw[Dt.mp h];exact hos.1 p (Bk hp)
  .exact hr.1 x (AMS h)
 rintro ne hnr;refine Bf (λCz=>∀L':AC,L <+: L'->∀(w:Str) (km:Nat),(Ay w/\w.length<=8/\0<w.length)->L'[km]?=some (.lst ((ws++[w]).map D.str))->Cz [some (.ref kd),some (.ref kw),some (.tup ps),some (.ref kt),some (.int z3),some (.tup os),some (.int (n:Int)),some (.tup ne),some (.ref km),none,none,none,none] L') (λCz kz5=>?_) ?_
 .rfl';refine GP _ AY (by decide) (by decide) λd hd=>?_
  have hd':∃w:Str,d=.str w/\Ay w/\w.length<=8/\0<w.length:=by
   simp only[AX,Db,or_false] at hd;rcases hd with rfl|rfl|rfl|rfl
   .exact⟨_,rfl,by decide⟩
   .exact⟨_,rfl,by decide⟩
   .exact⟨_,rfl,by decide⟩
   .exact⟨_,rfl,by decide⟩
  obtain⟨w,rfl,hwd⟩:=hd';rfl';refine Nl (AV (AV hkw)) AY (by simp;omega) ?_;refine kz5 _ (((Ai _ _).trans (Ai _ _)).trans (Ai _ _)) w _ hwd ?_;rw[AY,DM];rfl
 rintro L2 p2 w km hwd hkm
 have hpc:∀d,EB (ws++[w]) d->DX d:=λd h=>by
  rcases h with⟨v,hv,rfl⟩|h
  .rcases Bi.mp hv with h|h
   .exact EB.piece hw (.inl ⟨v,h,rfl⟩)
   .rw[Dt.mp h];exact .inl ⟨w,rfl,hwd⟩
  .exact .inr h
 have hkl:km<L2.length:=(Ax.mp hkm).1;obtain⟨c,hc,hcl⟩:=Mw (z:=z3 / 256) (m:=3) (by omega);rfl';refine Cn (λj Cz=>∀L':AC,∀(fs:List D) (p:Int) (a:Option D),L'=L2++[Ob.lst fs]->(∀p∈fs,DX p)->fs.length=j->Cz [some (.ref kd),some (.ref kw),some (.tup ps),some (.ref kt),some (.int z3),some (.tup os),some (.int (n:Int)),some (.tup ne),some (.ref km),some (.ref L2.length),some (.int p),a,none] L') _ 0 _ _ (λCz kz6=>kz6 _ [] _ none rfl (λ_ h=>(nomatch h)) rfl) ?_ ?_
 .rintro i x hx Cz Cy fz6 kz6 L' fs p a rfl h1 h2;obtain⟨hi,rfl⟩:=Km hx;refine fz6 _ _ rfl ?_;rfl';refine WV _ (AV hkm) λd hd1=>?_;rfl';refine GR AY (by omega) ?_;rfl';refine kz6 _ (fs++[d]) _ _ (by simp) (λr hr=>?_) (by simp;omega);rcases Bi.mp hr with h|h
  .exact h1 r h
  .rw[Dt.mp h];exact hpc d hd1
 .rintro Cy fz6 L' fs p a rfl h1 h2;refine fz6 _ _ rfl ?_;rw[Ff] at h2;have hkt3:=AV (M:=[Ob.lst fs]) (CY p2 hkt);rfl';rw[hm];refine AEh hkt3 ht (by omega) hr (by omega) ha λsp hsp=>?_;rfl';rw[show(3:Int)=((3:Nat):Int) from rfl,Ja,show(1:Int)=((1:Nat):Int) from rfl,Ja];refine⟨rfl,q [ps,os,ne.take 3,fs,sp,ps.take 1,ps] _ _ (λr hm=>?_) (p2.trans ((Ai _ _).trans (Ai _ _))) AY⟩;have hF:Gd fs:=⟨h1,by omega,by omega⟩;have hT:Gd (ps.take 1):=⟨λx hx=>hr.1 x (ALb hx),by simp;omega,by simp;omega⟩;simp only[AX,Db,or_false] at hm;rcases hm with rfl|rfl|rfl|rfl|rfl|rfl|rfl
  .exact hr
  .exact hos
  .exact hnr
  .exact hF
  .exact hsp
  .exact hT
  .exact hr
def AC1{ws:ANE}{p:D}(h:EB ws p):GN 29 p=true:=by
 rcases h with⟨w,_,rfl⟩|⟨d,x,y,rfl,_,hx,hy⟩
 .rfl
 .obtain⟨k,n,e,rfl,_⟩:=hx;obtain⟨k',n',e',rfl,_⟩:=hy;rfl
def AAQ{Q:ANn}{L:AC}{i:Int}(h:Q (.bl true) L):W2 (Jz [.int i] L) Q:=by unfold Jz;refine BZ rfl ?_;unfold QX;rfl';exact⟨rfl,AW _,h⟩
def AB1{ws:ANE}{exs:Ee}(hl:ws.length<=6){l z:Nat}(hl3:l<3)(hz:z<AM (CZ ws ((BM exs).map (·.1)) ((BM exs).map (·.2))) (l+1) ((BM exs).map (·.2))) :
  Ih ws (CA (CZ ws ((BM exs).map (·.1)) ((BM exs).map (·.2))) (l+1) ((BM exs).map (·.2)) z)/\HB (CA (CZ ws ((BM exs).map (·.1)) ((BM exs).map (·.2))) (l+1) ((BM exs).map (·.2)) z) exs=true:=by
 generalize hts:(BM exs).map (·.1)=ts at *;generalize hwd:(BM exs).map (·.2)=wd at *;have K:=Rx hl ts wd;generalize CZ ws ts wd=G at *;have hlen:wd.length=ts.length:=by rw[<-hts,<-hwd,Aa,Aa]
 have hm:=NC K hz;refine⟨⟨hm.2,by rw[hm.1];omega,by rw[hm.1];omega⟩,?_⟩;unfold HB;rw[Bu];intro x hx;obtain⟨i,hi⟩:=AMV ((NB exs).mem_iff.mpr hx);have hi1:i<(BM exs).length:=(Ax.mp hi).1;have e1:ts.getD i ""=x.1:=by rw[<-hts];simp[hi]
 have e2:wd.getD i ""=x.2:=by rw[<-hwd];simp[hi]
 have:=AB2 K hz hlen (i:=i) (by rw[<-hts,Aa];exact hi1);rw[e1,e2] at this;exact decide_eq_true this
def AGE{ws:ANE}{exs:Ee}{ps:List D}(hl:ws.length<=6)(hr:Ih ws ps)(hf:HB ps exs=true):∃n,IL (CZ ws ((BM exs).map (·.1)) ((BM exs).map (·.2))) ps.length ((BM exs).map (·.2)) ps n:=by
 have hS:∀i,i<(BM exs).length->Ez (((BM exs).map (·.1)).getD i "") ps=.str (((BM exs).map (·.2)).getD i ""):=λi hi=>by
  have hm:(BM exs)[i]∈exs:=(NB exs).mem_iff.mp (AMj hi);have:=of_decide_eq_true (Bu.mp hf _ hm);simpa[hi] using this
 have hn1:((BM exs).map (·.1)).length=(BM exs).length:=by rw[Aa]
 have hn2:((BM exs).map (·.2)).length=(BM exs).length:=by rw[Aa]
 generalize hts:(BM exs).map (·.1)=ts at *;generalize hwd:(BM exs).map (·.2)=wd at *;have K:=Rx hl ts wd
 let ans:Str->D->Str:=λy p=>match Bg y p with|.str s=>s|_=>""
 have hall:∀i,i<ts.length->(∀p∈ps,Bg (ts.getD i "") p=.str (ans (ts.getD i "") p))/\(ps.flatMap λp=>(ans (ts.getD i "") p).cps.toList)=(wd.getD i "").cps.toList:=λi hi=>by
  have h:=hS i (by omega);unfold Ez at h
  cases e:BW (ps.map (Bg (ts.getD i ""))) with
  |none=>rw[e] at h;cases h
  |some ys =>
   rw[e] at h;have hj:Txt.join "" ys=wd.getD i "":=D.str.inj h;have em:=Uz e
   have hp:∀p∈ps,Bg (ts.getD i "") p=.str (ans (ts.getD i "") p):=λp hp=>by
    have:Bg (ts.getD i "") p∈ys.map D.str:=by rw[<-em];exact CG hp
    obtain⟨s,_,hs⟩:=Aq.mp this
    show Bg (ts.getD i "") p=.str (match Bg (ts.getD i "") p with|.str s=>s|_=>"")
    rw[<-hs]
   refine⟨hp,?_⟩
   have hy:ys=ps.map λp=>ans (ts.getD i "") p:=by
    have:ys.map D.str=(ps.map λp=>ans (ts.getD i "") p).map D.str:=by rw[<-em,CH];exact GB λp h=>hp p h
    exact NS (λ_ _ e=>D.str.inj e) this
   rw[<-hj,Wn,hy,AMW]
 have hin:∀p∈ps,∃qs,((List.range ts.length).map (λi=>ans (ts.getD i "") p),qs)∈CZ ws ts wd/\p∈qs:=λp hp=>by
  have hg:∀i,i<ts.length->((List.range ts.length).map λi=>ans (ts.getD i "") p).getD i ""=ans (ts.getD i "") p:=λi hi=>by simp[hi]
  refine AC0 (ws:=ws) (ts:=ts) (wd:=wd) (a:=(List.range ts.length).map λi=>ans (ts.getD i "") p) (hr.1 p hp) (by simp) (λi hi=>by rw[hg i hi];exact(hall i hi).1 p hp) ?_;unfold Hr;rw[Bu];intro i hi;have hi:i<ts.length:=by simpa using CM.mp hi
  rw[hg i hi];obtain⟨as,bs,rfl⟩:=List.append_of_mem hp;refine AFR (u:=as.flatMap λp=>(ans (ts.getD i "") p).cps.toList) (v:=bs.flatMap λp=>(ans (ts.getD i "") p).cps.toList) ?_;rw[<-(hall i hi).2,ALv,Du,ALc]
 have h0:=hr.2.1
 obtain⟨n,hn⟩:=WF K (ps.map λp=>(p,(List.range ts.length).map λi=>ans (ts.getD i "") p)) wd (by omega) (λq hq=>by
   obtain⟨p,hp,rfl⟩:=Aq.mp hq
   exact hin p hp) (λi hi=>by
   rw[AMW,<-(hall i hi).2]
   congr 1
   funext p
   simp[hi]) (λz=>by rw[List.map_eq_nil_iff] at z;rw[z] at h0;exact absurd h0 (by decide))
 rw[Aa,CH] at hn;exact⟨n,by simpa[Function.comp_def] using hn⟩
def AEM{Q:ANn}{L:AC}{xs:List D}(h:GN 30 (.tup xs)=true)(q:Q (.bl false) L):W2 (Hu (.tup xs) (.tup xs) L) Q:=by refine⟨_,_,?_,q⟩;unfold Hu;rw[if_neg (by simp[GI,BD]),if_pos (by simp[Kl,DO])];simp only[Xq 30 L _ h];rfl
def AB5{G:Ah}{wd:ANE}{l n:Nat}(hl:l<3)(hn:n<AM G (l+1) wd):Ft G wd l+n<HR G wd/\ND G wd (Ft G wd l+n)=CA G (l+1) wd n:=by
 have b1:Ft G wd 1=AM G 1 wd:=by simp[Ft]
 have b2:Ft G wd 2=AM G 1 wd+AM G 2 wd:=by simp[Ft,AMF]
 unfold HR ND;rcases(by omega:l=0\/l=1\/l=2) with rfl|rfl|rfl
 .have hn:n<AM G 1 wd:=hn;rw[show Ft G wd 0=0 from rfl,BR];exact⟨by omega,if_pos hn⟩
 .have hn:n<AM G 2 wd:=hn;rw[b1,Nat.add_sub_cancel_left];exact⟨by omega,by rw[if_neg (by omega),if_pos hn]⟩
 .have hn:n<AM G 3 wd:=hn;rw[b2,if_neg (by omega),if_neg (by omega),show AM G 1 wd+AM G 2 wd+n-AM G 1 wd-AM G 2 wd=n by omega];exact⟨by omega,rfl⟩
def AE3(ns:ANK)(hn:ns.length<=63)(hb:∀z∈ns,Builtin.Int.intBits z<=1048576):W2 (Im [.fz (ns.map .int)] []) λd _=>d=.bl true:=by
 unfold Im;refine BZ rfl ?_;unfold QE;refine Bf (λCz=>∀L':AC,∀(vs:ANK) (kd:Nat),L'[kd]?=some (.lst (vs.map .int))->(∀v∈vs,0<=v)->24<=vs.length->vs.length<=54->Cz [some (.fz (ns.map .int)),some (.ref kd),none,none,none,none,none,none,none] L') (λCz kz1=>?_) ?_
 .rfl';exact AEp hb hn 24 54 (by decide) (by decide) (by decide) λvs k L2 _ h2 h3 h4 h5=>kz1 _ vs k h2 h3 (by omega) (by omega)
 rintro L0 vs kd hd0 hv hv24 hv54;refine Bf (λCz=>∀L':AC,∀ws exs ps kw ke,Ga ws->Ii exs->Ih ws ps->exs.length<=6->(∀p∈ps,Fx (exs.map Prod.fst) p)->(ws≠[]\/∀y∈exs.map Prod.fst,y≠"")->L0 <+: L'->L'[kw]?=some (.lst (ws.map D.str))->L'[ke]?=some (.lst (exs.map Bb))->Cz [some (.fz (ns.map .int)),some (.ref kd),some (.ref kw),some (.tup ps),some (.ref ke),none,none,none,none] L') (λCz kz2=>?_) ?_
 .rfl';refine AEk hd0 hv hv24 (by omega) λws ps exs L' kw ke kk h1 h2 h3 h4 h5 ha hne h6 h7 h8 h9=>?_;rfl';exact kz2 _ ws exs ps kw ke h1 h3 h2 h5 ha hne h6 h7 h8
 rintro L1 ws exs ps kw ke hw hx hrow hxl ha hne p1 hkw1 hke1;have hd1:=CY p1 hd0;refine Bf (λCz=>∀L':AC,∀t,L1 <+: L'->HG L1.length L' t ws (CZ ws ((BM exs).map (·.1)) ((BM exs).map (·.2))) ((BM exs).map (·.2))->Cz [some (.fz (ns.map .int)),some (.ref kd),some (.ref kw),some (.tup ps),some (.ref ke),some (.ref t),none,none,none] L') (λCz kz3=>?_) ?_
 .rfl';refine AAt hkw1 hw.2.2 hke1 hx (by omega) λL3 t hp T=>?_;exact kz3 _ t hp T
 rintro L2 t p2 TB2;have T2:=TB2.tab;have hd2:=CY p2 hd1;have hkw2:=CY p2 hkw1;have hke2:=CY p2 hke1;have K:=Rx hw.2.2 ((BM exs).map (·.1)) ((BM exs).map (·.2));have fl:=AFb hw.1 ((BM exs).map (·.1)) ((BM exs).map (·.2));have fn:=λ{ps:List D} hr hf=>AGE (ws:=ws) (exs:=exs) (ps:=ps) hw.2.2 hr hf;have rk:=λ{l z:Nat} hl3 hz=>AB1 (ws:=ws) (exs:=exs) hw.2.2 (l:=l) (z:=z) hl3 hz;generalize (BM exs).map (·.1)=ts at *;generalize (BM exs).map (·.2)=wd at *;generalize CZ ws ts wd=G at *;refine Bf (λCz=>Cz [some (.fz (ns.map .int)),some (.ref kd),some (.ref kw),some (.tup ps),some (.ref ke),some (.ref t),some (.int (HR G wd:Int)),none,none] L2) (λCz kz4=>?_) ?_
 .rfl';refine AEa T2 ?_;exact kz4
 skip
 rfl';refine Fc (λj Cz=>∀a b,Cz [a,b] (L2++[Ob.lst (((exs.take j).map Prod.fst).map D.str)])) _ 0 _ _ (λCz kw=>kw none none) ?_ ?_
 .rintro i x hxi Cz Cy fw kw a b;rw[Ar] at hxi;obtain⟨ex,hy,hxi⟩:=mS hxi;cases hxi;have hi:=(Ax.mp hy).1;have htk:exs.take (0+i+1)=exs.take (0+i)++[ex]:=by rw[BR,Gk,hy];rfl
  refine fw _ _ (decide_eq_true (AV hke2)) ?_;unfold Bb;rfl';refine⟨_,AY,by simp;omega,FE (kw _ _) ?_⟩;rw[htk];simp
 rintro Cy fw _ _;refine fw _ _ (decide_eq_true (AV hke2)) ?_;rw[BR,Aa,Ei];rfl';refine AEi (AV hd2) hv24 (AV hkw2) AY hw (λy hy=>?_) (by rw[Aa];exact hxl) hne ⟨λp hp=>(hrow.1 p hp).piece hw,hrow.2⟩ ha λrs k L4 hrs p4 hk4=>?_
 .obtain⟨e,he,rfl⟩:=Aq.mp hy;exact⟨(hx e he).1,(hx e he).2.1⟩
 have p4':=(Ai _ _).trans p4;have T4:=T2.pre p4';have hkw4:=CY p4' hkw2;have hke4:=CY p4' hke2;rfl';refine Cn (λj Cz=>∀a b,Cz [some (.fz (ns.map .int)),some (.ref kd),some (.ref kw),some (.tup ps),some (.ref ke),some (.ref t),some (.int (HR G wd:Int)),a,b] L4) _ 0 _ _ (λCz kz5=>kz5 _ _) ?_ ?_
 .rintro i x hxi Cz Cy fz5 kz5 a b;rw[Ar] at hxi;obtain⟨r,hy,hxi⟩:=mS hxi;cases hxi;have hr:=hrs r (Bk hy);refine fz5 _ _ (decide_eq_true hk4) ?_;rfl'
  by_cases hok:r.all (EN ws)=true
  .have hR:=AD7 hr.1 hr.2 hok;obtain⟨l,hl⟩:∃l,r.length=l+1:=⟨r.length-1,by have:=hr.2.1;omega⟩;have hl3:l<3:=by have:=hr.2.2;omega
   refine AED K hw T4 hR hl (λn hnn=>?_) (λhnn=>?_)
   .obtain⟨m,hm,rfl⟩:=WG K fl hR.1 hl hnn;obtain⟨hlt,hrp⟩:=WD K hm;obtain⟨hlm,hra⟩:=AB5 hl3 hlt;have hf:=(rk hl3 hlt).2;rw[hrp] at hf hra;rfl';refine Ra hkw4 hke4 hr.1 hr.2 hx ?_;rw[hok,hf,Bool.and_self];rfl';refine AAQ ?_;rfl';refine AB6 K hw T4 hlm ?_;rw[hra];rfl';refine AEM ?_ ?_
    .show List.all _ (GN 29)=true;rw[Bu];exact λp hp=>AC1 (hR.1 p hp)
    rfl';exact kz5 _ _
   .have hf:HB r exs=false:=by
     cases e:HB r exs with
     |false=>rfl
     |true =>
      obtain⟨m,hm⟩:=fn hR e;rw[hl] at hm;rw[WE K fl hm] at hnn;cases hnn
    rfl';refine Ra hkw4 hke4 hr.1 hr.2 hx ?_;rw[hf,Bool.and_false];rfl';exact kz5 _ _
  .have hok:r.all (EN ws)=false:=by simpa using hok
   refine AEE T4 hr.1 hr.2 hok ?_;rfl';refine Ra hkw4 hke4 hr.1 hr.2 hx ?_;rw[hok,Bool.false_and];rfl';exact kz5 _ _
 .rintro Cy fz5 a b;refine fz5 _ _ (decide_eq_true hk4) ?_;rfl';exact⟨rfl,List.nil_prefix,rfl⟩
def law_true(ns:ANK)(hn:ns.length<=63)(hb:∀z∈ns,Builtin.Int.intBits z<=1048576):∃L',Im [.fz (ns.map .int)] []=some (.bl true,L'):=by obtain⟨d,L',e,rfl⟩:=AE3 ns hn hb;exact⟨L',e⟩
end L3
set_option maxHeartbeats 8000000
namespace L3
open PySem PySem.Spec PyProof.Rows L2
local macro_rules | `(tactic| wtm_at "sc") => `(tactic| exact ⟨rfl, rfl, rfl, by decide +kernel, rfl, by decide +kernel, by decide +kernel⟩)
local macro_rules | `(tactic| wtm_at "b0") => `(tactic| (intro _ _ _ _ _ _ us hl; obtain e := L3.AE1 hl; subst e; rfl))
local macro_rules | `(tactic| wtm_at "b1") => `(tactic| (intro _ _ _ _ _ _ us hl; obtain ⟨_, e⟩ := L3.Wg hl; subst e; rfl))
local macro_rules | `(tactic| wtm_at "b2") => `(tactic| (intro _ _ _ _ _ _ us hl; obtain ⟨_, _, e⟩ := L3.JI hl; subst e; rfl))
local macro_rules | `(tactic| wtm_at "b3") => `(tactic| (intro _ _ _ _ _ _ us hl; obtain ⟨_, _, _, e⟩ := L3.Hn hl; subst e; rfl))
local macro_rules | `(tactic| wtm_at "b4") => `(tactic| (intro _ _ _ _ _ _ us hl; obtain ⟨_, _, _, _, e⟩ := L3.AE0 hl; subst e; rfl))
local macro_rules | `(tactic| wtm_at "bi") => `(tactic| first | wtm_at "b0" | wtm_at "b1" | wtm_at "b2" | wtm_at "b3" | wtm_at "b4")
noncomputable abbrev pW:=PySem.Challenge.pw_byexample_k32_whole_fitting_row_is_in
seal AZ Et IE ES Dq FH HI Jh EC IG LX Cm EU OQ MtD
seal AA AD AE BG AB AG AK Bt CF Bh AJ AO An Bq AU DU As AS IC CS Cv Ba Bw Ak AQ FU Bj AF0 Ca HA AFv BI LC BB CT BE Bm FT
local macro_rules | `(tactic| wtm_at $s:str) => do let w := s.getString.toList; (if w.take 2 == ['d', ' '] then pure () else Lean.Macro.throwUnsupported); let T := "vv.a ALZ.ea.b ALY.c AKh.d AIg.sS.e AKZ.Oee.f AIe.s.g ixq.ee.h AIj.ne.i AIk.e.j AIc.Oeer.k AJs.n.l AKp.Omba.m AKr.FFa.n AIo.tSS.o AKW.p AIf.q AJL.r AKS.Fl.s AKR.t AJW.u AGy.v AK6.w AKk.el.x AJB.e.y AKf.a.z AJq.gG.A AJU.B AJC.e.C AIp.prigS.D AJV.E AKV.a.F AKX.eoo.G AIa.e.H AH9.tw.I AKc.J AJK.K AI2.L AIb.t.M AIZ.w.N ALJ.O AK8.P AKu.Q AKU.mb.R AJD.S AIq.e.T AIA.t.U ALC.V AKj.F.W AJp.X AKo.Omba.Y AKm.iB.Z AJS.0 AKv.ee.1 AKt.fOea:list_append.2 AJr.rG.3 AJh.4 AKn.Oeer.5 AIs.niB.6 AKx.7 AKa.e.8 AJM.9 AJH.! AJE.# AI6.ma.$ AIl.eel.& AGP.Oeex.( AJR.) AJF.* AHj.u.+ AKd.e., AJJ.; ALK.< ALE.= AKl.> ALG.? AKi.tee.^ AKe.FFa._ AJO.{ AI4.zma.| AIm.eee.} ALL.~ AK1.r.' AKt.fOea:list_extend.À AJf.Á AJP.Â AJN.Ã AI1.t.Ä AIw.reG.Å AIr.ueee.Æ AHi.Ç ALN.È ALM.É ALI.Ê ALD.Ë ALA.Ì AK9.r.Í AK7.Î AKy.r.Ï AKt.fOea:dict_setdefault.Ð AKs.fOe:str_lower.Ñ AKs.fOe:str_upper.Ò AKb.e.Ó AJa.Ô AJZ.u.Õ AJX.Ö AJT.× AJI.u.Ø AJG.u.Ù AI8.e.Ú AI7.e.Û AIv.neP.Ü AIn.Ý AId.OOeee.Þ AIC.tw.ß AIB.t.à ALH.á ALF.â AK5.ã AK4.ä AK3.r.å AK2.r.æ AK0.r.ç AKz.è AKt.fOea:dict_get.é AKt.fOea:str_join.ê AKt.fOea:str_startswith.ë AKs.fOe:str_isdigit.ì AKs.fOe:str_islower.í AKs.fOe:str_isupper.î AKq.FF.ï AKg.mma.ð AKY.ee.ñ AJo.ò AJn.ó AJm.ô AJg.u.õ AJe.ö AJd.÷ AJc.ø AJb.ù AJY.ú AJQ.u.û AJA.ma.ü AI9.ma.ý AI5.ma.þ AIu.eelP.ÿ AIt.Ā AIi.ptS.ā AHh.Ă".splitOn " "; let st ← (w.drop 2).foldrM (fun n st => do let v := (((T.find? (·.back == n)).getD "").dropEnd 2).toString.splitOn ":"; let m := (v.headD "").splitOn "."; let q ← (m.getD 1 "").toList.foldlM (fun (q : Array Lean.Term × List Lean.Term) k => do let p ← (match k with | 'F' => return #[← `(by assumption)] | 'r' => return #[← `(rfl)] | 'p' => return #[← `(PassesOwn.never)] | 'u' => return #[← `(Room.units (by assumption))] | 'm' => return #[← `(BlOk.get (by assumption) _)] | 'x' => return #[← `(fun _ _ => rfl)] | 'n' => return #[← `(by first | assumption | exact nqC)] | 'f' => return (let u := v.getD 1 ""; #["plainAttrs_" ++ (u.splitOn "_").headD "", "slot_" ++ u, "type_" ++ u].map fun u => ⟨Lean.mkIdent (.str `PySem.F u)⟩) | _ => return #[]); let a := q.2; (match k, a with | 'B', x :: y :: z :: a => return (q.1.push (← `(fun _ _ _ _ _ _ => ⟨$x, $y, $z⟩)), a) | _, x :: b => return (if p.isEmpty then (q.1.push x, b) else (q.1 ++ p, a)) | _, [] => return (q.1 ++ p, a))) (#[], st); let c := Lean.mkIdent (.mkSimple (m.headD "")); return (← (if q.1.isEmpty then `($c) else `($c $(q.1)*))) :: q.2) ([] : List Lean.Term); let t := st.headD ⟨.missing⟩; `(tactic| exact fun _ _ _ _ _ _ _ _ _ => $t)
abbrev So:ANE:=["abs","all","bool","enumerate","int","isinstance","len","list","max","min","range","set","sorted","str","sum","tuple","zip"]
section
variable {P:Program}{w:World}{K:AL}{mg:AND}{base:Heap}{k:Nat}(hb:BlOk mg So)
 (zi7:EG K mg "DEEDS" KP)
 (zj7:EG K mg "EDGES" zw)
 (zb10:EG K mg "END" Lk)
 (zk7:EG K mg "KINDS" zt)
 (zc10:EG K mg "NOWHERE" KN)
 (zl7:EG K mg "NTHS" zu)
 (zm7:EG K mg "ROW_LENGTHS" zx)
 (zd10:EG K mg "SIGNS_BY_KIND" Ln)
 (zi1:DD K ANN ANR)
 (zq:DD K ANN ANO)
 (zv2:DD K ANM ANP)
 (zn7:DD K ANM ANT)
 (zo7:DD K ANM ANV)
 (zr:DD K ANM ANQ)
 (zj1:DD K ANM ANW)
 (zp7:DD K ANM ANS)
 (ze10:Ao P w K mg base k "_law_mixed" KL)
 (zf10:Ao P w K mg base k "_law_draws" KI)
 (zg5:Ao P w K mg base k "_law_text" zi)
 (zg10:Ao P w K mg base k "_law_words" KG)
 (zh10:Ao P w K mg base k "_law_place" zy)
 (zq7:Ao P w K mg base k "_law_piece" Iw)
 (zi10:Ao P w K mg base k "_law_kind" KC)
 (zj10:Ao P w K mg base k "_law_spot" zg)
 (zh5:Ao P w K mg base k ANj zf)
 (zk10:Ao P w K mg base k "_law_fitting" KA)
 (zr7:Ao P w K mg base k "_law_row" Iv)
 (zs7:Ao P w K mg base k ANk Iu)
 (zl10:Ao P w K mg base k ANl Jy)
 (zm10:Ao P w K mg base k "_law_cell" zj)
 (zn10:Ao P w K mg base k ANm Jw)
 (zo10:Ao P w K mg base k "_law_made" Ju)
 (zp10:Ao P w K mg base k "members_of" Ir)
 (zt7:Fw P w K mg base k ANN zk)
 (zq10:Fw P w K mg base k ANM Jr)
 (zr10:Ao P w K mg base k "all_places" Jq)
 (zs10:Ao P w K mg base k "kind_of" Jp)
 (zt10:Ao P w K mg base k "is_of" Jo)
 (zu10:Ao P w K mg base k "spot" zm)
 (zv10:Ao P w K mg base k "places_by_spots" Jn)
 (zw10:Ao P w K mg base k "stand_within" Kd)
 (zx10:Ao P w K mg base k "add_to_group" Iq)
 (zy10:Ao P w K mg base k "stretches" Kc)
 (zz10:Ao P w K mg base k "pieces_between" Kb)
 (za11:Ao P w K mg base k "done_to" Ka)
 (zb11:Ao P w K mg base k "groups_of" KZ)
 (zc11:Ao P w K mg base k "answers_to_try" KY)
 (zd11:Ao P w K mg base k "rest_behind" KW)
 (zu7:Ao P w K mg base k "node_number" zc)
 (ze11:Ao P w K mg base k "table_of" KU)
 (zf11:Ao P w K mg base k "many" KS)
 (zg11:Ao P w K mg base k "_law_spelled" KR)
 (zh11:Ao P w K mg base k "_law_rows" KQ)
 (zv7:Ao P w K mg base k "is_tuple_of" Ip)
 (zi5:Ao P w K mg base k "is_word_among" ze)
 (zi11:Ao P w K mg base k "is_nth" KO)
 (zj11:Ao P w K mg base k "is_place" zo)
 (zk11:Ao P w K mg base k "is_stretch" KM)
 (zl11:Ao P w K mg base k "may_be_used" KJ)
 (zm11:Ao P w K mg base k "is_row_of_its_pieces" KH)
 (zn11:Ao P w K mg base k "row_number" zp)
 (zo11:Ao P w K mg base k "_law_is_place" Io)
 (zp11:Ao P w K mg base k "_law_is_row" KF)
 (zq11:Ao P w K mg base k "_law_row_fits" KB)
 (zr11:Ao P w K mg base k "_law_whole" Jz)
 (zs11:Ao P w K mg base k "arm_answers" Jx)
 (zt11:Ao P w K mg base k "row_from" Jv)
 (zu11:Ao P w K mg base k "row_at" Js)
 {zw2:Addr}
 (zb14:Yz K "NoNumber" zw2)
noncomputable abbrev Oj:Stmt:=BF pW 49
def TR:Aw Lh (Lh.take 2) (Ag Oj):=by wtm_at "sc"
abbrev AAH:BC P w K mg base k Lh "_law_mixed" Oj Pt:=dk TR (by wtm_at "d eok9amwvbacgjfrfKhaadf*ddqeifufKfKaaddeok0mwvbacdgifuafKfrhafrfKadmwvbacf*ddfudfKdaqeifrfKaadeifrfKfufuafKfKaaadfuaddgjfrfKadf*dd")
noncomputable abbrev Oe:Stmt:=BF pW 50
def TM:Aw Mp (Mp.take 3) (Ag Oe):=by wtm_at "sc"
abbrev AAE:BC P w K mg base k Mp "_law_draws" Oe Pp:=dk TM (by wtm_at "d eiYäÊbaceok0mwvbacdeifuafrhadfuf#aade}adfBhadfuf#aadeizceD$bacleT24abfrhaframwvbacf*ddcg}aframwvbacfBhaframwvbacf*ddgok0mç?bacdgjaqqgjZ$bmæábabm'?babmwvbacccclLnbabac")
noncomputable abbrev OZ:Stmt:=BF pW 52
def TJ:Aw Mm (Mm.take 2) (Ag OZ):=by wtm_at "sc"
abbrev AAB:BC P w K mg base k Mm "_law_text" OZ Pk:=dk TJ (by wtm_at "d eipeihzbpbpbpbacfrfBaddeifrafuadeifBadeipeD$bacleifuahaframwvbacgifBamwvbacgja")
noncomputable abbrev OV:Stmt:=BF pW 53
def TD:Aw Mi (Mi.take 1) (Ag OV):=by wtm_at "sc"
abbrev Zz:BC P w K mg base k Mi "_law_words" OV Pf:=dk TD (by wtm_at "d eizceifrhaddeokEfrfBhaddddgifudfrhaddqeDyGaCdCfudaleinbfBadbhzbdbdbdbdcfradceok0adgiGaSCdqeokEapgipqgok!aagT24abacqgja")
noncomputable abbrev Qi:Stmt:=BF pW 54
def TB:Aw Mf (Mf.take 1) (Ag Qi):=by wtm_at "sc"
abbrev Zx:BC P w K mg base k Mf "_law_place" Qi Pb:=dk TB (by wtm_at "d eihzbpbpbpbpbpcfradgjFbabhzbdbdb,db,dcfrfBaddbhzbpbpcfrfBaddc")
noncomputable abbrev Qe:Stmt:=BF pW 55
def UN:Aw Mc (Mc.take 2) (Ag Qe):=by wtm_at "sc"
abbrev Zv:BC P w K mg base k Mc "_law_piece" Qe UO:=dk UN (by wtm_at "d eoNßkEfraddàk0mwvbacdgjFbpbhafrfBadmwvbaccqeihzbpbpbpbpcfrfBaddgjFbabnbfBadcbnbfBadcc")
noncomputable abbrev Qa:Stmt:=BF pW 56
def UL:Aw MZ (MZ.take 1) (Ag Qa):=by wtm_at "sc"
abbrev Zt:BC P w K mg base k MZ "_law_kind" Qa PX:=dk UL (by wtm_at "d eoHí÷agjpqeoHîøagjpqeoHìöagjpqgjp")
noncomputable abbrev QW:Stmt:=BF pW 57
def UJ:Aw MW (MW.take 2) (Ag QW):=by wtm_at "sc"
abbrev Zl:BC P w K mg base k MW "_law_spot" QW PQ:=dk UJ (by wtm_at "d eÅaAlAlAlXe6$bmwvbacclÄNIkEapUkEnbhaacaaeok9mwvbacmÌÈbacgjJqeok0adgjfuhaf#adYÎ<b5EapcqgjfuhaaYÎ<b5Eapc")
noncomputable abbrev QR:Stmt:=BF pW 58
def UH:Aw MU (MU.take 2) (Ag QR):=by wtm_at "sc"
abbrev Zj:BC P w K mg base k MU ANj QR MS:=dk UH (by wtm_at "d eokEhadpgjhadqeinbhadbaceinbhadbaceoNIkÂaJIkÂaJUk×aagjJqeokEhadpgjÒÖGaCaCaqeokEhadpgjÑÔGaCaCaqgjGaCaCa")
noncomputable abbrev QM:Stmt:=BF pW 60
def UF:Aw MP (MP.take 3) (Ag QM):=by wtm_at "sc"
abbrev Zh:BC P w K mg base k MP "_law_fitting" QM PL:=dk UF (by wtm_at "d einbabaceokEhadpgjaqeiFbhadbFbpbdbpcbFbpb,dbpcceDyzbabFbhadbhadbhadcbaclgok!JZyalLnbabacgjaqeokEmwvbacdgjJqgjFbpbhafrfBadmwvbacc")
noncomputable abbrev QH:Stmt:=BF pW 61
def UD:Aw MN (MN.take 3) (Ag QH):=by wtm_at "sc"
abbrev Zf:BC P w K mg base k MN "_law_row" QH PF:=dk UD (by wtm_at "d eizceifBadeD$bfudfradcleinbababaceok{aJgT24abacqgifBadgjY7Vbac")
noncomputable abbrev QD:Stmt:=BF pW 59
def UB:Aw MM (MM.take 2) (Ag QD):=by wtm_at "sc"
abbrev Zd:BC P w K mg base k MM ANk QD Oz:=dk UB (by wtm_at "d e6yalLnbabaceok)JagjJqgjêùpbac")
noncomputable abbrev Pz:Stmt:=BF pW 63
def Tz:Aw MK (MK.take 4) (Ag Pz):=by wtm_at "sc"
abbrev Zb:BC P w K mg base k MK ANl Pz Ov:=dk Tz (by wtm_at "d e6yalLFbabnbabacceokEfraddg6|Çbabac3AlAlXLFbabnbabdccqeoNßkEfraddàk0mwvbacdeifrfBadmwvbaceÅhaaAlAlXeihzbGfuapSCdbGaSC,dbfuGaCdSGaSCdbpcfrfBaddgifufuGaSCazbFbabaccGaCfuadSqgja")
noncomputable abbrev Pv:Stmt:=BF pW 51
def Tw:Aw MI (MI.take 2) (Ag Pv):=by wtm_at "sc"
abbrev ZZ:BC P w K mg base k MI "_law_cell" Pv Oq:=dk Tw (by wtm_at "d eok9amwvbacgjhaaqeifufufKfrhafrfKadmwvbacf*dddfKfKaaddgjfrfKfrfKaaddf*dd")
noncomputable abbrev Pr:Stmt:=BF pW 62
def Tt:Aw MG (MG.take 3) (Ag Pr):=by wtm_at "sc"
abbrev ZX:BC P w K mg base k MG ANm Pr Om:=dk Tt (by wtm_at "d einbabaceifudfradeokEfrfBadddeifudfradgim'?babdcqe6$baclLpeihzbpbpbpbpcfrfBaddeokEfrfBadddg6$baclLnbnbabfufuadacbacgDþbfuadbm'?bmwvbacbfufuadfKaaccleifraaeihafrnbabacmwvbacg}aafuhaaaeokEfrfBadddg}adGfKGaSCfudfrfBadddSCdqeizceDyalgok!aagT24abacqgja")
noncomputable abbrev Pn:Stmt:=BF pW 68
def Tr:Aw ME (ME.take 1) (Ag Pn):=by wtm_at "sc"
abbrev ZV:BC P w K mg base k ME "_law_made" Pn Og:=dk Tr (by wtm_at "d einbfuzbhadcGaCdCdce6ynbabdbdclÄNIk;apUk0mwvbacdaeinbhadbabacgjzbababnbababhadbGaCdCdcc")
noncomputable abbrev Ph:Stmt:=BF pW 36
def Tp:Aw MC (MC.take 1) (Ag Ph):=by wtm_at "sc"
abbrev ZT:BC P w K mg base k MC "members_of" Ph Oc:=dk Tp (by wtm_at "d ei>eDÛa3AlAlXgDübac3AlAlXgÆaaFbabacgja")
noncomputable abbrev Pd:Stmt:=XC pW 34 0
def Tn:Aw MA (MA.take 2) (Ag Pd):=by wtm_at "sc"
abbrev ZR:BC P w K mg base k MA "Node.__init__" Pd OX:=dk Tn (by wtm_at "d e&aastg&a>st")
noncomputable abbrev PZ:Stmt:=XC pW 35 0
def Tk:Aw Ly (Ly.take 3) (Ag PZ):=by wtm_at "sc"
abbrev ZP:BC P w K mg base k Ly "Table.__init__" PZ Qk:=dk Tk (by wtm_at "d e&aaste&aaste&anbacste&azb_bdcb_bdccste&a>stg&azcst")
noncomputable abbrev PU:Stmt:=BF pW 11
def Ti:Aw Lw (Lw.take 0) (Ag PU):=by wtm_at "sc"
abbrev ZN:BC P w K mg base k Lw "all_places" PU Qg:=dk Ti (by wtm_at "d eizceDyWlgDyWlgDyWlgT24abFbababaccgja")
noncomputable abbrev PN:Stmt:=BF pW 6
def Tg:Aw Lu (Lu.take 1) (Ag PN):=by wtm_at "sc"
abbrev ZL:BC P w K mg base k Lu "kind_of" PN Qc:=dk Tg (by wtm_at "d eDyW3AlAlXgok)aagjaqgjJ")
noncomputable abbrev PJ:Stmt:=BF pW 7
def Te:Aw Lr (Lr.take 2) (Ag PJ):=by wtm_at "sc"
abbrev ZJ:BC P w K mg base k Lr "is_of" PJ QY:=dk Te (by wtm_at "d gjñ5Eap85Enbaca")
noncomputable abbrev PC:Stmt:=BF pW 15
def Tc:Aw Lp (Lp.take 2) (Ag PC):=by wtm_at "sc"
abbrev ZH:BC P w K mg base k Lp "spot" PC QU:=dk Tc (by wtm_at "d eihadeihade6ýbac3AlAlXÄHnbabacaeok9mwvbacmÌÈbacgjJqei^k0adhaf#adhaagj^kEhadpafuad")
noncomputable abbrev Ox:Stmt:=BF pW 37
def Ta:Aw Lm (Lm.take 1) (Ag Ox):=by wtm_at "sc"
abbrev ZF:BC P w K mg base k Lm "places_by_spots" Ox QP:=dk Ta (by wtm_at "d ei>eDyïleiY7VbZyalLnbabaccgok!JagT24ÐÕababzccbacqgja")
noncomputable abbrev Ot:Stmt:=BF pW 39
def TY:Aw Lj (Lj.take 2) (Ag Ot):=by wtm_at "sc"
abbrev AAL:BC P w K mg base k Lj "stand_within" Ot QK:=dk TY (by wtm_at "d gjmÍÉbZ|Çbabac3AlAlXL5)aac")
noncomputable abbrev Oo:Stmt:=BF pW 40
def TV:Aw Lg (Lg.take 4) (Ag Oo):=by wtm_at "sc"
abbrev AAJ:BC P w K mg base k Lg "add_to_group" Oo QF:=dk TV (by wtm_at "d goHnbabacgTÀÁÐÕababzccbacq")
noncomputable abbrev Oi:Stmt:=BF pW 38
def TQ:Aw Mo (Mo.take 3) (Ag Oi):=by wtm_at "sc"
abbrev AAG:BC P w K mg base k Mo "stretches" Oi QB:=dk TQ (by wtm_at "d eizceD|Ăbababac3AlAlAlXeok×aagjJqgT24abGaCaCacgja")
noncomputable abbrev Od:Stmt:=BF pW 41
def TL:Aw Ml (Ml.take 3) (Ag Od):=by wtm_at "sc"
abbrev AAD:BC P w K mg base k Ml "pieces_between" Od Pw:=dk TL (by wtm_at "d eizceDyalgTÀÁabZyalLFbababaccgja")
noncomputable abbrev OY:Stmt:=BF pW 18
def TH:Aw Mh (Mh.take 2) (Ag OY):=by wtm_at "sc"
abbrev AAA:BC P w K mg base k Mh "done_to" OY Ps:=dk TH (by wtm_at "d eokEapgjaqgj^kEapÒÖaÑÔa")
noncomputable abbrev OU:Stmt:=BF pW 42
def TC:Aw Me (Me.take 3) (Ag OU):=by wtm_at "sc"
abbrev Zy:BC P w K mg base k Me "groups_of" OU Po:=dk TC (by wtm_at "d ei>eDyalgTnbababY7VbZyalLacbzbFbpbaccceinbaceDÚalgDÚaleinbababacgok{aJgDyWleiY7VbZyalLnbabaccgTnbabababnbab(+aab(+aaccqgja")
noncomputable abbrev Qh:Stmt:=BF pW 44
def Sz:Aw Mb (Mb.take 3) (Ag Qh):=by wtm_at "sc"
abbrev Zw:BC P w K mg base k Mb "answers_to_try" Qh Pj:=dk Sz (by wtm_at "d eokEadgj^kûaxastzbaczcqgjYåÊbxastc")
noncomputable abbrev Qd:Stmt:=BF pW 43
def UM:Aw MY (MY.take 2) (Ag Qd):=by wtm_at "sc"
abbrev Zu:BC P w K mg base k MY "rest_behind" Qd Pe:=dk UM (by wtm_at "d eizceD|Çbabac3AlAlXeoMHëúabacgjJqgT24abGaCmwvbacScgjY7Vbac")
noncomputable abbrev QZ:Stmt:=BF pW 45
def UK:Aw MV (MV.take 3) (Ag QZ):=by wtm_at "sc"
abbrev Zs{zc:GL}(zu7:Ao P w K mg base k "node_number" zc):BC P w K mg base k MV "new_node" QZ (Pa zc):=dk UK (by wtm_at "d ei_bdceDynbababacleinbabacgok{aJeinbabf#adbacgok;aWeÆxastaFbxastbacgÿafKmwvb(+xastacxhxastaststòqqeokExastdgjWqeT24xastbacgjf#mwvbxastcd")
noncomputable abbrev QV:Stmt:=BF pW 46
def UI:Aw MR (MR.take 3) (Ag QV):=by wtm_at "sc"
abbrev Zk{zk4:GL}(zo18:Ao P w K mg base k "new_node" zk4):BC P w K mg base k MR "node_number" QV (MO zk4):=dk UI (by wtm_at "d eokEadgjWqeiFbabaceokÙaxastgÆxastanbababacqgj(+xasta")
noncomputable abbrev QQ:Stmt:=BF pW 47
def UG:Aw ML (ML.take 2) (Ag QQ):=by wtm_at "sc"
abbrev Zi:BC P w K mg base k ML "table_of" QQ PV:=dk UG (by wtm_at "d eimèâbace6yalLhadeiY7VbZyalLhadcei_bY7VbacbnbababacceTÀÁxastbZyWlLnbababaccgja")
noncomputable abbrev QL:Stmt:=BF pW 24
def UE:Aw MJ (MJ.take 1) (Ag QL):=by wtm_at "sc"
abbrev Zg:BC P w K mg base k MJ "many" QL PP:=dk UE (by wtm_at "d gjmÏËbZyxastlLxhxastastc")
noncomputable abbrev QG:Stmt:=BF pW 69
def UC:Aw MH (MH.take 3) (Ag QG):=by wtm_at "sc"
abbrev Ze:BC P w K mg base k MH "_law_spelled" QG PK:=dk UC (by wtm_at "d e6yalLnbhaabaceoNIkEmwvbacdIk0ðbacdUk0mwvbhadcdgjaqgjfufuGaSCaFbFbpbhadccGaCfuadS")
noncomputable abbrev QC:Stmt:=BF pW 70
def UA:Aw MF (MF.take 4) (Ag QC):=by wtm_at "sc"
abbrev Zc:BC P w K mg base k MF "_law_rows" QC PD:=dk UA (by wtm_at "d eihadeinbfBadbabaceifrafumwvbacdeifufuGaSCaFbhafrfBadmwvbaccGaCfuadSeifuazbhzbpbpbpbpcfrfBaddceizceifBadeD$bfudfrfBaddcleT24abnbabaccgifBadeinbabfrfBadmwvbacbacgjzbababGaSCdbY7VbacbabGaSCdbac")
noncomputable abbrev Py:Stmt:=BF pW 21
def Tx:Aw MD (MD.take 2) (Ag Py):=by wtm_at "sc"
abbrev Za:BC P w K mg base k MD "is_tuple_of" Py Oy:=dk Tx (by wtm_at "d gj1mPObabRVc85Emwvbaca")
noncomputable abbrev Pu:Stmt:=BF pW 12
def Tv:Aw MB (MB.take 2) (Ag Pu):=by wtm_at "sc"
abbrev ZY:BC P w K mg base k MB "is_word_among" Pu Ou:=dk Tv (by wtm_at "d gj1mPObabR=c85)aa")
noncomputable abbrev Pq:Stmt:=BF pW 13
def Ts:Aw Lz (Lz.take 1) (Ag Pq):=by wtm_at "sc"
abbrev ZW:BC P w K mg base k Lz "is_nth" Pq Op:=dk Ts (by wtm_at "d gj1mPObabR<c1ÓmPObabR~c85)aW")
noncomputable abbrev Pl:Stmt:=BF pW 14
def Tq:Aw Lx (Lx.take 1) (Ag Pl):=by wtm_at "sc"
abbrev ZU:BC P w K mg base k Lx "is_place" Pl Ol:=dk Tq (by wtm_at "d eoNIMHmPObabRVcUk;mwvbacdgjQqgj1nbhadbWc1nbhadc8nbhadbWc")
noncomputable abbrev Pg:Stmt:=BF pW 22
def To:Aw Lv (Lv.take 1) (Ag Pg):=by wtm_at "sc"
abbrev ZS:BC P w K mg base k Lv "is_stretch" Pg Of:=dk To (by wtm_at "d gj1nbdbac1nbhadbWc1nbhadc8nbhadc")
noncomputable abbrev Pc:Stmt:=BF pW 28
def Tl:Aw Ls (Ls.take 2) (Ag Pc):=by wtm_at "sc"
abbrev ZQ:BC P w K mg base k Ls "may_be_used" Pc Oa:=dk Tl (by wtm_at "d eoHnbdbacgj1nbhadbFbpcc8nbhadbxastcqgjnbac")
noncomputable abbrev PY:Stmt:=BF pW 29
def Tj:Aw Lq (Lq.take 2) (Ag PY):=by wtm_at "sc"
abbrev ZO:BC P w K mg base k Lq "is_row_of_its_pieces" PY OW:=dk Tj (by wtm_at "d eoNIMHmPObabRVcUk!mwvbacWgjQqgjmÍÉbZyalLnbabacc")
noncomputable abbrev PR:Stmt:=BF pW 30
def Th:Aw Lo (Lo.take 2) (Ag PR):=by wtm_at "sc"
abbrev ZM:BC P w K mg base k Lo "row_number" PR Ll:=dk Th (by wtm_at "d eoMHnbabacgjJqeif#mwvbacdeimÏËbZyGxastSCalLxhxastastceihxasthxastaeDyaleiéõxastbaceoNIkÂaJUkÙhadxastgjJqei(+xasthadeihxasthadgÜfuhadfKhadxastógja")
noncomputable abbrev PM:Stmt:=BF pW 64
def Tf:Aw Li (Li.take 1) (Ag PM):=by wtm_at "sc"
abbrev ZK:BC P w K mg base k Li "_law_is_place" PM Qj:=dk Tf (by wtm_at "d eoNIMHmPObabRVcUk;mwvbacdgjQqeoNIMHmPObhadbR<cIHmPObhadbR~cUk!hadFbdbdb,db,dcgjQqeoNIMHmPObhadbR=cUMHmPObhadbR=cgjQqgj15)hadFbpbpbpbpbpc85)hadFbpbpc")
noncomputable abbrev PH:Stmt:=BF pW 65
def Td:Aw Lf (Lf.take 2) (Ag PH):=by wtm_at "sc"
abbrev ZI:BC P w K mg base k Lf "_law_is_row" PH Qf:=dk Td (by wtm_at "d eoNIMHmPObabRVcUMÞÃÃdmwvbacdgjQqeDyaleoNIMHmPObabRVcIk9mwvbacdUMHmPObhadbR=cgjQqgokEhadpgoNIk;mwvbacdIMHmPObhadbR=cUk!hadagjQqgoNIk;mwvbacdUk!hadFbpbpbpcgjQgoNIMHnbhadcUMHnbhadcgjQqgjQ")
noncomputable abbrev PB:Stmt:=BF pW 66
def Tb:Aw Mn (Mn.take 3) (Ag PB):=by wtm_at "sc"
abbrev ZG:BC P w K mg base k Mn "_law_row_fits" PB Qb:=dk Tb (by wtm_at "d eoMHnbabacgjQqeDya3AlAlXgokØnbabacagjQqgjQ")
noncomputable abbrev Ow:Stmt:=BF pW 67
def TZ:Aw Mj (Mj.take 1) (Ag Ow):=by wtm_at "sc"
abbrev ZE:BC P w K mg base k Mj "_law_whole" Ow QX:=dk TZ (by wtm_at "d gj1mPObabR<c8ÓmPObabR~c")
noncomputable abbrev Os:Stmt:=BF pW 25
def TW:Aw Mg (Mg.take 2) (Ag Os):=by wtm_at "sc"
abbrev AAK:BC P w K mg base k Mg "arm_answers" Os QS:=dk TW (by wtm_at "d eiJeDÛxast3AlAlXeok0hadagĀqgiagja")
noncomputable abbrev On:Stmt:=BF pW 26
def TU:Aw Md (Md.take 3) (Ag On):=by wtm_at "sc"
abbrev AAI:BC P w K mg base k Md "row_from" On QN:=dk TU (by wtm_at "d eizceihxastaeāk0mãvbxastcdeinbabacei(+xastaeihxasthadeif#ahadeT24abh(+xastafBaxastceifraxastgiagjY7Vbac")
noncomputable abbrev Oh:Stmt:=BF pW 27
def TN:Aw Ma (Ma.take 2) (Ag Oh):=by wtm_at "sc"
abbrev AAF:BC P w K mg base k Ma "row_at" Oh QJ:=dk TN (by wtm_at "d eok9adgÝqeDyxastleixhxastasteok9aagjnbababacqgÜaôgÝ")
noncomputable abbrev Il:Stmt:=BF pW 71
def TK:Aw MX (MX.take 1) (Ag Il):=by wtm_at "sc"
abbrev AAC:BC P w K mg base k MX "law" Il QE:=dk TK (by wtm_at "d einbabdbdceÅnbacAlAlAlXeinbabaceinbaceDynbabababZya3AlAlXLacleinbabacgoMHnbababacgok{aJgjQqgoNIMHnbacIMÞÃ9daaUkØnbabacagjQqgjQ")
end
def AHL{l:PySem.W.OpenLaw}{w:World}{K:AL}{h:Heap}{mg:AND}{fa:Addr}(X:K.In h)(G:h.Ns mainGlobals mg)(hfa:mg "law"=some (.ref fa)){r1 r7 r14 r24 r31 r37 r38 r42 r46 r50 zb za zw2 ze16 zf16 zg16 zh16 zi16 zj16 zk16 zl16 zm16 zn16 zo16 zp16 zq16 zr16 zs16 zt16 zu16 zx9 zy9 zv16 zw16 zx16 zy16 zz16 za17 zb17 zc17 zd17 ze17 zf17 zg17 zh17 zi17 zj17 zk17 zl17 zm17 zn17 zo17 zp17 zq17 zr17 zs17 zt17 zu17 zv17 zw17 zx17 zy17 zz17 za18 zb18 zc18 zd18:Addr}{o1 o7 o14 o24 o31 o37 o38 o42 o46 o50:Option Addr}{n1 n7 n14 n24 n31 n37 n38 n42 n46 n50:Nat}{l1 l7 l14 l24 l31 l37 l38 l42 l46 l50:Array (Option Value)}{t2 t3 t4 t8 t9 t12 t15 t16 t17 t18 t19 t22 t25 t26 t27 t28 t32 t33 t34 t39 t40 t43 t44 t47 t48 t51 t52:Tok}(q6:CC K mainGlobals "DEEDS"=some (some (.ref r1)))(q5:K.lookup r1=some ⟨.type "tuple",o1,.seq ([.str "copy" t2,.str "raise" t3,.str "sink" t4]:ANF).toArray n1,l1⟩)(q11:CC K mainGlobals "EDGES"=some (some (.ref r7)))(q10:K.lookup r7=some ⟨.type "tuple",o7,.seq ([.str "ahead" t8,.str "behind" t9]:ANF).toArray n7,l7⟩)(q13:CC K mainGlobals "END"=some (some (.int (0) t12)))(q21:CC K mainGlobals "KINDS"=some (some (.ref r14)))(q20:K.lookup r14=some ⟨.type "tuple",o14,.seq ([.str "small" t15,.str "great" t16,.str "figure" t17,.str "mark" t18,.str "any" t19]:ANF).toArray n14,l14⟩)(q23:CC K mainGlobals "NOWHERE"=some (some (.int (1) t22)))(q30:CC K mainGlobals "NTHS"=some (some (.ref r24)))(q29:K.lookup r24=some ⟨.type "tuple",o24,.seq ([.int (1) t25,.int (2) t26,.int (-1) t27,.int (-2) t28]:ANF).toArray n24,l24⟩)(q36:CC K mainGlobals "ROW_LENGTHS"=some (some (.ref r31)))(q35:K.lookup r31=some ⟨.type "tuple",o31,.seq ([.int (1) t32,.int (2) t33,.int (3) t34]:ANF).toArray n31,l31⟩)(q55:CC K mainGlobals "SIGNS_BY_KIND"=some (some (.ref r37)))(q54:K.lookup r37=some ⟨.type "tuple",o37,.seq ([.ref r38,.ref r42,.ref r46,.ref r50]:ANF).toArray n37,l37⟩)(q41:K.lookup r38=some ⟨.type "tuple",o38,.seq ([.str "small" t39,.str "abcdefghijklmnopqrstuvwxyz" t40]:ANF).toArray n38,l38⟩)(q45:K.lookup r42=some ⟨.type "tuple",o42,.seq ([.str "great" t43,.str "ABCDEFGHIJKLMNOPQRSTUVWXYZ" t44]:ANF).toArray n42,l42⟩)(q49:K.lookup r46=some ⟨.type "tuple",o46,.seq ([.str "figure" t47,.str "0123456789" t48]:ANF).toArray n46,l46⟩)(q53:K.lookup r50=some ⟨.type "tuple",o50,.seq ([.str "mark" t51,.str " -.,/" t52]:ANF).toArray n50,l50⟩)(q56:CC K mainGlobals "abs"=some none)(q57:CC K mainGlobals "all"=some none)(q58:CC K mainGlobals "bool"=some none)(q59:CC K mainGlobals "enumerate"=some none)(q60:CC K mainGlobals "int"=some none)(q61:CC K mainGlobals "isinstance"=some none)(q62:CC K mainGlobals "len"=some none)(q63:CC K mainGlobals "list"=some none)(q64:CC K mainGlobals "max"=some none)(q65:CC K mainGlobals "min"=some none)(q66:CC K mainGlobals "range"=some none)(q67:CC K mainGlobals "set"=some none)(q68:CC K mainGlobals "sorted"=some none)(q69:CC K mainGlobals "str"=some none)(q70:CC K mainGlobals "sum"=some none)(q71:CC K mainGlobals "tuple"=some none)(q72:CC K mainGlobals "zip"=some none)(q73:CC K mainGlobals ANN=some (some (.ref zb)))(q74:AMI K zb Str.empty=true)(q75:AMJ K zb=true)(q76:AMc K zb=true)(q77:Da K (.ref zb) "__setattr__"=some (some (.builtin "object.__setattr__")))(q78:AMd K zb=true)(q79:GA K (.ref zb)=true)(q80:CC K mainGlobals ANM=some (some (.ref za)))(q81:AMI K za Str.empty=true)(q82:AMJ K za=true)(q83:AMc K za=true)(q84:Da K (.ref za) "__setattr__"=some (some (.builtin "object.__setattr__")))(q85:AMd K za=true)(q86:GA K (.ref za)=true)(q87:Da K (.ref zb) ANR=some none)(q88:Da K (.ref zb) ANO=some none)(q89:Da K (.ref za) ANP=some none)(q90:Da K (.ref za) ANT=some none)(q91:Da K (.ref za) ANV=some none)(q92:Da K (.ref za) ANQ=some none)(q93:Da K (.ref za) ANW=some none)(q94:Da K (.ref za) ANS=some none)(q95:CC K mainGlobals "NoNumber"=some (some (.ref zw2)))(q96:PySem.W.excIn K zw2 YQ "ValueError.__new__"=true)(q97:FQ K "_law_mixed" Oj ze16)(q98:FQ K "_law_draws" Oe zf16)(q99:FQ K "_law_text" OZ zg16)(q100:FQ K "_law_words" OV zh16)(q101:FQ K "_law_place" Qi zi16)(q102:FQ K "_law_piece" Qe zj16)(q103:FQ K "_law_kind" Qa zk16)(q104:FQ K "_law_spot" QW zl16)(q105:FQ K ANj QR zm16)(q106:FQ K "_law_fitting" QM zn16)(q107:FQ K "_law_row" QH zo16)(q108:FQ K ANk QD zp16)(q109:FQ K ANl Pz zq16)(q110:FQ K "_law_cell" Pv zr16)(q111:FQ K ANm Pr zs16)(q112:FQ K "_law_made" Pn zt16)(q113:FQ K "members_of" Ph zu16)(q114:Da K (.ref zb) "__init__"=some (some (.ref zx9)))(q115:PySem.W.isFn K (.ref zx9)=true)(q116:Ld K "__init__" "Node.__init__" Pd zx9)(q117:Da K (.ref za) "__init__"=some (some (.ref zy9)))(q118:PySem.W.isFn K (.ref zy9)=true)(q119:Ld K "__init__" "Table.__init__" PZ zy9)(q120:FQ K "all_places" PU zv16)(q121:FQ K "kind_of" PN zw16)(q122:FQ K "is_of" PJ zx16)(q123:FQ K "spot" PC zy16)(q124:FQ K "places_by_spots" Ox zz16)(q125:FQ K "stand_within" Ot za17)(q126:FQ K "add_to_group" Oo zb17)(q127:FQ K "stretches" Oi zc17)(q128:FQ K "pieces_between" Od zd17)(q129:FQ K "done_to" OY ze17)(q130:FQ K "groups_of" OU zf17)(q131:FQ K "answers_to_try" Qh zg17)(q132:FQ K "rest_behind" Qd zh17)(q133:FQ K "new_node" QZ zi17)(q134:FQ K "node_number" QV zj17)(q135:FQ K "table_of" QQ zk17)(q136:FQ K "many" QL zl17)(q137:FQ K "_law_spelled" QG zm17)(q138:FQ K "_law_rows" QC zn17)(q139:FQ K "is_tuple_of" Py zo17)(q140:FQ K "is_word_among" Pu zp17)(q141:FQ K "is_nth" Pq zq17)(q142:FQ K "is_place" Pl zr17)(q143:FQ K "is_stretch" Pg zs17)(q144:FQ K "may_be_used" Pc zt17)(q145:FQ K "is_row_of_its_pieces" PY zu17)(q146:FQ K "row_number" PR zv17)(q147:FQ K "_law_is_place" PM zw17)(q148:FQ K "_law_is_row" PH zx17)(q149:FQ K "_law_row_fits" PB zy17)(q150:FQ K "_law_whole" Ow zz17)(q151:FQ K "arm_answers" Os za18)(q152:FQ K "row_from" On zb18)(q153:FQ K "row_at" Oh zc18)
  (q154:FQ K "law" Il zd18) :
  ∃fd:FuncData,(∀(s:Shared) (v:Value),BindsTo s fd ⟨[v],[]⟩ [(ANh,v)])/\∀base:Heap,K.In base->base.Ns mainGlobals mg->DK l.prog w K mg base CX0 14 fa fd [ANh] (Gv K Im):=by
 have zi7:EG K mg "DEEDS" KP:=Hs (FL X G q6) (Gs q5 (by show 3<=sizeLine;decide) (.cons (Dv (by decide)) (.cons (Dv (by decide)) (.cons (Dv (by decide)) .nil))));have zj7:EG K mg "EDGES" zw:=Hs (FL X G q11) (Gs q10 (by show 2<=sizeLine;decide) (.cons (Dv (by decide)) (.cons (Dv (by decide)) .nil)));have zb10:EG K mg "END" Lk:=Hs (FL X G q13) HL;have zk7:EG K mg "KINDS" zt:=Hs (FL X G q21) (Gs q20 (by show 5<=sizeLine;decide) (.cons (Dv (by decide)) (.cons (Dv (by decide)) (.cons (Dv (by decide)) (.cons (Dv (by decide)) (.cons (Dv (by decide)) .nil))))));have zc10:EG K mg "NOWHERE" KN:=Hs (FL X G q23) HL;have zl7:EG K mg "NTHS" zu:=Hs (FL X G q30) (Gs q29 (by show 4<=sizeLine;decide) (.cons HL (.cons HL (.cons HL (.cons HL .nil)))));have zm7:EG K mg "ROW_LENGTHS" zx:=Hs (FL X G q36) (Gs q35 (by show 3<=sizeLine;decide) (.cons HL (.cons HL (.cons HL .nil))));have zd10:EG K mg "SIGNS_BY_KIND" Ln:=Hs (FL X G q55) (Gs q54 (by show 4<=sizeLine;decide) (.cons (Gs q41 (by show 2<=sizeLine;decide) (.cons (Dv (by decide)) (.cons (Dv (by decide)) .nil))) (.cons (Gs q45 (by show 2<=sizeLine;decide) (.cons (Dv (by decide)) (.cons (Dv (by decide)) .nil))) (.cons (Gs q49 (by show 2<=sizeLine;decide) (.cons (Dv (by decide)) (.cons (Dv (by decide)) .nil))) (.cons (Gs q53 (by show 2<=sizeLine;decide) (.cons (Dv (by decide)) (.cons (Dv (by decide)) .nil))) .nil)))))
 have hb:BlOk mg So:=by
  intro x hx;simp only[So,AX,Db,or_false] at hx;rcases hx with rfl|rfl|rfl|rfl|rfl|rfl|rfl|rfl|rfl|rfl|rfl|rfl|rfl|rfl|rfl|rfl|rfl
  .exact Eh X G q56
  .exact Eh X G q57
  .exact Eh X G q58
  .exact Eh X G q59
  .exact Eh X G q60
  .exact Eh X G q61
  .exact Eh X G q62
  .exact Eh X G q63
  .exact Eh X G q64
  .exact Eh X G q65
  .exact Eh X G q66
  .exact Eh X G q67
  .exact Eh X G q68
  .exact Eh X G q69
  .exact Eh X G q70
  .exact Eh X G q71
  .exact Eh X G q72
 have ca_Node:FY K ANN zb:=q73;have cl_Node:Cls K zb:=⟨q74,q75,q76,q77⟩;have ca_Table:FY K ANM za:=q80;have cl_Table:Cls K za:=⟨q81,q82,q83,q84⟩;have zi1:DD K ANN ANR:=Hx ca_Node cl_Node q87;have zq:DD K ANN ANO:=Hx ca_Node cl_Node q88;have zv2:DD K ANM ANP:=Hx ca_Table cl_Table q89;have zn7:DD K ANM ANT:=Hx ca_Table cl_Table q90;have zo7:DD K ANM ANV:=Hx ca_Table cl_Table q91;have zr:DD K ANM ANQ:=Hx ca_Table cl_Table q92;have zj1:DD K ANM ANW:=Hx ca_Table cl_Table q93;have zp7:DD K ANM ANS:=Hx ca_Table cl_Table q94;have zb14:Yz K "NoNumber" zw2:=⟨q95,q96⟩;obtain⟨zp18,zx13⟩:=q116;have ze18:=zx13.binds (ps:=["self",ANO]) λ_ _ _ _ _ _ us hl=>by obtain⟨_,_,rfl⟩:=JI hl;rfl
 obtain⟨zq18,zy13⟩:=q119;have zf18:=zy13.binds (ps:=["self",ANS,ANP]) λ_ _ _ _ _ _ us hl=>by obtain⟨_,_,_,rfl⟩:=Hn hl;rfl
 obtain⟨zr18,zz9⟩:=q133.b;have zg18:=zz9.binds (ps:=[ANU,"length","rest"]) λ_ _ _ _ _ _ us hl=>by obtain⟨_,_,_,rfl⟩:=Hn hl;rfl
 obtain⟨zs18,zj5⟩:=q134.b;have zz13:=zj5.binds (ps:=[ANU,"length","rest"]) λ_ _ _ _ _ _ us hl=>by obtain⟨_,_,_,rfl⟩:=Hn hl;rfl
 obtain⟨zt18,za14⟩:=q154.b;obtain⟨_,_,zh18,zi18,zj18,zk18,zl18,zm18,_,rfl,_,_⟩:=id za14.ex;have e0:=hfa.symm.trans (FL X G q154.a);cases e0;refine⟨ALj "law" "law" (IX Il) (FW Il) (Ag Il) .none zh18 zi18 zj18 zk18 zl18 zm18,λs v=>.of_eq rfl,λbase _ _=>?_⟩;have fq:=@AF7 l.prog w K mg base h X G;have ze10:=fq KL q97 TR (AAH (k:=0) hb);have zf10:=fq KI q98 TM (AAE (k:=1) hb ze10.mn);have zg5:=fq zi q99 TJ (AAB (k:=0) hb);have zg10:=fq KG q100 TD (Zz (k:=1) zg5.mn);have zh10:=fq zy q101 TB (Zx (k:=0));have zq7:=fq Iw q102 UN (Zv (k:=1) hb zh10.mn);have zi10:=fq KC q103 UL (Zt (k:=0));have zj10:=fq zg q104 UJ (Zl (k:=1) hb zi10.mn);have zh5:=fq zf q105 UH (Zj (k:=2) zj10.mn);have zk10:=fq KA q106 UF (Zh (k:=3) hb zq7.mn zh5.mn);have zr7:=fq Iv q107 UD (Zf (k:=4) hb zk10.mn);have zs7:=fq Iu q108 UB (Zd (k:=3) zh5.mn);have zl10:=fq Jy q109 Tz (Zb (k:=4) hb zg5.mn zs7.mn);have zm10:=fq zj q110 Tw (ZZ (k:=0) hb);have zn10:=fq Jw q111 Tt (ZX (k:=1) hb zg5.mn zm10.mn);have zo10:=fq Ju q112 Tr (ZV (k:=5) hb zg10.mn zr7.mn zl10.mn zn10.mn);have zp10:=fq Ir q113 Tp (ZT (k:=0) hb);have zt7:Fw l.prog w K mg base 2 ANN zk:=Xc zx13 Tn (λcdv A outer s H E hr=>ZR zi1 zq cdv _ A outer s H E hr) ze18 (FL X G q73) ca_Node ⟨q78,q114,q115,q79⟩;have zq10:Fw l.prog w K mg base 4 ANM Jr:=Xc zy13 Tk (λcdv A outer s H E hr=>ZP zv2 zn7 zo7 zr zj1 zp7 (zp10.mono (by decide:1<=2)) (zt7.mono (by decide:2<=2)) cdv _ A outer s H E hr) zf18 (FL X G q80) ca_Table ⟨q85,q117,q118,q86⟩;have zr10:=fq Jq q120 Ti (ZN (k:=0) zj7 zk7 zl7);have zs10:=fq Jp q121 Tg (ZL (k:=0) zd10);have zt10:=fq Jo q122 Te (ZJ (k:=1) zs10.mn);have zu10:=fq zm q123 Tc (ZH (k:=2) hb zt10.mn);have zv10:=fq Jn q124 Ta (ZF (k:=3) hb zr10.mn zu10.mn);have zw10:=fq Kd q125 TY (AAL (k:=0) hb);have zx10:=fq Iq q126 TV (AAJ (k:=1) zw10.mn);have zy10:=fq Kc q127 TQ (AAG (k:=0) hb);have zz10:=fq Kb q128 TL (AAD (k:=0));have za11:=fq Ka q129 TH (AAA (k:=0));have zb11:=fq KZ q130 TC (Zy (k:=4) hb zi7 zv10.mn zx10.mn zy10.mn zz10.mn za11.mn);have zc11:=fq KY q131 Sz (Zw (k:=0) hb zv2);have zd11:=fq KW q132 UM (Zu (k:=0) hb)
 have zn18:∀n,Ao l.prog w K mg base (2+2*n) "node_number" (zh n):=λn=>by
  induction n with
  |zero=>exact fnd_none zz13 (FL X G q134.a) zj5.kp
  |succ n ih =>
   have FI:Ao l.prog w K mg base (2+2*n+1) "new_node" (MT (zh n)):=SJ zz9 UK (λcdv A outer s H E hr=>Zs hb zc10 zi1 zq zv2 zr (zt7.mono (by omega:2<=2+2*n)) (zc11.mono (by omega:1<=2+2*n)) (zd11.mono (by omega:1<=2+2*n)) ih cdv _ A outer s H E hr) zg18 (FL X G q133.a) zz9.kp;exact SJ zj5 UI (λcdv A outer s H E hr=>Zk zb10 zo7 FI cdv _ A outer s H E hr) zz13 (FL X G q134.a) zj5.kp
 have zu7:Ao l.prog w K mg base 12 "node_number" zc:=zn18 5;have ze11:=fq KU q135 UG (Zi (k:=12) hb zm7 zj1 zq10.mn zb11.mn zu7.mn);have zf11:=fq KS q136 UE (Zg (k:=0) hb zq zr zj1);have zg11:=fq KR q137 UC (Ze (k:=3) hb zh5.mn);have zh11:=fq KQ q138 UA (Zc (k:=5) hb zq7.mn zr7.mn zg11.mn);have zv7:=fq Ip q139 Tx (Za (k:=0) hb);have zi5:=fq ze q140 Tv (ZY (k:=0) hb);have zi11:=fq KO q141 Ts (ZW (k:=0) hb zl7);have zj11:=fq zo q142 Tq (ZU (k:=1) hb zj7 zk7 zi5.mn zi11.mn);have zk11:=fq KM q143 To (ZS (k:=2) zi7 zv7.mn zi5.mn zj11.mn);have zl11:=fq KJ q144 Tl (ZQ (k:=3) zp7 zv7.mn zi5.mn zk11.mn);have zm11:=fq KH q145 Tj (ZO (k:=4) hb zm7 zl11.mn);have zn11:=fq zp q146 Th (ZM (k:=5) hb zi1 zq zn7 zr zj1 zm11.mn);have zo11:=fq Io q147 Tf (ZK (k:=0) hb);have zp11:=fq KF q148 Td (ZI (k:=1) hb zo11.mn);have zq11:=fq KB q149 Tb (ZG (k:=4) zs7.mn zp11.mn);have zr11:=fq Jz q150 TZ (ZE (k:=0) hb);have zs11:=fq Jx q151 TW (AAK (k:=0) zi1);have zt11:=fq Jv q152 TU (AAI (k:=1) hb zi1 zq zv2 zr zs11.mn);have zu11:=fq Js q153 TN (AAF (k:=2) zq zr zj1 zt11.mn);exact SK za14 TK Im _ (λ_ _ _ h=>RA h) (λcdv A outer s H E hr=>AAC (zf10.mono (by decide:2<=13)) (zo10.mono (by decide:6<=13)) (ze11.mono (by decide:13<=13)) (zf11.mono (by decide:1<=13)) (zh11.mono (by decide:6<=13)) (zn11.mono (by decide:6<=13)) (zq11.mono (by decide:5<=13)) (zr11.mono (by decide:1<=13)) (zu11.mono (by decide:3<=13)) cdv _ A outer s H E hr) (λ_ _ _ _ h=>Qz h)
end L3
open PySem PySem.W PyProof.Rows
namespace PySem.Challenge.cw_byexample_k32_whole_fitting_row_is_in_holds
#check "5AR7IlTA;WSO3g(<UvU=m7%SVOw]I59rGeTIg84uYd[y+8,1xlK^a|AB4X:*6Sn[{1d,~{:L4CPuXMwXZJeRrz+w(1Q70P4HGp]U&(Wvw4ZC=XJ7h[p!h>4ZhAJF0B{bJ8!LJ[oy5>Dj%m8N?O)<sYzJ:Wtq[}7GTDP7ZS?HSqq.WtBJ),xJfcFWpd,m9B*k}F=||(p<G20fR,A0HWI0OBq}3}8K+dZ4:kxEWu*p!k{D^f%1CBsxX26tF2Ki_KepIsnA0|l1mTsAd[;>2tn4RMPEO,>NNg?R_jn8birbb7XYG||8}y:P,*gilcTjIK:OKsuu=vV|teMC=.QIO23i.e01uUmNDjl4=4D_;4V$qQvFB6D|>,j=9PP]:,]YDEMlmjY:+wf;cs5dxWBoTR9Ungt1yEMo9|a0(DCIYlz9M.tCzLiKE_G$al9P.pw5+uDK5C&lg.Hp{2(&bzDRF3Z3d(z0am&Vh}(*zTBWTc<KWh7cVDTNHz}IVsNaqCyjv>!!DYw3Aiy<K__U8:?;K{M9vQKtcfKLFyf4O1cW|uNxl?{o~QMWt[qdSO5eJ2XFv+<x+3Y:NalAjTVb_to+>)C*tT8xb}hOB[Ia6^O3ndzVTZuJX]?DC!5~rYE]2iD:[%YT8uaa72op:aSbpH~Vorc1RHUU3uD;7>rxKR}TLC3KpUcu+?ozTuTCRIQKH]v9X%IQ&8OYO}d=LACnwzI{3M]%4BZVGQh&Y,D^UJ=VX9c6=Fjs;^M}YaJY|sv;H6Z^|Pr0Dy.w}A=tH_i!Uh8$)qZ0dCcrLYZ?([YbIDg<Ud2<~$C]E1oG)6afL9FjhD.]6n:ls*)C,Y)MN6LSC_Oex=L!z;nu9Sz5aQ7DKCS$FBMj=N|$]m{3hy%DMusgGceZ(Z6~,z39l^=~wO>m8_b~lk7u,2n]k~5z>%_)Lie^D$gB+lw)sA)|N2n%W%hi:iNsNpNq9^LQ:cXq:!LhaX4y5~hj6ICWL,L))~Y3,&X}=05_J8BwVeEO:e$R.[Esc6NqMuyXx6swk<3YGU0^~H2AJyWu48oVzEIA+K~ugZ[>Ba5)eN6Jz(a8Y:5yjs:Fc*;0%5tf$ee_?%BHJ1=!C5I<03M1ze88[O%u**0sCw[AzFHE2j:n;Z[NA.bLG6+%Rmx^_|r]9gAcTd{zk^&=yT;V%Ueexr+F^qpX;Z.:UD0?cU6?T;917C?n$<_q{pwT:6TuGE88VB6K%_J3h%s:&8jOb%~d2!7~rRp~Sx>=F&1XKW>,HT$InqWP;IxCH)p&P!IGU.]J+yTt}^:{7)$7!J(nU7^$O~%$(a83vPqtmxh6687dweH9]ovvGzFPss%jpM:u3J~%sL~Z|X*o7boXwWV_zD|o<J0rSL;{Vbv^B8wlO&<|0%2;lZ1dk$DSW<zL+CNycFUo;sQXU^Yys($>NulF,=D,kTu+T%pzvla[UbT4AiVs*YklB?z>=M&72pc}pv+BONf{K2_hYh{yk^;zbE_V4M&nC?n4hP*o0+F$3O=Po3A)%?.|$QD{0}>.BNdCH2UuevWdkV)cJ6MhkQh=TYXH2K!9Sq^!B<h(USFZd7e$idx,C%gn5;0MB=,_w<rOLTJb9eHnH.dz^rlvrAbkfNqotR3!Z{o5mw2xIshc(%h:T4A=QKpbnaT4Ulq06oA|EqnUNpm4rynT,%R:$yP2xlKcBF,=EbfYq(aFY*)vWP7*R=w>Bvtka{DGRo6*bNk9u$xwPcteWDlWn!Z$$4Ila>vhqmm85buqG6CCKAL!qd]Fw1s[xVU0.]2c=Z7I&{lcqy%*:*i_r!CD_rR];z1lQb>7.yFrbA*AyuWYhSKz~h8QbroX2rdvC4=OwsHeVO!{G8n.z^r}?j^*NihF2$ww)_Su%wDk[f<ZWFwf:X5c9Lgz%)f_J=WyDa&k:O.?vMypkYhBG{[Pxwj;mVL6Jbo)GXZqyByuuZG0Mj,M8[xaW_PRK>A3vK$%uLQv67Qpw3X$HO!O2M7:F)iX6pXNdrdPr*?uJAf|mwA(tX;bw[G6KGt$4f4nF_9jT3ToyWw(;?zAFoC0)c5]zoIp.S{,5fi5CF%I.Ch:1xFl!g.I&tx(g++n{40>CPg%9R>?Z._Vt}hKpS.$U6$AYke;K0=$JN(T63emVbMbDhFQh:bMbC3Y&}YUqipq~S]JUDW9T9q+_n~OIN$W*%M$>zYwK>,EdI9+e!3FVTNN^I37JVUF0}|P:U0:)NjSLtz0N4FZK*>Hk{<w],eQl!k}p$(i.$5WB5I+oD|,}z2hPoLMvv*LUH.q[H{a4lzSlEf_^^ctOi6xMKLRHa3bQxF]cPVhiRZ}~oooqtDN8LKKk;*2fz1lLI6r.f[2*Ml*o{h!i]o4{bCR=I^tUlFRJ|w=w^!?6)}J%+SNYoaB1Dh3Yqx9_Nj~1h3aPAGeV|4m,[rn|NM_qO.wWcI9[(m|[FaY=7HDn.RkmSVi%y)R!FxbQCDB&C8.da*id9uKnzm&]<(GC)&|Hu,zh_>w!eqb&<epOJ*IJG1Qf5Js;y;75]N5*BHxpb&j3=?BWtA.}inmdn<,E]{18*aGh_IhmeRBo[o8YyYHN.sUmbuwcvsi<=*HZt]V*7K6Af4WyBt9z!OejuH4u8da?RVx{bF^XbtdQI18AgriuwCG{eb}J$|eh62T$[>K}Z:V:BT?v)hEyK{V0,NyLmhSv%YZbOV~.W=3:l?Y_87e0DGLh6EO&>c|[~=RB_I^;<*2YIukZd1<CSHAIgbp*v5Li+i_DEzB[_)k(Ukz46N>MzXsmc$:~.Kb;igSo[OG9zNKm_%=kAni+?KN}a)D;BqV:zBnB!+W8Ky:bIMyRIfdEwHZMjIe{YrBWQW1*8!jAGUJQG|]1x:m]4SylwKXd%0bqAxE:avBtt5x9g8E.;cX9hZf&{GkKISzK0UYyE+i(b|qTHqjaZKS]dB_3mb:O>1Mf.ry_B(0Q1FMU4xJ:%I=KF&sx4tC^EGd&ED2$Rai.]UnQe;jUFw4$UOGT]bZ+9oTV&^fy7fhnm4!b{Su]FfL~tMOVe]_$x{09pDlI<eZq<g!1L![fLBAY=aXq2cDiVzpY{}<pXDh*fboqtMwGyGMmt<8Yo}21>MIM?vtZFO2C{]w.E6Jlt!:<?!]SbmnqmV.3*1;s(&m$?Ny!i~omcr45DGM^k3n?zlS,piqV|oQc&f{{p}jXOqME~lRdkzoKBu{wUsH1Q;d:U_?|bN?2a5Sn{2jAomMcxLKe%8$Q;%&7MU%dGD^tw%U,U)4VT,E=Z50x=Ta(?:OT:c8rXc.%bmPPTjt(h(,*R$atMLT3^ZgJBuY*oem!UQGtsNQo(}iGi95(_2_:,%U2<uheh5s;&ltxO11i+L64|$x}!(_rHbQc4?5woGx9mH}I*9IIFO[w}a(+%0Pb&QFx6{RTmRf>790rn;MVbI|zTnMgv6U:DlLvWFo;t(D1jCWN)l%3_%thJ^Et_=ic6BYva;fHn5=uSk7gs)tTQbYC.Cd3LzhtH5sg}EV7)esr{je!1Yq6]NAo,{JfaFHSAWkZGqSE$1zT5GR;n2JMEQdOFnR;Az0;iX!?3q]&Tyzt}aB2B!=VE_k+ALIYh3u%s8!bw_(PHyzzal{}pHrn2]oDpu8B4ZHu=Yan_;^Z>jdhxqf%SFH;teHMBCDG%m(<)6H6v$V4^dGaXDfN[?44MMB<8$)rp}E6a81Pq%$CYi~hLpYj)eoo0:9_jd:)^MKdg932O.e]NQzXvW}NSR}vJ(nGT;=>jQKHzu010V67Qeef(MsLVgTM|v9}l)N%sjFys1]K)2Qw72y$G2aFKg+{DkBP|w<iA_YyXHvQ*CNvnEjD&KU^F2g2*a]g2kUh.ta7S"
end PySem.Challenge.cw_byexample_k32_whole_fitting_row_is_in_holds
set_option Elab.async true in
set_option maxRecDepth 100000 in
set_option maxHeartbeats 0 in
theorem PySem.Challenge.cw_byexample_k32_whole_fitting_row_is_in_holds : PySem.Challenge.rw_byexample_k32_whole_fitting_row_is_in.Holds := by
 w_on;o_law;k_head;(case hw=>w_witness2)
 k_fill
 refine L3.walk_f (l:=PySem.Challenge.rw_byexample_k32_whole_fitting_row_is_in) (n:=63) (k:=14) (x:="_law_script") (G:=L3.Im) rfl (by decide) rfl ⟨rfl,by decide,by decide⟩ (λw h Y_=>PySem.W.kIn_of Y_) ?F L3.law_true
 case F =>
  intro w mg fa h KX G hmg
  refine' L3.AHL KX G hmg ?_ ?_ ?_ ?_ ?_ ?_ ?_ ?_ ?_ ?_ ?_ ?_ ?_ ?_ ?_ ?_ ?_ ?_ ?_ ?_ ?_ ?_ ?_ ?_ ?_ ?_ ?_ ?_ ?_ ?_ ?_ ?_ ?_ ?_ ?_ ?_ ?_ ?_ ?_ ?_ ?_ ?_ ?_ ?_ ?_ ?_ ?_ ?_ ?_ ?_ ?_ ?_ ?_ ?_ ?_ ?_ ?_ ?_ ?_ ?_ ?_ ?_ ?_ ?_ ?_ ?_ ?_ ?_ ?_ ?_ ?_ ?_ ?_ ?_ ?_ ?_ ?_ ?_ ?_ ?_ ?_ ?_ ?_ ?_ ?_ ?_ ?_ ?_ ?_ ?_ ?_ ?_ ?_ ?_ ?_ ?_ ?_ ?_ ?_ ?_ ?_ ?_ ?_ ?_ ?_ ?_ ?_ ?_ ?_ ?_ ?_ ?_ ?_ ?_ ?_ ?_ ?_
  all_goals first|k_is|(unfold L3.Sn;k_is)|(refine' ⟨?a,L3.Xb ?l ?c ?k⟩;(case a=>unfold L3.Sn;k_is);(case l=>k_is);(case c=>k_is);(case k=>k_is))|(refine' L3.Xb ?l ?c ?k;(case l=>k_is);(case c=>k_is);(case k=>k_is))|k_exc|kernel_rfl|rfl|decide|skip
