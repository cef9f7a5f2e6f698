import PyProof.Rows.All
import Wide.All
import OpenK.AllK
import Wide.FinOn
import Lean
import PyProof.EqAt
import PyProof.EqKinds
import PyProof.TupleCall
import PyProof.NeKinds
import KE.KIntText
import KE.KDictList
import PyProof.Rows.SortWalk
import KE.KSortTup
import PySem.Challenge.RW_byexample_k43_left_by_looks
set_option compiler.extract_closed false
local macro_rules | `(command| #check $s:str) => do return Lean.mkNullNode (← (s.getString.splitOn " ").toArray.mapM fun n => do return (← `(command| abbrev $(Lean.mkIdent (.mkSimple ("tw" ++ n))):ident := ())).raw)
local macro_rules | `(command| def $i:declId $b:bracketedBinder* : $t:term $v:declVal) => do return (← `(command| theorem $i:declId $b:bracketedBinder* : $t:term $v:declVal)).raw.rewriteBottomUp fun s => s.setInfo .none
local macro_rules | `(command| abbrev $i:declId $s:optDeclSig $v:declVal) => do return (← `(command| noncomputable def $i:declId $s:optDeclSig $v:declVal)).raw.rewriteBottomUp fun s => s.setInfo .none
local macro_rules | `(tactic| omega) => do let f := fun (s : String) (t : Lean.TSyntax `tactic) (g : Lean.Ident → Lean.MacroM (Lean.TSyntax `term)) => (s.splitOn " ").foldr (fun n t => do let t ← t; let a ← g (Lean.mkCIdent (.str `Nat n)); `(tactic| first | exact $a | $t:tactic)) (pure t); let t ← `(tactic| fail); let t ← f "le_trans lt_of_le_of_lt" t fun c => `($c (m := OfNat.ofNat _) (by assumption) (by decide)); let t ← f "le_of_lt ne_of_lt ne_of_gt le_of_eq lt_succ_of_le succ_le_of_lt" t fun c => `($c (by assumption)); let t ← f "le_refl le_add_right le_add_left zero_le succ_pos" t fun c => `($c ..); `(tactic| first | with_reducible (first | assumption | $t:tactic) | omega +splitMinMax)
set_option Elab.async false
set_option linter.all false
set_option maxRecDepth 100000
open PySem.W renaming Frag → AI, nsIn → Ba, findIn → Be, mg_of → Cn, keepIn → Ec, mg_none_of → Eb, kia_one → FM, emptyDict → AKb, fnOf → AKd, instObj → AKl, mroIn → AKn, kitOne → AKo, excIn → AKs, plainGet → AKx, hasDictIn → AKy, plainOver → AK6, makesIn → AK7, isFn → AK8, kitAny → ALE, hideAll → ALR, callWith_K → ALU, codeIn → ALX, hideAll_get → ALi, of_hideAll → ALj
open Option renaming bind_some → AQ, bind_eq_some_iff → FA, map_eq_some_iff → AKf, map_some → ALN, isSome_iff_exists → ALV
open List renaming mem_cons → AW, length_map → Ag, map_cons → Ah, prefix_append → Aj, prefix_refl → An, getElem?_map → Av, mem_map → Aw, mem_cons_of_mem → Az, getElem?_eq_some_iff → BA, mem_cons_self → BC, length_append → Bc, size_toArray → Bi, mem_of_getElem? → Bv, map_map → Bz, mem_append → CF, mem_range → CN, map_append → Co, getElem?_set_ne → DA, mem_map_of_mem → Cz, all_eq_true → DM, not_mem_nil → DK, length_cons → Dd, getElem?_append_left → Dx, sum_cons → EI, take_length → Ee, find?_cons → FB, lookup → FO, append_nil → FR, length_take → FP, mem_filter → Fj, length_set → Fl, mem_singleton → Fi, take_add_one → GV, mem_append_right → AKV, any_cons → AKW, map_congr_left → AKX, getElem?_set_self → AKY, nodup_cons → AKZ, replicate → AKa, getElem?_append_right → AKc, nodup_append → AKg, nodup_nil → AKh, getElem?_eq_none → AKk, all_cons → AKq, filterMap → AKu, length_filter_le → AKw, getElem?_range → AK0, mem_flatMap → AK2, append_assoc → AK3, forIn_cons → AK4, filterMap_cons → AK5, map_nil → AK9, getElem_of_mem → ALA, foldl_cons → ALB, any_eq_true → ALD, flatMap_cons → ALF, mem_of_mem_take → ALG, countP_cons → ALH, ext_getElem? → ALJ, mem_filterMap → ALK, filterMap_map → ALL, drop_zero → ALM, take_of_length_le → ALO, flatMap_append → ALP, getElem?_replicate → ALW, lookup_cons → ALY, getElem_mem → ALZ, take_append_drop → ALa, find?_eq_none → ALb, getElem?_of_mem → ALe, filterMap_eq_map → ALf, range_succ → ALg, filter_append → ALh, mem_append_left → ALk, length_replicate → ALl, drop_eq_getElem_cons → ALp, length_eq_zero_iff → ALr, mem_of_find?_eq_some → ALt
open Nat renaming le_refl → Ac, ne_of_lt → BN, zero_add → Bh, lt_of_lt_of_le → Bm, le_trans → Bu, zero_le → Ed, ne_of_gt → FN, lt_irrefl → Fh, add_mul → AKi, add_assoc → AKj, le_succ → AKp, mul_le_mul_right → AKr, le_add_right → AKt, mul_le_mul → AKv, le_of_eq → AKz, lt_of_le_of_lt → AK1, lt_succ_self → ALT, lt_succ_of_lt → ALd
open Bool renaming and_eq_true → CA, false_ne_true → Cc, noConfusion → Fp, eq_iff_iff → AKm, false_eq_true → ALC, eq_false_iff → ALI
open Int renaming emod_nonneg → GW, emod_lt_of_pos → GY, toNat_natCast → AKe, natCast_add → ALQ
open Array renaming length_toList → ALS, getElem?_eq_some_iff → ALq, getElem?_eq_none → ALs
open PySem.F renaming slot_zip_next → ALc, slot_tuple_add → ALm, entry_tuple_add → ALn, args_tuple_add_2 → ALo, slot_dict_itemiterator_iter → ALu, slot_tuple_iterator_next → ALv
open PySem renaming wpAny_bind → AE, wpAny_pure → AK, wpAny_rule → ALw, wpAny_call_entry → Fg, wpAny_seqItems → ALx, wpAny_mono → Dc, wpAny_truthy_bool → ALy, wpAny_execs_nil → ALz, wpAny_holding → DJ, wpAny_pyIter_list → AL0, wpAny_Call_Name_kw → AL1, wpAny_field → EH, wpAny_callSpecial?_slot → AL2, wpAny_newObj_type → AL3, wpAny_getItem_str_slice → AL4, wpAny_notOrdered_dict → AL5, wpAny_dictEntries → AL6, wpAny_typeNameOfWhole_keyiter → AL7, wpAny_typeNameOfWhole_itemiter → AL8, wpAny_setField_rec → AL9
noncomputable abbrev AMA:=PySem.Str->Option PySem.Value
noncomputable abbrev AMB:=List PySem.Str
noncomputable abbrev AMC:=List PySem.Value
noncomputable abbrev AMD:=List PySem.Addr
noncomputable abbrev AME:=List PySem.Expr
noncomputable abbrev AMF:=List PySem.Stmt
noncomputable abbrev AMG:=List Nat
noncomputable abbrev AMH:=List Int
noncomputable abbrev AMI:=PySem.Value->PySem.Shared->Prop
noncomputable section
namespace L2
open PySem PySem.Spec PyProof.Rows
noncomputable abbrev Key:=Sum Int Str
abbrev IY:Key->Value->Bool
 |.inl k,v=>Value.isInt k v
 |.inr x,v=>Value.isStrOf x v
abbrev Je(w:World):Key->Int
 |.inl k=>hashInt k
 |.inr x=>hashStr w x
def EO:∀{k:Key} {v:Value},IY k v=true->(∃i t,k=Sum.inl i/\v=Value.int i t)\/(∃x t,k=Sum.inr x/\v=Value.str x t)
 |.inl i,v,h=>by
  obtain⟨t,e⟩:=Value.isInt_shape (k:=i) (v:=v) h;exact .inl ⟨i,t,rfl,e⟩
 |.inr x,v,h=>by
  obtain⟨t,e⟩:=Value.isStrOf_shape (x:=x) (v:=v) h;exact .inr ⟨x,t,rfl,e⟩
def AEe(i:Int)(t:Tok):IY (.inl i) (.int i t)=true:=by simp[IY,Value.isInt]
def AEd(x:Str)(t:Tok):IY (.inr x) (.str x t)=true:=by simp[IY,Value.isStrOf]
def AEc(a b:Int):decide ((Sum.inl a:Key)=Sum.inl b)=(a == b):=by
 by_cases e:a=b
 .subst e;simp
 .have h:¬(Sum.inl a:Key)=Sum.inl b:=λq=>e (Sum.inl.inj q);rw[decide_eq_false h];exact(beq_eq_false_iff_ne.mpr e).symm
def AEZ(a b:Str):decide ((Sum.inr a:Key)=Sum.inr b)=decide (a=b):=by
 by_cases e:a=b
 .subst e;simp
 .have h:¬(Sum.inr a:Key)=Sum.inr b:=λq=>e (Sum.inr.inj q);rw[decide_eq_false h,decide_eq_false e]
def AEb(a:Int)(b:Str):decide ((Sum.inl a:Key)=Sum.inr b)=false:=decide_eq_false (λq=>nomatch q)
def AEa(a:Str)(b:Int):decide ((Sum.inr a:Key)=Sum.inl b)=false:=decide_eq_false (λq=>nomatch q)
abbrev Nw(prog:Program)(w:World):PySem.KeyKind prog w Key where
 is:=IY
 hash:=Je w
 inj:=λv a b ha hb=>by
  rcases EO ha with⟨i,t,rfl,rfl⟩|⟨x,t,rfl,rfl⟩
  .rcases EO hb with⟨j,u,rfl,e⟩|⟨y,u,rfl,e⟩
   .injection e with e1 _;rw[e1]
   .exact nomatch e
  .rcases EO hb with⟨j,u,rfl,e⟩|⟨y,u,rfl,e⟩
   .exact nomatch e
   .injection e with e1 _;rw[e1]
 byValue:=λk v h=>by
  rcases EO h with⟨i,t,rfl,rfl⟩|⟨x,t,rfl,rfl⟩ <;> rfl
 pyHash:=λhv h=>by
  rcases EO hv with⟨i,t,rfl,rfl⟩|⟨x,t,rfl,rfl⟩
  .exact wpAny_pyHash_int h
  .exact wpAny_pyHash_str h
 eqBool:=λhu hv h=>by
  rcases EO hu with⟨i,t,rfl,rfl⟩|⟨x,t,rfl,rfl⟩
  .rcases EO hv with⟨j,u,rfl,rfl⟩|⟨y,u,rfl,rfl⟩
   .rw[AEc] at h;exact wpAny_eqBool_int h
   .rw[AEb] at h;exact SeqAt.EqAt.int_str i t y u _ _ _ _ h
  .rcases EO hv with⟨j,u,rfl,rfl⟩|⟨y,u,rfl,rfl⟩
   .rw[AEa] at h;exact SeqAt.EqAt.str_int x t j u _ _ _ _ h
   .rw[AEZ] at h;exact wpAny_eqBool_str h
 «strs»:=λk x t v h=>by
  rcases EO h with⟨i,u,rfl,e⟩|⟨y,u,rfl,e⟩
  .exact nomatch e
  .injection e with e1 _
   subst e1;cases v <;> rfl
inductive V where
 |non|bl (b:Bool)|int (i:Int)|str (x:Str)|byt (b:Array UInt8)|flt (b:UInt64)|ref (a:Addr)|ty (n:String)
 deriving DecidableEq
abbrev AX:V->Value->Prop
 |.non,u=>u=Value.none
 |.bl b,u=>u=Value.bool b
 |.int i,u=>∃t,u=Value.int i t
 |.str x,u=>∃t,u=Value.str x t
 |.byt b,u=>∃t,u=Value.bytes b t
 |.flt b,u=>∃t,u=Value.float b t
 |.ref a,u=>u=Value.ref a
 |.ty n,u=>u=Value.type n
noncomputable abbrev AV:List V->AMC->Prop:=Paired AX
def AV.length{xs:List V}{us:AMC}(r:AV xs us):xs.length=us.length:=Paired.length r
def AV.get:∀{xs:List V} {us:AMC} {i:Nat} {x:V},AV xs us->xs[i]?=some x->∃u,us[i]?=some u/\AX x u
 |_,_,_,_,.nil,e=>by simp at e
 |_,_,0,_,.cons r _,e=>by simp at e;subst e;exact⟨_,rfl,r⟩
 |_,_,i+1,x,.cons _ t,e=>by
  obtain⟨u,h1,h2⟩:=AV.get (i:=i) (x:=x) t (by simpa using e);exact⟨u,by simpa using h1,h2⟩
def AV.set{x:V}{u:Value}(r:AX x u):∀{xs:List V} {us:AMC} (i:Nat),AV xs us->AV (xs.set i x) (us.set i u)
 |_,_,_,.nil=>.nil
 |_,_,0,.cons _ t=>.cons r t
 |_,_,i+1,.cons q t=>.cons q (AV.set r i t)
def AV.append:∀{xs ys:List V} {us ws:AMC},AV xs us->AV ys ws->AV (xs++ys) (us++ws)
 |_,_,_,_,.nil,s=>s
 |_,_,_,_,.cons r t,s=>.cons r (AV.append t s)
def AV.take:∀{xs:List V} {us:AMC} (n:Nat),AV xs us->AV (xs.take n) (us.take n)
 |_,_,0,_=>.nil
 |_,_,_+1,.nil=>.nil
 |_,_,n+1,.cons r t=>.cons r (AV.take n t)
def AV.drop:∀{xs:List V} {us:AMC} (n:Nat),AV xs us->AV (xs.drop n) (us.drop n)
 |_,_,0,r=>r
 |_,_,_+1,.nil=>.nil
 |_,_,n+1,.cons _ t=>AV.drop n t
abbrev FJ:Option V->Option Value->Prop
 |some v,some u=>AX v u
 |none,none=>True
 |_,_=>False
abbrev KV{κ:Type}:List (κ×V)->List (κ×Value)->Prop:=Paired λ(p:κ×V) (q:κ×Value)=>p.1=q.1/\AX p.2 q.2
abbrev kV:Key->V
 |.inl i=>.int i
 |.inr x=>.str x
abbrev KH(M:Model)(A:Around)(h:Heap)(v:Value)(q:Int×Nat):Prop:=∀(E:AMI) (s:Shared) (Q:Int->Shared->Prop),s.heap=h->Q q.1 {s with toks:=s.toks+q.2}->wpAny M A (pyHash v) Q E s
section
variable {prog:Program}{w:World}{A:Around}{E:AMI}{s:Shared}
def Uq{a:Addr}{its:AMC}{qs:List (Int×Nat)}(hu:A.units<cLine)(t:s.heap.IsTuple a its.toArray)(each:Paired (KH (model prog w) A.in1 s.heap) its qs) :
  KH (model prog w) A s.heap (.ref a) (reduceHash (Builtin.Tuple.tupleHashOf (qs.map (·.1))),(qs.map (·.2)).sum+1):=λE s' Q e0 fin=>by
 have ty:s'.TypeIs (.ref a) "tuple":=by obtain⟨o,g,c,_⟩:=t;exact⟨o,by rw[e0];exact g,c⟩
 have own:∀{R:AMI} {F:AMI},R (.int (Builtin.Tuple.tupleHashOf (qs.map (·.1))) (s'.toks+(qs.map (·.2)).sum)) {s' with toks:=s'.toks+(qs.map (·.2)).sum+1}->wpAny (model prog w) A.in1 (Builtin.«tuple.__hash__» ⟨[.ref a],[]⟩) (λfi s2=>∃v,fi=PySem.Fin.done (Flow.ret v)/\R v s2) F s':=λ{R F} k=>by
  obtain⟨o,g,_,n,dat⟩:=t;show wpAny _ _ (Builtin.Tuple.tupleItemsOf (.ref a) >>= _) _ F s';refine AE (wpAny_tupleItemsOf (by rw[e0];exact g) dat (AE ?_))
  have walk:∀{l:AMC} {m:List (Int×Nat)} (p:Paired (KH (model prog w) A.in1 s.heap) l m) (acc:Array Int) (u:Nat) {G:Array Int->Shared->Prop},
    G (acc++(m.map (·.1)).toArray) {s' with toks:=u+(m.map (·.2)).sum}->wpAny (model prog w) A.in1 (forIn l acc λx hs=>do let __do_lift <-pyHash x;pure (ForInStep.yield (hs.push __do_lift))) G F {s' with toks:=u}:=by
   intro l m p
   induction p with
   |nil=>intro acc u G hG;exact AK (by simpa using hG)
   |@cons x q l m hx _ ih =>
    intro acc u G hG;rw[AK4];refine AE (AE (hx F {s' with toks:=u} _ e0 (AK ?_)));refine ih (acc.push q.1) (u+q.2) ?_;simpa[AKj] using hG
  have go:=walk each #[] s'.toks (G:=λb s2=>wpAny (model prog w) A.in1 (retInt (Builtin.Tuple.tupleHashOf b.toList)) (λfi s2=>∃v,fi=PySem.Fin.done (Flow.ret v)/\R v s2) F s2) (by
   have e9:((#[]:Array Int)++(qs.map (·.1)).toArray).toList=qs.map (·.1):=by simp
   rw[e9];refine wpAny_ret_mkInt ?_
   exact k)
  simpa using go
 have turn:∀{i:Int} {u:Nat},Q (reduceHash i) {s' with toks:=u}->wpAny (model prog w) A (pyHashByItsType.reduced i) Q E {s' with toks:=u}:=λ{i u} hQ=>by
  unfold reduceHash at hQ
  show wpAny _ _ (if (decide (-(2:Int) ^ 63<=i)&&decide (i<2 ^ 63))=true then _ else _) Q E _
  split at hQ
  .rename_i c;rw[if_pos c];exact AK hQ
  .rename_i c;rw[if_neg c];exact AE (ALw (AK hQ))
 have look:=PySem.F.slot_tuple_hash;unfold pyHash pyHashByItsType;refine AE (wpAny_cRoomFor_or (.inr hu) (AE (wpAny_specialOf ty look.lookup ?_)));refine iteN (AE (wpAny_specialOf ty look.lookup (AE (wpAny_callSpecialIfBoundUnlessNone?_slot ty look (Fg look ty PySem.F.entry_tuple_hash (own (turn (by simpa[AKj] using fin))) (PySem.F.args_tuple_hash_1 _))))))
where
 iteN {α:Type} {M:Model} {A:Around} {x y:Sem α} {Q:α->Shared->Prop} {E:AMI} {s:Shared} {id:String} (h:wpAny M A y Q E s):wpAny M A (if (some (Value.builtin id) == some Value.none)=true then x else y) Q E s:=by rw[if_neg (by rw[beq_builtin_none];simp)];exact h
def AGw{α:Type}[DecidableEq α](x y:List α):((List.range (min x.length y.length)).all (λj=>decide (x[j]?=y[j]?))&&x.length == y.length)=decide (x=y):=by
 by_cases h:x=y
 .subst h;simp
 .rw[decide_eq_false h]
  by_cases hl:x.length=y.length
  .rw[Bool.and_eq_false_iff];left;rw[ALI];intro ha;refine h (ALJ λj=>?_)
   by_cases hj:j<x.length
   .exact of_decide_eq_true (DM.mp ha j (CN.mpr (by omega)))
   .rw[AKk (by omega),AKk (by omega)]
  .simp[hl]
def Paired.both{α β:Type}{R:α->β->Prop}:∀{l:List α} {m:List β} {j:Nat} (h:j<m.length),Paired R l m->∃a,l[j]?=some a/\R a m[j]
 |_,_,0,_,.cons r _=>⟨_,rfl,r⟩
 |_,_,j+1,h,.cons _ t=>by
  obtain⟨a,e,r⟩:=Paired.both (j:=j) (by simpa using h) t;exact⟨a,by simpa using e,by simpa using r⟩
def Paired.one{α β:Type}{R:α->β->Prop}(inj:∀a a' b,R a b->R a' b->a=a'):∀{l l':List α} {m:List β},Paired R l m->Paired R l' m->l=l'
 |_,_,_,.nil,p=>by cases p;rfl
 |_,_,_,.cons r t,p=>by
  cases p with
  |cons r' t'=>rw[inj _ _ _ r r',Paired.one inj t t']
def Uo{α:Type}[DecidableEq α]{R:α->Value->Prop}{a b:Addr}{x y:List α}{us vs:AMC}(hu:A.units<cLine)(inj:∀k k' u,R k u->R k' u->k=k')(each:∀k k' u v,R k u->R k' v->SeqAt.EqAt A.in1 s u v (decide (k=k')))
  (ta:s.heap.IsTuple a us.toArray) (tb:s.heap.IsTuple b vs.toArray) (px:Paired R x us) (py:Paired R y vs):SeqAt.EqAt A s (.ref a) (.ref b) (decide (x=y)):=by
 by_cases ab:a=b
 .subst ab;obtain⟨o,g,_,n,dd⟩:=ta;obtain⟨o',g',_,n',dd'⟩:=tb;rw[g] at g';cases g';rw[dd] at dd';cases dd';rw[Paired.one inj px py,decide_eq_true rfl];exact .same _
 .refine .of_refs ab ?_
  have rc:=SeqAt.RcAt.tuples (e:=λj=>decide (x[j]?=y[j]?)) ta tb hu λj h1 h2=>by
   obtain⟨k,ek,rk⟩:=Paired.both (j:=j) (by simpa using h1) px;obtain⟨k',ek',rk'⟩:=Paired.both (j:=j) (by simpa using h2) py;rw[ek,ek',show decide (some k=some k')=decide (k=k') from decide_eq_decide.mpr (by simp)];exact each k k' _ _ (by simpa using rk) (by simpa using rk')
  rw[Bi,Bi,<-Paired.length px,<-Paired.length py,AGw] at rc;exact rc
def Up{M:Model}{n:Nat}{a:Addr}{its:AMC}{Q:Bool->Shared->Prop}(t:s.heap.IsTuple a its.toArray)(each:∀v∈its,∀(G:Bool->Shared->Prop),G true s->wpAny M A (eqIsQuiet n v) G E s)(h:Q true s):wpAny M A (eqIsQuiet (n+1) (.ref a)) Q E s:=by
 obtain⟨o,g,c,m,dd⟩:=t;have ty:s.TypeIs (.ref a) "tuple":=⟨o,g,c⟩
 have walk:∀l:AMC,(∀v∈l,v∈its)->wpAny M A (forIn l ((none:Option Bool),PUnit.unit) λy _=>do let __do_lift <-eqIsQuiet n y;if (!__do_lift)=true then pure (ForInStep.done (some false,PUnit.unit)) else pure (ForInStep.yield (none,PUnit.unit)))
   (λr s2=>r.1=none/\s2=s) E s:=by
  intro l
  induction l with
  |nil=>intro _;exact AK ⟨rfl,rfl⟩
  |cons v l ih =>
   intro hl;rw[AK4];refine AE (AE (each v (hl v (by simp)) _ (iteF (by decide) (AK (ih λz hz=>hl z (by simp[hz]))))))
 unfold eqIsQuiet;refine AE (wpAny_specialOf ty PySem.F.slot_tuple_eq.lookup ?_);show wpAny M A (isInstance (.ref a) (.type "tuple") >>= _) Q E s;refine AE (wpAny_isInstance ty isSubtype_tuple_tuple (iteF (by decide) (AE (ALx g dd (AE ?_)))));have w0:=walk its λ_ z=>z;show wpAny M A (forIn its.toArray _ _) _ E s;rw[List.forIn_toArray];refine Dc w0 (λr s2 z2_=>?_) λ_ _ z=>z;obtain⟨e1,e2⟩:=z2_;rw[e2];simp only[e1];exact AK h
where
 iteF {α:Type} {M:Model} {A:Around} {x y:Sem α} {Q:α->Shared->Prop} {E:AMI} {s:Shared} {c:Prop} [Decidable c] (hc:¬c) (h:wpAny M A y Q E s):wpAny M A (if c then x else y) Q E s:=by rw[if_neg hc];exact h
end
noncomputable abbrev NK:=List (Key ⊕ List Key)
abbrev Dm(k:Key)(v:Value):Prop:=IY k v=true
abbrev GR(h:Heap):Key ⊕ List Key->Value->Prop
 |.inl k,v=>Dm k v
 |.inr ks,v=>∃b its,v=.ref b/\h.IsTuple b its.toArray/\Paired Dm ks its
abbrev AG6(h:Heap)(k:NK)(a:Addr):Prop:=∃its,h.IsTuple a its.toArray/\Paired (GR h) k its
abbrev SN(w:World):Key ⊕ List Key->Int×Nat
 |.inl k=>(Je w k,1)
 |.inr ks=>(reduceHash (Builtin.Tuple.tupleHashOf ((ks.map λk=>(Je w k,1)).map (·.1))),((ks.map λk=>(Je w k,1)).map (·.2)).sum+1)
section
variable {prog:Program}{w:World}{A:Around}{E:AMI}{s:Shared}{h:Heap}
def Dm.inj{k k':Key}{u:Value}(x:Dm k u)(y:Dm k' u):k=k':=by rcases EO x with⟨_,_,rfl,rfl⟩|⟨_,_,rfl,rfl⟩ <;> rcases EO y with⟨_,_,rfl,e⟩|⟨_,_,rfl,e⟩ <;> cases e <;> rfl
def IsTuple.same{a:Addr}{us vs:AMC}(x:h.IsTuple a us.toArray)(y:h.IsTuple a vs.toArray):us=vs:=by obtain⟨o,g,_,n,dd⟩:=x;obtain⟨o',g',_,n',dd'⟩:=y;rw[g] at g';cases g';rw[dd] at dd';cases dd';rfl
def Dm.noRef{k:Key}{a:Addr}(x:Dm k (.ref a)):False:=by rcases EO x with⟨_,_,_,e⟩|⟨_,_,_,e⟩ <;> cases e
def GR.inj{k k':Key ⊕ List Key}{u:Value}(x:GR h k u)(y:GR h k' u):k=k':=by
 cases k with
 |inl k =>
  cases k' with
  |inl k'=>rw[Dm.inj x y]
  |inr ks=>obtain⟨b,_,rfl,_⟩:=y;exact x.noRef.elim
 |inr ks =>
  obtain⟨b,its,rfl,t,p⟩:=x
  cases k' with
  |inl k'=>exact(Dm.noRef y).elim
  |inr ks' =>
   obtain⟨b',its',e,t',p'⟩:=y;cases e;rw[IsTuple.same t t'] at p;rw[Paired.one (R:=Dm) (λ_ _ _ a b=>a.inj b) p p']
def XA{k k':Key}{u v:Value}(x:Dm k u)(y:Dm k' v):SeqAt.EqAt A s u v (decide (k=k')):=λprog w E Q hQ=>(Nw prog w).eqBool x y hQ
def AEm{k k':Key ⊕ List Key}{u v:Value}(hu:A.units<cLine)(x:GR s.heap k u)(y:GR s.heap k' v):SeqAt.EqAt A s u v (decide (k=k')):=by
 cases k with
 |inl k =>
  cases k' with
  |inl k' =>
   rw[show decide ((Sum.inl k:Key ⊕ List Key)=Sum.inl k')=decide (k=k') from decide_eq_decide.mpr (by simp)];exact XA x y
  |inr ks =>
   obtain⟨b,its,rfl,t,p⟩:=y;rw[decide_eq_false (by simp)];rcases EO x with⟨i,t',rfl,rfl⟩|⟨z,t',rfl,rfl⟩
   .exact .int_tuple i t' t hu
   .exact .str_tuple z t' t hu
 |inr ks =>
  obtain⟨a,its,rfl,t,p⟩:=x
  cases k' with
  |inl k' =>
   rw[decide_eq_false (by simp)];rcases EO y with⟨i,t',rfl,rfl⟩|⟨z,t',rfl,rfl⟩
   .exact .tuple_int i t' t hu
   .exact .tuple_str z t' t hu
  |inr ks' =>
   obtain⟨b,its',rfl,t',p'⟩:=y;rw[show decide ((Sum.inr ks:Key ⊕ List Key)=Sum.inr ks')=decide (ks=ks') from decide_eq_decide.mpr (by simp)];exact Uo (R:=Dm) hu (λ_ _ _ a b=>a.inj b) (λ_ _ _ _ a b=>XA a b) t t' p p'
def Wz{k:Key}{v:Value}(x:Dm k v):KH (model prog w) A h v (Je w k,1):=λE s Q _ hQ=>(Nw prog w).pyHash x hQ
def Wx:∀{ks:List Key} {vs:AMC},Paired Dm ks vs->Paired (KH (model prog w) A h) vs (ks.map λk=>(Je w k,1))
 |_,_,.nil=>.nil
 |_,_,.cons x t=>.cons (Wz x) (Wx t)
def Rz(hu:A.units<cLine):∀{ks:NK} {vs:AMC},Paired (GR s.heap) ks vs->Paired (KH (model prog w) A s.heap) vs (ks.map (SN w))
 |_,_,.nil=>.nil
 |.inl k::_,_,.cons x t=>.cons (Wz x) (Rz hu t)
 |.inr ks::_,_,.cons x t=>by
  obtain⟨b,its,rfl,tb,p⟩:=x;exact .cons (Uq hu tb (Wx p)) (Rz hu t)
def Ww{M:Model}{n:Nat}{ks:List Key}{vs:AMC}(p:Paired Dm ks vs):∀v∈vs,∀(G:Bool->Shared->Prop),G true s->wpAny M A (eqIsQuiet n v) G E s:=by
 induction p with
 |nil=>intro v hv;cases hv
 |cons x _ ih =>
  intro v hv G hG;rcases AW.mp hv with e|hv
  .subst e;have:eqIsQuiet n v=pure true:=by rcases EO x with⟨_,_,_,rfl⟩|⟨_,_,_,rfl⟩ <;> (unfold eqIsQuiet;rfl)
   rw[this];exact AK hG
  .exact ih v hv G hG
def AEl{M:Model}{n:Nat}{ks:NK}{vs:AMC}(p:Paired (GR s.heap) ks vs):∀v∈vs,∀(G:Bool->Shared->Prop),G true s->wpAny M A (eqIsQuiet (n+1) v) G E s:=by
 induction p with
 |nil=>intro v hv;cases hv
 |@cons k u _ _ x _ ih =>
  intro v hv G hG;rcases AW.mp hv with e|hv
  .subst e
   cases k with
   |inl k=>exact Ww (ks:=[k]) (vs:=[v]) (.cons x .nil) v (by simp) G hG
   |inr ks =>
    obtain⟨b,its,rfl,tb,p⟩:=x;exact Up tb (Ww p) hG
  .exact ih v hv G hG
def IsTuple.other{h':Heap}{a d:Addr}{its:Array Value}{o:Obj}{es:Array DictEntry}{ep:Nat}(x:h.IsTuple a its)(ho:h.get? d=some o)(hd:o.data=.dict es ep)(hs:Heap.SameBut d h h'):h'.IsTuple a its:=by
 obtain⟨o',g,c,n,dd⟩:=x;have ne:a≠d:=λe=>by subst e;rw[g] at ho;cases ho;rw[dd] at hd;cases hd
 exact⟨o',(hs.2 a ne).trans g,c,n,dd⟩
def Paired.to{α β:Type}{F G:α->β->Prop}:∀{l₁:List α} {l₂:List β},Paired F l₁ l₂->(∀a b,F a b->G a b)->Paired G l₁ l₂
 |_,_,.nil,_=>.nil
 |_,_,.cons r t,f=>.cons (f _ _ r) (Paired.to t f)
end
abbrev HE(prog:Program)(w:World):HeapKind prog w NK where
 is:=AG6
 hash:=λk=>reduceHash (Builtin.Tuple.tupleHashOf ((k.map (SN w)).map (·.1)))
 draws:=λk=>((k.map (SN w)).map (·.2)).sum+1
 room:=λA=>A.units+1<cLine
 inj:=λz0_ z1_=>by
  obtain⟨_,t,p⟩:=z0_;obtain⟨_,t',p'⟩:=z1_;rw[IsTuple.same t t'] at p;exact Paired.one (R:=GR _) (λ_ _ _ a b=>a.inj b) p p'
 keeps:=λ⟨its,t,p⟩ ho hd hs=>⟨its,IsTuple.other t ho hd hs,Paired.to p λk v x=>by
  cases k with
  |inl k=>exact x
  |inr ks=>obtain⟨b,l,e,tb,q⟩:=x;exact⟨b,l,e,IsTuple.other tb ho hd hs,q⟩⟩
 pyHash:=λhu z1_ hQ=>by obtain⟨_,t,p⟩:=z1_;exact Uq (Nat.lt_of_succ_lt hu) t (Rz hu p) _ _ _ rfl hQ
 eqBool:=λhu z1_ z2_ hQ=>by obtain⟨_,t,p⟩:=z1_;obtain⟨_,t',p'⟩:=z2_;exact Uo (R:=GR _) (Nat.lt_of_succ_lt hu) (λ_ _ _ a b=>a.inj b) (λ_ _ _ _ a b=>AEm hu a b) t t' p p' _ _ _ _ hQ
 quiet:=λz0_ hQ=>by obtain⟨_,t,p⟩:=z0_;exact Up t (AEl p) hQ
inductive HO where
 /-- a list -/
 |lst (xs:List V)
 /-- a tuple (never changes) -/
 |tup (xs:List V)
 /-- a dict whose keys are ints and texts;one whose keys are tuples of ints and texts (the empty one is both) -/
 |dK (kvs:List (Key×V))|dT (kvs:List (List Key×V))
 /-- a dict whose keys are tuples: each key,its address,the value;how often its keys have changed -/
 |dN (kvs:List (NK×Addr×V)) (ep:Nat)
 /-- a set of ints: its members,its size -/
 |set (S:Int->Bool) (n:Nat)
 /-- an instance of the class at C,its dict at dx,its attributes -/
 |ins (C dx:Addr) (fs:List (Str×V))
 /-- the dict of the instance at x -/
 |own (x:Addr)
 /-- the dict of an exception -/
 |xd (fs:List (Str×V))
 /-- a bound method,f of x -/
 |met (f x:Addr)
 /-- a range object lo,lo+1,.. below hi -/
 |rng (lo hi:Int)
 /-- a thing that is known to the object (the script;a dict while a loop walks it): read,never written while it is so -/
 |frz (o:Obj) (u:HO)
 /-- a code object's table -/
 |tbl (ps:Array Value)
 /-- any other thing,by what is true of its one object (a def of one's own: SetO a S n:=HO.ext λh=>..) -/
 |ext (φ:Heap->Prop)
noncomputable abbrev Hp:=Addr->Option HO
abbrev upd(H:Hp)(a:Addr)(o:HO):Hp:=λb=>if b=a then some o else H b
def Bn{H:Hp}{a:Addr}{o:HO}:upd H a o a=some o:=by unfold upd;rw[if_pos rfl]
def Ax{H:Hp}{a b:Addr}{o:HO}(h:b≠a):upd H a o b=H b:=by unfold upd;rw[if_neg h]
def CW{H:Hp}{a b:Addr}{o:HO}(h:H a=some o)(h':H b=none):a≠b:=by intro e;subst e;rw[h] at h';cases h'
section
variable (P:Program)(w:World)
abbrev Bx(H:Hp)(h:Heap)(a:Addr):HO->Prop
 |.lst xs=>xs.length<=sizeLine/\∃(its:AMC) (n:Nat),AV xs its/\h.get? a=some {cls:=.type "list",data:=.seq its.toArray n}
 |.tup xs=>xs.length<=sizeLine/\∃its:AMC,AV xs its/\IsTup h a its.toArray
 |.dK kvs=>kvs.length<=sizeLine/\(a == sysModules)=false/\∃vs,KV kvs vs/\h.DictOf (Nw P w) a vs
 |.dT kvs=>kvs.length<=sizeLine/\(a == sysModules)=false/\∃xs:List (List Key×Addr×Value),
   Paired (λ(p:List Key×V) (q:List Key×Addr×Value)=>p.1=q.1/\H q.2.1=some (.tup (p.1.map kV))/\AX p.2 q.2.2) kvs xs /\
   ∃o es ep,h.get? a=some o/\o.ExactDict/\o.data=.dict es ep/\es.toList=xs.map (entryOfKey (tupleKind (Nw P w)))/\(xs.map (·.1)).Nodup
 |.dN kvs ep=>kvs.length<=sizeLine/\(a == sysModules)=false/\∃xs:List (NK×Addr×Value),
   Paired (λ(p:NK×Addr×V) (q:NK×Addr×Value)=>p.1=q.1/\p.2.1=q.2.1/\AX p.2.2 q.2.2) kvs xs /\
   ∃o es,h.get? a=some o/\o.ExactDict/\o.data=.dict es ep/\es.toList=xs.map (entryOfKey (HE P w))/\(xs.map (·.1)).Nodup
 |.set S n=>h.SetOf (intKind P w) a S n
 |.ins C dx fs=>H dx=some (.own a)/\fs.length<=1000/\dx≠a/\h.get? a=some (AKl C dx) /\
   ∃mA,h.Ns1 dx mA/\(∀f,FJ (fs.lookup f) (mA f))/\PySem.Within mA (fs.map (·.1))
 |.own _=>∃o,h.get? a=some o
 |.xd fs=>∃mA,h.Ns1 a mA/\∀f,FJ (fs.lookup f) (mA f)
 |.rng lo hi=>∃t u v,h.get? a=some {cls:=.type "range",data:=.fields #[.int lo t,.int hi u,.int 1 v]}
 |.frz o u=>h.get? a=some o/\Bx H h a u
 |.tbl ps=>h.get? a=some {cls:=.none,data:=.fields ps}
 |.met f x=>h.get? a=some (PySem.W.methodObj (.ref f) (.ref x))
 |.ext φ=>φ h/\(∃o,h.get? a=some o)/\∀h1 h2:Heap,φ h1->(∀o,h1.get? a=some o->h2.get? a=some o)->φ h2
abbrev By(H:Hp)(h:Heap):Prop:=∀a o,H a=some o->Bx P w H h a o
end
section
variable {P:Program}{w:World}{H H':Hp}{h h':Heap}{a:Addr}{o:HO}
def Bx.lt(x:Bx P w H h a o):a<h.objs.size:=by
 cases o with
 |lst xs=>obtain⟨_,_,_,_,e⟩:=x;exact Heap.lt_size e
 |tup xs=>obtain⟨_,_,_,p⟩:=x;exact p.lt
 |dK kvs=>obtain⟨_,_,_,_,o,_,_,e,_⟩:=x;exact Heap.lt_size e
 |dT kvs=>obtain⟨_,_,_,_,o,_,_,e,_⟩:=x;exact Heap.lt_size e
 |dN kvs ep=>obtain⟨_,_,_,_,o,_,e,_⟩:=x;exact Heap.lt_size e
 |set S n=>obtain⟨o,_,_,_,e,_⟩:=x;exact Heap.lt_size e
 |ins C dx fs=>obtain⟨_,_,_,e,_⟩:=x;exact Heap.lt_size e
 |own y=>obtain⟨_,e⟩:=x;exact Heap.lt_size e
 |xd fs=>obtain⟨_,⟨_,_,_,e,_⟩,_⟩:=x;exact Heap.lt_size e
 |rng lo hi=>obtain⟨_,_,_,e⟩:=x;exact Heap.lt_size e
 |frz ob u=>obtain⟨e,_⟩:=x;exact Heap.lt_size e
 |tbl ps=>exact Heap.lt_size (show h.get? a=some _ from x)
 |met f y=>exact Heap.lt_size (show h.get? a=some _ from x)
 |ext φ=>obtain⟨_,⟨_,e⟩,_⟩:=x;exact Heap.lt_size e
def Paired.mapP{α β:Type}{F G:α->β->Prop}:∀{l₁:List α} {l₂:List β},Paired F l₁ l₂->(∀a b,F a b->G a b)->Paired G l₁ l₂
 |_,_,.nil,_=>.nil
 |_,_,.cons r t,f=>.cons (f _ _ r) (Paired.mapP t f)
def Bx.stay(x:Bx P w H h a o)(k:∀b u,(b=a\/H b=some (.own a))->h.get? b=some u->h'.get? b=some u)
  (ho:∀b,H b=some (.own a)->H' b=some (.own a)) (ht:∀b xs,H b=some (.tup xs)->H' b=some (.tup xs)):Bx P w H' h' a o:=by
 induction o with
 |lst xs=>obtain⟨z,its,n,r,e⟩:=x;exact⟨z,its,n,r,k _ _ (.inl rfl) e⟩
 |tup xs=>obtain⟨z,its,r,ob,e,c⟩:=x;exact⟨z,its,r,ob,k _ _ (.inl rfl) e,c⟩
 |dK kvs=>obtain⟨z,y,vs,r,ob,es,ep,e,c⟩:=x;exact⟨z,y,vs,r,ob,es,ep,k _ _ (.inl rfl) e,c⟩
 |dT kvs =>
  obtain⟨z,y,xs,r,ob,es,ep,e,c⟩:=x;exact⟨z,y,xs,Paired.mapP r λp q z=>⟨z.1,ht _ _ z.2.1,z.2.2⟩,ob,es,ep,k _ _ (.inl rfl) e,c⟩
 |dN kvs ep=>obtain⟨z,y,xs,r,ob,es,e,c⟩:=x;exact⟨z,y,xs,r,ob,es,k _ _ (.inl rfl) e,c⟩
 |set S n=>obtain⟨ob,es,ep,t,e,c⟩:=x;exact⟨ob,es,ep,t,k _ _ (.inl rfl) e,c⟩
 |ins C dx fs =>
  obtain⟨d,z,ne,e,mA,⟨od,es,ep,e2,c⟩,r⟩:=x;exact⟨ho _ d,z,ne,k _ _ (.inl rfl) e,mA,⟨od,es,ep,k _ _ (.inr d) e2,c⟩,r⟩
 |own y=>obtain⟨ob,e⟩:=x;exact⟨ob,k _ _ (.inl rfl) e⟩
 |xd fs=>obtain⟨mA,⟨od,es,ep,e,c⟩,r⟩:=x;exact⟨mA,⟨od,es,ep,k _ _ (.inl rfl) e,c⟩,r⟩
 |rng lo hi=>obtain⟨t,u,v,e⟩:=x;exact⟨t,u,v,k _ _ (.inl rfl) e⟩
 |frz ob u ih=>obtain⟨e,q⟩:=x;exact⟨k _ _ (.inl rfl) e,ih q⟩
 |tbl ps =>
  have e:h.get? a=some {cls:=.none,data:=.fields ps}:=x;show h'.get? a=some {cls:=.none,data:=.fields ps};exact k a _ (.inl rfl) e
 |met f y =>
  have e:h.get? a=some (PySem.W.methodObj (.ref f) (.ref y)):=x;show h'.get? a=some (PySem.W.methodObj (.ref f) (.ref y));exact k a _ (.inl rfl) e
 |ext φ=>obtain⟨p,⟨o,e⟩,st⟩:=x;exact⟨st _ _ p λo q=>k _ _ (.inl rfl) q,⟨o,k _ _ (.inl rfl) e⟩,st⟩
def By.lt(x:By P w H h)(e:H a=some o):a<h.objs.size:=(x a o e).lt
def By.fresh(x:By P w H h)(e:h.objs.size<=a):H a=none:=by
 cases q:H a with
 |none=>rfl
 |some u=>exact absurd (Bm (x.lt q) e) (Fh _)
def By.kept(x:By P w H h)(k:∀b u,h.get? b=some u->h'.get? b=some u):By P w H h':=λa o e =>
 (x a o e).stay (λb u _ q=>k b u q) (λ_ q=>q) λ_ _ q=>q
def By.laid(x:By P w H h)(k:∀b u,h.get? b=some u->h'.get? b=some u)(hp:h.objs.size<=a)(new:Bx P w (upd H a o) h' a o):By P w (upd H a o) h':=λb u e=>by
 have hn:=x.fresh hp
 by_cases hb:b=a
 .subst hb;rw[Bn] at e;cases e;exact new
 .rw[Ax hb] at e;exact(x b u e).stay (λc v _ q=>k c v q) (λc q=>by rw[Ax (CW q hn)];exact q) λc xs q=>by rw[Ax (CW q hn)];exact q
end
abbrev Rd(H:Hp)(a:Addr)(u:HO):Prop:=H a=some u\/∃o,H a=some (.frz o u)
def Rd.of{H:Hp}{a:Addr}{u:HO}(h:H a=some u):Rd H a u:=.inl h
def Rd.ok{P:Program}{w:World}{H:Hp}{h:Heap}{a:Addr}{u:HO}(r:Rd H a u)(x:By P w H h):Bx P w H h a u:=by
 rcases r with r|⟨o,r⟩
 .exact x a u r
 .obtain⟨_,q⟩:=x a _ r;exact q
abbrev Lo:Option HO->Prop
 |some (.lst _)=>True
 |some (.dK _)=>True
 |some (.dT _)=>True
 |some (.dN _ _)=>True
 |some (.set _ _)=>True
 |some (.ins _ _ _)=>True
 |some (.ext _)=>True
 |_=>False
section
variable {P:Program}{w:World}{H:Hp}{h h':Heap}{x e:Addr}{o':HO}
def By.write(ok:By P w H h)(mu:Lo (H x))(he:e=x\/H e=some (.own x))(k:∀b u,b≠e->h.get? b=some u->h'.get? b=some u)(heo:∃u,h'.get? e=some u)
  (new:Bx P w (upd H x o') h' x o'):By P w (upd H x o') h':=λb u q=>by
 have nown:∀c y,H c=some (.own y)->c≠x:=λc y r z=>by subst z;rw[r] at mu;exact mu
 have ntup:∀c xs,H c=some (.tup xs)->c≠x:=λc xs r z=>by subst z;rw[r] at mu;exact mu
 by_cases hb:b=x
 .subst hb;rw[Bn] at q;cases q;exact new
 .rw[Ax hb] at q
  by_cases hbe:b=e
  .have q':H b=some (.own x):=by
    rcases he with z|z
    .exact absurd (hbe.trans z) hb
    .rw[hbe];exact z
   rw[q] at q';cases q';obtain⟨v,hv⟩:=heo;exact⟨v,by rw[hbe];exact hv⟩
  .refine(ok b u q).stay (λc v hc r=>k c v ?_ r) (λc r=>by rw[Ax (nown c b r)];exact r) λc xs r=>by rw[Ax (ntup c xs r)];exact r
   rcases hc with rfl|hc
   .exact hbe
   .rintro rfl;rcases he with z|z
    .exact nown c b hc z
    .rw[hc] at z;cases z;exact hb rfl
end
structure Un (fs ex:AMD) (H H':Hp) (h h':Heap):Prop where
 keep:∀b o,h.get? b=some o->H b=none->b∉fs->b∉ex->h'.get? b=some o
 slot:∀b o,h.get? b=some o->H b=none->b∈fs->b∉ex->∃sl,h'.get? b=some {o with slots:=sl}
 free:∀b o,h.get? b=some o->H b=none->b∉ex->H' b=none
 there:∀b o,h.get? b=some o->b∉ex->∃o',h'.get? b=some o'
 tups:∀b xs,H b=some (.tup xs)->H' b=some (.tup xs)
 frzs:∀b o u,H b=some (.frz o u)->H' b=some (.frz o u)
 tbls:∀b ps,H b=some (.tbl ps)->∃more,H' b=some (.tbl (ps++more))
section
variable {fs fs' ex ex':AMD}{H H1 H2:Hp}{h h1 h2 h':Heap}{a x e:Addr}{o:HO}
def Un.any(u:Un fs ex H H1 h h1){b:Addr}{ob:Obj}(q:h.get? b=some ob)(n:H b=none)(hx:b∉ex):∃sl,h1.get? b=some {ob with slots:=sl}:=by
 by_cases hb:b∈fs
 .exact u.slot b ob q n hb hx
 .exact⟨ob.slots,u.keep b ob q n hb hx⟩
def Un.trans(a:Un fs ex H H1 h h1)(b:Un fs ex H1 H2 h1 h2):Un fs ex H H2 h h2 where
 keep:=λc ob q n hc hx=>b.keep c ob (a.keep c ob q n hc hx) (a.free c ob q n hx) hc hx
 slot:=λc ob q n hc hx=>by
  obtain⟨sl,e1⟩:=a.slot c ob q n hc hx;obtain⟨sl',e2⟩:=b.slot c _ e1 (a.free c ob q n hx) hc hx;exact⟨sl',e2⟩
 free:=λc ob q n hx=>by
  obtain⟨o',e1⟩:=a.there c ob q hx;exact b.free c o' e1 (a.free c ob q n hx) hx
 there:=λc ob q hx=>by
  obtain⟨o',e1⟩:=a.there c ob q hx;exact b.there c o' e1 hx
 tups:=λc xs q=>b.tups c xs (a.tups c xs q)
 frzs:=λc ob xs q=>b.frzs c ob xs (a.frzs c ob xs q)
 tbls:=λc ps q=>by
  obtain⟨m1,e1⟩:=a.tbls c ps q;obtain⟨m2,e2⟩:=b.tbls c _ e1;exact⟨m1++m2,by rw[e2,Array.append_assoc]⟩
def Un.kept(k:∀b u,h.get? b=some u->h'.get? b=some u):Un fs ex H H h h' :=
 ⟨λb ob q _ _ _=>k b ob q,λb ob q _ _ _=>⟨ob.slots,k b ob q⟩,λ_ _ _ n _=>n,λb ob q _=>⟨ob,k b ob q⟩,λ_ _ q=>q,λ_ _ _ q=>q,λ_ ps q=>⟨#[],by rw[q];simp⟩⟩
def Un.refl:Un fs ex H H h h:=Un.kept λ_ _ q=>q
def Un.laid(k:∀b u,h.get? b=some u->h'.get? b=some u)(hp:h.objs.size<=a)(hn:H a=none):Un fs ex H (upd H a o) h h' where
 keep:=λb u q _ _ _=>k b u q
 slot:=λb u q _ _ _=>⟨u.slots,k b u q⟩
 free:=λb u q n _=>by rw[Ax (BN (Bm (Heap.lt_size q) hp))];exact n
 there:=λb u q _=>⟨u,k b u q⟩
 tups:=λb xs q=>by rw[Ax (CW q hn)];exact q
 frzs:=λb u xs q=>by rw[Ax (CW q hn)];exact q
 tbls:=λb ps q=>⟨#[],by rw[Ax (CW q hn),q];simp⟩
def Un.write(mu:Lo (H x))(he:e=x\/H e=some (.own x))(k:∀b u,b≠e->h.get? b=some u->h'.get? b=some u)(heo:∃u,h'.get? e=some u):Un fs ex H (upd H x o) h h':=by
 have hx:∀b,H b=none->b≠x:=λb n z=>by subst z;rw[n] at mu;exact mu
 have hb:∀b,H b=none->b≠e:=λb n z=>by
  subst z;rcases he with r|r
  .exact hx b n r
  .rw[n] at r;cases r
 have hm:∀b u,H b=some u->¬Lo (some u)->b≠x:=λb u q nm z=>by subst z;rw[q] at mu;exact nm mu
 refine⟨λb u q n _ _=>k b u (hb b n) q,λb u q n _ _=>⟨u.slots,k b u (hb b n) q⟩,λb u q n _=>by rw[Ax (hx b n)];exact n,λb u q _=>?_,
  λb xs q=>by rw[Ax (hm b _ q λz=>z)];exact q,λb u xs q=>by rw[Ax (hm b _ q λz=>z)];exact q,λb ps q=>⟨#[],by rw[Ax (hm b _ q λz=>z),q];simp⟩⟩
 by_cases hbe:b=e
 .subst hbe;exact heo
 .exact⟨u,k b u hbe q⟩
def Un.mono(u:Un fs ex H H1 h h1)(hs:∀b∈fs,b∈fs')(hx:∀b∈ex,b∈ex'):Un fs' ex' H H1 h h1 :=
 ⟨λb ob q n hb he=>u.keep b ob q n (λz=>hb (hs b z)) λz=>he (hx b z),λ_ _ q n _ he=>u.any q n λz=>he (hx _ z),λb ob q n he=>u.free b ob q n λz=>he (hx b z),λb ob q he=>u.there b ob q λz=>he (hx b z),u.tups,u.frzs,u.tbls⟩
end
abbrev NS(h:Heap)(H:Hp):AMD:=(List.range h.objs.size).filter λa=>(H a).isSome
abbrev HF(h:Heap)(H:Hp):Heap:=ALR h (NS h H)
def AE1(h:Heap)(H:Hp):(HF h H).objs.size=h.objs.size:=PySem.W.hideAll_size _ _
def AE2{h:Heap}{H:Hp}{b:Addr}{o:Obj}(e:h.get? b=some o)(n:H b=none):(HF h H).get? b=some o :=
 ALi _ e λhm=>by
  have q:(H b).isSome=true:=(Fj.mp hm).2;rw[n] at q;simp at q
def ADo{h:Heap}{H:Hp}{b:Addr}{o:Obj}(e:(HF h H).get? b=some o):h.get? b=some o/\H b=none:=by
 have e':h.get? b=some o:=ALj (NS h H) e;refine⟨e',?_⟩
 cases q:H b with
 |none=>rfl
 |some x =>
  have hm:b∈NS h H:=Fj.mpr ⟨CN.mpr (Heap.lt_size e'),by simp[q]⟩;have z:(HF h H).get? b=none:=PySem.W.hideAll_none (NS h H) hm;rw[z] at e;cases e
abbrev AGy(g h:Heap)(L:Addr):List (Addr×Obj):=(List.range h.objs.size).filterMap λa=>if a=L\/(g.get? a).isSome=true then none else (h.get? a).map λo=>(a,o)
abbrev rest(g h:Heap)(L d:Addr):List (Addr×Obj):=(AGy g h L).filter λp=>decide (p.1≠d)
structure Op (K:AI) (mg:AMA) (base:Heap):Prop where
 kin:K.In base
 glob:base.Ns mainGlobals mg
 blt:∃mb,base.Ns builtinsNs mb/\∀x:Str,x≠"__name__"->mb x=bootBuiltins x
 nolimit:base.NoLimit
structure Cx where
 prog:Program
 w:World
 K:AI
 mg:AMA
 base:Heap
 A:Around
 N:AMB
 s₀:Shared
 H₀:Hp
 env:Env
 outer:List Env
 stack:List Env
 ex:AMD
 fn:Str->Bool
 calm:Bool
 pn:List (Addr×Obj)
 xe:AMI
abbrev Bl(l:List Env):AMD:=l.filterMap (·.frame)
noncomputable abbrev Cx.fs(X:Cx):AMD:=Bl X.outer
abbrev IA(sc:Scope)(x:Str):Prop:=sc.names.lookup x=some .local\/sc.names.lookup x=some .cell\/sc.names.lookup x=some .free
abbrev Gs(sc:Scope)(x:Str):Prop:=sc.names.lookup x=some .local\/sc.names.lookup x=some .cell
abbrev AG5(env:Env)(h:Heap)(m:AMA)(x:Str)(u:Value):Prop :=
 (env.kindOf x=some .local/\m x=some u)\/((env.kindOf x=some .cell\/env.kindOf x=some .free)/\∃c,env.cells.lookup x=some c/\h.IsCell c (some u))
structure Cx.Ok (X:Cx):Prop where
 mod:Op X.K X.mg X.base
 kind:X.env.scope.kind=.function
 glob:X.env.globals=mainGlobals
 blt:X.env.builtins=builtinsNs
 above:X.s₀.heap.objs.size<=X.env.locals
 inj:∀x y c,X.env.cells.lookup x=some c->X.env.cells.lookup y=some c->x=y
 has:∀x,(X.env.kindOf x=some .cell\/X.env.kindOf x=some .free)->∃c,X.env.cells.lookup x=some c
 cab:∀x c,X.fn x=true->X.env.cells.lookup x=some c->X.s₀.heap.objs.size<=c
 hd:X.calm=true->X.A.handled=none
 frames:X.A.frames=some X.stack
 stk:X.stack=X.outer\/(X.stack=X.env::X.outer/\X.env.frame=some X.env.locals)
 exf:∀b∈X.ex,b≠X.env.locals/\∀x c,X.env.cells.lookup x=some c->c≠b
 bs:∀b o,X.base.get? b=some o->X.s₀.heap.get? b=some o/\X.H₀ b=none
 bsz:X.base.objs.size<=X.s₀.heap.objs.size
 noex:∀b o,X.base.get? b=some o->b∉X.ex
 exfs:∀b∈X.ex,b∉X.fs
 funs:X.s₀.heap.FunFrames X.base X.outer
 frf:∀b∈X.fs,X.H₀ b=none
structure AG (X:Cx) (pins:List (Addr×Obj)) (Y:List (Option V)) (H:Hp) (s:Shared):Prop where
 ok:X.Ok
 os:s.os=X.s₀.os
 bare:AllBare s.gens
 base:Un X.fs X.ex X.H₀ H X.s₀.heap s.heap
 loc:∃m,s.heap.Ns X.env.locals m/\∀(i:Nat) (x:Str) (v:V),X.N[i]?=some x->Y[i]?=some (some v)->IA X.env.scope x->∃u,AX v u/\AG5 X.env s.heap m x u
 cell:∀x c,X.env.cells.lookup x=some c->∃v,s.heap.IsCell c v
 free:H X.env.locals=none
 freeC:∀x c,X.env.cells.lookup x=some c->H c=none
 pin:∀p∈X.pn++pins,s.heap.get? p.1=some p.2/\H p.1=none/\p.1≠X.env.locals/\p.1∉X.fs/\∀v,p.2.data≠.cell v
 hok:By X.prog X.w H s.heap
 len:Y.length=X.N.length
section
variable {X:Cx}{pins:List (Addr×Obj)}{Y:List (Option V)}{H H':Hp}{s:Shared}{h':Heap}
def Cx.Ok.nofr(ok:X.Ok){b:Addr}{o:Obj}(e:X.base.get? b=some o):b∉X.fs:=λhb=>by
 have:=(ok.funs.mem hb).1;rw[e] at this;cases this
def AG.bs(I:AG X pins Y H s):∀b o,X.base.get? b=some o->s.heap.get? b=some o/\H b=none:=λb o e =>
 ⟨I.base.keep b o (I.ok.bs b o e).1 (I.ok.bs b o e).2 (I.ok.nofr e) (I.ok.noex b o e),I.base.free b o (I.ok.bs b o e).1 (I.ok.bs b o e).2 (I.ok.noex b o e)⟩
def AG.bk(I:AG X pins Y H s):∀b o,X.base.get? b=some o->s.heap.get? b=some o:=λb o e=>(I.bs b o e).1
def AG.mod(I:AG X pins Y H s):Op X.K X.mg X.base:=I.ok.mod
def AG.kIn(I:AG X pins Y H s):X.K.In s.heap:=I.ok.mod.kin.keeps I.bk
def AG.nolimit(I:AG X pins Y H s):s.heap.NoLimit:=I.ok.mod.nolimit.keeps I.bk
def AG.lt(I:AG X pins Y H s):X.env.locals<s.heap.objs.size:=let ⟨_,hn,_⟩:=I.loc;hn.lt
def AG.sz(I:AG X pins Y H s):X.s₀.heap.objs.size<=s.heap.objs.size:=Bu I.ok.above (Nat.le_of_lt I.lt)
def AG.nofs(I:AG X pins Y H s){a:Addr}(h:s.heap.objs.size<=a):a∉X.fs:=λhb=>by
 obtain⟨_,o,ho,_⟩:=I.ok.funs.mem hb;exact absurd (Bm (Heap.lt_size ho) (Bu I.sz h)) (Fh _)
def AG.cne(I:AG X pins Y H s):∀x c,X.env.cells.lookup x=some c->c≠X.env.locals:=λx c e z=>by
 obtain⟨v,o,ho,hd⟩:=I.cell x c e;obtain⟨m,⟨o',es,ep,ho',hd',_⟩,_⟩:=I.loc;rw[z,ho'] at ho;cases ho;rw[hd'] at hd;cases hd
def AG.funs(I:AG X pins Y H s):s.heap.FunFrames X.base X.outer:=by
 have all:∀(l:List Env),(∀b∈Bl l,b∈X.fs)->X.s₀.heap.FunFrames X.base l->s.heap.FunFrames X.base l:=by
  intro l
  induction l with
  |nil=>intro _ _;trivial
  |cons env r ih =>
   intro hs hl;obtain⟨hk,⟨L,o,hf,hn,ho,hd⟩,hr⟩:=hl;have hL:L∈X.fs:=hs L (by unfold Bl;rw[AK5,hf];exact BC);obtain⟨sl,e⟩:=I.base.slot L o ho (I.ok.frf L hL) hL λz=>I.ok.exfs L z hL;exact⟨hk,⟨L,_,hf,hn,e,hd⟩,ih (λb hb=>hs b (by unfold Bl;rw[AK5,hf];exact Az _ hb)) hr⟩
 exact all X.outer (λ_ hb=>hb) I.ok.funs
def AG.stack(I:AG X pins Y H s):s.heap.FunFrames X.base X.stack:=by
 rcases I.ok.stk with e|⟨e,hf⟩
 .rw[e];exact I.funs
 .rw[e];obtain⟨m,hn,_⟩:=I.loc;refine .cons (by rw[I.ok.kind];decide) hf hn ?_ I.funs;exact Heap.get?_none_of_le (Bu I.ok.bsz I.ok.above)
def AG.stkSub(I:AG X pins Y H s):∀b∈Bl X.stack,b∈X.env.locals::X.fs:=λb hb=>by
 rcases I.ok.stk with e|⟨e,hf⟩
 .rw[e] at hb;exact Az _ hb
 .rw[e] at hb;unfold Bl at hb;rw[AK5,hf] at hb;exact hb
def AG.stkFree(I:AG X pins Y H s):∀b∈Bl X.stack,H b=none:=λb hb=>by
 rcases AW.mp (I.stkSub b hb) with e|hb
 .rw[e];exact I.free
 .obtain⟨_,o,ho,_⟩:=I.ok.funs.mem hb;exact I.base.free b o ho (I.ok.frf b hb) λz=>I.ok.exfs b z hb
def AG.step{g':Array GenState}{t':Nat}{d':Drawn}{ch:AMD}(I:AG X pins Y H s)
  (hch:∀b∈ch,(b∈X.ex\/X.s₀.heap.objs.size<=b)/\b≠X.env.locals/\(∀x c,X.env.cells.lookup x=some c->c≠b)/\∀p∈X.pn++pins,p.1≠b)
  (keep:∀b o,b≠X.env.locals->b∉X.fs->b∉ch->s.heap.get? b=some o->H b=none->h'.get? b=some o)
  (slot:∀b o,b≠X.env.locals->b∈X.fs->b∉ch->s.heap.get? b=some o->H b=none->∃sl,h'.get? b=some {o with slots:=sl}) (free:∀b o,b∉ch->s.heap.get? b=some o->H b=none->H' b=none)
  (there:∀b o,b∉ch->s.heap.get? b=some o->∃o',h'.get? b=some o')
  (tups:∀b xs,H b=some (.tup xs)->H' b=some (.tup xs)) (frzs:∀b o u,H b=some (.frz o u)->H' b=some (.frz o u)) (tbls:∀b ps,H b=some (.tbl ps)->∃more,H' b=some (.tbl (ps++more)))
  (ns:∀m,s.heap.Ns X.env.locals m->h'.Ns X.env.locals m) (hok:By X.prog X.w H' h') (hg:AllBare g') :
  AG X pins Y H' {s with heap:=h',gens:=g',drawn:=d',toks:=t'}:=by
 have neL:∀b o,X.s₀.heap.get? b=some o->b≠X.env.locals:=λb o e=>BN (Bm (Heap.lt_size e) I.ok.above)
 have neC:∀b o,X.s₀.heap.get? b=some o->b∉X.ex->b∉ch:=λb o e hx hb=>by
  rcases(hch b hb).1 with z|z
  .exact hx z
  .exact absurd (Bm (Heap.lt_size e) z) (Fh _)
 have cellK:∀x c,X.env.cells.lookup x=some c->∀v,s.heap.IsCell c v->h'.IsCell c v:=λx c e v z4_=>by
  obtain⟨o,ho,hd⟩:=z4_;have nch:c∉ch:=λz=>(hch c z).2.2.1 x c e rfl
  by_cases hc:c∈X.fs
  .obtain⟨sl,q⟩:=slot c o (I.cne x c e) hc nch ho (I.freeC x c e);exact⟨_,q,hd⟩
  .exact⟨o,keep c o (I.cne x c e) hc nch ho (I.freeC x c e),hd⟩
 refine⟨I.ok,I.os,hg,⟨λb o e n hb hx=>?_,λb o e n hb hx=>?_,λb o e n hx=>?_,λb o e hx=>?_,λb xs e=>tups b xs (I.base.tups b xs e),λb o xs e=>frzs b o xs (I.base.frzs b o xs e),λb ps e=>?_⟩,?_,λx c e=>?_,?_,λx c e=>?_,λp hp=>?_,hok,I.len⟩
 .exact keep b o (neL b o e) hb (neC b o e hx) (I.base.keep b o e n hb hx) (I.base.free b o e n hx)
 .obtain⟨sl,e1⟩:=I.base.slot b o e n hb hx;obtain⟨sl',e2⟩:=slot b _ (neL b o e) hb (neC b o e hx) e1 (I.base.free b o e n hx);exact⟨sl',e2⟩
 .obtain⟨o',e1⟩:=I.base.there b o e hx;exact free b o' (neC b o e hx) e1 (I.base.free b o e n hx)
 .obtain⟨o',e1⟩:=I.base.there b o e hx;exact there b o' (neC b o e hx) e1
 .obtain⟨m1,e1⟩:=I.base.tbls b ps e;obtain⟨m2,e2⟩:=tbls b _ e1;exact⟨m1++m2,by rw[e2,Array.append_assoc]⟩
 .obtain⟨m,hn,hl⟩:=I.loc;refine⟨m,ns m hn,λi x v e1 e2 e3=>?_⟩;obtain⟨u,r,l⟩:=hl i x v e1 e2 e3;refine⟨u,r,?_⟩;rcases l with l|⟨k,c,e,z⟩
  .exact .inl l
  .exact .inr ⟨k,c,e,cellK x c e _ z⟩
 .obtain⟨v,z⟩:=I.cell x c e;exact⟨v,cellK x c e v z⟩
 .obtain⟨m,⟨o,_,_,ho,_⟩,_⟩:=I.loc;exact free _ o (λz=>(hch _ z).2.1 rfl) ho I.free
 .obtain⟨v,o,ho,hd⟩:=I.cell x c e;exact free c o (λz=>(hch c z).2.2.1 x c e rfl) ho (I.freeC x c e)
 .obtain⟨e,n,ne,nf,d⟩:=I.pin p hp;have nch:p.1∉ch:=λz=>(hch p.1 z).2.2.2 p hp rfl;exact⟨keep p.1 p.2 ne nf nch e n,free p.1 p.2 nch e n,ne,nf,d⟩
def AG.un{t':Nat}(I:AG X pins Y H s)(u:Un X.fs [] H H' s.heap h')(hok:By X.prog X.w H' h'):AG X pins Y H' {s with heap:=h',toks:=t'}:=by
 obtain⟨m,⟨o,es,ep,ho,r⟩,_⟩:=id I.loc;obtain⟨sl,hL⟩:=u.any ho I.free (by simp)
 exact I.step (g':=s.gens) (d':=s.drawn) (ch:=[]) (λ_ z=>nomatch z) (λb o _ hb _ e n=>u.keep b o e n hb (by simp)) (λb o _ hb _ e n=>u.slot b o e n hb (by simp)) (λb o _ e n=>u.free b o e n (by simp)) (λb o _ e=>u.there b o e (by simp)) u.tups u.frzs u.tbls (λm' hm=>by
  obtain⟨o',es',ep',ho',r'⟩:=hm;rw[ho] at ho';cases ho'
  exact⟨_,es',ep',hL,r'⟩) hok I.bare
def AG.call{g':Array GenState}{t':Nat}{d':Drawn}{ch:AMD}(I:AG X pins Y H s)(u:Un (Bl X.stack) ch H H' s.heap h')(hok:By X.prog X.w H' h')(hg:AllBare g')
  (hch:∀b∈ch,(b∈X.ex\/X.s₀.heap.objs.size<=b)/\b≠X.env.locals/\(∀x c,X.env.cells.lookup x=some c->c≠b)/\∀p∈X.pn++pins,p.1≠b) :
  AG X pins Y H' {s with heap:=h',gens:=g',drawn:=d',toks:=t'}:=by
 obtain⟨m,⟨o,es,ep,ho,r⟩,_⟩:=id I.loc;obtain⟨sl,hL⟩:=u.any ho I.free λz=>(hch _ z).2.1 rfl
 exact I.step (ch:=ch) hch (λb o hL hb hc e n=>u.keep b o e n (λz=>(AW.mp (I.stkSub b z)).elim hL hb) hc) (λb o _ _ hc e n=>u.any e n hc) (λb o hc e n=>u.free b o e n hc) (λb o hc e=>u.there b o e hc) u.tups u.frzs u.tbls (λm' hm=>by
  obtain⟨o',es',ep',ho',r'⟩:=hm;rw[ho] at ho';cases ho'
  exact⟨_,es',ep',hL,r'⟩) hok hg
def AG.turned{t':Nat}{it:Addr}(I:AG X pins Y H s)(k:∀b o,b≠it->s.heap.get? b=some o->h'.get? b=some o)(hn:H it=none)(hL:it≠X.env.locals)
  (h1:it∈X.ex\/X.s₀.heap.objs.size<=it) (h2:∀x c,X.env.cells.lookup x=some c->c≠it) (h3:∀p∈X.pn++pins,p.1≠it):AG X pins Y H {s with heap:=h',toks:=t'}:=by
 have nit:∀b u,H b=some u->b≠it:=λb u e z=>by rw[z,hn] at e;cases e
 refine I.step (g':=s.gens) (d':=s.drawn) (ch:=[it]) (λb hb=>?_) (λb o _ _ hc e _=>k b o (λz=>hc (by simp[z])) e) (λb o _ _ hc e _=>⟨o.slots,k b o (λz=>hc (by simp[z])) e⟩) (λ_ _ _ _ n=>n)
  (λb o hc e=>⟨o,k b o (λz=>hc (by simp[z])) e⟩) (λ_ _ e=>e) (λ_ _ _ e=>e) (λb ps e=>⟨#[],by rw[e];simp⟩) (λm hm=>?_) (λb u e=>?_) I.bare
 .have e:b=it:=by simpa using hb
  subst e;exact⟨h1,hL,h2,h3⟩
 .obtain⟨o,es,ep,ho,r⟩:=hm;exact⟨o,es,ep,k _ o (Ne.symm hL) ho,r⟩
 .refine(I.hok b u e).stay (λc v hc q=>k c v ?_ q) (λ_ q=>q) λ_ _ q=>q;rcases hc with z|z
  .rw[z];exact nit b u e
  .exact nit c _ z
def AG.tok(I:AG X pins Y H s)(t:Nat):AG X pins Y H {s with toks:=t}:=I.un (h':=s.heap) (t':=t) Un.refl I.hok
def AG.kept{t':Nat}(I:AG X pins Y H s)(k:∀b u,s.heap.get? b=some u->h'.get? b=some u):AG X pins Y H {s with heap:=h',toks:=t'}:=I.un (Un.kept k) (I.hok.kept k)
def AG.laid{a:Addr}{o:HO}{t':Nat}(I:AG X pins Y H s)(k:∀b u,s.heap.get? b=some u->h'.get? b=some u)(hp:s.heap.objs.size<=a)(new:Bx X.prog X.w (upd H a o) h' a o) :
  AG X pins Y (upd H a o) {s with heap:=h',toks:=t'}:=I.un (Un.laid k hp (I.hok.fresh hp)) (I.hok.laid k hp new)
def AG.write{x e:Addr}{o:HO}{t':Nat}(I:AG X pins Y H s)(mu:Lo (H x))(he:e=x\/H e=some (.own x))(k:∀b u,b≠e->s.heap.get? b=some u->h'.get? b=some u)(heo:∃u,h'.get? e=some u)
  (new:Bx X.prog X.w (upd H x o) h' x o):AG X pins Y (upd H x o) {s with heap:=h',toks:=t'}:=I.un (Un.write mu he k heo) (I.hok.write mu he k heo new)
def AG.pins_of{pins':List (Addr×Obj)}(I:AG X pins Y H s)(h:∀p∈pins',s.heap.get? p.1=some p.2/\H p.1=none/\p.1≠X.env.locals/\p.1∉X.fs/\∀v,p.2.data≠.cell v):AG X pins' Y H s :=
 ⟨I.ok,I.os,I.bare,I.base,I.loc,I.cell,I.free,I.freeC,λp hp=>(CF.mp hp).elim (λz=>I.pin p (ALk _ z)) (h p),I.hok,I.len⟩
def Rj{N:AMB}(hN:N.Nodup){i j:Nat}{x:Str}(a:N[i]?=some x)(b:N[j]?=some x):i=j:=by obtain⟨h1,e1⟩:=BA.mp a;obtain⟨h2,e2⟩:=BA.mp b;exact(List.getElem_inj hN).mp (e1.trans e2.symm)
def VM{M:Model}{A:Around}{E:AMI}{i:Nat}{x:Str}{v:V}{u:Value}{Q:Unit->Shared->Prop}(I:AG X pins Y H s)(hN:X.N.Nodup)(hi:X.N[i]?=some x)(hx:Gs X.env.scope x)(r:AX v u)
  (h:∀s',AG X pins (Y.set i (some v)) H s'->(∃a,Heap.SameBut a s.heap s'.heap/\(a=X.env.locals\/X.env.cells.lookup x=some a))->Q () s') (hf:X.fn x=true\/X.env.scope.names.lookup x=some .local):wpAny M A (storeName X.env x u) Q E s:=by
 obtain⟨m,hn,hl⟩:=id I.loc;have hcls:(X.env.scope.kind == .class || (X.env.scope.kind == .module&&X.env.locals != X.env.globals))=false:=by rw[I.ok.kind];rfl
 have hiY:i<Y.length:=by rw[I.len];exact(BA.mp hi).1
 have cne:=I.cne
 have tracked:∀{a:Addr} {h':Heap},(∃o,s.heap.get? a=some o/\H a=none)->Heap.SameBut a s.heap h'->By X.prog X.w H h':=λ{a h'} ha hs b ob e=>by
  obtain⟨_,_,hfree⟩:=ha;refine(I.hok b ob e).stay (λc w' hc q=>(hs.2 c ?_).trans q) (λ_ q=>q) λ_ _ q=>q;rintro rfl;rcases hc with rfl|hc
  .rw[hfree] at e;cases e
  .rw[hfree] at hc;cases hc
 rcases hx with hk|hk
 .refine wpAny_storeName_local hk hn (λh' hn' hs=>?_) hcls;obtain⟨oL,_,_,hoL,_⟩:=id hn;refine h _ ⟨I.ok,I.os,I.bare,⟨λb o e n hb hx=>?_,λb o e n hb hx=>?_,I.base.free,λb o e hx=>?_,I.base.tups,I.base.frzs,I.base.tbls⟩,⟨_,hn',λj y v' e1 e2 e3=>?_⟩,λy c e=>?_,I.free,I.freeC,λp hp=>?_,tracked ⟨oL,hoL,I.free⟩ hs,by simpa using I.len⟩ ⟨_,hs,.inl rfl⟩
  .exact(hs.2 b (BN (Bm (Heap.lt_size e) I.ok.above))).trans (I.base.keep b o e n hb hx)
  .obtain⟨sl,e1⟩:=I.base.slot b o e n hb hx;exact⟨sl,(hs.2 b (BN (Bm (Heap.lt_size e) I.ok.above))).trans e1⟩
  .obtain⟨o',e1⟩:=I.base.there b o e hx;exact⟨o',(hs.2 b (BN (Bm (Heap.lt_size e) I.ok.above))).trans e1⟩
  .by_cases hj:j=i
   .subst hj;rw[hi] at e1;cases e1;rw[AKY hiY] at e2;cases e2;exact⟨u,r,.inl ⟨hk,by simp⟩⟩
   .rw[DA (Ne.symm hj)] at e2;obtain⟨u',r',q⟩:=hl j y v' e1 e2 e3;refine⟨u',r',?_⟩;rcases q with⟨k,e⟩|⟨k,c,e,z⟩
    .refine .inl ⟨k,?_⟩;have:y≠x:=λe=>hj (Rj hN e1 (e▸hi));simp[this,e]
    .exact .inr ⟨k,c,e,z.sameBut hs (cne y c e)⟩
  .obtain⟨w',z⟩:=I.cell y c e;exact⟨w',z.sameBut hs (cne y c e)⟩
  .obtain⟨e,n,ne,nf,d⟩:=I.pin p hp;exact⟨(hs.2 p.1 ne).trans e,n,ne,nf,d⟩
 .have hfn:X.fn x=true:=by
   rcases hf with z|z
   .exact z
   .rw[z] at hk;cases hk
  obtain⟨c,hc⟩:=I.ok.has x (.inl hk);obtain⟨w',z⟩:=I.cell x c hc;refine wpAny_storeName_cell I.ok.kind hk hc z (λh' hc' hs=>?_);obtain⟨oc,hoc,hocd⟩:=id z;refine h {s with heap:=h'} ⟨I.ok,I.os,I.bare,⟨λb o e n hb hx=>?_,λb o e n hb hx=>?_,I.base.free,λb o e hx=>?_,I.base.tups,I.base.frzs,I.base.tbls⟩,⟨m,hn.sameBut hs (Ne.symm (cne x c hc)),λj y v' e1 e2 e3=>?_⟩,λy c' e=>?_,I.free,I.freeC,λp hp=>?_,tracked ⟨oc,hoc,I.freeC x c hc⟩ hs,by simpa using I.len⟩ ⟨c,hs,.inr hc⟩
  .exact(hs.2 b (BN (Bm (Heap.lt_size e) (I.ok.cab x c hfn hc)))).trans (I.base.keep b o e n hb hx)
  .obtain⟨sl,e1⟩:=I.base.slot b o e n hb hx;exact⟨sl,(hs.2 b (BN (Bm (Heap.lt_size e) (I.ok.cab x c hfn hc)))).trans e1⟩
  .obtain⟨o',e1⟩:=I.base.there b o e hx;exact⟨o',(hs.2 b (BN (Bm (Heap.lt_size e) (I.ok.cab x c hfn hc)))).trans e1⟩
  .by_cases hj:j=i
   .subst hj;rw[hi] at e1;cases e1;rw[AKY hiY] at e2;cases e2;exact⟨u,r,.inr ⟨.inl hk,c,hc,hc'⟩⟩
   .rw[DA (Ne.symm hj)] at e2;obtain⟨u',r',q⟩:=hl j y v' e1 e2 e3;refine⟨u',r',?_⟩;rcases q with q|⟨k,c',e,z'⟩
    .exact .inl q
    .refine .inr ⟨k,c',e,z'.sameBut hs ?_⟩;rintro rfl;exact hj (Rj hN e1 (I.ok.inj _ _ _ e hc▸hi))
  .by_cases hcc:c'=c
   .subst hcc;exact⟨_,hc'⟩
   .obtain⟨w2,z2⟩:=I.cell y c' e;exact⟨w2,z2.sameBut hs hcc⟩
  .obtain⟨e,n,ne,nf,d⟩:=I.pin p hp;refine⟨(hs.2 p.1 ?_).trans e,n,ne,nf,d⟩;intro q;rw[q,hoc] at e;have q':oc=p.2:=Option.some.inj e;exact d w' (by rw[<-q'];exact hocd)
def Na{M:Model}{A:Around}{E:AMI}{i:Nat}{x:Str}{v:V}{u:Value}{Q:Unit->Shared->Prop}(I:AG X pins Y H s)(hN:X.N.Nodup)(hi:X.N[i]?=some x)(hx:Gs X.env.scope x)(r:AX v u)
  (h:∀s',AG X pins (Y.set i (some v)) H s'->Q () s') (hf:X.fn x=true\/X.env.scope.names.lookup x=some .local):wpAny M A (storeName X.env x u) Q E s :=
 VM I hN hi hx r (λs' I' _=>h s' I') hf
def AG.call'{s':Shared}{ch:AMD}(I:AG X pins Y H s)(ho:s'.os=s.os)(u:Un (Bl X.stack) ch H H' s.heap s'.heap)(hok:By X.prog X.w H' s'.heap)(hg:AllBare s'.gens)
  (hch:∀b∈ch,(b∈X.ex\/X.s₀.heap.objs.size<=b)/\b≠X.env.locals/\(∀x c,X.env.cells.lookup x=some c->c≠b)/\∀p∈X.pn++pins,p.1≠b):AG X pins Y H' s':=by
 obtain⟨h',g',d',t',o'⟩:=s';have e:o'=s.os:=ho;subst e;exact I.call (g':=g') (t':=t') (d':=d') u hok hg hch
end
noncomputable abbrev XK:=Value->Option Addr->Hp->Prop
noncomputable abbrev St:=List (Option V)
noncomputable abbrev VK:=V->Hp->Prop
noncomputable abbrev TE:=St->Hp->VK->Prop
noncomputable abbrev TT:=St->Hp->(Bool->Hp->Prop)->Prop
noncomputable abbrev TA:=St->Hp->(List V->Hp->Prop)->Prop
structure IH where
 nx:St->Hp->Prop
 rt:VK
 bk:St->Hp->Prop:=λ_ _=>False
 ct:St->Hp->Prop:=λ_ _=>False
noncomputable abbrev TS:=IH->St->Hp->Prop
abbrev EP(X:Cx)(pins:List (Addr×Obj))(Y:St)(Q:VK)(u:Value)(s':Shared):Prop:=∃v H',AG X pins Y H' s'/\AX v u/\Q v H'
abbrev TP(X:Cx)(pins:List (Addr×Obj))(Y:St)(Q:Bool->Hp->Prop)(b:Bool)(s':Shared):Prop:=∃H',AG X pins Y H' s'/\Q b H'
abbrev AP(X:Cx)(pins:List (Addr×Obj))(Y:St)(Q:List V->Hp->Prop)(us:AMC)(s':Shared):Prop:=∃vs H',AG X pins Y H' s'/\AV vs us/\Q vs H'
abbrev SP(X:Cx)(pins:List (Addr×Obj))(D:IH)(f:Flow)(s':Shared):Prop :=
 match f with
 |.next=>∃Y' H',AG X pins Y' H' s'/\D.nx Y' H'
 |.brk=>∃Y' H',AG X pins Y' H' s'/\D.bk Y' H'
 |.cont=>∃Y' H',AG X pins Y' H' s'/\D.ct Y' H'
 |.ret u=>∃v Y' H',AG X pins Y' H' s'/\AX v u/\D.rt v H'
abbrev PE(X:Cx)(e:Expr)(t:TE):Prop :=
 ∀(pins:List (Addr×Obj)) (s:Shared) (Y:St) (H:Hp) (Q:VK),AG X pins Y H s->t Y H Q->wpAny (model X.prog X.w) X.A (eval e X.env) (EP X pins Y Q) X.xe s
abbrev PT(X:Cx)(e:Expr)(t:TT):Prop :=
 ∀(pins:List (Addr×Obj)) (s:Shared) (Y:St) (H:Hp) (Q:Bool->Hp->Prop),AG X pins Y H s->t Y H Q->wpAny (model X.prog X.w) X.A (isTrue e X.env (eval e X.env)) (TP X pins Y Q) X.xe s
abbrev PW(X:Cx)(e:Expr)(t:TT):Prop :=
 ∀(whole:Sem Value) (pins:List (Addr×Obj)) (s:Shared) (Y:St) (H:Hp) (Q:Bool->Hp->Prop),AG X pins Y H s->t Y H Q->wpAny (model X.prog X.w) X.A (isTrue e X.env whole) (TP X pins Y Q) X.xe s
def PW.pt{X:Cx}{e:Expr}{t:TT}(h:PW X e t):PT X e t:=h _
abbrev PA(X:Cx)(es:AME)(t:TA):Prop :=
 ∀(pos:Pos) (pins:List (Addr×Obj)) (s:Shared) (Y:St) (H:Hp) (Q:List V->Hp->Prop),AG X pins Y H s->t Y H Q->wpAny (model X.prog X.w) X.A (spliced (backTo pos (starEach es X.env))) (AP X pins Y Q) X.xe s
abbrev PS(X:Cx)(st:Stmt)(t:TS):Prop :=
 ∀(pins:List (Addr×Obj)) (s:Shared) (Y:St) (H:Hp) (D:IH),AG X pins Y H s->t D Y H->wpAny (model X.prog X.w) X.A (exec st X.env) (SP X pins D) X.xe s
abbrev Ct(X:Cx)(st:AMF)(t:TS):Prop :=
 ∀(pins:List (Addr×Obj)) (s:Shared) (Y:St) (H:Hp) (D:IH),AG X pins Y H s->t D Y H->wpAny (model X.prog X.w) X.A (execs st X.env) (SP X pins D) X.xe s
def Ae{α:Type}{t:Sem α}{Q Q':α->Shared->Prop}{M:Model}{A:Around}{E:AMI}{s:Shared}(h:wpAny M A t Q E s)(hQ:∀a s,Q a s->Q' a s):wpAny M A t Q' E s:=Dc h hQ λ_ _ x=>x
section
variable {X:Cx}
abbrev RL(i:Nat):TE:=λY H Q=>∃v,Y[i]?=some (some v)/\Q v H
abbrev tC(v:V):TE:=λ_ H Q=>Q v H
def Rb{i:Nat}{x:Str}{pos:Pos}(hN:X.N[i]?=some x)(hv:IA X.env.scope x)(hd:(x == ("__debug__":Str))=false)(hcd:(x == ("__classdict__":Str))=false):PE X (.Name x pos) (RL i):=by
 intro pins s Y H Q I h;obtain⟨v,e,h⟩:=h;obtain⟨m,hn,hl⟩:=I.loc;obtain⟨u,r,l⟩:=hl i x v hN e hv;have fin:EP X pins Y Q u s:=⟨v,H,I,r,h⟩;rcases l with⟨hk,hm⟩|⟨hk,c,hc,hcell⟩
 .exact wpAny_Name (wpAny_loadName_local I.ok.kind hk hn hm fin) hd
 .rcases hk with hk|hk
  .exact wpAny_Name (wpAny_loadName_cell I.ok.kind hk hc hcell fin) hd
  .exact wpAny_Name (wpAny_loadName_free I.ok.kind hk hc hcell fin hcd) hd
def ADA{i j pos}:PE X (.Constant (.int i) j pos) (tC (.int i)):=λ_ _ _ H _ I h=>wpAny_Constant_int ⟨.int i,H,I.tok _,⟨_,rfl⟩,h⟩
def ADL{b j pos}:PE X (.Constant (.bool b) j pos) (tC (.bl b)):=λ_ _ _ H _ I h=>Constant_bool ⟨.bl b,H,I,rfl,h⟩
def AC6{j pos}:PE X (.Constant .none j pos) (tC .non):=λ_ _ _ H _ I h=>Constant_none ⟨.non,H,I,rfl,h⟩
def AC0{x j pos}:PE X (.Constant (.str x) j pos) (tC (.str x)):=λ_ _ _ H _ I h=>Calls.Constant_str ⟨.str x,H,I.tok _,⟨_,rfl⟩,h⟩
abbrev Gl(X:Cx)(x:Str):Prop:=X.env.kindOf x=some .globalImplicit
def Ge{E:AMI}{pins:List (Addr×Obj)}{s:Shared}{Y:St}{H:Hp}{x:Str}{u:Value}{pos:Pos}{Q:AMI}(I:AG X pins Y H s)(hg:Gl X x)(hm:X.mg x=some u)(h:Q u s)
  (hd:(x == ("__debug__":Str))=false:=by decide):wpAny (model X.prog X.w) X.A (eval (.Name x pos) X.env) Q E s :=
 Calls.Name_function_global I.ok.kind hg (Calls.loadGlobal_global (by rw[I.ok.glob];exact I.mod.glob.keeps I.bk) hm h) hd
def HD{E:AMI}{pins:List (Addr×Obj)}{s:Shared}{Y:St}{H:Hp}{x:Str}{u:Value}{pos:Pos}{Q:AMI}(I:AG X pins Y H s)(hg:Gl X x)(hm:X.mg x=none)(hv:bootBuiltins x=some u)(h:Q u s)
  (hn:x≠"__name__":=by decide) (hd:(x == ("__debug__":Str))=false:=by decide):wpAny (model X.prog X.w) X.A (eval (.Name x pos) X.env) Q E s:=by
 obtain⟨mb,h1,h2⟩:=I.mod.blt;exact Calls.Name_function_global I.ok.kind hg (Calls.loadGlobal_builtin (by rw[I.ok.glob];exact I.mod.glob.keeps I.bk) hm (by rw[I.ok.blt];exact h1.keeps I.bk) ((h2 x hn).trans hv) h) hd
def ADD{x:Str}{v:V}{u:Value}{pos:Pos}(hg:Gl X x)(hm:X.mg x=some u)(r:AX v u)(hd:(x == ("__debug__":Str))=false:=by decide):PE X (.Name x pos) (tC v) :=
 λ_ _ _ H _ I h=>Ge I hg hm ⟨v,H,I,r,h⟩ hd
def ADK{x:Str}{v:V}{u:Value}{pos:Pos}(hg:Gl X x)(hm:X.mg x=none)(hv:bootBuiltins x=some u)(r:AX v u)(hn:x≠"__name__":=by decide)(hd:(x == ("__debug__":Str))=false:=by decide):PE X (.Name x pos) (tC v) :=
 λ_ _ _ H _ I h=>HD I hg hm hv ⟨v,H,I,r,h⟩ hn hd
variable {a b:Expr}{ta tb:TE}{pos:Pos}
abbrev tB(t:TE):TT:=λY H Q=>t Y H λx H1=>∃c,x=.bl c/\Q c H1
def ACV{e:Expr}{t:TE}(h:PE X e t)(he:∀whole,isTrue e X.env whole=(do let v <-whole;standAt e.pos;holding [v] (truthy v))):PT X e (tB t):=by intro pins s Y H Q I hw;refine isTrue_plain (Ae (h pins s Y H _ I hw) λv s1 z2_=>?_) (he _);obtain⟨x,H1,I1,r1,q1⟩:=z2_;obtain⟨d,rfl,q⟩:=q1;cases r1;exact ALy ⟨H1,I1,q⟩
variable {tA tB':TT}{rest:AME}
abbrev ABT(t u:TT):TT:=λY H Q=>t Y H λc H1=>if c=true then u Y H1 Q else Q false H1
abbrev tOr(t u:TT):TT:=λY H Q=>t Y H λc H1=>if c=true then Q true H1 else u Y H1 Q
abbrev ABE(t:TT):TT:=λY H Q=>t Y H λc H1=>Q (!c) H1
def ACN(ha:PT X a tA):PW X (.BoolOp .And [a] pos) tA:=by
 intro wh pins s Y H Q I h;refine isTrue_and (Ae (ha pins s Y H Q I h) λc s1 e=>?_)
 cases c with
 |true=>exact isTrue_and_nil e
 |false=>exact e
def ACL(ha:PT X a tA):PW X (.BoolOp .Or [a] pos) tA:=by
 intro wh pins s Y H Q I h;refine isTrue_or (Ae (ha pins s Y H Q I h) λc s1 e=>?_)
 cases c with
 |false=>exact isTrue_or_nil e
 |true=>exact e
def ACO(ha:PT X a tA)(hb:PW X (.BoolOp .And (b::rest) pos) tB'):PW X (.BoolOp .And (a::b::rest) pos) (ABT tA tB'):=by
 intro wh pins s Y H Q I h;refine isTrue_and (Ae (ha pins s Y H _ I h) λc s1 z2_=>?_);obtain⟨H1,I1,q1⟩:=z2_
 cases c with
 |true=>exact hb wh pins s1 Y H1 Q I1 q1
 |false=>exact⟨H1,I1,q1⟩
def ACM(ha:PT X a tA)(hb:PW X (.BoolOp .Or (b::rest) pos) tB'):PW X (.BoolOp .Or (a::b::rest) pos) (tOr tA tB'):=by
 intro wh pins s Y H Q I h;refine isTrue_or (Ae (ha pins s Y H _ I h) λc s1 z2_=>?_);obtain⟨H1,I1,q1⟩:=z2_
 cases c with
 |true=>exact⟨H1,I1,q1⟩
 |false=>exact hb wh pins s1 Y H1 Q I1 q1
def ACW(ha:PT X a tA):PT X (.UnaryOp .Not a pos) (ABE tA):=by intro pins s Y H Q I h;exact isTrue_not (ha pins s Y H (λc H1=>Q (!c) H1) I h)
abbrev ABS(ta tb:TE):TE:=λY H Q=>ta Y H λx H1=>∃c,x=.bl c/\if c=true then tb Y H1 Q else Q (.bl false) H1
abbrev ABB(ta tb:TE):TE:=λY H Q=>ta Y H λx H1=>∃c,x=.bl c/\if c=true then Q (.bl true) H1 else tb Y H1 Q
abbrev ABD(ta:TE):TE:=λY H Q=>ta Y H λx H1=>∃c,x=.bl c/\Q (.bl (!c)) H1
def AC4{op}{t:TE}(h:PE X a t):PE X (.BoolOp op [a] pos) t:=λpins s Y H Q I hw=>BoolOp_one (h pins s Y H Q I hw)
def ADM(ha:PE X a ta)(hb:PE X (.BoolOp .And (b::rest) pos) tb):PE X (.BoolOp .And (a::b::rest) pos) (ABS ta tb):=by
 intro pins s Y H Q I h;refine BoolOp_and (Ae (ha pins s Y H _ I h) λv s1 z2_=>?_);obtain⟨x,H1,I1,r1,q1⟩:=z2_;obtain⟨c,rfl,q1⟩:=q1;cases r1;refine ALy ?_
 cases c with
 |true=>exact hb pins s1 Y H1 Q I1 q1
 |false=>exact⟨.bl false,H1,I1,rfl,q1⟩
def AC2(ha:PE X a ta)(hb:PE X (.BoolOp .Or (b::rest) pos) tb):PE X (.BoolOp .Or (a::b::rest) pos) (ABB ta tb):=by
 intro pins s Y H Q I h;refine BoolOp_or (Ae (ha pins s Y H _ I h) λv s1 z2_=>?_);obtain⟨x,H1,I1,r1,q1⟩:=z2_;obtain⟨c,rfl,q1⟩:=q1;cases r1;refine ALy ?_
 cases c with
 |false=>exact hb pins s1 Y H1 Q I1 q1
 |true=>exact⟨.bl true,H1,I1,rfl,q1⟩
def AC5(ha:PE X a ta):PE X (.UnaryOp .Not a pos) (ABD ta):=by intro pins s Y H Q I h;refine UnaryOp_ (Ae (ha pins s Y H _ I h) λv s1 z2_=>?_);obtain⟨x,H1,I1,r1,q1⟩:=z2_;obtain⟨c,rfl,q1⟩:=q1;cases r1;exact not_of (ALy ⟨.bl (!c),H1,I1,rfl,q1⟩)
abbrev tIf(t:TT)(ta tb:TE):TE:=λY H Q=>t Y H λc H1=>if c=true then ta Y H1 Q else tb Y H1 Q
def ADB{c:Expr}(hc:PT X c tA)(ha:PE X a ta)(hb:PE X b tb):PE X (.IfExp c a b pos) (tIf tA ta tb):=by
 intro pins s Y H Q I h;refine wpAny_IfExp (Ae (hc pins s Y H _ I h) λd s1 z2_=>?_);obtain⟨H1,I1,q1⟩:=z2_
 cases d with
 |true=>exact ha pins s1 Y H1 Q I1 q1
 |false=>exact hb pins s1 Y H1 Q I1 q1
end
abbrev BI(K:AI)(H:Hp)(a:Addr)(xs:List V):Prop :=
 Rd H a (.lst xs) \/
  ∃(o:Obj) (its:Array Value) (n:Nat),K.lookup a=some o/\o.cls=.type "list"/\o.dict=none/\o.data=.seq its n/\its.size<=sizeLine/\AV xs its.toList
abbrev BW(K:AI)(H:Hp)(a:Addr)(xs:List V):Prop :=
 Rd H a (.tup xs) \/
  ∃(o:Obj) (its:Array Value) (n:Nat),K.lookup a=some o/\o.cls=.type "tuple"/\o.data=.seq its n/\its.size<=sizeLine/\AV xs its.toList
abbrev AG1:Value->Option V
 |.none=>some .non
 |.bool b=>some (.bl b)
 |.int i _=>some (.int i)
 |.str x _=>some (.str x)
 |.bytes b _=>some (.byt b)
 |.float b _=>some (.flt b)
 |.ref a=>some (.ref a)
 |.type n=>some (.ty n)
 |_=>none
def AX.abs{x:V}{u:Value}(r:AX x u):AG1 u=some x:=by
 cases x with
 |non=>cases r;rfl
 |bl _=>cases r;rfl
 |int _=>obtain⟨t,rfl⟩:=r;rfl
 |str _=>obtain⟨t,rfl⟩:=r;rfl
 |byt _=>obtain⟨t,rfl⟩:=r;rfl
 |flt _=>obtain⟨t,rfl⟩:=r;rfl
 |ref _=>cases r;rfl
 |ty _=>cases r;rfl
def AX.inj{x y:V}{u:Value}(r:AX x u)(q:AX y u):x=y:=Option.some.inj (r.abs.symm.trans q.abs)
def AV.inj:∀{xs ys:List V} {us:AMC},AV xs us->AV ys us->xs=ys
 |_,_,_,.nil,.nil=>rfl
 |_,_,_,.cons r t,.cons r' t'=>by rw[r.inj r',AV.inj t t']
section
variable {X:Cx}{pins:List (Addr×Obj)}{Y:St}{H:Hp}{s:Shared}{a:Addr}{xs ys:List V}
def BI.of{K:AI}(h:H a=some (.lst xs)):BI K H a xs:=.inl (.inl h)
def BW.of{K:AI}(h:H a=some (.tup xs)):BW K H a xs:=.inl (.inl h)
def AG.list(I:AG X pins Y H s)(h:BI X.K H a xs):∃its:AMC,AV xs its/\PlainL s.heap a its.toArray/\xs.length<=sizeLine:=by
 rcases h with h|⟨o,its,n,hk,hc,hd,hs,hz,r⟩
 .obtain⟨z,its,n,r,e⟩:=h.ok I.hok;exact⟨its,r,⟨_,n,e,rfl,rfl,rfl⟩,z⟩
 .refine⟨its.toList,r,⟨o,n,I.kIn a o hk,hc,hd,by simpa using hs⟩,?_⟩;have e:=r.length;simp only[ALS] at e;omega
def AG.tuple(I:AG X pins Y H s)(h:BW X.K H a xs):∃its:AMC,AV xs its/\IsTup s.heap a its.toArray/\xs.length<=sizeLine:=by
 rcases h with h|⟨o,its,n,hk,hc,hs,hz,r⟩
 .obtain⟨z,its,r,p⟩:=h.ok I.hok;exact⟨its,r,p,z⟩
 .refine⟨its.toList,r,⟨o,I.kIn a o hk,hc,n,by simpa using hs⟩,?_⟩;have e:=r.length;simp only[ALS] at e;omega
def AG.list_inj(I:AG X pins Y H s)(h:BI X.K H a xs)(h':BI X.K H a ys):xs=ys:=by
 obtain⟨its,r,⟨o,n,e,_,_,d⟩,_⟩:=I.list h;obtain⟨its',r',⟨o',n',e',_,_,d'⟩,_⟩:=I.list h';rw[e] at e';cases e';rw[d] at d'
 injection d' with d1 _
 have:its=its':=by simpa using congrArg Array.toList d1
 subst this;exact r.inj r'
def AG.tuple_inj(I:AG X pins Y H s)(h:BW X.K H a xs)(h':BW X.K H a ys):xs=ys:=by
 obtain⟨its,r,⟨o,e,_,n,d⟩,_⟩:=I.tuple h;obtain⟨its',r',⟨o',e',_,n',d'⟩,_⟩:=I.tuple h';rw[e] at e';cases e';rw[d] at d'
 injection d' with d1 _
 have:its=its':=by simpa using congrArg Array.toList d1
 subst this;exact r.inj r'
end
noncomputable abbrev Cx.wish(X:Cx)(E:AMI):Cx:={X with xe:=E}
noncomputable abbrev Cx.nox(X:Cx):Cx:=X.wish λ_ _=>False
def Cx.Ok.wish{X:Cx}(ok:X.Ok)(E:AMI):(X.wish E).Ok :=
 ⟨ok.mod,ok.kind,ok.glob,ok.blt,ok.above,ok.inj,ok.has,ok.cab,ok.hd,ok.frames,ok.stk,ok.exf,ok.bs,ok.bsz,ok.noex,ok.exfs,ok.funs,ok.frf⟩
def Cx.Ok.unwish{X:Cx}{E:AMI}(ok:(X.wish E).Ok):X.Ok :=
 ⟨ok.mod,ok.kind,ok.glob,ok.blt,ok.above,ok.inj,ok.has,ok.cab,ok.hd,ok.frames,ok.stk,ok.exf,ok.bs,ok.bsz,ok.noex,ok.exfs,ok.funs,ok.frf⟩
section
variable {X:Cx}{pins:List (Addr×Obj)}{Y:St}{H:Hp}{s:Shared}{E:AMI}
def AG.wish(I:AG X pins Y H s)(E:AMI):AG (X.wish E) pins Y H s:=⟨I.ok.wish E,I.os,I.bare,I.base,I.loc,I.cell,I.free,I.freeC,I.pin,I.hok,I.len⟩
def AG.unwish(I:AG (X.wish E) pins Y H s):AG X pins Y H s:=⟨I.ok.unwish,I.os,I.bare,I.base,I.loc,I.cell,I.free,I.freeC,I.pin,I.hok,I.len⟩
def SP.unwish{D:IH}{f:Flow}{s':Shared}(h:SP (X.wish E) pins D f s'):SP X pins D f s':=by
 cases f with
 |next=>obtain⟨Y',H',I,q⟩:=h;exact⟨Y',H',I.unwish,q⟩
 |brk=>obtain⟨Y',H',I,q⟩:=h;exact⟨Y',H',I.unwish,q⟩
 |cont=>obtain⟨Y',H',I,q⟩:=h;exact⟨Y',H',I.unwish,q⟩
 |ret u=>obtain⟨v,Y',H',I,r,q⟩:=h;exact⟨v,Y',H',I.unwish,r,q⟩
def PE.nox{e:Expr}{t:TE}(h:PE X.nox e t):PE X e t:=λpins s Y H Q I hw =>
 Dc (h pins s Y H Q (I.wish _) hw) (λ_ _ z2_=>(by obtain⟨v,H',I',r,q⟩:=z2_;exact⟨v,H',I'.unwish,r,q⟩)) λ_ _ z=>False.elim z
def PT.nox{e:Expr}{t:TT}(h:PT X.nox e t):PT X e t:=λpins s Y H Q I hw =>
 Dc (h pins s Y H Q (I.wish _) hw) (λ_ _ z2_=>(by obtain⟨H',I',q⟩:=z2_;exact⟨H',I'.unwish,q⟩)) λ_ _ z=>False.elim z
def Ct.nox{st:AMF}{t:TS}(h:Ct X.nox st t):Ct X st t:=λpins s Y H D I hw =>
 Dc (h pins s Y H D (I.wish _) hw) (λ_ _ q=>q.unwish) λ_ _ z=>False.elim z
end
section
variable {X:Cx}{st:Stmt}{rest:AMF}{t u:TS}{e:Expr}{te:TE}{pos:Pos}
abbrev ABG:TS:=λD Y H=>D.nx Y H
abbrev AA8(t u:TS):TS:=λD Y H=>t {D with nx:=u D} Y H
def Vt:Ct X [] ABG:=λ_ _ Y H _ I h=>ALz ⟨Y,H,I,h⟩
def Vu(h1:PS X st t)(h2:Ct X rest u):Ct X (st::rest) (AA8 t u):=by
 intro pins s Y H D I h;refine wpAny_execs_cons (Ae (h1 pins s Y H {D with nx:=u D} I h) λf s1 q=>?_)
 cases f with
 |next =>
  obtain⟨Y',H',I',q⟩:=q;exact h2 pins s1 Y' H' D I' q
 |ret v=>exact q
 |brk=>exact q
 |cont=>exact q
def Vs(h1:PS X st t):Ct X [st] t:=by
 intro pins s Y H D I h;refine wpAny_execs_cons (Ae (h1 pins s Y H D I h) λf s1 q=>?_)
 cases f with
 |next=>exact ALz q
 |ret v=>exact q
 |brk=>exact q
 |cont=>exact q
def AG.quiet{pins:List (Addr×Obj)}{Y:St}{H:Hp}{s:Shared}(I:AG X pins Y H s):interactive X.env=false:=by simp[interactive,I.ok.kind]
abbrev ABN(te:TE):TS:=λD Y H=>te Y H λ_ H1=>D.nx Y H1
def ACe(he:PE X e te)(hs:swapsWith e none pos.line X.env=pure false):PS X (.Expr e pos) (ABN te):=by intro pins s Y H D I h;exact wpAny_Expr_any (Ae (he pins s Y H _ I h) λv s1 z2_=>(by obtain⟨x,H1,I1,r1,q1⟩:=z2_;exact⟨Y,H1,I1,q1⟩)) I.quiet hs
abbrev AA9(te:TE):TS:=λD Y H=>te Y H D.rt
def Vv(he:PE X e te):PS X (.Return (some e) pos) (AA9 te):=by intro pins s Y H D I h;exact wpAny_Return_some (Ae (he pins s Y H _ I h) λv s1 z2_=>(by obtain⟨x,H1,I1,r1,q1⟩:=z2_;exact⟨x,Y,H1,I1,r1,q1⟩))
abbrev ABJ(c:TT)(t u:TS):TS:=λD Y H=>c Y H λb H1=>if b=true then t D Y H1 else u D Y H1
def Vw{c:Expr}{a b:AMF}{tc:TT}(hc:PT X c tc)(ha:Ct X a t)(hb:Ct X b u):PS X (.If c a b pos) (ABJ tc t u):=by
 intro pins s Y H D I h;refine wpAny_If (Ae (hc pins s Y H _ I h) λd s1 z2_=>?_);obtain⟨H1,I1,q1⟩:=z2_
 cases d with
 |true=>exact ha pins s1 Y H1 D I1 q1
 |false=>exact hb pins s1 Y H1 D I1 q1
abbrev ABH:TS:=λ_ _ _=>False
def ACa:PS X st ABH:=λ_ _ _ _ _ _ h=>h.elim
end
noncomputable abbrev TG:=V->St->Hp->(St->Hp->Prop)->Prop
noncomputable abbrev GN:=List V->St->Hp->(St->Hp->Prop)->Prop
abbrev PG(X:Cx)(target:Expr)(t:TG):Prop :=
 ∀(pins:List (Addr×Obj)) (s:Shared) (Y:St) (H:Hp) (v:V) (u:Value) (Q:St->Hp->Prop),AG X pins Y H s->AX v u->t v Y H Q ->
  wpAny (model X.prog X.w) X.A (assign target X.env u) (λ_ s'=>∃Y' H',AG X pins Y' H' s'/\Q Y' H') X.xe s
abbrev GP(X:Cx)(ts:AME)(t:GN):Prop :=
 ∀(pins:List (Addr×Obj)) (s:Shared) (Y:St) (H:Hp) (vs:List V) (us:AMC) (Q:St->Hp->Prop),AG X pins Y H s->AV vs us->t vs Y H Q ->
  wpAny (model X.prog X.w) X.A (assignInOrder ((assignEach ts X.env).map (·.2)) us) (λ_ s'=>∃Y' H',AG X pins Y' H' s'/\Q Y' H') X.xe s
noncomputable abbrev Ol:=V->V->V->Hp->(Hp->Prop)->Prop
abbrev Sw(X:Cx)(t:Ol):Prop :=
 ∀(pins:List (Addr×Obj)) (s:Shared) (Y:St) (H:Hp) (o i v:V) (ov iv u:Value) (Q:Hp->Prop),AG X pins Y H s->AX o ov->AX i iv->AX v u->t o i v H Q ->
  wpAny (model X.prog X.w) X.A (setItem ov iv u) (λ_ s'=>∃H',AG X pins Y H' s'/\Q H') X.xe s
noncomputable abbrev Om:=V->V->Hp->VK->Prop
abbrev Sx(X:Cx)(op:Operator)(t:Om):Prop :=
 ∀(pins:List (Addr×Obj)) (s:Shared) (Y:St) (H:Hp) (x y:V) (v u:Value) (Q:VK),AG X pins Y H s->AX x v->AX y u->t x y H Q ->
  wpAny (model X.prog X.w) X.A (inplaceOp op v u) (EP X pins Y Q) X.xe s
section
variable {X:Cx}{pos:Pos}
abbrev Xp(i:Nat):TG:=λv Y H Q=>Q (Y.set i (some v)) H
def ACx{i:Nat}{x:Str}(hN:X.N.Nodup)(hi:X.N[i]?=some x)(hx:Gs X.env.scope x)(hf:X.fn x=true\/X.env.scope.names.lookup x=some .local):PG X (.Name x pos) (Xp i):=by intro pins s Y H v u Q I r h;exact wpAny_assign_Name (Na I hN hi hx r (λs' I'=>⟨_,H,I',h⟩) hf)
abbrev AFN:GN:=λvs Y H Q=>vs=[]/\Q Y H
abbrev AFS(t:TG)(u:GN):GN:=λvs Y H Q=>∃v r,vs=v::r/\t v Y H λY' H'=>u r Y' H' Q
def ACv:GP X [] AFN:=by intro pins s Y H vs us Q I r h;obtain⟨e,h⟩:=h;subst e;cases r;exact assignInOrder_nil ⟨Y,H,I,h⟩
def ACw{e:Expr}{es:AME}{t:TG}{u:GN}(h1:PG X e t)(h2:GP X es u)
  (hs:(assignEach (e::es) X.env).map (·.2)=assign e X.env::(assignEach es X.env).map (·.2):=by rfl):GP X (e::es) (AFS t u):=by
 intro pins s Y H vs us Q I r h;obtain⟨v,vr,e1,h⟩:=h;subst e1
 cases r with
 |cons r rr =>
  rw[hs];refine assignInOrder_cons (Ae (h1 pins s Y H _ _ _ I r h) λ_ s1 z2_=>?_);obtain⟨Y1,H1,I1,q1⟩:=z2_;exact h2 pins s1 Y1 H1 _ _ Q I1 rr q1
abbrev AFL(K:AI)(n:Nat)(t:GN):TG:=λv Y H Q=>∃a xs,v=.ref a/\BW K H a xs/\xs.length=n/\t xs Y H Q
def WF{es:AME}{k:Nat}{t:GN}{n:Nat}(hc:X.calm=true)(h:GP X es t)
  (hn:(assignEach es X.env).length=n:=by rfl) (hst:(assignEach es X.env).findIdx? (·.1)=none:=by rfl):PG X (.Tuple es k pos) (AFL X.K n t):=by
 intro pins s Y H v u Q I r hw;obtain⟨a,xs,e1,hq,hl,hw⟩:=hw;subst e1;cases r;obtain⟨its,rv,ht,hz⟩:=I.tuple hq;refine assign_Tuple_tuple (I.ok.hd hc) ht (by simp[hn,<-hl,rv.length]) hst λh' hx=>?_;have I1:AG X pins Y H {s with heap:=h'}:=I.kept (t':=s.toks) λb o e=>hx b o (BN (Heap.lt_size e)) e;exact h pins _ Y H xs _ Q I1 (by simpa using rv) hw
abbrev Gh(to ti:TE)(t:Ol):TG:=λv Y H Q=>to Y H λo H1=>ti Y H1 λi H2=>t o i v H2 λH3=>Q Y H3
def WG{o i:Expr}{to ti:TE}{t:Ol}(ho:PE X o to)(hi:PE X i ti)(hs:Sw X t)
  (ha:∀v,assign (.Subscript o i pos) X.env v=(do
   let ov <-holding [v] (eval o X.env)
   let iv <-holding [v,ov] (eval i X.env)
   standAt pos
   holding [v,ov,iv] (setItem ov iv v)
   release [v,ov,iv] []):=by intro _;rfl):PG X (.Subscript o i pos) (Gh to ti t):=by
 intro pins s Y H v u Q I r h;rw[ha];refine AE (DJ (Ae (ho pins s Y H _ I h) λov s1 z2_=>?_));obtain⟨x,H1,I1,r1,q1⟩:=z2_;refine AE (DJ (Ae (hi pins s1 Y H1 _ I1 q1) λiv s2 z2_=>?_));obtain⟨y,H2,I2,r2,q2⟩:=z2_;refine AE (wpAny_standAt (AE (DJ (Ae (hs pins s2 Y H2 x y v ov iv u _ I2 r1 r2 r q2) λ_ s3 z2_=>?_))));obtain⟨H3,I3,q3⟩:=z2_;exact wpAny_release ⟨Y,H3,I3,q3⟩
abbrev Uy(te:TE)(g:TG):TS:=λD Y H=>te Y H λx H1=>g x Y H1 D.nx
def RV{tg e:Expr}{te:TE}{g:TG}(he:PE X e te)(hg:PG X tg g)(hs:swapsWithSole [tg] e pos.line X.env=pure false)(hw:swappedStores [tg] e X.env=pure none)
  (h1:(assignEach [tg] X.env).map (·.2)=[assign tg X.env]):PS X (.Assign [tg] e pos) (Uy te g):=by
 intro pins s Y H D I h;refine wpAny_Assign_stores (Ae (he pins s Y H _ I h) λv s1 z2_=>?_) hs hw;obtain⟨x,H1,I1,r1,q1⟩:=z2_;rw[h1];exact Ae (hg pins s1 Y H1 x v _ I1 r1 q1) λ_ s2 q=>q
def ACY{i:Nat}{x:Str}{e:Expr}{te:TE}{pos':Pos}(hN:X.N.Nodup)(hi:X.N[i]?=some x)(hx:Gs X.env.scope x)(he:PE X e te)(hs:swapsWith e (some (.Name x pos')) pos.line X.env=pure false)(hf:X.fn x=true\/X.env.scope.names.lookup x=some .local) :
  PS X (.Assign [.Name x pos'] e pos) (Uy te (Xp i)):=by
 intro pins s Y H D I h;refine wpAny_Assign_Name (Ae (he pins s Y H _ I h) λv s1 z2_=>?_) hs;obtain⟨y,H1,I1,r1,q1⟩:=z2_;exact Na I1 hN hi hx r1 (λs2 I2=>⟨_,H1,I2,q1⟩) hf
abbrev ABR(i:Nat)(te:TE)(ti:Om):TS:=λD Y H=>∃x,Y[i]?=some (some x)/\te Y H λy H1=>ti x y H1 λz H2=>D.nx (Y.set i (some z)) H2
def ACf{i:Nat}{x:Str}{e:Expr}{te:TE}{op:Operator}{ti:Om}{pos':Pos}(hN:X.N.Nodup)(hi:X.N[i]?=some x)(hx:Gs X.env.scope x)(he:PE X e te)(ho:Sx X op ti)(hf:X.fn x=true\/X.env.scope.names.lookup x=some .local) :
  PS X (.AugAssign (.Name x pos') op e pos) (ABR i te ti):=by
 intro pins s Y H D I h;obtain⟨v,e1,h⟩:=h;obtain⟨m,hn,hl⟩:=I.loc;have vis:IA X.env.scope x:=by rcases hx with k|k;exact .inl k;exact .inr (.inl k)
 obtain⟨u,r,l⟩:=hl i x v hi e1 vis;refine wpAny_AugAssign_Name ?_
 have go:wpAny (model X.prog X.w) X.A (eval e X.env) (λw s₂=>wpAny (model X.prog X.w) X.A (inplaceOp op u w) (λr s₃=>wpAny (model X.prog X.w) X.A (storeName X.env x r) (λ_=>SP X pins D .next) X.xe s₃) X.xe s₂) X.xe s:=by refine Ae (he pins s Y H _ I h) λw s1 z2_=>?_;obtain⟨y,H1,I1,r1,q1⟩:=z2_;refine Ae (ho pins s1 Y H1 v y u w _ I1 r r1 q1) λz s2 z2_=>?_;obtain⟨zv,H2,I2,r2,q2⟩:=z2_;exact Na I2 hN hi hx r2 (λs3 I3=>⟨_,H2,I3,q2⟩) hf
 rcases l with⟨hk,hm⟩|⟨hk,c,hc,hcell⟩
 .exact wpAny_loadName_local I.ok.kind hk hn hm go
 .rcases hk with hk|hk
  .exact wpAny_loadName_cell I.ok.kind hk hc hcell go
  .rcases hx with k|k
   .have:X.env.scope.names.lookup x=some .free:=hk;rw[k] at this;cases this
   .have:X.env.scope.names.lookup x=some .free:=hk;rw[k] at this;cases this
abbrev XQ(f:Int->Int->Int):Om:=λx y H Q=>∃i j,x=.int i/\y=.int j/\Q (.int (f i j)) H
def SE:Sx X .Sub (XQ λi j=>i-j):=by intro pins s Y H x y v u Q I r1 r2 h;obtain⟨i,j,e1,e2,q⟩:=h;subst e1;subst e2;obtain⟨t,rfl⟩:=r1;obtain⟨t',rfl⟩:=r2;exact isub_int ⟨.int _,H,I.tok _,⟨_,rfl⟩,q⟩
end
structure It where
 go:Nat->Hp->Prop
 yld:Nat->Hp->V->Hp->Prop
 stop:Nat->Hp->Prop
abbrev GS(X:Cx)(pins:List (Addr×Obj))(H:Hp)(b:Addr):Prop :=
 H b=none/\b≠X.env.locals/\b∉X.fs/\(b∈X.ex\/X.s₀.heap.objs.size<=b)/\(∀x c,X.env.cells.lookup x=some c->c≠b)/\∀p∈X.pn++pins,p.1≠b
def AG.fpOk{X:Cx}{pins:List (Addr×Obj)}{Y:St}{H H':Hp}{s:Shared}{b:Addr}(I:AG X pins Y H s)(hb:s.heap.objs.size<=b)(hn:H' b=none):GS X pins H' b:=by
 refine⟨hn,FN (Bm I.lt hb),I.nofs hb,.inr (Bu I.sz hb),λx c e z=>?_,λp hp z=>?_⟩
 .obtain⟨v,q⟩:=I.cell x c e;exact absurd (Bm q.lt (by rw[z];exact hb)) (Fh _)
 .exact absurd (Bm (Heap.lt_size (I.pin p hp).1) (by rw[z];exact hb)) (Fh _)
structure Go (P:Program) (w:World) (K:AI) (tg:Expr) (J:It) (fp:AMD) (it:Addr) (tn:Nat->Heap->Prop):Prop where
 mem:it∈fp
 obj:∀i h,tn i h->∀b∈fp,∃o,h.get? b=some o/\∀v,o.data≠.cell v
 keep:∀i h h',tn i h->(∀b∈fp,∀o,h.get? b=some o->h'.get? b=some o)->tn i h'
 item:∀(X:Cx),X.prog=P->X.w=w->X.K=K->X.calm=true->∀(i:Nat) (pins:List (Addr×Obj)) (s:Shared) (Y:St) (H:Hp) (E:AMI),AG X pins Y H s->(∀b∈fp,GS X pins H b)->tn i s.heap->J.go i H ->
  wpAny (model P w) X.A (pyNext (.ref it)) (λr s1=>∃u,r=some u /\
   wpAny (model P w) X.A (letOwnedTupleGo tg (.ref it) u) (λ_ s2=>∃x H',AG X pins Y H' s2/\AX x u/\J.yld i H x H'/\tn (i+1) s2.heap/\∀b∈fp,H' b=none) E s1) E s
 done:∀(X:Cx),X.prog=P->X.w=w->X.K=K->X.calm=true->∀(i:Nat) (pins:List (Addr×Obj)) (s:Shared) (Y:St) (H:Hp) (E:AMI),AG X pins Y H s->(∀b∈fp,GS X pins H b)->tn i s.heap->J.stop i H ->
  wpAny (model P w) X.A (pyNext (.ref it)) (λr s1=>r=none/\AG X pins Y H s1) E s
 self:∀(A:Around) (i:Nat) (s:Shared) (Q:AMI) (E:AMI),tn i s.heap->Q (.ref it) s->wpAny (model P w) A (pyIter (.ref it)) Q E s
noncomputable abbrev TI:=St->Hp->(It->Hp->Prop)->Prop
abbrev ZF(X:Cx)(pins:List (Addr×Obj))(Y:St)(tg:Expr)(R:It->Hp->Prop)(itv:Value)(s2:Shared):Prop :=
 ∃(it:Addr) (fp:AMD) (tn:Nat->Heap->Prop) (J:It) (H':Hp),itv=.ref it/\AG X pins Y H' s2/\Go X.prog X.w X.K tg J fp it tn/\tn 0 s2.heap/\(∀b∈fp,GS X pins H' b)/\R J H'
abbrev PI(X:Cx)(tg iter:Expr)(wi:TI):Prop :=
 ∀(pins:List (Addr×Obj)) (s:Shared) (Y:St) (H:Hp) (R:It->Hp->Prop),AG X pins Y H s->wi Y H R ->
  wpAny (model X.prog X.w) X.A (eval iter X.env) (λv s1=>wpAny (model X.prog X.w) X.A (pyIter v) (ZF X pins Y tg R) X.xe s1) X.xe s
def OK{M:Model}{A:Around}{E:AMI}{s:Shared}{tg:Expr}{it:Addr}{u:Value}{o:Obj}{n:String}{vs:Array Value}{Q:Unit->Shared->Prop}(ho:s.heap.get? it=some o)(hc:o.cls=.type n)(hd:o.data=.fields vs)
  (hn:["enumerate","zip","dict_itemiterator","dict_reverseitemiterator","odict_iterator","itertools.zip_longest","itertools.pairwise"].contains n=false) (hQ:Q () s):wpAny M A (letOwnedTupleGo tg (.ref it) u) Q E s:=by
 unfold letOwnedTupleGo
 cases tg <;> first
  |exact AK hQ
  |(cases u <;> first
    |exact AK hQ
    |(refine AE (wpAny_load ho ?_)
      rw[hc,hd]
      show wpAny M A (if (["enumerate","zip","dict_itemiterator","dict_reverseitemiterator","odict_iterator","itertools.zip_longest","itertools.pairwise"].contains n&&vs[0]? == some (rawInt _))=true then _ else _) Q E s
      rw[if_neg (by intro h;rw[hn,Bool.false_and] at h;cases h)]
      exact AK hQ))
abbrev ZL(K:AI)(a:Addr):It :=
 ⟨λi H=>∃xs x,BI K H a xs/\xs[i]?=some x,λi H x H'=>H'=H/\∀xs,BI K H a xs->xs[i]?=some x,λi H=>∃xs,BI K H a xs/\xs.length<=i⟩
abbrev ZJ(K:AI)(a:Addr):It :=
 ⟨λi H=>∃xs x,BW K H a xs/\xs[i]?=some x,λi H x H'=>H'=H/\∀xs,BW K H a xs->xs[i]?=some x,λi H=>∃xs,BW K H a xs/\xs.length<=i⟩
abbrev Lp(lo:Int)(n:Nat):It:=⟨λi _=>i<n,λi H x H'=>H'=H/\x=.int (lo+i),λi _=>n<=i⟩
def AAt{P:Program}{w:World}{K:AI}{tg:Expr}(a it:Addr):Go P w K tg (ZL K a) [it] it (λi h=>h.IsListIter it a i) where
 mem:=by simp
 obj:=λi h st b hb=>by
  have e:b=it:=by simpa using hb
  subst e;obtain⟨o,e,c,d⟩:=st;exact⟨o,e,λv z=>by rw[d] at z;cases z⟩
 keep:=λi h h' st k=>st.at λo e=>k it (by simp) o e
 item:=by intro X hP hw hK hc i pins s Y H E I hf st hg;subst hP hw hK;obtain⟨xs,x,hq,hx⟩:=hg;obtain⟨its,rv,p,hz⟩:=I.list hq;obtain⟨u,hu,ru⟩:=rv.get hx;obtain⟨f0,f1,f2,f3,f4,f5⟩:=hf it (by simp);refine wpAny_pyNext_list_item st p.isList (x:=u) (by simpa using hu) λh' st' sb=>?_;have I1:AG X pins Y H {s with heap:=h'}:=I.turned (t':=s.toks) (λb o hb e=>(sb.2 b hb).trans e) f0 f1 f3 f4 f5;obtain⟨o,e,c,d⟩:=id st';exact⟨u,rfl,OK (s:={s with heap:=h'}) e c d (by decide) ⟨x,H,I1,ru,⟨rfl,λys hy=>by rw[I.list_inj hy hq];exact hx⟩,st',λb hb=>(hf b hb).1⟩⟩
 done:=by intro X hP hw hK hc i pins s Y H E I hf st hg;subst hP hw hK;obtain⟨xs,hq,hx⟩:=hg;obtain⟨its,rv,p,hz⟩:=I.list hq;obtain⟨f0,f1,f2,f3,f4,f5⟩:=hf it (by simp);have hl:=rv.length;exact wpAny_pyNext_list_end (I.ok.hd hc) st p.isList (by simp;omega) λh' eb=>⟨rfl,I.turned (t':=s.toks) (λb o hb e=>eb b o hb e) f0 f1 f3 f4 f5⟩
 self:=λ_ _ _ _ _ st h=>wpAny_pyIter_listiter st h
def AAq{P:Program}{w:World}{K:AI}{tg:Expr}(a it:Addr):Go P w K tg (ZJ K a) [it] it (λi h=>h.IsTupleIter it a i) where
 mem:=by simp
 obj:=λi h st b hb=>by
  have e:b=it:=by simpa using hb
  subst e;obtain⟨o,e,c,d⟩:=st;exact⟨o,e,λv z=>by rw[d] at z;cases z⟩
 keep:=λi h h' st k=>st.at λo e=>k it (by simp) o e
 item:=by intro X hP hw hK hc i pins s Y H E I hf st hg;subst hP hw hK;obtain⟨xs,x,hq,hx⟩:=hg;obtain⟨its,rv,p,hz⟩:=I.tuple hq;obtain⟨u,hu,ru⟩:=rv.get hx;obtain⟨f0,f1,f2,f3,f4,f5⟩:=hf it (by simp);refine wpAny_pyNext_tuple_item st (show s.heap.IsTuple a its.toArray from p) (x:=u) (by simpa using hu) λh' st' sb=>?_;have I1:AG X pins Y H {s with heap:=h'}:=I.turned (t':=s.toks) (λb o hb e=>(sb.2 b hb).trans e) f0 f1 f3 f4 f5;obtain⟨o,e,c,d⟩:=id st';exact⟨u,rfl,OK (s:={s with heap:=h'}) e c d (by decide) ⟨x,H,I1,ru,⟨rfl,λys hy=>by rw[I.tuple_inj hy hq];exact hx⟩,st',λb hb=>(hf b hb).1⟩⟩
 done:=by intro X hP hw hK hc i pins s Y H E I hf st hg;subst hP hw hK;obtain⟨xs,hq,hx⟩:=hg;obtain⟨its,rv,p,hz⟩:=I.tuple hq;obtain⟨f0,f1,f2,f3,f4,f5⟩:=hf it (by simp);have hl:=rv.length;exact wpAny_pyNext_tuple_end (I.ok.hd hc) st (show s.heap.IsTuple a its.toArray from p) (by simp;omega) λh' eb=>⟨rfl,I.turned (t':=s.toks) (λb o hb e=>eb b o hb e) f0 f1 f3 f4 f5⟩
 self:=λ_ _ _ _ _ st h=>wpAny_pyIter_tupleiter st h
def AAr{P:Program}{w:World}{K:AI}{tg:Expr}(it:Addr)(lo:Int)(n:Nat):Go P w K tg (Lp lo n) [it] it (λi h=>IsRangeIter h it (lo+(i:Nat)*1) ((n:Int)-(i:Nat)) 1) where
 mem:=by simp
 obj:=λi h st b hb=>by
  have e:b=it:=by simpa using hb
  subst e
  exact⟨_,st,λv z=>by
   have z':Data.fields _=Data.cell v:=z
   cases z'⟩
 keep:=λi h h' st k=>k it (by simp) _ st
 item:=by intro X hP hw hK hc i pins s Y H E I hf st hg;subst hP hw hK;obtain⟨f0,f1,f2,f3,f4,f5⟩:=hf it (by simp);have W:=Walks.range (prog:=X.prog) (w:=X.w) (I.ok.hd hc) it lo 1 n;refine W.item i s _ _ hg st λv h' tk hv st' kk=>?_;obtain⟨t,rfl⟩:=hv;have I1:AG X pins Y H {s with heap:=h',toks:=tk}:=I.turned (λb o hb e=>kk b o (by simpa using hb) e) f0 f1 f3 f4 f5;refine⟨_,rfl,OK (s:={s with heap:=h',toks:=tk}) (n:="range_iterator") st' rfl rfl (by decide) ⟨.int (lo+i),H,I1,⟨t,?_⟩,⟨rfl,rfl⟩,st',λb hb=>(hf b hb).1⟩⟩;rw[Int.mul_one]
 done:=by intro X hP hw hK hc i pins s Y H E I hf st hg;subst hP hw hK;obtain⟨f0,f1,f2,f3,f4,f5⟩:=hf it (by simp);exact wpAny_pyNext_range_end (I.ok.hd hc) st (by have:n<=i:=hg;omega) λh' eb=>⟨rfl,I.turned (t':=s.toks) (λb o hb e=>eb b o hb e) f0 f1 f3 f4 f5⟩
 self:=λ_ _ _ _ _ st h=>wpAny_pyIter_rangeiter st h
section
variable {X:Cx}{tg:Expr}
abbrev AEz(K:AI)(tl:TE):TI:=λY H R=>tl Y H λx H1=>∃a,x=.ref a/\(∃xs,BI K H1 a xs)/\R (ZL K a) H1
abbrev AEv(K:AI)(tl:TE):TI:=λY H R=>tl Y H λx H1=>∃a,x=.ref a/\(∃xs,BW K H1 a xs)/\R (ZJ K a) H1
def ACu{l:Expr}{tl:TE}(hl:PE X l tl):PI X tg l (AEz X.K tl):=by
 intro pins s Y H R I h;refine Ae (hl pins s Y H _ I h) λv s1 z2_=>?_;obtain⟨x,H1,I1,r1,q1⟩:=z2_;obtain⟨a,e,⟨xs,hq⟩,q⟩:=q1;subst e;cases r1;obtain⟨its,rv,p,hz⟩:=I1.list hq;refine AL0 p.isList ?_;refine⟨s1.heap.objs.size,[s1.heap.objs.size],_,_,H1,rfl,I1.kept (t':=s1.toks) λb o e=>Heap.get?_push_of_some _ e,AAt a _,⟨_,Heap.get?_push_size _ rfl,rfl,rfl⟩,λb hb=>?_,q⟩;have e:b=s1.heap.objs.size:=by simpa using hb
 subst e;exact I1.fpOk (Ac _) (I1.hok.fresh (Ac _))
def ACq{l:Expr}{tl:TE}(hl:PE X l tl):PI X tg l (AEv X.K tl):=by
 intro pins s Y H R I h;refine Ae (hl pins s Y H _ I h) λv s1 z2_=>?_;obtain⟨x,H1,I1,r1,q1⟩:=z2_;obtain⟨a,e,⟨xs,hq⟩,q⟩:=q1;subst e;cases r1;obtain⟨its,rv,p,hz⟩:=I1.tuple hq;refine wpAny_pyIter_tuple (show s1.heap.IsTuple a its.toArray from p) ?_;refine⟨s1.heap.objs.size,[s1.heap.objs.size],_,_,H1,rfl,I1.kept (t':=s1.toks) λb o e=>Heap.get?_push_of_some _ e,AAq a _,⟨_,Heap.get?_push_size _ rfl,rfl,rfl⟩,λb hb=>?_,q⟩;have e:b=s1.heap.objs.size:=by simpa using hb
 subst e;exact I1.fpOk (Ac _) (I1.hok.fresh (Ac _))
def Vl{pins:List (Addr×Obj)}{Y:St}{H:Hp}{s:Shared}{R:It->Hp->Prop}{E:AMI}{lo hi:Int}{t u v:Tok}{tk:Nat}(I:AG X pins Y H s)(h1:-(2 ^ 62)<=lo)(h2:lo<2 ^ 62)(h3:-(2 ^ 62)<=hi)(h4:hi<2 ^ 62)
  (q:R (Lp lo (hi-lo).toNat) H):wpAny (model X.prog X.w) X.A (pyIter (.ref s.heap.objs.size)) (ZF X pins Y tg R) E {s with heap:=s.heap.push {cls:=.type "range",data:=.fields #[.int lo t,.int hi u,.int 1 v]},toks:=tk}:=by
 refine wpAny_pyIter_range (IsRange.new ..) (small_one h1 h2 h3 h4) ?_;have I1:AG X pins Y H {s with heap:=s.heap.push {cls:=.type "range",data:=.fields #[.int lo t,.int hi u,.int 1 v]},toks:=tk}:=I.kept λb o e=>Heap.get?_push_of_some _ e
 refine⟨(s.heap.push {cls:=.type "range",data:=.fields #[.int lo t,.int hi u,.int 1 v]}).objs.size,[(s.heap.push {cls:=.type "range",data:=.fields #[.int lo t,.int hi u,.int 1 v]}).objs.size],_,_,H,rfl,
  I1.kept (t':=tk) λb o e=>Heap.get?_push_of_some _ e,AAr _ lo (hi-lo).toNat,?_,λb hb=>?_,q⟩
 .have e1:lo+((0:Nat):Int)*1=lo:=by simp
  have e2:(((hi-lo).toNat:Nat):Int)-((0:Nat):Int)=Builtin.Range.rangeSize lo hi 1:=by rw[rangeSize_one];split <;> omega
  show IsRangeIter _ _ (lo+((0:Nat):Int)*1) ((((hi-lo).toNat:Nat):Int)-((0:Nat):Int)) 1;rw[e1,e2];exact Heap.get?_push_size _ rfl
 .have e:b=(s.heap.push {cls:=.type "range",data:=.fields #[.int lo t,.int hi u,.int 1 v]}).objs.size:=by simpa using hb
  subst e;exact I1.fpOk (Ac _) (I1.hok.fresh (Ac _))
abbrev AEy(ta:TA):TI:=λY H R=>ta Y H λvs H1=>∃j:Int,vs=[.int j]/\-(2 ^ 62)<=j/\j<2 ^ 62/\R (Lp 0 j.toNat) H1
abbrev AEx(ta:TA):TI:=λY H R=>ta Y H λvs H1=>∃i j:Int,vs=[.int i,.int j]/\(-(2 ^ 62)<=i/\i<2 ^ 62/\-(2 ^ 62)<=j/\j<2 ^ 62)/\R (Lp i (j-i).toNat) H1
def ACt{a:Expr}{ta:TA}{p pos:Pos}(hg:Gl X "range")(hm:X.mg "range"=none)(ha:PA X [a] ta)(hs:starEach [a] X.env=[(false,eval a X.env)]):PI X tg (.Call (.Name "range" p) [a] [] pos) (AEy ta):=by
 intro pins s Y H R I h;refine Call_ (HD I hg hm boot_range (PyProof.Rows.callWith_type1 (Ae (ha pos pins s Y H _ I h) λus s1 z2_=>?_) hs rfl));obtain⟨vs,H1,I1,r1,q1⟩:=z2_;obtain⟨j,e,q1,q2,q⟩:=q1;subst e
 cases r1 with
 |cons r rr =>
  cases rr;obtain⟨t,rfl⟩:=r;exact call_range_1 (Vl I1 (by omega) (by omega) q1 q2 (by simpa using q))
def ACs{a b:Expr}{ta:TA}{p pos:Pos}(hg:Gl X "range")(hm:X.mg "range"=none)(ha:PA X [a,b] ta)(hs:starEach [a,b] X.env=[(false,eval a X.env),(false,eval b X.env)])(hs2:starEach [b] X.env=[(false,eval b X.env)]) :
  PI X tg (.Call (.Name "range" p) [a,b] [] pos) (AEx ta):=by
 intro pins s Y H R I h;refine Call_ (HD I hg hm boot_range (PyProof.Rows.callWith_type1 (Ae (ha pos pins s Y H _ I h) λus s1 z2_=>?_) (by rw[hs,hs2]) (by rw[hs2];rfl)));obtain⟨vs,H1,I1,r1,q1⟩:=z2_;obtain⟨i,j,e,⟨q1,q2,q3,q4⟩,q⟩:=q1;subst e
 cases r1 with
 |cons r rr =>
  cases rr with
  |cons r' rr =>
   cases rr;obtain⟨t,rfl⟩:=r;obtain⟨t',rfl⟩:=r';exact call_range_2 (Vl I1 q1 q2 q3 q4 q)
abbrev ABL(wi:TI)(g:TG)(tb:TS):TS:=λD Y H=>wi Y H λJ H1=>∃W:Nat->Nat->St->Hp->Prop,(∃m,W 0 m Y H1)/\∀i m Y H,W i m Y H ->
 (J.stop i H/\D.nx Y H)\/(J.go i H/\∃N:St->Hp->Prop,(∀Y' H',N Y' H'->∃m',m'<m/\W (i+1) m' Y' H')/\∀x H',J.yld i H x H'->g x Y H' λY2 H2=>tb {D with nx:=N,ct:=N,bk:=D.nx} Y2 H2)
abbrev LC(fp:AMD)(h:Heap):List (Addr×Obj):=fp.filterMap λb=>(h.get? b).map λo=>(b,o)
def Nx{fp:AMD}{h:Heap}{b:Addr}{o:Obj}(hb:b∈fp)(e:h.get? b=some o):(b,o)∈LC fp h:=ALK.mpr ⟨b,hb,by rw[e];rfl⟩
def ADn{fp:AMD}{h:Heap}{p:Addr×Obj}(hp:p∈LC fp h):p.1∈fp/\h.get? p.1=some p.2:=by
 obtain⟨b,hb,e⟩:=ALK.mp hp
 cases q:h.get? b with
 |none=>rw[q] at e;cases e
 |some o =>
  rw[q] at e;have e':(b,o)=p:=Option.some.inj e;subst e';exact⟨hb,q⟩
def AG.pinned{pins:List (Addr×Obj)}{Y:St}{H:Hp}{s:Shared}{fp:AMD}(I:AG X pins Y H s)(hf:∀b∈fp,GS X pins H b)(ho:∀b∈fp,∃o,s.heap.get? b=some o/\∀v,o.data≠.cell v):AG X (pins++LC fp s.heap) Y H s :=
 I.pins_of λp hp=>(CF.mp hp).elim (λz=>I.pin p (AKV _ z)) λz=>by
  obtain⟨hb,e⟩:=ADn z;obtain⟨f0,f1,f2,_⟩:=hf p.1 hb;obtain⟨o,e',d⟩:=ho p.1 hb;rw[e] at e';cases e';exact⟨e,f0,f1,f2,d⟩
def AG.unpinned{pins pl:List (Addr×Obj)}{Y:St}{H:Hp}{s:Shared}(I:AG X (pins++pl) Y H s):AG X pins Y H s:=I.pins_of λp hp=>I.pin p (AKV _ (ALk _ hp))
def ACb{iter:Expr}{body:AMF}{wi:TI}{g:TG}{tb:TS}{pos:Pos}(hp:PassesOwn (model X.prog X.w) X.A X.env X.xe)(hc:X.calm=true)(hi:PI X tg iter wi)(hg:PG X tg g)(hb:Ct X body tb)
  (hs:∀x,foldedSetIterable iter X.env x=pure x:=by intro _;rfl):PS X (.For tg iter body [] pos) (ABL wi g tb):=by
 intro pins s Y H D I h;refine wpAny_For (Ae (hi pins s Y H _ I h) λv s1 h1=>Ae h1 λitv s2 h2=>?_) hs;obtain⟨it,fp,tn,J,H2,e,I2,T,st2,f2,W,⟨m0,w0⟩,turn⟩:=h2;subst e
 -- what stays true of the iterator's objects through the loop
 have stat:∀{H':Hp},(∀b∈fp,H' b=none)->∀b∈fp,GS X pins H' b:=λhn b hb=>⟨hn b hb,(f2 b hb).2⟩;refine codeAny_forLoop_any (λn s'=>∃i Y' H',AG X pins Y' H' s'/\tn i s'.heap/\(∀b∈fp,H' b=none)/\W i n Y' H') ?_ m0 ⟨0,Y,H2,I2,st2,λb hb=>(f2 b hb).1,w0⟩;rintro n s3 ⟨i,Y3,H3,I3,st3,fr3,w3⟩;rcases turn i n Y3 H3 w3 with⟨stop,qn⟩|⟨go,N,hN,step⟩
 .refine wpAny_passesOwn hp (Ae (T.done X rfl rfl rfl hc i pins s3 Y3 H3 X.xe I3 (stat fr3) st3 stop) λr s4 z2_=>?_);obtain⟨hr,I4⟩:=z2_;subst hr;exact ALz ⟨Y3,H3,I4,qn⟩
 .refine wpAny_passesOwn hp (Ae (T.item X rfl rfl rfl hc i pins s3 Y3 H3 X.xe I3 (stat fr3) st3 go) λr s4 z2_=>?_);obtain⟨u,hr,h4⟩:=z2_;subst hr;refine wpAny_passesOwn hp (Ae h4 λ_ s5 z2_=>?_);obtain⟨x,H5,I5,r5,y5,st5,fr5⟩:=z2_;have I5':=I5.pinned (stat fr5) (T.obj _ _ st5);refine wpAny_passesOwn hp (Ae (hg _ s5 Y3 H5 x u _ I5' r5 (step x H5 y5)) λ_ s6 z2_=>?_);obtain⟨Y6,H6,I6,q6⟩:=z2_;refine wpAny_passesOwn hp (Ae (hb _ s6 Y6 H6 _ I6 q6) λf s7 q7=>?_)
  have again:∀{Y7:St} {H7:Hp},AG X (pins++LC fp s5.heap) Y7 H7 s7->N Y7 H7->∃m,m<n/\∃i Y' H',AG X pins Y' H' s7/\tn i s7.heap/\(∀b∈fp,H' b=none)/\W i m Y' H':=λ{Y7 H7} I7 n7=>by
   obtain⟨m',hm,w7⟩:=hN Y7 H7 n7;refine⟨m',hm,i+1,Y7,H7,I7.unpinned,T.keep _ _ _ st5 λb hb o e=>(I7.pin (b,o) (AKV _ (AKV _ (Nx hb e)))).1,λb hb=>?_,w7⟩;obtain⟨o,e,d⟩:=T.obj _ _ st5 b hb;exact(I7.pin (b,o) (AKV _ (AKV _ (Nx hb e)))).2.1
  cases f with
  |next=>obtain⟨Y7,H7,I7,n7⟩:=q7;exact again I7 n7
  |cont=>obtain⟨Y7,H7,I7,n7⟩:=q7;exact again I7 n7
  |brk=>obtain⟨Y7,H7,I7,q7⟩:=q7;exact⟨Y7,H7,I7.unpinned,q7⟩
  |ret v=>obtain⟨x7,Y7,H7,I7,r7,q7⟩:=q7;exact⟨x7,Y7,H7,I7.unpinned,r7,q7⟩
end
noncomputable abbrev R2:=V->V->Hp->VK->Prop
abbrev Ao(X:Cx)(f:Value->Value->Sem Value)(r:R2):Prop :=
 ∀(pins:List (Addr×Obj)) (s:Shared) (Y:St) (H:Hp) (x y:V) (v u:Value) (Q:VK),AG X pins Y H s->AX x v->AX y u->r x y H Q ->
  wpAny (model X.prog X.w) X.A (f v u) (EP X pins Y Q) X.xe s
abbrev Su(X:Cx)(f:Value->Sem Value)(r:V->Hp->VK->Prop):Prop :=
 ∀(pins:List (Addr×Obj)) (s:Shared) (Y:St) (H:Hp) (x:V) (v:Value) (Q:VK),AG X pins Y H s->AX x v->r x H Q ->
  wpAny (model X.prog X.w) X.A (f v) (EP X pins Y Q) X.xe s
abbrev CD(X:Cx)(f:Value)(r:List V->Hp->VK->Prop):Prop :=
 ∀(pins:List (Addr×Obj)) (s:Shared) (Y:St) (H:Hp) (xs:List V) (us:AMC) (Q:VK),AG X pins Y H s->AV xs us->r xs H Q ->
  wpAny (model X.prog X.w) X.A (call f us) (EP X pins Y Q) X.xe s
abbrev Ku(r:R2)(ta tb:TE):TE:=λY H Q=>ta Y H λx H1=>tb Y H1 λy H2=>r x y H2 Q
abbrev tUn(r:V->Hp->VK->Prop)(ta:TE):TE:=λY H Q=>ta Y H λx H1=>r x H1 Q
abbrev rI(C:Int->Int->Prop)(g:Int->Int->V):R2:=λx y H Q=>∃i j,x=.int i/\y=.int j/\C i j/\Q (g i j) H
abbrev Hd(g:Int->Int->V):R2:=λx y H Q=>∃i j,x=.int i/\y=.int j/\Q (g i j) H
abbrev rU(g:Int->V):V->Hp->VK->Prop:=λx H Q=>∃i,x=.int i/\Q (g i) H
section
variable {X:Cx}{a b c:Expr}{ta tb tc:TE}{pos:Pos}
def Sh(ha:PE X a ta)(hb:PE X b tb){pins:List (Addr×Obj)}{s:Shared}{Y:St}{H:Hp}{R:V->V->Hp->Prop}(I:AG X pins Y H s)
  (h:ta Y H λx H1=>tb Y H1 λy H2=>R x y H2) {Q:AMI} {f:Value->Value->Sem Value}
  (hf:∀v u s2 x y H2,AG X pins Y H2 s2->AX x v->AX y u->R x y H2->wpAny (model X.prog X.w) X.A (f v u) Q X.xe s2) :
  wpAny (model X.prog X.w) X.A (eval a X.env) (λv s₁=>wpAny (model X.prog X.w) X.A (eval b X.env) (λu s₂=>wpAny (model X.prog X.w) X.A (f v u) Q X.xe s₂) X.xe s₁) X.xe s:=by
 refine Ae (ha pins s Y H _ I h) λv s1 z2_=>?_;obtain⟨x,H1,I1,r1,q1⟩:=z2_;refine Ae (hb pins s1 Y H1 _ I1 q1) λu s2 z2_=>?_;obtain⟨y,H2,I2,r2,q2⟩:=z2_;exact hf v u s2 x y H2 I2 r1 r2 q2
def AC3{op:Operator}{r:R2}(ho:Ao X (binaryOp op) r)(ha:PE X a ta)(hb:PE X b tb):PE X (.BinOp a op b pos) (Ku r ta tb):=by intro pins s Y H Q I h;exact wpAny_BinOp (Sh ha hb I h λv u s2 x y H2 I2 rx ry q=>ho pins s2 Y H2 x y v u Q I2 rx ry q)
def ACz{op:UnaryOp}{r:V->Hp->VK->Prop}(ho:Su X (unaryOp op) r)(ha:PE X a ta):PE X (.UnaryOp op a pos) (tUn r ta):=by intro pins s Y H Q I h;exact UnaryOp_ (Ae (ha pins s Y H _ I h) λv s1 z2_=>(by obtain⟨x,H1,I1,r1,q1⟩:=z2_;exact ho pins s1 Y H1 x v Q I1 r1 q1))
def Nr{f:Value->Value->Sem Value}{C:Int->Int->Prop}{g:Int->Int->Int}
  (rule:∀(i j:Int) (t u:Tok) (s:Shared) (Q:AMI) (E:AMI),C i j->Q (.int (g i j) s.toks) {s with toks:=s.toks+1}->wpAny (model X.prog X.w) X.A (f (.int i t) (.int j u)) Q E s) :
  Ao X f (rI C λi j=>.int (g i j)):=by
 intro pins s Y H x y v u Q I rx ry h;obtain⟨i,j,rfl,rfl,hc,q⟩:=h;obtain⟨t,rfl⟩:=rx;obtain⟨t',rfl⟩:=ry;exact rule i j t t' s _ _ hc ⟨.int (g i j),H,I.tok _,⟨_,rfl⟩,q⟩
def WT{f:Value->Value->Sem Value}{g:Int->Int->Int}
  (rule:∀(i j:Int) (t u:Tok) (s:Shared) (Q:AMI) (E:AMI),Q (.int (g i j) s.toks) {s with toks:=s.toks+1}->wpAny (model X.prog X.w) X.A (f (.int i t) (.int j u)) Q E s) :
  Ao X f (Hd λi j=>.int (g i j)):=by
 intro pins s Y H x y v u Q I rx ry h;obtain⟨i,j,rfl,rfl,q⟩:=h;obtain⟨t,rfl⟩:=rx;obtain⟨t',rfl⟩:=ry;exact rule i j t t' s _ _ ⟨.int (g i j),H,I.tok _,⟨_,rfl⟩,q⟩
def Ri{f:Value->Value->Sem Value}{g:Int->Int->Bool}
  (rule:∀(i j:Int) (t u:Tok) (s:Shared) (Q:AMI) (E:AMI),Q (.bool (g i j)) s->wpAny (model X.prog X.w) X.A (f (.int i t) (.int j u)) Q E s) :
  Ao X f (Hd λi j=>.bl (g i j)):=by
 intro pins s Y H x y v u Q I rx ry h;obtain⟨i,j,rfl,rfl,q⟩:=h;obtain⟨t,rfl⟩:=rx;obtain⟨t',rfl⟩:=ry;exact rule i j t t' s _ _ ⟨.bl (g i j),H,I,rfl,q⟩
abbrev AHD(i j:Int):Prop:=0<=j/\j<=1000000/\i.natAbs<2 ^ 64
abbrev ZO(i j:Int):Prop:=(-(2 ^ 64)<i/\i<2 ^ 64)\/(-(2 ^ 64)<j/\j<2 ^ 64)
def ZO.ok{i j:Int}(h:ZO i j):IntMulOk i j:=by
 rcases h with⟨h1,h2⟩|⟨h1,h2⟩
 .exact .of_left (intBits_le_64 h1 h2)
 .exact .of_right (intBits_le_64 h1 h2)
def ADk:Ao X (binaryOp .Add) (Hd λi j=>.int (i+j)):=WT λ_ _ _ _ _ _ _ q=>add_int q
def ADT:Ao X (binaryOp .Sub) (Hd λi j=>.int (i-j)):=WT λ_ _ _ _ _ _ _ q=>sub_int q
def ADa:Ao X (binaryOp .Mod) (rI (λ_ j=>0<j) λi j=>.int (i % j)):=Nr λi j _ _ _ _ _ hc q=>by
 have h1:(0:Int)<j:=hc;exact mod_int' (by omega) (by rw[Int.fmod_eq_emod_of_nonneg i (by omega)];exact q)
def ADU:Ao X (binaryOp .Pow) (rI AHD λi j=>.int (i ^ j.toNat)):=Nr λ_ _ _ _ _ _ _ hc q=>pow_int_small hc.1 hc.2.1 hc.2.2 q
def unI{f:Value->Sem Value}{g:Int->Int}
  (rule:∀(i:Int) (t:Tok) (s:Shared) (Q:AMI) (E:AMI),Q (.int (g i) s.toks) {s with toks:=s.toks+1}->wpAny (model X.prog X.w) X.A (f (.int i t)) Q E s) :
  Su X f (rU λi=>.int (g i)):=by
 intro pins s Y H x v Q I rx h;obtain⟨i,rfl,q⟩:=h;obtain⟨t,rfl⟩:=rx;exact rule i t s _ _ ⟨.int (g i),H,I.tok _,⟨_,rfl⟩,q⟩
def AAm:Su X (unaryOp .USub) (rU λi=>.int (-i)):=unI λ_ _ _ _ _ q=>neg_int q
end
abbrev RR:V->V->Bool
 |.non,.non=>true|.non,.int _=>true|.int _,.non=>true|.non,.bl _=>true|.bl _,.non=>true|.non,.str _=>true|.str _,.non=>true
 |.int _,.int _=>true|.bl _,.bl _=>true|.str _,.str _=>true|.byt _,.byt _=>true
 |.int _,.str _=>true|.str _,.int _=>true|.bl _,.str _=>true|.str _,.bl _=>true
 |_,_=>false
abbrev rEq:R2:=λx y H Q=>RR x y=true/\Q (.bl (decide (x=y))) H
abbrev rNe:R2:=λx y H Q=>RR x y=true/\Q (.bl (!decide (x=y))) H
def YR{i j:Int}:decide (V.int i=V.int j)=(i == j):=by rw[AKm];simp
def YT{i j:Bool}:decide (V.bl i=V.bl j)=(i == j):=by rw[AKm];simp
def YQ{i j:Str}:decide (V.str i=V.str j)=(i == j):=by rw[AKm];simp
def YS{i j:Array UInt8}:decide (V.byt i=V.byt j)=(i.toList == j.toList):=by rw[AKm];cases i;cases j;simp
section
variable {X:Cx}{a b c:Expr}{ta tb tc:TE}{pos:Pos}
def BF{pins:List (Addr×Obj)}{Y:St}{H:Hp}{s:Shared}{Q:VK}{k k':Bool}(I:AG X pins Y H s)(q:Q (.bl k) H)(e:k=k'):EP X pins Y Q (.bool k') s:=by subst e;exact⟨.bl k,H,I,rfl,q⟩
def WR:Ao X (compareOp .Eq) rEq:=by
 intro pins s Y H x y v u Q I rx ry h;obtain⟨hs,q⟩:=h
 cases x with
 |non =>
  cases rx
  cases y with
  |non=>cases ry;exact PySem.EqNone.eq_none_none (BF I q (by simp))
  |bl j=>cases ry;exact PySem.EqNone.eq_none_bool (BF I q (by simp))
  |int j=>obtain⟨t',rfl⟩:=ry;exact PySem.EqNone.eq_none_int (BF I q (by simp))
  |str j=>obtain⟨t',rfl⟩:=ry;exact PySem.EqNone.eq_none_str (BF I q (by simp))
  |_=>exact absurd (show false=true from hs) Cc
 |bl i =>
  cases rx
  cases y with
  |non=>cases ry;exact PySem.EqNone.eq_bool_none (BF I q (by simp))
  |bl j=>cases ry;exact eq_bool (BF I q YT)
  |str j=>obtain⟨t',rfl⟩:=ry;exact PySem.EqMixed.eq_bool_str (BF I q (by simp))
  |_=>exact absurd (show false=true from hs) Cc
 |int i =>
  obtain⟨t,rfl⟩:=rx
  cases y with
  |non=>cases ry;exact PySem.EqNone.eq_int_none (BF I q (by simp))
  |int j=>obtain⟨t',rfl⟩:=ry;exact eq_int (BF I q YR)
  |str j=>obtain⟨t',rfl⟩:=ry;exact PySem.EqMixed.eq_int_str (BF I q (by simp))
  |_=>exact absurd (show false=true from hs) Cc
 |str i =>
  obtain⟨t,rfl⟩:=rx
  cases y with
  |non=>cases ry;exact PySem.EqNone.eq_str_none (BF I q (by simp))
  |bl j=>cases ry;exact PySem.EqMixed.eq_str_bool (BF I q (by simp))
  |int j=>obtain⟨t',rfl⟩:=ry;exact PySem.EqMixed.eq_str_int (BF I q (by simp))
  |str j=>obtain⟨t',rfl⟩:=ry;exact eq_str (BF I q YQ)
  |_=>exact absurd (show false=true from hs) Cc
 |byt i =>
  obtain⟨t,rfl⟩:=rx
  cases y with
  |byt j=>obtain⟨t',rfl⟩:=ry;exact PySem.W.eq_bytes (BF I q YS)
  |_=>exact absurd (show false=true from hs) Cc
 |_=>cases y <;> exact absurd (show false=true from hs) Cc
def ADY:Ao X (compareOp .NotEq) rNe:=by
 intro pins s Y H x y v u Q I rx ry h;obtain⟨hs,q⟩:=h
 cases x with
 |non =>
  cases rx
  cases y with
  |non=>cases ry;exact PySem.EqNone.ne_none_none (BF I q (by simp))
  |bl j=>cases ry;exact PySem.EqNone.ne_none_bool (BF I q (by simp))
  |int j=>obtain⟨t',rfl⟩:=ry;exact PySem.EqNone.ne_none_int (BF I q (by simp))
  |str j=>obtain⟨t',rfl⟩:=ry;exact PySem.EqNone.ne_none_str (BF I q (by simp))
  |_=>exact absurd (show false=true from hs) Cc
 |bl i =>
  cases rx
  cases y with
  |non=>cases ry;exact PySem.EqNone.ne_bool_none (BF I q (by simp))
  |bl j=>cases ry;exact ne_bool (BF I q (congrArg not YT))
  |str j=>obtain⟨t',rfl⟩:=ry;exact PySem.EqMixed.ne_bool_str (BF I q (by simp))
  |_=>exact absurd (show false=true from hs) Cc
 |int i =>
  obtain⟨t,rfl⟩:=rx
  cases y with
  |non=>cases ry;exact PySem.EqNone.ne_int_none (BF I q (by simp))
  |int j=>obtain⟨t',rfl⟩:=ry;exact ne_int (BF I q (congrArg not YR))
  |str j=>obtain⟨t',rfl⟩:=ry;exact PySem.EqMixed.ne_int_str (BF I q (by simp))
  |_=>exact absurd (show false=true from hs) Cc
 |str i =>
  obtain⟨t,rfl⟩:=rx
  cases y with
  |non=>cases ry;exact PySem.EqNone.ne_str_none (BF I q (by simp))
  |bl j=>cases ry;exact PySem.EqMixed.ne_str_bool (BF I q (by simp))
  |int j=>obtain⟨t',rfl⟩:=ry;exact PySem.EqMixed.ne_str_int (BF I q (by simp))
  |str j=>obtain⟨t',rfl⟩:=ry;exact ne_str (BF I q (congrArg not YQ))
  |_=>exact absurd (show false=true from hs) Cc
 |byt i =>
  obtain⟨t,rfl⟩:=rx
  cases y with
  |byt j=>obtain⟨t',rfl⟩:=ry;exact PySem.W.ne_bytes (BF I q (congrArg not YS))
  |_=>exact absurd (show false=true from hs) Cc
 |_=>cases y <;> exact absurd (show false=true from hs) Cc
def op_lt:Ao X (compareOp .Lt) (Hd λi j=>.bl (decide (i<j))):=Ri λ_ _ _ _ _ _ _ q=>lt_int q
def ADe:Ao X (compareOp .Gt) (Hd λi j=>.bl (decide (j<i))):=Ri λ_ _ _ _ _ _ _ q=>gt_int q
def ADf:Ao X (compareOp .GtE) (Hd λi j=>.bl (decide (j<=i))):=Ri λ_ _ _ _ _ _ _ q=>ge_int q
def ADc:Ao X (compareOp .In) (λx y H Q=>∃i j,x=.str i/\y=.str j/\Q (.bl (!(Builtin.Str.occurrences j i 0 j.length 1).isEmpty)) H):=by intro pins s Y H x y v u Q I rx ry h;obtain⟨i,j,rfl,rfl,q⟩:=h;obtain⟨t,rfl⟩:=rx;obtain⟨t',rfl⟩:=ry;exact in_str (BF I q rfl)
def op_isN:Ao X (compareOp .Is) (λx y H Q=>y=.non/\Q (.bl (decide (x=.non))) H):=by
 intro pins s Y H x y v u Q I rx ry h;obtain⟨rfl,q⟩:=h;cases ry;refine is_none_gen (BF I q ?_)
 cases x <;> first
  |(cases rx;rfl)
  |(obtain⟨t,rfl⟩:=rx;rfl)
def ADV:Ao X (compareOp .IsNot) (λx y H Q=>y=.non/\Q (.bl (!decide (x=.non))) H):=by
 intro pins s Y H x y v u Q I rx ry h;obtain⟨rfl,q⟩:=h;cases ry;refine isnot_none_gen (BF I q ?_)
 cases x <;> first
  |(cases rx;rfl)
  |(obtain⟨t,rfl⟩:=rx;rfl)
def op_notin_str:Ao X (compareOp .NotIn) (λx y H Q=>∃i j,x=.str i/\y=.str j/\Q (.bl (!(!(Builtin.Str.occurrences j i 0 j.length 1).isEmpty))) H):=by intro pins s Y H x y v u Q I rx ry h;obtain⟨i,j,rfl,rfl,q⟩:=h;obtain⟨t,rfl⟩:=rx;obtain⟨t',rfl⟩:=ry;exact notIn_str (BF I q rfl)
def Ao.or{f:Value->Value->Sem Value}{r r':R2}(h:Ao X f r)(h':Ao X f r'):Ao X f (λx y H Q=>r x y H Q\/r' x y H Q):=by
 intro pins s Y H x y v u Q I rx ry q;rcases q with q|q
 .exact h pins s Y H x y v u Q I rx ry q
 .exact h' pins s Y H x y v u Q I rx ry q
def ADF{op:CmpOp}{r:R2}(ho:Ao X (compareOp op) r)(ha:PE X a ta)(hb:PE X b tb)(hm:behindInMarks op b=false):PE X (.Compare a [op] [b] pos) (Ku r ta tb):=by intro pins s Y H Q I h;exact wpAny_Compare1 (Sh ha hb I h λv u s2 x y H2 I2 rx ry q=>ho pins s2 Y H2 x y v u Q I2 rx ry q) hm
abbrev AA6(t:TE):TT:=λY H Q=>t Y H λx H'=>∃k,x=.bl k/\Q k H'
def ACX{op:CmpOp}{r:R2}(ho:Ao X (compareOp op) r)(ha:PE X a ta)(hb:PE X b tb)(hm:behindInMarks op b=false):PT X (.Compare a [op] [b] pos) (AA6 (Ku r ta tb)):=by
 intro pins s Y H Q I h
 refine wpAny_isTrue_Compare1 (Ae (ha pins s Y H _ I h) λv s1 ⟨x,H1,I1,r1,q1⟩=>Ae (hb pins s1 Y H1 _ I1 q1) λu s2 ⟨y,H2,I2,r2,q2⟩ =>
  Ae (ho pins s2 Y H2 x y v u _ I2 r1 r2 q2) λc s3 ⟨z,H3,I3,r3,k,e,q3⟩=>?_) hm
 subst e;cases r3;exact ALy ⟨H3,I3,q3⟩
def Jb:(sizeLine:Nat)<2 ^ 63:=by rw[sizeLine_eq];decide
def ADj:Ao X (binaryOp .Add) (λx y H Q=>∃i j,x=.str i/\y=.str j/\i.length+j.length<=sizeLine/\Q (.str (i++j)) H):=by intro pins s Y H x y v u Q I rx ry h;obtain⟨i,j,rfl,rfl,hz,q⟩:=h;obtain⟨t,rfl⟩:=rx;obtain⟨t',rfl⟩:=ry;exact add_str (λt' tk=>⟨.str (i++j),H,I.tok _,⟨_,rfl⟩,q⟩) hz
def EK{x:V}{us:AMC}(r:AV [x] us):∃u,us=[u]/\AX x u:=by
 cases r with
 |cons r1 r2=>cases r2;exact⟨_,rfl,r1⟩
def Uh{x y:V}{us:AMC}(r:AV [x,y] us):∃u w',us=[u,w']/\AX x u/\AX y w':=by
 cases r with
 |cons r1 r2 =>
  cases r2 with
  |cons r3 r4=>cases r4;exact⟨_,_,rfl,r1,r3⟩
def AGW:CD X (.builtin "abs") (λxs H Q=>∃i,xs=[.int i]/\Q (.int (if i<0 then -i else i)) H):=by
 intro pins s Y H xs us Q I r h;obtain⟨i,rfl,q⟩:=h;obtain⟨u,rfl,t,rfl⟩:=EK r
 exact call_abs_int λu tk=>⟨.int (if i<0 then -i else i),H,I.tok _,⟨_,rfl⟩,q⟩
def AGQ(hc:X.calm=true):CD X (.builtin "min") (λxs H Q=>∃i j,xs=[.int i,.int j]/\Q (.int (if j<i then j else i)) H):=by
 intro pins s Y H xs us Q I r h;obtain⟨i,j,rfl,q⟩:=h;obtain⟨u,w',rfl,⟨t,rfl⟩,⟨t',rfl⟩⟩:=Uh r;refine min_two_ints (I.ok.hd hc) λh' tk k=>⟨_,H,I.kept k,?_,q⟩
 by_cases hj:j<i
 .rw[if_pos hj,if_pos hj];exact⟨_,rfl⟩
 .rw[if_neg hj,if_neg hj];exact⟨_,rfl⟩
def AGT:CD X (.type "int") (λxs H Q=>(∃i,xs=[.int i]/\Q (.int i) H)\/∃k,xs=[.bl k]/\Q (.int (if k then 1 else 0)) H):=by
 intro pins s Y H xs us Q I r h;rcases h with⟨i,rfl,q⟩|⟨k,rfl,q⟩
 .obtain⟨u,rfl,t,rfl⟩:=EK r;exact call_int_int ⟨.int i,H,I,⟨_,rfl⟩,q⟩
 .obtain⟨u,rfl,r1⟩:=EK r;cases r1
  exact call_int_bool ⟨.int (if k then 1 else 0),H,I.tok _,⟨_,rfl⟩,q⟩
end
structure KB (h:Heap) (x dx C:Addr) (mA:AMA):Prop where
 obj:h.get? x=some (AKl C dx)
 ns:h.Ns1 dx mA
 ne:dx≠x
def AEO{h:Heap}{dx:Addr}{mA:AMA}(n:h.Ns1 dx mA):∃od,h.get? dx=some od/\∀name,PySem.W.lookIn name od=some (mA name):=by
 obtain⟨o,es,ep,ho,hd,hk,_,hm⟩:=n;refine⟨o,ho,λname=>?_⟩;have e:=hm name;unfold nsFind findBy at e;rw[<-Array.find?_toList] at e;unfold PySem.W.lookIn;rw[hd];dsimp only;split
 .rename_i y q;rw[q] at e;exact congrArg some e
 .rename_i q;rw[q] at e
  have a:es.toList.any (·.refKey)=false:=by rw[List.any_eq_false];intro y hy;obtain⟨z,t,hkey⟩:=hk y (Array.mem_toList_iff.mp hy);simp[DictEntry.refKey,hkey]
  have a':¬es.toList.any (·.refKey)=true:=by rw[a];exact Cc
  rw[if_neg a'];exact congrArg some e
def KB.look{h:Heap}{x dx C:Addr}{mA:AMA}(I:KB h x dx C mA):∃od,PySem.W.InstAt h x (AKl C dx) C (some od)/\∀name,PySem.W.lookIn name od=some (mA name) :=
 let ⟨od,ho,hl⟩:=AEO I.ns
 ⟨od,⟨I.obj,rfl,rfl,ho⟩,hl⟩
section
variable {prog:Program}{w:World}{A:Around}{E:AMI}{s:Shared}{K:AI}{x dx C f:Addr}{mA:AMA}{name:Str}{v:Value}
def AE8{expr:Bool}{Q:AMI}(X:K.In s.heap)(I:KB s.heap x dx C mA)(hg:AKx K C name=true)(hh:AKy K C=true)
  (ha:Be K (.ref C) name=some none) (hv:mA name=some v) (hv':PySem.W.handedIn v=true) (h:Q v {s with toks:=s.toks+1}) :
  wpAny (model prog w) A (getAttr (.ref x) name expr) Q E s:=by
 obtain⟨od,J,hl⟩:=I.look;exact PySem.W.get_value X J (PySem.W.plainGet_of hg).1 (PySem.W.findObj_own hh ha rfl (by rw[hl,hv])) hv' h
def ABr{ns:AMB}{Q:Unit->Shared->Prop}(X:K.In s.heap)(I:KB s.heap x dx C mA)
  (hs:Be K (.ref C) "__setattr__"=some (some (.builtin "object.__setattr__"))) (hp:AK6 K C=true) (ht:PySem.W.takerIn K C name=some none) (hh:AKy K C=true)
  (hw:PySem.Within mA ns) (hsz:ns.length<=sizeLine)
  (h:∀h',KB h' x dx C (λy=>if y=name then some v else mA y)->Heap.SameBut dx s.heap h'->Q () {s with heap:=h',toks:=s.toks+2}) :
  wpAny (model prog w) A (setAttr (.ref x) name v) Q E s:=by
 obtain⟨od,J,hl⟩:=I.look;refine PySem.W.set_plain X J hs (PySem.W.osa_open (s:={s with toks:=s.toks+1}) (r:=none) X J hp ht λb=>?_);obtain⟨cd,hc,hd'⟩:=PySem.W.any_some hh;have hx:s.heap.get? x=some ⟨.ref C,some dx,.plain,#[]⟩:=I.obj;refine AE (AK (AE (AE (wpAny_loadPart hx (AE (PySem.W.Looks.here (s:={s with toks:=s.toks+1}) (PySem.W.looks_clsIn X hc) ?_))))));rw[hd'];refine AK (a:=some dx) (AE (AK (AE ?_)));refine wpAny_nsSet1 (s:={s with toks:=s.toks+1}) I.ns λh' hn2 hs2=>?_;obtain⟨oD,esD,epD,hoD,hdD,hcD⟩:=hn2.count (PySem.Within.cons name v hw);refine AE (wpAny_lookBehind hoD (by rw[hdD];exact pastItsLine_dict (Bu hcD (by rw[Dd];omega))) ?_);exact AK (h _ ⟨(hs2.2 _ (Ne.symm I.ne)).trans I.obj,hn2,I.ne⟩ hs2)
def AD6{R:Result->Shared->Prop}{vs:AMC}{kw:List (Str×Value)}(X:K.In s.heap)(hm:AK7 K C=true)
  (hi:Be K (.ref C) "__init__"=some (some (.ref f))) (hf:PySem.W.typeIn K (.ref f)=some (.type "function"))
  (h:codeAny (model prog w) (A.under (.builtin "type.__call__" ⟨.ref C::vs,kw⟩)) (.call (.ref f) ⟨.ref (s.heap.objs.size+1)::vs,kw⟩) (PySem.W.InitBack (s.heap.objs.size+1) R)
   {s with heap:=(s.heap.push AKb).push (AKl C s.heap.objs.size)}) :
  codeAny (model prog w) A (.call (.ref C) ⟨vs,kw⟩) R s:=by
 obtain⟨hh,g,d,t,os⟩:=s;exact PySem.W.make_core (PySem.W.makes_of X hm) (PySem.W.looks_findIn X hi) (λself=>PySem.W.bind_fn X self hf) (.inl rfl) h
end
abbrev CO(f:Str)(v:V):List (Str×V)->List (Str×V)
 |[]=>[(f,v)]
 |(g,x)::r=>if g=f then (g,v)::r else (g,x)::CO f v r
def Wm(f g:Str)(v:V):∀fs:List (Str×V),(CO f v fs).lookup g=if g=f then some v else fs.lookup g
 |[]=>by
  show FO g [(f,v)]=_
  by_cases h:g=f
  .have hb:(g == f)=true:=beq_iff_eq.mpr h;simp only[FO,hb,if_pos h]
  .have hb:(g == f)=false:=beq_eq_false_iff_ne.mpr h;simp only[FO,hb,if_neg h]
 |(k,x)::r=>by
  have ih:=Wm f g v r
  rw[show CO f v ((k,x)::r)=(if k=f then (k,v)::r else (k,x)::CO f v r) from rfl]
  by_cases hk:k=f
  .rw[if_pos hk]
   by_cases h:g=k
   .have hb:(g == k)=true:=beq_iff_eq.mpr h;simp only[FO,hb,if_pos (h.trans hk)]
   .have hb:(g == k)=false:=beq_eq_false_iff_ne.mpr h;simp only[FO,hb,if_neg (λe:g=f=>h (e.trans hk.symm))]
  .rw[if_neg hk]
   by_cases h:g=k
   .have hb:(g == k)=true:=beq_iff_eq.mpr h;simp only[FO,hb,if_neg (λe:g=f=>hk (h.symm.trans e))]
   .have hb:(g == k)=false:=beq_eq_false_iff_ne.mpr h;simp only[FO,hb];exact ih
def Rx(f:Str)(v:V):∀fs:List (Str×V),f∈(CO f v fs).map (·.1)/\∀g,g∈fs.map (·.1)->g∈(CO f v fs).map (·.1)
 |[]=>⟨by simp[CO],λg h=>by simp at h⟩
 |(k,x)::r=>by
  obtain⟨i1,i2⟩:=Rx f v r
  rw[show CO f v ((k,x)::r)=(if k=f then (k,v)::r else (k,x)::CO f v r) from rfl]
  by_cases hk:k=f
  .rw[if_pos hk];subst hk;exact⟨by simp,λg h=>by simpa using h⟩
  .rw[if_neg hk];refine⟨?_,λg h=>?_⟩
   .rw[Ah];exact Az _ i1
   .rw[Ah] at h ⊢;rcases AW.mp h with e|e
    .exact AW.mpr (.inl e)
    .exact Az _ (i2 g e)
def Wr(f:Str)(v:V):∀fs:List (Str×V),(CO f v fs).length<=fs.length+1
 |[]=>by simp[CO]
 |(k,x)::r=>by
  have ih:=Wr f v r
  rw[show CO f v ((k,x)::r)=(if k=f then (k,v)::r else (k,x)::CO f v r) from rfl]
  by_cases hk:k=f
  .rw[if_pos hk,Dd,Dd];omega
  .rw[if_neg hk,Dd,Dd];omega
def FJ.some_of{v:V}{o:Option Value}(r:FJ (some v) o):∃u,o=some u/\AX v u:=by
 cases o with
 |none=>exact(show False from r).elim
 |some u=>exact⟨u,rfl,r⟩
def AE3{v:V}{u:Value}(r:AX v u):PySem.W.handedIn u=true:=by
 cases v with
 |non=>cases (show u=Value.none from r);rfl
 |bl b=>cases (show u=Value.bool b from r);rfl
 |int i=>obtain⟨t,e⟩:=(show ∃t,u=Value.int i t from r);cases e;rfl
 |str x=>obtain⟨t,e⟩:=(show ∃t,u=Value.str x t from r);cases e;rfl
 |byt b=>obtain⟨t,e⟩:=(show ∃t,u=Value.bytes b t from r);cases e;rfl
 |flt b=>obtain⟨t,e⟩:=(show ∃t,u=Value.float b t from r);cases e;rfl
 |ref a=>cases (show u=Value.ref a from r);rfl
 |ty n=>cases (show u=Value.type n from r);rfl
section
variable {P:Program}{w:World}{H H':Hp}{h h':Heap}{a C dx:Addr}{fs fs':List (Str×V)}
def SG(hok:By P w H h)(e:H a=some (.ins C dx fs)):∃mA,KB h a dx C mA/\(∀f,FJ (fs.lookup f) (mA f))/\PySem.Within mA (fs.map (·.1))/\fs.length<=1000/\H dx=some (.own a):=by obtain⟨d,z,ne,ob,mA,n,r,q⟩:=(show Bx P w H h a (.ins C dx fs) from hok a _ e);exact⟨mA,⟨ob,n,ne⟩,r,q,z,d⟩
end
structure Cls (K:AI) (C:Addr):Prop where
 pg:AKx K C Str.empty=true
 hd:AKy K C=true
 po:AK6 K C=true
 sa:Be K (.ref C) "__setattr__"=some (some (.builtin "object.__setattr__"))
def Cls.get{K:AI}{C:Addr}(c:Cls K C)(f:Str):AKx K C f=true:=c.pg
abbrev IE(K:AI)(C:Addr)(f:Str):Prop:=Be K (.ref C) f=some none
def IE.taker{K:AI}{C:Addr}{f:Str}(n:IE K C f):PySem.W.takerIn K C f=some none:=by unfold PySem.W.takerIn;rw[show Be K (.ref C) f=some none from n];rfl
structure AG4 (K:AI) (C:Addr) (m:Str) (f:Addr):Prop where
 at_:Be K (.ref C) m=some (some (.ref f))
 fn:AK8 K (.ref f)=true
 kp:Ec K (.ref f)=true
section
variable {X:Cx}{pins:List (Addr×Obj)}{Y:St}{H:Hp}{s:Shared}{a C dx:Addr}{fs:List (Str×V)}{f:Str}{v:V}{A:Around}{E:AMI}
def Xe{b:Bool}{Q:AMI}(I:AG X pins Y H s)(e:H a=some (.ins C dx fs))(c:Cls X.K C)(n:IE X.K C f)(l:fs.lookup f=some v)
  (h:∀u s',AG X pins Y H s'->AX v u->Q u s'):wpAny (model X.prog X.w) A (getAttr (.ref a) f b) Q E s:=by
 obtain⟨mA,O,r,_,_,_⟩:=SG I.hok e;obtain⟨u,hu,ru⟩:=FJ.some_of (v:=v) (o:=mA f) (by rw[<-l];exact r f);exact AE8 I.kIn O (c.get f) c.hd n hu (AE3 ru) (h u _ (I.tok _) ru)
def Vc{y:V}{u:Value}{Q:Unit->Shared->Prop}(I:AG X pins Y H s)(e:H a=some (.ins C dx fs))(c:Cls X.K C)(n:IE X.K C f)(hl:fs.length<1000)(ry:AX y u)
  (h:∀s',AG X pins Y (upd H a (.ins C dx (CO f y fs))) s'->Q () s'):wpAny (model X.prog X.w) A (setAttr (.ref a) f u) Q E s:=by
 obtain⟨mA,O,r,wi,_,ho⟩:=SG I.hok e;have hz:(fs.map (·.1)).length<=sizeLine:=by rw[Ag,sizeLine_eq];omega
 refine ABr I.kIn O c.sa c.po n.taker c.hd wi hz λh' O' sb=>h _ ?_;have hd:∃o,h'.get? dx=some o:=let ⟨o,_,_,e',_⟩:=O'.ns;⟨o,e'⟩;refine I.write (x:=a) (e:=dx) (by rw[e];exact True.intro) (.inr ho) (λb q hb z=>(sb.2 b hb).trans z) hd ?_;refine⟨by rw[Ax O.ne];exact ho,?_,O.ne,O'.obj,_,O'.ns,λg=>?_,λg hg=>?_⟩
 .have:=Wr f y fs;omega
 .show FJ ((CO f y fs).lookup g) (if g=f then some u else mA g)
  rw[Wm]
  by_cases q:g=f
  .rw[if_pos q,if_pos q];exact ry
  .rw[if_neg q,if_neg q];exact r g
 .by_cases q:g=f
  .rw[q];exact(Rx f y fs).1
  .refine(Rx f y fs).2 g (wi g λz=>hg ?_)
   show(if g=f then some u else mA g)=none
   rw[if_neg q];exact z
def AG.made(I:AG X pins Y H s):AG X pins Y (upd (upd H s.heap.objs.size (.own (s.heap.objs.size+1))) (s.heap.objs.size+1) (.ins C s.heap.objs.size []))
  {s with heap:=(s.heap.push AKb).push (AKl C s.heap.objs.size)}:=by
 have e1:(s.heap.push AKb).get? s.heap.objs.size=some AKb:=Heap.get?_push_size s.heap rfl
 have e2:((s.heap.push AKb).push (AKl C s.heap.objs.size)).get? (s.heap.objs.size+1)=some (AKl C s.heap.objs.size):=by
  have:=Heap.get?_push_size (s.heap.push AKb) (o:=AKl C s.heap.objs.size) rfl
  rwa [Heap.size_push] at this
 have e3:(s.heap.push AKb).Ns s.heap.objs.size (λ_=>none):=⟨AKb,#[],_,e1,rfl,(λe he=>absurd he (by simp)),λ_=>rfl⟩;have I1:=I.laid (a:=s.heap.objs.size) (o:=.own (s.heap.objs.size+1)) (h':=s.heap.push AKb) (t':=s.toks) (λb u q=>Heap.get?_push_of_some _ q) (Ac _) ⟨_,e1⟩;refine I1.laid (a:=s.heap.objs.size+1) (o:=.ins C s.heap.objs.size []) (t':=s.toks) (λb u q=>Heap.get?_push_of_some _ q) (AKz (Heap.size_push _ _)) ?_;have ne:s.heap.objs.size≠s.heap.objs.size+1:=BN (ALT _);refine⟨by rw[Ax ne,Bn],Ed _,ne,e2,λ_=>none,(Heap.Ns1.of_empty e3).at λo q=>Heap.get?_push_of_some _ q,λ_=>True.intro,λy hy=>absurd rfl hy⟩
def AGi{prog:Program}{w:World}{env:Env}{e:Expr}{f:Str}{pos:Pos}{s:Shared}{Q:AMI}(hb:attributeBase e f env (eval e env)=eval e env)
  (h:wpAny (model prog w) A (eval e env) (λo s₁=>wpAny (model prog w) A (getAttr o f true) Q E s₁) E s):wpAny (model prog w) A (eval (.Attribute e f pos) env) Q E s :=
 Attribute_any_ h (by rw[arm_eval_Attribute,hb])
end
abbrev ABM(K:AI)(ta:TE)(f:Str):TE:=λY H Q=>ta Y H λx H1=>∃a C dx fs v,x=.ref a/\H1 a=some (.ins C dx fs)/\Cls K C/\IE K C f/\fs.lookup f=some v/\Q v H1
abbrev AB3(K:AI)(ta tv:TE)(f:Str):TS:=λD Y H=>tv Y H λy H1=>ta Y H1 λx H2=>∃a C dx fs,x=.ref a/\H2 a=some (.ins C dx fs)/\Cls K C/\IE K C f/\fs.length<1000 /\
 D.nx Y (upd H2 a (.ins C dx (CO f y fs)))
abbrev Os(X:Cx)(op:Operator)(rd:V->V->Hp->VK->Prop):Prop :=
 ∀(pins:List (Addr×Obj)) (s:Shared) (Y:St) (H:Hp) (x y:V) (u v:Value) (Q:VK),AG X pins Y H s->AX x u->AX y v->rd x y H Q->wpAny (model X.prog X.w) X.A (inplaceOp op u v) (EP X pins Y Q) X.xe s
abbrev AB2(K:AI)(ta tv:TE)(rd:V->V->Hp->VK->Prop)(f:Str):TS:=λD Y H=>ta Y H λx H1=>∃a C dx fs v,x=.ref a/\H1 a=some (.ins C dx fs)/\Cls K C/\IE K C f/\fs.lookup f=some v /\
 tv Y H1 λy H2=>rd v y H2 λz H3=>∃dx' fs',H3 a=some (.ins C dx' fs')/\fs'.length<1000/\D.nx Y (upd H3 a (.ins C dx' (CO f z fs')))
section
variable {X:Cx}{o e value:Expr}{f:Str}{pos pos' tpos:Pos}{ta tv:TE}
def ADE(he:PE X e ta)(hb:attributeBase e f X.env (eval e X.env)=eval e X.env):PE X (.Attribute e f pos) (ABM X.K ta f):=by intro pins s Y H Q I h;refine AGi hb (Ae (he pins s Y H _ I h) λu s1 z2_=>?_);obtain⟨x,H1,I1,rx,a,C,dx,fs,v,ex,ea,c,n,l,q⟩:=z2_;subst ex;obtain rfl:u=Value.ref a:=rx;exact Xe I1 ea c n l λu' s2 I2 ru=>⟨v,H1,I2,ru,q⟩
def ACd(ha:PE X o ta)(hv:PE X value tv)(hs:swapsWith value (some (.Attribute o f pos')) pos.line X.env=pure false):PS X (.Assign [.Attribute o f pos'] value pos) (AB3 X.K ta tv f):=by intro pins s Y H D I h;refine plainObj_wpAny_Assign_Attribute (Ae (hv pins s Y H _ I h) λu s1 z2_=>?_) hs;obtain⟨y,H1,I1,ry,q⟩:=z2_;refine Ae (ha pins s1 Y H1 _ I1 q) λov s2 z2_=>?_;obtain⟨x,H2,I2,rx,a,C,dx,fs,ex,ea,c,n,l,q2⟩:=z2_;subst ex;obtain rfl:ov=Value.ref a:=rx;exact Vc I2 ea c n l ry λs3 I3=>⟨Y,_,I3,q2⟩
def ACc{op:Operator}{rd:V->V->Hp->VK->Prop}(ha:PE X o ta)(hv:PE X value tv)(hop:Os X op rd):PS X (.AugAssign (.Attribute o f tpos) op value pos) (AB2 X.K ta tv rd f):=by intro pins s Y H D I h;refine wpAny_AugAssign_AttributeAny (Ae (ha pins s Y H _ I h) λov s1 z2_=>?_);obtain⟨x,H1,I1,rx,a,C,dx,fs,v,ex,ea,c,n,l,q⟩:=z2_;subst ex;obtain rfl:ov=Value.ref a:=rx;refine Xe I1 ea c n l λu s2 I2 ru=>Ae (hv pins s2 Y H1 _ I2 q) λw3 s3 z2_=>?_;obtain⟨y,H2,I3,ry,q3⟩:=z2_;refine Ae (hop pins s3 Y H2 v y u w3 _ I3 ru ry q3) λw4 s4 z2_=>?_;obtain⟨z,H3,I4,rz,dx',fs',ea',l',q4⟩:=z2_;exact Vc I4 ea' c n l' rz λs5 I5=>⟨Y,_,I5,q4⟩
abbrev ACK:V->V->Hp->VK->Prop:=λx y H Q=>∃i j,x=.int i/\y=.int j/\Q (.int (i+j)) H
def AEt:Os X .Add ACK:=by rintro pins s Y H x y u v Q I rx ry ⟨i,j,rfl,rfl,q⟩;obtain⟨t,rfl⟩:=(show ∃t,u=Value.int i t from rx);obtain⟨t',rfl⟩:=(show ∃t',v=Value.int j t' from ry);exact PyProof.Rows.iadd_int ⟨.int (i+j),H,I.tok _,⟨_,rfl⟩,q⟩
end
section
variable {X:Cx}{pins:List (Addr×Obj)}{Y:St}{H:Hp}{s:Shared}{A:Around}{E:AMI}{Q:AMI}{c:Value}{b:Bool}
inductive TyOf (K:AI) (H:Hp):V->Value->Prop where
 |non:TyOf K H .non (.type "NoneType")
 |bl (x:Bool):TyOf K H (.bl x) (.type "bool")
 |int (i:Int):TyOf K H (.int i) (.type "int")
 |str (x:Str):TyOf K H (.str x) (.type "str")
 |flt (x:UInt64):TyOf K H (.flt x) (.type "float")
 |lst {a:Addr} {xs:List V} (e:H a=some (.lst xs)):TyOf K H (.ref a) (.type "list")
 |frz {a:Addr} {o:Obj} {xs:List V} (e:H a=some (.frz o (.lst xs))):TyOf K H (.ref a) (.type "list")
 |tup {a:Addr} {xs:List V} (e:H a=some (.tup xs)):TyOf K H (.ref a) (.type "tuple")
 |dK {a:Addr} {kvs:List (Key×V)} (e:H a=some (.dK kvs)):TyOf K H (.ref a) (.type "dict")
 |dT {a:Addr} {kvs:List (List Key×V)} (e:H a=some (.dT kvs)):TyOf K H (.ref a) (.type "dict")
 |ins {a C dx:Addr} {fs:List (Str×V)} (e:H a=some (.ins C dx fs)) (cl:Cls K C) (ha:Be K (.ref C) "__class__"=some (some (.builtin "object.__class__")))
   (hn:PySem.W.specialIn K (.builtin "object.__class__") "__get__"=some (some (.builtin "getset_descriptor.__get__"))) (htk:PySem.W.takesIn K (.builtin "object.__class__")=some true)
   (hm:AKn K C (.type "object")=some true):TyOf K H (.ref a) (.ref C)
def Jg{x:V}{u t:Value}(I:AG X pins Y H s)(rx:AX x u)(ty:TyOf X.K H x t)(e:AKo X.K t c=some b)(h:∀tk,Q (.bool b) {s with toks:=tk}) :
  wpAny (model X.prog X.w) A (call (.builtin "isinstance") [u,c]) Q E s:=by
 cases ty with
 |non=>cases (show u=Value.none from rx);exact FM PySem.W.kitx_none I.kIn True.intro e (λz=>nomatch z) h
 |bl y=>cases (show u=Value.bool y from rx);exact FM PySem.W.kitx_bool I.kIn True.intro e (λz=>nomatch z) h
 |int i=>obtain⟨t,q⟩:=(show ∃t,u=Value.int i t from rx);cases q;exact FM PySem.W.kitx_int I.kIn True.intro e (λz=>nomatch z) h
 |str y=>obtain⟨t,q⟩:=(show ∃t,u=Value.str y t from rx);cases q;exact FM PySem.W.kitx_str I.kIn True.intro e (λz=>nomatch z) h
 |flt y=>obtain⟨t,q⟩:=(show ∃t,u=Value.float y t from rx);cases q;exact FM PySem.W.kitx_float I.kIn True.intro e (λz=>nomatch z) h
 |@lst a xs ea =>
  cases (show u=Value.ref a from rx);obtain⟨_,_,n,_,h1⟩:=(show Bx X.prog X.w H s.heap a (.lst xs) from I.hok a _ ea);exact FM PySem.W.kitx_list I.kIn ⟨_,h1,rfl⟩ e (λz=>nomatch z) h
 |@frz a ob xs ea =>
  cases (show u=Value.ref a from rx);obtain⟨_,_,_,n,_,h1⟩:=(show Bx X.prog X.w H s.heap a (.frz ob (.lst xs)) from I.hok a _ ea);exact FM PySem.W.kitx_list I.kIn ⟨_,h1,rfl⟩ e (λz=>nomatch z) h
 |@tup a xs ea =>
  cases (show u=Value.ref a from rx);obtain⟨_,_,_,p⟩:=(show Bx X.prog X.w H s.heap a (.tup xs) from I.hok a _ ea);obtain⟨o,h1,h2,_⟩:=p;exact FM PySem.W.kitx_tuple I.kIn ⟨o,h1,h2⟩ e (λz=>nomatch z) h
 |@dK a kvs ea =>
  cases (show u=Value.ref a from rx);obtain⟨_,_,vs,_,p⟩:=(show Bx X.prog X.w H s.heap a (.dK kvs) from I.hok a _ ea);obtain⟨o,es,ep,h1,h2,_⟩:=p;exact FM PySem.W.kitx_dict I.kIn ⟨o,h1,h2.1⟩ e (λz=>nomatch z) h
 |@dT a kvs ea =>
  cases (show u=Value.ref a from rx);obtain⟨_,_,xs,_,o,es,ep,h1,h2,_⟩:=(show Bx X.prog X.w H s.heap a (.dT kvs) from I.hok a _ ea);exact FM PySem.W.kitx_dict I.kIn ⟨o,h1,h2.1⟩ e (λz=>nomatch z) h
 |@ins a C dx fs ea cl ha hn htk hm =>
  cases (show u=Value.ref a from rx);obtain⟨mA,O,_⟩:=SG I.hok ea;obtain⟨od,J,_⟩:=O.look;exact FM (PySem.W.kitx_own (cl.get _) cl.hd ha hn htk hm) I.kIn J e (λz=>nomatch z) h
end
structure Room (k:Nat) (A:Around):Prop where
 hd:A.handled=none
 dp:A.depth+3*k+5<recursionLimit
 un:A.units+16*k+200<cLine
def Room.mono{j k:Nat}{A:Around}(r:Room k A)(h:j<=k):Room j A:=⟨r.hd,by have:=r.dp;omega,by have:=r.un;omega⟩
def Room.deeper{k:Nat}{A:Around}(r:Room (k+1) A)(env:Env):Room k (A.deeper env) :=
 ⟨r.hd,by have:=r.dp;show A.depth+1+3*k+5<_;omega,by have:=r.un;show A.units+3+16*k+200<_;omega⟩
def Room.in1{k:Nat}{A:Around}(r:Room (k+1) A):Room k A.in1 :=
 ⟨r.hd,by have:=r.dp;show A.depth+3*k+5<_;omega,by have:=r.un;show A.units+1+16*k+200<_;omega⟩
def AD8{A:Around}{C:Addr}{us:AMC}{kw:List (Str×Value)}:(A.under (.builtin "type.__call__" ⟨.ref C::us,kw⟩)).depth=A.depth+1:=by first|rfl|simp[Around.under,Code.weight,Code.isCreation,Code.isGuard,Code.isCaller,Code.frames,Code.isFrame,guardIds]
def AD5{A:Around}{C:Addr}{us:AMC}{kw:List (Str×Value)}:(A.under (.builtin "type.__call__" ⟨.ref C::us,kw⟩)).units=A.units+1:=by first|rfl|simp[Around.under,Code.cUnits,Code.frames,Code.isFrame]
def Room.make{k:Nat}{A:Around}(r:Room (k+1) A)(C:Addr)(us:AMC)(kw:List (Str×Value)):Room k (A.under (.builtin "type.__call__" ⟨.ref C::us,kw⟩)) :=
 ⟨r.hd,by have:=r.dp;rw[AD8];omega,by have:=r.un;rw[AD5];omega⟩
def Room.depth{k:Nat}{A:Around}(r:Room k A):A.depth<recursionLimit:=by have:=r.dp;omega
def Room.units{k:Nat}{A:Around}(r:Room k A):A.units+64<cLine:=by have:=r.un;omega
abbrev Uu:TA:=λ_ H Q=>Q [] H
abbrev ABO(ta:TE)(tr:TA):TA:=λY H Q=>ta Y H λx H1=>tr Y H1 λxs H2=>Q (x::xs) H2
section
variable {X:Cx}{e:Expr}{es:AME}{te:TE}{t:TA}{pos:Pos}
def LD:PA X [] Uu:=λ_ _ _ _ H Q I h=>Calls.spliced_nil ⟨[],H,I,.nil,h⟩
def Hg(ha:PE X e te)(hr:PA X es t)(hs:starEach (e::es) X.env=(false,eval e X.env)::starEach es X.env:=by rfl):PA X (e::es) (ABO te t):=by intro pos pins s Y H Q I h;rw[hs];show wpAny _ _ (spliced ((false,eval e X.env)::backTo pos (starEach es X.env))) _ _ s;refine Calls.spliced_cons (Ae (ha pins s Y H _ I h) λu s1 z2_=>?_);obtain⟨x,H1,I1,r1,q1⟩:=z2_;exact Ae (hr pos pins s1 Y H1 _ I1 q1) λus s2 z2_=>by obtain⟨xs,H2,I2,r2,q2⟩:=z2_;exact⟨x::xs,H2,I2,.cons r1 r2,q2⟩
abbrev AA5(t:TA):TE:=λY H Q=>t Y H λxs H1=>xs.length<=sizeLine/\∀p,H1 p=none->Q (.ref p) (upd H1 p (.tup xs))
abbrev ABI(t:TA):TE:=λY H Q=>t Y H λxs H1=>xs.length<=sizeLine/\∀p,H1 p=none->Q (.ref p) (upd H1 p (.lst xs))
def Rc{x1}(h:PA X es t):PE X (.Tuple es x1 pos) (AA5 t):=by intro pins s Y H Q I hq;refine wpAny_Tuple_spliced (Ae (h pos pins s Y H _ I hq) λus s1 z2_=>?_);obtain⟨xs,H1,I1,r,z,q⟩:=z2_;refine⟨by rw[<-r.length];exact z,?_⟩;have hf:H1 s1.heap.objs.size=none:=I1.hok.fresh (Ac _);refine⟨.ref s1.heap.objs.size,upd H1 s1.heap.objs.size (.tup xs),I1.laid (t':=s1.toks) (λb u e=>Heap.get?_push_of_some _ e) (Ac _) ?_,rfl,q _ hf⟩;exact⟨z,us,r,⟨_,Heap.get?_push_size _ rfl,rfl,_,rfl⟩⟩
def AC8(h:PA X es t):PE X (.List es pos) (ABI t):=by intro pins s Y H Q I hq;refine wpAny_List_spliced (Ae (h pos pins s Y H _ I hq) λus s1 z2_=>?_);obtain⟨xs,H1,I1,r,z,q⟩:=z2_;refine⟨by rw[<-r.length];exact z,?_⟩;have hf:H1 s1.heap.objs.size=none:=I1.hok.fresh (Ac _);refine⟨.ref s1.heap.objs.size,upd H1 s1.heap.objs.size (.lst xs),I1.laid (t':=s1.toks) (λb u e=>Heap.get?_push_of_some _ e) (Ac _) ?_,rfl,q _ hf⟩;exact⟨z,us,0,r,Heap.get?_push_size _ rfl⟩
end
noncomputable abbrev Sp:=List V->Hp->VK->XK->Prop
noncomputable abbrev FL:=List Env->Hp->Shared->XK->AMI
structure Gv (P:Program) (w:World) (K:AI) (mg:AMA) (base:Heap) (A:Around) (outer:List Env) (s:Shared) (H:Hp):Prop where
 frames:A.frames=some outer
 mod:Op K mg base
 bs:∀b o,base.get? b=some o->s.heap.get? b=some o/\H b=none
 bsz:base.objs.size<=s.heap.objs.size
 funs:s.heap.FunFrames base outer
 frf:∀b∈Bl outer,H b=none
 hok:By P w H s.heap
 bare:AllBare s.gens
abbrev CE(outer:List Env)(P:Program)(w:World)(H:Hp)(s:Shared)(Q:VK)(u:Value)(s':Shared):Prop :=
 ∃v H',s'.os=s.os/\AllBare s'.gens/\Un (Bl outer) [] H H' s.heap s'.heap/\By P w H' s'.heap/\AX v u/\Q v H'
abbrev CR(CX:FL)(outer:List Env)(P:Program)(w:World)(H:Hp)(s:Shared)(Q:VK)(E:XK)(r:Result)(s':Shared):Prop :=
 match r with
 |.ok (.ret u)=>CE outer P w H s Q u s'
 |.ok _=>False
 |.error e=>CX outer H s E e s'
structure DH (P:Program) (w:World) (K:AI) (mg:AMA) (base:Heap) (CX:FL) (k:Nat) (f:Addr) (fd:FuncData) (ps:AMB) (sp:Sp):Prop where
 len:∀vs H Q E,sp vs H Q E->vs.length=ps.length
 run:∀(A:Around) (outer:List Env) (s:Shared) (H:Hp) (args:Args) (us:AMC) (vs:List V) (Q:VK) (E:XK),Room k A->Gv P w K mg base A outer s H->BindsTo s fd args (ps.zip us)->AV vs us->sp vs H Q E ->
  codeAny (model P w) A (.call (.ref f) args) (CR CX outer P w H s Q E) s
def DH.mono{P:Program}{w:World}{K:AI}{mg:AMA}{base:Heap}{CX:FL}{j k:Nat}{f:Addr}{fd:FuncData}{ps:AMB}{sp:Sp}(F:DH P w K mg base CX j f fd ps sp)(h:j<=k) :
  DH P w K mg base CX k f fd ps sp:=⟨F.len,λA outer s H args us vs Q E hr=>F.run A outer s H args us vs Q E (hr.mono h)⟩
def DH.imp{P:Program}{w:World}{K:AI}{mg:AMA}{base:Heap}{CX:FL}{k:Nat}{f:Addr}{fd:FuncData}{ps:AMB}{sp sp':Sp}(F:DH P w K mg base CX k f fd ps sp)
  (h:∀vs H Q E,sp' vs H Q E->sp vs H Q E):DH P w K mg base CX k f fd ps sp' :=
 ⟨λvs H Q E q=>F.len vs H Q E (h _ _ _ _ q),λA outer s H args us vs Q E hr he hb hv hs=>F.run A outer s H args us vs Q E hr he hb hv (h _ _ _ _ hs)⟩
def Gv.make{P:Program}{w:World}{K:AI}{mg:AMA}{base:Heap}{A:Around}{outer:List Env}{s:Shared}{H:Hp}(e:Gv P w K mg base A outer s H)(C:Addr)(us:AMC)(kw:List (Str×Value)) :
  Gv P w K mg base (A.under (.builtin "type.__call__" ⟨.ref C::us,kw⟩)) outer s H:=⟨by first|exact e.frames|(simpa[Around.under,Code.envs,Code.isFrame,pushEnvs] using e.frames),e.mod,e.bs,e.bsz,e.funs,e.frf,e.hok,e.bare⟩
def Gv.in1{P:Program}{w:World}{K:AI}{mg:AMA}{base:Heap}{A:Around}{outer:List Env}{s:Shared}{H:Hp}(e:Gv P w K mg base A outer s H) :
  Gv P w K mg base A.in1 outer s H:=⟨e.frames,e.mod,e.bs,e.bsz,e.funs,e.frf,e.hok,e.bare⟩
section
variable {X:Cx}{pins:List (Addr×Obj)}{Y:St}{H:Hp}{s s':Shared}
def AG.env0(I:AG X pins Y H s):Gv X.prog X.w X.K X.mg X.base X.A X.stack s H :=
 ⟨I.ok.frames,I.ok.mod,I.bs,Bu I.ok.bsz I.sz,I.stack,I.stkFree,I.hok,I.bare⟩
def AG.after{Q:VK}{u:Value}(I:AG X pins Y H s)(h:CE X.stack X.prog X.w H s Q u s'):EP X pins Y Q u s':=by obtain⟨v,H',os,bare,un,hok,r,q⟩:=h;obtain⟨hh,g,d,t,os'⟩:=s';obtain rfl:os'=s.os:=os;exact⟨v,H',I.call (h':=hh) (g':=g) (d':=d) (t':=t) (ch:=[]) un hok bare (λb z=>absurd z (by simp)),r,q⟩
end
abbrev Uw(sp:Sp)(dvs:List V)(E:XK)(t:TA):TE:=λY H Q=>t Y H λvs H1=>sp (vs++dvs) H1 Q E
abbrev Uv(C:Addr)(sp:Sp)(dvs:List V)(E:XK)(t:TA):TE:=λY H Q=>t Y H λvs H1=>∀x dx,H1 x=none->H1 dx=none->dx≠x ->
 sp (.ref x::(vs++dvs)) (upd (upd H1 dx (.own x)) x (.ins C dx [])) (λv H2=>v=.non/\Q (.ref x) H2) E
abbrev EG(K:AI)(fd:FuncData)(ps:AMB)(ds:AMC):Prop :=
 ∀(s:Shared) (us:AMC),K.In s.heap->(us++ds).length=ps.length->BindsTo s fd ⟨us,[]⟩ (ps.zip (us++ds))
def EG.all{K:AI}{fd:FuncData}{ps:AMB}(h:∀us:AMC,us.length=ps.length->bindArgs fd ⟨us,[]⟩=pure (ps.zip us)):EG K fd ps []:=λs us _ hl=>by
 rw[FR] at hl ⊢;exact .of_eq (h us hl)
abbrev Iw(CX:FL)(X:Cx)(E:XK):Prop:=∀(pins:List (Addr×Obj)) (Y:St) (H:Hp) (s:Shared) (e:Value) (s':Shared),AG X pins Y H s->CX X.stack H s E e s'->X.xe e s'
section
variable {X:Cx}{CX:FL}{k:Nat}{f C:Addr}{fd:FuncData}{ps:AMB}{sp:Sp}{dvs:List V}{ds:AMC}{E:XK}{x m:Str}{p pos apos:Pos}{e o:Expr}{es:AME}{ta:TE}{t:TA}
def Vf{pins:List (Addr×Obj)}{Y:St}{H:Hp}{s:Shared}{Q:VK}{us:AMC}{vs:List V}(F:DH X.prog X.w X.K X.mg X.base CX k f fd ps sp)(hr:Room k X.A)(hb:EG X.K fd ps ds)(hd:AV dvs ds)(hx:Iw CX X E)
  (I:AG X pins Y H s) (r:AV vs us) (h:sp (vs++dvs) H Q E):wpAny (model X.prog X.w) X.A (call (.ref f) us) (EP X pins Y Q) X.xe s:=by
 have r2:AV (vs++dvs) (us++ds):=r.append hd;have hl:(us++ds).length=ps.length:=by rw[<-r2.length];exact F.len _ _ _ _ h
 refine wpAny_call (codeAny_mono (F.run X.A X.stack s H ⟨us,[]⟩ (us++ds) (vs++dvs) Q E hr I.env0 (hb s us I.kIn hl) r2 h) λr s' hq=>?_)
 cases r with
 |error e=>exact hx pins Y H s e s' I hq
 |ok fl =>
  cases fl with
  |ret u=>exact I.after hq
  |next=>exact False.elim hq
  |brk=>exact False.elim hq
  |cont=>exact False.elim hq
def WH(F:DH X.prog X.w X.K X.mg X.base CX k f fd ps sp)(hr:Room k X.A)(hg:Gl X x)(hm:X.mg x=some (.ref f))(hk:Ec X.K (.ref f)=true)(hb:EG X.K fd ps ds)(hd:AV dvs ds)(hx:Iw CX X E)
  (ha:PA X (e::es) t) (hdb:(x == ("__debug__":Str))=false:=by decide) (he:starEach (e::es) X.env=(false,eval e X.env)::starEach es X.env:=by rfl) (hpl:(backTo pos (starEach es X.env)).any (·.1)=false:=by rfl) :
  PE X (.Call (.Name x p) (e::es) [] pos) (Uw sp dvs E t):=by
 intro pins s Y H Q I h;refine AL1 (Ge I hg hm ?_ hdb);refine ALU (h₀:=X.base) I.ok.mod.kin hk (Ae (ha pos pins s Y H _ I h) λus s1 z2_=>?_) he hpl;obtain⟨vs,H1,I1,r,q⟩:=z2_;refine⟨I1.kIn,?_⟩;exact Vf F hr hb hd hx I1 r q
def ADH(F:DH X.prog X.w X.K X.mg X.base CX k f fd ps sp)(hr:Room k X.A)(hg:Gl X x)(hm:X.mg x=some (.ref f))(hk:Ec X.K (.ref f)=true)(hb:EG X.K fd ps ds)(hd:AV dvs ds)(hx:Iw CX X E)
  (hdb:(x == ("__debug__":Str))=false:=by decide):PE X (.Call (.Name x p) [] [] pos) (Uw sp dvs E Uu):=by
 intro pins s Y H Q I h;refine AL1 (Ge I hg hm ?_ hdb);exact PySem.W.callWith_K0 I.kIn hk (Vf (us:=[]) F hr hb hd hx I .nil h)
structure Mk (K:AI) (C f:Addr):Prop where
 makes:AK7 K C=true
 init:Be K (.ref C) "__init__"=some (some (.ref f))
 fn:AK8 K (.ref f)=true
 kp:Ec K (.ref C)=true
def AB4{pins:List (Addr×Obj)}{Y:St}{H:Hp}{s:Shared}{Q:VK}{us:AMC}{vs:List V}(M:Mk X.K C f)(F:DH X.prog X.w X.K X.mg X.base CX k f fd ps sp)(hr:Room (k+1) X.A)(hb:EG X.K fd ps ds)(hd:AV dvs ds)
  (hx:Iw CX X E) (I:AG X pins Y H s) (r:AV vs us)
  (h:∀x dx,H x=none->H dx=none->dx≠x->sp (.ref x::(vs++dvs)) (upd (upd H dx (.own x)) x (.ins C dx [])) (λv H2=>v=.non/\Q (.ref x) H2) E) :
  wpAny (model X.prog X.w) X.A (call (.ref C) us) (EP X pins Y Q) X.xe s:=by
 have hq:=h (s.heap.objs.size+1) s.heap.objs.size (I.hok.fresh (AKp _)) (I.hok.fresh (Ac _)) (BN (ALT _));have I2:=AG.made (C:=C) I;have r2:AV (V.ref (s.heap.objs.size+1)::(vs++dvs)) (Value.ref (s.heap.objs.size+1)::(us++ds)):=.cons rfl (r.append hd)
 have hl:(Value.ref (s.heap.objs.size+1)::us++ds).length=ps.length:=by have e:=r2.length;rw[F.len _ _ _ _ hq] at e;exact e.symm
 refine wpAny_call (AD6 (f:=f) I.kIn M.makes M.init (beq_iff_eq.mp M.fn) (codeAny_mono (F.run _ X.stack _ _ ⟨Value.ref (s.heap.objs.size+1)::us,[]⟩ (Value.ref (s.heap.objs.size+1)::(us++ds)) _ _ E (hr.make C us [])
  (I2.env0.make C us []) (hb _ (Value.ref (s.heap.objs.size+1)::us) I2.kIn hl) r2 hq) λr s' hq'=>?_))
 cases r with
 |error e=>exact hx pins Y _ _ e s' I2 hq'
 |ok fl =>
  cases fl with
  |ret u =>
   obtain⟨v,H',I3,rv,ev,q3⟩:=I2.after hq';subst ev;exact⟨rv,⟨V.ref (s.heap.objs.size+1),H',I3,rfl,q3⟩⟩
  |next=>exact False.elim hq'
  |brk=>exact False.elim hq'
  |cont=>exact False.elim hq'
def AC7(M:Mk X.K C f)(F:DH X.prog X.w X.K X.mg X.base CX k f fd ps sp)(hr:Room (k+1) X.A)(hg:Gl X x)(hm:X.mg x=some (.ref C))(hb:EG X.K fd ps ds)(hd:AV dvs ds)(hx:Iw CX X E)
  (ha:PA X (e::es) t) (hdb:(x == ("__debug__":Str))=false:=by decide) (he:starEach (e::es) X.env=(false,eval e X.env)::starEach es X.env:=by rfl) (hpl:(backTo pos (starEach es X.env)).any (·.1)=false:=by rfl) :
  PE X (.Call (.Name x p) (e::es) [] pos) (Uv C sp dvs E t):=by
 intro pins s Y H Q I h;refine AL1 (Ge I hg hm ?_ hdb);refine ALU (h₀:=X.base) I.ok.mod.kin M.kp (Ae (ha pos pins s Y H _ I h) λus s1 z2_=>?_) he hpl;obtain⟨vs,H1,I1,r,q⟩:=z2_;refine⟨I1.kIn,?_⟩;exact AB4 M F hr hb hd hx I1 r q
end
structure Ap (N P:AMB) (sc:Scope):Prop where
 kind:sc.kind=.function
 co:sc.isCoroutine=false
 gen:sc.isGenerator=false
 nd:N.Nodup
 pre:N.take P.length=P
 par:∀x∈P,sc.names.lookup x=some .local\/sc.names.lookup x=some .cell
 nofree:∀y∈sc.names,y.2≠.free
def Yh{kindOf:Str->Option NameKind}{x:Str}:∀{binds:List (Str×Value)} {m:AMA},(∀v,(x,v)∉binds)->bindL kindOf binds m x=m x
 |[],_,_=>rfl
 |(n,v)::r,m,h=>by
  unfold bindL;rw[Yh λw hw=>h w (Az _ hw)];split
  .have:x≠n:=by rintro rfl;exact h v BC
   simp[this]
  .rfl
def Yj{kindOf:Str->Option NameKind}{x:Str}:∀{binds:List (Str×Value)} {m:AMA},(∀v,(x,v)∉binds)->bindC kindOf binds m x=m x
 |[],_,_=>rfl
 |(n,v)::r,m,h=>by
  unfold bindC;rw[Yj λw hw=>h w (Az _ hw)];split
  .rfl
  .have:x≠n:=by rintro rfl;exact h v BC
   simp[this]
def Yi{kindOf:Str->Option NameKind}{x:Str}{v:Value}:∀{P:AMB} {vs:AMC} {i:Nat} {m:AMA},P.Nodup->P[i]?=some x->vs[i]?=some v->kindOf x=some .local ->
  bindL kindOf (P.zip vs) m x=some v
 |[],_,_,_,_,h,_,_=>by simp at h
 |_::_,[],_,_,_,_,h,_=>by simp at h
 |p::P,w::vs,0,m,nd,h1,h2,hk=>by
  simp at h1 h2;subst h1;subst h2;show bindL kindOf ((p,w)::P.zip vs) m p=_;unfold bindL;rw[Yh λv hv=>(AKZ.mp nd).1 (List.of_mem_zip hv).1,if_pos hk];simp
 |p::P,w::vs,i+1,m,nd,h1,h2,hk=>by
  show bindL kindOf ((p,w)::P.zip vs) m x=_;unfold bindL;exact Yi (i:=i) (AKZ.mp nd).2 (by simpa using h1) (by simpa using h2) hk
def Yk{kindOf:Str->Option NameKind}{x:Str}{v:Value}:∀{P:AMB} {vs:AMC} {i:Nat} {m:AMA},P.Nodup->P[i]?=some x->vs[i]?=some v->kindOf x≠some .local ->
  bindC kindOf (P.zip vs) m x=some v
 |[],_,_,_,_,h,_,_=>by simp at h
 |_::_,[],_,_,_,_,h,_=>by simp at h
 |p::P,w::vs,0,m,nd,h1,h2,hk=>by
  simp at h1 h2;subst h1;subst h2;show bindC kindOf ((p,w)::P.zip vs) m p=_;unfold bindC;rw[Yj λv hv=>(AKZ.mp nd).1 (List.of_mem_zip hv).1,if_neg hk];simp
 |p::P,w::vs,i+1,m,nd,h1,h2,hk=>by
  show bindC kindOf ((p,w)::P.zip vs) m x=_;unfold bindC;exact Yk (i:=i) (AKZ.mp nd).2 (by simpa using h1) (by simpa using h2) hk
abbrev Fq(N:AMB)(vs:List V):St:=vs.map some++AKa (N.length-vs.length) none
abbrev BV(CX:FL)(P:Program)(w:World)(K:AI)(mg:AMA)(base:Heap)(N:AMB)(qual:Str)(scope:Scope)(f:Addr)(cd:Value)(A:Around)(outer:List Env)(s:Shared)(H:Hp)(E:XK):Cx where
 prog:=P
 w:=w
 K:=K
 mg:=mg
 base:=base
 A:=A.deeper (envOfC qual scope s.heap.objs.size f cd)
 N:=N
 s₀:=s
 H₀:=H
 env:=envOfC qual scope s.heap.objs.size f cd
 outer:=outer
 stack:=envOfC qual scope s.heap.objs.size f cd::outer
 ex:=[]
 calm:=true
 fn:=λ_=>true
 pn:=[]
 xe:=λe s'=>wpAny (model P w) (A.deeper (envOfC qual scope s.heap.objs.size f cd)) (leaving (envOfC qual scope s.heap.objs.size f cd) e) (λ_ s''=>CX outer H s E e s'') (λe' s''=>CX outer H s E e' s'') s'
def Ye{sc:Scope}{n:Nat}{x:Str}(h:sc.names.lookup x=some .cell):∃c,(cellsFrom n sc.names []).lookup x=some c:=by have q:=PySem.W.cellsFrom_some sc.names n [] (.inl h);exact ALV.mp q
def AEr{CX:FL}{P:Program}{w:World}{K:AI}{mg:AMA}{base:Heap}{N ps:AMB}{qual:Str}{scope:Scope}{f:Addr}{cd:Value}{A:Around}{outer:List Env}{s s1:Shared}{H:Hp}{E:XK}{us:AMC}{vs:List V}
  (S:Ap N ps scope) (hd:A.handled=none) (e0:Gv P w K mg base A outer s H) (hl:vs.length=ps.length) (r:AV vs us)
  (x:InCallC s s.heap.objs.size (bindL (envOfC qual scope s.heap.objs.size f cd).kindOf (ps.zip us) λ_=>none) (cellsFrom (s.heap.objs.size+1) scope.names []) (bindC (envOfC qual scope s.heap.objs.size f cd).kindOf (ps.zip us) λ_=>none) s1) :
  AG (BV CX P w K mg base N qual scope f cd A outer s H E) [] (Fq N vs) H s1:=by
 have hpl:ps.length<=N.length:=by have:=congrArg List.length S.pre;rw[FP] at this;omega
 obtain⟨h1,tk,rfl,hk⟩:=x.done;have noA:∀b:Addr,b∉(BV CX P w K mg base N qual scope f cd A outer s H E).ex:=λb z=>absurd (show b∈([]:AMD) from z) (by simp)
 refine⟨⟨e0.mod,S.kind,rfl,rfl,Ac _,λy z c h1 h2=>?_,λy hy=>?_,λy c _ h=>?_,λ_=>hd,Around.frames_deeper e0.frames,.inr ⟨rfl,rfl⟩,λb z=>absurd z (noA b),e0.bs,e0.bsz,λb _ _=>noA b,λb z=>absurd z (noA b),e0.funs,e0.frf⟩,
  rfl,e0.bare,Un.kept hk,⟨_,x.toInCall.ns,λi y v h1 h2 h3=>?_⟩,λy c h=>⟨_,x.cell y c h⟩,e0.hok.fresh (Ac _),λy c h=>?_,λp hp=>absurd (show p∈([]:List (Addr×Obj)) from hp) (by simp),e0.hok.kept hk,?_⟩
 .exact name_of_addr x.apart (PySem.mem_of_lookup h1) (PySem.mem_of_lookup h2)
 .have hy:scope.names.lookup y=some .cell\/scope.names.lookup y=some .free:=hy;rcases hy with hy|hy
  .exact Ye hy
  .exact absurd rfl (S.nofree _ (PySem.mem_of_lookup hy))
 .exact Nat.le_of_lt (x.above y c (PySem.mem_of_lookup h))
 .have hi:i<vs.length:=by
   unfold Fq at h2
   by_cases hi:i<vs.length
   .exact hi
   .rw[AKc (by simpa using hi)] at h2;rw[ALW] at h2;split at h2 <;> cases h2
  have ha:vs[i]?=some v:=by
   unfold Fq at h2;rw[Dx (by simpa using hi),Av] at h2
   cases e:vs[i]? with
   |none=>rw[e] at h2;cases h2
   |some a=>rw[e] at h2;cases h2;rfl
  obtain⟨u,hu,rv⟩:=r.get ha
  have hp:ps[i]?=some y:=by rw[<-S.pre,List.getElem?_take_of_lt (by omega)];exact h1
  have ndP:ps.Nodup:=by rw[<-S.pre];exact S.nd.sublist (List.take_sublist _ _)
  refine⟨u,rv,?_⟩;rcases S.par y (Bv hp) with k|k
  .exact .inl ⟨k,Yi ndP hp hu k⟩
  .obtain⟨c,e⟩:=Ye (n:=s.heap.objs.size+1) k;refine .inr ⟨.inl k,c,e,?_⟩;have q:=x.cell y c e;rw[Yk ndP hp hu (by show scope.names.lookup y≠_;rw[k];decide)] at q;exact q
 .exact e0.hok.fresh (Nat.le_of_lt (x.above y c (PySem.mem_of_lookup h)))
 .unfold Fq;show _=N.length;rw[Bc,Ag,ALl];omega
def Xu{CX:FL}{P:Program}{w:World}{K:AI}{mg:AMA}{base:Heap}{k:Nat}{f:Addr}{name qual:Str}{params:Arguments}{body:AMF}{scope:Scope}{dV kV doc pm cdv ct oc:Value}{an od:Option Addr}
  {osl:Array (Option Value)} {N ps:AMB} {sp:Sp} (lk:K.lookup f=some ⟨oc,od,.func (AKd name qual params body scope dV kV doc pm an cdv ct),osl⟩) (hcd:ALX K cdv qual=true) (S:Ap N ps scope)
  (len:∀vs H Q E,sp vs H Q E->vs.length=ps.length)
  (hbody:∀(A:Around) (outer:List Env) (s:Shared) (H:Hp) (vs:List V) (Q:VK) (E:XK),Room k (A.deeper (envOfC qual scope s.heap.objs.size f cdv))->sp vs H Q E ->
   ∃t,Ct (BV CX P w K mg base N qual scope f cdv A outer s H E) body t/\t {nx:=λ_ H'=>Q .non H',rt:=Q} (Fq N vs) H) :
  DH P w K mg base CX (k+1) f (AKd name qual params body scope dV kV doc pm an cdv ct) ps sp:=by
 refine⟨len,λA outer s H args us vs Q E hr e0 hb r hsp=>?_⟩;have hl:=len _ _ _ _ hsp;have KX:K.In s.heap:=e0.mod.kin.keeps λb o e=>(e0.bs b o e).1;have lim:s.heap.NoLimit:=e0.mod.nolimit.keeps λb o e=>(e0.bs b o e).1
 have hkind:∀y∈ps.zip us,scope.names.lookup y.1=some .local\/(scope.names.lookup y.1=some .cell/\((cellsFrom (s.heap.objs.size+1) scope.names []).lookup y.1).isSome=true):=λ⟨n,v⟩ hy=>by
  rcases S.par n (List.of_mem_zip hy).1 with q|q
  .exact .inl q
  .exact .inr ⟨q,PySem.W.cellsFrom_some _ _ _ (.inl q)⟩
 refine codeAny_call_function hr.depth (KX _ _ lk) rfl S.co S.gen rfl (PySem.W.codeRec_of KX hcd) (hb _ _ _ _ ?_);refine wpAny_newFunctionEnv_cells S.kind hkind λenv he s1 x=>?_;subst he;refine⟨lim.keeps x.toInCall.keep,codeAny_func ?_⟩;obtain⟨t,ht,hq⟩:=hbody A outer s H vs Q E (hr.deeper _) hsp;have I:AG (BV CX P w K mg base N qual scope f cdv A outer s H E) [] (Fq N vs) H s1:=AEr S hr.hd e0 hl r x;refine Dc (ht [] s1 (Fq N vs) H _ I hq) (λfl s' hs=>?_) λe s' hs=>hs
 have fin:∀{Y':St} {H':Hp} {v:V} {u:Value},AG (BV CX P w K mg base N qual scope f cdv A outer s H E) [] Y' H' s'->AX v u->Q v H'->CE outer P w H s Q u s' :=
  λ{Y' H' v u} J rv q=>⟨v,H',J.os,J.bare,J.base,J.hok,rv,q⟩
 cases fl with
 |ret u =>
  obtain⟨v,Y',H',J,rv,q⟩:=hs;exact fin J rv q
 |next =>
  obtain⟨Y',H',J,q⟩:=hs;exact fin (v:=V.non) (u:=Value.none) J rfl q
 |brk =>
  obtain⟨_,_,_,q⟩:=hs;exact False.elim q
 |cont =>
  obtain⟨_,_,_,q⟩:=hs;exact False.elim q
section
variable {X:Cx}{x:Str}{p pos:Pos}{e:Expr}{es:AME}{t:TA}{id T:String}{r:List V->Hp->VK->Prop}
abbrev Ux(r:List V->Hp->VK->Prop)(t:TA):TE:=λY H Q=>t Y H λvs H1=>r vs H1 Q
def Re(hc:CD X (.builtin id) r)(hg:Gl X x)(hm:X.mg x=none)(hv:bootBuiltins x=some (.builtin id))(ha:PA X (e::es) t)(hn:x≠"__name__":=by decide)(hdb:(x == ("__debug__":Str))=false:=by decide)
  (he:starEach (e::es) X.env=(false,eval e X.env)::starEach es X.env:=by rfl) (hpl:(backTo pos (starEach es X.env)).any (·.1)=false:=by rfl):PE X (.Call (.Name x p) (e::es) [] pos) (Ux r t):=by
 intro pins s Y H Q I h;refine AL1 (HD I hg hm hv ?_ hn hdb);exact PyProof.Rows.callWith_builtin1 (Ae (ha pos pins s Y H _ I h) λus s1 z2_=>(by obtain⟨vs,H1,I1,r1,q1⟩:=z2_;exact hc pins s1 Y H1 vs us Q I1 r1 q1)) he hpl
def ADG(hc:CD X (.type T) r)(hg:Gl X x)(hm:X.mg x=none)(hv:bootBuiltins x=some (.type T))(ha:PA X (e::es) t)(hn:x≠"__name__":=by decide)(hdb:(x == ("__debug__":Str))=false:=by decide)
  (he:starEach (e::es) X.env=(false,eval e X.env)::starEach es X.env:=by rfl) (hpl:(backTo pos (starEach es X.env)).any (·.1)=false:=by rfl):PE X (.Call (.Name x p) (e::es) [] pos) (Ux r t):=by
 intro pins s Y H Q I h;refine AL1 (HD I hg hm hv ?_ hn hdb);exact PyProof.Rows.callWith_type1 (Ae (ha pos pins s Y H _ I h) λus s1 z2_=>(by obtain⟨vs,H1,I1,r1,q1⟩:=z2_;exact hc pins s1 Y H1 vs us Q I1 r1 q1)) he hpl
end
end L2
namespace HT
open PySem PyProof.Rows
section
variable {prog:Program}{w:World}{A:Around}{E:AMI}{s:Shared}
def AKA{t b:Addr}{vs ws:AMC}{Q:AMI}(ht:IsTup s.heap t vs.toArray)(hb:IsTup s.heap b ws.toArray)(hv:vs≠[])
  (h1:ws=[]->Q (.ref t) s) (h2:ws≠[]->Q (.ref s.heap.objs.size) {s with heap:=s.heap.push {cls:=.type "tuple",data:=.seq (vs++ws).toArray}})
  (hsz:vs.length+ws.length<=sizeLine):wpAny (model prog w) A (binaryOp .Add (.ref t) (.ref b)) Q E s:=by
 obtain⟨⟨cls,dd,data,sl⟩,ho,hc,n,hd⟩:=id ht;obtain⟨⟨cls2,dd2,data2,sl2⟩,ho2,hc2,n2,hd2⟩:=id hb;simp only at hc hd hc2 hd2;subst hc hd hc2 hd2;have e:vs.toArray++ws.toArray=(vs++ws).toArray:=by simp
 by_cases hw:ws=[]
 .exact concat_meets ⟨_,ho,rfl⟩ ⟨_,ho2,rfl⟩ noFill_tuple_add seq_tuple_add ALm ALn (ALo _ _)
   (tuple_addW1 t b vs.toArray ws.toArray n n2 dd dd2 sl sl2 (by simpa using hv) (by simp[hw])) ⟨ho,ho2,h1 hw⟩
 .refine concat_meets ⟨_,ho,rfl⟩ ⟨_,ho2,rfl⟩ noFill_tuple_add seq_tuple_add ALm ALn (ALo _ _)
   (tuple_addW2 t b vs.toArray ws.toArray n n2 dd dd2 sl sl2 (by simpa using hv) (by simpa using hw) (by rw[Bi,Bi];exact hsz)) ⟨ho,ho2,?_⟩
  rw[e];exact h2 hw
abbrev sIx(n d:Nat):Option Int->Nat
 |none=>d
 |some v=>if v<0 then (v+(n:Int)).toNat else min v.toNat n
def AIK(n d k:Nat):sIx n d (some (k:Int))=min k n:=by
 show(if (k:Int)<0 then ((k:Int)+(n:Int)).toNat else min (k:Int).toNat n)=min k n
 rw[if_neg (by omega),AKe]
def AB1(n d:Nat)(hd:d<=n)(o:Option Int):sIx n d o<=n:=by
 cases o with
 |none=>exact hd
 |some v =>
  show(if v<0 then (v+(n:Int)).toNat else min v.toNat n)<=n
  by_cases hv:v<0
  .rw[if_pos hv];omega
  .rw[if_neg hv];exact Nat.min_le_right _ _
def Yd(v:Int)(n d:Nat):(if v<0 then max (v+(n:Int)) 0 else min v (n:Int))=((sIx n d (some v):Nat):Int):=by
 show(if v<0 then max (v+(n:Int)) 0 else min v (n:Int))=(((if v<0 then (v+(n:Int)).toNat else min v.toNat n):Nat):Int)
 by_cases hv:v<0
 .simp only[if_pos hv];omega
 .simp only[if_neg hv];omega
def AGz(lo hi:Option Int)(n:Nat):Builtin.Slice.sliceAdjust lo hi 1 (n:Int)=(((sIx n 0 lo:Nat):Int),((sIx n n hi:Nat):Int)):=by
 have h1:¬((1:Int)<0):=by omega
 unfold Builtin.Slice.sliceAdjust;simp only[h1,if_false];refine Prod.ext ?_ ?_
 .cases lo with
  |none=>rfl
  |some v=>exact Yd v n 0
 .cases hi with
  |none=>rfl
  |some v=>exact Yd v n n
def ACm(i j:Nat):Builtin.Slice.slicePlaces (i:Int) (j:Int) 1=j-i:=by
 unfold Builtin.Slice.slicePlaces;have h1:(1:Int)>0:=by omega
 simp only[h1,if_true,Int.ediv_one];split <;> omega
def VX{v:Value}{o:Option Int}{Q:Option Int->Shared->Prop}(p:IsPart v o)(h:Q o s):wpAny (model prog w) A (Builtin.Slice.slicePartIndex v) Q E s:=by
 cases p with
 |none=>exact slicePart_none h
 |int i t=>exact slicePart_int h
def VY{sl:Addr}{vl vu:Value}{lo hi:Option Int}{n:Nat}{Q:Int×Int×Nat->Shared->Prop}(hs:s.heap.IsSliceOf sl vl vu .none)(pl:IsPart vl lo)(pu:IsPart vu hi)
  (h:Q (((sIx n 0 lo:Nat):Int),1,sIx n n hi-sIx n 0 lo) s):wpAny (model prog w) A (Builtin.Slice.sliceApplied (.ref sl) (pure (n:Int))) Q E s:=by
 obtain⟨os,hos,hcs,hds⟩:=id hs;unfold Builtin.Slice.sliceApplied Builtin.Slice.sliceFields;refine AE (AE (EH hos hds (x:=vl) rfl (AE (EH hos hds (x:=vu) rfl (AE (EH hos hds (x:=.none) rfl (AK ?_)))))));refine AE (slicePart_none ?_)
 show wpAny _ _ (if ((1:Int) == 0)=true then _ else _) _ _ s
 rw[if_neg (by decide)];refine AE (VX pl (AE (VX pu (AE (AK ?_)))))
 show wpAny _ _ (match Builtin.Slice.sliceAdjust lo hi 1 (n:Int) with|(lo,hi)=>pure (lo,(1:Int),Builtin.Slice.slicePlaces lo hi 1)) _ _ s
 rw[AGz lo hi n];show wpAny _ _ (pure (((sIx n 0 lo:Nat):Int),(1:Int),Builtin.Slice.slicePlaces ((sIx n 0 lo:Nat):Int) ((sIx n n hi:Nat):Int) 1)) _ _ s;rw[ACm];exact AK h
def ACp(xs:Array Value)(i k:Nat):((List.range k).filterMap λ(m:Nat)=>xs[((i:Int)+(m:Int)*1).toNat]?).toArray=((xs.toList.drop i).take k).toArray:=by
 have e:(λ(m:Nat)=>xs[((i:Int)+(m:Int)*1).toNat]?)=λm=>xs[i+m]?:=by
  funext m
  have:((i:Int)+(m:Int)*1).toNat=i+m:=by omega
  rw[this]
 rw[e];have:=pick_run xs i k;rw[ALL] at this;have e2:((λx=>xs[x]?)∘λx=>i+x)=λm=>xs[i+m]?:=rfl;rw[e2] at this;rw[this]
def AI9{t sl:Addr}{items:Array Value}{vl vu:Value}{lo hi:Option Int}{Q:AMI}(ht:IsTup s.heap t items)(hs:s.heap.IsSliceOf sl vl vu .none)(pl:IsPart vl lo)(pu:IsPart vu hi)
  (hw:¬(sIx items.size 0 lo=0/\sIx items.size items.size hi=items.size))
  (h:Q (.ref s.heap.objs.size) {s with heap:=s.heap.push {cls:=.type "tuple",data:=.seq ((items.toList.drop (sIx items.size 0 lo)).take (sIx items.size items.size hi-sIx items.size 0 lo)).toArray}})
  (hsz:items.size<=sizeLine):wpAny (model prog w) A (getItem (.ref t) (.ref sl)) Q E s:=by
 have htake:sizeOk (.seq ((items.toList.drop (sIx items.size 0 lo)).take (sIx items.size items.size hi-sIx items.size 0 lo)).toArray):=by show((items.toList.drop (sIx items.size 0 lo)).take (sIx items.size items.size hi-sIx items.size 0 lo)).toArray.size<=sizeLine;rw[Bi,FP,List.length_drop,ALS];omega
 have hj:sIx items.size items.size hi<=items.size:=AB1 _ _ (Ac _) hi;obtain⟨os,hos,hcs,hds⟩:=id hs;have hTs:s.TypeIs (.ref sl) "slice":=⟨os,hos,hcs⟩;unfold getItem
 try with_reducible refine DJ ?_
 first|refine AE (AK ?_)|skip
 refine AE (wpAny_sequenceKey ht.typeIs (by decide) ?_)
 refine AE (AL2 (name:=Str.ofString "__getitem__") ht.typeIs PyProof.Rows.slot_tuple_getitem
  (Fg PyProof.Rows.slot_tuple_getitem ht.typeIs entry_tuple_getitem ?_ (args_tuple_getitem _ _)))
 show wpAny _ _ (Builtin.Tuple.tupleItemsOf (.ref t) >>= _) _ _ s;refine AE (tupleItemsOf_ ht ?_);refine AE (wpAny_typeOf hTs ?_);rw[if_pos (by decide)];refine AE (VY hs pl pu ?_)
 have hno:¬((((sIx items.size 0 lo:Nat):Int) == 0&&(1:Int) == 1&&(sIx items.size items.size hi-sIx items.size 0 lo) == items.size)=true):=by intro q;rw[CA,CA] at q;have q1:((sIx items.size 0 lo:Nat):Int)=0:=eq_of_beq q.1.1;have q2:sIx items.size items.size hi-sIx items.size 0 lo=items.size:=eq_of_beq q.2;exact hw ⟨by omega,by omega⟩
 show wpAny _ _ (if (((sIx items.size 0 lo:Nat):Int) == 0&&(1:Int) == 1&&(sIx items.size items.size hi-sIx items.size 0 lo) == items.size)=true then _ else _) _ _ s
 rw[if_neg hno,ACp]
 first
  |exact AE (m:=Builtin.Tuple.tupleExact _) (AL3 (AK ⟨_,rfl,AK h⟩) htake)
  |exact AE (m:=Builtin.Tuple.tupleExact _) (AL3 (AE (AK (AK ⟨_,rfl,AK h⟩))) htake)
  |exact AE (AE (m:=Builtin.Tuple.tupleExact _) (AL3 (AK (AK ⟨_,rfl,AK h⟩)) htake))
  |exact AE (AE (m:=Builtin.Tuple.tupleExact _) (AL3 (AK ⟨_,rfl,AK h⟩) htake))
end
end HT
namespace L2
open PySem PySem.Spec PyProof.Rows
noncomputable abbrev TO:=St->Hp->(Option Int->Hp->Prop)->Prop
abbrev PO(X:Cx)(e:Option Expr)(t:TO):Prop :=
 ∀(pins:List (Addr×Obj)) (s:Shared) (Y:St) (H:Hp) (Q:Option Int->Hp->Prop),AG X pins Y H s->t Y H Q ->
  wpAny (model X.prog X.w) X.A (evalPart e X.env) (λu s'=>∃o H',AG X pins Y H' s'/\IsPart u o/\Q o H') X.xe s
abbrev ABF:TO:=λ_ H Q=>Q none H
abbrev ABA(t:TE):TO:=λY H Q=>t Y H λx H1=>∃i,x=.int i/\Q (some i) H1
section
variable {X:Cx}{e:Expr}{te:TE}{lo hi:Option Expr}{tl th:TO}{pos p2:Pos}
def ACl:PO X none ABF:=by intro pins s Y H Q I h;rw[evalPart_none];exact AK ⟨none,H,I,.none,h⟩
def ACk(h:PE X e te):PO X (some e) (ABA te):=by intro pins s Y H Q I hw;rw[evalPart_some];refine Ae (h pins s Y H _ I hw) λu s1 z2_=>?_;obtain⟨x,H1,I1,r1,q1⟩:=z2_;obtain⟨i,rfl,q⟩:=q1;obtain⟨t,rfl⟩:=r1;exact⟨some i,H1,I1,.int i t,q⟩
abbrev Fc(X:Cx)(r:V->Option Int->Option Int->Hp->VK->Prop):Prop :=
 ∀(pins:List (Addr×Obj)) (s:Shared) (Y:St) (H:Hp) (x:V) (v vl vu:Value) (lo hi:Option Int) (sl:Addr) (Q:VK),AG X pins Y H s->AX x v->s.heap.IsSliceOf sl vl vu .none->IsPart vl lo->IsPart vu hi->r x lo hi H Q ->
  ∃T id,typeLookup (.type T) "__getitem__"=pure (some (.builtin id))/\s.TypeIs v T/\wpAny (model X.prog X.w) X.A (getItem v (.ref sl)) (EP X pins Y Q) X.xe s
def Fc.or{r r':V->Option Int->Option Int->Hp->VK->Prop}(h:Fc X r)(h':Fc X r'):Fc X (λx lo hi H Q=>r x lo hi H Q\/r' x lo hi H Q):=by
 intro pins s Y H x v vl vu lo hi sl Q I rx hs pl pu q;rcases q with q|q
 .exact h pins s Y H x v vl vu lo hi sl Q I rx hs pl pu q
 .exact h' pins s Y H x v vl vu lo hi sl Q I rx hs pl pu q
abbrev tSl(r:V->Option Int->Option Int->Hp->VK->Prop)(te:TE)(tl th:TO):TE:=λY H Q=>te Y H λx H1=>tl Y H1 λl H2=>th Y H2 λu H3=>r x l u H3 Q
def AC1{r:V->Option Int->Option Int->Hp->VK->Prop}(hr:Fc X r)(he:PE X e te)(hl:PO X lo tl)(hu:PO X hi th):PE X (.Subscript e (.Slice lo hi none p2) pos) (tSl r te tl th):=by intro pins s Y H Q I h;refine Subscript_ (Ae (he pins s Y H _ I h) λv s1 z2_=>?_);obtain⟨x,H1,I1,r1,q1⟩:=z2_;refine wpAny_Slice (Ae (hl pins s1 Y H1 _ I1 q1) λvl s2 z2_=>?_);obtain⟨l,H2,I2,pl,q2⟩:=z2_;refine Ae (hu pins s2 Y H2 _ I2 q2) λvu s3 z2_=>?_;obtain⟨u,H3,I3,pu,q3⟩:=z2_;rw[evalPart_none];refine AK ?_;have I4:AG X pins Y H3 {s3 with heap:=s3.heap.push {cls:=.type "slice",data:=.fields #[vl,vu,.none]}}:=I3.kept (t':=s3.toks) λb ob q=>Heap.get?_push_of_some _ q;obtain⟨T,id,hT,ht,hg⟩:=hr pins {s3 with heap:=s3.heap.push {cls:=.type "slice",data:=.fields #[vl,vu,.none]}} Y H3 x v vl vu l u s3.heap.objs.size Q I4 r1 (Heap.IsSliceOf.new ..) pl pu q3;show wpAny (model X.prog X.w) X.A (subscriptTail e (.Slice lo hi none p2) v (.ref s3.heap.objs.size)) (EP X pins Y Q) X.xe {s3 with heap:=s3.heap.push {cls:=.type "slice",data:=.fields #[vl,vu,.none]}};exact tail_any (ops:=[.ref s3.heap.objs.size,v]) ht hT hg (by with_unfolding_all rfl)
abbrev GC(xs:List V)(lo hi:Option Int):List V:=(xs.drop (HT.sIx xs.length 0 lo)).take (HT.sIx xs.length xs.length hi-HT.sIx xs.length 0 lo)
def YW(xs:List V)(lo hi:Option Int):(GC xs lo hi).length<=xs.length:=by unfold GC;rw[FP,List.length_drop];omega
abbrev ACC(K:AI):V->Option Int->Option Int->Hp->VK->Prop:=λx lo hi H Q=>∃a xs,x=.ref a/\BW K H a xs /\
 ¬(HT.sIx xs.length 0 lo=0/\HT.sIx xs.length xs.length hi=xs.length)/\∀p,H p=none->Q (.ref p) (upd H p (.tup (GC xs lo hi)))
def ABk:Fc X (ACC X.K):=by
 intro pins s Y H x v vl vu lo hi sl Q I rx hs pl pu h;obtain⟨a,xs,rfl,hx,hw,q⟩:=h;cases rx;obtain⟨its,r,ht,hz⟩:=I.tuple hx;have hlen:its.toArray.size=xs.length:=by rw[Bi];exact r.length.symm
 refine⟨"tuple",_,PyProof.Rows.slot_tuple_getitem.lookup,ht.typeIs,?_⟩;refine HT.AI9 ht hs pl pu (by rw[hlen];exact hw) ?_ (by rw[hlen];exact hz);rw[hlen];refine⟨.ref s.heap.objs.size,_,I.laid (t':=s.toks) (o:=.tup (GC xs lo hi)) (λb ob q=>Heap.get?_push_of_some _ q) (Ac _) ?_,rfl,q _ (I.hok.fresh (Ac _))⟩;exact⟨Bu (YW xs lo hi) hz,_,(r.drop (HT.sIx xs.length 0 lo)).take (HT.sIx xs.length xs.length hi-HT.sIx xs.length 0 lo),IsTup.new _ _⟩
abbrev ACJ(K:AI):R2:=λx y H Q=>∃a b xs ys,x=.ref a/\y=.ref b/\BW K H a xs/\BW K H b ys/\xs≠[]/\xs.length+ys.length<=sizeLine /\
 (ys=[]->Q (.ref a) H)/\(ys≠[]->∀p,H p=none->Q (.ref p) (upd H p (.tup (xs++ys))))
def AV.nil_iff{xs:List V}{us:AMC}(r:AV xs us):us=[]↔xs=[]:=by
 cases r with
 |nil=>simp
 |cons _ _=>simp
def ADh:Ao X (binaryOp .Add) (ACJ X.K):=by intro pins s Y H x y v u Q I rx ry h;obtain⟨a,b,xs,ys,rfl,rfl,ha,hb,hx,hz,q1,q2⟩:=h;cases rx;cases ry;obtain⟨its,r1,p1,_⟩:=I.tuple ha;obtain⟨its2,r2,p2,_⟩:=I.tuple hb;refine HT.AKA p1 p2 (λz=>hx (r1.nil_iff.mp z)) (λz=>⟨.ref a,H,I,rfl,q1 (r2.nil_iff.mp z)⟩) (λz=>?_) (by rw[<-r1.length,<-r2.length];exact hz);refine⟨.ref s.heap.objs.size,_,I.laid (t':=s.toks) (o:=.tup (xs++ys)) (λb ob q=>Heap.get?_push_of_some _ q) (Ac _) ?_,rfl,q2 (λw=>z (r2.nil_iff.mpr w)) _ (I.hok.fresh (Ac _))⟩;exact⟨by rw[Bc];exact hz,_,r1.append r2,IsTup.new _ _⟩
end
abbrev ixN(n:Nat)(i:Int):Option Nat:=if 0<=i then (if i<n then some i.toNat else none) else if -(n:Int)<=i then some (i+n).toNat else none
abbrev atI{α:Type}(xs:List α)(i:Int):Option α:=(ixN xs.length i).bind λj=>xs[j]?
def XF{n:Nat}{i:Int}{j:Nat}(h:ixN n i=some j):seqIndex? i n=some j/\j<n/\-(n:Int)<=i/\i<n:=by
 unfold ixN at h
 by_cases h0:0<=i
 .rw[if_pos h0] at h
  by_cases h1:i<n
  .rw[if_pos h1] at h;have e:i.toNat=j:=Option.some.inj h;exact⟨by rw[seqIndex_of h0 h1,e],by omega,by omega,h1⟩
  .rw[if_neg h1] at h;cases h
 .rw[if_neg h0] at h
  by_cases h1:-(n:Int)<=i
  .rw[if_pos h1] at h;have e:(i+n).toNat=j:=Option.some.inj h;exact⟨by rw[seqIndex_neg (by omega) h1,e],by omega,h1,by omega⟩
  .rw[if_neg h1] at h;cases h
def Og{α:Type}{xs:List α}{i:Int}{v:α}(h:atI xs i=some v):∃j,seqIndex? i xs.length=some j/\xs[j]?=some v/\j<xs.length/\-(xs.length:Int)<=i/\i<xs.length:=by
 unfold atI at h
 cases e:ixN xs.length i with
 |none=>rw[e] at h;cases h
 |some j =>
  rw[e] at h;obtain⟨h1,h2,h3,h4⟩:=XF e;exact⟨j,h1,h,h2,h3,h4⟩
def Gm{α:Type}{xs:List α}{j:Nat}{v:α}(h:xs[j]?=some v):atI xs (j:Int)=some v:=by
 have hj:j<xs.length:=(BA.mp h).1
 have e:ixN xs.length (j:Int)=some j:=by unfold ixN;rw[if_pos (by omega),if_pos (by omega)];simp
 unfold atI;rw[e];exact h
def AGl{α:Type}(xs:List α)(v:α):atI (xs++[v]) (-1)=some v:=by
 have hl:(xs++[v]).length=xs.length+1:=by simp
 have e:ixN (xs++[v]).length (-1)=some xs.length:=by
  unfold ixN;rw[hl,if_neg (by decide),if_pos (by omega)]
  congr 1
  omega
 unfold atI;rw[e];show(xs++[v])[xs.length]?=some v;simp
abbrev Sv(b:Expr):Prop:=∀o i,subscripted b false o i=operate [o,i] (getItem o i)
abbrev Ew(X:Cx)(r:R2):Prop :=
 ∀(value slice:Expr) (pins:List (Addr×Obj)) (s:Shared) (Y:St) (H:Hp) (x y:V) (v u:Value) (Q:VK),AG X pins Y H s->AX x v->AX y u->r x y H Q ->
  subscripted slice false v u=operate [v,u] (getItem v u)->wpAny (model X.prog X.w) X.A (subscriptTail value slice v u) (EP X pins Y Q) X.xe s
abbrev Ev(X:Cx)(id:String)(r:V->List V->Hp->VK->Prop):Prop :=
 ∀(pins:List (Addr×Obj)) (s:Shared) (Y:St) (H:Hp) (x:V) (xs:List V) (v:Value) (us:AMC) (Q:VK),AG X pins Y H s->AX x v->AV xs us->r x xs H Q ->
  wpAny (model X.prog X.w) X.A (call (.builtin id) (v::us)) (EP X pins Y Q) X.xe s
section
variable {X:Cx}{a b:Expr}{ta tb:TE}{pos:Pos}
def Ew.or{r r':R2}(h:Ew X r)(h':Ew X r'):Ew X (λx y H Q=>r x y H Q\/r' x y H Q):=by
 intro value slice pins s Y H x y v u Q I rx ry q hs;rcases q with q|q
 .exact h value slice pins s Y H x y v u Q I rx ry q hs
 .exact h' value slice pins s Y H x y v u Q I rx ry q hs
def Ev.or{id:String}{r r':V->List V->Hp->VK->Prop}(h:Ev X id r)(h':Ev X id r'):Ev X id (λx xs H Q=>r x xs H Q\/r' x xs H Q):=by
 intro pins s Y H x xs v us Q I rx rs q;rcases q with q|q
 .exact h pins s Y H x xs v us Q I rx rs q
 .exact h' pins s Y H x xs v us Q I rx rs q
def AC9{r:R2}(hr:Ew X r)(ha:PE X a ta)(hb:PE X b tb)(hs:Sv b):PE X (.Subscript a b pos) (Ku r ta tb):=by intro pins s Y H Q I h;exact Subscript_ (Sh ha hb I h λv u s2 x y H2 I2 rx ry q=>hr a b pins s2 Y H2 x y v u Q I2 rx ry q (hs _ _))
abbrev Vp(K:AI):R2:=λx y H Q=>∃p xs i v,x=.ref p/\y=.int i/\BI K H p xs/\atI xs i=some v/\Q v H
abbrev Vn(K:AI):R2:=λx y H Q=>∃p xs i v,x=.ref p/\y=.int i/\BW K H p xs/\atI xs i=some v/\Q v H
abbrev Vo:R2:=λx y H Q=>∃z i c,x=.str z/\y=.int i/\z.length<=sizeLine/\atI z.cps.toList i=some c/\Q (.str ⟨#[c]⟩) H
def AEk:Ew X (Vp X.K):=by
 intro value slice pins s Y H x y v u Q I rx ry h hs;obtain⟨p,xs,i,z,rfl,rfl,hq,he,q⟩:=h;cases rx;obtain⟨t,rfl⟩:=ry;obtain⟨its,r,pl,hz⟩:=I.list hq;obtain⟨j,h1,h2,h3,h4,h5⟩:=Og he;obtain⟨w,ew,rw'⟩:=r.get h2;have hl:=r.length;have hn:=Jb;have fin:EP X pins Y Q w s:=⟨z,H,I,rw',q⟩
 by_cases h0:0<=i
 .have hj:i.toNat=j:=by
   rw[seqIndex_of h0 h5] at h1;exact Option.some.inj h1
  exact item_listR pl.isList h0 (by omega) (by rw[hj];simpa using ew) fin hs
 .have hj:(i+(its.toArray.size:Int)).toNat=j:=by
   rw[seqIndex_neg (by omega) h4] at h1;rw[Bi,<-hl];exact Option.some.inj h1
  exact subscriptTail_builtinR (x:=w) pl.isList.typeIs slot_list_getitem.lookup
   (wpAny_getItem_list_neg (Q:=λr s'=>r=w/\EP X pins Y Q r s') pl.isList (by omega) (by rw[Bi] <;> omega) (by omega) (by rw[hj];simpa using ew) ⟨rfl,fin⟩) hs
def AEh:Ew X (Vn X.K):=by
 intro value slice pins s Y H x y v u Q I rx ry h hs;obtain⟨p,xs,i,z,rfl,rfl,hq,he,q⟩:=h;cases rx;obtain⟨t,rfl⟩:=ry;obtain⟨its,r,pl,hz⟩:=I.tuple hq;obtain⟨j,h1,h2,h3,h4,h5⟩:=Og he;obtain⟨w,ew,rw'⟩:=r.get h2;have hl:=r.length;have hn:=Jb;have fin:EP X pins Y Q w s:=⟨z,H,I,rw',q⟩
 exact subscriptTail_builtinR (x:=w) pl.typeIs slot_tuple_getitem.lookup
  (getItem_tuple (j:=j) (Q:=λr s'=>r=w/\EP X pins Y Q r s') pl (by omega) (by omega) (by rw[Bi,<-hl];exact h1) (by simpa using ew) ⟨rfl,fin⟩) hs
def AEi:Ew X Vo:=by
 intro value slice pins s Y H x y v u Q I rx ry h hs;obtain⟨z,i,c,rfl,rfl,hz,he,q⟩:=h;obtain⟨t,rfl⟩:=rx;obtain⟨t',rfl⟩:=ry;obtain⟨j,h1,h2,h3,h4,h5⟩:=Og he;have hl:z.cps.toList.length=z.length:=by simp[Str.length]
 rw[hl] at h1 h4 h5;have hn:=Jb
 exact tail_any (typeIs_str s z t) slot_str_getitem.lookup (getItem_str (c:=c) (by
  have e1:decide (i < -(2 ^ 63:Int))=false:=decide_eq_false (by omega);have e2:decide (i ≥ 2 ^ 63)=false:=decide_eq_false (by omega)
  rw[e1,e2,Bool.or_false]) (by rw[h1];simpa using h2) ⟨.str ⟨#[c]⟩,H,I.tok _,⟨_,rfl⟩,q⟩) hs
abbrev rIx(K:AI):R2:=λx y H Q=>Vp K x y H Q\/Vn K x y H Q\/Vo x y H Q
def AEj:Ew X (rIx X.K):=AEk.or (AEh.or AEi)
def AD3(its:AMC)(n j:Nat)(u:Value):Obj.mapSeq (·.setIfInBounds j u) {cls:=.type "list",data:=.seq its.toArray n}={cls:=.type "list",data:=.seq (its.set j u).toArray n}:=by simp[Obj.mapSeq]
def AG.lst{pins:List (Addr×Obj)}{Y:St}{H:Hp}{s:Shared}{p:Addr}{xs:List V}(I:AG X pins Y H s)(h:H p=some (.lst xs)) :
  ∃(its:AMC) (n:Nat),AV xs its/\s.heap.get? p=some {cls:=.type "list",data:=.seq its.toArray n}/\xs.length<=sizeLine:=by
 obtain⟨z,its,n,r,e⟩:=I.hok p _ h;exact⟨its,n,r,e,z⟩
def AG.lstUpd{pins:List (Addr×Obj)}{Y:St}{H:Hp}{s:Shared}{p:Addr}{xs ys:List V}{its its':AMC}{n n':Nat}{f:Obj->Obj}(I:AG X pins Y H s)(h:H p=some (.lst xs))
  (ho:s.heap.get? p=some {cls:=.type "list",data:=.seq its.toArray n}) (hf:f {cls:=.type "list",data:=.seq its.toArray n}={cls:=.type "list",data:=.seq its'.toArray n'}) (r:AV ys its') (hz:ys.length<=sizeLine) (t:Nat) :
  AG X pins Y (upd H p (.lst ys)) {s with heap:=s.heap.update p f,toks:=t}:=by
 have e:(s.heap.update p f).get? p=some {cls:=.type "list",data:=.seq its'.toArray n'}:=by rw[Heap.get?_update_self f ho (by rw[hf] <;> rfl),hf]
 refine I.write (x:=p) (e:=p) (by rw[h];trivial) (.inl rfl) (λb u hb q=>(Heap.get?_update_other _ _ (Ne.symm hb)).trans q) ⟨_,e⟩ ?_;exact⟨hz,its',n',r,e⟩
abbrev ACE:V->V->V->Hp->(Hp->Prop)->Prop:=λo i v H Q=>∃p xs k j,o=.ref p/\i=.int k/\H p=some (.lst xs)/\ixN xs.length k=some j/\Q (upd H p (.lst (xs.set j v)))
def ABs:Sw X ACE:=by
 intro pins s Y H o i v ov iv u Q I ro ri rv h;obtain⟨p,xs,k,j,rfl,rfl,hp,hj,q⟩:=h;cases ro;obtain⟨t,rfl⟩:=ri;obtain⟨its,n,r,ho,hz⟩:=I.lst hp;obtain⟨h1,h2,h3,h4⟩:=XF hj;have hl:=r.length;have hn:=Jb
 have I':AG X pins Y (upd H p (.lst (xs.set j v))) {s with heap:=s.heap.update p (Obj.mapSeq (·.setIfInBounds j u))} :=
  I.lstUpd hp ho (AD3 its n j u) (r.set rv j) (by rw[Fl];exact hz) s.toks
 by_cases h0:0<=k
 .have hk:k.toNat=j:=by
   rw[seqIndex_of h0 h4] at h1;exact Option.some.inj h1
  exact PySem.W.ki_setAt ho h0 (by omega) (by rw[Bi,<-hl];exact h4) (by rw[hk];exact⟨_,I',q⟩)
 .have hk:(k+(its.toArray.size:Int)).toNat=j:=by
   rw[seqIndex_neg (by omega) h3] at h1;rw[Bi,<-hl];exact Option.some.inj h1
  exact PySem.W.ki_setBack ho (by omega) (by rw[Bi,<-hl];exact h3) (by omega) (by rw[hk];exact⟨_,I',q⟩)
def ABh(lo hi:Option Int)(n:Nat):(sliceBounds lo hi none n).1=((HT.sIx n 0 lo:Nat):Int)/\(sliceBounds lo hi none n).2.1=((HT.sIx n n hi:Nat):Int)/\(sliceBounds lo hi none n).2.2=1:=by
 refine⟨?_,?_,rfl⟩
 .cases lo with
  |none=>simp[sliceBounds,HT.sIx]
  |some i =>
   simp only[sliceBounds,HT.sIx,Option.getD_none,show(1:Int)>0 by decide,if_true]
   by_cases h:i<0
   .simp only[h,if_true] <;> omega
   .simp only[h,if_false] <;> omega
 .cases hi with
  |none=>simp[sliceBounds,HT.sIx]
  |some i =>
   simp only[sliceBounds,HT.sIx,Option.getD_none,show(1:Int)>0 by decide,if_true]
   by_cases h:i<0
   .simp only[h,if_true] <;> omega
   .simp only[h,if_false] <;> omega
def ABi(its:AMC)(lo hi:Option Int):slicePick its.toArray lo hi none=((its.drop (HT.sIx its.length 0 lo)).take (HT.sIx its.length its.length hi-HT.sIx its.length 0 lo)).toArray:=by obtain⟨h1,h2,h3⟩:=ABh lo hi its.toArray.size;unfold slicePick;rw[h1,h2,h3];simp only[sliceRange_one,pick_run,Bi] <;> rfl
abbrev ACD(K:AI):V->Option Int->Option Int->Hp->VK->Prop:=λx lo hi H Q=>∃a xs,x=.ref a/\BI K H a xs/\∀p,H p=none->Q (.ref p) (upd H p (.lst (GC xs lo hi)))
def ABm:Fc X (ACD X.K):=by intro pins s Y H x v vl vu lo hi sl Q I rx hs pl pu h;obtain⟨a,xs,rfl,hx,q⟩:=h;cases rx;obtain⟨its,r,ht,hz⟩:=I.list hx;have hlen:=r.length;refine⟨"list",_,slot_list_getitem.lookup,ht.isList.typeIs,?_⟩;refine wpAny_getItem_list_slice ht.isList hs pl pu .none (by simp) ?_ (by rw[Bi] <;> omega);rw[ABi,<-hlen];refine⟨.ref s.heap.objs.size,_,I.laid (t':=s.toks) (o:=.lst (GC xs lo hi)) (λb ob q=>Heap.get?_push_of_some _ q) (Ac _) ?_,rfl,q _ (I.hok.fresh (Ac _))⟩;exact⟨Bu (YW xs lo hi) hz,_,0,(r.drop (HT.sIx xs.length 0 lo)).take (HT.sIx xs.length xs.length hi-HT.sIx xs.length 0 lo),Heap.get?_push_size _ rfl⟩
abbrev Fa:V->Bool
 |.non=>true
 |.bl _=>true
 |.int _=>true
 |.str _=>true
 |_=>false
abbrev eqV:V->V->Bool
 |.non,.non=>true
 |.bl a,.bl b=>a == b
 |.bl a,.int b=>(if a then 1 else 0) == b
 |.int a,.bl b=>a == (if b then 1 else 0)
 |.int a,.int b=>a == b
 |.str a,.str b=>a == b
 |_,_=>false
def YF{A:Around}{s:Shared}{y x:V}{u v:Value}(ry:AX y u)(rx:AX x v)(fy:Fa y=true)(fx:Fa x=true):SeqAt.EqAt A s u v (eqV y x):=by
 cases y with
 |non =>
  cases ry
  cases x with
  |non=>cases rx;exact SeqAt.EqAt.same _
  |bl b=>cases rx;exact SeqAt.EqAt.none_bool b
  |int b=>obtain⟨t,rfl⟩:=rx;exact SeqAt.EqAt.none_int b t
  |str b=>obtain⟨t,rfl⟩:=rx;exact SeqAt.EqAt.none_str b t
  |_=>exact absurd (show false=true from fx) Cc
 |bl a =>
  cases ry
  cases x with
  |non=>cases rx;exact SeqAt.EqAt.bool_none a
  |bl b=>cases rx;exact SeqAt.EqAt.bool_bool a b
  |int b=>obtain⟨t,rfl⟩:=rx;exact SeqAt.EqAt.bool_int a b t
  |str b=>obtain⟨t,rfl⟩:=rx;exact SeqAt.EqAt.bool_str a b t
  |_=>exact absurd (show false=true from fx) Cc
 |int a =>
  obtain⟨t',rfl⟩:=ry
  cases x with
  |non=>cases rx;exact SeqAt.EqAt.int_none a t'
  |bl b=>cases rx;exact SeqAt.EqAt.int_bool a t' b
  |int b=>obtain⟨t,rfl⟩:=rx;exact SeqAt.EqAt.int_int a t' b t
  |str b=>obtain⟨t,rfl⟩:=rx;exact SeqAt.EqAt.int_str a t' b t
  |_=>exact absurd (show false=true from fx) Cc
 |str a =>
  obtain⟨t',rfl⟩:=ry
  cases x with
  |non=>cases rx;exact SeqAt.EqAt.str_none a t'
  |bl b=>cases rx;exact SeqAt.EqAt.str_bool a t' b
  |int b=>obtain⟨t,rfl⟩:=rx;exact SeqAt.EqAt.str_int a t' b t
  |str b=>obtain⟨t,rfl⟩:=rx;exact SeqAt.EqAt.str_str a t' b t
  |_=>exact absurd (show false=true from fx) Cc
 |_=>exact absurd (show false=true from fy) Cc
abbrev ER(x:V)(u:Value):Bool:=match u with
 |.none=>eqV .non x
 |.bool b=>eqV (.bl b) x
 |.int i _=>eqV (.int i) x
 |.str z _=>eqV (.str z) x
 |_=>false
def YC{x y:V}{u:Value}(r:AX y u)(f:Fa y=true):ER x u=eqV y x:=by
 cases y with
 |non=>cases r;rfl
 |bl b=>cases r;rfl
 |int i=>obtain⟨t,rfl⟩:=r;rfl
 |str z=>obtain⟨t,rfl⟩:=r;rfl
 |_=>exact absurd (show false=true from f) Cc
def Ll{x:V}:∀{xs:List V} {us:AMC},AV xs us->xs.all Fa=true->us.any (ER x)=xs.any λy=>eqV y x
 |_,_,.nil,_=>rfl
 |y::xs,u::us,.cons r t,f=>by
  rw[AKq,CA] at f;rw[AKW,AKW,YC r f.1,Ll t f.2]
def LI{A:Around}{s:Shared}{x:V}{v:Value}(rx:AX x v)(fx:Fa x=true):∀{xs:List V} {us:AMC},AV xs us->xs.all Fa=true->∀u∈us,SeqAt.EqAt A s u v (ER x u)
 |_,_,.nil,_=>λu hu=>by cases hu
 |y::xs,u::us,.cons r t,f=>λu' hu=>by
  rw[AKq,CA] at f;rcases AW.mp hu with rfl|hu
  .rw[YC r f.1];exact YF r rx f.1 fx
  .exact LI rx fx t f.2 u' hu
abbrev SH(x:V)(xs:List V):Bool:=xs.any λy=>eqV y x
abbrev RT(K:AI)(neg:Bool):R2:=λx y H Q=>∃p xs,y=.ref p/\(BI K H p xs\/BW K H p xs)/\Fa x=true/\xs.all Fa=true/\Q (.bl (if neg then !SH x xs else SH x xs)) H
def ADd:Ao X (compareOp .In) (RT X.K false):=by
 intro pins s Y H x y v u Q I rx ry h;obtain⟨p,xs,rfl,hq,fx,fs,q⟩:=h;cases ry;rcases hq with hq|hq
 .obtain⟨its,r,pl,hz⟩:=I.list hq;refine SeqAt.in_listAt (ER x) pl.isList (λw hw=>LI rx fx r fs w (by simpa using hw)) ⟨.bl _,H,I,rfl,?_⟩;rw[show its.toArray.any (ER x)=its.any (ER x) by simp,Ll r fs];exact q
 .obtain⟨its,r,pl,hz⟩:=I.tuple hq;refine SeqAt.in_tupleAt (ER x) pl (λw hw=>LI rx fx r fs w (by simpa using hw)) ⟨.bl _,H,I,rfl,?_⟩;rw[show its.toArray.any (ER x)=its.any (ER x) by simp,Ll r fs];exact q
def ADW:Ao X (compareOp .NotIn) (RT X.K true):=by
 intro pins s Y H x y v u Q I rx ry h;obtain⟨p,xs,rfl,hq,fx,fs,q⟩:=h;cases ry;rcases hq with hq|hq
 .obtain⟨its,r,pl,hz⟩:=I.list hq;refine SeqAt.notIn_listAt (ER x) pl.isList (λw hw=>LI rx fx r fs w (by simpa using hw)) ⟨.bl _,H,I,rfl,?_⟩;rw[show its.toArray.any (ER x)=its.any (ER x) by simp,Ll r fs];exact q
 .obtain⟨its,r,pl,hz⟩:=I.tuple hq;refine SeqAt.notIn_tupleAt (ER x) pl (λw hw=>LI rx fx r fs w (by simpa using hw)) ⟨.bl _,H,I,rfl,?_⟩;rw[show its.toArray.any (ER x)=its.any (ER x) by simp,Ll r fs];exact q
def AGS:CD X (.builtin "len") (λxs H Q=>∃p ys,xs=[.ref p]/\(BI X.K H p ys\/BW X.K H p ys)/\Q (.int ys.length) H):=by
 intro pins s Y H xs us Q I r h;obtain⟨p,ys,rfl,hq,q⟩:=h;obtain⟨u,rfl,rx⟩:=EK r;cases rx;have hn:=Jb;rcases hq with hq|hq
 .obtain⟨its,r',pl,hz⟩:=I.list hq;have hlen:=r'.length;exact Calls.call_len_list pl.isList (by simp only[Bi] <;> omega) ⟨.int ys.length,H,I.tok _,⟨s.toks+1,by rw[Bi,hlen]⟩,q⟩
 .obtain⟨its,r',pl,hz⟩:=I.tuple hq;have hlen:=r'.length;exact len_tuple pl (by simp only[Bi] <;> omega) ⟨.int ys.length,H,I.tok _,⟨s.toks+1,by rw[Bi,hlen]⟩,q⟩
def AGR:CD X (.builtin "len") (λxs H Q=>∃z,xs=[.str z]/\z.length<=sizeLine/\Q (.int z.length) H):=by intro pins s Y H xs us Q I r h;obtain⟨z,rfl,hz,q⟩:=h;obtain⟨u,rfl,t,rfl⟩:=EK r;have hn:=Jb;exact len_str (by omega) ⟨.int z.length,H,I.tok _,⟨_,rfl⟩,q⟩
def CD.or{f:Value}{r r':List V->Hp->VK->Prop}(h:CD X f r)(h':CD X f r'):CD X f (λxs H Q=>r xs H Q\/r' xs H Q):=by
 intro pins s Y H xs us Q I rs q;rcases q with q|q
 .exact h pins s Y H xs us Q I rs q
 .exact h' pins s Y H xs us Q I rs q
def AGO:CD X (.type "tuple") (λxs H Q=>∃p ys,xs=[.ref p]/\((BI X.K H p ys/\∀l,H l=none->Q (.ref l) (upd H l (.tup ys)))\/(BW X.K H p ys/\Q (.ref p) H))):=by
 intro pins s Y H xs us Q I r h;obtain⟨p,ys,rfl,h⟩:=h;obtain⟨u,rfl,rx⟩:=EK r;cases rx;rcases h with⟨hq,q⟩|⟨hq,q⟩
 .obtain⟨its,r',pl,hz⟩:=I.list hq;have hlen:=r'.length;refine call_tuple_list pl.isList (λh' kp=>?_) (by simp only[Bi] <;> omega);have I1:AG X pins Y H {s with heap:=h'}:=I.kept (t':=s.toks) kp
  have I2:AG X pins Y (upd H h'.objs.size (.tup ys)) {s with heap:=h'.push {cls:=.type "tuple",data:=.seq its.toArray}} :=
   I1.laid (t':=s.toks) (λb o e=>Heap.get?_push_of_some _ e) (Ac _) (show Bx X.prog X.w _ _ _ (.tup ys) from ⟨hz,its,r',IsTup.new _ _⟩)
  exact⟨.ref h'.objs.size,_,I2,rfl,q _ (I1.hok.fresh (Ac _))⟩
 .obtain⟨its,r',pl,hz⟩:=I.tuple hq;exact call_tuple_same pl ⟨.ref p,H,I,rfl,q⟩
abbrev NN(K:AI)(T:String)(x:V)(H:Hp):Prop:=match x with
 |.str _=>T = "str"
 |.int _=>T = "int"
 |.ref p=>(T = "list"/\∃xs,BI K H p xs)\/(T = "tuple"/\∃o,K.lookup p=some o/\o.cls=.type "tuple"/\o.dict=none) \/
   (T = "dict"/\((∃kvs,H p=some (.dK kvs))\/(∃kvs,H p=some (.dT kvs))\/∃kvs ep,H p=some (.dN kvs ep)))\/(T = "set"/\∃S n,H p=some (.set S n))
 |_=>False
def Uk{pins:List (Addr×Obj)}{Y:St}{H:Hp}{s:Shared}{T:String}{x:V}{v:Value}(I:AG X pins Y H s)(r:AX x v)(ty:NN X.K T x H) :
  s.TypeIs v T/\∀a,v=.ref a->∃ob,s.heap.get? a=some ob/\ob.dict=none:=by
 cases x with
 |str z =>
  obtain⟨t,rfl⟩:=r;cases (show T = "str" from ty);exact⟨typeIs_str s z t,λ_ e=>nomatch e⟩
 |int i =>
  obtain⟨t,rfl⟩:=r;cases (show T = "int" from ty);exact⟨typeIs_int s i t,λ_ e=>nomatch e⟩
 |ref p =>
  cases r;rcases ty with⟨rfl,xs,hq⟩|⟨rfl,o,hk,hc,hd⟩|⟨rfl,hk⟩|⟨rfl,S,n,hk⟩
  .obtain⟨its,_,pl,_⟩:=I.list hq;refine⟨pl.isList.typeIs,λa e=>?_⟩;cases e;obtain⟨o,n,e,c,hd,_⟩:=pl;exact⟨o,e,hd⟩
  .refine⟨⟨o,I.kIn p o hk,hc⟩,λa e=>?_⟩;cases e;exact⟨o,I.kIn _ o hk,hd⟩
  .have z:∃o,s.heap.get? p=some o/\o.ExactDict:=by
    rcases hk with⟨kvs,hk⟩|⟨kvs,hk⟩|⟨kvs,ep,hk⟩
    .obtain⟨_,_,_,_,o,_,_,e,ex,_⟩:=I.hok p _ hk;exact⟨o,e,ex⟩
    .obtain⟨_,_,_,_,o,_,_,e,ex,_⟩:=I.hok p _ hk;exact⟨o,e,ex⟩
    .obtain⟨_,_,_,_,o,_,e,ex,_⟩:=I.hok p _ hk;exact⟨o,e,ex⟩
   obtain⟨o,e,ex⟩:=z;refine⟨⟨o,e,ex.1⟩,λa e2=>?_⟩;cases e2;exact⟨o,e,ex.2.1⟩
  .obtain⟨o,_,_,_,e,ex,_⟩:=I.hok p _ hk;refine⟨⟨o,e,ex.1⟩,λa e2=>?_⟩;cases e2;exact⟨o,e,ex.2.1⟩
 |_=>exact False.elim ty
abbrev ABP(K:AI)(T:String)(r:V->List V->Hp->VK->Prop)(to:TE):TE:=λY H Q=>to Y H λx H1=>NN K T x H1/\r x [] H1 Q
abbrev tBM(K:AI)(T:String)(r:V->List V->Hp->VK->Prop)(to:TE)(t:TA):TE:=λY H Q=>to Y H λx H1=>NN K T x H1/\t Y H1 λxs H2=>r x xs H2 Q
variable {o e:Expr}{es:AME}{to:TE}{t:TA}{name:Str}{apos cpos:Pos}{T id:String}{r:V->List V->Hp->VK->Prop}
def ADI(pa:PlainAttrs T)(slot:Slot T name id)(hty:typeOf (.builtin id)=pure (.type "method_descriptor"))(hm:Ev X id r)(ho:PE X o to)
  (hbase:attributeBase o name X.env (eval o X.env)=eval o X.env:=by rfl) (hline:(apos.endLine == cpos.line)=true:=by rfl):PE X (.Call (.Attribute o name apos) [] [] cpos) (ABP X.K T r to):=by
 intro pins s Y H Q I h;refine wpAny_Call_method0_late hbase hline (Ae (ho pins s Y H _ I h) λv s1 z2_=>?_);obtain⟨x,H1,I1,r1,ty,q1⟩:=z2_;obtain⟨h1,h2⟩:=Uk I1 r1 ty;exact⟨T,id,pa,slot,hty,h1,h2,Calls.callWith_builtin rfl (PySem.evalArgs_none (hm pins s1 Y H1 x [] v [] Q I1 r1 .nil q1))⟩
def ADJ(pa:PlainAttrs T)(slot:Slot T name id)(hty:typeOf (.builtin id)=pure (.type "method_descriptor"))(hm:Ev X id r)(ho:PE X o to)(ha:PA X (e::es) t)
  (hbase:attributeBase o name X.env (eval o X.env)=eval o X.env:=by rfl)
  (hfew:((backTo cpos (starEach (e::es) X.env)).all (λx=>!x.1)&&(backToKw cpos (keywordEach [] X.env)).all (λx=>x.1.isSome)
   && decide ((e::es).length+([]:List Keyword).length+(if ([]:List Keyword).isEmpty then 0 else 1)<30))=true:=by rfl)
  (hline:(apos.endLine == cpos.line)=true:=by rfl) (hs:starEach (e::es) X.env=(false,eval e X.env)::starEach es X.env:=by rfl) (hplain:(backTo cpos (starEach es X.env)).any (·.1)=false:=by rfl) :
  PE X (.Call (.Attribute o name apos) (e::es) [] cpos) (tBM X.K T r to t):=by
 intro pins s Y H Q I h;refine wpAny_Call_method_late hbase hfew hline rfl (Ae (ho pins s Y H _ I h) λv s1 z2_=>?_);obtain⟨x,H1,I1,r1,ty,q1⟩:=z2_;obtain⟨h1,h2⟩:=Uk I1 r1 ty;refine⟨T,id,pa,slot,hty,h1,h2,?_⟩;have hA:=ha cpos pins s1 Y H1 _ I1 q1;rw[hs] at hA ⊢;refine Calls.callWith_builtin (by show(false || (backTo cpos (starEach es X.env)).any (·.1))=false;rw[hplain] <;> rfl) (Calls.evalArgs_plain ?_);exact Ae hA λus s2 z2_=>by obtain⟨vs,H2,I2,r2,q2⟩:=z2_;exact hm pins s2 Y H2 x vs v us Q I2 r1 r2 q2
end
abbrev ZH(X:Cx)(id:String)(r:V->List V->Hp->VK->Prop):Prop :=
 ∀(pins:List (Addr×Obj)) (s:Shared) (Y:St) (H:Hp) (x:V) (xs:List V) (v:Value) (us:AMC) (Q:VK),AG X pins Y H s->AX x v->AV xs us->r x xs H Q ->
  wpAny (model X.prog X.w) X.A (call (.builtin id) (v::us)) (EP X pins Y Q) X.xe s
def AV.one:∀{x:V} {us:AMC},AV [x] us->∃u,us=[u]/\AX x u
 |_,_,.cons r .nil=>⟨_,rfl,r⟩
def AV.zero:∀{us:AMC},AV [] us->us=[]
 |_,.nil=>rfl
section
variable {X:Cx}{pins:List (Addr×Obj)}{Y:St}{H:Hp}{s:Shared}{l b:Addr}{xs ys zs:List V}
def AG.lset{its its':AMC}{n:Nat}{f:Array Value->Array Value}{t':Nat}(I:AG X pins Y H s)(hH:H l=some (.lst xs))
  (e:s.heap.get? l=some {cls:=.type "list",data:=.seq its.toArray n}) (hf:f its.toArray=its'.toArray) (hv:AV ys its') (hz:ys.length<=sizeLine) :
  AG X pins Y (upd H l (.lst ys)) {s with heap:=s.heap.update l (Obj.mapSeq f),toks:=t'}:=by
 have q:=PySem.IsL.update e f;rw[hf] at q;refine I.write (x:=l) (e:=l) (by rw[hH];exact trivial) (.inl rfl) (λb' u hb hu=>(Heap.get?_update_other s.heap (Obj.mapSeq f) (Ne.symm hb)).trans hu) ⟨_,q⟩ ?_;exact⟨hz,its',_,hv,q⟩
def AG.lnew{its:AMC}{t':Nat}(I:AG X pins Y H s)(hv:AV ys its)(hz:ys.length<=sizeLine) :
  AG X pins Y (upd H s.heap.objs.size (.lst ys)) {s with heap:=s.heap.push {cls:=.type "list",data:=.seq its.toArray},toks:=t'} :=
 I.laid (λ_ _ q=>Heap.get?_push_of_some _ q) (Ac _) ⟨hz,its,0,hv,Heap.get?_push_size _ rfl⟩
def AG.fresh(I:AG X pins Y H s):H s.heap.objs.size=none:=I.hok.fresh (Ac _)
def AG.lstM(I:AG X pins Y H s)(hH:H l=some (.lst xs)):xs.length<=sizeLine/\∃(its:AMC) (n:Nat),AV xs its/\xs.length=its.length/\s.heap.get? l=some {cls:=.type "list",data:=.seq its.toArray n}:=by obtain⟨z,its,n,r,e⟩:=I.hok l _ hH;exact⟨z,its,n,r,r.length,e⟩
def ADs{n:Nat}(h:n<=sizeLine):Builtin.List.listTooLong n=false:=by unfold Builtin.List.listTooLong;exact decide_eq_false (by omega)
end
section
variable {X:Cx}
abbrev Vq:V->List V->Hp->VK->Prop:=λx vs H Q=>∃l xs y,x=.ref l/\vs=[y]/\H l=some (.lst xs)/\xs.length<sizeLine/\Q .non (upd H l (.lst (xs++[y])))
def Wa:ZH X "list.append" Vq:=by intro pins s Y H x vs v us Q I rx rv h;obtain⟨l,xs,y,rfl,rfl,hH,hz,q⟩:=h;cases rx;obtain⟨u,rfl,ru⟩:=rv.one;obtain⟨z,its,n,r,hl,e⟩:=I.lstM hH;refine call_meets F.slot_list_append ⟨_,e,rfl⟩ F.entry_list_append (F.args_list_append_2 _ _) (PySem.list_append l its.toArray n u (by rw[Bi];omega)) ⟨e,?_⟩;refine⟨.non,_,I.lset (its':=its++[u]) hH e (by simp) (r.append (.cons ru .nil)) ?_,rfl,q⟩;rw[Bc,List.length_singleton];omega
abbrev rExtend:V->List V->Hp->VK->Prop:=λx vs H Q=>∃l b xs zs,x=.ref l/\vs=[.ref b]/\H l=some (.lst xs)/\H b=some (.lst zs)/\xs.length+zs.length<=sizeLine/\Q .non (upd H l (.lst (xs++zs)))
def ADy:ZH X "list.extend" rExtend:=by
 intro pins s Y H x vs v us Q I rx rv h;obtain⟨l,b,xs,zs,rfl,rfl,hH,hB,hz,q⟩:=h;cases rx;obtain⟨u,rfl,ru⟩:=rv.one;cases ru;obtain⟨z,its,n,r,hl,e⟩:=I.lstM hH;obtain⟨z2,its2,n2,r2,hl2,e2⟩:=I.lstM hB;have hsz:its.toArray.size+its2.toArray.size<=sizeLine:=by rw[Bi,Bi];omega
 have hlong:¬(!its.toArray.isEmpty&&Builtin.List.listTooLong (its.toArray.size+its2.toArray.size))=true:=by rw[ADs hsz,Bool.and_false];exact Cc
 refine call_meets F.slot_list_extend ⟨_,e,rfl⟩ F.entry_list_extend (F.args_list_extend_2 _ _)
  (AutoSeq1.list_extend_list_list_0 l its.toArray n b its2.toArray n2 hlong (by rw[Bi];omega) (by omega)) ⟨e,e2,?_⟩
 refine⟨.non,_,I.lset (its':=its++its2) hH e (by simp) (r.append r2) ?_,rfl,q⟩;rw[Bc];omega
abbrev rCat:R2:=λx y H Q=>∃l b xs zs,x=.ref l/\y=.ref b/\H l=some (.lst xs)/\H b=some (.lst zs)/\xs.length+zs.length<=sizeLine/\∀p,H p=none->Q (.ref p) (upd H p (.lst (xs++zs)))
def ADi:Ao X (binaryOp .Add) rCat:=by
 intro pins s Y H x y v u Q I rx ry h;obtain⟨l,b,xs,zs,rfl,rfl,hH,hB,hz,q⟩:=h;cases rx;cases ry;obtain⟨z,its,n,r,hl,e⟩:=I.lstM hH;obtain⟨z2,its2,n2,r2,hl2,e2⟩:=I.lstM hB;refine PySem.P.add_list e e2 ?_ (by rw[Bi,Bi];omega);have ea:its.toArray++its2.toArray=(its++its2).toArray:=by simp
 rw[ea];exact⟨.ref _,_,I.lnew (t':=s.toks) (r.append r2) (by rw[Bc];omega),rfl,q _ I.fresh⟩
end
section
variable {prog:Program}{w:World}{A:Around}{E:AMI}{s:Shared}
set_option maxRecDepth 100000 in
end
end L2
namespace Att
open PySem PySem.W PySem.Calls PyProof.Rows
def ints_of_wellAll{P:Params}{h:Heap}:∀(ns:AMH) (vs:AMC),WellAll P h vs (ns.map WData.int)->IntsAre vs ns:=by
 intro ns
 induction ns with
 |nil =>
  intro vs w;rw[AK9] at w;cases w;exact .nil
 |cons n ns ih =>
  intro vs w;rw[Ah] at w
  cases w with
  |cons a b =>
   cases a;exact .cons _ _ (ih _ b)
def AIJ{l:OpenLaw}{n:Nat}(hn:l.most=some n){P:Params}{h:Heap}{args:List WData}{vals:AMC}
  (hpre:l.row.toRowW.claim.pre args=true) (hwl:WellAll P h vals args) :
  ∃a vs ns,vals=[Value.ref a]/\args=[WData.list (ns.map WData.int)]/\h.get? a=some {cls:=.type "list",data:=.seq vs.toArray}/\IntsAre vs ns/\ns.length<=n:=by
 have hsh:WShape.hasAll [] args [.list .int]=true:=(pre_splitW hpre).1;have hc:l.pre.holds [] {args:=args}=true:=(pre_splitW hpre).2;obtain⟨d,r,rfl,h1,h2⟩:=hasAllW_cons hsh;obtain rfl:=hasAllW_nil h2;obtain⟨xs,rfl,h3⟩:=hasW_list h1;obtain⟨ns,rfl⟩:=items_int h3
 have hlen:ns.length<=n:=by
  unfold OpenLaw.pre at hc
  have h4:(WTm.not (.lt (.lit (.int (n:Int))) (.len (.arg 0)))).holds [] {args:=[.list (ns.map .int)]}=true:=by have h4:=(holds_andW hc).1;rw[hn] at h4;exact h4
  have h5:=condW_of h4 (w_not (w_lt w_lit (w_len_list (w_arg rfl))));rw[Ag] at h5;refine Nat.le_of_not_lt λq=>?_;have q':(n:Int)<((ns.length:Nat):Int):=by omega
  first
   |(rw[decide_eq_true q'] at h5;exact absurd h5 (by decide))
   |(simp at h5;omega)
 cases hwl with
 |cons w1 w2 =>
  cases w2
  cases w1 with
  |list ho hall=>exact⟨_,_,ns,rfl,rfl,ho,ints_of_wellAll ns _ hall,hlen⟩
def AIP(l:OpenLaw)(args:List WData):l.row.toRowW.claim.post args (.bool true) args=true :=
 postW_of (r:=l.row.toRowW) (X:=(true == true))
  (show WShape.has [] (.bool true) .bool=true by first|rfl|decide|simp[WShape.has,WShape.arms,WShape.armsAll])
  (show(WTm.eq .res (.lit (.bool true))).value [] {args:=args,res:=some (.bool true),after:=args}=some (.bool (true == true)) from w_eq_bool (w_res rfl) w_lit) rfl
end Att
namespace L2
open PySem PySem.Spec PyProof.Rows
def Ug:∀{vs:AMC} {ns:AMH},IntsAre vs ns->AV (ns.map V.int) vs
 |_,_,.nil=>.nil
 |_,_,.cons n t h=>.cons ⟨t,rfl⟩ (Ug h)
abbrev ZG(H:Hp):Prop:=∀b,H b=none\/∃o xs,H b=some (.frz o (.lst xs))
def AEW{P:Program}{w:World}{K:AI}{mg mb:AMA}{CX:FL}{k:Nat}{fa a:Addr}{fd:FuncData}{x:Str}{sp:Sp}{s₁:Shared}{vs:AMC}{ns:AMH}
  (KX:K.In s₁.heap) (hns:s₁.heap.Ns mainGlobals mg) (hb:s₁.heap.Ns builtinsNs mb) (hbb:∀x:Str,x≠"__name__"->mb x=bootBuiltins x) (hlim:s₁.heap.NoLimit) (hg:s₁.gens=#[])
  (ha:s₁.heap.get? a=some {cls:=.type "list",data:=.seq vs.toArray}) (hi:IntsAre vs ns) (hl:ns.length<=sizeLine) (hr:Room k callerA)
  (F:∀base:Heap,K.In base->base.Ns mainGlobals mg->DH P w K mg base CX k fa fd [x] sp) (hbind:∀(s:Shared) (u:Value),BindsTo s fd ⟨[u],[]⟩ [(x,u)])
  (hsp:∀H:Hp,ZG H->BI K H a (ns.map V.int)->sp [.ref a] H (λv _=>v=.bl true) λ_ _ _=>False)
  (hCX:∀H e s',CX [] H s₁ (λ_ _ _=>False) e s'->False) :
  codeAny (model P w) callerA (.call (.ref fa) ⟨[.ref a],[]⟩) (λr s'=>r=.ok (.ret (.bool true))/\OldK s₁.heap s'.heap/\s'.os=s₁.os/\AllBare s'.gens) s₁:=by
 have rv:=Ug hi;have lenV:=hi.length
 -- from an abstract heap in which nothing but the script may be tracked
 have core:∀H:Hp,ZG H->BI K H a (ns.map V.int)->By P w H s₁.heap->(∀b,H b≠none->b=a)->(H a≠none->K.lookup a=none) ->
   codeAny (model P w) callerA (.call (.ref fa) ⟨[.ref a],[]⟩) (λr s'=>r=.ok (.ret (.bool true))/\OldK s₁.heap s'.heap/\s'.os=s₁.os/\AllBare s'.gens) s₁:=by
  intro H hO hS hok hA hK;have base_of:∀{b:Addr} {o:Obj},s₁.heap.get? b=some o->H b=none->(HF s₁.heap H).get? b=some o:=λe n=>AE2 e n
  have noA:∀{b:Addr} {o:Obj} {es:Array DictEntry} {ep:Nat},s₁.heap.get? b=some o->o.data=.dict es ep->H b=none:=λ{b o es ep} e d=>by
   cases q:H b with
   |none=>rfl
   |some u =>
    have e':b=a:=hA b (by rw[q];simp);subst e';rw[ha] at e;cases e;have d':Data.seq vs.toArray _=Data.dict es ep:=d;cases d'
  have nsK:∀{b:Addr} {m:AMA},s₁.heap.Ns b m->(HF s₁.heap H).Ns b m:=λ{b m} ⟨o,es,ep,e,d,r⟩=>⟨o,es,ep,base_of e (noA e d),d,r⟩
  have hKb:K.In (HF s₁.heap H):=λb o e=>base_of (KX b o e) (by
   cases q:H b with
   |none=>rfl
   |some u =>
    have e':b=a:=hA b (by rw[q];simp);subst e'
    rw[hK (by rw[q];simp)] at e;cases e)
  have hM:Op K mg (HF s₁.heap H):=⟨hKb,nsK hns,⟨mb,nsK hb,hbb⟩,let ⟨mc,h1,h2⟩:=hlim;⟨mc,nsK h1,h2⟩⟩;have e0:Gv P w K mg (HF s₁.heap H) callerA [] s₁ H:=⟨rfl,hM,λb o e=>ADo e,AKz (AE1 _ _),trivial,λb hb=>absurd (show b∈([]:AMD) from hb) (by simp),hok,.of_eq hg⟩;refine codeAny_mono ((F _ hKb (nsK hns)).run callerA [] s₁ H ⟨[.ref a],[]⟩ [.ref a] [.ref a] _ _ hr e0 (hbind s₁ (.ref a)) (.cons rfl .nil) (hsp H hO hS)) λr s' h=>?_
  cases r with
  |error e=>exact(hCX H e s' h).elim
  |ok fl =>
   cases fl with
   |next=>exact False.elim h
   |brk=>exact False.elim h
   |cont=>exact False.elim h
   |ret u =>
    obtain⟨v,H',os,bare,un,hok',r',q⟩:=h;have q':v=.bl true:=q;subst q';obtain rfl:u=Value.bool true:=r';refine⟨rfl,OldK.of_keep λb o e=>?_,os,bare⟩
    cases q:H b with
    |none=>exact un.keep b o e q (by intro z;exact absurd (show b∈([]:AMD) from z) (by simp)) (by simp)
    |some u =>
     rcases hO b with z|⟨ob,xs,z⟩
     .rw[q] at z;cases z
     .have z2:=un.frzs b ob _ z;obtain⟨e1,_⟩:=hok b _ z;obtain⟨e2,_⟩:=hok' b _ z2;rw[e] at e1;cases e1;exact e2
 cases hk:K.lookup a with
 |some o =>
  -- the script is one of the module's own objects
  have e:=KX a o hk;rw[ha] at e;cases e;refine core (λ_=>none) (λ_=>.inl rfl) (.inr ⟨_,vs.toArray,_,hk,rfl,rfl,rfl,by rw[Bi,lenV];exact hl,by simpa using rv⟩) (λb u z=>by have z':(none:Option HO)=some u:=z;cases z') (λb z=>absurd rfl z) λz=>absurd rfl z
 |none =>
  refine core (λb=>if b=a then some (.frz {cls:=.type "list",data:=.seq vs.toArray} (.lst (ns.map V.int))) else none) (λb=>?_) (.inl (.inr ⟨{cls:=.type "list",data:=.seq vs.toArray},if_pos rfl⟩)) (λb u z=>?_) (λb z=>?_) λ_=>hk
  .by_cases hb:b=a
   .exact .inr ⟨_,_,if_pos hb⟩
   .exact .inl (if_neg hb)
  .by_cases hb:b=a
   .have z':=(if_pos hb).symm.trans z;cases z';subst hb;exact⟨ha,by rw[Ag];exact hl,vs,_,rv,ha⟩
   .have z':=(if_neg hb).symm.trans z;cases z'
  .by_cases hb:b=a
   .exact hb
   .exact absurd (if_neg hb) z
abbrev Io(s:Stmt):Arguments:=match s with
 |.FunctionDef _ a _ _ _ _ _ _ _ _=>a
 |_=>{posonlyargs:=[],args:=[],vararg:=none,kwonlyargs:=[],kw_defaults:=[],kwarg:=none,defaults:=[]}
abbrev Dz(s:Stmt):AMF:=match s with
 |.FunctionDef _ _ b _ _ _ _ _ _ _=>b
 |_=>[]
abbrev AT(s:Stmt):Scope:=match s with
 |.FunctionDef _ _ _ _ _ _ sc _ _ _=>sc
 |_=>{kind:=.function,names:=[],isGenerator:=false,isCoroutine:=false}
noncomputable abbrev CX0:FL:=λ_ _ _ _ _ _=>False
noncomputable abbrev E0:XK:=λ_ _ _=>False
def Rf{X:Cx}:Iw CX0 X E0:=λ_ _ _ _ _ _ _ h=>h.elim
structure Gu (K:AI) (x qual:Str) (st:Stmt) (f:Addr) (fd:FuncData):Prop where
 ex:∃(oc:Value) (od:Option Addr) (kV doc pm:Value) (an:Option Addr) (cdv ct:Value) (osl:Array (Option Value)),
  fd=AKd x qual (Io st) (Dz st) (AT st) .none kV doc pm an cdv ct/\K.lookup f=some ⟨oc,od,.func fd,osl⟩/\ALX K cdv qual=true
 kp:Ec K (.ref f)=true
section
variable {P:Program}{w:World}{K:AI}{mg:AMA}{base:Heap}
def Gu.ok{x qual:Str}{st:Stmt}{f:Addr}{fd:FuncData}{N ps:AMB}{k:Nat}{sp:Sp}(F:Gu K x qual st f fd)(S:Ap N ps (AT st))(len:∀vs H Q E,sp vs H Q E->vs.length=ps.length)
  (hbody:∀(cdv:Value) (A:Around) (outer:List Env) (s:Shared) (H:Hp) (vs:List V) (Q:VK) (E:XK),Room k (A.deeper (envOfC qual (AT st) s.heap.objs.size f cdv))->sp vs H Q E ->
   ∃t,Ct (BV CX0 P w K mg base N qual (AT st) f cdv A outer s H E).nox (Dz st) t/\t {nx:=λ_ H'=>Q .non H',rt:=Q} (Fq N vs) H):DH P w K mg base CX0 (k+1) f fd ps sp:=by
 obtain⟨oc,od,kV,doc,pm,an,cdv,ct,osl,rfl,lk,hcd⟩:=F.ex;refine Xu lk hcd S len λA outer s H vs Q E hr hsp=>?_;obtain⟨t,h,q⟩:=hbody cdv A outer s H vs Q E hr hsp;exact⟨t,h.nox,q⟩
def Gu.binds{x qual:Str}{st:Stmt}{f:Addr}{fd:FuncData}{ps:AMB}(F:Gu K x qual st f fd)
  (h:∀(kV doc pm:Value) (an:Option Addr) (cdv ct:Value) (us:AMC),us.length=ps.length->bindArgs (AKd x qual (Io st) (Dz st) (AT st) .none kV doc pm an cdv ct) ⟨us,[]⟩=pure (ps.zip us)):EG K fd ps []:=by
 obtain⟨oc,od,kV,doc,pm,an,cdv,ct,osl,rfl,lk,hcd⟩:=F.ex;exact .all (h kV doc pm an cdv ct)
def AFT{x qual:Str}{st:Stmt}{f:Addr}{oc:Value}{od an:Option Addr}{osl:Array (Option Value)}{kV doc pm cdv ct:Value}(l:K.lookup f=some ⟨oc,od,.func (AKd x qual (Io st) (Dz st) (AT st) .none kV doc pm an cdv ct),osl⟩)
  (c:ALX K cdv qual=true) (k:Ec K (.ref f)=true):Gu K x qual st f (AKd x qual (Io st) (Dz st) (AT st) .none kV doc pm an cdv ct):=⟨⟨oc,od,kV,doc,pm,an,cdv,ct,osl,rfl,l,c⟩,k⟩
end
section
variable {X:Cx}
def pv(i:Nat){x:Str}{pos:Pos}(hN:X.N[i]?=some x:=by rfl)(hv:IA X.env.scope x:=by first|exact Or.inl rfl|exact Or.inr (Or.inl rfl)|exact Or.inr (Or.inr rfl))(hd:(x == ("__debug__":Str))=false:=by decide)
  (hcd:(x == ("__classdict__":Str))=false:=by decide):PE X (.Name x pos) (RL i):=Rb hN hv hd hcd
end
def iteF{A B:Prop}(h:B):if false=true then A else B:=by rw[if_neg Cc];exact h
def iteT{A B:Prop}(h:A):if true=true then A else B:=by rw[if_pos rfl];exact h
abbrev Gq(H H':Hp):Prop:=∀b o,H b=some o->H' b=some o
def Gq.refl(H:Hp):Gq H H:=λ_ _ h=>h
def Gq.trans{H H1 H2:Hp}(a:Gq H H1)(b:Gq H1 H2):Gq H H2:=λc o h=>b c o (a c o h)
def Gq.free{H H':Hp}(e:Gq H H'){l:Addr}(h:H' l=Option.none):H l=Option.none:=by
 cases q:H l with
 |none=>rfl
 |some o =>
  rw[e l o q] at h;cases h
def Gq.seq{K:AI}{H H':Hp}{a:Addr}{xs:List V}(e:Gq H H')(h:BI K H a xs):BI K H' a xs:=by
 rcases h with(h|⟨o,h⟩)|h
 .exact .inl (.inl (e _ _ h))
 .exact .inl (.inr ⟨o,e _ _ h⟩)
 .exact .inr h
section
variable {κ:Type}[DecidableEq κ]
abbrev FT(kvs:List (κ×V))(k:κ):Option V:=(kvs.find? λkv=>decide (kv.1=k)).map (·.2)
abbrev He(kvs:List (κ×V))(k:κ)(v:V):List (κ×V) :=
 if (kvs.any λkv=>decide (kv.1=k))=true then kvs.map (λkv=>if kv.1=k then (kv.1,v) else kv) else kvs++[(k,v)]
abbrev YL(kvs:List (κ×V))(k:κ):List (κ×V):=kvs.filter λkv=>decide (kv.1≠k)
def RI{p:κ×V}{r:List (κ×V)}{k:κ}(e:p.1=k):FT (p::r) k=some p.2:=by simp[FT,FB,e]
def RJ{p:κ×V}{r:List (κ×V)}{k:κ}(e:¬p.1=k):FT (p::r) k=FT r k:=by simp[FT,FB,e]
def Ui(k:κ):∀kvs:List (κ×V),(kvs.any λkv=>decide (kv.1=k))=(FT kvs k).isSome
 |[]=>rfl
 |p::r=>by
  rw[AKW]
  by_cases e:p.1=k
  .simp only[RI e,decide_eq_true e,Bool.true_or,Option.isSome_some]
  .rw[RJ e,decide_eq_false e,Bool.false_or];exact Ui k r
def FJ.isSome_eq{o:Option V}{u:Option Value}(r:FJ o u):o.isSome=u.isSome:=by
 cases o with
 |none=>cases u with
  |none=>rfl
  |some _=>exact(show False from r).elim
 |some _=>cases u with
  |none=>exact(show False from r).elim
  |some _=>rfl
def FJ.getD{o:Option V}{u:Option Value}{d:V}{d':Value}(r:FJ o u)(rd:AX d d'):AX (o.getD d) (u.getD d'):=by
 cases o with
 |none=>cases u with
  |none=>exact rd
  |some _=>exact(show False from r).elim
 |some _=>cases u with
  |none=>exact(show False from r).elim
  |some _=>exact r
def KV.val{kvs:List (κ×V)}{vs:List (κ×Value)}(r:KV kvs vs)(k:κ):FJ (FT kvs k) (valueAt vs k):=by
 unfold KV at r
 induction r with
 |nil=>exact True.intro
 |@cons p q ps qs h t ih =>
  obtain⟨h1,h2⟩:=h
  by_cases e:p.1=k
  .have e':q.1=k:=h1.symm.trans e;have b:valueAt (q::qs) k=some q.2:=by simp[valueAt,FB,e']
   rw[RI e,b];exact h2
  .have e':¬q.1=k:=λz=>e (h1.trans z);have b:valueAt (q::qs) k=valueAt qs k:=by simp[valueAt,FB,e']
   rw[RJ e,b];exact ih
def KV.any{kvs:List (κ×V)}{vs:List (κ×Value)}(r:KV kvs vs)(k:κ):(kvs.any λkv=>decide (kv.1=k))=vs.any λkv=>decide (kv.1=k):=by
 unfold KV at r
 induction r with
 |nil=>rfl
 |cons h t ih=>rw[AKW,AKW,ih,h.1]
def KV.repl{kvs:List (κ×V)}{vs:List (κ×Value)}(r:KV kvs vs)(k:κ){y:V}{u:Value}(ry:AX y u) :
  KV (kvs.map λkv=>if kv.1=k then (kv.1,y) else kv) (vs.map λkv=>if kv.1=k then (kv.1,u) else kv):=by
 unfold KV at r ⊢
 induction r with
 |nil=>exact .nil
 |@cons p q ps qs h t ih =>
  rw[Ah,Ah];refine .cons ?_ ih;obtain⟨h1,h2⟩:=h
  by_cases e:p.1=k
  .rw[if_pos e,if_pos (h1.symm.trans e)];exact⟨h1,ry⟩
  .rw[if_neg e,if_neg (λz=>e (h1.trans z))];exact⟨h1,h2⟩
def KV.put{kvs:List (κ×V)}{vs:List (κ×Value)}(r:KV kvs vs)(k:κ){y:V}{u:Value}(ry:AX y u):KV (He kvs k y) (stored vs k u):=by
 unfold He stored;rw[r.any k]
 by_cases e:(vs.any λkv=>decide (kv.1=k))=true
 .rw[if_pos e,if_pos e];exact r.repl k ry
 .rw[if_neg e,if_neg e];exact Paired.snoc r ⟨rfl,ry⟩
def KV.drop{kvs:List (κ×V)}{vs:List (κ×Value)}(r:KV kvs vs)(k:κ):KV (YL kvs k) (without vs k):=by
 unfold KV at r ⊢;unfold YL without
 induction r with
 |nil=>exact .nil
 |@cons p q ps qs h t ih =>
  obtain⟨h1,h2⟩:=h;rw[List.filter_cons,List.filter_cons]
  by_cases e:p.1=k
  .have a:¬decide (p.1≠k)=true:=by simp[e]
   have b:¬decide (q.1≠k)=true:=by simp[h1.symm.trans e]
   rw[if_neg a,if_neg b];exact ih
  .have e':¬q.1=k:=λz=>e (h1.trans z);have a:decide (p.1≠k)=true:=by simp[e]
   have b:decide (q.1≠k)=true:=by simp[e']
   rw[if_pos a,if_pos b];exact .cons ⟨h1,h2⟩ ih
def KV.keys{kvs:List (κ×V)}{vs:List (κ×Value)}(r:KV kvs vs):kvs.map (·.1)=vs.map (·.1):=by
 unfold KV at r
 induction r with
 |nil=>rfl
 |cons h t ih=>rw[Ah,Ah,ih,h.1]
def KV.length{kvs:List (κ×V)}{vs:List (κ×Value)}(r:KV kvs vs):kvs.length=vs.length:=Paired.length r
end
noncomputable abbrev KT(H:Hp):List (List Key×V)->List (List Key×Addr×Value)->Prop:=Paired λp q=>p.1=q.1/\H q.2.1=some (.tup (p.1.map kV))/\AX p.2 q.2.2
def KT.val{H:Hp}{kvs:List (List Key×V)}{xs:List (List Key×Addr×Value)}(r:KT H kvs xs)(k:List Key):FJ (FT kvs k) ((atKey xs k).map (·.2)):=by
 induction r with
 |nil=>exact True.intro
 |@cons p q ps qs h t ih =>
  obtain⟨h1,_,h2⟩:=h
  by_cases e:p.1=k
  .have e':q.1=k:=h1.symm.trans e;have b:atKey (q::qs) k=some q.2:=by simp[atKey,FB,e']
   rw[RI e,b];exact h2
  .have e':¬q.1=k:=λz=>e (h1.trans z);have b:atKey (q::qs) k=atKey qs k:=by simp[atKey,FB,e']
   rw[RJ e,b];exact ih
def KT.repl{H:Hp}{kvs:List (List Key×V)}{xs:List (List Key×Addr×Value)}(r:KT H kvs xs)(k:List Key){y:V}{u:Value}(ry:AX y u) :
  KT H (kvs.map λkv=>if kv.1=k then (kv.1,y) else kv) (xs.map (putAt k u)):=by
 induction r with
 |nil=>exact .nil
 |@cons p q ps qs h t ih =>
  rw[Ah,Ah];refine .cons ?_ ih;obtain⟨h1,h2,h3⟩:=h;unfold putAt
  by_cases e:p.1=k
  .rw[if_pos e,if_pos (h1.symm.trans e)];exact⟨h1,h2,ry⟩
  .rw[if_neg e,if_neg (λz=>e (h1.trans z))];exact⟨h1,h2,h3⟩
def KT.put{H:Hp}{kvs:List (List Key×V)}{xs:List (List Key×Addr×Value)}(r:KT H kvs xs)(k:List Key){b:Addr}{y:V}{u:Value}(hb:H b=some (.tup (k.map kV)))(ry:AX y u) :
  KT H (He kvs k y) (storedH xs k b u):=by
 have e:(kvs.any λkv=>decide (kv.1=k))=(atKey xs k).isSome:=by rw[Ui,(r.val k).isSome_eq,Option.isSome_map]
 unfold He storedH;rw[e]
 by_cases q:(atKey xs k).isSome=true
 .rw[if_pos q,if_pos q];exact r.repl k ry
 .rw[if_neg q,if_neg q];exact Paired.snoc r ⟨rfl,hb,ry⟩
def KT.keeps{H H':Hp}{kvs:List (List Key×V)}{xs:List (List Key×Addr×Value)}(r:KT H kvs xs)(ht:∀b ys,H b=some (.tup ys)->H' b=some (.tup ys)):KT H' kvs xs :=
 Paired.mapP r λ_ _ z=>⟨z.1,ht _ _ z.2.1,z.2.2⟩
abbrev Ou(H:Hp)(a:Addr)(y:V)(r:Option V):Prop :=
 (∃kvs k,Rd H a (.dK kvs)/\y=kV k/\r=FT kvs k)\/∃kvs k b,Rd H a (.dT kvs)/\y=.ref b/\H b=some (.tup (k.map kV))/\r=FT kvs k
abbrev Ot(H:Hp)(a:Addr)(y v:V)(H':Hp):Prop :=
 (∃kvs k,H a=some (.dK kvs)/\y=kV k/\kvs.length<sizeLine/\H'=upd H a (.dK (He kvs k v))) \/
 ∃kvs k b,H a=some (.dT kvs)/\y=.ref b/\H b=some (.tup (k.map kV))/\kvs.length<sizeLine/\H'=upd H a (.dT (He kvs k v))
def Ou.k{H:Hp}{a:Addr}{kvs:List (Key×V)}{k:Key}(e:H a=some (.dK kvs)):Ou H a (kV k) (FT kvs k):=.inl ⟨kvs,k,.inl e,rfl,rfl⟩
def Ou.t{H:Hp}{a b:Addr}{kvs:List (List Key×V)}{k:List Key}(e:H a=some (.dT kvs))(eb:H b=some (.tup (k.map kV))):Ou H a (.ref b) (FT kvs k):=.inr ⟨kvs,k,b,.inl e,rfl,eb,rfl⟩
def Ot.k{H:Hp}{a:Addr}{kvs:List (Key×V)}{k:Key}{v:V}(e:H a=some (.dK kvs))(hl:kvs.length<sizeLine):Ot H a (kV k) v (upd H a (.dK (He kvs k v))):=.inl ⟨kvs,k,e,rfl,hl,rfl⟩
def Ot.t{H:Hp}{a b:Addr}{kvs:List (List Key×V)}{k:List Key}{v:V}(e:H a=some (.dT kvs))(eb:H b=some (.tup (k.map kV)))(hl:kvs.length<sizeLine) :
  Ot H a (.ref b) v (upd H a (.dT (He kvs k v))):=.inr ⟨kvs,k,b,e,rfl,eb,hl,rfl⟩
section
variable {X:Cx}{pins:List (Addr×Obj)}{Y:St}{H:Hp}{s:Shared}{a:Addr}{y v:V}{u r:Value}{o:Option V}{A:Around}{E:AMI}
def AG.big(I:AG X pins Y H s):sysModules<s.heap.objs.size:=by have h:mainGlobals<s.heap.objs.size:=(I.mod.glob.keeps I.bk).lt;exact Nat.lt_trans (by decide) h
def AF8{h':Heap}{t':Nat}{ob:HO}(I:AG X pins Y H s)(mu:Lo (H a))(hs:Heap.SameBut a s.heap h')(he:∃q,h'.get? a=some q)(new:Bx X.prog X.w (upd H a ob) h' a ob) :
  AG X pins Y (upd H a ob) {s with heap:=h',toks:=t'} :=
 I.write (x:=a) (e:=a) mu (.inl rfl) (λb q hb z=>(hs.2 b hb).trans z) he new
end
end L2
set_option maxHeartbeats 4000000
namespace L3
open PySem PySem.Spec PyProof.Rows L2
noncomputable abbrev AMJ:Str:="Table"
noncomputable abbrev AMK:Str:="table"
noncomputable abbrev AML:Str:="Choice"
noncomputable abbrev AMM:Str:="Node"
noncomputable abbrev AMN:Str:="Keep"
noncomputable abbrev AMO:Str:="ways"
noncomputable abbrev AMP:Str:="look"
noncomputable abbrev AMQ:Str:="NoNumber"
noncomputable abbrev AMR:Str:="groups"
noncomputable abbrev AMS:Str:="words"
noncomputable abbrev AMT:Str:="nodes"
noncomputable abbrev AMU:Str:="choices"
noncomputable abbrev AMV:Str:="other_table"
noncomputable abbrev AMW:Str:="arms"
noncomputable abbrev AMX:Str:="members"
noncomputable abbrev AMY:Str:="node_numbers"
noncomputable abbrev AMZ:Str:="_law_cell_here"
noncomputable abbrev AMa:Str:="roots"
noncomputable abbrev AMb:Str:="number"
noncomputable abbrev AMc:Str:="_law_text_here"
noncomputable abbrev AMd:Str:="_law_words_here"
noncomputable abbrev AMe:Str:="answers"
noncomputable abbrev AMf:Str:="_law_texts"
noncomputable abbrev AMg:Str:="_law_script"
noncomputable abbrev AMh:Str:="_law_number"
noncomputable abbrev AMi:Str:="_law_looks_here"
noncomputable abbrev AMj:Str:="_law_program_here"
noncomputable abbrev AMk:Str:="_law_piece_here"
noncomputable abbrev AMl:Str:="_law_piece_answer"
noncomputable abbrev AMm:Str:="_law_row_answer"
noncomputable abbrev AMn:Str:="_law_drawn_texts"
def bS{α β:Type}{o:Option α}{f:α->Option β}{b:β}(h:o.bind f=some b):∃a,o=some a/\f a=some b:=FA.mp h
def mS{α β:Type}{o:Option α}{f:α->β}{b:β}(h:o.map f=some b):∃a,o=some a/\f a=b:=AKf.mp h
inductive D where
 |non|bl (b:Bool)|int (i:Int)|str (x:Str)|tup (xs:List D)|fz (xs:List D)|ref (k:Nat)|ty (n:String)
mutual
def D.beq:D->D->Bool
 |.non,.non=>true
 |.bl a,.bl b=>a == b
 |.int a,.int b=>a == b
 |.str a,.str b=>decide (a=b)
 |.tup a,.tup b=>D.beqL a b
 |.fz a,.fz b=>D.beqL a b
 |.ref a,.ref b=>a == b
 |.ty a,.ty b=>a == b
 |_,_=>false
def D.beqL:List D->List D->Bool
 |[],[]=>true
 |a::as,b::bs=>D.beq a b&&D.beqL as bs
 |_,_=>false
end
mutual
theorem D.beq_refl:∀a:D,D.beq a a=true
 |.non=>rfl
 |.bl b=>(beq_self_eq_true b:(b == b)=true)
 |.int b=>(beq_self_eq_true b:(b == b)=true)
 |.str b=>(decide_eq_true rfl:decide (b=b)=true)
 |.tup xs=>(D.beqL_refl xs:D.beqL xs xs=true)
 |.fz xs=>(D.beqL_refl xs:D.beqL xs xs=true)
 |.ref b=>(beq_self_eq_true b:(b == b)=true)
 |.ty b=>(beq_self_eq_true b:(b == b)=true)
theorem D.beqL_refl:∀a:List D,D.beqL a a=true
 |[]=>rfl
 |a::as=>by show(D.beq a a&&D.beqL as as)=true;rw[D.beq_refl a,D.beqL_refl as];rfl
end
mutual
theorem D.eq_of_beq:∀{a b:D},D.beq a b=true->a=b
 |.non,b,h=>by
  cases b with
  |non=>rfl
  |_=>exact Fp (show false=true from h)
 |.bl x,b,h=>by
  cases b with
  |bl y=>rw[LawfulBEq.eq_of_beq (show(x == y)=true from h)]
  |_=>exact Fp (show false=true from h)
 |.int x,b,h=>by
  cases b with
  |int y=>rw[LawfulBEq.eq_of_beq (show(x == y)=true from h)]
  |_=>exact Fp (show false=true from h)
 |.str x,b,h=>by
  cases b with
  |str y=>rw[of_decide_eq_true (show decide (x=y)=true from h)]
  |_=>exact Fp (show false=true from h)
 |.tup xs,b,h=>by
  cases b with
  |tup ys=>rw[D.eq_of_beqL (show D.beqL xs ys=true from h)]
  |_=>exact Fp (show false=true from h)
 |.fz xs,b,h=>by
  cases b with
  |fz ys=>rw[D.eq_of_beqL (show D.beqL xs ys=true from h)]
  |_=>exact Fp (show false=true from h)
 |.ref x,b,h=>by
  cases b with
  |ref y=>rw[LawfulBEq.eq_of_beq (show(x == y)=true from h)]
  |_=>exact Fp (show false=true from h)
 |.ty x,b,h=>by
  cases b with
  |ty y=>rw[LawfulBEq.eq_of_beq (show(x == y)=true from h)]
  |_=>exact Fp (show false=true from h)
theorem D.eq_of_beqL:∀{a b:List D},D.beqL a b=true->a=b
 |[],b,h=>by
  cases b with
  |nil=>rfl
  |cons _ _=>exact Fp (show false=true from h)
 |a::as,b,h=>by
  cases b with
  |nil=>exact Fp (show false=true from h)
  |cons b bs =>
   have h:(D.beq a b&&D.beqL as bs)=true:=h;rw[CA] at h;rw[D.eq_of_beq h.1,D.eq_of_beqL h.2]
end
noncomputable instance:DecidableEq D:=λa b=>if h:D.beq a b=true then .isTrue (D.eq_of_beq h) else .isFalse λe=>h (by rw[e];exact D.beq_refl b)
inductive Ob where
 |lst (xs:List D)|dk (kvs:List (Key×D))|dt (kvs:List (NK×D)) (ep:Nat)|ins (c:Str) (fs:List (Str×D))|exn (c:Str)
deriving DecidableEq
noncomputable abbrev AB:=List Ob
noncomputable abbrev AMo:=D->AB->Prop
noncomputable abbrev Fm:=List (Option D)
abbrev SqF(K:AI)(H:Hp)(a:Addr)(xs:List V):Prop :=
 (∃o,H a=some (.frz o (.lst xs))) \/
  ∃(o:Obj) (its:Array Value) (n:Nat),K.lookup a=some o/\o.cls=.type "list"/\o.dict=none/\o.data=.seq its n/\its.size<=sizeLine/\AV xs its.toList
def SqF.sql{K:AI}{H:Hp}{a:Addr}{xs:List V}(h:SqF K H a xs):BI K H a xs:=by
 rcases h with h|h
 .exact .inl (.inr h)
 .exact .inr h
mutual
inductive Is (K:AI) (H:Hp) (O:AMD):V->D->Prop
 |non:Is K H O .non .non
 |bl (b:Bool):Is K H O (.bl b) (.bl b)
 |int (i:Int):Is K H O (.int i) (.int i)
 |str (x:Str):x.length<=16777216->Is K H O (.str x) (.str x)
 |tup {a:Addr} {vs:List V} {ds:List D}:BW K H a vs->AM K H O vs ds->Is K H O (.ref a) (.tup ds)
 |fz {a:Addr} {vs:List V} {ds:List D}:SqF K H a vs->AM K H O vs ds->Is K H O (.ref a) (.fz ds)
 |ref {k:Nat} {a:Addr}:O[k]?=some a->Is K H O (.ref a) (.ref k)
 |ty (n:String):Is K H O (.ty n) (.ty n)
inductive AM (K:AI) (H:Hp) (O:AMD):List V->List D->Prop
 |nil:AM K H O [] []
 |cons {v:V} {d:D} {vs:List V} {ds:List D}:Is K H O v d->AM K H O vs ds->AM K H O (v::vs) (d::ds)
end
abbrev TK:HO->Prop
 |.tup _=>True
 |.frz _ _=>True
 |_=>False
abbrev EZ(H H':Hp):Prop:=∀a o,H a=some o->TK o->H' a=some o
abbrev AY(H:Hp)(O:AMD)(H':Hp)(O':AMD):Prop:=EZ H H'/\O <+: O'
def EZ.refl(H:Hp):EZ H H:=λ_ _ h _=>h
def EZ.trans{H H1 H2:Hp}(a:EZ H H1)(b:EZ H1 H2):EZ H H2:=λc o h f=>b c o (a c o h f) f
def AY.refl(H:Hp)(O:AMD):AY H O H O:=⟨.refl H,An O⟩
def AY.trans{H H1 H2:Hp}{O O1 O2:AMD}(a:AY H O H1 O1)(b:AY H1 O1 H2 O2):AY H O H2 O2:=⟨a.1.trans b.1,a.2.trans b.2⟩
def EZ.ext{H H':Hp}(h:∀a o,H a=some o->H' a=some o):EZ H H':=λa o e _=>h a o e
def EZ.new{H:Hp}{p:Addr}{o:HO}(h:H p=none):EZ H (upd H p o):=.ext λa u e=>by rw[Ax (CW e h)];exact e
def EZ.write{H:Hp}{p:Addr}{o u:HO}(h:H p=some u)(n:¬TK u):EZ H (upd H p o):=λa x e f=>by
 by_cases z:a=p
 .subst z;rw[h] at e;cases e;exact absurd f n
 .rw[Ax z];exact e
section
variable {K:AI}{H H':Hp}{O O':AMD}
def BW.grow{a:Addr}{xs:List V}(g:EZ H H')(h:BW K H a xs):BW K H' a xs:=by
 rcases h with(h|⟨o,h⟩)|h
 .exact .inl (.inl (g _ _ h True.intro))
 .exact .inl (.inr ⟨o,g _ _ h True.intro⟩)
 .exact .inr h
def SqF.grow{a:Addr}{xs:List V}(g:EZ H H')(h:SqF K H a xs):SqF K H' a xs:=by
 rcases h with⟨o,h⟩|h
 .exact .inl ⟨o,g _ _ h True.intro⟩
 .exact .inr h
def ADv{α:Type}{N:List α}(hN:N.Nodup){i j:Nat}{x:α}(a:N[i]?=some x)(b:N[j]?=some x):i=j:=by
 obtain⟨h1,g1⟩:=BA.mp a;obtain⟨h2,g2⟩:=BA.mp b;have p:=List.pairwise_iff_getElem.mp hN;rcases Nat.lt_trichotomy i j with h|h|h
 .exact absurd (g1.trans g2.symm) (p i j h1 h2 h)
 .exact h
 .exact absurd (g2.trans g1.symm) (p j i h2 h1 h)
def Ch{α:Type}{O O':List α}(h:O <+: O'){k:Nat}{a:α}(e:O[k]?=some a):O'[k]?=some a:=by obtain⟨t,rfl⟩:=h;rw[Dx (BA.mp e).1];exact e
def Is.mono(st:AY H O H' O'){v:V}{d:D}(h:Is K H O v d):Is K H' O' v d :=
 Is.rec (motive_1:=λv d _=>Is K H' O' v d) (motive_2:=λv d _=>AM K H' O' v d) .non .bl .int .str (λh _ r=>.tup (BW.grow st.1 h) r) (λh _ r=>.fz (SqF.grow st.1 h) r) (λh=>.ref (Ch st.2 h)) .ty .nil (λ_ _ a b=>.cons a b) h
def AM.mono(st:AY H O H' O'){v:List V}{d:List D}(h:AM K H O v d):AM K H' O' v d :=
 AM.rec (motive_1:=λv d _=>Is K H' O' v d) (motive_2:=λv d _=>AM K H' O' v d) .non .bl .int .str (λh _ r=>.tup (BW.grow st.1 h) r) (λh _ r=>.fz (SqF.grow st.1 h) r) (λh=>.ref (Ch st.2 h)) .ty .nil (λ_ _ a b=>.cons a b) h
def AM.length{vs:List V}{ds:List D}(h:AM K H O vs ds):vs.length=ds.length :=
 AM.rec (motive_1:=λ_ _ _=>True) (motive_2:=λvs ds _=>vs.length=ds.length) ⟨⟩ (λ_=>⟨⟩) (λ_=>⟨⟩) (λ_ _=>⟨⟩) (λ_ _ _=>⟨⟩) (λ_ _ _=>⟨⟩) (λ_=>⟨⟩) (λ_=>⟨⟩) rfl (λ_ _ _ b=>congrArg (·+1) b) h
def AM.get:∀{vs:List V} {ds:List D} {i:Nat} {d:D},AM K H O vs ds->ds[i]?=some d->∃v,vs[i]?=some v/\Is K H O v d
 |_,_,_,_,.nil,e=>by simp at e
 |_,_,0,_,.cons a _,e=>by simp at e;subst e;exact⟨_,rfl,a⟩
 |_,_,i+1,d,.cons _ b,e=>by
  obtain⟨v,h1,h2⟩:=AM.get (i:=i) (d:=d) b (by simpa using e);exact⟨v,by simpa using h1,h2⟩
def AM.append:∀{vs ws:List V} {ds es:List D},AM K H O vs ds->AM K H O ws es->AM K H O (vs++ws) (ds++es)
 |_,_,_,_,.nil,b=>b
 |_,_,_,_,.cons a c,b=>.cons a (AM.append c b)
def AM.take:∀{vs:List V} {ds:List D} (n:Nat),AM K H O vs ds->AM K H O (vs.take n) (ds.take n)
 |_,_,0,_=>.nil
 |_,_,_+1,.nil=>.nil
 |_,_,n+1,.cons r t=>.cons r (AM.take n t)
def AM.drop:∀{vs:List V} {ds:List D} (n:Nat),AM K H O vs ds->AM K H O (vs.drop n) (ds.drop n)
 |_,_,0,r=>r
 |_,_,_+1,.nil=>.nil
 |_,_,n+1,.cons _ t=>AM.drop n t
def AM.set{v:V}{d:D}(r:Is K H O v d):∀{vs:List V} {ds:List D} (i:Nat),AM K H O vs ds->AM K H O (vs.set i v) (ds.set i d)
 |_,_,_,.nil=>.nil
 |_,_,0,.cons _ t=>.cons r t
 |_,_,i+1,.cons q t=>.cons q (AM.set r i t)
def AM.one{v:V}{ds:List D}(h:AM K H O [v] ds):∃d,ds=[d]/\Is K H O v d:=by cases h with|cons a b=>cases b;exact⟨_,rfl,a⟩
abbrev keyD:Key->D
 |.inl i=>.int i
 |.inr x=>.str x
abbrev Ib:Key ⊕ List Key->D
 |.inl k=>keyD k
 |.inr ks=>.tup (ks.map keyD)
abbrev Dh(k:NK):D:=.tup (k.map Ib)
abbrev DI(K:AI)(c:Str)(C:Addr):Prop:=Ba K mainGlobals c=some (some (.ref C))
abbrev GQ(K:AI)(H:Hp)(O:AMD)(a:Addr):Ob->Prop
 |.exn c=>∃C:Addr,DI K c C/\H a=some (.ext λh=>∃o,h.get? a=some o/\o.cls=.ref C)
 |.ins c fs=>∃(C dx:Addr) (us:List (Str×V)),DI K c C/\H a=some (.ins C dx us)/\us.map (·.1)=fs.map (·.1)/\AM K H O (us.map (·.2)) (fs.map (·.2))
 |.lst ds=>∃vs,H a=some (.lst vs)/\AM K H O vs ds
 |.dk kvs=>∃us:List (Key×V),H a=some (.dK us)/\us.map (·.1)=kvs.map (·.1)/\AM K H O (us.map (·.2)) (kvs.map (·.2))
 |.dt kvs ep=>∃us:List (NK×Addr×V),H a=some (.dN us ep)/\us.map (·.1)=kvs.map (·.1)/\AM K H O (us.map (·.2.2)) (kvs.map (·.2))/\∀u∈us,Is K H O (.ref u.2.1) (Dh u.1)
structure Ai (K:AI) (H:Hp) (O:AMD) (L:AB):Prop where
 len:O.length=L.length
 nd:O.Nodup
 ob:∀(k:Nat) (a:Addr) (o:Ob),O[k]?=some a->L[k]?=some o->GQ K H O a o
def GQ.ho{a:Addr}{o:Ob}(h:GQ K H O a o):∃u,H a=some u/\¬TK u:=by
 cases o with
 |lst ds=>obtain⟨vs,e,_⟩:=h;exact⟨_,e,id⟩
 |dk ds=>obtain⟨vs,e,_⟩:=h;exact⟨_,e,id⟩
 |dt ds ep=>obtain⟨vs,e,_⟩:=h;exact⟨_,e,id⟩
 |ins c fs=>obtain⟨C,dx,us,_,e,_⟩:=h;exact⟨_,e,id⟩
 |exn c=>obtain⟨C,_,e⟩:=h;exact⟨_,e,id⟩
def GQ.move{a:Addr}{o:Ob}(h:GQ K H O a o)(st:AY H O H' O')(e:H' a=H a):GQ K H' O' a o:=by
 cases o with
 |lst ds=>obtain⟨vs,q,r⟩:=h;exact⟨vs,by rw[e];exact q,r.mono st⟩
 |dk ds=>obtain⟨vs,q,r1,r2⟩:=h;exact⟨vs,by rw[e];exact q,r1,r2.mono st⟩
 |dt ds ep=>obtain⟨vs,q,r1,r2,r3⟩:=h;exact⟨vs,by rw[e];exact q,r1,r2.mono st,λu hu=>(r3 u hu).mono st⟩
 |ins c fs=>obtain⟨C,dx,us,z,q,r1,r2⟩:=h;exact⟨C,dx,us,z,by rw[e];exact q,r1,r2.mono st⟩
 |exn c=>obtain⟨C,z,q⟩:=h;exact⟨C,z,by rw[e];exact q⟩
def Ai.has{L:AB}(r:Ai K H O L){k:Nat}{a:Addr}(e:O[k]?=some a):∃o,L[k]?=some o/\GQ K H O a o:=by
 have h:k<L.length:=by rw[<-r.len];exact(BA.mp e).1
 exact⟨L[k],by simp[h],r.ob k a _ e (by simp[h])⟩
def Ai.at{L:AB}(r:Ai K H O L){k:Nat}{o:Ob}(e:L[k]?=some o):∃a,O[k]?=some a/\GQ K H O a o:=by
 have h:k<O.length:=by rw[r.len];exact(BA.mp e).1
 exact⟨O[k],by simp[h],r.ob k _ o (by simp[h]) e⟩
def Ai.ext{L:AB}(r:Ai K H O L)(k:∀a o,H a=some o->H' a=some o):Ai K H' O L :=
 ⟨r.len,r.nd,λj a o e1 e2=>by
  have q:=r.ob j a o e1 e2;obtain⟨u,hu,_⟩:=q.ho
  exact q.move ⟨.ext k,An _⟩ (by rw[hu];exact k a u hu)⟩
def Ai.new{L:AB}{p:Addr}{u:HO}{o:Ob}(r:Ai K H O L)(hp:H p=none)(n:GQ K (upd H p u) (O++[p]) p o):Ai K (upd H p u) (O++[p]) (L++[o]):=by
 have hm:p∉O:=λhm=>by
  obtain⟨k,hk,e⟩:=ALA hm;obtain⟨o',_,q⟩:=r.has (k:=k) (a:=p) (by rw[<-e];simp[hk]);obtain⟨u',hu,_⟩:=q.ho;rw[hp] at hu;cases hu
 refine⟨by simp[r.len],by rw[AKg];exact⟨r.nd,by simp,λa ha b hb=>by simp at hb;subst hb;rintro rfl;exact hm ha⟩,λk a o' e1 e2=>?_⟩
 by_cases h:k<O.length
 .rw[Dx h] at e1;rw[Dx (by rw[<-r.len];exact h)] at e2;have q:=r.ob k a o' e1 e2;obtain⟨u',hu,_⟩:=q.ho;exact q.move ⟨.new hp,Aj _ _⟩ (by rw[Ax (CW hu hp)])
 .have hk:k=O.length:=by
   have:=(BA.mp e1).1;simp at this;omega
  subst hk;rw[AKc (Ac _)] at e1;rw[AKc (by rw[r.len];exact Ac _)] at e2;simp at e1;rw[r.len] at e2;simp at e2;subst e1 e2;exact n
def Ai.write{L:AB}{k:Nat}{a:Addr}{u:HO}{o':Ob}(r:Ai K H O L)(e:O[k]?=some a)(n:GQ K (upd H a u) O a o'):Ai K (upd H a u) O (L.set k o'):=by
 obtain⟨o,e2,q⟩:=r.has e;obtain⟨u0,hu0,nf⟩:=q.ho;refine⟨by simp[r.len],r.nd,λj b o2 f1 f2=>?_⟩
 by_cases h:j=k
 .subst h;rw[e] at f1;cases f1;rw[AKY (BA.mp e2).1] at f2;cases f2;exact n
 .rw[DA (Ne.symm h)] at f2;have q2:=r.ob j b o2 f1 f2
  have hb:b≠a:=λz=>by
   subst z;exact h (ADv r.nd f1 e)
  exact q2.move ⟨.write hu0 nf,An _⟩ (by rw[Ax hb])
end
structure Fe (K:AI) (H:Hp) (O:AMD) (Y:L2.St) (ρ:Fm):Prop where
 len:Y.length=ρ.length
 at':∀(i:Nat) (d:D),ρ[i]?=some (some d)->∃v,Y[i]?=some (some v)/\Is K H O v d
structure Cy (K:AI) (H:Hp) (O:AMD) (Y:L2.St) (ρ:Fm) (L:AB):Prop where
 s:Ai K H O L
 f:Fe K H O Y ρ
def Fe.mono{K:AI}{H H':Hp}{O O':AMD}{Y:L2.St}{ρ:Fm}(st:AY H O H' O')(h:Fe K H O Y ρ):Fe K H' O' Y ρ :=
 ⟨h.len,λi d e=>let ⟨v,a,b⟩:=h.at' i d e;⟨v,a,b.mono st⟩⟩
def Fe.set{K:AI}{H:Hp}{O:AMD}{Y:L2.St}{ρ:Fm}{v:V}{d:D}(h:Fe K H O Y ρ)(r:Is K H O v d)(i:Nat):Fe K H O (Y.set i (some v)) (ρ.set i (some d)):=by
 refine⟨by simp[h.len],λj e q=>?_⟩
 by_cases z:j=i
 .subst z
  have hj:j<ρ.length:=by have:=(BA.mp q).1;simpa using this
  rw[AKY hj] at q;cases q;exact⟨v,by rw[AKY (by rw[h.len];exact hj)],r⟩
 .rw[DA (Ne.symm z)] at q;obtain⟨v',a,b⟩:=h.at' j e q;exact⟨v',by rw[DA (Ne.symm z)];exact a,b⟩
noncomputable abbrev EF:=Fm->AB->Option (D×AB)
noncomputable abbrev TF:=Fm->AB->Option (Bool×AB)
noncomputable abbrev AF:=Fm->AB->Option (List D×AB)
noncomputable abbrev G1:=D->AB->Option (D×AB)
noncomputable abbrev G2:=D->D->AB->Option (D×AB)
noncomputable abbrev GL:=List D->AB->Option (D×AB)
abbrev Hi(K:AI)(f:EF):TE:=λY H Q=>∃O ρ L d L',Cy K H O Y ρ L/\f ρ L=some (d,L') /\
 ∀v H' O',AY H O H' O'->Ai K H' O' L'->Is K H' O' v d->Q v H'
abbrev OA(K:AI)(f:TF):TT:=λY H Q=>∃O ρ L b L',Cy K H O Y ρ L/\f ρ L=some (b,L') /\
 ∀H' O',AY H O H' O'->Ai K H' O' L'->Q b H'
abbrev Ru(K:AI)(f:AF):TA:=λY H Q=>∃O ρ L ds L',Cy K H O Y ρ L/\f ρ L=some (ds,L') /\
 ∀vs H' O',AY H O H' O'->Ai K H' O' L'->AM K H' O' vs ds->Q vs H'
abbrev AO(X:Cx)(e:Expr)(f:EF):Prop:=PE X e (Hi X.K f)
abbrev Eu(X:Cx)(e:Expr)(f:TF):Prop:=PT X e (OA X.K f)
abbrev IC(X:Cx)(e:Expr)(f:TF):Prop:=PW X e (OA X.K f)
abbrev Da(X:Cx)(es:AME)(f:AF):Prop:=PA X es (Ru X.K f)
def PE.weaken{X:Cx}{e:Expr}{t t':TE}(h:PE X e t)(i:∀Y H Q,t' Y H Q->t Y H Q):PE X e t':=λpins s Y H Q I q=>h pins s Y H Q I (i Y H Q q)
def PT.weaken{X:Cx}{e:Expr}{t t':TT}(h:PT X e t)(i:∀Y H Q,t' Y H Q->t Y H Q):PT X e t':=λpins s Y H Q I q=>h pins s Y H Q I (i Y H Q q)
def PW.weaken{X:Cx}{e:Expr}{t t':TT}(h:PW X e t)(i:∀Y H Q,t' Y H Q->t Y H Q):PW X e t':=λw pins s Y H Q I q=>h w pins s Y H Q I (i Y H Q q)
def PA.weaken{X:Cx}{e:AME}{t t':TA}(h:PA X e t)(i:∀Y H Q,t' Y H Q->t Y H Q):PA X e t':=λp pins s Y H Q I q=>h p pins s Y H Q I (i Y H Q q)
def Cy.to{K:AI}{H H':Hp}{O O':AMD}{Y:L2.St}{ρ:Fm}{L L':AB}(r:Cy K H O Y ρ L)(st:AY H O H' O')(rs:Ai K H' O' L'):Cy K H' O' Y ρ L':=⟨rs,r.f.mono st⟩
abbrev AC(d:D):EF:=λ_ L=>some (d,L)
abbrev var(i:Nat):EF:=λρ L=>match ρ[i]? with|some (some d)=>some (d,L)|_=>none
abbrev bin2(g:G2)(fa fb:EF):EF:=λρ L=>(fa ρ L).bind λx=>(fb ρ x.2).bind λy=>g x.1 y.1 y.2
abbrev As(g:G1)(fa:EF):EF:=λρ L=>(fa ρ L).bind λx=>g x.1 x.2
section
variable {X:Cx}{a b c:Expr}{fa fb fc:EF}{pos:Pos}
def Ju{v:V}{d:D}(h:PE X a (tC v))(i:∀H O,Is X.K H O v d):AO X a (AC d) :=
 PE.weaken h λY H Q z3_=>by
  obtain⟨O,ρ,L,d',L',r,e,k⟩:=z3_;cases e;exact k _ _ _ (.refl _ _) r.s (i _ _)
def AFx{i:Int}{j:Nat}{pos:Pos}:AO X (.Constant (.int i) j pos) (AC (.int i)):=Ju ADA λ_ _=>.int _
def OV{i:Bool}{j:Nat}{pos:Pos}:AO X (.Constant (.bool i) j pos) (AC (.bl i)):=Ju ADL λ_ _=>.bl _
def AFu{j:Nat}{pos:Pos}:AO X (.Constant .none j pos) (AC .non):=Ju AC6 λ_ _=>.non
def AFs{x:Str}{j:Nat}{pos:Pos}(h:x.length<=16777216:=by decide):AO X (.Constant (.str x) j pos) (AC (.str x)):=Ju AC0 λ_ _=>.str _ h
def Cj{i:Nat}(h:PE X a (RL i)):AO X a (var i) :=
 PE.weaken h λY H Q z3_=>by
  obtain⟨O,ρ,L,d',L',r,e,k⟩:=z3_;unfold var at e;split at e
  .rename_i d hd;cases e;obtain⟨v,hv,is⟩:=r.f.at' i _ hd;exact⟨v,hv,k _ _ _ (.refl _ _) r.s is⟩
  .cases e
abbrev rD(K:AI)(g:G2):R2:=λv u H Q=>∃O L x y d L',Ai K H O L/\Is K H O v x/\Is K H O u y/\g x y L=some (d,L') /\
 ∀w H' O',AY H O H' O'->Ai K H' O' L'->Is K H' O' w d->Q w H'
abbrev rC(K:AI)(g:GL):List V->Hp->VK->Prop:=λvs H Q=>∃O L xs d L',Ai K H O L/\AM K H O vs xs/\g xs L=some (d,L') /\
 ∀w H' O',AY H O H' O'->Ai K H' O' L'->Is K H' O' w d->Q w H'
abbrev Cm(X:Cx)(f:Value->Value->Sem Value)(g:G2):Prop:=Ao X f (rD X.K g)
abbrev Ez(X:Cx)(f:Value)(g:GL):Prop:=CD X f (rC X.K g)
abbrev Oq(X:Cx)(g:G2):Prop:=Ew X (rD X.K g)
def Ao.weaken{f:Value->Value->Sem Value}{r r':R2}(h:Ao X f r)(i:∀x y H Q,r' x y H Q->r x y H Q):Ao X f r' :=
 λpins s Y H x y v u Q I rx ry q=>h pins s Y H x y v u Q I rx ry (i _ _ _ _ q)
def Ew.weaken{r r':R2}(h:Ew X r)(i:∀x y H Q,r' x y H Q->r x y H Q):Ew X r' :=
 λa b pins s Y H x y v u Q I rx ry q=>h a b pins s Y H x y v u Q I rx ry (i _ _ _ _ q)
def CD.weaken{f:Value}{r r':List V->Hp->VK->Prop}(h:CD X f r)(i:∀xs H Q,r' xs H Q->r xs H Q):CD X f r' :=
 λpins s Y H xs us Q I rx q=>h pins s Y H xs us Q I rx (i _ _ _ q)
def two_lift{K:AI}{g:G2}{Y:L2.St}{H:Hp}{Q:VK}(h:Hi K (bin2 g fa fb) Y H Q):Ku (rD K g) (Hi K fa) (Hi K fb) Y H Q:=by obtain⟨O,ρ,L,d,L',r,e,k⟩:=h;unfold bin2 at e;obtain⟨p,e1,e⟩:=bS e;obtain⟨q,e2,e⟩:=bS e;refine⟨O,ρ,L,p.1,p.2,r,e1,λv H1 O1 st1 rs1 is1=>?_⟩;refine⟨O1,ρ,p.2,q.1,q.2,r.to st1 rs1,e2,λu H2 O2 st2 rs2 is2=>?_⟩;exact⟨O2,q.2,p.1,q.1,d,L',rs2,is1.mono st2,is2,e,λw H' O' st rs is=>k w H' O' ((st1.trans st2).trans st) rs is⟩
def AJl{op:Operator}{g:G2}(ho:Cm X (binaryOp op) g)(ha:AO X a fa)(hb:AO X b fb):AO X (.BinOp a op b pos) (bin2 g fa fb) :=
 PE.weaken (AC3 ho ha hb) λ_ _ _ h=>two_lift h
def AF0{op:CmpOp}{g:G2}(ho:Cm X (compareOp op) g)(ha:AO X a fa)(hb:AO X b fb)(hm:behindInMarks op b=false):AO X (.Compare a [op] [b] pos) (bin2 g fa fb) :=
 PE.weaken (ADF ho ha hb hm) λ_ _ _ h=>two_lift h
def YJ{g:G2}(ho:Oq X g)(ha:AO X a fa)(hb:AO X b fb)(hs:Sv b):AO X (.Subscript a b pos) (bin2 g fa fb) :=
 PE.weaken (AC9 ho ha hb hs) λ_ _ _ h=>two_lift h
abbrev asT(f:EF):TF:=λρ L=>(f ρ L).bind λx=>match x.1 with|.bl b=>some (b,x.2)|_=>none
def Yq{K:AI}{f:EF}{Y:L2.St}{H:Hp}{Q:Bool->Hp->Prop}(h:OA K (asT f) Y H Q):Hi K f Y H λx H'=>∃k,x=.bl k/\Q k H':=by
 obtain⟨O,ρ,L,b,L',r,e,k⟩:=h;unfold asT at e;obtain⟨p,e1,e⟩:=bS e;obtain⟨d,L1⟩:=p
 cases d <;> simp only[AQ] at e <;> try (cases e;done)
 cases e;refine⟨O,ρ,L,_,_,r,e1,λv H' O' st rs is=>?_⟩;cases is;exact⟨_,rfl,k H' O' st rs⟩
def NU{op:CmpOp}{g:G2}(ho:Cm X (compareOp op) g)(ha:AO X a fa)(hb:AO X b fb)(hm:behindInMarks op b=false):Eu X (.Compare a [op] [b] pos) (asT (bin2 g fa fb)) :=
 PT.weaken (ACX ho ha hb hm) λY H Q h=>by
  have q:=Yq h;exact two_lift q
def AH8(ha:AO X a fa)(he:∀whole,isTrue a X.env whole=(do let v <-whole;standAt a.pos;holding [v] (truthy v)):=by intro _;rfl):Eu X a (asT fa) :=
 PT.weaken (ACV ha he) λY H Q h=>Yq h
abbrev Gd(f:TF):TF:=λρ L=>(f ρ L).bind λx=>some (!x.1,x.2)
abbrev HK(f g:TF):TF:=λρ L=>(f ρ L).bind λx=>if x.1=true then g ρ x.2 else some (false,x.2)
abbrev FV(f g:TF):TF:=λρ L=>(f ρ L).bind λx=>if x.1=true then some (true,x.2) else g ρ x.2
def AH9{f:TF}(ha:Eu X a f):Eu X (.UnaryOp .Not a pos) (Gd f) :=
 PT.weaken (ACW ha) λY H Q z3_=>by
  obtain⟨O,ρ,L,b,L',r,e,k⟩:=z3_;unfold Gd at e
  cases e1:f ρ L with
  |none=>rw[e1] at e;cases e
  |some p=>rw[e1] at e;cases e;exact⟨O,ρ,L,p.1,p.2,r,e1,λH' O' st rs=>k H' O' st rs⟩
def AHi{f:TF}(ha:Eu X a f):IC X (.BoolOp .And [a] pos) f:=ACN ha
def AHh{f:TF}(ha:Eu X a f):IC X (.BoolOp .Or [a] pos) f:=ACL ha
def AHj{f g:TF}{rest:AME}(ha:Eu X a f)(hb:IC X (.BoolOp .And (b::rest) pos) g):IC X (.BoolOp .And (a::b::rest) pos) (HK f g) :=
 PW.weaken (ACO ha hb) λY H Q z3_=>by
  obtain⟨O,ρ,L,c,L',r,e,k⟩:=z3_;unfold HK at e;obtain⟨p,e1,e⟩:=bS e;obtain⟨b1,L1⟩:=p;refine⟨O,ρ,L,b1,L1,r,e1,λH1 O1 st rs=>?_⟩
  cases b1 with
  |true =>
   refine iteT ⟨O1,ρ,L1,c,L',r.to st rs,by simpa using e,λH' O' st' rs'=>k H' O' (st.trans st') rs'⟩
  |false =>
   simp at e;obtain⟨rfl,rfl⟩:=e;exact iteF (k H1 O1 st rs)
def AHg{f g:TF}{rest:AME}(ha:Eu X a f)(hb:IC X (.BoolOp .Or (b::rest) pos) g):IC X (.BoolOp .Or (a::b::rest) pos) (FV f g) :=
 PW.weaken (ACM ha hb) λY H Q z3_=>by
  obtain⟨O,ρ,L,c,L',r,e,k⟩:=z3_;unfold FV at e;obtain⟨p,e1,e⟩:=bS e;obtain⟨b1,L1⟩:=p;refine⟨O,ρ,L,b1,L1,r,e1,λH1 O1 st rs=>?_⟩
  cases b1 with
  |true =>
   simp at e;obtain⟨rfl,rfl⟩:=e;exact iteT (k H1 O1 st rs)
  |false =>
   refine iteF ⟨O1,ρ,L1,c,L',r.to st rs,by simpa using e,λH' O' st' rs'=>k H' O' (st.trans st') rs'⟩
def AH7{f:TF}(h:IC X a f):Eu X a f:=PW.pt h
abbrev Fb(f g:EF):EF:=λρ L=>(f ρ L).bind λx=>match x.1 with|.bl true=>g ρ x.2|.bl false=>some (.bl false,x.2)|_=>none
abbrev Hh(f g:EF):EF:=λρ L=>(f ρ L).bind λx=>match x.1 with|.bl true=>some (.bl true,x.2)|.bl false=>g ρ x.2|_=>none
abbrev LG(f:EF):EF:=λρ L=>(f ρ L).bind λx=>match x.1 with|.bl b=>some (.bl (!b),x.2)|_=>none
def AFt{op:BoolOp}{f:EF}(h:AO X a f):AO X (.BoolOp op [a] pos) f:=AC4 h
def AF2{f g:EF}{rest:AME}(ha:AO X a f)(hb:AO X (.BoolOp .And (b::rest) pos) g):AO X (.BoolOp .And (a::b::rest) pos) (Fb f g) :=
 PE.weaken (ADM ha hb) λY H Q z3_=>by
  obtain⟨O,ρ,L,c,L',r,e,k⟩:=z3_;unfold Fb at e;obtain⟨p,e1,e⟩:=bS e;obtain⟨d,L1⟩:=p;refine⟨O,ρ,L,d,L1,r,e1,λv H1 O1 st rs is=>?_⟩
  cases d <;> simp only[AQ] at e <;> try (cases e;done)
  rename_i b1;cases is;refine⟨b1,rfl,?_⟩
  cases b1 with
  |true=>exact iteT ⟨O1,ρ,L1,c,L',r.to st rs,by simpa using e,λv H' O' st' rs' is'=>k v H' O' (st.trans st') rs' is'⟩
  |false =>
   simp at e;obtain⟨rfl,rfl⟩:=e;exact iteF (k _ H1 O1 st rs (.bl _))
def AJk{f g:EF}{rest:AME}(ha:AO X a f)(hb:AO X (.BoolOp .Or (b::rest) pos) g):AO X (.BoolOp .Or (a::b::rest) pos) (Hh f g) :=
 PE.weaken (AC2 ha hb) λY H Q z3_=>by
  obtain⟨O,ρ,L,c,L',r,e,k⟩:=z3_;unfold Hh at e;obtain⟨p,e1,e⟩:=bS e;obtain⟨d,L1⟩:=p;refine⟨O,ρ,L,d,L1,r,e1,λv H1 O1 st rs is=>?_⟩
  cases d <;> simp only[AQ] at e <;> try (cases e;done)
  rename_i b1;cases is;refine⟨b1,rfl,?_⟩
  cases b1 with
  |false=>exact iteF ⟨O1,ρ,L1,c,L',r.to st rs,by simpa using e,λv H' O' st' rs' is'=>k v H' O' (st.trans st') rs' is'⟩
  |true =>
   simp at e;obtain⟨rfl,rfl⟩:=e;exact iteT (k _ H1 O1 st rs (.bl _))
def AJm{f:EF}(ha:AO X a f):AO X (.UnaryOp .Not a pos) (LG f) :=
 PE.weaken (AC5 ha) λY H Q z3_=>by
  obtain⟨O,ρ,L,c,L',r,e,k⟩:=z3_;unfold LG at e;obtain⟨p,e1,e⟩:=bS e;obtain⟨d,L1⟩:=p;refine⟨O,ρ,L,d,L1,r,e1,λv H1 O1 st rs is=>?_⟩
  cases d <;> simp only[AQ] at e <;> try (cases e;done)
  cases e;cases is;exact⟨_,rfl,k _ H1 O1 st rs (.bl _)⟩
abbrev Gg(t:TF)(f g:EF):EF:=λρ L=>(t ρ L).bind λx=>if x.1=true then f ρ x.2 else g ρ x.2
def AJp{t:TF}{f g:EF}(hc:Eu X c t)(ha:AO X a f)(hb:AO X b g):AO X (.IfExp c a b pos) (Gg t f g) :=
 PE.weaken (ADB hc ha hb) λY H Q z3_=>by
  obtain⟨O,ρ,L,d,L',r,e,k⟩:=z3_;unfold Gg at e;obtain⟨p,e1,e⟩:=bS e;obtain⟨b1,L1⟩:=p;refine⟨O,ρ,L,b1,L1,r,e1,λH1 O1 st rs=>?_⟩
  cases b1 with
  |true=>exact iteT ⟨O1,ρ,L1,d,L',r.to st rs,by simpa using e,λv H' O' st' rs' is'=>k v H' O' (st.trans st') rs' is'⟩
  |false=>exact iteF ⟨O1,ρ,L1,d,L',r.to st rs,by simpa using e,λv H' O' st' rs' is'=>k v H' O' (st.trans st') rs' is'⟩
abbrev Ci:Expr->Bool
 |.Starred _ _=>false
 |_=>true
def Ef{e:Expr}{es:AME}{env:Env}(h:Ci e=true):starEach (e::es) env=(false,eval e env)::starEach es env:=by cases e <;> first|rfl|(cases h)
def Gc:∀{es:AME} {env:Env} {pos:Pos},es.all Ci=true->(backTo pos (starEach es env)).any (·.1)=false
 |[],_,_,_=>rfl
 |e::es,env,pos,h=>by
  rw[AKq,CA] at h;rw[Ef h.1];have:=Gc (env:=env) (pos:=pos) h.2;unfold backTo at this ⊢;rw[Ah,AKW,this];rfl
def Vz:∀{es:AME} {env:Env} {pos:Pos},es.all Ci=true->(backTo pos (starEach es env)).all (λx=>!x.1)=true
 |[],_,_,_=>rfl
 |e::es,env,pos,h=>by
  rw[AKq,CA] at h;rw[Ef h.1];have:=Vz (env:=env) (pos:=pos) h.2;unfold backTo at this ⊢;rw[Ah,AKq,this];rfl
abbrev AD:AF:=λ_ L=>some ([],L)
abbrev AA(f:EF)(g:AF):AF:=λρ L=>(f ρ L).bind λx=>(g ρ x.2).bind λy=>some (x.1::y.1,y.2)
def HM:Da X [] AD:=PA.weaken LD λY H Q z3_=>by obtain⟨O,ρ,L,d,L',r,e,k⟩:=z3_;cases e;exact k _ _ _ (.refl _ _) r.s .nil
def Dw{e:Expr}{es:AME}{f:EF}{g:AF}(ha:AO X e f)(hr:Da X es g)(hs:Ci e=true:=by rfl):Da X (e::es) (AA f g) :=
 PA.weaken (Hg ha hr (Ef hs)) λY H Q z3_=>by
  obtain⟨O,ρ,L,d,L',r,e,k⟩:=z3_;unfold AA at e;obtain⟨p,e1,e⟩:=bS e;obtain⟨q,e2,e⟩:=bS e;cases e;refine⟨O,ρ,L,p.1,p.2,r,e1,λv H1 O1 st1 rs1 is1=>?_⟩;refine⟨O1,ρ,p.2,q.1,q.2,r.to st1 rs1,e2,λu H2 O2 st2 rs2 is2=>?_⟩;exact k _ _ _ (st1.trans st2) rs2 (.cons (is1.mono st2) is2)
abbrev Bp(f:AF):EF:=λρ L=>(f ρ L).bind λx=>if x.1.length<=16777216 then some (.tup x.1,x.2) else none
abbrev BS(f:AF):EF:=λρ L=>(f ρ L).bind λx=>if x.1.length<=16777216 then some (.ref x.2.length,x.2++[.lst x.1]) else none
def AJi{es:AME}{f:AF}{x1:Nat}(h:Da X es f):AO X (.Tuple es x1 pos) (Bp f) :=
 PE.weaken (Rc h) λY H Q z3_=>by
  obtain⟨O,ρ,L,d,L',r,e,k⟩:=z3_;unfold Bp at e;obtain⟨p,e1,e⟩:=bS e;split at e
  .rename_i hz;cases e;refine⟨O,ρ,L,p.1,p.2,r,e1,λvs H1 O1 st rs is=>⟨by rw[is.length,sizeLine_eq];exact hz,λq hq=>?_⟩⟩;have st2:AY H1 O1 (upd H1 q (.tup vs)) O1:=⟨.new hq,An _⟩;exact k _ _ _ (st.trans st2) (rs.ext λa u e=>by rw[Ax (CW e hq)];exact e) (.tup (BW.of Bn) (is.mono st2))
  .cases e
def YI{es:AME}{f:AF}(h:Da X es f):AO X (.List es pos) (BS f) :=
 PE.weaken (AC8 h) λY H Q z3_=>by
  obtain⟨O,ρ,L,d,L',r,e,k⟩:=z3_;unfold BS at e;obtain⟨p,e1,e⟩:=bS e;split at e
  .rename_i hz;cases e;refine⟨O,ρ,L,p.1,p.2,r,e1,λvs H1 O1 st rs is=>⟨by rw[is.length,sizeLine_eq];exact hz,λq hq=>?_⟩⟩;have st2:AY H1 O1 (upd H1 q (.lst vs)) (O1++[q]):=⟨.new hq,Aj _ _⟩;refine k _ _ _ (st.trans st2) (rs.new hq ⟨vs,Bn,is.mono st2⟩) (.ref ?_);rw[<-rs.len];simp
  .cases e
abbrev AJ(g:GL)(f:AF):EF:=λρ L=>(f ρ L).bind λx=>g x.1 x.2
def OY{K:AI}{g:GL}{f:AF}{Y:L2.St}{H:Hp}{Q:VK}(h:Hi K (AJ g f) Y H Q):Ru K f Y H λvs H1=>rC K g vs H1 Q:=by obtain⟨O,ρ,L,d,L',r,e,k⟩:=h;unfold AJ at e;obtain⟨p,e1,e⟩:=bS e;exact⟨O,ρ,L,p.1,p.2,r,e1,λvs H1 O1 st rs is=>⟨O1,p.2,p.1,d,L',rs,is,e,λw H' O' st' rs' is'=>k w H' O' (st.trans st') rs' is'⟩⟩
def AJu{x:Str}{p:Pos}{e:Expr}{es:AME}{id:String}{g:GL}{f:AF}(hc:Ez X (.builtin id) g)(hm:X.mg x=none)(hv:bootBuiltins x=some (.builtin id))(ha:Da X (e::es) f)(hg:Gl X x:=by rfl)(hn:x≠"__name__":=by decide)(hdb:(x == ("__debug__":Str))=false:=by decide)
  (he:Ci e=true:=by rfl) (hpl:es.all Ci=true:=by rfl):AO X (.Call (.Name x p) (e::es) [] pos) (AJ g f) :=
 PE.weaken (Re hc hg hm hv ha hn hdb (Ef he) (Gc hpl)) λY H Q h=>OY h
def AJt{x:Str}{p:Pos}{e:Expr}{es:AME}{T:String}{g:GL}{f:AF}(hc:Ez X (.type T) g)(hm:X.mg x=none)(hv:bootBuiltins x=some (.type T))(ha:Da X (e::es) f)(hg:Gl X x:=by rfl)(hn:x≠"__name__":=by decide)(hdb:(x == ("__debug__":Str))=false:=by decide)
  (he:Ci e=true:=by rfl) (hpl:es.all Ci=true:=by rfl):AO X (.Call (.Name x p) (e::es) [] pos) (AJ g f) :=
 PE.weaken (ADG hc hg hm hv ha hn hdb (Ef he) (Gc hpl)) λY H Q h=>OY h
end
inductive EC where
 |next (ρ:Fm) (L:AB)|ret (d:D) (L:AB)|brk (ρ:Fm) (L:AB)|cont (ρ:Fm) (L:AB)
noncomputable abbrev SF:=Fm->AB->Option EC
abbrev Jy(K:AI)(H:Hp)(O:AMD)(E:IH):EC->Prop
 |.next ρ L=>∀Y' H' O',AY H O H' O'->Cy K H' O' Y' ρ L->E.nx Y' H'
 |.ret d L=>∀v H' O',AY H O H' O'->Ai K H' O' L->Is K H' O' v d->E.rt v H'
 |.brk ρ L=>∀Y' H' O',AY H O H' O'->Cy K H' O' Y' ρ L->E.bk Y' H'
 |.cont ρ L=>∀Y' H' O',AY H O H' O'->Cy K H' O' Y' ρ L->E.ct Y' H'
def Jy.mono{K:AI}{H H1:Hp}{O O1:AMD}{E:IH}{out:EC}(st:AY H O H1 O1)(h:Jy K H O E out):Jy K H1 O1 E out:=by
 cases out with
 |next ρ L=>exact λY' H' O' st' r=>h Y' H' O' (st.trans st') r
 |ret d L=>exact λv H' O' st' r i=>h v H' O' (st.trans st') r i
 |brk ρ L=>exact λY' H' O' st' r=>h Y' H' O' (st.trans st') r
 |cont ρ L=>exact λY' H' O' st' r=>h Y' H' O' (st.trans st') r
abbrev OB(K:AI)(f:SF):TS:=λE Y H=>∃O ρ L out,Cy K H O Y ρ L/\f ρ L=some out/\Jy K H O E out
abbrev DU(X:Cx)(st:Stmt)(f:SF):Prop:=PS X st (OB X.K f)
abbrev EB(X:Cx)(st:AMF)(f:SF):Prop:=Ct X st (OB X.K f)
def PS.weaken{X:Cx}{e:Stmt}{t t':TS}(h:PS X e t)(i:∀D Y H,t' D Y H->t D Y H):PS X e t':=λpins s Y H D I q=>h pins s Y H D I (i D Y H q)
def Ct.weaken{X:Cx}{e:AMF}{t t':TS}(h:Ct X e t)(i:∀D Y H,t' D Y H->t D Y H):Ct X e t':=λpins s Y H D I q=>h pins s Y H D I (i D Y H q)
abbrev Ak:SF:=λρ L=>some (.next ρ L)
abbrev AH(f g:SF):SF:=λρ L=>(f ρ L).bind λout=>match out with|.next ρ' L'=>g ρ' L'|o=>some o
abbrev AN(f:EF):SF:=λρ L=>(f ρ L).bind λx=>some (.ret x.1 x.2)
abbrev DY(f:EF):SF:=λρ L=>(f ρ L).bind λx=>some (.next ρ x.2)
abbrev AL(i:Nat)(f:EF):SF:=λρ L=>(f ρ L).bind λx=>some (.next (ρ.set i (some x.1)) x.2)
abbrev Af(t:TF)(f g:SF):SF:=λρ L=>(t ρ L).bind λx=>if x.1=true then f ρ x.2 else g ρ x.2
section
variable {X:Cx}{st:Stmt}{rest:AMF}{f g:SF}{fe:EF}{e:Expr}{pos:Pos}
def VO:EB X [] Ak:=Ct.weaken Vt λD Y H z3_=>by obtain⟨O,ρ,L,out,r,e,k⟩:=z3_;cases e;exact k Y H O (.refl _ _) r
def HY(h1:DU X st f)(h2:EB X rest g):EB X (st::rest) (AH f g) :=
 Ct.weaken (Vu h1 h2) λD Y H z3_=>by
  obtain⟨O,ρ,L,out,r,e,k⟩:=z3_;unfold AH at e;obtain⟨o1,e1,e⟩:=bS e;refine⟨O,ρ,L,o1,r,e1,?_⟩
  cases o1 with
  |next ρ1 L1=>exact λY' H' O' st' r'=>⟨O',ρ1,L1,out,r',e,k.mono st'⟩
  |ret d L1=>cases e;exact k
  |brk ρ1 L1=>cases e;exact k
  |cont ρ1 L1=>cases e;exact k
def IR(h1:DU X st f):EB X [st] f:=Ct.weaken (Vs h1) λD Y H h=>h
def AIE(he:AO X e fe)(hs:swapsWith e none pos.line X.env=pure false:=by rfl):DU X (.Expr e pos) (DY fe) :=
 PS.weaken (ACe he hs) λD Y H z3_=>by
  obtain⟨O,ρ,L,out,r,e,k⟩:=z3_;unfold DY at e
  cases e1:fe ρ L with
  |none=>rw[e1] at e;cases e
  |some p=>rw[e1] at e;cases e;exact⟨O,ρ,L,p.1,p.2,r,e1,λv H' O' st rs is=>k Y H' O' st (r.to st rs)⟩
def RP(he:AO X e fe):DU X (.Return (some e) pos) (AN fe) :=
 PS.weaken (Vv he) λD Y H z3_=>by
  obtain⟨O,ρ,L,out,r,e,k⟩:=z3_;unfold AN at e
  cases e1:fe ρ L with
  |none=>rw[e1] at e;cases e
  |some p=>rw[e1] at e;cases e;exact⟨O,ρ,L,p.1,p.2,r,e1,λv H' O' st rs is=>k v H' O' st rs is⟩
def IT{i:Nat}{x:Str}{pos':Pos}(hN:X.N.Nodup)(he:AO X e fe)(hi:X.N[i]?=some x:=by rfl)(hx:Gs X.env.scope x:=by first|exact Or.inl rfl|exact Or.inr rfl)(hs:swapsWith e (some (.Name x pos')) pos.line X.env=pure false:=by rfl)
  (hf:X.fn x=true\/X.env.scope.names.lookup x=some .local:=by first|exact .inl rfl|exact .inr rfl):DU X (.Assign [.Name x pos'] e pos) (AL i fe) :=
 PS.weaken (ACY hN hi hx he hs hf) λD Y H z3_=>by
  obtain⟨O,ρ,L,out,r,e,k⟩:=z3_;unfold AL at e
  cases e1:fe ρ L with
  |none=>rw[e1] at e;cases e
  |some p=>rw[e1] at e;cases e;exact⟨O,ρ,L,p.1,p.2,r,e1,λv H' O' st rs is=>k _ H' O' st ⟨rs,(r.f.mono st).set is i⟩⟩
def Va{c:Expr}{a b:AMF}{t:TF}(hc:Eu X c t)(ha:EB X a f)(hb:EB X b g):DU X (.If c a b pos) (Af t f g) :=
 PS.weaken (Vw hc ha hb) λD Y H z3_=>by
  obtain⟨O,ρ,L,out,r,e,k⟩:=z3_;unfold Af at e;obtain⟨p,e1,e⟩:=bS e;obtain⟨b1,L1⟩:=p;refine⟨O,ρ,L,b1,L1,r,e1,λH1 O1 st rs=>?_⟩
  cases b1 with
  |true=>exact iteT ⟨O1,ρ,L1,out,r.to st rs,by simpa using e,k.mono st⟩
  |false=>exact iteF ⟨O1,ρ,L1,out,r.to st rs,by simpa using e,k.mono st⟩
end
noncomputable abbrev GF:=D->Fm->Option Fm
noncomputable abbrev EY:=List D->Fm->Option Fm
abbrev AES(K:AI)(g:GF):TG:=λv Y H Q=>∃O ρ L d ρ',Cy K H O Y ρ L/\Is K H O v d/\g d ρ=some ρ'/\∀Y',Cy K H O Y' ρ' L->Q Y' H
abbrev Wq(K:AI)(g:EY):GN:=λv Y H Q=>∃O ρ L d ρ',Cy K H O Y ρ L/\AM K H O v d/\g d ρ=some ρ'/\∀Y',Cy K H O Y' ρ' L->Q Y' H
abbrev Gr(X:Cx)(tg:Expr)(g:GF):Prop:=PG X tg (AES X.K g)
abbrev KA(X:Cx)(tg:AME)(g:EY):Prop:=GP X tg (Wq X.K g)
def PG.weaken{X:Cx}{e:Expr}{t t':TG}(h:PG X e t)(i:∀v Y H Q,t' v Y H Q->t v Y H Q):PG X e t':=λpins s Y H v u Q I r q=>h pins s Y H v u Q I r (i _ _ _ _ q)
def GP.weaken{X:Cx}{e:AME}{t t':GN}(h:GP X e t)(i:∀v Y H Q,t' v Y H Q->t v Y H Q):GP X e t':=λpins s Y H v u Q I r q=>h pins s Y H v u Q I r (i _ _ _ _ q)
abbrev Ab(i:Nat):GF:=λd ρ=>some (ρ.set i (some d))
abbrev FZ:EY:=λds ρ=>match ds with|[]=>some ρ|_=>none
abbrev CK(g:GF)(h:EY):EY:=λds ρ=>match ds with|d::r=>(g d ρ).bind λρ'=>h r ρ'|[]=>none
abbrev Fy(n:Nat)(h:EY):GF:=λd ρ=>match d with|.tup ds=>if ds.length=n then h ds ρ else none|_=>none
section
variable {X:Cx}{pos:Pos}
def Xd{i:Nat}{x:Str}(hN:X.N.Nodup)(hi:X.N[i]?=some x:=by rfl)(hx:Gs X.env.scope x:=by first|exact Or.inl rfl|exact Or.inr rfl)(hf:X.fn x=true\/X.env.scope.names.lookup x=some .local:=by first|exact .inl rfl|exact .inr rfl):Gr X (.Name x pos) (Ab i) :=
 PG.weaken (ACx hN hi hx hf) λv Y H Q z4_=>by
  obtain⟨O,ρ,L,d,ρ',r,is,e,k⟩:=z4_;cases e;exact k _ ⟨r.s,r.f.set is i⟩
def AI5:KA X [] FZ:=GP.weaken ACv λv Y H Q z4_=>by
 obtain⟨O,ρ,L,d,ρ',r,is,e,k⟩:=z4_
 cases is with
 |nil=>cases e;exact⟨rfl,k _ r⟩
 |cons a b=>cases e
end
section
variable {X:Cx}{pos:Pos}
def AI6{e:Expr}{es:AME}{g:GF}{h:EY}(h1:Gr X e g)(h2:KA X es h)
  (hs:(assignEach (e::es) X.env).map (·.2)=assign e X.env::(assignEach es X.env).map (·.2):=by rfl):KA X (e::es) (CK g h) :=
 GP.weaken (ACw h1 h2 hs) λv Y H Q z4_=>by
  obtain⟨O,ρ,L,ds,ρ',r,is,e,k⟩:=z4_
  cases is with
  |nil=>cases e
  |@cons v d vs ds a b =>
   simp only[CK] at e;obtain⟨ρ1,e1,e⟩:=bS e;exact⟨v,vs,rfl,O,ρ,L,d,ρ1,r,a,e1,λY' r'=>⟨O,ρ1,L,ds,ρ',r',b,e,k⟩⟩
def AI7{es:AME}{k:Nat}{h:EY}{n:Nat}(hc:X.calm=true)(h1:KA X es h)
  (hn:(assignEach es X.env).length=n:=by rfl) (hst:(assignEach es X.env).findIdx? (·.1)=none:=by rfl):Gr X (.Tuple es k pos) (Fy n h) :=
 PG.weaken (WF hc h1 hn hst) λv Y H Q z4_=>by
  obtain⟨O,ρ,L,d,ρ',r,is,e,k⟩:=z4_
  cases is with
  |@tup a vs ds hq il =>
   simp only[Fy] at e;split at e
   .rename_i hl;exact⟨a,vs,rfl,hq,by rw[il.length];exact hl,O,ρ,L,ds,ρ',r,il,e,k⟩
   .cases e
  |_=>cases e
end
structure Lq where
 items:List D
 ok:AB->Bool
noncomputable abbrev IF:=Fm->AB->Option (Lq×AB)
abbrev KG(K:AI)(H0:Hp)(O0:AMD)(Jt:It)(J:Lq):Prop:=∀(i:Nat) (H:Hp) (O:AMD) (L:AB),AY H0 O0 H O->Ai K H O L->J.ok L=true ->
 (∀d,J.items[i]?=some d->Jt.go i H/\∀x H',Jt.yld i H x H'->AY H O H' O/\Ai K H' O L/\Is K H' O x d)/\(J.items.length<=i->Jt.stop i H)
def KG.mono{K:AI}{H0 H1:Hp}{O0 O1:AMD}{Jt:It}{J:Lq}(st:AY H0 O0 H1 O1)(h:KG K H0 O0 Jt J):KG K H1 O1 Jt J:=λi H O L s r o=>h i H O L (st.trans s) r o
abbrev AER(K:AI)(f:IF):TI:=λY H R=>∃O ρ L J L',Cy K H O Y ρ L/\f ρ L=some (J,L')/\∀Jt H' O',AY H O H' O'->Ai K H' O' L'->KG K H' O' Jt J->R Jt H'
abbrev Dl(X:Cx)(tg iter:Expr)(f:IF):Prop:=PI X tg iter (AER X.K f)
def PI.weaken{X:Cx}{tg e:Expr}{t t':TI}(h:PI X tg e t)(i:∀Y H R,t' Y H R->t Y H R):PI X tg e t':=λpins s Y H R I q=>h pins s Y H R I (i _ _ _ q)
abbrev DQ(ok:AB->Bool)(g:GF)(body:SF):List D->Fm->AB->Option EC
 |[],ρ,L=>if ok L=true then some (.next ρ L) else none
 |x::xs,ρ,L=>if ok L=true then (g x ρ).bind λρ1=>(body ρ1 L).bind λout=>match out with
   |.next ρ2 L2=>DQ ok g body xs ρ2 L2
   |.cont ρ2 L2=>DQ ok g body xs ρ2 L2
   |.brk ρ2 L2=>some (.next ρ2 L2)
   |.ret d L2=>some (.ret d L2)
  else none
abbrev Bg(fi:IF)(g:GF)(body:SF):SF:=λρ L=>(fi ρ L).bind λx=>DQ x.1.ok g body x.1.items ρ x.2
def Vb{X:Cx}{tg iter:Expr}{body:AMF}{fi:IF}{g:GF}{fb:SF}{pos:Pos}(hp:PassesOwn (model X.prog X.w) X.A X.env X.xe)(hc:X.calm=true)(hi:Dl X tg iter fi)(hg:Gr X tg g)(hb:EB X body fb)
  (hs:∀x,foldedSetIterable iter X.env x=pure x:=by intro _;rfl):DU X (.For tg iter body [] pos) (Bg fi g fb) :=
 PS.weaken (ACb hp hc hi hg hb hs) λD Y H z3_=>by
  obtain⟨O,ρ,L,out,r,e,k⟩:=z3_;unfold Bg at e;obtain⟨p,e1,e⟩:=bS e;obtain⟨⟨items,ok⟩,L1⟩:=p;simp only[AQ] at e;refine⟨O,ρ,L,_,_,r,e1,λJt H1 O1 st1 rs1 it=>?_⟩
  refine⟨λi m Y H=>m=items.length-i/\i<=items.length/\∃O ρ L,AY H1 O1 H O/\Cy X.K H O Y ρ L/\DQ ok g fb (items.drop i) ρ L=some out/\Jy X.K H O D out,
   ⟨items.length,rfl,Ed _,O1,ρ,L1,.refl _ _,r.to st1 rs1,e,k.mono st1⟩,?_⟩
  rintro i m Y' H' ⟨rfl,hi',O',ρ',L',st',r',el,k'⟩
  by_cases hlt:i<items.length
  .have ed:items.drop i=items[i]::items.drop (i+1):=ALp hlt;rw[ed] at el;simp only[DQ] at el;split at el
   .rename_i hok;obtain⟨h1,_⟩:=it i H' O' L' st' r'.s hok;obtain⟨go,yl⟩:=h1 items[i] (by simp[hlt])
    refine .inr ⟨go,λY2 H2=>∃m',m'<items.length-i/\m'=items.length-(i+1)/\i+1<=items.length/\∃O ρ L,AY H1 O1 H2 O/\Cy X.K H2 O Y2 ρ L/\DQ ok g fb (items.drop (i+1)) ρ L=some out/\Jy X.K H2 O D out,
     λY2 H2 h=>h,λx H2 y=>?_⟩
    obtain⟨st2,rs2,is2⟩:=yl x H2 y;obtain⟨ρ1,eg,el⟩:=bS el;refine⟨O',ρ',L',_,ρ1,r'.to st2 rs2,is2,eg,λY3 r3=>?_⟩;obtain⟨o1,eb,el⟩:=bS el;refine⟨O',ρ1,L',o1,r3,eb,?_⟩
    cases o1 with
    |next ρ2 L2=>exact λY4 H4 O4 st4 r4=>⟨items.length-(i+1),by omega,rfl,hlt,O4,ρ2,L2,(st'.trans st2).trans st4,r4,el,(k'.mono st2).mono st4⟩
    |cont ρ2 L2=>exact λY4 H4 O4 st4 r4=>⟨items.length-(i+1),by omega,rfl,hlt,O4,ρ2,L2,(st'.trans st2).trans st4,r4,el,(k'.mono st2).mono st4⟩
    |brk ρ2 L2=>cases el;exact λY4 H4 O4 st4 r4=>k' Y4 H4 O4 (st2.trans st4) r4
    |ret d L2=>cases el;exact λv H4 O4 st4 r4 i4=>k' v H4 O4 (st2.trans st4) r4 i4
   .cases el
  .have hi2:i=items.length:=by omega
   subst hi2;rw[List.drop_length] at el;simp only[DQ] at el;split at el
   .rename_i hok;cases el;obtain⟨_,h2⟩:=it _ H' O' L' st' r'.s hok;exact .inl ⟨h2 (Ac _),k' Y' H' O' (.refl _ _) r'⟩
   .cases el
abbrev SL(f:EF):IF:=λρ L=>(f ρ L).bind λx=>match x.1 with|.tup xs=>some (⟨xs,λ_=>true⟩,x.2)|_=>none
abbrev OI(f:EF):IF:=λρ L=>(f ρ L).bind λx=>match x.1 with
 |.fz xs=>some (⟨xs,λ_=>true⟩,x.2)
 |.ref k=>match x.2[k]? with|some (.lst xs)=>some (⟨xs,λL'=>decide (L'[k]?=some (.lst xs))⟩,x.2)|_=>none
 |_=>none
abbrev EM(lo:Int)(n:Nat):List D:=(List.range n).map λ(i:Nat)=>.int (lo+((i:Nat):Int))
abbrev Fx(f:AF):IF:=λρ L=>(f ρ L).bind λx=>match x.1 with
 |[.int j]=>if j<=4611686018427387903/\-4611686018427387904<=j then some (⟨EM 0 j.toNat,λ_=>true⟩,x.2) else none
 |_=>none
abbrev LM(f:AF):IF:=λρ L=>(f ρ L).bind λx=>match x.1 with
 |[.int i,.int j]=>if (i<=4611686018427387903/\-4611686018427387904<=i)/\(j<=4611686018427387903/\-4611686018427387904<=j) then some (⟨EM i (j-i).toNat,λ_=>true⟩,x.2) else none
 |_=>none
section
variable {X:Cx}{tg l:Expr}{f:EF}
def Vg(lo:Int)(n i:Nat):(EM lo n)[i]?=if i<n then some (.int (lo+(i:Int))) else none:=by
 unfold EM;rw[Av]
 by_cases h:i<n
 .rw[if_pos h];simp[AK0 h]
 .rw[if_neg h];simp;omega
def Gb(lo:Int)(n:Nat):(EM lo n).length=n:=by simp[EM]
def XG{K:AI}{H0:Hp}{O0:AMD}{lo:Int}{n:Nat}:KG K H0 O0 (Lp lo n) ⟨EM lo n,λ_=>true⟩:=by
 intro i H O L st rs _;refine⟨λd hd=>?_,λh=>by rw[Gb] at h;exact h⟩;simp only at hd;rw[Vg] at hd;split at hd
 .rename_i hlt;cases hd;refine⟨hlt,λx H' y=>?_⟩;obtain⟨e,y⟩:=y;subst e y;exact⟨.refl _ _,rs,.int _⟩
 .cases hd
def ACn(hl:AO X l f):Dl X tg l (SL f):=PI.weaken (ACq hl) λY H R z3_=>by
 obtain⟨O,ρ,L,J,L',r,e,k⟩:=z3_;unfold SL at e;obtain⟨p,e1,e⟩:=bS e;obtain⟨d,L1⟩:=p
 cases d <;> simp only[AQ] at e <;> try (cases e;done)
 cases e;refine⟨O,ρ,L,_,_,r,e1,λv H1 O1 st rs is=>?_⟩
 cases is with
 |@tup a vs ds hq il =>
  refine⟨a,rfl,⟨vs,hq⟩,k _ _ _ st rs λi H2 O2 L2 st2 rs2 _=>?_⟩;have hq2:=BW.grow st2.1 hq;have il2:=il.mono st2;refine⟨λd hd=>?_,λh=>⟨vs,hq2,by rw[il.length];exact h⟩⟩;obtain⟨v,hv,iv⟩:=il2.get hd;refine⟨⟨vs,v,hq2,hv⟩,λx H' y=>?_⟩;obtain⟨e,y⟩:=y;subst e;have:=y vs hq2;rw[hv] at this;cases this;exact⟨.refl _ _,rs2,iv⟩
def WD(hl:AO X l f):Dl X tg l (OI f):=PI.weaken (ACu hl) λY H R z3_=>by
 obtain⟨O,ρ,L,J,L',r,e,k⟩:=z3_;unfold OI at e;obtain⟨p,e1,e⟩:=bS e;obtain⟨d,L1⟩:=p
 cases d <;> simp only[AQ] at e <;> try (cases e;done)
 .cases e;refine⟨O,ρ,L,_,_,r,e1,λv H1 O1 st rs is=>?_⟩
  cases is with
  |@fz a vs ds hq il =>
   refine⟨a,rfl,⟨vs,hq.sql⟩,k _ _ _ st rs λi H2 O2 L2 st2 rs2 _=>?_⟩;have hq2:=(SqF.grow st2.1 hq).sql;have il2:=il.mono st2;refine⟨λd hd=>?_,λh=>⟨vs,hq2,by rw[il.length];exact h⟩⟩;obtain⟨v,hv,iv⟩:=il2.get hd;refine⟨⟨vs,v,hq2,hv⟩,λx H' y=>?_⟩;obtain⟨e,y⟩:=y;subst e;have:=y vs hq2;rw[hv] at this;cases this;exact⟨.refl _ _,rs2,iv⟩
 .rename_i kk
  cases e2:L1[kk]? with
  |none=>rw[e2] at e;cases e
  |some o =>
   rw[e2] at e
   cases o with
   |dk _=>cases e
   |ins _ _=>cases e
   |dt _ _=>cases e
   |exn _=>cases e
   |lst xs =>
    cases e;refine⟨O,ρ,L,_,_,r,e1,λv H1 O1 st rs is=>?_⟩
    cases is with
    |@ref _ a hk =>
     obtain⟨vs,hv,il⟩:=rs.ob _ _ _ hk e2;refine⟨a,rfl,⟨vs,BI.of hv⟩,k _ _ _ st rs λi H2 O2 L2 st2 rs2 hok=>?_⟩;have hk2:=Ch st2.2 hk;obtain⟨ws,hw,iw⟩:=rs2.ob _ _ _ hk2 (of_decide_eq_true hok);refine⟨λd hd=>?_,λh=>⟨ws,BI.of hw,by rw[iw.length];exact h⟩⟩;obtain⟨v,hv',iv⟩:=iw.get hd;refine⟨⟨ws,v,BI.of hw,hv'⟩,λx H' y=>?_⟩;obtain⟨e,y⟩:=y;subst e;have:=y ws (BI.of hw);rw[hv'] at this;cases this;exact⟨.refl _ _,rs2,iv⟩
def AIS{a:Expr}{fa:AF}{p pos:Pos}(hm:X.mg "range"=none)(ha:Da X [a] fa)(hg:Gl X "range":=by rfl)(hs:starEach [a] X.env=[(false,eval a X.env)]:=by rfl):Dl X tg (.Call (.Name "range" p) [a] [] pos) (Fx fa) :=
 PI.weaken (ACt hg hm ha hs) λY H R z3_=>by
  obtain⟨O,ρ,L,J,L',r,e,k⟩:=z3_;unfold Fx at e;obtain⟨q,e1,e⟩:=bS e;obtain⟨ds,L1⟩:=q;simp only[AQ] at e;refine⟨O,ρ,L,ds,L1,r,e1,λvs H1 O1 st rs is=>?_⟩;split at e
  .rename_i j;split at e
   .rename_i hj;cases e
    cases is with
    |cons i1 i2 =>
     cases i1;cases i2;exact⟨j,rfl,by omega,by omega,k _ _ _ st rs XG⟩
   .cases e
  .cases e
def AIR{a b:Expr}{fa:AF}{p pos:Pos}(hm:X.mg "range"=none)(ha:Da X [a,b] fa)(hg:Gl X "range":=by rfl)(hs:starEach [a,b] X.env=[(false,eval a X.env),(false,eval b X.env)]:=by rfl)(hs2:starEach [b] X.env=[(false,eval b X.env)]:=by rfl):Dl X tg (.Call (.Name "range" p) [a,b] [] pos) (LM fa) :=
 PI.weaken (ACs hg hm ha hs hs2) λY H R z3_=>by
  obtain⟨O,ρ,L,J,L',r,e,k⟩:=z3_;unfold LM at e;obtain⟨q,e1,e⟩:=bS e;obtain⟨ds,L1⟩:=q;simp only[AQ] at e;refine⟨O,ρ,L,ds,L1,r,e1,λvs H1 O1 st rs is=>?_⟩;split at e
  .rename_i i j;split at e
   .rename_i hj;cases e
    cases is with
    |cons i1 i2 =>
     cases i1
     cases i2 with
     |cons i3 i4 =>
      cases i3;cases i4;exact⟨i,j,rfl,⟨by omega,by omega,by omega,by omega⟩,k _ _ _ st rs XG⟩
   .cases e
  .cases e
end
def AFV{names:List (Str×NameKind)}{env:Env}:∀(cs:List (Str×Addr)),(∀y∈names,y.2=.free->∃c,env.cells.lookup y.1=some c) ->
  ∃cl:List (Str×Addr),(forIn names cs (λ(x:Str×NameKind) (r:List (Str×Addr))=>match x with
   |(name,kind)=>if (kind == NameKind.free)=true then do let a <-cellOf env name;pure (ForInStep.yield ((name,a)::r)) else pure (ForInStep.yield r)):Sem (List (Str×Addr)))=pure cl /\
   (∀x,(x,NameKind.free)∈names->cl.lookup x=env.cells.lookup x)/\(∀x c,cl.lookup x=some c->env.cells.lookup x=some c\/cs.lookup x=some c)/\(∀x,(cs.lookup x=env.cells.lookup x)->cl.lookup x=env.cells.lookup x):=by
 induction names with
 |nil=>intro cs _;exact⟨cs,rfl,λx h=>by simp at h,λx c h=>.inr h,λx h=>h⟩
 |cons y r ih =>
  intro cs h;obtain⟨n,kd⟩:=y;rw[AK4]
  by_cases hk:kd=.free
  .subst hk;obtain⟨c,hc⟩:=h (n,.free) BC rfl;obtain⟨cl,e1,e2,e3,e4⟩:=ih ((n,c)::cs) λy hy=>h y (Az _ hy)
   have here:∀x,((n,c)::cs).lookup x=if x == n then some c else cs.lookup x:=λx=>by
    cases hx:x == n <;> simp[FO,hx]
   refine⟨cl,?_,λx hx=>?_,λx c' hx=>?_,λx hx=>e4 x ?_⟩
   .simp only[cellOf,hc];rw[<-e1];rfl
   .rcases AW.mp hx with z|z
    .injection z with z1 _
     subst z1;refine e4 x ?_;rw[here];simp[hc]
    .exact e2 x z
   .rcases e3 x c' hx with z|z
    .exact .inl z
    .rw[here] at z
     cases hxn:x == n with
     |true =>
      rw[hxn] at z;simp at z;subst z;have:x=n:=by simpa using hxn
      subst this;exact .inl hc
     |false=>rw[hxn] at z;exact .inr z
   .rw[here]
    cases hxn:x == n with
    |true =>
     have:x=n:=by simpa using hxn
     subst this;simp[hc]
    |false=>simpa using hx
  .have hb:(kd == NameKind.free)=false:=by simpa using hk
   obtain⟨cl,e1,e2,e3,e4⟩:=ih cs λy hy=>h y (Az _ hy);refine⟨cl,?_,λx hx=>?_,e3,e4⟩
   .simp only[hb];rw[<-e1];rfl
   .rcases AW.mp hx with z|z
    .injection z with _ z2
     exact absurd z2.symm hk
    .exact e2 x z
def AGL{scope:Scope}{env:Env}(h:∀y∈scope.names,y.2=.free->∃c,env.cells.lookup y.1=some c) :
  ∃cl,closureFor scope env=pure cl/\(∀x,(x,NameKind.free)∈scope.names->cl.lookup x=env.cells.lookup x)/\(∀x c,cl.lookup x=some c->env.cells.lookup x=some c):=by
 obtain⟨cl,e1,e2,e3,_⟩:=AFV (names:=scope.names) (env:=env) [] h;refine⟨cl,?_,e2,λx c hx=>?_⟩
 .unfold closureFor;simp only[bind_pure]
  first
   |exact e1
   |(rw[e1];rfl)
 .rcases e3 x c hx with z|z
  .exact z
  .simp at z
section
variable {prog:Program}{w:World}{A:Around}{R:Result->Shared->Prop}{s:Shared}
def AGI{elt target iter:Expr}{ifs:AME}{scope:Scope}{pos:Pos}{it acc:Value}{env:Env}(I:Nat->Shared->Prop)
  (turn:∀n s,I n s->wpAny (model prog w) A (pyNext it) (λr s₁=>match r with
   |none=>R (.ok .next) s₁
   |some v=>wpAny (model prog w) A (letOwnedTupleGo target it v) (λ_ s₁'=>wpAny (model prog w) A (assign target env v) (λ_ s₂ =>
     wpAny (model prog w) A (forIn ifs true λc r=>if r=true then do let ok <-isTrue c env (eval c env);pure (ForInStep.yield ok) else pure (ForInStep.yield r)) (λok s₃ =>
      if ok=true then wpAny (model prog w) A (eval elt env) (λx s₄ =>
       wpAny (model prog w) A (call (.builtin "list.append") [acc,x]) (λ_ s₅=>∃m,m<n/\I m s₅) (λ_ _=>False) s₄) (λ_ _=>False) s₃
      else ∃m,m<n/\I m s₃) (λ_ _=>False) s₂) (λ_ _=>False) s₁') (λ_ _=>False) s₁) (λ_ _=>False) s)
  (n:Nat) (h:I n s) :
  codeAny (model prog w) A (.compLoop (.ListComp elt [⟨target,iter,ifs,0⟩] scope pos) 0 it acc env) R s:=by
 refine codeAny_loop rfl I (λn s hI=>?_) n h
 show wpAny _ A ((compTurn (.ListComp elt [⟨target,iter,ifs,0⟩] scope pos) 0 it acc env).onRaise (λx=>do noteFrame x env;theTreesLotGoes x)) _ _ s
 refine wpAny_noted ?_;rw[compTurn_list];refine AE (wpAny_standAt (AE (Dc (turn n s hI) (λr s₁ h₁=>?_) λ_ _ h'=>h'.elim)))
 cases r with
 |none=>exact AK h₁
 |some v =>
  refine AE (Dc h₁ (λ_ s₁' h₁'=>?_) λ_ _ h'=>h'.elim);refine AE (Dc h₁' (λ_ s₂ h₂=>AE (Dc h₂ (λok s₃ h₃=>?_) λ_ _ h'=>h'.elim)) λ_ _ h'=>h'.elim)
  cases ok with
  |false=>exact AK ⟨rfl,h₃⟩
  |true =>
   exact AE (AE (Dc h₃ (λx s₄ h₄=>AE (Dc h₄ (λ_ s₅ h₅=>AK (AK ⟨rfl,h₅⟩)) λ_ _ h'=>h'.elim)) λ_ _ h'=>h'.elim))
end
abbrev CY(X:Cx)(N':AMB)(scope:Scope)(cl:List (Str×Addr))(C:Addr)(s:Shared)(H:Hp)(fp:AMD)(pins:List (Addr×Obj)):Cx where
 prog:=X.prog
 w:=X.w
 K:=X.K
 mg:=X.mg
 base:=X.base
 A:=X.A
 N:=N'
 s₀:=s
 H₀:=H
 env:=compEnvC scope cl C X.env
 outer:=X.stack
 stack:=X.stack
 ex:=fp
 fn:=λ_=>false
 calm:=X.calm
 pn:=X.pn++pins
 xe:=λ_ _=>False
abbrev ID(X:Cx)(ifs:AME)(c:TF):Prop :=
 ∀(pins:List (Addr×Obj)) (s:Shared) (Y:L2.St) (H:Hp) (Q:Bool->Hp->Prop),AG X pins Y H s->OA X.K c Y H Q ->
  wpAny (model X.prog X.w) X.A (forIn ifs true λc r=>if r=true then do let ok <-isTrue c X.env (eval c X.env);pure (ForInStep.yield ok) else pure (ForInStep.yield r)) (TP X pins Y Q) X.xe s
abbrev Cg:TF:=λ_ L=>some (true,L)
def AIO{X:Cx}:ID X [] Cg:=λpins s Y H Q I z6_=>by
 obtain⟨O,ρ,L,b,L',r,e,k⟩:=z6_;cases e;exact wpAny_tests_nil ⟨H,I,k H O (.refl _ _) r.s⟩
def AIN{X:Cx}{c:Expr}{f:TF}(h:Eu X c f):ID X [c] f:=λpins s Y H Q I q=>wpAny_tests_one (h pins s Y H Q I q)
abbrev Cr(ok:AB->Bool)(g:GF)(c:TF)(elt:EF)(k:Nat):List D->Fm->AB->Option AB
 |[],ρ,L=>if ok L=true then some L else none
 |x::xs,ρ,L=>if ok L=true then (g x ρ).bind λρ1=>(c ρ1 L).bind λp=>if p.1=true then (elt ρ1 p.2).bind λq=>match q.2[k]? with
    |some (.lst ys)=>if ys.length<16777216 then Cr ok g c elt k xs ρ1 (q.2.set k (.lst (ys++[q.1]))) else none
    |_=>none
   else Cr ok g c elt k xs ρ1 p.2
  else none
abbrev Ht(n:Nat)(idx:AMG)(ρ:Fm):Fm:=AKa n none++idx.map λj=>(ρ[j]?).join
abbrev BY(fi:IF)(n:Nat)(idx:AMG)(g:GF)(c:TF)(elt:EF):EF:=λρ L=>(fi ρ L).bind λx =>
 (Cr x.1.ok g c elt x.2.length x.1.items (Ht n idx ρ) (x.2++[.lst []])).bind λL2=>some (.ref x.2.length,L2)
def RS{env:Env}:∀{names:List (Str×NameKind)} {x:Str} {k:NameKind},
  (names.map λ(n,k)=>if (k == NameKind.free&&env.scope.kind == .function&&env.kindOf n == some .cell) then (n,NameKind.cell) else (n,k)).lookup x=some k ->
  ∃k',(x,k')∈names/\(k=k'\/(k=.cell/\k'=.free))
 |[],_,_,h=>by simp at h
 |(n,k0)::r,x,k,h=>by
  rw[Ah] at h;dsimp only at h;have ih:=@RS env r x k
  by_cases hc:(k0 == NameKind.free&&env.scope.kind == .function&&env.kindOf n == some .cell)=true
  .rw[if_pos hc] at h
   cases hx:x == n with
   |true =>
    simp only[ALY,hx] at h;cases h;have e:x=n:=by simpa using hx
    subst e
    have hk:k0=.free:=by simp only[CA] at hc;simpa using hc.1.1
    subst hk;exact⟨.free,BC,.inr ⟨rfl,rfl⟩⟩
   |false =>
    simp only[ALY,hx] at h;obtain⟨k',a,b⟩:=ih h;exact⟨k',Az _ a,b⟩
  .rw[if_neg hc] at h
   cases hx:x == n with
   |true =>
    simp only[ALY,hx] at h;cases h;have e:x=n:=by simpa using hx
    subst e;exact⟨_,BC,.inl rfl⟩
   |false =>
    simp only[ALY,hx] at h;obtain⟨k',a,b⟩:=ih h;exact⟨k',Az _ a,b⟩
section
variable {X:Cx}{elt tg iter:Expr}{ifs:AME}{scope:Scope}{pos pos':Pos}{N':AMB}{n:Nat}{idx:AMG}{fi:IF}{g:GF}{c:TF}{fe:EF}
structure Lu (X:Cx) (scope:Scope) (N':AMB) (n:Nat) (idx:AMG):Prop where
 kind:scope.kind=.function
 cell:∀y∈scope.names,y.2≠.cell
 names:∀y∈scope.names,y.2=.local->scope.names.lookup y.1=some .local
 free:∀y∈scope.names,y.2=.free->X.env.kindOf y.1=some .cell\/X.env.kindOf y.1=some .free
 len:N'.length=n+idx.length
 idx:∀(j:Nat) (i:Nat),idx[j]?=some i->∃x,N'[n+j]?=some x/\X.N[i]?=some x/\(x,NameKind.free)∈scope.names/\∀k,(x,k)∈scope.names->k=.free
def Yb(hc:X.calm=true)(hi:Dl X tg iter fi)(S:Lu X scope N' n idx)
  (hbody:∀cl C s3 H3 fp pins,Gr (CY X N' scope cl C s3 H3 fp pins) tg g/\ID (CY X N' scope cl C s3 H3 fp pins) ifs c/\AO (CY X N' scope cl C s3 H3 fp pins) elt fe)
  (hs:∀x,foldedSetIterable iter X.env x=pure x)
  {pins:List (Addr×Obj)} {s:Shared} {Y:L2.St} {H:Hp} {use:Option (Value->Sem Unit)} {Q':AMI} (I:AG X pins Y H s) {O:AMD} {ρ:Fm} {L L1 L9:AB} {items:List D} {ok:AB->Bool}
  (r:Cy X.K H O Y ρ L) (e1:fi ρ L=some (⟨items,ok⟩,L1)) (e2:Cr ok g c fe L1.length items (Ht n idx ρ) (L1++[.lst []])=some L9)
  (fin:∀(C D:Addr) (s':Shared) (H':Hp) (O':AMD) (m:AMA),AG X pins Y H' s'->s'.heap.Ns C m->H' C=none->C≠X.env.locals->X.s₀.heap.objs.size<=C->(∀x c,X.env.cells.lookup x=some c->c≠C)->(∀p∈X.pn++pins,p.1≠C) ->
   AY H O H' O'->Ai X.K H' O' L9->O'[L1.length]?=some D->compPost (model X.prog X.w) X.A X.xe use Q' (.ref D) C (.ok .next) s') :
  wpAny (model X.prog X.w) X.A (comprehension (.ListComp elt [⟨tg,iter,ifs,0⟩] scope pos) scope X.env pos' (newList []) false (eval iter X.env) use) Q' X.xe s:=by
 obtain⟨cl,hclos,clget,clsub⟩:=AGL (scope:=scope) (env:=X.env) λy hy hk=>I.ok.has _ (S.free y hy hk);refine wpAny_comprehension_free rfl hs hclos S.kind S.names ?_;refine Ae (hi pins s Y H (λJt H1=>∃O1,AY H O H1 O1/\Ai X.K H1 O1 L1/\KG X.K H1 O1 Jt ⟨items,ok⟩) I ⟨O,ρ,L,_,_,r,e1,λJt H1 O1 st rs it=>⟨O1,st,rs,it⟩⟩) λv s1 h1=>Ae h1 λitv s2 h2=>?_;obtain⟨it,fp,tn,J,H2,rfl,I2,T,st0,f2,O1,stp,rs1,itis⟩:=h2;refine AL3 (wpAny_newFunctionEnv S.cell (by intro y hy;simp at hy) (λh₁ hns₁ hsb₁=>?_) S.kind);dsimp only at hns₁ hsb₁ ⊢
 -- the list
 have I3:AG X pins Y (upd H2 s2.heap.objs.size (.lst [])) {s2 with heap:=s2.heap.push {cls:=.type "list",dict:=none,data:=.seq ([]:AMC).toArray},toks:=s2.toks} :=
  I2.laid (t':=s2.toks) (λb o e=>Heap.get?_push_of_some _ e) (Ac _) ⟨by simp,[],0,.nil,Heap.get?_push_size _ rfl⟩
 have hf2:H2 s2.heap.objs.size=none:=I2.hok.fresh (Ac _);have rs3:Ai X.K (upd H2 s2.heap.objs.size (.lst [])) (O1++[s2.heap.objs.size]) (L1++[.lst []]):=rs1.new hf2 ⟨[],Bn,.nil⟩;have st3:AY H2 O1 (upd H2 s2.heap.objs.size (.lst [])) (O1++[s2.heap.objs.size]):=⟨.new hf2,Aj _ _⟩
 have fpne:∀b∈fp,b≠s2.heap.objs.size:=λb hb z=>by
  obtain⟨o,e,_⟩:=T.obj 0 _ st0 b hb;exact absurd (Heap.lt_size e) (by rw[z];exact Fh _)
 have f3:∀b∈fp,GS X pins (upd H2 s2.heap.objs.size (.lst [])) b:=λb hb=>⟨by rw[Ax (fpne b hb)];exact(f2 b hb).1,(f2 b hb).2⟩;generalize hH2:s2.heap.push {cls:=.type "list",dict:=none,data:=.seq ([]:AMC).toArray}=hp3 at hns₁ hsb₁ I3 ⊢;have hD0:O1.length=L1.length:=rs1.len;generalize hDD:s2.heap.objs.size=D at *;generalize hH3:upd H2 D (.lst [])=H3 at *;have hDs:(O1++[D])[L1.length]?=some D:=by rw[<-hD0];simp
 have tn3:tn 0 hp3:=T.keep _ _ _ st0 λb hb o e=>by rw[<-hH2];exact Heap.get?_push_of_some _ e
 -- the block's frame
 generalize hC:hp3.objs.size=C at *;have kept:∀b o,hp3.get? b=some o->h₁.get? b=some o:=λb o e=>hsb₁.extBut b o (by rw[<-hC];exact BN (Heap.lt_size e)) (Heap.get?_push_of_some _ e);have tn4:tn 0 h₁:=T.keep _ _ _ tn3 λb hb o e=>kept b o e
 let s3:Shared:={s2 with heap:=hp3,toks:=s2.toks}
 have Cfresh:∀(b:Addr) (o:Obj),hp3.get? b=some o->b≠C:=λb o e=>by rw[<-hC];exact BN (Heap.lt_size e)
 have CL:C≠X.env.locals:=λz=>by
  have:=I3.lt;rw[<-z,<-hC] at this;exact Fh _ this
 have Ccell:∀x c,X.env.cells.lookup x=some c->c≠C:=λx c e=>by
  obtain⟨v,o,ho,_⟩:=I3.cell x c e;exact Cfresh c o ho
 have Cpin:∀p∈X.pn++pins,p.1≠C:=λp hp=>Cfresh _ _ (I3.pin p hp).1;have C0:X.s₀.heap.objs.size<=C:=by rw[<-hC];exact I3.sz
 have frsub:∀b∈Bl X.stack,b=X.env.locals\/b∈X.fs:=λb hb=>AW.mp (I3.stkSub b hb)
 have kindC:∀x k,(relabel scope X.env).names.lookup x=some k->(k=.cell\/k=.free)->(x,NameKind.free)∈scope.names:=λx k e hk=>by
  obtain⟨k',a,b⟩:=RS e;rcases b with rfl|⟨_,rfl⟩
  .rcases hk with rfl|rfl
   .exact absurd rfl (S.cell _ a)
   .exact a
  .exact a
 have okX:(CY X N' scope cl C s3 H3 fp pins).Ok:=by
  refine⟨I3.ok.mod,S.kind,I3.ok.glob,I3.ok.blt,AKz hC,λx y d h1 h2=>I3.ok.inj x y d (clsub x d h1) (clsub y d h2),λx hx=>?_,λx d h1=>(nomatch h1),I3.ok.hd,I3.ok.frames,.inl rfl,
   λb hb=>⟨λz=>?_,λx d e=>(f3 b hb).2.2.2.2.1 x d (clsub x d e)⟩,I3.bs,Bu I3.ok.bsz I3.sz,λb o e hb=>?_,λb hb hz=>?_,I3.stack,I3.stkFree⟩
  .have hx':(relabel scope X.env).names.lookup x=some .cell\/(relabel scope X.env).names.lookup x=some .free:=hx
   have hm:(x,NameKind.free)∈scope.names:=by
    rcases hx' with h|h
    .exact kindC x _ h (.inl rfl)
    .exact kindC x _ h (.inr rfl)
   obtain⟨d,hd⟩:=I3.ok.has x (S.free _ hm rfl);exact⟨d,(clget x hm).trans hd⟩
  .obtain⟨o,e,_⟩:=T.obj 0 _ tn3 b hb;exact Cfresh b o e z
  .rcases(f3 b hb).2.2.2.1 with z|z
   .exact I3.ok.noex b o e z
   .have h1:=Bm (Heap.lt_size e) I3.ok.bsz;exact absurd (Bm h1 z) (Fh _)
  .rcases frsub b hz with z|z
   .exact(f3 b hb).2.1 z
   .exact(f3 b hb).2.2.1 z
 -- its state
 have I4:AG (CY X N' scope cl C s3 H3 fp pins) [] (AKa n none++idx.map λj=>(Y[j]?).join) H3 {s3 with heap:=h₁,toks:=s2.toks+([]:List (Str×Value)).length}:=by
  refine⟨okX,rfl,I3.bare,Un.kept kept,⟨_,hns₁,λi x v h1 h2 h3=>?_⟩,λx d e=>?_,?_,λx d e=>I3.freeC x d (clsub x d e),λp hp=>?_,I3.hok.kept kept,?_⟩
  .by_cases hin:i<n
   .rw[Dx (by simpa using hin)] at h2;rw[ALW,if_pos hin] at h2;cases h2
   .rw[AKc (by simpa using hin)] at h2;simp only[ALl] at h2;rw[Av] at h2
    cases e:idx[i-n]? with
    |none=>rw[e] at h2;cases h2
    |some j =>
     rw[e] at h2;have h2':(Y[j]?).join=some v:=Option.some.inj h2
     have hY:Y[j]?=some (some v):=by
      cases q:Y[j]? with
      |none=>rw[q] at h2';cases h2'
      |some o=>rw[q] at h2';cases o with
       |none=>cases h2'
       |some w=>cases h2';rfl
     obtain⟨y,a1,a2,a3,a4⟩:=S.idx _ _ e
     have hxy:y=x:=by
      have:N'[n+(i-n)]?=some x:=by rw[show n+(i-n)=i from by omega];exact h1
      rw[a1] at this;exact Option.some.inj this
     subst hxy;have hk:=S.free _ a3 rfl;obtain⟨m,hm,hl⟩:=I3.loc
     have hvis:IA X.env.scope y:=by
      rcases hk with z|z
      .exact .inr (.inl z)
      .exact .inr (.inr z)
     obtain⟨u,ru,lk⟩:=hl j y v a2 hY hvis;refine⟨u,ru,.inr ⟨?_,?_⟩⟩
     .rcases h3 with z|z|z
      .obtain⟨k',b1,b2⟩:=RS (show(relabel scope X.env).names.lookup y=some .local from z);rcases b2 with b2|⟨b2,_⟩
       .have:=a4 _ b1;rw[<-b2] at this;cases this
       .cases b2
      .exact .inl z
      .exact .inr z
     .rcases lk with⟨z,_⟩|⟨_,d,hd,⟨o,ho,hdt⟩⟩
      .rcases hk with q|q <;> rw[q] at z <;> cases z
      .exact⟨d,(clget y a3).trans hd,o,kept d o ho,hdt⟩
  .obtain⟨v,o,ho,hdt⟩:=I3.cell x d (clsub x d e);exact⟨v,o,kept d o ho,hdt⟩
  .exact I3.hok.fresh (AKz hC)
  .have hp':p∈X.pn++pins:=by simpa[CY] using hp
   obtain⟨q1,q2,q3,q4,q5⟩:=I3.pin p hp';refine⟨kept _ _ q1,q2,Cpin p hp',λz=>?_,q5⟩;rcases frsub _ z with y|y
   .exact q3 y
   .exact q4 y
  .show _=N'.length;rw[S.len];simp
 have fp4:∀{H':Hp} {pl:List (Addr×Obj)},pl=[]->(∀b∈fp,H' b=none)->∀b∈fp,GS (CY X N' scope cl C s3 H3 fp pins) pl H' b:=λ{H' pl} hpl hn b hb=>by
  subst hpl;refine⟨hn b hb,λz=>(okX.exf b hb).1 z,okX.exfs b hb,.inl hb,λx d e=>(okX.exf b hb).2 x d e,λp hp=>?_⟩;have hp':p∈X.pn++pins:=by simpa[CY] using hp
  exact(f3 b hb).2.2.2.2.2 p hp'
 obtain⟨bg,bq,be⟩:=hbody cl C s3 H3 fp pins
 have fr4:Fe X.K H3 (O1++[D]) (AKa n none++idx.map λj=>(Y[j]?).join) (Ht n idx ρ):=by
  have fY:=(r.f.mono stp).mono st3;refine⟨by simp[Ht],λi d hd=>?_⟩;unfold Ht at hd
  by_cases hin:i<n
  .rw[Dx (by simpa using hin),ALW,if_pos hin] at hd;cases hd
  .rw[AKc (by simpa using hin)] at hd ⊢;simp only[ALl] at hd ⊢;rw[Av] at hd ⊢
   cases e:idx[i-n]? with
   |none=>rw[e] at hd;cases hd
   |some j =>
    rw[e] at hd;have hd':(ρ[j]?).join=some d:=Option.some.inj hd
    have hρ:ρ[j]?=some (some d):=by
     cases q:ρ[j]? with
     |none=>rw[q] at hd';cases hd'
     |some o=>rw[q] at hd';cases o with
      |none=>cases hd'
      |some w=>cases hd';rfl
    obtain⟨v,hv,iv⟩:=fY.at' j d hρ;exact⟨v,by simp[hv],iv⟩
 have loop:∀s₃:Shared,s₃={s3 with heap:=h₁,toks:=s2.toks+([]:List (Str×Value)).length} ->
   codeAny (model X.prog X.w) X.A (.compLoop (.ListComp elt [⟨tg,iter,ifs,0⟩] scope pos) 0 (.ref it) (.ref D) (compEnvC scope cl C X.env))
    (compPost (model X.prog X.w) X.A X.xe use Q' (.ref D) C) s₃:=by
  rintro s₃ rfl
  refine AGI (λm s'=>∃i Y' H' O' ρ' L',m=items.length-i/\i<=items.length/\AG (CY X N' scope cl C s3 H3 fp pins) [] Y' H' s'/\tn i s'.heap/\(∀b∈fp,H' b=none) /\
   AY H3 (O1++[D]) H' O'/\Cy X.K H' O' Y' ρ' L'/\Cr ok g c fe L1.length (items.drop i) ρ' L'=some L9) ?_ items.length
   ⟨0,_,H3,O1++[D],Ht n idx ρ,L1++[.lst []],rfl,Ed _,I4,tn4,λb hb=>(f3 b hb).1,.refl _ _,⟨rs3,fr4⟩,by rw[ALM];exact e2⟩
  rintro m s' ⟨i,Y',H',O',ρ',L',rfl,hi',I',tn',fr',st',r',el⟩
  by_cases hlt:i<items.length
  .have ed:items.drop i=items[i]::items.drop (i+1):=ALp hlt;rw[ed] at el;simp only[Cr] at el;split at el
   .rename_i hok;obtain⟨q1,_⟩:=itis i H' O' L' (st3.trans st') r'.s hok;obtain⟨go,yl⟩:=q1 items[i] (by simp[hlt]);refine Ae (T.item (CY X N' scope cl C s3 H3 fp pins) rfl rfl rfl hc i [] s' Y' H' (λ_ _=>False) I' (fp4 rfl fr') tn' go) λrr s4 z2_=>?_;obtain⟨u,hr,h4⟩:=z2_;subst hr;refine Ae h4 λ_ s5 z2_=>?_;obtain⟨x,H5,I5,r5,y5,st5,fr5⟩:=z2_;obtain⟨stp5,rs5,is5⟩:=yl x H5 y5;have I5':=I5.pinned (fp4 rfl fr5) (T.obj _ _ st5)
    have back:∀{s7:Shared} {Y7:L2.St} {H7:Hp},AG (CY X N' scope cl C s3 H3 fp pins) ([]++LC fp s5.heap) Y7 H7 s7->tn (i+1) s7.heap/\(∀b∈fp,H7 b=none):=λ{s7 Y7 H7} I7=>by
     refine⟨T.keep _ _ _ st5 λb hb o e=>(I7.pin (b,o) (AKV _ (AKV _ (Nx hb e)))).1,λb hb=>?_⟩;obtain⟨o,e,d⟩:=T.obj _ _ st5 b hb;exact(I7.pin (b,o) (AKV _ (AKV _ (Nx hb e)))).2.1
    obtain⟨ρ1,eg,el⟩:=bS el;refine Ae (bg _ s5 Y' H5 x u (λY2 Ha=>Ha=H5/\Cy X.K H5 O' Y2 ρ1 L') I5' r5 ⟨O',ρ',L',_,ρ1,r'.to stp5 rs5,is5,eg,λY2 r2=>⟨rfl,r2⟩⟩) λ_ s6 z2_=>?_;obtain⟨Y6,H6,I6,q6a,q6⟩:=z2_;subst q6a;obtain⟨pc,ec,el⟩:=bS el;obtain⟨b1,L5⟩:=pc;simp only[AQ] at el;refine Ae (bq _ s6 Y6 H6 (λb Hb=>b=b1/\∃Ob,AY H6 O' Hb Ob/\Ai X.K Hb Ob L5) I6 ⟨O',ρ1,L',b1,L5,q6,ec,λHb Ob st rs=>⟨rfl,Ob,st,rs⟩⟩) λokb s7 z2_=>?_;obtain⟨H7,I7,hb7,O7,st7,rs7⟩:=z2_;subst hb7
    cases okb with
    |false =>
     rw[if_neg (by simp)] at el;rw[if_neg (by simp)];obtain⟨b1,b2⟩:=back I7;exact⟨items.length-(i+1),by omega,i+1,Y6,H7,O7,ρ1,L5,rfl,hlt,I7.unpinned,b1,b2,(st'.trans stp5).trans st7,q6.to st7 rs7,el⟩
    |true =>
     rw[if_pos rfl] at el;rw[if_pos rfl];obtain⟨pe,ee,el⟩:=bS el;obtain⟨de,L6⟩:=pe;simp only[AQ] at el;refine Ae (be _ s7 Y6 H7 (λv Hb=>∃Ob,AY H7 O7 Hb Ob/\Ai X.K Hb Ob L6/\Is X.K Hb Ob v de) I7 ⟨O7,ρ1,L5,de,L6,q6.to st7 rs7,ee,λv Hb Ob st rs is=>⟨Ob,st,rs,is⟩⟩) λue s8 z2_=>?_;obtain⟨ve,H8,I8,r8,O8,st8,rs8,is8⟩:=z2_
     cases ek:L6[L1.length]? with
     |none=>rw[ek] at el;cases el
     |some oo =>
      rw[ek] at el
      cases oo with
      |dk _=>cases el
      |ins _ _=>cases el
      |dt _ _=>cases el
      |exn _=>cases el
      |lst ys =>
       simp only at el;split at el
       .rename_i hys;have stA:AY H3 (O1++[D]) H8 O8:=((st'.trans stp5).trans st7).trans st8;have hD8:O8[L1.length]?=some D:=Ch stA.2 hDs;obtain⟨vs,hv,il⟩:=rs8.ob _ _ _ hD8 ek
        refine Ae (Wa (X:=CY X N' scope cl C s3 H3 fp pins) _ s8 Y6 H8 (.ref D) [ve] (.ref D) [ue] (λv Hb=>Hb=upd H8 D (.lst (vs++[ve]))) I8 rfl (.cons r8 .nil) ⟨D,vs,ve,rfl,rfl,hv,by rw[il.length,sizeLine_eq];exact hys,rfl⟩)
         λ_ s9 ⟨_,H9,I9,_,q9⟩=>?_
        subst q9;have stw:AY H8 O8 (upd H8 D (.lst (vs++[ve]))) O8:=⟨.write hv id,An _⟩;obtain⟨b1,b2⟩:=back I9;refine⟨items.length-(i+1),by omega,i+1,Y6,_,O8,ρ1,_,rfl,hlt,I9.unpinned,b1,b2,stA.trans stw,⟨rs8.write (o':=.lst (ys++[de])) hD8 ⟨_,Bn,(il.mono stw).append (.cons (is8.mono stw) .nil)⟩,((q6.f.mono st7).mono st8).mono stw⟩,el⟩
       .cases el
   .cases el
  .have hi2:i=items.length:=by omega
   subst hi2;rw[List.drop_length] at el;simp only[Cr] at el;split at el
   .rename_i hok;cases el;obtain⟨_,q2⟩:=itis _ H' O' _ (st3.trans st') r'.s hok;refine Ae (T.done (CY X N' scope cl C s3 H3 fp pins) rfl rfl rfl hc _ [] s' Y' H' (λ_ _=>False) I' (fp4 rfl fr') tn' (q2 (Ac _))) λrr s4 z2_=>?_;obtain⟨hr,I4'⟩:=z2_;subst hr;obtain⟨m,hm,_⟩:=I4'.loc;have hos:s4.os=s3.os:=I4'.os;have J:AG X pins Y H' s4:=I3.call' (s':=s4) (ch:=fp) hos I4'.base I4'.hok I4'.bare λb hb=>⟨(f3 b hb).2.2.2.1,(f3 b hb).2.1,(f3 b hb).2.2.2.2.1,(f3 b hb).2.2.2.2.2⟩;exact fin C D s4 H' O' m J hm I4'.free CL C0 Ccell Cpin ((stp.trans st3).trans st') r'.s (Ch st'.2 hDs)
   .cases el
 exact codeAny_compStart_list (loop _ rfl) (T.self X.A 0 _ _ _ tn4 (loop _ rfl))
def AFz(hc:X.calm=true)(hi:Dl X tg iter fi)(S:Lu X scope N' n idx)
  (hbody:∀cl C s3 H3 fp pins,Gr (CY X N' scope cl C s3 H3 fp pins) tg g/\ID (CY X N' scope cl C s3 H3 fp pins) ifs c/\AO (CY X N' scope cl C s3 H3 fp pins) elt fe)
  (hs:∀x,foldedSetIterable iter X.env x=pure x:=by intro _;rfl):AO X (.ListComp elt [⟨tg,iter,ifs,0⟩] scope pos) (BY fi n idx g c fe):=by
 rintro pins s Y H Q I ⟨O,ρ,L,d,L',r,e,k⟩;unfold BY at e;obtain⟨p,e1,e⟩:=bS e;obtain⟨⟨items,ok⟩,L1⟩:=p;simp only[AQ] at e;obtain⟨L9,e2,e⟩:=bS e;cases e;rw[eval_ListComp];refine Yb hc hi S hbody hs I r e1 e2 λC D s' H' O' m J hn hfree hL h0 hcell hpin st rs hD=>?_;refine⟨m,hn,λh' sb=>?_⟩;exact⟨.ref D,H',J.turned (t':=s'.toks) (λb o hb e=>(sb.2 b hb).trans e) hfree hL (.inr h0) hcell hpin,rfl,k _ _ _ st rs (.ref hD)⟩
def ABq{i:Nat}{x:Str}{px:Pos}(hN:X.N.Nodup)(hc:X.calm=true)(hi:Dl X tg iter fi)(S:Lu X scope N' n idx)
  (hbody:∀cl C s3 H3 fp pins,Gr (CY X N' scope cl C s3 H3 fp pins) tg g/\ID (CY X N' scope cl C s3 H3 fp pins) ifs c/\AO (CY X N' scope cl C s3 H3 fp pins) elt fe)
  (hi2:X.N[i]?=some x:=by rfl) (hx:Gs X.env.scope x:=by first|exact Or.inl rfl|exact Or.inr rfl)
  (hsw:swapsWith (.ListComp elt [⟨tg,iter,ifs,0⟩] scope pos) (some (.Name x px)) pos'.line X.env=pure true:=by rfl)
  (hf:X.fn x=true\/X.env.scope.names.lookup x=some .local:=by first|exact .inl rfl|exact .inr rfl)
  (hs:∀x,foldedSetIterable iter X.env x=pure x:=by intro _;rfl):DU X (.Assign [.Name x px] (.ListComp elt [⟨tg,iter,ifs,0⟩] scope pos) pos') (AL i (BY fi n idx g c fe)):=by
 rintro pins s Y H E I ⟨O,ρ,L,out,r,e,k⟩;unfold AL BY at e
 cases e1:fi ρ L with
 |none=>rw[e1] at e;cases e
 |some p =>
  rw[e1] at e;obtain⟨⟨items,ok⟩,L1⟩:=p;simp only[AQ] at e
  cases e2:Cr ok g c fe L1.length items (Ht n idx ρ) (L1++[.lst []]) with
  |none=>rw[e2] at e;cases e
  |some L9 =>
   rw[e2] at e;cases e;rw[exec_Assign_Name_used _ _ _ _ hsw];refine AE (wpAny_standAt (AE ?_))
   show wpAny _ X.A (do let _ <-comprehension (.ListComp elt [⟨tg,iter,ifs,0⟩] scope pos) scope X.env _ (newList []) false (eval iter X.env) (some (assign (.Name x px) X.env))) _ _ s
   refine AE (Dc (Yb (use:=some (assign (.Name x px) X.env)) (Q':=λ_ s'=>SP X pins E .next s') hc hi S hbody hs I r e1 e2
    λC D s' H' O' m J hn hfree hL h0 hcell hpin st rs hD=>?_) (λ_ s' hq=>AK (AK hq)) λ_ _ e=>e)
   show wpAny _ X.A (assign (.Name x px) X.env (.ref D)) _ _ _;refine wpAny_assign_Name (VM (v:=.ref D) J hN hi2 hx rfl (λs2 J2 z2_=>?_) hf);obtain⟨a,sb,ha⟩:=z2_
   have aC:C≠a:=by
    rcases ha with z|z
    .rw[z];exact hL
    .exact(hcell x a z).symm
   refine⟨m,hn.sameBut sb aC,λh' sb'=>?_⟩;exact⟨_,H',J2.turned (t':=s2.toks) (λb o hb e=>(sb'.2 b hb).trans e) hfree hL (.inr h0) hcell hpin,k _ _ _ st ⟨rs,(r.f.mono st).set (.ref hD) i⟩⟩
end
section
variable {X:Cx}{pins:List (Addr×Obj)}{Y:L2.St}{H:Hp}{s:Shared}{h':Heap}
def NO{t':Nat}{fp:AMD}{T:Addr}{o:HO}(I:AG X pins Y H s)(hf:∀b∈fp,GS X pins H b)(k:∀b o,b∉fp->s.heap.get? b=some o->h'.get? b=some o)(hT:s.heap.objs.size<=T)(nT:T∉fp)
  (there:∀b∈fp,∃o,h'.get? b=some o) (new:Bx X.prog X.w (upd H T o) h' T o):AG X pins Y (upd H T o) {s with heap:=h',toks:=t'}:=by
 have fT:H T=none:=I.hok.fresh hT;have nit:∀b u,H b=some u->b∉fp:=λb u e z=>by rw[(hf b z).1] at e;cases e
 have old:∀b o,s.heap.get? b=some o->b≠T:=λb o e=>BN (Bm (Heap.lt_size e) hT)
 refine I.step (g':=s.gens) (d':=s.drawn) (ch:=fp) (λb hb=>⟨(hf b hb).2.2.2.1,(hf b hb).2.1,(hf b hb).2.2.2.2.1,(hf b hb).2.2.2.2.2⟩) (λb o _ _ hc e _=>k b o hc e) (λb o _ _ hc e _=>⟨o.slots,k b o hc e⟩)
  (λb o _ e n=>by rw[Ax (old b o e)];exact n) (λb o hc e=>⟨o,k b o hc e⟩) (λb xs e=>by rw[Ax (CW e fT)];exact e) (λb o u e=>by rw[Ax (CW e fT)];exact e)
  (λb ps e=>⟨#[],by rw[Ax (CW e fT),e];simp⟩) (λm hm=>?_) (λb u e=>?_) I.bare
 .obtain⟨o,es,ep,ho,r⟩:=hm;exact⟨o,es,ep,k _ o (λz=>(hf _ z).2.1 rfl) ho,r⟩
 .by_cases hb:b=T
  .subst hb;rw[Bn] at e;cases e;exact new
  .rw[Ax hb] at e;refine(I.hok b u e).stay (λc v hc q=>k c v ?_ q) (λc q=>by rw[Ax (CW q fT)];exact q) λc xs q=>by rw[Ax (CW q fT)];exact q
   rcases hc with z|z
   .rw[z];exact nit b u e
   .exact nit c _ z
end
abbrev ZK(x:Str):It:=⟨λi _=>i<x.cps.size,λi H v H'=>H'=H/\∃c,x.cps[i]?=some c/\v=.str ⟨#[c]⟩,λi _=>x.cps.size<=i⟩
def Um{P:Program}{w:World}{K:AI}{tg:Expr}(x:Str)(t:Tok)(it:Addr)(ty:String)(hty:["enumerate","zip","dict_itemiterator","dict_reverseitemiterator","odict_iterator","itertools.zip_longest","itertools.pairwise"].contains ty=false)
  (W:∀A':Around,A'.handled=none->Walks P w A' it [it] [it] x.cps.size (SignAt x) (λi h=>h.IsStrIter it ty x t i))
  (hself:∀(A:Around) (i:Nat) (s:Shared) (Q:AMI) (E:AMI),s.heap.IsStrIter it ty x t i->Q (.ref it) s->wpAny (model P w) A (pyIter (.ref it)) Q E s) :
  Go P w K tg (ZK x) [it] it (λi h=>h.IsStrIter it ty x t i/\i<=x.cps.size) where
 mem:=by simp
 obj:=λi h st b hb=>by
  have e:b=it:=by simpa using hb
  subst e;obtain⟨⟨o,e,c,d⟩,_⟩:=st;exact⟨o,e,λv z=>by rw[d] at z;cases z⟩
 keep:=λi h h' st k=>⟨let ⟨o,ho,r⟩:=st.1;⟨o,k it (by simp) o ho,r⟩,st.2⟩
 item:=by intro X hP hw hK hc i pins s Y H E I hf st hg;subst hP hw hK;obtain⟨f0,f1,f2,f3,f4,f5⟩:=hf it (by simp);refine(W X.A (I.ok.hd hc)).item i s _ _ hg st.1 λv h' tk hv st' kk=>?_;obtain⟨c,u,hc',rfl⟩:=hv;have I1:AG X pins Y H {s with heap:=h',toks:=tk}:=I.turned (λb o hb e=>kk b o (by simpa using hb) e) f0 f1 f3 f4 f5;obtain⟨o,e,cc,d⟩:=id st';exact⟨_,rfl,OK (s:={s with heap:=h',toks:=tk}) e cc d hty ⟨.str ⟨#[c]⟩,H,I1,⟨u,rfl⟩,⟨rfl,c,hc',rfl⟩,⟨st',hg⟩,λb hb=>(hf b hb).1⟩⟩
 done:=by intro X hP hw hK hc i pins s Y H E I hf st hg;subst hP hw hK;obtain⟨f0,f1,f2,f3,f4,f5⟩:=hf it (by simp);have hi:i=x.cps.size:=Nat.le_antisymm st.2 hg;have st1:=st.1;rw[hi] at st1;exact(W X.A (I.ok.hd hc)).done s _ _ st1 λh' tk kk=>⟨rfl,I.turned (λb o hb e=>kk b o (by simpa using hb) e) f0 f1 f3 f4 f5⟩
 self:=λA i s Q E st h=>hself A i s Q E st.1 h
section
variable {X:Cx}{tg l:Expr}{f:EF}
abbrev AEw(tl:TE):TI:=λY H R=>tl Y H λv H1=>∃x,v=.str x/\R (ZK x) H1
def ACr{tl:TE}(hl:PE X l tl):PI X tg l (AEw tl):=by
 intro pins s Y H R I h;refine Ae (hl pins s Y H _ I h) λv s1 z2_=>?_;obtain⟨y,H1,I1,r1,x,e,q⟩:=z2_;subst e;obtain⟨t,rfl⟩:=r1
 have hb:∀(o:Obj) (b:Addr),b∈[s1.heap.objs.size]->GS X pins H1 b:=λo b hb=>by
  have e:b=s1.heap.objs.size:=by simpa using hb
  subst e;exact I1.fpOk (Ac _) (I1.hok.fresh (Ac _))
 cases ha:x.cps.all (·<128)
 .refine wpAny_pyIter_wide ha ⟨s1.heap.objs.size,[s1.heap.objs.size],_,_,H1,rfl,I1.kept (t':=s1.toks) λb o e=>Heap.get?_push_of_some _ e,Um x t _ "str_iterator" (by decide) (λA' hA=>Walks.strWide hA _ x t) (λ_ _ _ _ _ st h=>wpAny_pyIter_striter_wide st h),
   ⟨⟨_,Heap.get?_push_size _ rfl,rfl,rfl⟩,Ed _⟩,hb default,q⟩
 .refine wpAny_pyIter_ascii ha ⟨s1.heap.objs.size,[s1.heap.objs.size],_,_,H1,rfl,I1.kept (t':=s1.toks) λb o e=>Heap.get?_push_of_some _ e,Um x t _ "str_ascii_iterator" (by decide) (λA' hA=>Walks.strAscii hA _ x t) (λ_ _ _ _ _ st h=>wpAny_pyIter_striter_ascii st h),
   ⟨⟨_,Heap.get?_push_size _ rfl,rfl,rfl⟩,Ed _⟩,hb default,q⟩
abbrev sgs(x:Str):List D:=x.cps.toList.map λc=>.str ⟨#[c]⟩
abbrev SM(f:EF):IF:=λρ L=>(f ρ L).bind λx=>match x.1 with|.str y=>some (⟨sgs y,λ_=>true⟩,x.2)|_=>none
def ACo(hl:AO X l f):Dl X tg l (SM f):=PI.weaken (ACr hl) λY H R z3_=>by
 obtain⟨O,ρ,L,J,L',r,e,k⟩:=z3_;unfold SM at e;obtain⟨p,e1,e⟩:=bS e;obtain⟨d,L1⟩:=p
 cases d <;> simp only[AQ] at e <;> try (cases e;done)
 rename_i y;cases e;refine⟨O,ρ,L,_,_,r,e1,λv H1 O1 st rs is=>?_⟩;cases is;refine⟨y,rfl,k _ _ _ st rs λi H2 O2 L2 st2 rs2 _=>⟨λd hd=>?_,λh=>by show y.cps.size<=i;simpa[sgs] using h⟩⟩;simp only[sgs,Av] at hd
 cases ec:y.cps[i]? with
 |none=>simp[ec] at hd
 |some c =>
  simp[ec] at hd;subst hd;refine⟨(ALq.mp ec).1,λx H' y'=>?_⟩;obtain⟨e,c',h1,rfl⟩:=y';subst e;rw[ec] at h1;cases h1;exact⟨.refl _ _,rs2,.str _ (by simp[Str.length])⟩
end
abbrev ZM(x:Str):It:=⟨λi _=>i<x.cps.size,λi H v H'=>∃T c,H T=none/\x.cps[i]?=some c/\v=.ref T/\H'=upd H T (.tup [.int (i:Int),.str ⟨#[c]⟩]),λi _=>x.cps.size<=i⟩
def YM{P:Program}{w:World}{A:Around}(hh:A.handled=none)(it:Addr)(x:Str)(t:Tok) :
  Draws P w A it [it] x.cps.size (λi v=>∃c u,x.cps[i]?=some c/\v=.str ⟨#[c]⟩ u) (λi h=>h.IsStrIter it (strIterType x) x t i):=by
 unfold strIterType;cases ha:x.cps.all (·<128)
 .exact Draws.strWide hh it x t
 .exact Draws.strAscii hh it x t
def AAw{P:Program}{w:World}{K:AI}{elts:AME}{x1:Nat}{tp:Pos}(x:Str)(t:Tok)(e it:Addr)(hei:e≠it) :
  Go P w K (.Tuple elts x1 tp) (ZM x) [e,it] e (λi h=>(∃old,IsEnum h e it (i:Int) old)/\h.IsStrIter it (strIterType x) x t i/\i<=x.cps.size) where
 mem:=by simp
 obj:=λi h st b hb=>by
  obtain⟨⟨old,he⟩,⟨o,e1,c,d⟩,_⟩:=st;rcases AW.mp hb with rfl|hb
  .exact⟨_,he,λv z=>by cases z⟩
  .have e':b=it:=by simpa using hb
   subst e';exact⟨o,e1,λv z=>by rw[d] at z;cases z⟩
 keep:=λi h h' st k=>by
  obtain⟨⟨old,he⟩,⟨o,e1,r⟩,hi⟩:=st;exact⟨⟨old,k e (by simp) _ he⟩,⟨o,k it (by simp) o e1,r⟩,hi⟩
 item:=by
  intro X hP hw hK hc i pins s Y H E I hf st hg;subst hP hw hK;obtain⟨⟨old,he⟩,hs,hi⟩:=st;have hh:X.A.in1.handled=none:=I.ok.hd hc;refine wpAny_pyNext_enum_itemD (YM hh it x t) he hs hg hei (by simpa using hei) λv h' tk hv heo hs' ht hz kk=>⟨_,rfl,?_⟩;obtain⟨c,u,hc',rfl⟩:=hv;refine wpAny_letOwnedTupleGo_enum heo λh2 he2 sb2=>?_;have hel:e<s.heap.objs.size:=Heap.lt_size he;have hil:it<s.heap.objs.size:=by obtain⟨o,e1,_⟩:=hs;exact Heap.lt_size e1
  have hs2:h2.IsStrIter it (strIterType x) x t (i+1):=by obtain⟨o,e1,r⟩:=hs';exact⟨o,(sb2.2 it (Ne.symm hei)).trans e1,r⟩
  have ht2:h2.get? s.heap.objs.size=some {cls:=.type "tuple",data:=.seq #[.int i tk,.str ⟨#[c]⟩ u]}:=(sb2.2 _ (FN hel)).trans ht
  have new:Bx X.prog X.w (upd H s.heap.objs.size (.tup [.int (i:Int),.str ⟨#[c]⟩])) h2 s.heap.objs.size (.tup [.int (i:Int),.str ⟨#[c]⟩]) :=
   ⟨by rw[sizeLine_eq];show 2<=16777216;decide,[.int i tk,.str ⟨#[c]⟩ u],.cons ⟨_,rfl⟩ (.cons ⟨_,rfl⟩ .nil),⟨_,ht2,rfl,_,rfl⟩⟩
  have I1:=NO (t':=tk+1) (h':=h2) I hf (λb o hb q=>by
    have hbe:b≠e:=λz=>hb (by simp[z]);have hbi:b≠it:=λz=>hb (by simp[z])
    exact(sb2.2 b hbe).trans (kk b o hbe hbi q)) (Ac _) (λz=>by
    rcases AW.mp z with z|z
    .exact absurd z (FN hel)
    .exact absurd (Fi.mp z) (FN hil)) (λb hb=>by
    rcases AW.mp hb with rfl|hb
    .exact⟨_,he2⟩
    .have e':b=it:=by simpa using hb
     subst e';obtain⟨o,e1,_⟩:=hs2
     exact⟨o,e1⟩) new
  refine⟨.ref s.heap.objs.size,_,I1,rfl,⟨s.heap.objs.size,c,I.hok.fresh (Ac _),hc',rfl,rfl⟩,⟨⟨.str ⟨#[c]⟩ u,?_⟩,hs2,hg⟩,λb hb=>?_⟩
  .have:((i+1:Nat):Int)=(i:Int)+1:=by omega
   rw[this];exact he2
  .rw[Ax]
   .exact(hf b hb).1
   .rcases AW.mp hb with z|z
    .rw[z];exact BN hel
    .rw[Fi.mp z];exact BN hil
 done:=by intro X hP hw hK hc i pins s Y H E I hf st hg;subst hP hw hK;obtain⟨⟨old,he⟩,hs,hi⟩:=st;have hh:X.A.in1.handled=none:=I.ok.hd hc;obtain⟨f0,f1,f2,f3,f4,f5⟩:=hf it (by simp);have hi:i=x.cps.size:=Nat.le_antisymm hi hg;rw[hi] at hs;exact wpAny_pyNext_enum_endD (YM hh it x t) he hs λh' eb=>⟨rfl,I.turned (t':=s.toks) (λb o hb q=>eb b o hb q) f0 f1 f3 f4 f5⟩
 self:=λA i s Q E st h=>by
  obtain⟨⟨old,he⟩,_⟩:=st;exact wpAny_pyIter_enum he h
abbrev Eo(xs:List D):List D:=xs.zipIdx.map λp=>.tup [.int (p.2:Int),p.1]
abbrev LP(f:AF):IF:=λρ L=>(f ρ L).bind λx=>match x.1 with|[.str y]=>some (⟨Eo (sgs y),λ_=>true⟩,x.2)|_=>none
def YG(y:Str)(i:Nat):(Eo (sgs y))[i]?=(y.cps[i]?).map λc=>.tup [.int (i:Int),.str ⟨#[c]⟩]:=by unfold Eo sgs;rw[Av,List.getElem?_zipIdx,Av,Array.getElem?_toList];cases y.cps[i]? <;> simp
def AFp(y:Str):(Eo (sgs y)).length=y.cps.size:=by simp[Eo,sgs]
section
variable {X:Cx}{elts:AME}{x1:Nat}{tp p pos:Pos}{a:Expr}{fa:AF}
def AIV(hm:X.mg "enumerate"=none)(ha:Da X [a] fa)(hg:Gl X "enumerate":=by rfl)(hs:starEach [a] X.env=[(false,eval a X.env)]:=by rfl):Dl X (.Tuple elts x1 tp) (.Call (.Name "enumerate" p) [a] [] pos) (LP fa):=by
 rintro pins s Y H R I ⟨O,ρ,L,J,L',r,e,k⟩;unfold LP at e;obtain⟨q,e1,e⟩:=bS e;obtain⟨ds,L1⟩:=q;simp only[AQ] at e;split at e
 .rename_i y;simp only[Option.some.injEq,Prod.mk.injEq] at e;obtain⟨hJ,hL⟩:=e;subst hJ;subst hL;refine Call_ (HD I hg hm (u:=.type "enumerate") (by decide +kernel) (PyProof.Rows.callWith_type1 (Ae (ha pos pins s Y H (λvs H1=>vs=[.str y]/\∃O1,AY H O H1 O1/\Ai X.K H1 O1 L1) I ⟨O,ρ,L,_,_,r,e1,λvs H1 O1 st rs is=>?_⟩) λus s1 ⟨vs,H1,I1,r1,ev,O1,st,rs⟩=>?_) hs rfl))
  .cases is with
   |cons i1 i2=>cases i1;cases i2;exact⟨rfl,O1,st,rs⟩
  .subst ev;obtain⟨u,rfl,t,rfl⟩:=EK r1;refine call_enumerate_str λh' he hs' hz kk=>?_;refine wpAny_pyIter_enum he ?_;have I2:AG X pins Y H1 {s1 with heap:=h'}:=I1.kept (t':=s1.toks) kk;refine⟨s1.heap.objs.size+1,[s1.heap.objs.size+1,s1.heap.objs.size],_,_,H1,rfl,I2,AAw y t _ _ (Nat.succ_ne_self _),⟨⟨_,he⟩,hs',Ed _⟩,λb hb=>?_,k (ZM y) H1 O1 st rs λi H2 O2 L2 st2 rs2 _=>?_⟩
   .rcases AW.mp hb with rfl|hb
    .exact I1.fpOk (AKp _) (I1.hok.fresh (AKp _))
    .have e':b=s1.heap.objs.size:=by simpa using hb
     subst e';exact I1.fpOk (Ac _) (I1.hok.fresh (Ac _))
   .refine⟨λd hd=>?_,λh=>by rw[AFp] at h;exact h⟩;simp only at hd;rw[YG] at hd
    cases ec:y.cps[i]? with
    |none=>simp[ec] at hd
    |some c =>
     simp[ec] at hd;subst hd;refine⟨(ALq.mp ec).1,λx H' yy=>?_⟩;obtain⟨T,c',hT,h1,rfl,rfl⟩:=yy;rw[ec] at h1;cases h1;have st3:AY H2 O2 (upd H2 T (.tup [.int (i:Int),.str ⟨#[c]⟩])) O2:=⟨.new hT,An _⟩;exact⟨st3,rs2.ext λa u e=>by rw[Ax (CW e hT)];exact e,.tup (BW.of Bn) (.cons (.int _) (.cons (.str _ (by simp[Str.length])) .nil))⟩
 .cases e
end
mutual
def D.noRef:D->Bool
 |.tup xs=>D.noRefL xs
 |.fz xs=>D.noRefL xs
 |.ref _=>false
 |_=>true
def D.noRefL:List D->Bool
 |[]=>true
 |x::xs=>D.noRef x&&D.noRefL xs
end
section
variable {K:AI}{H H' H0:Hp}{O O':AMD}
def WY{v:V}{d:D}{vs:List V}{ds:List D}(a:d.noRef=true->Is K H O' v d)(b:D.noRefL ds=true->AM K H O' vs ds)(e:D.noRefL (d::ds)=true):AM K H O' (v::vs) (d::ds):=by have e:(D.noRef d&&D.noRefL ds)=true:=e;rw[CA] at e;exact .cons (a e.1) (b e.2)
def Is.nr{v:V}{d:D}(h:Is K H O v d):d.noRef=true->Is K H O' v d :=
 Is.rec (motive_1:=λv d _=>d.noRef=true->Is K H O' v d) (motive_2:=λv d _=>D.noRefL d=true->AM K H O' v d) (λ_=>.non) (λb _=>.bl b) (λb _=>.int b) (λb h _=>.str b h) (λh _ r e=>.tup h (r e)) (λh _ r e=>.fz h (r e)) (λ_ e=>Fp (show false=true from e)) (λn _=>.ty n) (λ_=>.nil) (λ_ _ a b=>WY a b) h
def AM.nr{v:List V}{d:List D}(h:AM K H O v d):D.noRefL d=true->AM K H O' v d :=
 AM.rec (motive_1:=λv d _=>d.noRef=true->Is K H O' v d) (motive_2:=λv d _=>D.noRefL d=true->AM K H O' v d) (λ_=>.non) (λb _=>.bl b) (λb _=>.int b) (λb h _=>.str b h) (λh _ r e=>.tup h (r e)) (λh _ r e=>.fz h (r e)) (λ_ e=>Fp (show false=true from e)) (λn _=>.ty n) (λ_=>.nil) (λ_ _ a b=>WY a b) h
def AGe(p:O <+: O'){k:Nat}{a:Addr}(q:O[k]?=some a){v:V}(h:Is K H' O' v (.ref k)):Is K H' O v (.ref k):=by
 cases h with
 |ref q' =>
  have:=Ch p q;rw[q'] at this;cases this;exact .ref q
def AGd{ds:List D}(r:∀{v:List V},AM K H' O' v ds->AM K H' O v ds){v:V}(h:Is K H' O' v (.tup ds)):Is K H' O v (.tup ds):=by cases h with|tup q r'=>exact .tup q (r r')
def AGf{ds:List D}(r:∀{v:List V},AM K H' O' v ds->AM K H' O v ds){v:V}(h:Is K H' O' v (.fz ds)):Is K H' O v (.fz ds):=by cases h with|fz q r'=>exact .fz q (r r')
def AGg{d:D}{ds:List D}(a:∀{v:V},Is K H' O' v d->Is K H' O v d)(r:∀{v:List V},AM K H' O' v ds->AM K H' O v ds){v:List V}(h:AM K H' O' v (d::ds)):AM K H' O v (d::ds):=by cases h with|cons a' b'=>exact .cons (a a') (r b')
def AM.back(p:O <+: O'){v0:List V}{d:List D}(i:AM K H0 O v0 d):∀{v:List V},AM K H' O' v d->AM K H' O v d :=
 AM.rec (motive_1:=λ_ d _=>∀{v:V},Is K H' O' v d->Is K H' O v d) (motive_2:=λ_ d _=>∀{v:List V},AM K H' O' v d->AM K H' O v d) (λh=>h.nr rfl) (λ_ _ h=>h.nr rfl) (λ_ _ h=>h.nr rfl) (λ_ _ _ h=>h.nr rfl) (λ_ _ r _ h=>AGd r h) (λ_ _ r _ h=>AGf r h) (λq _ h=>AGe p q h) (λ_ _ h=>h.nr rfl) (λh=>h.nr rfl) (λ_ _ a b _ h=>AGg a b h) i
def Rn{α:Type}{f:α->D}(h:∀a,(f a).noRef=true):∀xs:List α,D.noRefL (xs.map f)=true
 |[]=>rfl
 |x::r=>by rw[Ah,D.noRefL,h x,Rn h r];rfl
def keyD_noRef(k:Key):(keyD k).noRef=true:=by cases k <;> rfl
def AEn(k:Key ⊕ List Key):(Ib k).noRef=true:=by
 cases k with
 |inl k=>exact keyD_noRef k
 |inr ks=>exact Rn keyD_noRef ks
def ADt(k:NK):(Dh k).noRef=true:=Rn AEn k
def Ai.back{L M:AB}(r0:Ai K H O L)(st:AY H O H' O')(r1:Ai K H' O' (L++M)):Ai K H' O L:=by
 refine⟨r0.len,r0.nd,λk a o e1 e2=>?_⟩;have q0:=r0.ob k a o e1 e2;have q1:=r1.ob k a o (Ch st.2 e1) (by rw[Dx (BA.mp e2).1];exact e2)
 cases o with
 |lst ds =>
  obtain⟨vs0,_,i0⟩:=q0;obtain⟨vs,hv,i1⟩:=q1;exact⟨vs,hv,AM.back st.2 i0 i1⟩
 |dk kvs =>
  obtain⟨us0,_,_,i0⟩:=q0;obtain⟨us,hv,hk,i1⟩:=q1;exact⟨us,hv,hk,AM.back st.2 i0 i1⟩
 |dt kvs ep =>
  obtain⟨us0,_,_,i0,_⟩:=q0;obtain⟨us,hv,hk,i1,i2⟩:=q1;exact⟨us,hv,hk,AM.back st.2 i0 i1,λu hu=>(i2 u hu).nr (ADt _)⟩
 |ins c fs =>
  obtain⟨_,_,us0,_,_,_,i0⟩:=q0;obtain⟨C,dx,us,z,hv,hk,i1⟩:=q1;exact⟨C,dx,us,z,hv,hk,AM.back st.2 i0 i1⟩
 |exn c=>exact q1
end
abbrev CU(N:AMB)(ds:List D):Fm:=ds.map some++AKa (N.length-ds.length) none
abbrev IS(K:AI)(G:GL):Sp:=λvs H Q _=>rC K G vs H Q
abbrev ZC(B:SF)(N:AMB)(xs:List D)(L:AB)(d:D)(L':AB):Prop :=
 ∃L'',(B (CU N xs) L=some (.ret d L'')\/(d=.non/\∃ρ',B (CU N xs) L=some (.next ρ' L'')))/\(L''=L'\/(L'=L/\L <+: L''/\d.noRef=true))
structure Al (P:Program) (w:World) (K:AI) (mg:AMA) (base:Heap) (k:Nat) (x:Str) (G:GL):Prop where
 ex:∃f fd ps,DH P w K mg base CX0 k f fd ps (IS K G)/\mg x=some (.ref f)/\Ec K (.ref f)=true/\EG K fd ps []
section
variable {P:Program}{w:World}{K:AI}{mg:AMA}{base:Heap}
def Lb{H:Hp}{O:AMD}{N:AMB}{vs:List V}{ds:List D}(h:AM K H O vs ds):Fe K H O (L2.Fq N vs) (CU N ds):=by
 refine⟨by simp[L2.Fq,CU,h.length],λi d e=>?_⟩;unfold CU at e;unfold L2.Fq
 by_cases hi:i<ds.length
 .rw[Dx (by simpa using hi),Av] at e;rw[Dx (by simpa[h.length] using hi),Av]
  cases q:ds[i]? with
  |none=>rw[q] at e;cases e
  |some d' =>
   rw[q] at e;cases e;obtain⟨v,hv,iv⟩:=h.get q;exact⟨v,by simp[hv],iv⟩
 .rw[AKc (by simpa using hi),ALW] at e;split at e <;> cases e
def Sa{x qual:Str}{st:Stmt}{f:Addr}{fd:FuncData}{N ps:AMB}{k:Nat}(F:Gu K x qual st f fd)(S:Ap N ps (AT st))(G:GL)(B:SF)(hlen:∀xs L r,G xs L=some r->xs.length=ps.length)
  (hb:∀(cdv:Value) (A:Around) (outer:List Env) (s:Shared) (H:Hp) (E:XK),Room k (A.deeper (envOfC qual (AT st) s.heap.objs.size f cdv)) ->
   EB (BV CX0 P w K mg base N qual (AT st) f cdv A outer s H E).nox (Dz st) B)
  (hG:∀xs L d L',G xs L=some (d,L')->ZC B N xs L d L'):DH P w K mg base CX0 (k+1) f fd ps (IS K G):=by
 refine F.ok S (λvs H Q E h=>?_) (λcdv A outer s H vs Q E hr h=>?_)
 .obtain⟨O,L,xs,d,L',_,is,e,_⟩:=h;rw[is.length];exact hlen _ _ _ e
 .obtain⟨O,L,xs,d,L',rs,is,e,kk⟩:=h;refine⟨_,hb cdv A outer s H E hr,?_⟩;obtain⟨L'',hB,hd⟩:=hG _ _ _ _ e
  have close:∀v H' O',AY H O H' O'->Ai K H' O' L''->Is K H' O' v d->Q v H':=λv H' O' st' rs' is'=>by
   rcases hd with rfl|⟨rfl,⟨M,rfl⟩,nr⟩
   .exact kk v H' O' st' rs' is'
   .exact kk v H' O ⟨st'.1,An _⟩ (rs.back st' rs') (is'.nr nr)
  rcases hB with hB|⟨rfl,ρ',hB⟩
  .exact⟨O,CU N xs,L,_,⟨rs,Lb is⟩,hB,close⟩
  .exact⟨O,CU N xs,L,_,⟨rs,Lb is⟩,hB,λY' H' O' st' r'=>close _ H' O' st' r'.s .non⟩
def Al.mono{j k:Nat}{x:Str}{G:GL}(F:Al P w K mg base j x G)(h:j<=k):Al P w K mg base k x G:=by obtain⟨f,fd,ps,a,b⟩:=F.ex;exact⟨f,fd,ps,a.mono h,b⟩
def Al.imp{k:Nat}{x:Str}{G G':GL}(F:Al P w K mg base k x G)(h:∀xs L r,G' xs L=some r->G xs L=some r):Al P w K mg base k x G':=by obtain⟨f,fd,ps,a,b⟩:=F.ex;exact⟨f,fd,ps,a.imp λvs H Q E z4_=>(by obtain⟨O,L,xs,d,L',rs,is,e,kk⟩:=z4_;exact⟨O,L,xs,d,L',rs,is,h _ _ _ e,kk⟩),b⟩
end
section
variable {X:Cx}{k:Nat}{x:Str}{G:GL}{p pos:Pos}{e:Expr}{es:AME}{f:AF}
def OU(F:Al X.prog X.w X.K X.mg X.base k x G)(hr:Room k X.A)(ha:Da X (e::es) f)(hg:Gl X x:=by rfl)(hdb:(x == ("__debug__":Str))=false:=by decide)
  (he:Ci e=true:=by rfl) (hpl:es.all Ci=true:=by rfl):AO X (.Call (.Name x p) (e::es) [] pos) (AJ G f):=by
 obtain⟨fa,fd,ps,a,b,c,d⟩:=F.ex
 exact PE.weaken (WH a hr hg b c d .nil Rf ha hdb (Ef he) (Gc hpl)) λY H Q h=>by
  have q:=OY h;obtain⟨O,ρ,L,ds,L',r,e,k⟩:=q;exact⟨O,ρ,L,ds,L',r,e,λvs H1 O1 st rs is=>by show rC X.K G (vs++[]) H1 Q;rw[FR];exact k vs H1 O1 st rs is⟩
def AJv(F:Al X.prog X.w X.K X.mg X.base k x G)(hr:Room k X.A)(hg:Gl X x:=by rfl)(hdb:(x == ("__debug__":Str))=false:=by decide):AO X (.Call (.Name x p) [] [] pos) (AJ G AD):=by
 obtain⟨fa,fd,ps,a,b,c,d⟩:=F.ex
 exact PE.weaken (ADH a hr hg b c d .nil Rf hdb) λY H Q h=>by
  obtain⟨O,ρ,L,ds,L',r,e,k⟩:=h;exact⟨O,L,[],ds,L',r.s,.nil,e,k⟩
end
noncomputable instance decMul (a b:Int):Decidable (IntMulOk a b):=by unfold IntMulOk;infer_instance
section
variable {X:Cx}
def ADl:Ao X (binaryOp .Mult) (rI IntMulOk λi j=>.int (i*j)):=Nr λ_ _ _ _ _ _ _ hc q=>mul_int q hc
def op_catE:Ao X (binaryOp .Add) (λx y H Q=>∃a b ys,x=.ref a/\y=.ref b/\BW X.K H a []/\BW X.K H b ys/\Q (.ref b) H):=by
 intro pins s Y H x y v u Q I rx ry h;obtain⟨a,b,ys,rfl,rfl,ha,hb,q⟩:=h;cases rx;cases ry;obtain⟨its,r1,p1,_⟩:=I.tuple ha;obtain⟨its2,r2,p2,_⟩:=I.tuple hb;have hi:its=[]:=r1.nil_iff.mpr rfl;subst hi;obtain⟨⟨cls,dd,data,sl⟩,ho,hc,n,hd⟩:=p1;obtain⟨⟨cls2,dd2,data2,sl2⟩,ho2,hc2,n2,hd2⟩:=p2;simp only at hc hd hc2 hd2;subst hc hd hc2 hd2
 exact concat_meets ⟨_,ho,rfl⟩ ⟨_,ho2,rfl⟩ noFill_tuple_add seq_tuple_add ALm ALn (ALo _ _)
  (tuple_addW0 a b _ _ n n2 dd dd2 sl sl2 rfl) ⟨ho,ho2,.ref b,H,I,rfl,q⟩
abbrev Bf:G2
 |.int i,.int j,L=>some (.int (i+j),L)
 |.str x,.str y,L=>if x.length+y.length<=16777216 then some (.str (x++y),L) else none
 |.ref a,.ref b,L=>match L[a]?,L[b]? with
  |some (.lst xs),some (.lst ys)=>if xs.length+ys.length<=16777216 then some (.ref L.length,L++[.lst (xs++ys)]) else none
  |_,_=>none
 |.tup xs,.tup ys,L=>if xs=[] then some (.tup ys,L) else if xs.length+ys.length<=16777216 then some (.tup (xs++ys),L) else none
 |_,_,_=>none
def AIp:Cm X (binaryOp .Add) Bf:=Ao.weaken (Ao.or ADk (Ao.or ADj (Ao.or ADi (Ao.or ADh op_catE)))) λv u H Q z4_=>by
 obtain⟨O,L,x,y,d,L',rs,ix,iy,e,k⟩:=z4_;unfold Bf at e;split at e
 .cases ix;cases iy;cases e;exact .inl ⟨_,_,rfl,rfl,k _ _ _ (.refl _ _) rs (.int _)⟩
 .cases ix with|str _ h1=>cases iy with|str _ h2 =>
   split at e
   .rename_i hz;cases e;exact .inr (.inl ⟨_,_,rfl,rfl,by rw[sizeLine_eq];exact hz,k _ _ _ (.refl _ _) rs (.str _ (by rw[strLen_append];exact hz))⟩)
   .cases e
 .rename_i a b
  cases ix with|ref ha=>cases iy with|ref hb =>
   split at e
   .rename_i xs ys e1 e2;split at e
    .rename_i hz;cases e;obtain⟨vs,hv,iv⟩:=rs.ob _ _ _ ha e1;obtain⟨ws,hw,iw⟩:=rs.ob _ _ _ hb e2;refine .inr (.inr (.inl ⟨_,_,vs,ws,rfl,rfl,hv,hw,by rw[iv.length,iw.length,sizeLine_eq];exact hz,λp hp=>?_⟩));have st:AY H O (upd H p (.lst (vs++ws))) (O++[p]):=⟨.new hp,Aj _ _⟩;exact k _ _ _ st (rs.new hp ⟨_,Bn,(iv.append iw).mono st⟩) (.ref (by rw[<-rs.len];simp))
    .cases e
   .cases e
 .rename_i xs ys;split at e
  .rename_i hx;subst hx;cases e
   cases ix with|@tup a vs _ h1 i1=>cases iy with|@tup b ws _ h2 i2 =>
    cases i1;exact .inr (.inr (.inr (.inr ⟨_,_,ws,rfl,rfl,h1,h2,k _ _ _ (.refl _ _) rs (.tup h2 i2)⟩)))
  .rename_i hx;split at e
   .rename_i hz;cases e
    cases ix with|@tup a vs _ h1 i1=>cases iy with|@tup b ws _ h2 i2 =>
     refine .inr (.inr (.inr (.inl ⟨_,_,vs,ws,rfl,rfl,h1,h2,?_,by rw[i1.length,i2.length,sizeLine_eq];exact hz,λq=>?_,λq p hp=>?_⟩)))
     .rintro rfl;cases i1;exact hx rfl
     .subst q;cases i2;rw[FR] at k;exact k _ _ _ (.refl _ _) rs (.tup h1 i1)
     .have st:AY H O (upd H p (.tup (vs++ws))) O:=⟨.new hp,An _⟩;exact k _ _ _ st (rs.ext λa u e=>by rw[Ax (CW e hp)];exact e) (.tup (BW.of Bn) ((i1.append i2).mono st))
   .cases e
 .cases e
abbrev gI(C:Int->Int->Bool)(f:Int->Int->D):G2:=λx y L=>match x,y with|.int i,.int j=>if C i j=true then some (f i j,L) else none|_,_=>none
def IW{f:Value->Value->Sem Value}{C:Int->Int->Prop}{Cb:Int->Int->Bool}{g:Int->Int->V}{gd:Int->Int->D}(h:Ao X f (rI C g))(hc:∀i j,Cb i j=true->C i j)(hg:∀K H O i j,Is K H O (g i j) (gd i j)):Cm X f (gI Cb gd) :=
 Ao.weaken h λv u H Q z4_=>by
  obtain⟨O,L,x,y,d,L',rs,ix,iy,e,k⟩:=z4_;unfold gI at e;split at e
  .split at e
   .rename_i hcc;cases ix;cases iy;cases e;exact⟨_,_,rfl,rfl,hc _ _ hcc,k _ _ _ (.refl _ _) rs (hg _ _ _ _ _)⟩
   .cases e
  .cases e
def Nj{f:Value->Value->Sem Value}{g:Int->Int->V}(h:Ao X f (Hd g)):Ao X f (rI (λ_ _=>True) g):=Ao.weaken h λx y H Q z4_=>by obtain⟨i,j,a,b,_,q⟩:=z4_;exact⟨i,j,a,b,q⟩
abbrev NP(_ _:Int):Bool:=true
abbrev Od(_ j:Int):Bool:=decide (0<j)&&decide (j<10000000000000000000000000000000000000000000000000000000000000000000000000000000000000000000000000000)
abbrev Oa(_ j:Int):Bool:=decide (0<j)
abbrev Se(i j:Int):Bool:=decide (0<=j)&&decide (j<=1000000)&&decide (i.natAbs<2 ^ 64)
abbrev cMul(i j:Int):Bool:=decide (IntMulOk i j)
abbrev Gh:G2:=gI NP λi j=>.int (i-j)
abbrev BQ:G2:=gI Od λi j=>.int (i / j)
abbrev BJ:G2:=gI Oa λi j=>.int (i % j)
abbrev Fz:G2:=gI Se λi j=>.int (i ^ j.toNat)
def AIZ:Cm X (binaryOp .Sub) Gh:=IW (Nj ADT) (λ_ _ _=>True.intro) λ_ _ _ _ _=>.int _
def AEP{j:Int}(h0:0<j)(h1:j<10000000000000000000000000000000000000000000000000000000000000000000000000000000000000000000000000000):j.natAbs.log2<340:=by
 have hn:j.natAbs≠0:=by omega
 refine(Nat.log2_lt hn).mpr ?_;have e:10000000000000000000000000000000000000000000000000000000000000000000000000000000000000000000000000000<(2:Nat) ^ 340:=by decide +kernel
 omega
def ADg:Ao X (binaryOp .FloorDiv) (rI (λ_ j=>0<j/\j<10000000000000000000000000000000000000000000000000000000000000000000000000000000000000000000000000000) λi j=>.int (i / j)):=Nr λi j _ _ _ _ _ hc q=>by
 rw[<-Int.fdiv_eq_ediv_of_nonneg i (Int.le_of_lt hc.1)] at q;exact floordiv_int (by omega) q (.inl (PyProof.noPylong_of_log2 (by have:=AEP hc.1 hc.2;omega)))
def AIn:Cm X (binaryOp .FloorDiv) BQ:=IW ADg (λi j h=>by simp only[Od,CA,decide_eq_true_eq] at h;exact h) λ_ _ _ _ _=>.int _
def AIg:Cm X (binaryOp .Mod) BJ:=IW ADa (λi j h=>by simp[Oa] at h;exact h) λ_ _ _ _ _=>.int _
def AIa:Cm X (binaryOp .Pow) Fz:=IW ADU (λi j h=>by simp[Se] at h;exact⟨h.1.1,h.1.2,h.2⟩) λ_ _ _ _ _=>.int _
abbrev JZ(x:Str)(n:Int):Bool:=decide (-1000000<=n)&&decide (n<=1000000)&&decide (x.length*n.toNat<=16777216)
abbrev DR:G2:=λx y L=>match x,y with
 |.int i,.int j=>if cMul i j=true then some (.int (i*j),L) else none
 |.str x,.int n=>if JZ x n=true then some (.str (Txt.mul x n),L) else none
 |_,_=>none
def Ws:∀(l:List (Array Nat)) (a:Array Nat),(l.foldl (·++·) a).size=a.size+(l.map (·.size)).sum
 |[],a=>by simp
 |b::r,a=>by rw[ALB,Ws r];simp[Array.size_append];omega
def ADx(x:Str)(n:Int):(Txt.mul x n).length<=x.length*n.toNat:=by
 unfold Txt.mul;split
 .exact Ed _
 .split
  .rename_i h1 h2;simp only[Bool.or_eq_true,beq_iff_eq] at h2;rcases h2 with h2|h2
   .subst h2;simp
   .rw[h2];simp
  .show((AKa n.toNat x.cps).foldl (·++·) #[]).size<=_;rw[Ws];simp[Str.length,Nat.mul_comm]
def ADZ:Ao X (binaryOp .Mult) (λx y H Q=>∃z n,x=.str z/\y=.int n/\JZ z n=true/\Q (.str (Txt.mul z n)) H):=by
 intro pins s Y H x y v u Q I rx ry h;obtain⟨z,n,rfl,rfl,hc,q⟩:=h;obtain⟨t,rfl⟩:=rx;obtain⟨t',rfl⟩:=ry;simp only[JZ,CA,decide_eq_true_eq] at hc;obtain⟨⟨h1,h2⟩,h3⟩:=hc;refine SB.mul ⟨?_,λhn _ hz=>?_,λ_ _=>?_⟩ λt' k=>⟨.str _,H,I.tok _,⟨_,rfl⟩,q⟩
 .have e1:decide (n < -(2 ^ 63:Int))=false:=decide_eq_false (by omega);have e2:decide (n ≥ 2 ^ 63)=false:=decide_eq_false (by omega);rw[e1,e2];rfl
 .have e1:(z.length:Int)*n<=16777216:=by
   have h4:((z.length*n.toNat:Nat):Int)<=((16777216:Nat):Int):=Int.ofNat_le.mpr h3;rw[Int.natCast_mul,Int.toNat_of_nonneg (by omega)] at h4;omega
  have e2:(z.length:Int)<=((2:Int) ^ 63-1) / n:=Int.le_ediv_of_mul_le (by omega) (by omega);omega
 .have h5:¬(z.length*n.toNat>sizeLine):=by rw[sizeLine_eq];omega
  exact decide_eq_false h5
def AIf:Cm X (binaryOp .Mult) DR:=Ao.weaken (Ao.or ADl ADZ) λv u H Q z4_=>by
 obtain⟨O,L,x,y,d,L',rs,ix,iy,e,k⟩:=z4_;unfold DR at e;split at e
 .split at e
  .rename_i hc;cases ix;cases iy;cases e;exact .inl ⟨_,_,rfl,rfl,of_decide_eq_true hc,k _ _ _ (.refl _ _) rs (.int _)⟩
  .cases e
 .split at e
  .rename_i hc;cases ix;cases iy;cases e;refine .inr ⟨_,_,rfl,rfl,hc,k _ _ _ (.refl _ _) rs (.str _ ?_)⟩;simp only[JZ,CA,decide_eq_true_eq] at hc;exact Bu (ADx _ _) hc.2
  .cases e
 .cases e
abbrev gLt:G2:=gI NP λi j=>.bl (decide (i<j))
abbrev GA:G2:=gI NP λi j=>.bl (decide (j<i))
abbrev OQ:G2:=gI NP λi j=>.bl (decide (j<=i))
def Nt:Cm X (compareOp .Lt) gLt:=IW (Nj op_lt) (λ_ _ _=>True.intro) λ_ _ _ _ _=>.bl _
def AIl:Cm X (compareOp .Gt) GA:=IW (Nj ADe) (λ_ _ _=>True.intro) λ_ _ _ _ _=>.bl _
def AIm:Cm X (compareOp .GtE) OQ:=IW (Nj ADf) (λ_ _ _=>True.intro) λ_ _ _ _ _=>.bl _
abbrev DN:D->V
 |.non=>.non|.bl b=>.bl b|.int i=>.int i|.str x=>.str x|_=>.non
abbrev BH:D->Bool
 |.non=>true|.bl _=>true|.int _=>true|.str _=>true|_=>false
def El{K:AI}{H:Hp}{O:AMD}{v:V}{d:D}(h:Is K H O v d)(f:BH d=true):v=DN d:=by cases h <;> first|rfl|(simp[BH] at f)
def Xv{K:AI}{H:Hp}{O:AMD}:∀{vs:List V} {ds:List D},AM K H O vs ds->ds.all BH=true->vs=ds.map DN
 |_,_,.nil,_=>rfl
 |_,_,.cons a b,f=>by
  rw[AKq,CA] at f;rw[Ah,El a f.1,Xv b f.2]
def Jp{d:D}(f:BH d=true):Fa (DN d)=true:=by cases d <;> simp_all [BH,DN,Fa]
def Kt{a b:D}(fa:BH a=true)(fb:BH b=true):(DN a=DN b)↔a=b:=by cases a <;> simp[BH] at fa <;> cases b <;> simp[BH] at fb <;> simp[DN]
abbrev HA(a b:D):Bool:=BH a&&BH b&&RR (DN a) (DN b)
abbrev BK:G2:=λx y L=>if HA x y=true then some (.bl (decide (x=y)),L) else none
abbrev HJ:G2:=λx y L=>if HA x y=true then some (.bl (!decide (x=y)),L) else none
def AIo:Cm X (compareOp .Eq) BK:=Ao.weaken WR λv u H Q z4_=>by
 obtain⟨O,L,x,y,d,L',rs,ix,iy,e,k⟩:=z4_;unfold BK at e;split at e
 .rename_i h;cases e;simp only[HA,CA] at h;obtain⟨⟨h1,h2⟩,h3⟩:=h;rw[El ix h1,El iy h2];refine⟨h3,?_⟩;have:decide (DN x=DN y)=decide (x=y):=by simp[Kt h1 h2]
  rw[this];exact k _ _ _ (.refl _ _) rs (.bl _)
 .cases e
def AIe:Cm X (compareOp .NotEq) HJ:=Ao.weaken ADY λv u H Q z4_=>by
 obtain⟨O,L,x,y,d,L',rs,ix,iy,e,k⟩:=z4_;unfold HJ at e;split at e
 .rename_i h;cases e;simp only[HA,CA] at h;obtain⟨⟨h1,h2⟩,h3⟩:=h;rw[El ix h1,El iy h2];refine⟨h3,?_⟩;have:decide (DN x=DN y)=decide (x=y):=by simp[Kt h1 h2]
  rw[this];exact k _ _ _ (.refl _ _) rs (.bl _)
 .cases e
abbrev Hm:D->Bool|.non=>true|_=>false
def XM{K:AI}{H:Hp}{O:AMD}{v:V}{d:D}(h:Is K H O v d):decide (v=.non)=Hm d:=by cases h <;> simp[Hm]
abbrev isBl(b:Bool):D->Bool|.bl c=>c == b|_=>false
def ADb:Ao X (compareOp .Is) (λx y H Q=>∃b,y=.bl b/\(∀n,x≠.ty n)/\Q (.bl (decide (x=.bl b))) H):=by
 intro pins s Y H x y v u Q I rx ry h;obtain⟨b,rfl,hn,q⟩:=h;cases ry
 cases x with
 |non=>cases rx;exact AK (BF I q rfl)
 |bl c=>cases rx;exact AK (BF I q (by cases c <;> cases b <;> rfl))
 |int c=>obtain⟨t,rfl⟩:=rx;exact AK (BF I q rfl)
 |str c=>obtain⟨t,rfl⟩:=rx;exact AK (BF I q rfl)
 |byt c=>obtain⟨t,rfl⟩:=rx;exact AK (BF I q rfl)
 |flt c=>obtain⟨t,rfl⟩:=rx;exact AK (BF I q rfl)
 |ref c=>cases rx;exact AK (BF I q rfl)
 |ty c=>exact absurd rfl (hn c)
def ADX:Ao X (compareOp .IsNot) (λx y H Q=>∃b,y=.bl b/\(∀n,x≠.ty n)/\Q (.bl (!decide (x=.bl b))) H):=by
 intro pins s Y H x y v u Q I rx ry h;obtain⟨b,rfl,hn,q⟩:=h;cases ry
 cases x with
 |non=>cases rx;exact AK (BF I q rfl)
 |bl c=>cases rx;exact AK (BF I q (by cases c <;> cases b <;> rfl))
 |int c=>obtain⟨t,rfl⟩:=rx;exact AK (BF I q rfl)
 |str c=>obtain⟨t,rfl⟩:=rx;exact AK (BF I q rfl)
 |byt c=>obtain⟨t,rfl⟩:=rx;exact AK (BF I q rfl)
 |flt c=>obtain⟨t,rfl⟩:=rx;exact AK (BF I q rfl)
 |ref c=>cases rx;exact AK (BF I q rfl)
 |ty c=>exact absurd rfl (hn c)
def XO{K:AI}{H:Hp}{O:AMD}{v:V}{d:D}{b:Bool}(h:Is K H O v d):decide (v=.bl b)=isBl b d:=by cases h <;> simp[isBl];rename_i c;cases c <;> cases b <;> rfl
abbrev noTy:D->Bool|.ty _=>false|_=>true
def WZ{K:AI}{H:Hp}{O:AMD}{v:V}{d:D}(h:Is K H O v d)(n:noTy d=true):∀m,v≠.ty m:=by
 intro m z
 cases h <;> first|(cases z;done)|(simp[noTy] at n)
abbrev LW:G2:=λx y L=>match y with|.non=>some (.bl (Hm x),L)|.bl b=>if noTy x=true then some (.bl (isBl b x),L) else none|_=>none
abbrev Jl:G2:=λx y L=>match y with|.non=>some (.bl (!Hm x),L)|.bl b=>if noTy x=true then some (.bl (!isBl b x),L) else none|_=>none
def AIi:Cm X (compareOp .Is) LW:=Ao.weaken (Ao.or op_isN ADb) λv u H Q z4_=>by
 obtain⟨O,L,x,y,d,L',rs,ix,iy,e,k⟩:=z4_;unfold LW at e;split at e
 .cases e;cases iy;refine .inl ⟨rfl,?_⟩;rw[XM ix];exact k _ _ _ (.refl _ _) rs (.bl _)
 .split at e
  .rename_i hn;cases e;cases iy;refine .inr ⟨_,rfl,WZ ix hn,?_⟩;rw[XO ix];exact k _ _ _ (.refl _ _) rs (.bl _)
  .cases e
 .cases e
def AIh:Cm X (compareOp .IsNot) Jl:=Ao.weaken (Ao.or ADV ADX) λv u H Q z4_=>by
 obtain⟨O,L,x,y,d,L',rs,ix,iy,e,k⟩:=z4_;unfold Jl at e;split at e
 .cases e;cases iy;refine .inl ⟨rfl,?_⟩;rw[XM ix];exact k _ _ _ (.refl _ _) rs (.bl _)
 .split at e
  .rename_i hn;cases e;cases iy;refine .inr ⟨_,rfl,WZ ix hn,?_⟩;rw[XO ix];exact k _ _ _ (.refl _ _) rs (.bl _)
  .cases e
 .cases e
abbrev Gf(i j:Str):Bool:=!(Builtin.Str.occurrences j i 0 j.length 1).isEmpty
abbrev Jr(a b:D):Bool:=eqV (DN a) (DN b)
abbrev DE(x:D)(xs:List D):Bool:=xs.any λy=>Jr y x
abbrev Cd(d:D)(L:AB):Option (List D):=match d with
 |.tup xs=>some xs|.fz xs=>some xs
 |.ref k=>match L[k]? with|some (.lst xs)=>some xs|_=>none
 |_=>none
def JV{K:AI}{H:Hp}{O:AMD}{L:AB}{v:V}{d:D}{xs:List D}(rs:Ai K H O L)(h:Is K H O v d)(e:Cd d L=some xs):∃a vs,v=.ref a/\(BI K H a vs\/BW K H a vs)/\AM K H O vs xs:=by
 cases h with
 |tup hq il=>cases e;exact⟨_,_,rfl,.inr hq,il⟩
 |fz hq il=>cases e;exact⟨_,_,rfl,.inl hq.sql,il⟩
 |ref hk =>
  simp only[Cd] at e;split at e
  .rename_i ys e2;cases e;obtain⟨vs,hv,iv⟩:=rs.ob _ _ _ hk e2;exact⟨_,vs,rfl,.inl (BI.of hv),iv⟩
  .cases e
 |_=>cases e
abbrev DS(neg:Bool):G2:=λx y L=>match x,y with
 |.str i,.str j=>some (.bl (if neg then !Gf i j else Gf i j),L)
 |_,_=>match Cd y L with|some ys=>if BH x&&ys.all BH then some (.bl (if neg then !DE x ys else DE x ys),L) else none|none=>none
def AEu{x:D}{xs:List D}:SH (DN x) (xs.map DN)=DE x xs:=by unfold SH DE Jr;rw[List.any_map];rfl
def AGx{xs:List D}(h:xs.all BH=true):(xs.map DN).all Fa=true:=by rw[List.all_map];rw[DM] at h ⊢;exact λd hd=>Jp (h d hd)
def Xq{K:AI}{H:Hp}{O:AMD}{L L':AB}{v u:V}{x y d:D}{neg:Bool}{Q:VK}(rs:Ai K H O L)(ix:Is K H O v x)(iy:Is K H O u y)
  (e:(match Cd y L with|some ys=>if BH x&&ys.all BH then some (D.bl (if neg then !DE x ys else DE x ys),L) else none|none=>none)=some (d,L'))
  (k:∀w H' O',AY H O H' O'->Ai K H' O' L'->Is K H' O' w d->Q w H'):RT K neg v u H Q:=by
 split at e
 .rename_i ys hy;split at e
  .rename_i hf;cases e;rw[CA] at hf;obtain⟨a,vs,rfl,hs,il⟩:=JV rs iy hy;have e1:=El ix hf.1;have e2:=Xv il hf.2;subst e1 e2;refine⟨a,_,rfl,hs,Jp hf.1,AGx hf.2,?_⟩;rw[AEu];exact k _ _ _ (.refl _ _) rs (.bl _)
  .cases e
 .cases e
def AIk:Cm X (compareOp .In) (DS false):=Ao.weaken (Ao.or ADc ADd) λv u H Q z4_=>by
 obtain⟨O,L,x,y,d,L',rs,ix,iy,e,k⟩:=z4_;unfold DS at e;split at e
 .cases e;cases ix;cases iy;exact .inl ⟨_,_,rfl,rfl,k _ _ _ (.refl _ _) rs (.bl _)⟩
 .exact .inr (Xq rs ix iy e k)
def AIc:Cm X (compareOp .NotIn) (DS true):=Ao.weaken (Ao.or op_notin_str ADW) λv u H Q z4_=>by
 obtain⟨O,L,x,y,d,L',rs,ix,iy,e,k⟩:=z4_;unfold DS at e;split at e
 .cases e;cases ix;cases iy;exact .inl ⟨_,_,rfl,rfl,k _ _ _ (.refl _ _) rs (.bl _)⟩
 .exact .inr (Xq rs ix iy e k)
abbrev AZ:G2:=λx y L=>match y with
 |.int i=>match x with
  |.str z=>(match atI z.cps.toList i with|some c=>some (.str ⟨#[c]⟩,L)|none=>none)
  |_=>(match Cd x L with|some xs=>(match atI xs i with|some d=>some (d,L)|none=>none)|none=>none)
 |_=>none
def AGm{K:AI}{H:Hp}{O:AMD}{vs:List V}{xs:List D}{i:Int}{d:D}(il:AM K H O vs xs)(e:atI xs i=some d):∃v,atI vs i=some v/\Is K H O v d:=by
 unfold atI at e ⊢;rw[il.length]
 cases q:ixN xs.length i with
 |none=>rw[q] at e;cases e
 |some j=>rw[q] at e;exact il.get e
def UX:Oq X AZ:=Ew.weaken AEj λv u H Q z4_=>by
 obtain⟨O,L,x,y,d,L',rs,ix,iy,e,k⟩:=z4_;unfold AZ at e;split at e
 .cases iy;split at e
  .split at e
   .rename_i c hc;cases e
    cases ix with|str _ hz =>
     exact .inr (.inr ⟨_,_,c,rfl,rfl,by rw[sizeLine_eq];exact hz,hc,k _ _ _ (.refl _ _) rs (.str _ (by simp[Str.length]))⟩)
   .cases e
  .split at e
   .rename_i xs hx;split at e
    .rename_i dd hd;cases e;obtain⟨a,vs,rfl,hs,il⟩:=JV rs ix hx;obtain⟨w,hw,iw⟩:=AGm il hd;rcases hs with hs|hs
     .exact .inl ⟨a,vs,_,w,rfl,rfl,hs,hw,k _ _ _ (.refl _ _) rs iw⟩
     .exact .inr (.inl ⟨a,vs,_,w,rfl,rfl,hs,hw,k _ _ _ (.refl _ _) rs iw⟩)
    .cases e
   .cases e
 .cases e
end
end L3
set_option maxHeartbeats 4000000
namespace HT
open PySem PySem.Spec PyProof.Rows
section
variable {prog:Program}{w:World}{A:Around}{E:AMI}{s:Shared}
def AI8{t sl:Addr}{items:Array Value}{vl vu:Value}{lo hi:Option Int}{Q:AMI}(ht:IsTup s.heap t items)(hs:s.heap.IsSliceOf sl vl vu .none)(pl:IsPart vl lo)(pu:IsPart vu hi)
  (hw:sIx items.size 0 lo=0/\sIx items.size items.size hi=items.size) (h:Q (.ref t) s) (hsz:items.size<=sizeLine):wpAny (model prog w) A (getItem (.ref t) (.ref sl)) Q E s:=by
 obtain⟨os,hos,hcs,hds⟩:=id hs;have hTs:s.TypeIs (.ref sl) "slice":=⟨os,hos,hcs⟩;unfold getItem
 try with_reducible refine DJ ?_
 first|refine AE (AK ?_)|skip
 refine AE (wpAny_sequenceKey ht.typeIs (by decide) ?_)
 refine AE (AL2 (name:=Str.ofString "__getitem__") ht.typeIs PyProof.Rows.slot_tuple_getitem
  (Fg PyProof.Rows.slot_tuple_getitem ht.typeIs entry_tuple_getitem ?_ (args_tuple_getitem _ _)))
 show wpAny _ _ (Builtin.Tuple.tupleItemsOf (.ref t) >>= _) _ _ s;refine AE (tupleItemsOf_ ht ?_);refine AE (wpAny_typeOf hTs ?_);rw[if_pos (by decide)];refine AE (VY hs pl pu ?_)
 have hyes:(((sIx items.size 0 lo:Nat):Int) == 0&&(1:Int) == 1&&(sIx items.size items.size hi-sIx items.size 0 lo) == items.size)=true:=by rw[hw.1,hw.2];simp
 show wpAny _ _ (if (((sIx items.size 0 lo:Nat):Int) == 0&&(1:Int) == 1&&(sIx items.size items.size hi-sIx items.size 0 lo) == items.size)=true then _ else _) _ _ s
 rw[if_pos hyes];unfold Builtin.Tuple.tupleIsExact;refine AE (AE (wpAny_typeOf ht.typeIs (AK ?_)));rw[if_pos (by decide)];refine AE (ALw ?_);exact AK ⟨_,rfl,AK h⟩
end
end HT
namespace L2
open PySem PySem.Spec PyProof.Rows
section
variable {X:Cx}
def ABj:Fc X (λx lo hi H Q=>∃a xs,x=.ref a/\BW X.K H a xs/\(HT.sIx xs.length 0 lo=0/\HT.sIx xs.length xs.length hi=xs.length)/\Q (.ref a) H):=by
 intro pins s Y H x v vl vu lo hi sl Q I rx hs pl pu h;obtain⟨a,xs,rfl,hx,hw,q⟩:=h;cases rx;obtain⟨its,r,ht,hz⟩:=I.tuple hx;have hlen:its.toArray.size=xs.length:=by rw[Bi];exact r.length.symm
 refine⟨"tuple",_,PyProof.Rows.slot_tuple_getitem.lookup,ht.typeIs,?_⟩;exact HT.AI8 ht hs pl pu (by rw[hlen];exact hw) ⟨.ref a,H,I,rfl,q⟩ (by rw[hlen];exact hz)
end
end L2
set_option maxHeartbeats 4000000
namespace L3
open PySem PySem.Spec PyProof.Rows L2
noncomputable abbrev OF:=Fm->AB->Option (Option Int×AB)
abbrev AEQ(K:AI)(f:OF):TO:=λY H Q=>∃O ρ L d L',Cy K H O Y ρ L/\f ρ L=some (d,L')/\∀H' O',AY H O H' O'->Ai K H' O' L'->Q d H'
abbrev Ln(X:Cx)(e:Option Expr)(f:OF):Prop:=PO X e (AEQ X.K f)
abbrev Ei:OF:=λ_ L=>some (none,L)
abbrev Ck(f:EF):OF:=λρ L=>(f ρ L).bind λx=>match x.1 with|.int i=>some (some i,x.2)|_=>none
section
variable {X:Cx}{e:Expr}{f:EF}{lo hi:Option Expr}{fl fh:OF}{pos p2:Pos}
def AIY:Ln X none Ei:=λpins s Y H Q I z6_=>by
 obtain⟨O,ρ,L,d,L',r,e,k⟩:=z6_;cases e;exact ACl pins s Y H Q I (k H O (.refl _ _) r.s)
def AIX(h:AO X e f):Ln X (some e) (Ck f):=λpins s Y H Q I z6_=>by
 obtain⟨O,ρ,L,d,L',r,ee,k⟩:=z6_;refine ACk h pins s Y H Q I ?_;unfold Ck at ee;obtain⟨p,e1,ee⟩:=bS ee;obtain⟨x,L1⟩:=p
 cases x <;> simp only[AQ] at ee <;> try (cases ee;done)
 cases ee;refine⟨O,ρ,L,_,_,r,e1,λv H' O' st rs is=>?_⟩;cases is;exact⟨_,rfl,k H' O' st rs⟩
def ABl:Fc X (λx lo hi H Q=>∃z,x=.str z/\z.length<=sizeLine/\Q (.str (Txt.slice z lo hi)) H):=by
 intro pins s Y H x v vl vu lo hi sl Q I rx hs pl pu h;obtain⟨z,rfl,hz,q⟩:=h;obtain⟨t,rfl⟩:=rx;refine⟨"str",_,F.slot_str_getitem.lookup,typeIs_str _ _ _,?_⟩;have fin:∀t' k,EP X pins Y Q (.str (Txt.slice z lo hi) t') {s with toks:=k}:=λt' k=>⟨.str _,H,I.tok _,⟨_,rfl⟩,q⟩;have hl:(Txt.slice z lo hi).length<=sizeLine:=Bu (Txt.slice_le z _ _) hz
 cases pl with
 |none=>cases pu with
  |none=>exact AL4 (l:=none) (u:=none) (st:=none) hs rfl (post_val_or_str ⟨hl,fin⟩)
  |int j tj=>exact AL4 (l:=none) (u:=some (j,tj)) (st:=none) hs rfl (post_val_or_str ⟨hl,fin⟩)
 |int i ti=>cases pu with
  |none=>exact AL4 (l:=some (i,ti)) (u:=none) (st:=none) hs rfl (post_val_or_str ⟨hl,fin⟩)
  |int j tj=>exact AL4 (l:=some (i,ti)) (u:=some (j,tj)) (st:=none) hs rfl (post_val_or_str ⟨hl,fin⟩)
abbrev cutD(xs:List D)(lo hi:Option Int):List D:=(xs.drop (HT.sIx xs.length 0 lo)).take (HT.sIx xs.length xs.length hi-HT.sIx xs.length 0 lo)
abbrev Jj(x:D)(lo hi:Option Int)(L:AB):Option (D×AB):=match x with
 |.str z=>some (.str (Txt.slice z lo hi),L)
 |.fz xs=>some (.ref L.length,L++[.lst (cutD xs lo hi)])
 |.ref k=>(match L[k]? with|some (.lst xs)=>some (.ref L.length,L++[.lst (cutD xs lo hi)])|_=>none)
 |.tup xs=>some (.tup (cutD xs lo hi),L)
 |_=>none
abbrev DO(f:EF)(fl fh:OF):EF:=λρ L=>(f ρ L).bind λx=>(fl ρ x.2).bind λl=>(fh ρ l.2).bind λh=>Jj x.1 l.1 h.1 h.2
def Sd{K:AI}{H:Hp}{O:AMD}{vs:List V}{xs:List D}(il:AM K H O vs xs)(lo hi:Option Int):AM K H O (GC vs lo hi) (cutD xs lo hi):=by unfold GC cutD;rw[il.length];exact(il.drop _).take _
def AJj(he:AO X e f)(hl:Ln X lo fl)(hh:Ln X hi fh):AO X (.Subscript e (.Slice lo hi none p2) pos) (DO f fl fh) :=
 PE.weaken (AC1 (Fc.or ABl (Fc.or ABm (Fc.or ABk ABj))) he hl hh) λY H Q z3_=>by
  obtain⟨O,ρ,L,d,L',r,ee,k⟩:=z3_;unfold DO at ee;obtain⟨p,e1,ee⟩:=bS ee;obtain⟨q,e2,ee⟩:=bS ee;obtain⟨w,e3,ee⟩:=bS ee;refine⟨O,ρ,L,p.1,p.2,r,e1,λv H1 O1 st1 rs1 is1=>⟨O1,ρ,p.2,q.1,q.2,r.to st1 rs1,e2,λH2 O2 st2 rs2=>⟨O2,ρ,q.2,w.1,w.2,r.to (st1.trans st2) rs2,e3,λH3 O3 st3 rs3=>?_⟩⟩⟩;have is3:=(is1.mono st2).mono st3;have stA:=(st1.trans st2).trans st3;unfold Jj at ee;split at ee
  .rename_i z hz;rw[hz] at is3;cases ee
   cases is3 with|str _ hl =>
    exact .inl ⟨_,rfl,by rw[sizeLine_eq];exact hl,k _ _ _ stA rs3 (.str _ (Bu (Txt.slice_le _ _ _) hl))⟩
  .rename_i xs hx;rw[hx] at is3;cases ee
   cases is3 with|@fz a vs ds hq il =>
    refine .inr (.inl ⟨_,_,rfl,hq.sql,λpa hp=>?_⟩);have st4:AY H3 O3 (upd H3 pa (.lst (GC vs q.1 w.1))) (O3++[pa]):=⟨.new hp,Aj _ _⟩;exact k _ _ _ (stA.trans st4) (rs3.new hp ⟨_,Bn,(Sd il _ _).mono st4⟩) (.ref (by rw[<-rs3.len];simp))
  .rename_i kk hx;rw[hx] at is3;split at ee
   .rename_i xs e4;cases ee
    cases is3 with|ref hk =>
     obtain⟨vs,hv,il⟩:=rs3.ob _ _ _ hk e4;refine .inr (.inl ⟨_,_,rfl,BI.of hv,λpa hp=>?_⟩);have st4:AY H3 O3 (upd H3 pa (.lst (GC vs q.1 w.1))) (O3++[pa]):=⟨.new hp,Aj _ _⟩;exact k _ _ _ (stA.trans st4) (rs3.new hp ⟨_,Bn,(Sd il _ _).mono st4⟩) (.ref (by rw[<-rs3.len];simp))
   .cases ee
  .rename_i xs hx;rw[hx] at is3;cases ee
   cases is3 with|@tup a vs ds hq il =>
    by_cases hw:HT.sIx vs.length 0 q.1=0/\HT.sIx vs.length vs.length w.1=vs.length
    .refine .inr (.inr (.inr ⟨_,vs,rfl,hq,hw,?_⟩))
     have e5:cutD xs q.1 w.1=xs:=by unfold cutD;rw[<-il.length,hw.1,hw.2,ALM,Nat.sub_zero,il.length,Ee]
     rw[e5] at k;exact k _ _ _ stA rs3 (.tup hq il)
    .refine .inr (.inr (.inl ⟨_,vs,rfl,hq,hw,λpa hp=>?_⟩));have st4:AY H3 O3 (upd H3 pa (.tup (GC vs q.1 w.1))) O3:=⟨.new hp,An _⟩;exact k _ _ _ (stA.trans st4) (rs3.ext λa u e=>by rw[Ax (CW e hp)];exact e) (.tup (BW.of Bn) ((Sd il _ _).mono st4))
  .cases ee
end
section
variable {X:Cx}
abbrev Bt:GL:=λxs L=>match xs with
 |[.str z]=>some (.int (z.length:Int),L)
 |[x]=>(match Cd x L with|some ys=>some (.int (ys.length:Int),L)|none=>none)
 |_=>none
def AJ4:Ez X (.builtin "len") Bt:=CD.weaken (CD.or AGR AGS) λvs H Q z3_=>by
 obtain⟨O,L,xs,d,L',rs,is,e,k⟩:=z3_;unfold Bt at e;split at e
 .cases e
  cases is with|cons i1 i2=>cases i2;cases i1 with|str _ hz =>
   exact .inl ⟨_,rfl,by rw[sizeLine_eq];exact hz,k _ _ _ (.refl _ _) rs (.int _)⟩
 .split at e
  .rename_i ys hy;cases e
   cases is with|cons i1 i2 =>
    cases i2;obtain⟨a,vs,rfl,hs,il⟩:=JV rs i1 hy;exact .inr ⟨a,vs,rfl,hs,by rw[il.length];exact k _ _ _ (.refl _ _) rs (.int _)⟩
  .cases e
 .cases e
abbrev LZ:GL:=λxs L=>match xs with|[.int i]=>some (.int (if i<0 then -i else i),L)|_=>none
def AJ9:Ez X (.builtin "abs") LZ:=CD.weaken AGW λvs H Q z3_=>by
 obtain⟨O,L,xs,d,L',rs,is,e,k⟩:=z3_;unfold LZ at e;split at e
 .cases e;cases is with|cons i1 i2=>cases i2;cases i1;exact⟨_,rfl,k _ _ _ (.refl _ _) rs (.int _)⟩
 .cases e
abbrev LS:GL:=λxs L=>match xs with|[.int i,.int j]=>some (.int (if j<i then j else i),L)|_=>none
def AJ2(hc:X.calm=true):Ez X (.builtin "min") LS:=CD.weaken (AGQ hc) λvs H Q z3_=>by
 obtain⟨O,L,xs,d,L',rs,is,e,k⟩:=z3_;unfold LS at e;split at e
 .cases e;cases is with|cons i1 i2=>cases i2 with|cons i3 i4=>cases i4;cases i1;cases i3;exact⟨_,_,rfl,k _ _ _ (.refl _ _) rs (.int _)⟩
 .cases e
abbrev Jm:GL:=λxs L=>match xs with|[.int i]=>some (.int i,L)|[.bl b]=>some (.int (if b then 1 else 0),L)|_=>none
def AJ5:Ez X (.type "int") Jm:=CD.weaken AGT λvs H Q z3_=>by
 obtain⟨O,L,xs,d,L',rs,is,e,k⟩:=z3_;unfold Jm at e;split at e
 .cases e;cases is with|cons i1 i2=>cases i2;cases i1;exact .inl ⟨_,rfl,k _ _ _ (.refl _ _) rs (.int _)⟩
 .cases e;cases is with|cons i1 i2=>cases i2;cases i1;exact .inr ⟨_,rfl,k _ _ _ (.refl _ _) rs (.int _)⟩
 .cases e
abbrev FY:GL:=λxs L=>match xs with
 |[.tup ys]=>some (.tup ys,L)
 |[x]=>(match Cd x L with|some ys=>some (.tup ys,L)|none=>none)
 |_=>none
def AJz:Ez X (.type "tuple") FY:=CD.weaken AGO λvs H Q z3_=>by
 obtain⟨O,L,xs,d,L',rs,is,e,k⟩:=z3_;unfold FY at e;split at e
 .cases e;cases is with|cons i1 i2=>cases i2;cases i1 with|tup hq il=>exact⟨_,_,rfl,.inr ⟨hq,k _ _ _ (.refl _ _) rs (.tup hq il)⟩⟩
 .split at e
  .rename_i ys hy;cases e
   cases is with|cons i1 i2 =>
    cases i2;obtain⟨a,vs,rfl,hs,il⟩:=JV rs i1 hy;rcases hs with hs|hs
    .refine⟨a,vs,rfl,.inl ⟨hs,λl hl=>?_⟩⟩;have st:AY H O (upd H l (.tup vs)) O:=⟨.new hl,An _⟩;exact k _ _ _ st (rs.ext λb u e=>by rw[Ax (CW e hl)];exact e) (.tup (BW.of Bn) (il.mono st))
    .exact⟨a,vs,rfl,.inr ⟨hs,k _ _ _ (.refl _ _) rs (.tup hs il)⟩⟩
  .cases e
 .cases e
abbrev AFP:GL:=λxs L=>match xs with
 |[x]=>(match Cd x L with|some ys=>some (.ref L.length,L++[.lst ys])|none=>none)
 |_=>none
def AGV(hc:X.calm=true):CD X (.builtin "all") (λxs H Q=>∃(p:Addr) (bs:List Bool),xs=[.ref p]/\BI X.K H p (bs.map V.bl)/\Q (.bl (bs.all id)) H):=by
 intro pins s Y H xs us Q I r h;obtain⟨p,bs,rfl,hq,q⟩:=h;obtain⟨u,rfl,rx⟩:=EK r;cases rx;obtain⟨its,rv,pl,hz⟩:=I.list hq;have hI:∀b o,s.heap.get? b=some o->b≠s.heap.objs.size:=λb o e=>BN (Heap.lt_size e);obtain⟨ol,hol,hcl,nl,hdl⟩:=pl.isList;have hbs:bs.length=its.length:=by have:=rv.length;simpa using this
 refine call_all_walk (AL0 pl.isList ⟨s.heap.objs.size,_,_,_,_,_,λi=>(bs[i]?).getD true,rfl,
  Walks.list (A:=X.A.in1) (show X.A.in1.handled=none from I.ok.hd hc) s.heap.objs.size p (hI p ol hol) its.toArray,⟨⟨_,Heap.get?_push_size _ rfl,rfl,rfl⟩,⟨ol,Heap.get?_push_of_some _ hol,hcl,nl,hdl⟩⟩,?_,?_⟩)
 .intro i v s' Q' E' hv hQ;have hv':its[i]?=some v:=by simpa using hv
  have hi:i<its.length:=(BA.mp hv').1;have hb:bs[i]?=some bs[i]:=by simp[hbs,hi]
  obtain⟨w',hw,rw'⟩:=rv.get (i:=i) (x:=.bl bs[i]) (by simp[hbs,hi]);rw[hv'] at hw;cases hw;cases rw';dsimp only at hQ;rw[hb] at hQ;exact ALy hQ
 .intro h' tk kk;have I1:AG X pins Y H {s with heap:=h',toks:=tk}:=I.kept λb o e=>kk b o (by simpa using hI b o e) (Heap.get?_push_of_some _ e);refine⟨.bl (bs.all id),H,I1,?_,q⟩;show Value.bool _=Value.bool _
  congr 1
  rw[Bi,<-hbs];rw[AKm,DM,DM];constructor
  .intro h b hb;obtain⟨i,hi,rfl⟩:=ALA hb;have:=h i (CN.mpr hi);simpa[hi] using this
  .intro h i hi;have hi':=CN.mp hi;simpa[hi'] using h _ (ALZ hi')
abbrev blsD:List D->Option (List Bool)
 |[]=>some []
 |.bl b::r=>(blsD r).map (b::·)
 |_=>none
def Sg{K:AI}{H:Hp}{O:AMD}:∀{vs:List V} {ds:List D} {bs:List Bool},AM K H O vs ds->blsD ds=some bs->vs=bs.map V.bl
 |_,_,_,.nil,e=>by cases e;rfl
 |_,d::ds,bs,.cons a b,e=>by
  cases a <;> simp only[blsD] at e <;> try (cases e;done)
  cases q:blsD ds with
  |none=>rw[q] at e;cases e
  |some r =>
   rw[q] at e;cases e;rw[Sg b q];rfl
abbrev LY:GL:=λxs L=>match xs with
 |[.ref k]=>(match L[k]? with|some (.lst ds)=>(match blsD ds with|some bs=>some (.bl (bs.all id),L)|none=>none)|_=>none)
 |_=>none
def AJ8(hc:X.calm=true):Ez X (.builtin "all") LY:=CD.weaken (AGV hc) λvs H Q z3_=>by
 obtain⟨O,L,xs,d,L',rs,is,e,k⟩:=z3_;unfold LY at e;split at e
 .split at e
  .rename_i ds hd;split at e
   .rename_i bs hb;cases e
    cases is with|cons i1 i2 =>
     cases i2
     cases i1 with|ref hk =>
      obtain⟨vs,hv,il⟩:=rs.ob _ _ _ hk hd;rw[Sg il hb] at hv;exact⟨_,bs,rfl,BI.of hv,k _ _ _ (.refl _ _) rs (.bl _)⟩
   .cases e
  .cases e
 .cases e
end
noncomputable abbrev GM:=D->List D->AB->Option (D×AB)
abbrev rM(K:AI)(g:GM):V->List V->Hp->VK->Prop:=λv vs H Q=>∃O L x xs d L',Ai K H O L/\Is K H O v x/\AM K H O vs xs/\g x xs L=some (d,L') /\
 ∀w H' O',AY H O H' O'->Ai K H' O' L'->Is K H' O' w d->Q w H'
abbrev MtD(X:Cx)(id:String)(g:GM):Prop:=Ev X id (rM X.K g)
def Ev.weaken{X:Cx}{id:String}{r r':V->List V->Hp->VK->Prop}(h:Ev X id r)(i:∀x xs H Q,r' x xs H Q->r x xs H Q):Ev X id r' :=
 λpins s Y H x xs v us Q I rx rs q=>h pins s Y H x xs v us Q I rx rs (i _ _ _ _ q)
abbrev JT(T:String)(x:D)(L:AB):Bool:=match x with
 |.str _=>T == "str"
 |.fz _=>T == "list"
 |.ref k=>match L[k]? with|some (.lst _)=>T == "list" | some (.dk _)=>T == "dict" | some (.dt _ _)=>T == "dict" | _=>false
 |_=>false
def Ul{K:AI}{H:Hp}{O:AMD}{L:AB}{T:String}{v:V}{x:D}(rs:Ai K H O L)(i:Is K H O v x)(h:JT T x L=true):NN K T v H:=by
 unfold JT at h;split at h
 .cases i;exact beq_iff_eq.mp h
 .cases i with|fz hq il=>exact .inl ⟨beq_iff_eq.mp h,_,hq.sql⟩
 .cases i with|ref hk =>
   split at h
   .rename_i e;obtain⟨vs,hv,_⟩:=rs.ob _ _ _ hk e;exact .inl ⟨beq_iff_eq.mp h,_,BI.of hv⟩
   .rename_i e;obtain⟨vs,hv,_⟩:=rs.ob _ _ _ hk e;exact .inr (.inr (.inl ⟨beq_iff_eq.mp h,.inl ⟨_,hv⟩⟩))
   .rename_i e;obtain⟨vs,hv,_⟩:=rs.ob _ _ _ hk e;exact .inr (.inr (.inl ⟨beq_iff_eq.mp h,.inr (.inr ⟨_,_,hv⟩)⟩))
   .cases h
 .cases h
abbrev Bw(T:String)(g:GM)(fo:EF)(fa:AF):EF:=λρ L=>(fo ρ L).bind λx=>if JT T x.1 x.2=true then (fa ρ x.2).bind λy=>g x.1 y.1 y.2 else none
section
variable {X:Cx}{o e:Expr}{es:AME}{fo:EF}{fa:AF}{name:Str}{apos cpos:Pos}{T id:String}{g:GM}
def AJw(pa:PlainAttrs T)(slot:Slot T name id)(hty:typeOf (.builtin id)=pure (.type "method_descriptor"))(hm:MtD X id g)(ho:AO X o fo)
  (hbase:attributeBase o name X.env (eval o X.env)=eval o X.env:=by rfl) (hline:(apos.endLine == cpos.line)=true:=by rfl):AO X (.Call (.Attribute o name apos) [] [] cpos) (Bw T g fo AD) :=
 PE.weaken (ADI pa slot hty hm ho hbase hline) λY H Q z3_=>by
  obtain⟨O,ρ,L,d,L',r,e,k⟩:=z3_;unfold Bw at e;obtain⟨p,e1,e⟩:=bS e;split at e
  .rename_i ht;refine⟨O,ρ,L,p.1,p.2,r,e1,λv H1 O1 st rs is=>⟨Ul rs is ht,O1,p.2,p.1,[],d,L',rs,is,.nil,e,λw H' O' st' rs' is'=>k w H' O' (st.trans st') rs' is'⟩⟩
  .cases e
def AJx(pa:PlainAttrs T)(slot:Slot T name id)(hty:typeOf (.builtin id)=pure (.type "method_descriptor"))(hm:MtD X id g)(ho:AO X o fo)(ha:Da X (e::es) fa)
  (hbase:attributeBase o name X.env (eval o X.env)=eval o X.env:=by rfl)
  (hfew:decide ((e::es).length+([]:List Keyword).length+(if ([]:List Keyword).isEmpty then 0 else 1)<30)=true:=by rfl)
  (hline:(apos.endLine == cpos.line)=true:=by rfl) (hs:Ci e=true:=by rfl) (hplain:es.all Ci=true:=by rfl) :
  AO X (.Call (.Attribute o name apos) (e::es) [] cpos) (Bw T g fo fa) :=
 PE.weaken (ADJ pa slot hty hm ho ha hbase (by rw[Vz (by rw[AKq,hs,hplain];rfl),hfew];rfl) hline (Ef hs) (Gc hplain)) λY H Q z3_=>by
  obtain⟨O,ρ,L,d,L',r,e,k⟩:=z3_;unfold Bw at e;obtain⟨p,e1,e⟩:=bS e;split at e
  .rename_i ht;obtain⟨q,e2,e⟩:=bS e;refine⟨O,ρ,L,p.1,p.2,r,e1,λv H1 O1 st rs is=>⟨Ul rs is ht,O1,ρ,p.2,q.1,q.2,r.to st rs,e2,λvs H2 O2 st2 rs2 is2=>?_⟩⟩;exact⟨O2,q.2,p.1,q.1,d,L',rs2,is.mono st2,is2,e,λw H' O' st' rs' is'=>k w H' O' ((st.trans st2).trans st') rs' is'⟩
  .cases e
abbrev HI(f:Str->Bool):GM:=λx xs L=>match x,xs with|.str z,[]=>some (.bl (f z),L)|_,_=>none
abbrev gS0s(f:Str->Str):GM:=λx xs L=>match x,xs with|.str z,[]=>if (f z).length<=16777216 then some (.str (f z),L) else none|_,_=>none
def Rp{id:String}{f:Str->Bool}(h:∀(z:Str) (t:Tok) (s:Shared) (Q E:AMI),Q (.bool (f z)) s->wpAny (model X.prog X.w) X.A (call (.builtin id) [.str z t]) Q E s):MtD X id (HI f) :=
 λpins s Y H x xs v us Q I rx rs z12_=>by
  obtain⟨O,L,dx,dxs,d,L',rp,ix,ixs,e,k⟩:=z12_;unfold HI at e;split at e
  .cases e;cases ix;cases ixs;cases rs;obtain⟨t,rfl⟩:=rx;exact h _ _ _ _ _ ⟨.bl _,H,I,rfl,k _ _ _ (.refl _ _) rp (.bl _)⟩
  .cases e
def Wd{id:String}{f:Str->Str}(h:∀(z:Str) (t:Tok) (s:Shared) (Q E:AMI),Builtin.Str.tooLong (f z).length=false->Q (.str (f z) s.toks) {s with toks:=s.toks+1}->wpAny (model X.prog X.w) X.A (call (.builtin id) [.str z t]) Q E s):MtD X id (gS0s f) :=
 λpins s Y H x xs v us Q I rx rs z12_=>by
  obtain⟨O,L,dx,dxs,d,L',rp,ix,ixs,e,k⟩:=z12_;unfold gS0s at e;split at e
  .split at e
   .rename_i hz;cases e;cases ix;cases ixs;cases rs;obtain⟨t,rfl⟩:=rx;exact h _ _ _ _ _ (decide_eq_false (by rw[sizeLine_eq];omega)) ⟨.str _,H,I.tok _,⟨_,rfl⟩,k _ _ _ (.refl _ _) rp (.str _ hz)⟩
   .cases e
  .cases e
def AIw:MtD X "str.islower" (HI Txt.islower):=Rp λ_ _ _ _ _ h=>SC.islower h
def AIv:MtD X "str.isupper" (HI Txt.isupper):=Rp λ_ _ _ _ _ h=>SC.isupper h
def AIx:MtD X "str.isdigit" (HI Txt.isdigit):=Rp λ_ _ _ _ _ h=>SC.isdigit h
def AIq:MtD X "str.upper" (gS0s Txt.upper):=Wd λ_ _ _ _ _ hz h=>SC.upper hz h
def AIt:MtD X "str.lower" (gS0s Txt.lower):=Wd λ_ _ _ _ _ hz h=>SC.lower hz h
abbrev CH:List D->Option (AMB)
 |[]=>some []
 |.str x::r=>(CH r).map (x::·)
 |_=>none
def VH{K:AI}{H:Hp}{O:AMD}:∀{vs:List V} {ds:List D} {ys:AMB},AM K H O vs ds->CH ds=some ys->vs=ys.map V.str
 |_,_,_,.nil,e=>by cases e;rfl
 |_,d::ds,ys,.cons a b,e=>by
  cases a <;> simp only[CH] at e <;> try (cases e;done)
  cases q:CH ds with
  |none=>rw[q] at e;cases e
  |some r =>
   rw[q] at e;cases e;rw[VH b q];rfl
def RN:∀{ys:AMB} {us:AMC},AV (ys.map V.str) us->StrsAre us ys
 |[],_,r=>by rw[AK9] at r;cases r;exact .nil
 |y::ys,_,r=>by
  rw[Ah] at r
  cases r with
  |cons r1 r2=>obtain⟨t,rfl⟩:=r1;exact .cons y t (RN r2)
abbrev LV:GM:=λx xs L=>match x,xs with
 |.str sep,[y]=>(match Cd y L with|some ds=>(match CH ds with|some ys=>if (ys.map (·.length)).sum+ys.length*sep.length<=16777216 then some (.str (Txt.join sep ys),L) else none|none=>none)|none=>none)
 |_,_=>none
def join_len(sep:Str)(ys:AMB):(Txt.join sep ys).length<=(ys.map (·.length)).sum+ys.length*sep.length:=by show(Builtin.Str.glued sep ys).length<=_;rw[size_glued];exact Nat.add_le_add_left (AKr _ (Nat.sub_le _ _)) _
def AIu:MtD X "str.join" LV:=λpins s Y H x xs v us Q I rx rs z12_=>by
 obtain⟨O,L,dx,dxs,d,L',rp,ix,ixs,e,k⟩:=z12_;unfold LV at e;split at e
 .split at e
  .rename_i ds hd;split at e
   .rename_i ys hy;split at e
    .rename_i hz;cases e;cases ix
     cases ixs with|cons i1 i2 =>
      cases i2;obtain⟨t,rfl⟩:=rx;obtain⟨u,rfl,ru⟩:=EK rs;obtain⟨a,vs,rfl,hs,il⟩:=JV rp i1 hd;cases ru;have e1:=VH il hy;subst e1;have fin:∀t' k',EP X pins Y Q (.str (Txt.join _ ys) t') {s with toks:=k'}:=λt' k'=>⟨.str _,H,I.tok _,⟨_,rfl⟩,k _ _ _ (.refl _ _) rp (.str _ (Bu (join_len _ _) hz))⟩;rcases hs with hs|hs
      .obtain⟨its,rv,pl,_⟩:=I.list hs;exact join_list pl.isList (by simpa using RN rv) hz fin
      .obtain⟨its,rv,pl,_⟩:=I.tuple hs;exact join_tuple pl (by simpa using RN rv) hz fin
    .cases e
   .cases e
  .cases e
 .cases e
abbrev FF:GM:=λx xs L=>match x,xs with
 |.ref k,[y]=>(match L[k]? with|some (.lst ds)=>if ds.length<16777216 then some (.non,L.set k (.lst (ds++[y]))) else none|_=>none)
 |_,_=>none
def AIz:MtD X "list.append" FF:=Ev.weaken (show Ev X "list.append" Vq from Wa) λv vs H Q z4_=>by
 obtain⟨O,L,dx,dxs,d,L',rp,ix,ixs,e,k⟩:=z4_;unfold FF at e;split at e
 .split at e
  .rename_i ds hd;split at e
   .rename_i hz;cases e
    cases ix with|@ref kk a hk =>
     cases ixs with|@cons v1 y1 _ _ i1 i2 =>
      cases i2;obtain⟨ws,hw,il⟩:=rp.ob _ _ _ hk hd;refine⟨_,ws,_,rfl,rfl,hw,by rw[il.length,sizeLine_eq];exact hz,?_⟩;have st:AY H O (upd H a (.lst (ws++[v1]))) O:=⟨.write hw id,An _⟩;exact k _ _ _ st (rp.write (o':=.lst (ds++[_])) hk ⟨_,Bn,(il.mono st).append (.cons (i1.mono st) .nil)⟩) .non
   .cases e
  .cases e
 .cases e
end
abbrev JS(x:D)(L:AB):Option String:=match x with
 |.non=>some "NoneType" | .bl _=>some "bool" | .int _=>some "int" | .str _=>some "str" | .tup _=>some "tuple" | .fz _=>some "list"
 |.ref k=>(match L[k]? with|some (.lst _)=>some "list" | some (.dk _)=>some "dict" | _=>none)
 |.ty _=>none
abbrev Jh(t T:String):Bool:=t == T || (t == "bool"&&T == "int")
abbrev Hr:GL:=λxs L=>match xs with
 |[x,.ty T]=>if ["int","str","bool","list","tuple","dict"].contains T then (JS x L).map λt=>(.bl (Jh t T),L) else none
 |_=>none
section
variable {X:Cx}
def Hk(K:AI){t T:String}(ht:t∈["NoneType","bool","int","str","tuple","list","dict"])(hT:T∈["int","str","bool","list","tuple","dict"]):AKo K (.type t) (.type T)=some (Jh t T):=by
 simp only[AW,DK,or_false] at ht hT
 rcases ht with rfl|rfl|rfl|rfl|rfl|rfl|rfl <;> rcases hT with rfl|rfl|rfl|rfl|rfl|rfl <;> first|rfl|decide
def AJ6:Ez X (.builtin "isinstance") Hr:=λpins s Y H xs us Q I r z9_=>by
 obtain⟨O,L,ds,d,L',rp,is,e,k⟩:=z9_;unfold Hr at e;split at e
 .rename_i x T;split at e
  .rename_i hT;have hT':T∈["int","str","bool","list","tuple","dict"]:=by simpa using hT
   cases is with|cons i1 i2=>cases i2 with|cons i3 i4 =>
    cases i4;cases i3;obtain⟨u,u2,rfl,r1,r2⟩:=Uh r;cases r2
    cases ht:JS x L with
    |none=>rw[ht] at e;cases e
    |some t =>
     rw[ht] at e;cases e;have fin:∀tk,EP X pins Y Q (.bool (Jh t T)) {s with toks:=tk}:=λtk=>⟨.bl _,H,I.tok _,rfl,k _ _ _ (.refl _ _) rp (.bl _)⟩
     cases i1 with
     |non=>cases ht;exact Jg I r1 .non (Hk _ (by simp) hT') fin
     |bl b=>cases ht;exact Jg I r1 (.bl b) (Hk _ (by simp) hT') fin
     |int b=>cases ht;exact Jg I r1 (.int b) (Hk _ (by simp) hT') fin
     |str b _=>cases ht;exact Jg I r1 (.str b) (Hk _ (by simp) hT') fin
     |tup hq il =>
      cases ht;cases r1;obtain⟨its,rv,pl,_⟩:=I.tuple hq;obtain⟨o,h1,h2,_⟩:=pl;exact FM PySem.W.kitx_tuple I.kIn ⟨o,h1,h2⟩ (Hk _ (by simp) hT') (λz=>nomatch z) fin
     |fz hq il =>
      cases ht;cases r1;obtain⟨its,rv,pl,_⟩:=I.list hq.sql;obtain⟨o,h1,h2,_⟩:=pl.isList;exact FM PySem.W.kitx_list I.kIn ⟨o,h1,h2⟩ (Hk _ (by simp) hT') (λz=>nomatch z) fin
     |ref hk =>
      simp only[JS] at ht;split at ht
      .rename_i e2;cases ht;obtain⟨vs,hv,_⟩:=rp.ob _ _ _ hk e2;exact Jg I r1 (.lst hv) (Hk _ (by simp) hT') fin
      .rename_i e2;cases ht;obtain⟨vs,hv,_⟩:=rp.ob _ _ _ hk e2;exact Jg I r1 (.dK hv) (Hk _ (by simp) hT') fin
      .cases ht
     |ty n=>cases ht
  .cases e
 .cases e
def AJh{x:Str}{T:String}{pos:Pos}(hm:X.mg x=none)(hv:bootBuiltins x=some (.type T))(hg:Gl X x:=by rfl)(hn:x≠"__name__":=by decide)(hd:(x == ("__debug__":Str))=false:=by decide):AO X (.Name x pos) (AC (.ty T)) :=
 Ju (ADK hg hm hv (v:=.ty T) rfl hn hd) λ_ _=>.ty T
def AFy{x:Str}{v:V}{u:Value}{d:D}{pos:Pos}(hm:X.mg x=some u)(r:AX v u)(i:∀H O,Is X.K H O v d)(hg:Gl X x:=by rfl)(hd:(x == ("__debug__":Str))=false:=by decide):AO X (.Name x pos) (AC d):=Ju (ADD hg hm r hd) i
end
abbrev Lh(names fnames:List (Str×NameKind))(N N':AMB)(n:Nat)(idx:AMG):Bool :=
 names.all (λp=>!(p.2 == .cell))&&names.all (λp=>!(p.2 == .local) || names.lookup p.1 == some .local)&&names.all (λp=>!(p.2 == .free) || fnames.lookup p.1 == some .cell || fnames.lookup p.1 == some .free) &&
 N'.length == n+idx.length&&(List.range idx.length).all λj=>match idx[j]? with
  |some i=>(match N'[n+j]?,N[i]? with|some x,some y=>x == y&&names.contains (x,.free)&&names.all (λp=>!(p.1 == x) || p.2 == .free)|_,_=>false)
  |none=>false
def AGJ{X:Cx}{scope:Scope}{N N':AMB}{n:Nat}{idx:AMG}{fnames:List (Str×NameKind)}(h1:scope.kind=.function)(hk:∀x,X.env.kindOf x=fnames.lookup x)(hN:X.N=N)(hc:Lh scope.names fnames N N' n idx=true):Lu X scope N' n idx:=by
 subst hN;unfold Lh at hc;simp only[CA] at hc;obtain⟨⟨⟨⟨c1,c2⟩,c3⟩,c4⟩,c5⟩:=hc;rw[DM] at c1 c2 c3 c5;refine⟨h1,λy hy e=>?_,λy hy e=>?_,λy hy e=>?_,beq_iff_eq.mp c4,λj i e=>?_⟩
 .have:=c1 y hy;rw[e] at this;exact absurd this (by decide)
 .have:=c2 y hy;rw[e] at this;simpa using this
 .have:=c3 y hy;rw[e] at this;rw[hk];simpa using this
 .have hj:=(BA.mp e).1;have:=c5 j (CN.mpr hj);rw[e] at this;simp only at this
  cases q1:N'[n+j]? with
  |none=>simp[q1] at this
  |some x =>
   cases q2:X.N[i]? with
   |none=>simp[q1,q2] at this
   |some y =>
    simp only[q1,q2,CA] at this;obtain⟨⟨a1,a2⟩,a3⟩:=this;have a1':x=y:=beq_iff_eq.mp a1;subst a1';refine⟨x,rfl,rfl,by simpa using a2,λk hk'=>?_⟩;rw[DM] at a3;have:=a3 _ hk';simpa using this
open PySem.W in
def AGj{l:OpenLaw}{n:Nat}{q:Program}{loose:AMB}{XP:(AMA)->Heap->Prop}{YP:World->Heap->Prop}{d:DefRec}
  (hn:l.most=some n) (hdf:d.params.defaults=[])
  (call:∀(w:World) (s₀ s₁:Shared) (mg mb:AMA) (fa:Addr) (a:Addr) (vs:AMC) (ns:AMH),
   Ground q loose [] XP w s₀ mg mb s₁.heap->YP w s₁.heap->mg d.name=some (.ref fa) ->
   s₁.heap.get? a=some {cls:=.type "list",data:=.seq vs.toArray}->IntsAre vs ns->ns.length<=n->(∀z∈ns,Builtin.Int.intBits z<=1048576)->s₁.gens=#[] ->
   codeAny (model l.prog w) callerA (.call (.ref fa) ⟨[.ref a],[]⟩) (λr s'=>r=.ok (.ret (.bool true))/\OldK s₁.heap s'.heap/\s'.os=s₁.os/\AllBare s'.gens) s₁) :
  WalkO q loose XP YP l.row.toRowW d [] (λf vs=>PySem.call f vs):=by
 intro w s₀ s₁ mg mb G Y_ fa o pm cd doc dV kV ho hd hcd hD hmg hg args vals as hpre hlay hrd hwl hlo;obtain rfl:dV=.none:=Dflts.none hD hdf;obtain rfl:kV=.none:=Dflts.noKw hD;obtain⟨a,vs,ns,rfl,rfl,hobj,hints,hlen⟩:=Att.AIJ hn hpre hwl
 have hb:∀z∈ns,Builtin.Int.intBits z<=1048576:=λz hz=>by
  have h1:=layableW_arg hlay _ BC;have h2:=layableW_item h1 (.int z) (Aw.mpr ⟨z,hz,rfl⟩);have h3:=(layableW_iff.mp h2).2.2;simpa only[WData.weight,Builtin.Int.intBits] using h3
 refine enter_call (codeAny_mono (call w s₀ s₁ mg mb fa a vs ns G Y_ hmg hobj hints hlen hb hg) λr s' hq=>?_);obtain⟨rfl,h2,h3,h4⟩:=hq;exact⟨.inl ⟨.bool true,.bool true,[],rfl,λ_=>rfl,.bool true,Att.AIP l _,λ_=>⟨List.Pairwise.nil,λ_ hm=>(nomatch hm)⟩⟩,h2,h3,h4⟩
def XI{K:AI}{H:Hp}{O:AMD}:∀ns:AMH,AM K H O (ns.map V.int) (ns.map D.int)
 |[]=>.nil
 |n::ns=>.cons (.int n) (XI ns)
def walk_f{l:PySem.W.OpenLaw}{n k:Nat}{q:Program}{loose:AMB}{XP:(AMA)->Heap->Prop}{YP:World->Heap->Prop}{d:DefRec}{K:Params->AI}{x:Str}{G:GL}
  (hn:l.most=some n) (hn2:n<=sizeLine) (hdf:d.params.defaults=[]) (hr:Room k callerA)
  (hY:∀(w:World) (h:Heap),YP w h->(K w.params).In h)
  (F:∀(w:World) (mg:AMA) (fa:Addr) (h:Heap),(K w.params).In h->h.Ns mainGlobals mg->mg d.name=some (.ref fa) ->
   ∃fd:FuncData,(∀(s:Shared) (u:Value),BindsTo s fd ⟨[u],[]⟩ [(x,u)]) /\
    ∀base:Heap,(K w.params).In base->base.Ns mainGlobals mg->DH l.prog w (K w.params) mg base CX0 k fa fd [x] (IS (K w.params) G))
  (hG:∀ns:AMH,ns.length<=n->(∀z∈ns,Builtin.Int.intBits z<=1048576)->∃L',G [.fz (ns.map .int)] []=some (.bl true,L')) :
  PySem.W.WalkO q loose XP YP l.row.toRowW d [] (λf vs=>PySem.call f vs):=by
 refine AGj hn hdf λw s₀ s₁ mg mb fa a vs ns GG Y_ hmg hobj hints hlen hb hg=>?_;have KX:=hY w _ Y_;obtain⟨fd,hbd,hF⟩:=F w mg fa _ KX GG.T.g hmg;refine AEW KX GG.T.g GG.T.b GG.T.builtins GG.T.nolimit hg hobj hints (Bu hlen hn2) hr hF hbd (λH hO hS=>?_) λH e s' h=>h;obtain⟨L',e⟩:=hG ns hlen hb
 have hS':SqF (K w.params) H a (ns.map V.int):=by
  rcases hS with(h|h)|h
  .rcases hO a with z|⟨o,xs,z⟩
   .rw[h] at z;cases z
   .rw[h] at z;cases z
  .exact .inl h
  .exact .inr h
 exact⟨[],[],[.fz (ns.map .int)],.bl true,L',⟨rfl,AKh,λk a o e=>by simp at e⟩,.cons (.fz hS' (XI ns)) .nil,e,λw' H' O' st rs is=>by cases is;rfl⟩
section
variable {X:Cx}{a l tg:Expr}{f:EF}{pos:Pos}
abbrev Hq:G1:=λx L=>match x with|.int i=>some (.int (-i),L)|_=>none
def AJn(ha:AO X a f):AO X (.UnaryOp .USub a pos) (As Hq f):=PE.weaken (ACz AAm ha) λY H Q z3_=>by
 obtain⟨O,ρ,L,d,L',r,e,k⟩:=z3_;unfold As at e;obtain⟨p,e1,e⟩:=bS e;obtain⟨x,L1⟩:=p
 cases x <;> simp only[AQ,Hq] at e <;> try (cases e;done)
 cases e;refine⟨O,ρ,L,_,_,r,e1,λv H1 O1 st rs is=>?_⟩;cases is;exact⟨_,rfl,k _ _ _ st rs (.int _)⟩
structure Dn (K:AI) (mg:AMA) (x:Str) (d:D):Prop where
 ex:∃v u,mg x=some u/\AX v u/\∀H O,Is K H O v d
def AJq{x:Str}{d:D}(h:Dn X.K X.mg x d)(hg:Gl X x:=by rfl)(hd:(x == ("__debug__":Str))=false:=by decide):AO X (.Name x pos) (AC d):=by obtain⟨v,u,a,b,c⟩:=h.ex;exact AFy a b c hg hd
abbrev Ic(d:D)(L:AB):Option Lq:=match d with
 |.tup xs=>some ⟨xs,λ_=>true⟩
 |.fz xs=>some ⟨xs,λ_=>true⟩
 |.ref k=>(match L[k]? with|some (.lst xs)=>some ⟨xs,λL'=>decide (L'[k]?=some (.lst xs))⟩|_=>none)
 |.str y=>some ⟨sgs y,λ_=>true⟩
 |_=>none
abbrev BG(f:EF):IF:=λρ L=>(f ρ L).bind λx=>(Ic x.1 x.2).bind λJ=>some (J,x.2)
def WE(hl:AO X l f):Dl X tg l (BG f):=λpins s Y H R I z6_=>by
 obtain⟨O,ρ,L,J,L',r,e,k⟩:=z6_;unfold BG at e;obtain⟨p,e1,e⟩:=bS e;obtain⟨d,L1⟩:=p;simp only[AQ] at e
 cases d <;> simp only[Ic,AQ,Option.bind_none] at e <;> try (cases e;done)
 .exact ACo hl pins s Y H R I ⟨O,ρ,L,J,L',r,by simp only[SM,e1,AQ];exact e,k⟩
 .exact ACn hl pins s Y H R I ⟨O,ρ,L,J,L',r,by simp only[SL,e1,AQ];exact e,k⟩
 .exact WD hl pins s Y H R I ⟨O,ρ,L,J,L',r,by simp only[OI,e1,AQ];exact e,k⟩
 .rename_i kk;refine WD hl pins s Y H R I ⟨O,ρ,L,J,L',r,?_,k⟩;simp only[OI,e1,AQ]
  cases e2:L1[kk]? with
  |none=>rw[e2] at e;cases e
  |some o=>rw[e2] at e;cases o <;> simp at e ⊢ <;> exact e
end
def AKH:bootBuiltins "int"=some (.type "int"):=by decide +kernel
def AKI:bootBuiltins "bool"=some (.type "bool"):=by decide +kernel
def AKF:bootBuiltins "list"=some (.type "list"):=by decide +kernel
def AKB:bootBuiltins "tuple"=some (.type "tuple"):=by decide +kernel
def AKG:bootBuiltins "len"=some (.builtin "len"):=by decide +kernel
def AKL:bootBuiltins "abs"=some (.builtin "abs"):=by decide +kernel
def AKE:bootBuiltins "min"=some (.builtin "min"):=by decide +kernel
def AKK:bootBuiltins "all"=some (.builtin "all"):=by decide +kernel
def Yf:bootBuiltins "isinstance"=some (.builtin "isinstance"):=by decide +kernel
abbrev BlOk(mg:AMA)(ns:AMB):Prop:=∀x∈ns,mg x=none
def BlOk.get{mg:AMA}{ns:AMB}(h:BlOk mg ns)(x:Str)(hx:x∈ns:=by decide):mg x=none:=h x hx
abbrev BB(p:Program)(i:Nat):Stmt:=p.main.body.getD i (.Pass ⟨0,0,0,0⟩)
abbrev Aa(B:SF)(N:AMB)(n:Nat):GL:=λxs L=>if xs.length=n then
  (match B (CU N xs) L with
   |some (.ret d L2)=>some (if d.noRef=true/\L2.take L.length=L then (d,L) else (d,L2))
   |some (.next _ L2)=>some (if L2.take L.length=L then (.non,L) else (.non,L2))
   |_=>none)
 else none
def Nl{L L2:AB}(h:L2.take L.length=L):L <+: L2:=⟨L2.drop L.length,by have:=ALa L.length L2;rw[h] at this;exact this⟩
def Nh{B:SF}{N:AMB}{n:Nat}{xs:List D}{L:AB}{d:D}{L':AB}(h:Aa B N n xs L=some (d,L')):ZC B N xs L d L':=by
 unfold Aa at h;split at h
 .split at h
  .rename_i d2 L2 e;split at h
   .rename_i c;cases h;exact⟨L2,.inl e,.inr ⟨rfl,Nl c.2,c.1⟩⟩
   .cases h;exact⟨_,.inl e,.inl rfl⟩
  .rename_i ρ L2 e;split at h
   .rename_i c;cases h;exact⟨L2,.inr ⟨rfl,ρ,e⟩,.inr ⟨rfl,Nl c,rfl⟩⟩
   .cases h;exact⟨_,.inr ⟨rfl,ρ,e⟩,.inl rfl⟩
  .cases h
 .cases h
def Ni{B:SF}{N:AMB}{n:Nat}{xs:List D}{L:AB}{r:D×AB}(h:Aa B N n xs L=some r):xs.length=n:=by
 unfold Aa at h;split at h
 .assumption
 .cases h
section
variable {P:Program}{w:World}{K:AI}{mg:AMA}{base:Heap}
def La{x qual:Str}{st:Stmt}{f:Addr}{fd:FuncData}{N ps:AMB}{k:Nat}{B:SF}(Fn:Gu K x qual st f fd)(S:Ap N ps (AT st))
  (hb:∀(cdv:Value) (A:Around) (outer:List Env) (s:Shared) (H:Hp) (E:XK),Room k (A.deeper (envOfC qual (AT st) s.heap.objs.size f cdv)) ->
   EB (BV CX0 P w K mg base N qual (AT st) f cdv A outer s H E).nox (Dz st) B)
  (bi:EG K fd ps []) (m:mg x=some (.ref f)) (kp:Ec K (.ref f)=true):Al P w K mg base (k+1) x (Aa B N ps.length) :=
 ⟨f,fd,ps,Sa Fn S _ B (λ_ _ _ h=>Ni h) hb (λ_ _ _ _ h=>Nh h),m,kp,bi⟩
structure TupK (K:AI) (u:Value) (d:D):Prop where
 ex:∃v,AX v u/\∀H O,Is K H O v d
def Gx{i:Int}{t:Tok}:TupK K (.int i t) (.int i):=⟨.int i,⟨t,rfl⟩,λ_ _=>.int i⟩
def De{x:Str}{t:Tok}(h:x.length<=16777216):TupK K (.str x t) (.str x):=⟨.str x,⟨t,rfl⟩,λ_ _=>.str x h⟩
def AAx:TupK K .none .non:=⟨.non,rfl,λ_ _=>.non⟩
inductive TupsK (K:AI):AMC->List D->Prop
 |nil:TupsK K [] []
 |cons {u:Value} {d:D} {us:AMC} {ds:List D}:TupK K u d->TupsK K us ds->TupsK K (u::us) (d::ds)
def TupsK.get:∀{us:AMC} {ds:List D},TupsK K us ds->∃vs,AV vs us/\∀H O,AM K H O vs ds
 |_,_,.nil=>⟨[],.nil,λ_ _=>.nil⟩
 |_,_,.cons a b=>by
  obtain⟨v,r,i⟩:=a.ex;obtain⟨vs,rs,is⟩:=b.get;exact⟨v::vs,.cons r rs,λH O=>.cons (i H O) (is H O)⟩
def GZ{a:Addr}{od:Option Addr}{its:AMC}{n:Nat}{sl:Array (Option Value)}{ds:List D}(l:K.lookup a=some ⟨.type "tuple",od,.seq its.toArray n,sl⟩)(hz:its.length<=sizeLine)(t:TupsK K its ds):TupK K (.ref a) (.tup ds):=by obtain⟨vs,rv,is⟩:=t.get;exact⟨.ref a,rfl,λH O=>.tup (.inr ⟨_,its.toArray,n,l,rfl,rfl,by simpa using hz,by simpa using rv⟩) (is H O)⟩
def Ho{x:Str}{u:Value}{d:D}(m:mg x=some u)(t:TupK K u d):Dn K mg x d:=by obtain⟨v,r,i⟩:=t.ex;exact⟨v,u,m,r,i⟩
end
def Wu{α:Type}{us:List α}(h:us.length=1):∃a,us=[a]:=List.length_eq_one_iff.mp h
def Rv{α:Type}{us:List α}{n:Nat}(h:us.length=n+1):∃a vs,us=a::vs/\vs.length=n:=by
 cases us with
 |nil=>cases h
 |cons a vs=>exact⟨a,vs,rfl,Nat.succ.inj h⟩
def AET{α:Type}{us:List α}(h:us.length=0):us=[]:=ALr.mp h
def Hj{α:Type}{us:List α}(h:us.length=2):∃a b,us=[a,b]:=by obtain⟨a,vs,rfl,h'⟩:=Rv h;obtain⟨b,rfl⟩:=Wu h';exact⟨a,b,rfl⟩
def HC{α:Type}{us:List α}(h:us.length=3):∃a b c,us=[a,b,c]:=by obtain⟨a,vs,rfl,h'⟩:=Rv h;obtain⟨b,c,rfl⟩:=Hj h';exact⟨a,b,c,rfl⟩
def Wt{α:Type}{us:List α}(h:us.length=4):∃a b c d,us=[a,b,c,d]:=by obtain⟨a,vs,rfl,h'⟩:=Rv h;obtain⟨b,c,d,rfl⟩:=HC h';exact⟨a,b,c,d,rfl⟩
abbrev DW(x:D)(L:AB):Option (Bool×List D):=match x with
 |.tup xs=>some (true,xs)
 |.fz xs=>some (false,xs)
 |.ref k=>(match L[k]? with|some (.lst xs)=>some (false,xs)|_=>none)
 |_=>none
abbrev HL:List (Option Bool)->Option Bool
 |[]=>some true
 |none::_=>none
 |some b::r=>(HL r).map (b&&·)
abbrev CP:Nat->AB->D->D->Option Bool
 |0,_,_,_=>none
 |n+1,L,x,y =>
  if BH x=true then (if BH y=true then some (Jr x y) else (DW y L).map λ_=>false)
  else (DW x L).bind λp=>if BH y=true then some false else (DW y L).bind λq =>
   if p.1=q.1 then (HL ((p.2.zip q.2).map λz=>CP n L z.1 z.2)).map (·&&p.2.length == q.2.length) else some false
def YD(n:Nat)(L:AB)(x y:D):CP (n+1) L x y=if BH x=true then (if BH y=true then some (Jr x y) else (DW y L).map λ_=>false)
  else (DW x L).bind λp=>if BH y=true then some false else (DW y L).bind λq =>
   if p.1=q.1 then (HL ((p.2.zip q.2).map λz=>CP n L z.1 z.2)).map (·&&p.2.length == q.2.length) else some false:=rfl
def Sm:∀{os:List (Option Bool)} {b:Bool},HL os=some b->∃bs:List Bool,os=bs.map some/\b=bs.all id
 |[],b,h=>by cases h;exact⟨[],rfl,rfl⟩
 |none::_,b,h=>by cases h
 |some c::r,b,h=>by
  simp only[HL] at h
  cases e:HL r with
  |none=>rw[e] at h;cases h
  |some d =>
   rw[e] at h;cases h;obtain⟨bs,e1,e2⟩:=Sm e;exact⟨c::bs,by rw[e1];rfl,by rw[e2];rfl⟩
section
variable {X:Cx}{pins:List (Addr×Obj)}{Y:L2.St}{H:Hp}{s:Shared}{O:AMD}{L:AB}
def HZ(I:AG X pins Y H s)(rs:Ai X.K H O L){v:V}{x:D}{t:Bool}{xs:List D}(i:Is X.K H O v x)(e:DW x L=some (t,xs)) :
  ∃(a:Addr) (vs:List V) (its:AMC),v=.ref a/\AM X.K H O vs xs/\AV vs its/\(if t=true then s.heap.IsTuple a its.toArray else s.heap.IsList a its.toArray):=by
 cases i with
 |tup h il =>
  cases e;obtain⟨its,r,hp,_⟩:=I.tuple h;exact⟨_,_,its,rfl,il,r,hp⟩
 |fz h il =>
  cases e;obtain⟨its,r,hp,_⟩:=I.list h.sql;exact⟨_,_,its,rfl,il,r,hp.isList⟩
 |ref hk =>
  simp only[DW] at e;split at e
  .rename_i ys e2;cases e;obtain⟨vs,hv,iv⟩:=rs.ob _ _ _ hk e2;obtain⟨its,r,hp,_⟩:=I.list (BI.of hv);exact⟨_,vs,its,rfl,iv,r,hp.isList⟩
  .cases e
 |_=>cases e
def ABy{a:Addr}{us ws:AMC}{t:Bool}(h1:if t=true then s.heap.IsTuple a us.toArray else s.heap.IsList a us.toArray)(h2:if t=true then s.heap.IsTuple a ws.toArray else s.heap.IsList a ws.toArray):us=ws:=by
 have q:us.toArray=ws.toArray:=by
  cases t
  .obtain⟨o,ho,hc,n,hd⟩:=h1;obtain⟨o2,ho2,hc2,n2,hd2⟩:=h2;rw[ho] at ho2;cases ho2;rw[hd] at hd2;cases hd2;rfl
  .obtain⟨o,ho,hc,n,hd⟩:=h1;obtain⟨o2,ho2,hc2,n2,hd2⟩:=h2;rw[ho] at ho2;cases ho2;rw[hd] at hd2;cases hd2;rfl
 simpa using congrArg Array.toList q
def Xz{v:V}{x:D}{a:Addr}(i:Is X.K H O v x)(f:BH x=true):v≠.ref a:=by cases i <;> first|(intro z;cases z;done)|(simp[BH] at f)
def AFm{x:D}(f:BH x=true):Jr x x=true:=by
 cases x with
 |non=>rfl
 |bl b=>exact(beq_self_eq_true b:(b == b)=true)
 |int b=>exact(beq_self_eq_true b:(b == b)=true)
 |str b=>exact(beq_self_eq_true b:(b == b)=true)
 |_=>exact Fp (show false=true from f)
def YE(I:AG X pins Y H s)(rs:Ai X.K H O L):∀(n:Nat) {v:V} {x y:D} {b:Bool},Is X.K H O v x->Is X.K H O v y->CP n L x y=some b->b=true
 |0,_,_,_,_,_,_,e=>by cases e
 |n+1,v,x,y,b,ix,iy,e=>by
  simp only[CP] at e
  by_cases fx:BH x=true
  .rw[if_pos fx] at e
   by_cases fy:BH y=true
   .rw[if_pos fy] at e;cases e;have:x=y:=(Kt fx fy).mp ((El ix fx).symm.trans (El iy fy));subst this;exact AFm fx
   .rw[if_neg fy] at e
    cases hy:DW y L with
    |none=>rw[hy] at e;cases e
    |some q =>
     obtain⟨a,_,_,hv,_⟩:=HZ I rs iy hy;exact absurd hv (Xz ix fx)
  .rw[if_neg fx] at e
   cases hx:DW x L with
   |none=>rw[hx] at e;cases e
   |some p =>
    rw[hx] at e;simp only[AQ] at e;obtain⟨a,vs,its,hv,il,r,hp⟩:=HZ I rs ix hx
    by_cases fy:BH y=true
    .exact absurd hv (Xz iy fy)
    .rw[if_neg fy] at e
     cases hy:DW y L with
     |none=>rw[hy] at e;cases e
     |some q =>
      rw[hy] at e;simp only[AQ] at e;obtain⟨a',vs',its',hv',il',r',hp'⟩:=HZ I rs iy hy;rw[hv] at hv';cases hv';obtain⟨t,xs⟩:=p;obtain⟨t',ys⟩:=q;simp only at e hp hp' il il'
      by_cases ht:t=t'
      .subst ht;rw[if_pos rfl] at e;have hits:=ABy hp hp';subst hits;have hvs:=r.inj r';subst hvs
       cases q:HL ((xs.zip ys).map λz=>CP n L z.1 z.2) with
       |none=>rw[q] at e;cases e
       |some c =>
        rw[q] at e;cases e;obtain⟨bs,e1,rfl⟩:=Sm q;rw[CA];refine⟨?_,beq_iff_eq.mpr (il.length.symm.trans il'.length)⟩;rw[DM];intro c hc;obtain⟨j,hj,rfl⟩:=ALA hc;have e2:((xs.zip ys).map λz=>CP n L z.1 z.2)[j]?=some (some bs[j]):=by rw[e1];simp[hj]
        rw[Av] at e2
        cases e3:(xs.zip ys)[j]? with
        |none=>rw[e3] at e2;cases e2
        |some z =>
         rw[e3] at e2;simp only[ALN,Option.some.injEq] at e2;rw[List.getElem?_zip_eq_some] at e3;obtain⟨v1,h1,i1⟩:=il.get e3.1;obtain⟨v2,h2,i2⟩:=il'.get e3.2;rw[h1] at h2;cases h2;exact YE I rs n i1 i2 e2
      .exfalso
       cases t <;> cases t' <;> first|exact ht rfl|skip
       .exact SeqAt.ne_of_list_tuple hp hp' rfl
       .exact SeqAt.ne_of_list_tuple hp' hp rfl
def Xy{A:Around}{v u:V}{a:Addr}{w w':Value}{its:AMC}{t:Bool}(hu:A.units<cLine)(f:Fa v=true)(rv:AX v w)(hp:if t=true then s.heap.IsTuple a its.toArray else s.heap.IsList a its.toArray) :
  SeqAt.EqAt A s w (.ref a) false/\SeqAt.EqAt A s (.ref a) w false:=by
 cases v with
 |non=>cases rv;cases t;exact⟨.none_list hp hu,.list_none hp hu⟩;exact⟨.none_tuple hp hu,.tuple_none hp hu⟩
 |bl b=>cases rv;cases t;exact⟨.bool_list b hp hu,.list_bool b hp hu⟩;exact⟨.bool_tuple b hp hu,.tuple_bool b hp hu⟩
 |int b=>obtain⟨k,rfl⟩:=rv;cases t;exact⟨.int_list b k hp hu,.list_int b k hp hu⟩;exact⟨.int_tuple b k hp hu,.tuple_int b k hp hu⟩
 |str b=>obtain⟨k,rfl⟩:=rv;cases t;exact⟨.str_list b k hp hu,.list_str b k hp hu⟩;exact⟨.str_tuple b k hp hu,.tuple_str b k hp hu⟩
 |_=>cases f
def Yw(bs:List Bool):(List.range bs.length).all (λj=>bs.getD j false)=bs.all id:=by
 rw[AKm,DM,DM];constructor
 .intro h c hc;obtain⟨j,hj,rfl⟩:=ALA hc;have:=h j (CN.mpr hj);simpa[hj] using this
 .intro h j hj;have hj':=CN.mp hj;have:=h bs[j] (ALZ hj');simpa[hj'] using this
def ADQ{A:Around}{xs ys:List D}{vs ws:List V}{us zs:AMC}{n:Nat}{bs:List Bool}(ix:AM X.K H O vs xs)(iy:AM X.K H O ws ys)(rx:AV vs us)(ry:AV ws zs)
  (e1:(xs.zip ys).map (λz=>CP n L z.1 z.2)=bs.map some)
  (rec:∀{v w:V} {x y:D} {u z:Value} {b:Bool},Is X.K H O v x->Is X.K H O w y->AX v u->AX w z->CP n L x y=some b->SeqAt.EqAt A s u z b) :
  ∀j (h1:j<us.toArray.size) (h2:j<zs.toArray.size),SeqAt.EqAt A s us.toArray[j] zs.toArray[j] (bs.getD j false):=by
 intro j h1 h2;have h1':j<us.length:=by simpa using h1
 have h2':j<zs.length:=by simpa using h2
 have hx:j<xs.length:=by rw[<-ix.length,rx.length];exact h1'
 have hy:j<ys.length:=by rw[<-iy.length,ry.length];exact h2'
 obtain⟨v,hv,iv⟩:=ix.get (i:=j) (d:=xs[j]) (by simp[hx]);obtain⟨w,hw,iw⟩:=iy.get (i:=j) (d:=ys[j]) (by simp[hy]);obtain⟨u,hu,ru⟩:=rx.get hv;obtain⟨z,hz,rz⟩:=ry.get hw
 have eu:us.toArray[j]=u:=by have:=BA.mp hu;obtain⟨_,q⟩:=this;simpa using q
 have ez:zs.toArray[j]=z:=by have:=BA.mp hz;obtain⟨_,q⟩:=this;simpa using q
 rw[eu,ez]
 have hb:j<bs.length:=by have:=congrArg List.length e1;simp at this;omega
 have e2:((xs.zip ys).map λz=>CP n L z.1 z.2)[j]?=some (some bs[j]):=by rw[e1];simp[hb]
 have e3:(xs.zip ys)[j]?=some (xs[j],ys[j]):=by rw[List.getElem?_zip_eq_some];exact⟨by simp[hx],by simp[hy]⟩
 rw[Av,e3] at e2;simp only[ALN,Option.some.injEq] at e2;have e4:bs.getD j false=bs[j]:=by simp[hb]
 rw[e4];exact rec iv iw ru rz e2
def Vd{A:Around}{a c:Addr}{xs ys:List D}{vs ws:List V}{us zs:AMC}{n:Nat}{t b:Bool}(hu:A.units<cLine)(ix:AM X.K H O vs xs)(iy:AM X.K H O ws ys)(rx:AV vs us)(ry:AV ws zs)
  (hp:if t=true then s.heap.IsTuple a us.toArray else s.heap.IsList a us.toArray) (hq:if t=true then s.heap.IsTuple c zs.toArray else s.heap.IsList c zs.toArray)
  (e:(HL ((xs.zip ys).map λz=>CP n L z.1 z.2)).map (·&&xs.length == ys.length)=some b)
  (rec:∀{v w:V} {x y:D} {u z:Value} {b:Bool},Is X.K H O v x->Is X.K H O w y->AX v u->AX w z->CP n L x y=some b->SeqAt.EqAt A.in1 s u z b) :
  SeqAt.RcAt A s (.ref a) (.ref c) b/\SeqAt.RcNeAt A s (.ref a) (.ref c) (!b):=by
 cases q:HL ((xs.zip ys).map λz=>CP n L z.1 z.2) with
 |none=>rw[q] at e;cases e
 |some k =>
  rw[q] at e;cases e;obtain⟨bs,e1,rfl⟩:=Sm q;have he:=ADQ ix iy rx ry e1 rec;have lx:us.toArray.size=xs.length:=by simp[<-rx.length,ix.length]
  have ly:zs.toArray.size=ys.length:=by simp[<-ry.length,iy.length]
  have lb:bs.length=min xs.length ys.length:=by have:=congrArg List.length e1;simpa using this.symm
  cases t
  .by_cases hl:xs.length=ys.length
   .have h1:=SeqAt.RcAt.lists hp hq (by omega) hu he;have h2:=SeqAt.RcNeAt.lists hp hq (by omega) hu he;rw[show us.toArray.size=bs.length by omega,Yw] at h1 h2;have:(xs.length == ys.length)=true:=beq_iff_eq.mpr hl;rw[this];simp only[Bool.and_true];exact⟨h1,h2⟩
   .have:(xs.length == ys.length)=false:=by simpa using hl
    rw[this];simp only[Bool.and_false];have hne:(us.toArray.size != zs.toArray.size)=true:=by rw[lx,ly];simpa using hl
    exact⟨SeqAt.RcAt.lists_lengths hp hq hne hu,SeqAt.RcNeAt.lists_lengths hp hq hne hu⟩
  .have h1:=SeqAt.RcAt.tuples hp hq hu he;have h2:=SeqAt.RcNeAt.tuples hp hq hu he;rw[lx,ly,<-lb,Yw] at h1 h2;exact⟨h1,h2⟩
def Sb(I:AG X pins Y H s)(rs:Ai X.K H O L):∀(n:Nat) {A:Around} {v w:V} {x y:D} {u z:Value} {b:Bool},A.units+n<cLine->Is X.K H O v x->Is X.K H O w y->AX v u->AX w z->CP n L x y=some b->SeqAt.EqAt A s u z b
 |0,_,_,_,_,_,_,_,_,_,_,_,_,_,e=>by cases e
 |n+1,A,v,w,x,y,u,z,b,hu,ix,iy,ru,rz,e=>by
  have e0:=e;simp only[CP] at e
  by_cases fx:BH x=true
  .rw[if_pos fx] at e
   by_cases fy:BH y=true
   .rw[if_pos fy] at e;cases e;have h1:=El ix fx;have h2:=El iy fy;subst h1 h2;exact YF ru rz (Jp fx) (Jp fy)
   .rw[if_neg fy] at e
    cases hy:DW y L with
    |none=>rw[hy] at e;cases e
    |some q =>
     rw[hy] at e;cases e;obtain⟨a,_,its,rfl,_,_,hp⟩:=HZ I rs iy hy;cases rz;have h1:=El ix fx;subst h1;exact(Xy (u:=.non) (w':=.none) (by omega) (Jp fx) ru hp).1
  .rw[if_neg fx] at e;obtain⟨p,hx,e⟩:=bS e;obtain⟨a,vs,its,rfl,il,r,hp⟩:=HZ I rs ix hx;cases ru
   by_cases fy:BH y=true
   .rw[if_pos fy] at e;cases e;have h1:=El iy fy;subst h1;exact(Xy (u:=.non) (w':=.none) (by omega) (Jp fy) rz hp).2
   .rw[if_neg fy] at e;obtain⟨q,hy,e⟩:=bS e;obtain⟨c,ws,zs,rfl,il',r',hp'⟩:=HZ I rs iy hy;cases rz;obtain⟨t,xs⟩:=p;obtain⟨t',ys⟩:=q;simp only at e hp hp' il il'
    by_cases ht:t=t'
    .subst ht;rw[if_pos rfl] at e
     by_cases hac:a=c
     .subst hac;have:=YE I rs (n+1) ix iy e0;subst this;exact .same _
     .refine .of_refs hac (Vd (by omega) il il' r r' hp hp' e λa1 a2 a3 a4 a5=>Sb I rs n ?_ a1 a2 a3 a4 a5).1;rw[Around.in1_units];omega
    .rw[if_neg ht] at e;cases e
     cases t <;> cases t' <;> first|exact absurd rfl ht|skip
     .exact .list_tuple hp hp' (by omega)
     .exact .tuple_list hp hp' (by omega)
end
abbrev JW(x:D)(L:AB):Bool:=(DW x L).isSome
abbrev Jn:G2:=λx y L=>if HA x y=true then some (.bl (decide (x=y)),L) else if (JW x L&&JW y L)=true then (CP 30 L x y).map λb=>(.bl b,L) else none
section
variable {X:Cx}
def VZ{x:D}{L:AB}{p:Bool×List D}(h:DW x L=some p):BH x=false:=by cases x <;> first|rfl|(simp[DW] at h)
def AFl(hu:X.A.units+64<cLine):Ao X (compareOp .Eq) (λv u H Q=>∃O L x y b,Ai X.K H O L/\Is X.K H O v x/\Is X.K H O u y/\JW x L=true/\JW y L=true/\CP 30 L x y=some b/\Q (.bl b) H):=by
 intro pins s Y H v u w z Q I rv ru h;obtain⟨O,L,x,y,b,rs,ix,iy,sx,sy,e,q⟩:=h;unfold JW at sx sy;obtain⟨⟨t,xs⟩,hx⟩:=ALV.mp sx;obtain⟨⟨t',ys⟩,hy⟩:=ALV.mp sy;have fx:=VZ hx;have fy:=VZ hy;rw[show(30:Nat)=29+1 from rfl,YD,if_neg (by rw[fx];exact Cc),hx,AQ,if_neg (by rw[fy];exact Cc),hy,AQ] at e;obtain⟨a,vs,its,rfl,il,r,hp⟩:=HZ I rs ix hx;obtain⟨c,ws,zs,rfl,il',r',hp'⟩:=HZ I rs iy hy;cases rv;cases ru;simp only at e
 by_cases ht:t=t'
 .subst ht;rw[if_pos rfl] at e;exact(Vd (by omega) il il' r r' hp hp' e λa1 a2 a3 a4 a5=>Sb I rs 29 (by rw[Around.in1_units];omega) a1 a2 a3 a4 a5).1 _ _ _ _ ⟨.bl b,H,I,rfl,q⟩
 .rw[if_neg ht] at e;cases e
  cases t <;> cases t' <;> first|exact absurd rfl ht|skip
  .exact SeqAt.RcAt.list_tuple hp hp' (by omega) _ _ _ _ ⟨.bl _,H,I,rfl,q⟩
  .exact SeqAt.RcAt.tuple_list hp hp' (by omega) _ _ _ _ ⟨.bl _,H,I,rfl,q⟩
def ADp(hu:X.A.units+64<cLine):Cm X (compareOp .Eq) Jn:=Ao.weaken (Ao.or WR (AFl hu)) λv u H Q z4_=>by
 obtain⟨O,L,x,y,d,L',rs,ix,iy,e,k⟩:=z4_;unfold Jn at e;split at e
 .rename_i hs;cases e;have hs':=hs;simp only[HA,CA] at hs;have h1:=El ix hs.1.1;have h2:=El iy hs.1.2;subst h1 h2;refine .inl ⟨hs.2,?_⟩;have:=k (.bl (decide (x=y))) _ _ (.refl _ _) rs (.bl _)
  have e:decide (DN x=DN y)=decide (x=y):=by
   by_cases h:x=y
   .rw[decide_eq_true h,decide_eq_true ((Kt hs.1.1 hs.1.2).mpr h)]
   .rw[decide_eq_false h,decide_eq_false (λz=>h ((Kt hs.1.1 hs.1.2).mp z))]
  rw[e];exact this
 .split at e
  .rename_i hq;rw[CA] at hq
   cases q:CP 30 L x y with
   |none=>rw[q] at e;cases e
   |some b =>
    rw[q] at e;cases e;exact .inr ⟨O,L,x,y,b,rs,ix,iy,hq.1,hq.2,q,k _ _ _ (.refl _ _) rs (.bl _)⟩
  .cases e
end
abbrev FW:SF:=λ_ _=>none
def AID{X:Cx}{st:Stmt}:DU X st FW:=PS.weaken ACa λD Y H z3_=>by obtain⟨O,ρ,L,out,r,e,k⟩:=z3_;cases e
def fnd_none{P:Program}{w:World}{K:AI}{mg:AMA}{base:Heap}{k:Nat}{x:Str}{f:Addr}{fd:FuncData}{ps:AMB}(bi:EG K fd ps [])(m:mg x=some (.ref f))(kp:Ec K (.ref f)=true):Al P w K mg base k x (λ_ _=>none) :=
 ⟨f,fd,ps,⟨(λvs H Q E h=>by obtain⟨_,_,_,_,_,_,_,e,_⟩:=h;cases e),(λA outer s H args us vs Q E _ _ _ _ h=>by obtain⟨_,_,_,_,_,_,_,e,_⟩:=h;cases e)⟩,m,kp,bi⟩
abbrev Jk(o i v:D)(L:AB):Option AB:=match o,i with
 |.ref k,.int j=>(match L[k]? with|some (.lst xs)=>(match ixN xs.length j with|some n=>some (L.set k (.lst (xs.set n v)))|none=>none)|_=>none)
 |_,_=>none
abbrev CO(fo fi fv:EF):SF:=λρ L=>(fv ρ L).bind λv=>(fo ρ v.2).bind λo=>(fi ρ o.2).bind λi=>(Jk o.1 i.1 v.1 i.2).bind λL'=>some (.next ρ L')
section
variable {X:Cx}{a b c o i e:Expr}{fa fb fc fo fi fv:EF}{pos:Pos}
def AIC{p2:Pos}(ho:AO X o fo)(hi:AO X i fi)(he:AO X e fv)(hs:swapsWithSole [.Subscript o i p2] e pos.line X.env=pure false:=by rfl)(hw:swappedStores [.Subscript o i p2] e X.env=pure none:=by rfl)
  (h1:(assignEach [.Subscript o i p2] X.env).map (·.2)=[assign (.Subscript o i p2) X.env]:=by rfl)
  (ha:∀v,assign (.Subscript o i p2) X.env v=(do
   let ov <-holding [v] (eval o X.env)
   let iv <-holding [v,ov] (eval i X.env)
   standAt p2
   holding [v,ov,iv] (setItem ov iv v)
   release [v,ov,iv] []):=by intro _;rfl):DU X (.Assign [.Subscript o i p2] e pos) (CO fo fi fv) :=
 PS.weaken (RV he (WG ho hi ABs ha) hs hw h1) λD Y H z3_=>by
  obtain⟨O,ρ,L,out,r,ee,k⟩:=z3_;unfold CO at ee;obtain⟨p,e1,ee⟩:=bS ee;obtain⟨q,e2,ee⟩:=bS ee;obtain⟨w,e3,ee⟩:=bS ee
  cases e4:Jk q.1 w.1 p.1 w.2 with
  |none=>rw[e4] at ee;cases ee
  |some L' =>
   rw[e4] at ee;cases ee;refine⟨O,ρ,L,p.1,p.2,r,e1,λv H1 O1 st1 rs1 is1=>⟨O1,ρ,p.2,q.1,q.2,r.to st1 rs1,e2,λov H2 O2 st2 rs2 is2=>⟨O2,ρ,q.2,w.1,w.2,r.to (st1.trans st2) rs2,e3,λiv H3 O3 st3 rs3 is3=>?_⟩⟩⟩;have isv:=(is1.mono st2).mono st3;have iso:=is2.mono st3;unfold Jk at e4;split at e4
   .rename_i kk jj hk hj;rw[hk] at iso;rw[hj] at is3;cases is3
    cases iso with|@ref _ pa hka =>
     split at e4
     .rename_i xs hx;split at e4
      .rename_i n hn;cases e4;obtain⟨vs,hv,il⟩:=rs3.ob _ _ _ hka hx;refine⟨pa,vs,_,n,rfl,rfl,hv,by rw[il.length];exact hn,?_⟩;have st4:AY H3 O3 (upd H3 pa (.lst (vs.set n v))) O3:=⟨.write hv id,An _⟩;have stA:=((st1.trans st2).trans st3).trans st4;exact k _ _ _ stA ⟨rs3.write (o':=.lst (xs.set n p.1)) hka ⟨_,Bn,(il.mono st4).set (isv.mono st4) n⟩,r.f.mono stA⟩
      .cases e4
     .cases e4
   .cases e4
end
end L3
set_option maxHeartbeats 4000000
namespace HT
open PySem PySem.Spec PyProof.Rows
section
variable {prog:Program}{w:World}{A:Around}{E:AMI}
def YN{it t:Addr}{items:Array Value}(hne:t≠it):∀(n i:Nat) (s:Shared) (Q:AMC->Shared->Prop),s.heap.IsListIter it t i->s.heap.IsList t items->i+n<=items.size ->
  (∀h',Heap.IsListIter h' it t (i+n)->Heap.SameBut it s.heap h'->Q ((items.toList.drop i).take n) {s with heap:=h'})->wpAny (model prog w) A (draw (.ref it) n) Q E s
 |0,i,s,Q,hit,_,_,hQ=>by
  show wpAny _ _ (pure []) Q E s;exact AK (by simpa using hQ s.heap hit (Heap.SameBut.refl ..))
 |n+1,i,s,Q,hit,ht,hle,hQ=>by
  have hlt:i<items.size:=by omega
  show wpAny _ _ (pyNext (.ref it) >>= _) Q E s;refine AE (wpAny_pyNext_list_item hit ht (x:=items[i]) (by simp[hlt]) λh₁ hit₁ hs₁=>?_);refine AE (DJ (YN hne n (i+1) _ _ hit₁ (ht.extBut hs₁.extBut hne) (by omega) λh₂ hit₂ hs₂=>AK ?_));have hd:items.toList.drop i=items[i]::items.toList.drop (i+1):=by simp[ALp,hlt]
  have:=hQ h₂ (by rw[show i+(n+1)=i+1+n by omega];exact hit₂) (hs₁.trans hs₂);rw[hd,List.take_succ_cons] at this;exact this
variable {s:Shared}
def AAl{t:Addr}{items:Array Value}{Q:AMC->Shared->Prop}(hh:A.handled=none)(ht:s.heap.IsList t items)
  (hQ:∀h',Heap.ExtBut s.heap.objs.size s.heap h'->Q items.toList {s with heap:=h'}):wpAny (model prog w) A (unpackItems (.ref t) items.size none) Q E s:=by
 have hlt:t≠s.heap.objs.size:=by obtain⟨o,ho,_⟩:=ht;exact BN (Heap.lt_size ho)
 have htp:∀ob,Heap.IsList (s.heap.push ob) t items:=λob=>let ⟨o,ho,r⟩:=ht;⟨o,Heap.get?_push_of_some _ ho,r⟩;unfold unpackItems;refine AE ?_
 .unfold notIterableAtAll;refine AE (wpAny_specialOf ht.typeIs slot_list_iter.lookup ?_);refine AK ?_;simp only[ALC,if_false];refine AE (DJ (AL0 ht ?_));refine AE (DJ (YN hlt items.size 0 _ _ ⟨_,Heap.get?_push_size _ rfl,rfl,rfl⟩ (htp _) (by omega) λh₁ hit₁ hs₁=>?_))
  have hall:List.take items.size (List.drop 0 items.toList)=items.toList:=by rw[ALM];exact ALO (by simp)
  rw[hall];rw[if_neg (by simp)];have ht₁:Heap.IsList h₁ t items:=(htp _).extBut hs₁.extBut hlt;refine AE (DJ (wpAny_pyNext_list_end hh hit₁ ht₁ (by simp) λh₂ he₂=>?_));simp only[Option.isSome_none,ALC,if_false];refine AK (hQ h₂ λb o hb e=>he₂ b o hb (hs₁.extBut b o hb (Heap.get?_push_of_some _ e)))
def AKU{env:Env}{elts:AME}{x1}{pos:Pos}{t:Addr}{items:Array Value}{Q:Unit->Shared->Prop}(hh:A.handled=none)(ht:s.heap.IsList t items)
  (hn:(assignEach elts env).length=items.size) (hstar:(assignEach elts env).findIdx? (·.1)=none)
  (h:∀h',Heap.ExtBut s.heap.objs.size s.heap h'->wpAny (model prog w) A (assignInOrder ((assignEach elts env).map (·.2)) items.toList) Q E {s with heap:=h'}) :
  wpAny (model prog w) A (assign (.Tuple elts x1 pos) env (.ref t)) Q E s:=by
 rw[assign_Tuple];refine AE (wpAny_standAt ?_);unfold unpack;rw[hn,hstar];exact AE (DJ (AAl hh ht h))
end
end HT
namespace L2
open PySem PySem.Spec PyProof.Rows
section
variable {X:Cx}{pos:Pos}
abbrev AFO(K:AI)(n:Nat)(t:GN):TG:=λv Y H Q=>∃a xs,v=.ref a/\BI K H a xs/\xs.length=n/\t xs Y H Q
def ACy{es:AME}{k:Nat}{t:GN}{n:Nat}(hc:X.calm=true)(h:GP X es t)
  (hn:(assignEach es X.env).length=n:=by rfl) (hst:(assignEach es X.env).findIdx? (·.1)=none:=by rfl):PG X (.Tuple es k pos) (AFO X.K n t):=by
 intro pins s Y H v u Q I r hw;obtain⟨a,xs,e1,hq,hl,hw⟩:=hw;subst e1;cases r;obtain⟨its,rv,ht,hz⟩:=I.list hq;refine HT.AKU (I.ok.hd hc) ht.isList (by simp[hn,<-hl,rv.length]) hst λh' hx=>?_;have I1:AG X pins Y H {s with heap:=h'}:=I.kept (t':=s.toks) λb o e=>hx b o (BN (Heap.lt_size e)) e;exact h pins _ Y H xs _ Q I1 (by simpa using rv) hw
def PG.or{tg:Expr}{t t':TG}(h:PG X tg t)(h':PG X tg t'):PG X tg (λv Y H Q=>t v Y H Q\/t' v Y H Q):=by
 intro pins s Y H v u Q I r q;rcases q with q|q
 .exact h pins s Y H v u Q I r q
 .exact h' pins s Y H v u Q I r q
end
end L2
namespace L3
open PySem PySem.Spec PyProof.Rows L2
abbrev Iu(f:EF)(n:Nat)(gs:EY):SF:=λρ L=>(f ρ L).bind λx=>(Cd x.1 x.2).bind λds=>if ds.length=n then (gs ds ρ).bind λρ'=>some (.next ρ' x.2) else none
def AII{X:Cx}{es:AME}{k n:Nat}{e:Expr}{f:EF}{gs:EY}{pos p2:Pos}(hc:X.calm=true)(he:AO X e f)(hg:KA X es gs)
  (hn:(assignEach es X.env).length=n:=by rfl) (hst:(assignEach es X.env).findIdx? (·.1)=none:=by rfl)
  (hs:swapsWithSole [.Tuple es k p2] e pos.line X.env=pure false:=by rfl) (hw:swappedStores [.Tuple es k p2] e X.env=pure none:=by rfl)
  (h1:(assignEach [.Tuple es k p2] X.env).map (·.2)=[assign (.Tuple es k p2) X.env]:=by rfl):DU X (.Assign [.Tuple es k p2] e pos) (Iu f n gs) :=
 PS.weaken (RV he (PG.or (WF hc hg hn hst) (ACy hc hg hn hst)) hs hw h1) λD Y H z3_=>by
  obtain⟨O,ρ,L,out,r,ee,kk⟩:=z3_;unfold Iu at ee;obtain⟨p,e1,ee⟩:=bS ee;obtain⟨ds,e2,ee⟩:=bS ee;split at ee
  .rename_i hl
   cases e3:gs ds ρ with
   |none=>rw[e3] at ee;cases ee
   |some ρ' =>
    rw[e3] at ee;cases ee;refine⟨O,ρ,L,p.1,p.2,r,e1,λv H1 O1 st1 rs1 is1=>?_⟩;obtain⟨a,vs,rfl,hq,il⟩:=JV rs1 is1 e2;have g:Wq X.K gs vs Y H1 (λY' H'=>D.nx Y' H'):=⟨O1,ρ,p.2,ds,ρ',r.to st1 rs1,il,e3,λY' rp=>kk Y' H1 O1 st1 rp⟩;rcases hq with hq|hq
    .exact .inr ⟨a,vs,rfl,hq,by rw[il.length];exact hl,g⟩
    .exact .inl ⟨a,vs,rfl,hq,by rw[il.length];exact hl,g⟩
  .cases ee
abbrev DP(f:Str)(v:D):List (Str×D)->List (Str×D)
 |[]=>[(f,v)]
 |(g,x)::r=>if g=f then (g,v)::r else (g,x)::DP f v r
section
variable {K:AI}{H:Hp}{O:AMD}
def Rs{f:Str}{d:D}:∀{us:List (Str×V)} {fs:List (Str×D)},us.map (·.1)=fs.map (·.1)->AM K H O (us.map (·.2)) (fs.map (·.2))->fs.lookup f=some d->∃v,us.lookup f=some v/\Is K H O v d
 |[],[],_,_,h=>by cases h
 |[],_::_,h,_,_=>by cases h
 |_::_,[],h,_,_=>by cases h
 |(g,u)::us,(g',x)::fs,hk,hi,hl=>by
  simp only[Ah,List.cons.injEq] at hk;obtain⟨rfl,hk⟩:=hk
  cases hi with
  |cons a b =>
   by_cases e:f=g
   .subst e;simp only[FO,beq_self_eq_true,Option.some.injEq] at hl;subst hl;exact⟨u,by simp[FO],a⟩
   .have hb:(f == g)=false:=beq_eq_false_iff_ne.mpr e;simp only[FO,hb] at hl;obtain⟨v,h1,h2⟩:=Rs hk b hl;exact⟨v,by simp only[FO,hb];exact h1,h2⟩
def RU{f:Str}{v:V}{d:D}(iv:Is K H O v d):∀{us:List (Str×V)} {fs:List (Str×D)},us.map (·.1)=fs.map (·.1)->AM K H O (us.map (·.2)) (fs.map (·.2)) ->
  (L2.CO f v us).map (·.1)=(DP f d fs).map (·.1)/\AM K H O ((L2.CO f v us).map (·.2)) ((DP f d fs).map (·.2))
 |[],[],_,_=>⟨rfl,.cons iv .nil⟩
 |[],_::_,h,_=>by cases h
 |_::_,[],h,_=>by cases h
 |(g,u)::us,(g',x)::fs,hk,hi=>by
  simp only[Ah,List.cons.injEq] at hk;obtain⟨rfl,hk⟩:=hk
  cases hi with
  |cons a b =>
   obtain⟨h1,h2⟩:=RU iv hk b;unfold L2.CO DP
   by_cases e:g=f
   .rw[if_pos e,if_pos e];exact⟨by simp[hk],.cons iv b⟩
   .rw[if_neg e,if_neg e];exact⟨by simp[h1],.cons a h2⟩
end
structure Bk (K:AI) (c f:Str):Prop where
 ok:∀C,DI K c C->Cls K C/\IE K C f
abbrev BE(cs:AMB)(f:Str):G1:=λx L=>match x with
 |.ref k=>(match L[k]? with|some (.ins c fs)=>if c∈cs then (fs.lookup f).bind λd=>some (d,L) else none|_=>none)
 |_=>none
section
variable {X:Cx}{o e:Expr}{fo fe:EF}{f:Str}{cs:AMB}{pos pos':Pos}
def Js(he:AO X o fo)(hc:∀c∈cs,Bk X.K c f)(hb:attributeBase o f X.env (eval o X.env)=eval o X.env:=by rfl):AO X (.Attribute o f pos) (As (BE cs f) fo) :=
 PE.weaken (ADE he hb) λY H Q z3_=>by
  obtain⟨O,ρ,L,d,L',r,e,k⟩:=z3_;unfold As at e;obtain⟨p,e1,e⟩:=bS e;obtain⟨x,L1⟩:=p;simp only[AQ,BE] at e;refine⟨O,ρ,L,x,L1,r,e1,λv H1 O1 st rs is=>?_⟩
  cases is <;> try (cases e;done)
  rename_i kk a hk;simp only at e
  cases e2:L1[kk]? with
  |none=>rw[e2] at e;cases e
  |some ob =>
   rw[e2] at e
   cases ob with
   |lst _=>cases e
   |dk _=>cases e
   |dt _ _=>cases e
   |exn _=>cases e
   |ins c fs =>
    simp only at e;split at e
    .rename_i hcm;obtain⟨C,dx,us,hC,hH,hk1,hi⟩:=rs.ob _ _ _ hk e2;obtain⟨d0,e3,e⟩:=bS e;cases e;obtain⟨v',hv',iv⟩:=Rs hk1 hi e3;obtain⟨h1,h2⟩:=(hc c hcm).ok C hC;exact⟨a,C,dx,us,v',rfl,hH,h1,h2,hv',k _ _ _ st rs iv⟩
    .cases e
abbrev LA(cs:AMB)(f:Str)(x v:D)(L:AB):Option AB:=match x with
 |.ref k=>(match L[k]? with|some (.ins c fs)=>if c∈cs/\fs.length<1000 then some (L.set k (.ins c (DP f v fs))) else none|_=>none)
 |_=>none
abbrev Dr(cs:AMB)(f:Str)(fo fv:EF):SF:=λρ L=>(fv ρ L).bind λv=>(fo ρ v.2).bind λx=>(LA cs f x.1 v.1 x.2).bind λL'=>some (.next ρ L')
def AIB(ho:AO X o fo)(he:AO X e fe)(hc:∀c∈cs,Bk X.K c f)(hs:swapsWith e (some (.Attribute o f pos')) pos.line X.env=pure false:=by rfl):DU X (.Assign [.Attribute o f pos'] e pos) (Dr cs f fo fe) :=
 PS.weaken (ACd ho he hs) λD Y H z3_=>by
  obtain⟨O,ρ,L,out,r,e,k⟩:=z3_;unfold Dr at e
  cases e1:fe ρ L with
  |none=>rw[e1] at e;cases e
  |some p =>
   rw[e1] at e;simp only[AQ] at e
   cases e2:fo ρ p.2 with
   |none=>rw[e2] at e;cases e
   |some q =>
    rw[e2] at e;simp only[AQ] at e;obtain⟨x,L2⟩:=q;refine⟨O,ρ,L,p.1,p.2,r,e1,λy H1 O1 st1 rs1 is1=>?_⟩;refine⟨O1,ρ,p.2,x,L2,r.to st1 rs1,e2,λv H2 O2 st2 rs2 is2=>?_⟩
    cases is2 <;> try (cases e;done)
    rename_i kk a hk;simp only[LA] at e
    cases e3:L2[kk]? with
    |none=>rw[e3] at e;cases e
    |some ob =>
     rw[e3] at e
     cases ob with
     |lst _=>cases e
     |dk _=>cases e
     |dt _ _=>cases e
     |exn _=>cases e
     |ins c fs =>
      simp only at e;split at e
      .rename_i hcm;simp only[AQ] at e;cases e;obtain⟨C,dx,us,hC,hH,hk1,hi⟩:=rs2.ob _ _ _ hk e3;obtain⟨h1,h2⟩:=(hc c hcm.1).ok C hC
       have hlen:us.length<1000:=by have:=congrArg List.length hk1;simp at this;rw[this];exact hcm.2
       refine⟨a,C,dx,us,rfl,hH,h1,h2,hlen,?_⟩;have st3:AY H2 O2 (upd H2 a (.ins C dx (_root_.L2.CO f y us))) O2:=⟨.write hH id,An _⟩;obtain⟨g1,g2⟩:=RU ((is1.mono st2).mono st3) hk1 (hi.mono st3);exact k Y _ O2 ((st1.trans st2).trans st3) (r.to ((st1.trans st2).trans st3) (rs2.write hk ⟨C,dx,_,hC,Bn,g1,g2⟩))
      .cases e
abbrev Lk(cs:AMB)(f:Str)(g:Int->Int->Int)(fo fv:EF):SF:=λρ L=>(fo ρ L).bind λx=>match x.1 with
 |.ref k=>(match x.2[k]? with
  |some (.ins c fs)=>if c∈cs then (match fs.lookup f with
   |some (.int i)=>(fv ρ x.2).bind λy=>(match y.1 with
    |.int j=>(match y.2[k]? with
     |some (.ins c' fs')=>if c'=c/\fs'.length<1000 then some (.next ρ (y.2.set k (.ins c (DP f (.int (g i j)) fs')))) else none
     |_=>none)
    |_=>none)
   |_=>none) else none
  |_=>none)
 |_=>none
def AIH{op:Operator}{g:Int->Int->Int}(ho:AO X o fo)(he:AO X e fe)(hc:∀c∈cs,Bk X.K c f)(hop:Os X op λx y H Q=>∃i j,x=.int i/\y=.int j/\Q (.int (g i j)) H):DU X (.AugAssign (.Attribute o f pos') op e pos) (Lk cs f g fo fe) :=
 PS.weaken (ACc ho he hop) λD Y H z3_=>by
  obtain⟨O,ρ,L,out,r,e,k⟩:=z3_;unfold Lk at e
  cases e1:fo ρ L with
  |none=>rw[e1] at e;cases e
  |some p =>
   rw[e1] at e;obtain⟨x,L1⟩:=p;simp only[AQ] at e;refine⟨O,ρ,L,x,L1,r,e1,λv H1 O1 st rs is=>?_⟩
   cases is <;> try (cases e;done)
   rename_i kk a hk;simp only at e
   cases e2:L1[kk]? with
   |none=>rw[e2] at e;cases e
   |some ob =>
    rw[e2] at e
    cases ob with
    |lst _=>cases e
    |dk _=>cases e
    |dt _ _=>cases e
    |exn _=>cases e
    |ins c fs =>
     simp only at e;split at e
     .rename_i hcm;obtain⟨C,dx,us,hC,hH,hk1,hi⟩:=rs.ob _ _ _ hk e2
      cases e3:fs.lookup f with
      |none=>rw[e3] at e;cases e
      |some d0 =>
       rw[e3] at e
       cases d0 <;> try (cases e;done)
       rename_i i;simp only at e;obtain⟨v',hv',iv⟩:=Rs hk1 hi e3;obtain⟨h1,h2⟩:=(hc c hcm).ok C hC;refine⟨a,C,dx,us,v',rfl,hH,h1,h2,hv',?_⟩
       cases e4:fe ρ L1 with
       |none=>rw[e4] at e;cases e
       |some q =>
        rw[e4] at e;obtain⟨y,L2⟩:=q;simp only[AQ] at e;refine⟨O1,ρ,L1,y,L2,r.to st rs,e4,λw H2 O2 st2 rs2 is2=>?_⟩
        cases y <;> try (cases e;done)
        rename_i j;cases iv;cases is2;refine⟨i,j,rfl,rfl,?_⟩;simp only at e
        cases e5:L2[kk]? with
        |none=>rw[e5] at e;cases e
        |some ob =>
         rw[e5] at e
         cases ob with
         |lst _=>cases e
         |dk _=>cases e
         |dt _ _=>cases e
         |exn _=>cases e
         |ins c' fs' =>
          simp only at e;split at e
          .rename_i hcm';cases e;obtain⟨rfl,hl⟩:=hcm';have hk':=Ch st2.2 hk;obtain⟨C',dx',us',hC',hH',hk1',hi'⟩:=rs2.ob _ _ _ hk' e5
           have hCC:C'=C:=by unfold DI at hC hC';rw[hC] at hC';cases hC';rfl
           subst hCC
           have hlen:us'.length<1000:=by have:=congrArg List.length hk1';simp at this;rw[this];exact hl
           refine⟨dx',us',hH',hlen,?_⟩;have st3:AY H2 O2 (upd H2 a (.ins C' dx' (_root_.L2.CO f (.int (g i j)) us'))) O2:=⟨.write hH' id,An _⟩;obtain⟨g1,g2⟩:=RU (Is.int (g i j)) hk1' (hi'.mono st3);exact k Y _ O2 ((st.trans st2).trans st3) (r.to ((st.trans st2).trans st3) (rs2.write hk' ⟨C',dx',_,hC',Bn,g1,g2⟩))
          .cases e
     .cases e
def AI4:Os X .Add λx y H Q=>∃i j,x=.int i/\y=.int j/\Q (.int (i+j)) H:=AEt
abbrev augN(i:Nat)(g:Int->Int->Int)(fe:EF):SF:=λρ L=>match ρ[i]? with
 |some (some (.int a))=>(fe ρ L).bind λy=>(match y.1 with|.int b=>some (.next (ρ.set i (some (.int (g a b)))) y.2)|_=>none)
 |_=>none
def RQ{i:Nat}{x:Str}{op:Operator}{g:Int->Int->Int}(hN:X.N.Nodup)(he:AO X e fe)(ho:Sx X op (XQ g))(hi:X.N[i]?=some x:=by rfl)(hx:Gs X.env.scope x:=by first|exact Or.inl rfl|exact Or.inr rfl)
  (hf:X.fn x=true\/X.env.scope.names.lookup x=some .local:=by first|exact .inl rfl|exact .inr rfl):DU X (.AugAssign (.Name x pos') op e pos) (augN i g fe) :=
 PS.weaken (ACf hN hi hx he ho hf) λD Y H z3_=>by
  obtain⟨O,ρ,L,out,r,e,k⟩:=z3_;unfold augN at e;split at e
  .rename_i a ha;obtain⟨v,hv,iv⟩:=r.f.at' i _ ha;cases iv;refine⟨_,hv,?_⟩;obtain⟨p,e1,e⟩:=bS e;obtain⟨y,L1⟩:=p;simp only[AQ] at e;refine⟨O,ρ,L,y,L1,r,e1,λv H1 O1 st rs is=>?_⟩
   cases y <;> try (cases e;done)
   cases e;cases is;exact⟨_,_,rfl,rfl,k _ _ _ st ⟨rs,(r.f.mono st).set (.int _) i⟩⟩
  .cases e
end
structure TJ (P:Program) (w:World) (K:AI) (mg:AMA) (base:Heap) (k:Nat) (c m:Str) (G:GL):Prop where
 ex:∃C f fd ps,DH P w K mg base CX0 k f fd ps (IS K G)/\DI K c C/\Cls K C/\AG4 K C m f/\EG K fd ps []
structure EE (P:Program) (w:World) (K:AI) (mg:AMA) (base:Heap) (k:Nat) (c:Str) (G:GL):Prop where
 ex:∃C f fd ps j,DH P w K mg base CX0 j f fd ps (IS K G)/\j+1<=k/\mg c=some (.ref C)/\DI K c C/\Mk K C f/\EG K fd ps []
def TJ.mono{P:Program}{w:World}{K:AI}{mg:AMA}{base:Heap}{j k:Nat}{c m:Str}{G:GL}(F:TJ P w K mg base j c m G)(h:j<=k):TJ P w K mg base k c m G:=by obtain⟨C,f,fd,ps,a,b⟩:=F.ex;exact⟨C,f,fd,ps,a.mono h,b⟩
def EE.mono{P:Program}{w:World}{K:AI}{mg:AMA}{base:Heap}{j k:Nat}{c:Str}{G:GL}(F:EE P w K mg base j c G)(h:j<=k):EE P w K mg base k c G:=by obtain⟨C,f,fd,ps,i,a,b,c⟩:=F.ex;exact⟨C,f,fd,ps,i,a,by omega,c⟩
abbrev Fu(c:Str)(G:GL)(a:AF):EF:=λρ L=>(a ρ L).bind λy=>(G (.ref y.2.length::y.1) (y.2++[.ins c []])).bind λz=>match z.1 with
 |.non=>some (.ref y.2.length,z.2)
 |_=>none
section
variable {X:Cx}{k:Nat}{c m x:Str}{G:GL}{p pos apos:Pos}{o e:Expr}{es:AME}{fo:EF}{f:AF}
def AD7{C:Addr}(hC:DI X.K c C){t:TA}(ht:∀Y H Q,Ru X.K f Y H Q->t Y H Q){Y:L2.St}{H:Hp}{Q:VK}(h:Hi X.K (Fu c G f) Y H Q):Uv C (IS X.K G) [] E0 t Y H Q:=by
 obtain⟨O,ρ,L,d,L',r,e,k⟩:=h;unfold Fu at e;obtain⟨p,e1,e⟩:=bS e;obtain⟨ys,L1⟩:=p;simp only[AQ] at e;obtain⟨z,e2,e⟩:=bS e;obtain⟨zd,L2⟩:=z
 cases zd <;> simp only[AQ] at e <;> try (cases e;done)
 cases e;refine ht _ _ _ ⟨O,ρ,L,ys,L1,r,e1,λvs H1 O1 st rs is x dx hx hdx hne=>?_⟩;show rC X.K G (V.ref x::(vs++[])) _ _;rw[FR];have s1:AY H1 O1 (upd H1 dx (.own x)) O1:=⟨.new hdx,An _⟩;have rs1:Ai X.K (upd H1 dx (.own x)) O1 L1:=rs.ext λa u e=>by rw[Ax (CW e hdx)];exact e
 have hx1:upd H1 dx (.own x) x=none:=by rw[Ax (Ne.symm hne)];exact hx
 have s2:AY (upd H1 dx (.own x)) O1 (upd (upd H1 dx (.own x)) x (.ins C dx [])) (O1++[x]):=⟨.new hx1,Aj _ _⟩;have rs2:Ai X.K (upd (upd H1 dx (.own x)) x (.ins C dx [])) (O1++[x]) (L1++[.ins c []]):=rs1.new hx1 ⟨C,dx,[],hC,Bn,rfl,.nil⟩;have hk:(O1++[x])[L1.length]?=some x:=by rw[<-rs.len];simp
 refine⟨O1++[x],L1++[.ins c []],_,.non,_,rs2,.cons (.ref hk) (is.mono (s1.trans s2)),e2,λw H' O' st' rs' is'=>?_⟩;cases is';exact⟨rfl,k _ H' O' ((st.trans (s1.trans s2)).trans st') rs' (.ref (Ch st'.2 hk))⟩
def AJo(F:EE X.prog X.w X.K X.mg X.base k c G)(hr:Room k X.A)(ha:Da X (e::es) f)(hg:Gl X c:=by rfl)(hdb:(c == ("__debug__":Str))=false:=by decide)
  (he:Ci e=true:=by rfl) (hpl:es.all Ci=true:=by rfl):AO X (.Call (.Name c p) (e::es) [] pos) (Fu c G f):=by
 obtain⟨C,fa,fd,ps,j,a,hj,hm,hC,hM,bi⟩:=F.ex;exact PE.weaken (AC7 (E:=E0) hM a (hr.mono hj) hg hm bi .nil Rf ha hdb (Ef he) (Gc hpl)) λY H Q h=>AD7 hC (λ_ _ _ h=>h) h
end
def Jo{K:AI}{f:Str}:∀c∈([]:AMB),Bk K c f:=λ_ h=>by cases h
def Hu{K:AI}{f c:Str}{cs:AMB}(a:Bk K c f)(b:∀c∈cs,Bk K c f):∀x∈c::cs,Bk K x f:=λx h=>by
 rcases AW.mp h with rfl|h
 .exact a
 .exact b x h
def FG{K:AI}{c f:Str}{C:Addr}(hC:DI K c C)(cl:Cls K C)(n:Be K (.ref C) f=some none):Bk K c f:=⟨λC' h=>by
 have:C'=C:=by unfold DI at hC h;rw[hC] at h;cases h;rfl
 subst this
 exact⟨cl,n⟩⟩
section
variable {P:Program}{w:World}{K:AI}{mg:AMA}{base:Heap}
def OR{x qual c:Str}{C:Addr}{st:Stmt}{f:Addr}{fd:FuncData}{N ps:AMB}{k:Nat}{B:SF}(Fn:Gu K x qual st f fd)(S:Ap N ps (AT st))
  (hb:∀(cdv:Value) (A:Around) (outer:List Env) (s:Shared) (H:Hp) (E:XK),Room k (A.deeper (envOfC qual (AT st) s.heap.objs.size f cdv)) ->
   EB (BV CX0 P w K mg base N qual (AT st) f cdv A outer s H E).nox (Dz st) B)
  (bi:EG K fd ps []) (mc:mg c=some (.ref C)) (hC:DI K c C) (M:Mk K C f):EE P w K mg base (k+2) c (Aa B N ps.length) :=
 ⟨C,f,fd,ps,k+1,Sa Fn S _ B (λ_ _ _ h=>Ni h) hb (λ_ _ _ _ h=>Nh h),Ac _,mc,hC,M,bi⟩
end
abbrev OH(p:Program)(i j:Nat):Stmt:=match BB p i with
 |.ClassDef _ _ _ body _ _ _ _ _ _ _=>body.getD j (.Pass ⟨0,0,0,0⟩)
 |s=>s
def XR:∀{ns:AMH} {its:AMC},AV (ns.map V.int) its->∃xs:List (Int×Tok),its=xs.map (λp=>Value.int p.1 p.2)/\xs.map (·.1)=ns
 |[],_,h=>by cases h;exact⟨[],rfl,rfl⟩
 |n::ns,_,h=>by
  cases h with
  |cons a b =>
   obtain⟨t,rfl⟩:=(show ∃t,_=Value.int n t from a);obtain⟨xs,rfl,e⟩:=XR b;exact⟨(n,t)::xs,rfl,by simp[e]⟩
abbrev Du:List D->Option (AMH)
 |[]=>some []
 |.int b::r=>(Du r).map (b::·)
 |_=>none
def XU{K:AI}{H:Hp}{O:AMD}:∀{vs:List V} {ds:List D} {bs:AMH},AM K H O vs ds->Du ds=some bs->vs=bs.map V.int
 |_,_,_,.nil,e=>by cases e;rfl
 |_,d::ds,bs,.cons a b,e=>by
  cases a <;> simp only[Du] at e <;> try (cases e;done)
  cases q:Du ds with
  |none=>rw[q] at e;cases e
  |some r =>
   rw[q] at e;cases e;rw[XU b q];rfl
def AEs(ns:AMH):Du (ns.map D.int)=some ns:=by
 induction ns with
 |nil=>rfl
 |cons y r ih=>simp[Du,ih]
section
variable {X:Cx}
def AGP(hc:X.calm=true):CD X (.builtin "sum") (λxs H Q=>∃(p:Addr) (ns:AMH),xs=[.ref p]/\BI X.K H p (ns.map V.int)/\Q (.int ns.sum) H):=by
 intro pins s Y H xs us Q I r h;obtain⟨p,ns,rfl,hq,q⟩:=h;obtain⟨u,rfl,rx⟩:=EK r;cases rx;obtain⟨its,rv,pl,hz⟩:=I.list hq;obtain⟨ps,rfl,rfl⟩:=XR rv
 have hl:s.heap.IsList p (intItems ps.toArray):=by
  have:=pl.isList;have e:(ps.map (λp=>Value.int p.1 p.2)).toArray=intItems ps.toArray:=by simp[intItems]
  rw[<-e];exact this
 refine PySem.sum_intListG (I.ok.hd hc) hl λh' tk t' hk=>⟨.int (ps.map (·.1)).sum,H,I.kept hk,⟨t',?_⟩,q⟩;rw[preSum_eq,ALO (by simp)]
def AGU(hc:X.calm=true):CD X (.builtin "any") (λxs H Q=>∃(p:Addr) (bs:List Bool),xs=[.ref p]/\BI X.K H p (bs.map V.bl)/\Q (.bl (bs.any id)) H):=by
 intro pins s Y H xs us Q I r h;obtain⟨p,bs,rfl,hq,q⟩:=h;obtain⟨u,rfl,rx⟩:=EK r;cases rx;obtain⟨its,rv,pl,hz⟩:=I.list hq;have hI:∀b o,s.heap.get? b=some o->b≠s.heap.objs.size:=λb o e=>BN (Heap.lt_size e);obtain⟨ol,hol,hcl,nl,hdl⟩:=pl.isList;have hbs:bs.length=its.length:=by have:=rv.length;simpa using this
 refine call_any_walk (AL0 pl.isList ⟨s.heap.objs.size,_,_,_,_,_,λi=>(bs[i]?).getD true,rfl,
  Walks.list (A:=X.A.in1) (show X.A.in1.handled=none from I.ok.hd hc) s.heap.objs.size p (hI p ol hol) its.toArray,⟨⟨_,Heap.get?_push_size _ rfl,rfl,rfl⟩,⟨ol,Heap.get?_push_of_some _ hol,hcl,nl,hdl⟩⟩,?_,?_⟩)
 .intro i v s' Q' E' hv hQ;have hv':its[i]?=some v:=by simpa using hv
  have hi:i<its.length:=(BA.mp hv').1;have hb:bs[i]?=some bs[i]:=by simp[hbs,hi]
  obtain⟨w',hw,rw'⟩:=rv.get (i:=i) (x:=.bl bs[i]) (by simp[hbs,hi]);rw[hv'] at hw;cases hw;cases rw';dsimp only at hQ;rw[hb] at hQ;exact ALy hQ
 .intro h' tk kk;have I1:AG X pins Y H {s with heap:=h',toks:=tk}:=I.kept λb o e=>kk b o (by simpa using hI b o e) (Heap.get?_push_of_some _ e);refine⟨.bl (bs.any id),H,I1,?_,q⟩;show Value.bool _=Value.bool _
  congr 1
  rw[Bi,<-hbs];rw[AKm,ALD,ALD];constructor
  .rintro⟨i,hi,h⟩;have hi':=CN.mp hi;refine⟨bs[i],ALZ hi',?_⟩;simpa[hi'] using h
  .rintro⟨b,hb,h⟩;obtain⟨i,hi,rfl⟩:=ALA hb;exact⟨i,CN.mpr hi,by simpa[hi] using h⟩
abbrev Ja(xs:List D)(L:AB):Option (List D):=match xs with
 |[.ref k]=>(match L[k]? with|some (.lst ds)=>some ds|_=>none)
 |_=>none
abbrev LQ:GL:=λxs L=>(Ja xs L).bind λds=>(Du ds).bind λns=>some (.int ns.sum,L)
abbrev LX:GL:=λxs L=>(Ja xs L).bind λds=>(blsD ds).bind λbs=>some (.bl (bs.any id),L)
def Wl{K:AI}{H:Hp}{O:AMD}{L:AB}{vs:List V}{xs ds:List D}(rs:Ai K H O L)(is:AM K H O vs xs)(e:Ja xs L=some ds):∃(p:Addr) (us:List V),vs=[.ref p]/\BI K H p us/\AM K H O us ds:=by
 unfold Ja at e;split at e
 .split at e
  .rename_i ds' hd;cases e
   cases is with|cons i1 i2 =>
    cases i2
    cases i1 with|ref hk =>
     obtain⟨us,hv,il⟩:=rs.ob _ _ _ hk hd;exact⟨_,us,rfl,BI.of hv,il⟩
  .cases e
 .cases e
def Oe{α β:Type}{o:Option α}{f:α->Option β}{b:β}(h:o.bind f=some b):∃a,o=some a/\f a=some b:=FA.mp h
def AJ0(hc:X.calm=true):Ez X (.builtin "sum") LQ:=CD.weaken (AGP hc) λvs H Q z3_=>by
 obtain⟨O,L,xs,d,L',rs,is,e,k⟩:=z3_;obtain⟨ds,e1,e⟩:=Oe e;obtain⟨ns,e2,e⟩:=Oe e;cases e;obtain⟨p,us,rfl,hq,il⟩:=Wl rs is e1;rw[XU il e2] at hq;exact⟨p,ns,rfl,hq,k _ _ _ (.refl _ _) rs (.int _)⟩
def AJ7(hc:X.calm=true):Ez X (.builtin "any") LX:=CD.weaken (AGU hc) λvs H Q z3_=>by
 obtain⟨O,L,xs,d,L',rs,is,e,k⟩:=z3_;obtain⟨ds,e1,e⟩:=Oe e;obtain⟨bs,e2,e⟩:=Oe e;cases e;obtain⟨p,us,rfl,hq,il⟩:=Wl rs is e1;rw[Sg il e2] at hq;exact⟨p,bs,rfl,hq,k _ _ _ (.refl _ _) rs (.bl _)⟩
end
def AKC:bootBuiltins "sum"=some (.builtin "sum"):=by decide +kernel
def AKJ:bootBuiltins "any"=some (.builtin "any"):=by decide +kernel
section
variable {L:AB}{Q:AMo}{k:Nat}{ds:List D}
def Wk(e:L[k]?=some (.lst ds)):Ja [.ref k] L=some ds:=by simp[Ja,e]
end
end L3
set_option maxHeartbeats 4000000
namespace L3
open PySem PySem.Spec PyProof.Rows L2 Builtin Builtin.Str
inductive EntsK (K:AI):List DictEntry->List (Str×D)->Prop
 |nil:EntsK K [] []
 |cons {h:Int} {x:Str} {t:Tok} {u:Value} {d:D} {es:List DictEntry} {ds:List (Str×D)}:TupK K u d->EntsK K es ds->EntsK K (⟨h,.str x t,u⟩::es) ((x,d)::ds)
def EntsK.at{K:AI}(z:Str):∀{es:List DictEntry} {ds:List (Str×D)},EntsK K es ds->TupK K ((findBy Value.isStrOf es.toArray z).getD .none) ((ds.lookup z).getD .non)
 |_,_,.nil=>AAx
 |_,_,.cons (x:=x) (t:=t) (u:=u) (d:=d) (es:=es) (ds:=ds) a b=>by
  have ih:=EntsK.at z b;unfold findBy at ih ⊢;rw[List.find?_toArray] at ih ⊢;rw[FB]
  by_cases h:z=x
  .subst h;have e1:Value.isStrOf z (.str z t)=true:=by simp[Value.isStrOf]
   simp only[e1,FO,beq_self_eq_true];exact a
  .have e1:Value.isStrOf z (.str x t)=false:=by
    have:¬x=z:=λq=>h q.symm;simp[Value.isStrOf,this]
   have e2:(z == x)=false:=beq_eq_false_iff_ne.mpr h;simp only[e1,FO,e2];exact ih
def WU{P:Program}{w:World}{H:Hp}{h:Heap}{a:Addr}{o:HO}(x:Bx P w H h a o):∃u,h.get? a=some u:=by
 cases o with
 |lst xs=>obtain⟨_,_,_,_,e⟩:=x;exact⟨_,e⟩
 |tup xs=>obtain⟨_,_,_,o,e,_⟩:=x;exact⟨_,e⟩
 |dK kvs=>obtain⟨_,_,_,_,o,_,_,e,_⟩:=x;exact⟨_,e⟩
 |dT kvs=>obtain⟨_,_,_,_,o,_,_,e,_⟩:=x;exact⟨_,e⟩
 |dN kvs ep=>obtain⟨_,_,_,_,o,_,e,_⟩:=x;exact⟨_,e⟩
 |set S n=>obtain⟨o,_,_,_,e,_⟩:=x;exact⟨_,e⟩
 |ins C dx fs=>obtain⟨_,_,_,e,_⟩:=x;exact⟨_,e⟩
 |own y=>exact x
 |xd fs=>obtain⟨_,⟨_,_,_,e,_⟩,_⟩:=x;exact⟨_,e⟩
 |rng lo hi=>obtain⟨_,_,_,e⟩:=x;exact⟨_,e⟩
 |frz ob u=>obtain⟨e,_⟩:=x;exact⟨_,e⟩
 |tbl ps=>exact⟨_,(show h.get? a=some _ from x)⟩
 |met f y=>exact⟨_,(show h.get? a=some _ from x)⟩
 |ext φ=>obtain⟨_,e,_⟩:=x;exact e
abbrev Iy(B:Heap)(l:List Env)(h0:Heap)(H:Hp):Prop:=(∀b o,h0.get? b=some o->b∉Bl l->∃u,B.get? b=some u)/\∀b u,H b=some u->∃o,B.get? b=some o
abbrev Ea(P:Program)(w:World):FL:=λouter H s E e s'=>∃(ea:Addr) (cv a0:Value) (H':Hp) (B:Heap),e=.ref ea/\s'.os=s.os/\AllBare s'.gens/\Un (Bl outer) [] H H' s.heap s'.heap/\By P w H' s'.heap /\
 Heap.FlyingW B outer ea cv a0 s'.heap/\Iy B outer s.heap H'/\E cv none H'
abbrev XS(X:Cx)(cv:Value)(e:Value)(H:Hp)(s':Shared):Prop:=∃(pins:List (Addr×Obj)) (Y:L2.St) (ea:Addr),e=.ref ea /\
 ((∃s2 vs,AG X pins Y H s2/\Heap.MadeExcOf s2.heap s'.heap ea cv vs/\s'.os=s2.os/\s'.gens=s2.gens) \/
  ∃(B:Heap) (a0:Value) (s2:Shared) (H2:Hp),AG X pins Y H2 s2/\s'.os=s2.os/\AllBare s'.gens/\Un (Bl X.stack) [] H2 H s2.heap s'.heap/\By X.prog X.w H s'.heap/\Heap.FlyingW B X.stack ea cv a0 s'.heap/\Iy B X.stack s2.heap H)
section
variable {X:Cx}{pins:List (Addr×Obj)}{Y:L2.St}{H H2:Hp}{s2:Shared}{h h' B:Heap}
def JR(I:AG X pins Y H2 s2)(U:Un (Bl X.stack) [] H2 H s2.heap h)(hok:By X.prog X.w H h)(hB:B.StaysIn h)(hC:Iy B X.stack s2.heap H)(kB:B.StaysIn h')(up:h.UpToSlots h') :
  Un (Bl X.stack) [] H2 H s2.heap h'/\By X.prog X.w H h':=by
 have kept:∀b u o,B.get? b=some u->h.get? b=some o->h'.get? b=some o:=λb u o e q=>by
  have:=hB b u e;rw[q] at this;cases this;exact kB b _ e
 refine⟨⟨λb o q n hb hx=>?_,λb o q n hb hx=>?_,U.free,λb o q hx=>?_,U.tups,U.frzs,U.tbls⟩,λa o e=>?_⟩
 .obtain⟨u,e⟩:=hC.1 b o q hb;exact kept b u o e (U.keep b o q n hb hx)
 .obtain⟨sl,e⟩:=U.slot b o q n hb hx;obtain⟨_,o',ho',hd⟩:=I.stack.mem hb;rw[q] at ho';cases ho';obtain⟨sl',e'⟩:=up b _ e hd;exact⟨sl',e'⟩
 .obtain⟨o',e⟩:=U.there b o q hx
  by_cases hb:b∈Bl X.stack
  .obtain⟨sl,e2⟩:=U.slot b o q (I.stkFree b hb) hb hx;obtain⟨_,o2,ho2,hd⟩:=I.stack.mem hb;rw[q] at ho2;cases ho2;obtain⟨sl',e'⟩:=up b _ e2 hd;exact⟨_,e'⟩
  .obtain⟨u,eu⟩:=hC.1 b o q hb;exact⟨_,kept b u o' eu e⟩
 .refine(hok a o e).stay (λb u hb q=>?_) (λ_ z=>z) λ_ _ z=>z
  have:∃x,H b=some x:=by
   rcases hb with rfl|hb
   .exact⟨_,e⟩
   .exact⟨_,hb⟩
  obtain⟨x,hx⟩:=this;obtain⟨u',eu⟩:=hC.2 b x hx;exact kept b u' u eu q
def AGF(I:AG X pins Y H s2):Iy (ALR s2.heap (Bl X.stack)) X.stack s2.heap H :=
 ⟨λb o q hb=>⟨o,ALi _ q hb⟩,λb u e=>by
  obtain⟨o,q⟩:=WU (I.hok b u e)
  exact⟨o,ALi _ q λhb=>by rw[I.stkFree b hb] at e;cases e⟩⟩
def AFU(I:AG X pins Y H s2):s2.heap.FunFrames (ALR s2.heap (Bl X.stack)) X.stack :=
 PySem.W.funFrames_hide I.stack λenv he a ha=>ALK.mpr ⟨env,he,ha⟩
end
section
variable {P:Program}{w:World}{K:AI}{mg:AMA}{base:Heap}{N:AMB}{qual:Str}{scope:Scope}{f:Addr}{cdv:Value}{A:Around}{outer:List Env}{s0:Shared}{H0:Hp}{E:XK}
def Wy{pins:List (Addr×Obj)}{Y:L2.St}{H H2:Hp}{s2:Shared}{h':Heap}(I:AG (BV (Ea P w) P w K mg base N qual scope f cdv A outer s0 H0 E) pins Y H2 s2)
  (U:Un (Bl (BV (Ea P w) P w K mg base N qual scope f cdv A outer s0 H0 E).stack) [] H2 H s2.heap h'):Un (Bl outer) [] H0 H s0.heap h':=by
 have hfr:Bl (BV (Ea P w) P w K mg base N qual scope f cdv A outer s0 H0 E).stack=s0.heap.objs.size::Bl outer:=rfl;rw[hfr] at U;have hb:Un (Bl outer) [] H0 H2 s0.heap s2.heap:=I.base
 have nn:∀b o,s0.heap.get? b=some o->b∉Bl outer->b∉s0.heap.objs.size::Bl outer:=λb o q h z=>by
  rcases AW.mp z with rfl|z
  .exact absurd (Heap.lt_size q) (Fh _)
  .exact h z
 refine⟨λb o q n hf hx=>U.keep b o (hb.keep b o q n hf hx) (hb.free b o q n hx) (nn b o q hf) hx,λb o q n hf hx=>?_,λb o q n hx=>?_,λb o q hx=>?_,λb xs q=>U.tups b xs (hb.tups b xs q),λb o u q=>U.frzs b o u (hb.frzs b o u q),λb ps q=>?_⟩
 .obtain⟨sl,e⟩:=hb.slot b o q n hf hx;obtain⟨sl',e'⟩:=U.slot b _ e (hb.free b o q n hx) (Az _ hf) hx;exact⟨sl',e'⟩
 .obtain⟨o',e⟩:=hb.there b o q hx;exact U.free b o' e (hb.free b o q n hx) hx
 .obtain⟨o',e⟩:=hb.there b o q hx;exact U.there b o' e hx
 .obtain⟨m1,e1⟩:=hb.tbls b ps q;obtain⟨m2,e2⟩:=U.tbls b _ e1;exact⟨m1++m2,by rw[e2,Array.append_assoc]⟩
def YZ{pins:List (Addr×Obj)}{Y:L2.St}{H H2:Hp}{s2:Shared}{B:Heap}(I:AG (BV (Ea P w) P w K mg base N qual scope f cdv A outer s0 H0 E) pins Y H2 s2)
  (C:Iy B (BV (Ea P w) P w K mg base N qual scope f cdv A outer s0 H0 E).stack s2.heap H):Iy B outer s0.heap H:=by
 refine⟨λb o q hf=>?_,C.2⟩;obtain⟨o',e⟩:=I.base.there b o q (by simp[BV]);refine C.1 b o' e λz=>?_;have z':b∈s0.heap.objs.size::Bl outer:=z;rcases AW.mp z' with rfl|z'
 .exact absurd (Heap.lt_size q) (Fh _)
 .exact hf z'
def AAZ{cv e:Value}{H:Hp}{s':Shared}(hE:E cv none H)(x:XS (BV (Ea P w) P w K mg base N qual scope f cdv A outer s0 H0 E) cv e H s'):(BV (Ea P w) P w K mg base N qual scope f cdv A outer s0 H0 E).xe e s':=by
 obtain⟨pins,Y,ea,rfl,x⟩:=x;show wpAny (model P w) (A.deeper (envOfC qual scope s0.heap.objs.size f cdv)) (leaving (envOfC qual scope s0.heap.objs.size f cdv) (.ref ea)) (λ_ s''=>Ea P w outer H0 s0 E (.ref ea) s'') (λe' s''=>Ea P w outer H0 s0 E e' s'') s';rcases x with⟨s2,vs,I,hx,ho,hg⟩|⟨B,a0,s2,H2,I,ho,hg,U,hok,fly,C⟩
 .refine wpAny_leaves_madeW (base:=ALR s2.heap (Bl (envOfC qual scope s0.heap.objs.size f cdv::outer))) (h:=s2.heap) I.ok.frames rfl (λb o q=>ALj _ q) (AFU I) hx λh' t fly _ _ up=>?_;have C:=AGF I;have U0:Un (Bl (BV (Ea P w) P w K mg base N qual scope f cdv A outer s0 H0 E).stack) [] H H s2.heap s2.heap:=Un.refl;obtain⟨U,hok⟩:=JR I U0 I.hok (λb o q=>ALj _ q) C fly.1 ((Heap.UpToSlots.of_keeps hx.keeps).trans up);exact⟨ea,cv,.ref t,H,_,rfl,ho.trans I.os,by show AllBare s'.gens;rw[hg];exact I.bare,Wy I U,hok,fly,YZ I C,hE⟩
 .refine wpAny_leaves_onW (base:=B) I.ok.frames rfl fly λh' fly' up=>?_;obtain⟨U',hok'⟩:=JR I U hok fly.1 C fly'.1 up;exact⟨ea,cv,a0,H,B,rfl,ho.trans I.os,hg,Wy I U',hok',fly',YZ I C,hE⟩
end
abbrev EX(X:Cx):XK:=λcv _ H'=>∀e s',XS X cv e H' s'->X.xe e s'
def ADN{X:Cx}:Iw (Ea X.prog X.w) X (EX X):=λpins Y H s e s' I h=>by
 obtain⟨ea,cv,a0,H',B,rfl,ho,hg,U,hok,fly,C,hE⟩:=h;exact hE _ _ ⟨pins,Y,ea,rfl,.inr ⟨B,a0,s,H,I,ho,hg,U,hok,fly,C⟩⟩
noncomputable abbrev SX:=Fm->AB->Option (Str×AB)
noncomputable abbrev Fd:=List D->AB->Option (Str×AB)
abbrev Rt(X:Cx)(fx:SX):L2.St->Hp->Prop:=λY H=>∃O ρ L c L' C,Cy X.K H O Y ρ L/\fx ρ L=some (c,L')/\DI X.K c C /\
 ∀H' O' e s',AY H O H' O'->Ai X.K H' O' L'->XS X (.ref C) e H' s'->X.xe e s'
abbrev Jz(X:Cx)(st:Stmt)(f:SF)(fx:SX):Prop:=PS X st λE Y H=>OB X.K f E Y H\/Rt X fx Y H
abbrev HR(X:Cx)(st:AMF)(f:SF)(fx:SX):Prop:=Ct X st λE Y H=>OB X.K f E Y H\/Rt X fx Y H
abbrev On(X:Cx)(e:Expr)(f:EF)(fx:SX):Prop:=PE X e λY H Q=>Hi X.K f Y H Q\/Rt X fx Y H
abbrev Ft:SX:=λ_ _=>none
abbrev FU(f:SF)(fx gx:SX):SX:=λρ L=>match fx ρ L with
 |some r=>some r
 |none=>(match f ρ L with|some (.next ρ' L')=>gx ρ' L'|_=>none)
abbrev Hn(t:TF)(fx gx:SX):SX:=λρ L=>(t ρ L).bind λx=>if x.1=true then fx ρ x.2 else gx ρ x.2
abbrev IU(c:Str):SX:=λ_ L=>some (c,L)
abbrev OZ(G:Fd)(a:AF):SX:=λρ L=>(a ρ L).bind λy=>G y.1 y.2
section
variable {X:Cx}{st:Stmt}{rest:AMF}{f g:SF}{fx gx:SX}{e:Expr}{fe:EF}{pos:Pos}
def ACZ{t:TS}(h:PS X.nox st t):PS X st t:=λpins s Y H D I hw=>Dc (h pins s Y H D (I.wish _) hw) (λ_ _ q=>q.unwish) λ_ _ z=>False.elim z
def NY(h:DU X.nox st f):Jz X st f Ft:=PS.weaken (ACZ h) λD Y H q=>by
 rcases q with q|⟨O,ρ,L,c,L',C,r,e,_⟩
 .exact q
 .cases e
def VN:HR X [] Ak Ft:=Ct.weaken Vt λD Y H q=>by
 rcases q with⟨O,ρ,L,out,r,e,k⟩|⟨O,ρ,L,c,L',C,r,e,_⟩
 .cases e;exact k Y H O (.refl _ _) r
 .cases e
def Nb(h1:Jz X st f fx):HR X [st] f fx:=Ct.weaken (Vs h1) λD Y H h=>h
def JU(h1:Jz X st f fx)(h2:HR X rest g gx):HR X (st::rest) (AH f g) (FU f fx gx) :=
 Ct.weaken (Vu h1 h2) λD Y H q=>by
  rcases q with⟨O,ρ,L,out,r,e,k⟩|⟨O,ρ,L,c,L',C,r,e,hC,k⟩
  .unfold AH at e;obtain⟨o1,e1,e⟩:=bS e;refine .inl ⟨O,ρ,L,o1,r,e1,?_⟩
   cases o1 with
   |next ρ1 L1=>exact λY' H' O' st' r'=>.inl ⟨O',ρ1,L1,out,r',e,k.mono st'⟩
   |ret d L1=>cases e;exact k
   |brk ρ1 L1=>cases e;exact k
   |cont ρ1 L1=>cases e;exact k
  .unfold FU at e
   cases e1:fx ρ L with
   |some p =>
    rw[e1] at e;cases e;exact .inr ⟨O,ρ,L,c,L',C,r,e1,hC,k⟩
   |none =>
    rw[e1] at e
    cases e2:f ρ L with
    |none=>rw[e2] at e;cases e
    |some o1 =>
     rw[e2] at e
     cases o1 with
     |next ρ1 L1 =>
      refine .inl ⟨O,ρ,L,_,r,e2,λY' H' O' st' r'=>.inr ⟨O',ρ1,L1,c,L',C,r',e,hC,λH2 O2 ev s2 st2 rs2 x=>k H2 O2 ev s2 (st'.trans st2) rs2 x⟩⟩
     |ret d L1=>cases e
     |brk ρ1 L1=>cases e
     |cont ρ1 L1=>cases e
def VA{c:Expr}{a b:AMF}{t:TF}(hc:Eu X c t)(ha:HR X a f fx)(hb:HR X b g gx):Jz X (.If c a b pos) (Af t f g) (Hn t fx gx) :=
 PS.weaken (Vw hc ha hb) λD Y H q=>by
  rcases q with⟨O,ρ,L,out,r,e,k⟩|⟨O,ρ,L,cn,L',C,r,e,hC,k⟩
  .unfold Af at e;obtain⟨p,e1,e⟩:=bS e;obtain⟨b1,L1⟩:=p;refine⟨O,ρ,L,b1,L1,r,e1,λH1 O1 st rs=>?_⟩
   cases b1 with
   |true=>exact iteT (.inl ⟨O1,ρ,L1,out,r.to st rs,by simpa using e,k.mono st⟩)
   |false=>exact iteF (.inl ⟨O1,ρ,L1,out,r.to st rs,by simpa using e,k.mono st⟩)
  .unfold Hn at e;obtain⟨p,e1,e⟩:=bS e;obtain⟨b1,L1⟩:=p;refine⟨O,ρ,L,b1,L1,r,e1,λH1 O1 st rs=>?_⟩
   cases b1 with
   |true=>exact iteT (.inr ⟨O1,ρ,L1,cn,L',C,r.to st rs,by simpa using e,hC,λH2 O2 ev s2 st2 rs2 x=>k H2 O2 ev s2 (st.trans st2) rs2 x⟩)
   |false=>exact iteF (.inr ⟨O1,ρ,L1,cn,L',C,r.to st rs,by simpa using e,hC,λH2 O2 ev s2 st2 rs2 x=>k H2 O2 ev s2 (st.trans st2) rs2 x⟩)
def ABU(he:On X e fe fx):Jz X (.Return (some e) pos) (AN fe) fx :=
 PS.weaken (Vv he) λD Y H q=>by
  rcases q with⟨O,ρ,L,out,r,e,k⟩|q
  .unfold AN at e
   cases e1:fe ρ L with
   |none=>rw[e1] at e;cases e
   |some p=>rw[e1] at e;cases e;exact .inl ⟨O,ρ,L,p.1,p.2,r,e1,λv H' O' st rs is=>k v H' O' st rs is⟩
  .exact .inr q
end
abbrev Gz(K:AI)(G:GL)(GX:Fd):Sp:=λvs H Q E=>rC K G vs H Q\/∃O L xs c L' C,Ai K H O L/\AM K H O vs xs/\GX xs L=some (c,L')/\DI K c C/\∀H' O',AY H O H' O'->Ai K H' O' L'->E (.ref C) none H'
structure GU (P:Program) (w:World) (K:AI) (mg:AMA) (base:Heap) (k:Nat) (x:Str) (G:GL) (GX:Fd):Prop where
 ex:∃f fd ps,DH P w K mg base (Ea P w) k f fd ps (Gz K G GX)/\mg x=some (.ref f)/\Ec K (.ref f)=true/\EG K fd ps []
def GU.mono{P:Program}{w:World}{K:AI}{mg:AMA}{base:Heap}{j k:Nat}{x:Str}{G:GL}{GX:Fd}(F:GU P w K mg base j x G GX)(h:j<=k):GU P w K mg base k x G GX:=by obtain⟨f,fd,ps,a,b⟩:=F.ex;exact⟨f,fd,ps,a.mono h,b⟩
abbrev HB(B:SX)(N:AMB)(n:Nat):Fd:=λxs L=>if xs.length=n then B (CU N xs) L else none
def Xs{P:Program}{w:World}{K:AI}{mg:AMA}{base:Heap}{x qual:Str}{st:Stmt}{f:Addr}{fd:FuncData}{N ps:AMB}{k:Nat}{B:SF}{BX:SX}(Fn:Gu K x qual st f fd)(S:Ap N ps (AT st))
  (hb:∀(cdv:Value) (A:Around) (outer:List Env) (s:Shared) (H:Hp) (E:XK),Room k (A.deeper (envOfC qual (AT st) s.heap.objs.size f cdv)) ->
   HR (BV (Ea P w) P w K mg base N qual (AT st) f cdv A outer s H E) (Dz st) B BX)
  (bi:EG K fd ps []) (m:mg x=some (.ref f)) (kp:Ec K (.ref f)=true):GU P w K mg base (k+1) x (Aa B N ps.length) (HB BX N ps.length):=by
 refine⟨f,fd,ps,?_,m,kp,bi⟩;obtain⟨oc,od,kV,doc,pm,an,cdv,ct,osl,rfl,lk,hcd⟩:=Fn.ex;refine Xu lk hcd S (λvs H Q E h=>?_) λA outer s H vs Q E hr hsp=>⟨_,hb cdv A outer s H E hr,?_⟩
 .rcases h with⟨O,L,xs,d,L',_,is,e,_⟩|⟨O,L,xs,c,L',C,_,is,e,_⟩
  .rw[is.length];exact Ni e
  .rw[is.length];unfold HB at e;split at e
   .assumption
   .cases e
 .rcases hsp with⟨O,L,xs,d,L',rs,is,e,kk⟩|⟨O,L,xs,c,L',C,rs,is,e,hC,kk⟩
  .obtain⟨L'',hB,hd⟩:=Nh e
   have close:∀v H' O',AY H O H' O'->Ai K H' O' L''->Is K H' O' v d->Q v H':=λv H' O' st' rs' is'=>by
    rcases hd with rfl|⟨rfl,⟨M,rfl⟩,nr⟩
    .exact kk v H' O' st' rs' is'
    .exact kk v H' O ⟨st'.1,An _⟩ (rs.back st' rs') (is'.nr nr)
   rcases hB with hB|⟨rfl,ρ',hB⟩
   .exact .inl ⟨O,CU N xs,L,_,⟨rs,Lb is⟩,hB,close⟩
   .exact .inl ⟨O,CU N xs,L,_,⟨rs,Lb is⟩,hB,λY' H' O' st' r'=>close _ H' O' st' r'.s .non⟩
  .unfold HB at e;split at e
   .exact .inr ⟨O,CU N xs,L,c,L',C,⟨rs,Lb is⟩,e,hC,λH' O' ev s' st' rs' x=>AAZ (kk H' O' st' rs') x⟩
   .cases e
section
variable {X:Cx}{k:Nat}{x:Str}{G:GL}{GX:Fd}{p pos:Pos}{e:Expr}{es:AME}{f:AF}
def AF1(F:GU X.prog X.w X.K X.mg X.base k x G GX)(hr:Room k X.A)(ha:Da X (e::es) f)(hg:Gl X x:=by rfl)(hdb:(x == ("__debug__":Str))=false:=by decide)
  (he:Ci e=true:=by rfl) (hpl:es.all Ci=true:=by rfl):On X (.Call (.Name x p) (e::es) [] pos) (AJ G f) (OZ GX f):=by
 obtain⟨fa,fd,ps,a,b,c,d⟩:=F.ex
 exact PE.weaken (WH a hr hg b c d .nil ADN ha hdb (Ef he) (Gc hpl)) λY H Q q=>by
  rcases q with h|⟨O,ρ,L,cn,L',C,r,e,hC,k⟩
  .obtain⟨O,ρ,L,ds,L',r,e,k⟩:=OY h;exact⟨O,ρ,L,ds,L',r,e,λvs H1 O1 st rs is=>by show Gz X.K G GX (vs++[]) H1 Q (EX X);rw[FR];exact .inl (k vs H1 O1 st rs is)⟩
  .unfold OZ at e;obtain⟨y,e1,e⟩:=bS e
   exact⟨O,ρ,L,y.1,y.2,r,e1,λvs H1 O1 st rs is=>by
    show Gz X.K G GX (vs++[]) H1 Q (EX X);rw[FR]
    exact .inr ⟨O1,y.2,y.1,cn,L',C,rs,is,e,hC,λH' O' st' rs' ev s' xs=>k H' O' ev s' (st.trans st') rs' xs⟩⟩
end
noncomputable abbrev Hy:AMC:=[.type "ValueError",.type "Exception",.type "BaseException",.type "object"]
structure CS (K:AI) (c:Str) (C:Addr):Prop where
 ns:Ba K mainGlobals c=some (some (.ref C))
 ok:AKs K C Hy "ValueError.__new__"=true
abbrev ZN(h:Heap)(C:Addr):Prop:=∃(bm:AMC) (N:Addr) (nm qn:Str) (bs:AMC) (hd:Bool) (sn:AMB) (sub:AMC) (ab:Bool) (col:Option Bool) (dd:Option Addr) (k0 k1 k2 k3 k5:Option Value) (mN:AMA),
 h.get? C=some (excClassObj nm qn C N bs bm hd sn sub ab col dd k0 k1 k2 k3 k5 "ValueError.__new__")/\h.Ns N mN/\mN "__init__"=none/\OwnTail h Hy bm
def Hv{K:AI}{h:Heap}{c:Str}{C:Addr}(KI:K.In h)(z:CS K c C):ZN h C:=by
 have q:=z.ok;unfold AKs at q;split at q
 .rename_i od cdat slots look;split at q
  .rename_i Cx mr s0 s1 s2 s3 nw s5 hmro hslots;simp only[CA,beq_iff_eq,Bool.not_eq_true'] at q;obtain⟨⟨⟨⟨⟨e1,e2⟩,e3⟩,tl⟩,nsk⟩,nini⟩:=q;subst e1 e2
   cases cdat with
   |mk nm bs mro ns qn hd sn sub ab col del =>
    dsimp only at hmro e3 nsk nini;subst hmro e3
    cases slots with
    |mk sl =>
     dsimp only at hslots;subst hslots;exact⟨mr,ns,nm,qn,bs,hd,sn,sub,ab,col,od,s0,s1,s2,s3,s5,h.nsMap ns,KI _ _ look,.of_isNs (PySem.W.isNs_of_in KI nsk),PySem.W.nsMap_none_of_in KI nsk nini,PySem.W.tail_of_in KI tl⟩
  .cases q
 .cases q
section
variable {X:Cx}{c:Str}{C:Addr}{y:Str}{j:Nat}{p np cpos pos:Pos}
def RM(z:CS X.K c C)(hcalm:X.calm=true)(hg:Gl X c:=by rfl)(hdb:(c == ("__debug__":Str))=false:=by decide) :
  Jz X (.Raise (some (.Call (.Name c np) [.Constant (.str y) j p] [] cpos)) none pos) FW (IU c):=by
 intro pins s Y H D I h;rcases h with⟨O,ρ,L,out,r,e,k⟩|⟨O,ρ,L,c',L',C',r,e,hC,k⟩
 .cases e
 .cases e
  have hCC:C'=C:=by have:=z.ns;unfold DI at hC;rw[hC] at this;cases this;rfl
  subst hCC;have hm:X.mg c=some (.ref C'):=Cn I.mod.kin I.mod.glob z.ns;obtain⟨bm,N,nm,qn,bs,hd,sn,sub,ab,col,dd,k0,k1,k2,k3,k5,mN,hobj,hns,hni,T⟩:=Hv (I.tok (s.toks+1)).kIn z;refine wpAny_Raise_call_subU (k5:=k5) (k3:=k3) (k2:=k2) (k1:=k1) (k0:=k0) (dd:=dd) (col:=col) (ab:=ab) (sub:=sub) (sn:=sn) (hdct:=hd) (bs:=bs) (N:=N) (q:=qn) (nm:=nm) (C:=C') PySem.F.excBase_ValueError rfl PySem.F.excBase_ValueError (mN:=mN) (T.hasType rfl) (I.ok.hd hcalm) rfl hni (Ge I hg hm ⟨rfl,?_⟩ hdb);refine Calls.evalArgs_plain ?_;show wpAny _ _ (spliced [(false,eval (.Constant (.str y) j p) X.env)]) _ _ s;refine Calls.spliced_cons (Calls.Constant_str (k:=j) (pos:=p) (Calls.spliced_nil ?_));refine⟨rfl,by simp[sizeLine_eq],hobj,hns,T,λh' ev hx=>?_⟩;exact k H O (.ref ev) _ (.refl _ _) r.s ⟨pins,Y,ev,rfl,.inl ⟨_,_,I.tok _,hx,rfl,rfl⟩⟩
end
section
variable {M:Model}{A:Around}{E:AMI}
def YB{h:Heap}{g:Array GenState}{d:Drawn}{t:Nat}{os:OsState}{ev C C2:Addr}{oe:Obj}{Q:Bool->Shared->Prop}(z:ZN h C2)(he:h.get? ev=some oe)(hcls:oe.cls=.ref C)
  {nm qn:Str} {N:Addr} {bs bm:AMC} {hd:Bool} {sn:AMB} {sub:AMC} {ab:Bool} {col:Option Bool} {dd:Option Addr} {k0 k1 k2 k3 k5:Option Value} {nw:String}
  (hC:h.get? C=some (excClassObj nm qn C N bs bm hd sn sub ab col dd k0 k1 k2 k3 k5 nw)) (hm:(Value.ref C::bm).contains (.ref C2)=true)
  (hq:Q true ⟨h,g,d,t,os⟩):wpAny M A (excMatches (.ref ev) (.ref C2)) Q E ⟨h,g,d,t,os⟩:=by
 obtain⟨bm2,N2,nm2,qn2,bs2,hd2,sn2,sub2,ab2,col2,dd2,j0,j1,j2,j3,j5,mN2,hC2,_,_,T2⟩:=z
 have hB:(Value.ref C2::bm2).contains (.type "BaseException")=true:=by have h1:bm2.contains (.type "BaseException")=true:=T2.hasType rfl;rw[List.contains_cons,h1,Bool.or_true]
 have f:=tc_notTuple;unfold excMatches
 repeat (first
  |(with_reducible refine wpAny_loadPart_at he ?_;rw[hcls])
  |with_reducible refine wpAny_loadPart_at hC2 ?_
  |(with_reducible refine wpAny_isSubtype_exc hC2 ?_;rw[hB])
  |(with_reducible refine wpAny_isSubtype_exc hC ?_;rw[hm])
  |wp_step)
 exact hq
end
abbrev KJ(x C:Addr)(h:Heap):Prop:=∃o,h.get? x=some o/\o.cls=.ref C
def KJ.ty{x C:Addr}{h:Heap}(p:KJ x C h)(M:Model):PySem.W.Looks M h (typeOf (.ref x)) (.ref C):=by obtain⟨o,h1,h2⟩:=p;rw[<-h2];exact(PySem.W.Looks.ld h1).andThen .now
structure FK (K:AI) (C:Addr):Prop where
 ga:Be K (.ref C) "__getattribute__"=some (some (.builtin "BaseException.__getattribute__"))
 gh:Be K (.ref C) "__getattr__"=some none
 ha:Be K (.ref C) "__class__"=some (some (.builtin "object.__class__"))
 hn:PySem.W.specialIn K (.builtin "object.__class__") "__get__"=some (some (.builtin "getset_descriptor.__get__"))
 tk:PySem.W.takesIn K (.builtin "object.__class__")=some true
 mr:AKn K C (.type "object")=some true
section
open PySem.W Builtin Builtin.ObjectAttr Builtin.Getset_descriptor
variable {prog:Program}{w:World}{A:Around}{E:AMI}{s:Shared}{K:Frag}{x C:Addr}
def AFf{M:Model}{h:Heap}(KI:K.In h)(c:FK K C):Looks M h (find (.ref x) (.ref C) "__class__") (.bind (.builtin "getset_descriptor.__get__") (.builtin "object.__class__")) :=
 (looks_findIn KI c.ha).andThen ((looks_specialIn KI c.hn).andThen (((looks_takesIn KI c.tk).andThen .now:Looks M h (dataDescriptor? (some (.builtin "object.__class__")) (some (.builtin "getset_descriptor.__get__"))) (some (.builtin "getset_descriptor.__get__",.builtin "object.__class__"))).andThen (Looks.tag .now)))
def AFg{R:Result->Shared->Prop}{tp:Value}(KI:K.In s.heap)(p:KJ x C s.heap)(c:FK K C)(h:R (.ok (.ret (.ref C))) s) :
  codeAny (model prog w) A (.call (.builtin "getset_descriptor.__get__") ⟨[.builtin "object.__class__",.ref x,tp],[]⟩) R s:=by
 cases s with
 |mk hh g dr t os =>
  have T0:=p.ty (model prog w);have T1:=looks_mroIn (M:=model prog w) KI c.mr;refine codeAny_call_builtin KF.slot_gs.plain KF.entry_gs (KF.slot_gs.check _ _ _ _ _ _ _ _ KF.type_class (KF.args_gs _ _ _) ?_);unfold Builtin.«getset_descriptor.__get__» descrGet;rw[dga_obj];refine AE (AK ?_);unfold descrGetter descrCheckInstance descrNameAndClass isInstance;simp only[KF.owner_class]
  repeat lk
  refine⟨Code.quiet_builtin _ (by decide +kernel),codeAny_builtin KF.entry_class ?_⟩
  unfold Builtin.«object.__class__» shownTypeOf;repeat lk
  exact h
def AFi{M:Model}{nameV:Value}{Q:Unit->Shared->Prop}{c:Str}(z:CS K c C)(KI:K.In s.heap)(p:KJ x C s.heap)(hq:Q () s):wpAny M A (checkBuiltinCall "BaseException.__getattribute__" ⟨[.ref x,nameV],[]⟩) Q E s:=by
 obtain⟨o,hx,hc⟩:=p;obtain⟨bm,N,nm,qn,bs,hd,sn,sub,ab,col,dd,k0,k1,k2,k3,k5,mN,hC,_,_,T⟩:=Hv KI z;obtain⟨h,g,d,t,os⟩:=s;have hk:builtinKind "BaseException.__getattribute__"=some .slot:=by decide +kernel
 have hsplit:splitId "BaseException.__getattribute__"=some ("BaseException","__getattribute__"):=by decide +kernel
 have hcB:(Value.ref C::bm).contains (.type "BaseException")=true:=by rw[List.contains_cons,T.hasType rfl];rfl
 have ha:=F.args_bexc_ga (.ref x) nameV;simp only[checkBuiltinCall,hk,hsplit];refine AE ?_
 .unfold isInstance
  repeat (first|(with_reducible refine wpAny_loadPart_at hx ?_;rw[hc])|(with_reducible refine wpAny_isSubtype_exc hC ?_;rw[hcB])|wp_step)
  exact hq
def AFh{c:Str}{Q:Option Value->Shared->Prop}(z:CS K c C)(KI:K.In s.heap)(p:KJ x C s.heap)(ec:FK K C)(h:Q (some (.ref C)) {s with toks:=s.toks+1}):wpAny (model prog w) A (getAttr? (.ref x) "__class__") Q E s:=by
 have T0:=p.ty (model prog w);have T1:=AFf (x:=x) (M:=model prog w) KI ec;have TG:=looks_findIn (M:=model prog w) KI ec.ga;have TH:=looks_findIn (M:=model prog w) KI ec.gh
 have key:∀{A:Around} {E:AMI} {R:Fin->Shared->Prop} {t:Nat} {tk:Tok},R (.done (.ret (.ref C))) {s with toks:=t}->wpAny (model prog w) A (Builtin.«object.__getattribute__» ⟨[.ref x,.str "__class__" tk],[]⟩) R E {s with toks:=t}:=λ{A E R t tk} hR=>by
  refine AE (AK (AE (AK (AE (T0.at (AE (T1.at ?_)))))));show wpAny _ _ (holding [.builtin "object.__class__"] (call (.builtin "getset_descriptor.__get__") [.builtin "object.__class__",.ref x,.ref C]) >>= ret) _ _ _;exact AE (DJ (wpAny_call (AFg KI p ec (AK hR))))
 have f3:=PySem.F.excAttr_ValueError.ga.bind (.ref x);unfold getAttr? getAttrBy? getAttrBy;refine AE (wpAny_mkText (AE (wpAny_attempt (DJ (AE (T0.at (AE (TG.at ?_))))))));show wpAny _ _ (getAttrByItsOwn _ _ _ _ _ _) _ _ _;unfold getAttrByItsOwn callGetattribute boundAndCalled;refine AE (TH.at (AE (wpAny_attempt (DJ ?_))));show wpAny _ _ (bindSpecial (.builtin "BaseException.__getattribute__") (.ref x) >>= _) _ _ _;rw[f3];refine AE (AK (wpAny_call (codeAny_call_builtin PySem.F.excAttr_ValueError.ga.plain F.entry_bexc_ga (AFi z KI p (key ?_)))));exact handed_on rfl (AK h)
def XB{c:Str}(z:CS K c C)(ec:FK K C):KitX K (.ref x) (.ref C) (KJ x C) where
 ty:=λM h _ p=>p.ty M
 it:=λM h KI _=>by
  obtain⟨bm,N,nm,qn,bs,hd,sn,sub,ab,col,dd,k0,k1,k2,k3,k5,mN,ho,_⟩:=Hv KI z;intro A' Q' E' s' k q;unfold isType loadHead;exact AE (wpAny_loadPart (k _ _ ho) (AK q))
 ne:=λh tp dd its n sl KI htp=>by
  obtain⟨bm,N,nm,qn,bs,hd,sn,sub,ab,col,dd,k0,k1,k2,k3,k5,mN,ho,_⟩:=Hv KI z;refine ALI.mpr λq=>?_;have e:C=tp:=Value.ref.inj (beq_iff_eq.mp q);subst e;rw[ho] at htp;have q2:=congrArg Obj.cls (Option.some.inj htp);simp[excClassObj] at q2
 ca:=λKI p k=>AFh z KI p ec k
end
abbrev Xh(X:Cx)(ev:Value):Cx:={X with A:=X.A.mark (some ev),calm:=false}
def ADm{X:Cx}(ok:X.Ok)(ev:Value):(Xh X ev).Ok :=
 ⟨ok.mod,ok.kind,ok.glob,ok.blt,ok.above,ok.inj,ok.has,ok.cab,(λh=>by cases h),ok.frames,ok.stk,ok.exf,ok.bs,ok.bsz,ok.noex,ok.exfs,ok.funs,ok.frf⟩
section
variable {X:Cx}{pins:List (Addr×Obj)}{Y:L2.St}{H:Hp}{s:Shared}{ev:Value}
def OE(I:AG X pins Y H s)(ev:Value):AG (Xh X ev) pins Y H s:=⟨ADm I.ok ev,I.os,I.bare,I.base,I.loc,I.cell,I.free,I.freeC,I.pin,I.hok,I.len⟩
def OD(ok:X.Ok)(I:AG (Xh X ev) pins Y H s):AG X pins Y H s:=⟨ok,I.os,I.bare,I.base,I.loc,I.cell,I.free,I.freeC,I.pin,I.hok,I.len⟩
def VT{D:IH}{f:Flow}{s':Shared}(ok:X.Ok)(h:SP (Xh X ev) pins D f s'):SP X pins D f s':=by
 cases f with
 |next=>obtain⟨Y',H',I,q⟩:=h;exact⟨Y',H',OD ok I,q⟩
 |brk=>obtain⟨Y',H',I,q⟩:=h;exact⟨Y',H',OD ok I,q⟩
 |cont=>obtain⟨Y',H',I,q⟩:=h;exact⟨Y',H',OD ok I,q⟩
 |ret u=>obtain⟨v,Y',H',I,r,q⟩:=h;exact⟨v,Y',H',OD ok I,r,q⟩
end
structure IB (K:AI) (c:Str) (C0:Addr):Prop where
 ex:∃C,CS K c C/\AKn K C (.ref C0)=some true
def Wb{K:AI}{h:Heap}{C:Addr}{v:Value}(KI:K.In h)(m:AKn K C v=some true){nm qn:Str}{N:Addr}{bs bm:AMC}{hd:Bool}{sn:AMB}{sub:AMC}{ab:Bool}{col:Option Bool}{dd:Option Addr}{k0 k1 k2 k3 k5:Option Value}{nw:String}
  (hC:h.get? C=some (excClassObj nm qn C N bs bm hd sn sub ab col dd k0 k1 k2 k3 k5 nw)):(Value.ref C::bm).contains v=true:=by
 unfold AKn at m;obtain⟨cd,hcd,m⟩:=FA.mp m;unfold PySem.W.clsIn at hcd;split at hcd
 .rename_i ho;have e:=KI _ _ ho;rw[hC] at e;have e2:=congrArg Obj.data (Option.some.inj e);simp only[excClassObj] at e2;cases hcd
  injection e2 with e2
  subst e2;split at m
  .cases m
  .exact Option.some.inj m
 .cases hcd
abbrev NQ(G:GL)(GX:Fd)(a:AF)(subs:Str->Bool)(fh:SF):SF:=λρ L=>(a ρ L).bind λy=>match G y.1 y.2 with
 |some r=>some (.next ρ r.2)
 |none=>(GX y.1 y.2).bind λz=>if subs z.1=true then fh ρ z.2 else none
section
variable {X:Cx}{k:Nat}{x c0:Str}{C0:Addr}{G:GL}{GX:Fd}{a:AF}{subs:Str->Bool}{fh:SF}{p pos pe pc ph pt:Pos}{e:Expr}{es:AME}{b0:Stmt}{body:AMF}
def ABp(F:GU X.prog X.w X.K X.mg X.base k x G GX)(hr:Room k X.A)(ha:Da X.nox (e::es) a)(hC:CS X.K c0 C0)(hsub:∀c,subs c=true->IB X.K c C0)
  (hs:∀ev,EB (Xh X ev).nox (b0::body) fh) (hstk:X.stack=X.env::X.outer) (hfr:X.env.frame=some X.env.locals)
  (hg:Gl X x:=by rfl) (hgc:Gl X c0:=by rfl) (hdb:(x == ("__debug__":Str))=false:=by decide) (hdc:(c0 == ("__debug__":Str))=false:=by decide)
  (he:Ci e=true:=by rfl) (hpl:es.all Ci=true:=by rfl) (hsw:swapsWith (.Call (.Name x p) (e::es) [] pos) none pe.line X.env=pure false:=by rfl) :
  DU X (.Try [.Expr (.Call (.Name x p) (e::es) [] pos) pe] [.ExceptHandler (some (.Name c0 pc)) none (b0::body) ph] [] [] pt) (NQ G GX a subs fh):=by
 intro pins s Y H D I h;obtain⟨O,ρ,L,out,r,e0,k0⟩:=h;unfold NQ at e0;obtain⟨y,e1,e0⟩:=FA.mp e0;obtain⟨fa,fd,ps,Fk,hm,hk,bi⟩:=F.ex;refine wpAny_Try_except (wpAny_execs_cons (wpAny_Expr_any ?_ I.quiet hsw));refine AL1 (Ge I hg hm ?_ hdb)
 refine ALU (h₀:=X.base) I.ok.mod.kin hk (Dc (ha pos pins s Y H (λvs H1=>∃O1,AY H O H1 O1/\Ai X.K H1 O1 y.2/\AM X.K H1 O1 vs y.1) (I.wish _) ⟨O,ρ,L,y.1,y.2,r,e1,λvs H1 O1 st rs is=>⟨O1,st,rs,is⟩⟩)
  (λus s1 q=>?_) λ_ _ z=>False.elim z) (Ef he) (Gc hpl)
 obtain⟨vs,H1,I1w,rv,O1,st1,rs1,is1⟩:=q;have I1:AG X pins Y H1 s1:=I1w.unwish;refine⟨I1.kIn,?_⟩;have hl:∀{Q E},Gz X.K G GX vs H1 Q E->(us++[]).length=ps.length:=λh=>by rw[FR,<-rv.length];exact Fk.len _ _ _ _ h
 cases eG:G y.1 y.2 with
 |some z =>
  rw[eG] at e0;cases e0;have hsp:Gz X.K G GX vs H1 (λv H'=>∃O',AY H1 O1 H' O'/\Ai X.K H' O' z.2) (λ_ _ _=>False):=.inl ⟨O1,y.2,y.1,z.1,z.2,rs1,is1,eG,λv H' O' st rs is=>⟨O',st,rs⟩⟩;refine wpAny_call (codeAny_mono (Fk.run X.A X.stack s1 H1 ⟨us,[]⟩ us vs _ _ hr I1.env0 (by have:=bi s1 us I1.kIn (hl hsp);rwa [FR] at this) rv hsp) λrr s' hq=>?_)
  cases rr with
  |error ev=>obtain⟨ea,cv,a0,H',B,_,_,_,_,_,_,_,z⟩:=hq;exact z.elim
  |ok fl =>
   cases fl with
   |ret u =>
    obtain⟨v,H',I',_,O',st,rs⟩:=I1.after hq;exact ALz (ALz ⟨Y,H',I',k0 Y H' O' (st1.trans st) ⟨rs,r.f.mono (st1.trans st)⟩⟩)
   |next=>exact False.elim hq
   |brk=>exact False.elim hq
   |cont=>exact False.elim hq
 |none =>
  rw[eG] at e0;obtain⟨z,eX,e0⟩:=FA.mp e0
  have hz:subs z.1=true:=by
   by_cases hz:subs z.1=true
   .exact hz
   .rw[if_neg hz] at e0;cases e0
  rw[if_pos hz] at e0;obtain⟨C,zC,hmro⟩:=(hsub _ hz).ex;have hsp:Gz X.K G GX vs H1 (λ_ _=>False) (λcv _ H'=>cv=.ref C/\∃O',AY H1 O1 H' O'/\Ai X.K H' O' z.2):=.inr ⟨O1,y.2,y.1,z.1,z.2,C,rs1,is1,eX,zC.ns,λH' O' st rs=>⟨rfl,O',st,rs⟩⟩;refine wpAny_call (codeAny_mono (Fk.run X.A X.stack s1 H1 ⟨us,[]⟩ us vs _ _ hr I1.env0 (by have:=bi s1 us I1.kIn (hl hsp);rwa [FR] at this) rv hsp) λrr s' hq=>?_)
  cases rr with
  |ok fl =>
   cases fl with
   |ret u=>obtain⟨v,H',_,_,z⟩:=I1.after hq;exact z.elim
   |next=>exact False.elim hq
   |brk=>exact False.elim hq
   |cont=>exact False.elim hq
  |error ev =>
   obtain⟨ea,cv,a0,H',B,rfl,ho,hg',U,hok,fly,Cv,rfl,O',st2,rs2⟩:=hq;have fly0:Heap.FlyingW B (X.env::X.outer) ea (.ref C) a0 s'.heap:=by rw[<-hstk];exact fly
   refine wpAny_looks_onW (by rw[I1.ok.frames,hstk]) hfr fly0 λh1 held up1=>?_;refine wpAny_landsW held λh2 fly2 up2=>?_;have un2:=JR I1 U hok fly.1 Cv fly2.1 (up1.trans up2);have II:AG X pins Y H' {s' with heap:=h2}:=I1.call' ho un2.1 un2.2 hg' (λb z=>absurd z (by simp));have hm0:X.mg c0=some (.ref C0):=Cn II.mod.kin II.mod.glob hC.ns;refine wpAny_handleBy_cons (codeAny_handlers_test ?_) (by intro q;cases q);refine Ge (OE II (.ref ea)) hgc hm0 ?_ hdc;obtain⟨ob,hob,hcls⟩:=fly2.there;obtain⟨bm,N,nm,qn,bs,hd,sn,sub,ab,col,dd,k1,k2,k3,k4,k5,mN,hobj,_⟩:=Hv II.kIn zC;refine YB (Hv II.kIn hC) hob hcls hobj (Wb II.kIn hmro hobj) ?_;show codeAny _ _ _ _ _;refine codeAny_handlers_suite (lands_againW fly2 λh3 fly3 up3=>?_);have un3:=JR I1 U hok fly.1 Cv fly3.1 ((up1.trans up2).trans up3);have III:AG X pins Y H' {s' with heap:=h3}:=I1.call' ho un3.1 un3.2 hg' (λb z=>absurd z (by simp));exact Dc (hs (.ref ea) pins _ Y H' D ((OE III _).wish _) ⟨O',ρ,z.2,out,⟨rs2,r.f.mono (st1.trans st2)⟩,e0,k0.mono (st1.trans st2)⟩) (λf s q=>VT III.ok q.unwish) λ_ _ z=>False.elim z
end
section
variable {X:Cx}{pins:List (Addr×Obj)}{Y:L2.St}{H H1 H':Hp}{s s1:Shared}{h:Heap}
def Xb{M:Model}{A:Around}{E:AMI}{i:Nat}{x:Str}{pos:Pos}{Q:Unit->Shared->Prop}(I:AG X pins Y H s)(hN:X.N.Nodup)(hi:X.N[i]?=some x)(hk:X.env.scope.names.lookup x=some .local)
  (h:∀s',AG X pins (Y.set i none) H s'->Q () s'):wpAny M A (do bindName X.env x .none;unbindBehindTheSuite X.env x pos) Q E s:=by
 obtain⟨m,hn,hl⟩:=id I.loc;have hcls:(X.env.scope.kind == .class || (X.env.scope.kind == .module&&X.env.locals != X.env.globals))=false:=by rw[I.ok.kind];rfl
 have hiY:i<Y.length:=by rw[I.len];exact(BA.mp hi).1
 have cne:=I.cne;refine wpAny_nameGoes_keeps hk hn hcls λh' v hn' hs=>?_;obtain⟨oL,_,_,hoL,_⟩:=id hn;refine h _ ⟨I.ok,I.os,I.bare,⟨λb o e n hb hx=>?_,λb o e n hb hx=>?_,I.base.free,λb o e hx=>?_,I.base.tups,I.base.frzs,I.base.tbls⟩,⟨_,hn',λj y v' e1 e2 e3=>?_⟩,λy c e=>?_,I.free,I.freeC,λp hp=>?_,λb ob e=>?_,by simpa using I.len⟩
 .exact(hs.2 b (BN (Bm (Heap.lt_size e) I.ok.above))).trans (I.base.keep b o e n hb hx)
 .obtain⟨sl,e1⟩:=I.base.slot b o e n hb hx;exact⟨sl,(hs.2 b (BN (Bm (Heap.lt_size e) I.ok.above))).trans e1⟩
 .obtain⟨o',e1⟩:=I.base.there b o e hx;exact⟨o',(hs.2 b (BN (Bm (Heap.lt_size e) I.ok.above))).trans e1⟩
 .by_cases hj:j=i
  .subst hj;rw[AKY hiY] at e2;cases e2
  .rw[DA (Ne.symm hj)] at e2;obtain⟨u',r',q⟩:=hl j y v' e1 e2 e3;refine⟨u',r',?_⟩;rcases q with⟨k,e⟩|⟨k,c,e,z⟩
   .refine .inl ⟨k,?_⟩;have:y≠x:=λe=>hj (Rj hN e1 (e▸hi));simp[this,e]
   .exact .inr ⟨k,c,e,z.sameBut hs (cne y c e)⟩
 .obtain⟨w',z⟩:=I.cell y c e;exact⟨w',z.sameBut hs (cne y c e)⟩
 .obtain⟨e,n,ne,nf,d⟩:=I.pin p hp;exact⟨(hs.2 p.1 ne).trans e,n,ne,nf,d⟩
 .refine(I.hok b ob e).stay (λc w' hc q=>(hs.2 c ?_).trans q) (λ_ q=>q) λ_ _ q=>q;rintro rfl;have hfree:=I.free;rcases hc with rfl|hc
  .rw[hfree] at e;cases e
  .rw[hfree] at hc;cases hc
def AA0{B:Heap}{ea C:Addr}{a0:Value}(I1:AG X pins Y H1 s1)(U:Un (Bl X.stack) [] H1 H' s1.heap h)(hok:By X.prog X.w H' h)(fly:Heap.FlyingW B X.stack ea (.ref C) a0 h)(Cv:Iy B X.stack s1.heap H') :
  H' ea=none/\Un (Bl X.stack) [] H1 (upd H' ea (.ext λh=>∃o,h.get? ea=some o/\o.cls=.ref C)) s1.heap h/\By X.prog X.w (upd H' ea (.ext λh=>∃o,h.get? ea=some o/\o.cls=.ref C)) h:=by
 have f0:H' ea=none:=by
  cases z:H' ea with
  |none=>rfl
  |some u =>
   obtain⟨o,e⟩:=Cv.2 ea u z;have:=fly.2.1;rw[this] at e;cases e
 have fresh:s1.heap.get? ea=none:=by
  cases z:s1.heap.get? ea with
  |none=>rfl
  |some o =>
   by_cases hb:ea∈Bl X.stack
   .obtain⟨_,o',ho',hd⟩:=I1.stack.mem hb;rw[z] at ho';cases ho';obtain⟨sl,e⟩:=U.slot ea o z (I1.stkFree ea hb) hb (by simp)
    obtain⟨oe,vs,e2,_,e3,_⟩:=fly.first
    rw[e] at e2;cases e2;exact absurd e3 (hd vs)
   .obtain⟨u,e⟩:=Cv.1 ea o z hb;have:=fly.2.1;rw[this] at e;cases e
 have ne:∀b o,s1.heap.get? b=some o->b≠ea:=λb o e z=>by subst z;rw[fresh] at e;cases e
 have neH:∀b u,H1 b=some u->b≠ea:=λb u e=>by
  obtain⟨o,q⟩:=WU (I1.hok b u e);exact ne b o q
 refine⟨f0,⟨U.keep,U.slot,λb o q n hx=>?_,U.there,λb xs q=>?_,λb o u q=>?_,λb ps q=>?_⟩,λa o e=>?_⟩
 .rw[Ax (ne b o q)];exact U.free b o q n hx
 .rw[Ax (neH b _ q)];exact U.tups b xs q
 .rw[Ax (neH b _ q)];exact U.frzs b o u q
 .rw[Ax (neH b _ q)];exact U.tbls b ps q
 .by_cases z:a=ea
  .subst z;rw[Bn] at e;cases e;obtain⟨o,e1,e2⟩:=fly.there;exact⟨⟨o,e1,e2⟩,⟨o,e1⟩,λh1 h2 z2_ k=>(by obtain⟨o,q,c⟩:=z2_;exact⟨o,k o q,c⟩)⟩
  .rw[Ax z] at e;exact(hok a o e).stay (λ_ _ _ q=>q) (λb q=>by rw[Ax (CW q f0)];exact q) λb xs q=>by rw[Ax (CW q f0)];exact q
end
def Fe.unset{K:AI}{H:Hp}{O:AMD}{Y:L2.St}{ρ:Fm}(h:Fe K H O Y ρ)(i:Nat):Fe K H O (Y.set i none) (ρ.set i none):=by
 refine⟨by simp[h.len],λj e q=>?_⟩
 by_cases z:j=i
 .subst z
  have hj:j<ρ.length:=by have:=(BA.mp q).1;simpa using this
  rw[AKY hj] at q;cases q
 .rw[DA (Ne.symm z)] at q;obtain⟨v',a,b⟩:=h.at' j e q;exact⟨v',by rw[DA (Ne.symm z)];exact a,b⟩
abbrev Xc(i:Nat)(o:EC):Option EC:=match o with
 |.next ρ L=>some (.next (ρ.set i none) L)
 |.ret d L=>some (.ret d L)
 |_=>none
abbrev NR(G:GL)(GX:Fd)(a:AF)(subs:Str->Bool)(i:Nat)(fh:SF):SF:=λρ L=>(a ρ L).bind λy=>match G y.1 y.2 with
 |some r=>some (.next ρ r.2)
 |none=>(GX y.1 y.2).bind λz=>if subs z.1=true then (fh (ρ.set i (some (.ref z.2.length))) (z.2++[.exn z.1])).bind (Xc i) else none
section
variable {X:Cx}{k i:Nat}{x c0 n:Str}{C0:Addr}{G:GL}{GX:Fd}{a:AF}{subs:Str->Bool}{fh:SF}{p pos pe pc ph pt:Pos}{e:Expr}{es:AME}{b0:Stmt}{body:AMF}
def ABo(F:GU X.prog X.w X.K X.mg X.base k x G GX)(hr:Room k X.A)(ha:Da X.nox (e::es) a)(hC:CS X.K c0 C0)(hsub:∀c,subs c=true->IB X.K c C0)(hN:X.N.Nodup)
  (hs:∀ev,EB (Xh X ev).nox (b0::body) fh) (hstk:X.stack=X.env::X.outer) (hfr:X.env.frame=some X.env.locals)
  (hi:X.N[i]?=some n:=by rfl) (hx:X.env.scope.names.lookup n=some .local:=by rfl)
  (hg:Gl X x:=by rfl) (hgc:Gl X c0:=by rfl) (hdb:(x == ("__debug__":Str))=false:=by decide) (hdc:(c0 == ("__debug__":Str))=false:=by decide)
  (he:Ci e=true:=by rfl) (hpl:es.all Ci=true:=by rfl) (hsw:swapsWith (.Call (.Name x p) (e::es) [] pos) none pe.line X.env=pure false:=by rfl) :
  DU X (.Try [.Expr (.Call (.Name x p) (e::es) [] pos) pe] [.ExceptHandler (some (.Name c0 pc)) (some n) (b0::body) ph] [] [] pt) (NR G GX a subs i fh):=by
 intro pins s Y H D I h;obtain⟨O,ρ,L,out,r,e0,k0⟩:=h;unfold NR at e0;obtain⟨y,e1,e0⟩:=FA.mp e0;obtain⟨fa,fd,ps,Fk,hm,hk,bi⟩:=F.ex;refine wpAny_Try_except (wpAny_execs_cons (wpAny_Expr_any ?_ I.quiet hsw));refine AL1 (Ge I hg hm ?_ hdb)
 refine ALU (h₀:=X.base) I.ok.mod.kin hk (Dc (ha pos pins s Y H (λvs H1=>∃O1,AY H O H1 O1/\Ai X.K H1 O1 y.2/\AM X.K H1 O1 vs y.1) (I.wish _) ⟨O,ρ,L,y.1,y.2,r,e1,λvs H1 O1 st rs is=>⟨O1,st,rs,is⟩⟩)
  (λus s1 q=>?_) λ_ _ z=>False.elim z) (Ef he) (Gc hpl)
 obtain⟨vs,H1,I1w,rv,O1,st1,rs1,is1⟩:=q;have I1:AG X pins Y H1 s1:=I1w.unwish;refine⟨I1.kIn,?_⟩;have hl:∀{Q E},Gz X.K G GX vs H1 Q E->(us++[]).length=ps.length:=λh=>by rw[FR,<-rv.length];exact Fk.len _ _ _ _ h
 cases eG:G y.1 y.2 with
 |some z =>
  rw[eG] at e0;cases e0;have hsp:Gz X.K G GX vs H1 (λv H'=>∃O',AY H1 O1 H' O'/\Ai X.K H' O' z.2) (λ_ _ _=>False):=.inl ⟨O1,y.2,y.1,z.1,z.2,rs1,is1,eG,λv H' O' st rs is=>⟨O',st,rs⟩⟩;refine wpAny_call (codeAny_mono (Fk.run X.A X.stack s1 H1 ⟨us,[]⟩ us vs _ _ hr I1.env0 (by have:=bi s1 us I1.kIn (hl hsp);rwa [FR] at this) rv hsp) λrr s' hq=>?_)
  cases rr with
  |error ev=>obtain⟨ea,cv,a0,H',B,_,_,_,_,_,_,_,z⟩:=hq;exact z.elim
  |ok fl =>
   cases fl with
   |ret u =>
    obtain⟨v,H',I',_,O',st,rs⟩:=I1.after hq;exact ALz (ALz ⟨Y,H',I',k0 Y H' O' (st1.trans st) ⟨rs,r.f.mono (st1.trans st)⟩⟩)
   |next=>exact False.elim hq
   |brk=>exact False.elim hq
   |cont=>exact False.elim hq
 |none =>
  rw[eG] at e0;obtain⟨z,eX,e0⟩:=FA.mp e0
  have hz:subs z.1=true:=by
   by_cases hz:subs z.1=true
   .exact hz
   .rw[if_neg hz] at e0;cases e0
  rw[if_pos hz] at e0;obtain⟨o1,e2,e3⟩:=FA.mp e0;obtain⟨C,zC,hmro⟩:=(hsub _ hz).ex;have hsp:Gz X.K G GX vs H1 (λ_ _=>False) (λcv _ H'=>cv=.ref C/\∃O',AY H1 O1 H' O'/\Ai X.K H' O' z.2):=.inr ⟨O1,y.2,y.1,z.1,z.2,C,rs1,is1,eX,zC.ns,λH' O' st rs=>⟨rfl,O',st,rs⟩⟩;refine wpAny_call (codeAny_mono (Fk.run X.A X.stack s1 H1 ⟨us,[]⟩ us vs _ _ hr I1.env0 (by have:=bi s1 us I1.kIn (hl hsp);rwa [FR] at this) rv hsp) λrr s' hq=>?_)
  cases rr with
  |ok fl =>
   cases fl with
   |ret u=>obtain⟨v,H',_,_,z⟩:=I1.after hq;exact z.elim
   |next=>exact False.elim hq
   |brk=>exact False.elim hq
   |cont=>exact False.elim hq
  |error ev =>
   obtain⟨ea,cv,a0,H',B,rfl,ho,hg',U,hok,fly,Cv,rfl,O',st2,rs2⟩:=hq;have fly0:Heap.FlyingW B (X.env::X.outer) ea (.ref C) a0 s'.heap:=by rw[<-hstk];exact fly
   refine wpAny_looks_onW (by rw[I1.ok.frames,hstk]) hfr fly0 λh1 held up1=>?_;refine wpAny_landsW held λh2 fly2 up2=>?_;have un2:=JR I1 U hok fly.1 Cv fly2.1 (up1.trans up2);have II:AG X pins Y H' {s' with heap:=h2}:=I1.call' ho un2.1 un2.2 hg' (λb z=>absurd z (by simp));have hm0:X.mg c0=some (.ref C0):=Cn II.mod.kin II.mod.glob hC.ns;refine wpAny_handleBy_cons (codeAny_handlers_test ?_) (by intro q;cases q);refine Ge (OE II (.ref ea)) hgc hm0 ?_ hdc;obtain⟨ob,hob,hcls⟩:=fly2.there;obtain⟨bm,N,nm,qn,bs,hd,sn,sub,ab,col,dd,k1,k2,k3,k4,k5,mN,hobj,_⟩:=Hv II.kIn zC;refine YB (Hv II.kIn hC) hob hcls hobj (Wb II.kIn hmro hobj) ?_;show codeAny _ _ _ _ _;refine codeAny_handlers_suite_as (lands_againW fly2 λh3 fly3 up3=>?_);have un3:=JR I1 U hok fly.1 Cv fly3.1 ((up1.trans up2).trans up3);obtain⟨f0,un4,hok4⟩:=AA0 I1 un3.1 un3.2 (by rw[hstk];exact fly3) Cv;have III:AG X pins Y _ {s' with heap:=h3}:=I1.call' ho un4 hok4 hg' (λb z=>absurd z (by simp));have rs3:=rs2.new (o:=.exn z.1) f0 ⟨C,zC.ns,Bn⟩;have st3:AY H' O' (upd H' ea (.ext λh=>∃o,h.get? ea=some o/\o.cls=.ref C)) (O'++[ea]):=⟨.new f0,Aj _ _⟩;have st4:=(st1.trans st2).trans st3;have is3:Is X.K (upd H' ea (.ext λh=>∃o,h.get? ea=some o/\o.cls=.ref C)) (O'++[ea]) (.ref ea) (.ref z.2.length):=.ref (by rw[<-rs2.len];simp);refine Na (v:=.ref ea) III hN hi (.inl hx) rfl (λs4 I4=>?_) (.inr hx);refine Dc (hs (.ref ea) pins s4 _ _ {nx:=λY' H'=>D.nx (Y'.set i none) H',rt:=D.rt} ((OE I4 _).wish _) ⟨O'++[ea],_,_,o1,⟨rs3,(r.f.mono st4).set is3 i⟩,e2,?_⟩) (λf s5 q=>?_) λ_ _ z=>False.elim z
   .cases o1 with
    |next ρ' L' =>
     cases e3;exact λY' H2 O2 st rr=>k0 _ H2 O2 (st4.trans st) ⟨rr.s,rr.f.unset i⟩
    |ret d L' =>
     cases e3;exact λv H2 O2 st rr is=>k0 v H2 O2 (st4.trans st) rr is
    |brk ρ' L'=>cases e3
    |cont ρ' L'=>cases e3
   .have q2:=VT III.ok q.unwish
    cases f with
    |next =>
     obtain⟨Y',H2,I5,q3⟩:=q2;exact Xb I5 hN hi hx λs6 I6=>⟨_,H2,I6,q3⟩
    |ret u =>
     obtain⟨v,Y',H2,I5,rr,q3⟩:=q2;exact Xb I5 hN hi hx λs6 I6=>⟨v,_,H2,I6,rr,q3⟩
    |brk=>obtain⟨Y',H2,I5,q3⟩:=q2;exact False.elim q3
    |cont=>obtain⟨Y',H2,I5,q3⟩:=q2;exact False.elim q3
end
section
variable {X:Cx}{c:Str}{C:Addr}{pos:Pos}
def ADC(hm:DI X.K c C)(hg:Gl X c:=by rfl)(hdb:(c == ("__debug__":Str))=false:=by decide):PE X (.Name c pos) (tC (.ref C)) :=
 λpins s Y H Q I h=>Ge I hg (Cn I.mod.kin I.mod.glob hm) ⟨.ref C,H,I,rfl,h⟩ hdb
abbrev NX(vs:List V):TA:=λ_ H Q=>Q vs H
def ADS:PA X [] (NX []):=LD
def Nq{ts:AME}{vs:List V}(hr:PA X ts (NX vs))(hm:DI X.K c C)(hg:Gl X c:=by rfl)(hdb:(c == ("__debug__":Str))=false:=by decide):PA X (.Name c pos::ts) (NX (.ref C::vs)) :=
 Hg (ADC hm hg hdb) hr
end
abbrev AFj(K:AI):List V->Hp->VK->Prop:=λvs H Q=>∃(ea C:Addr) (c:Str) (v:V) (b:Bool),vs=[.ref ea,v]/\H ea=some (.ext λh=>∃o,h.get? ea=some o/\o.cls=.ref C)/\CS K c C/\FK K C /\
 ((∃n,v=.ty n/\AKo K (.ref C) (.type n)=some b)\/∃(tp:Addr) (Cs:AMD),v=.ref tp/\H tp=some (.tup (Cs.map .ref))/\ALE K (.ref C) (Cs.map Value.ref)=some b)/\Q (.bl b) H
def Ue:∀{Cs:AMD} {us:AMC},AV (Cs.map .ref) us->us=Cs.map Value.ref
 |[],_,r=>by cases r;rfl
 |a::l,us,r=>by
  cases r with
  |cons r1 r2 =>
   have e:_=Value.ref a:=r1;rw[e,Ue r2];rfl
def YY{X:Cx}:CD X (.builtin "isinstance") (AFj X.K):=by
 intro pins s Y H xs us Q I r h;obtain⟨ea,C,c,v,b,rfl,hH,z,ec,hv,q⟩:=h;obtain⟨px,_,_⟩:=I.hok ea _ hH
 cases r with
 |cons r1 r2 =>
  cases r2 with
  |cons r2 r3 =>
   cases r3;have e1:_=Value.ref ea:=r1;subst e1;rcases hv with⟨n,rfl,hk⟩|⟨tp,Cs,rfl,hT,hk⟩
   .have e2:_=Value.type n:=r2;subst e2;exact FM (XB z ec) I.kIn px hk (by intro q;cases q) λtk=>⟨.bl b,H,I.tok tk,rfl,q⟩
   .have e2:_=Value.ref tp:=r2;subst e2;obtain⟨_,its,rv,o,ho,hc,nn,hd⟩:=I.hok tp _ hT;have ei:=Ue rv;subst ei;obtain⟨oc,od,oo,os⟩:=o;dsimp only at hc hd;subst hc hd;exact PySem.W.kia_tup (XB z ec) I.kIn px ho hk (by intro q;cases q) λtk=>⟨.bl b,H,I.tok tk,rfl,q⟩
abbrev Ie(i:Nat)(f:Str->Option Bool):EF:=λρ L=>match ρ[i]? with
 |some (some (.ref k))=>(match L[k]? with|some (.exn c)=>(f c).bind λb=>some (.bl b,L)|_=>none)
 |_=>none
def XN{i:Nat}{f:Str->Option Bool}{ρ:Fm}{L L':AB}{d:D}(e:Ie i f ρ L=some (d,L')):∃k c b,ρ[i]?=some (some (.ref k))/\L[k]?=some (.exn c)/\f c=some b/\d=.bl b/\L'=L:=by
 unfold Ie at e;split at e
 .rename_i k hk;split at e
  .rename_i c hc;obtain⟨b,e1,e2⟩:=FA.mp e;cases e2;exact⟨k,c,b,hk,hc,e1,rfl,rfl⟩
  .cases e
 .cases e
def AGY:bootBuiltins "ValueError"=some (.type "ValueError"):=by decide +kernel
section
variable {X:Cx}{i:Nat}{n:Str}{f:Str->Option Bool}{p p1 p2 pos:Pos}{ts:AME}{Cs:AMD}
def AFw{cx:Nat}(hp:PA X ts (NX (Cs.map V.ref)))(hlen:Cs.length<=sizeLine)(hf:∀c b,f c=some b->∃C,CS X.K c C/\FK X.K C/\ALE X.K (.ref C) (Cs.map Value.ref)=some b)(hm:X.mg "isinstance"=none)
  (hN:X.N[i]?=some n:=by rfl) (hv:IA X.env.scope n:=by first|exact Or.inl rfl|exact Or.inr (Or.inl rfl)) (hd:(n == ("__debug__":Str))=false:=by decide) (hcd:(n == ("__classdict__":Str))=false:=by decide) (hg:Gl X "isinstance":=by rfl) :
  AO X (.Call (.Name "isinstance" p) [.Name n p1,.Tuple ts cx p2] [] pos) (Ie i f) :=
 PE.weaken (Re YY hg hm Yf (Hg (Rb hN hv hd hcd) (Hg (Rc hp) LD))) λY H Q z3_=>by
  obtain⟨O,ρ,L,d,L',r,e,k⟩:=z3_;obtain⟨k0,c,b,e1,e2,e3,rfl,rfl⟩:=XN e;obtain⟨v,e4,e5⟩:=r.f.at' i _ e1
  cases e5 with
  |ref e6 =>
   rename_i a;obtain⟨C',hC',hH⟩:=r.s.ob k0 a _ e6 e2;obtain⟨C,z,ec,hk⟩:=hf c b e3
   have hCC:C'=C:=by have:=z.ns;unfold DI at hC';rw[hC'] at this;cases this;rfl
   subst hCC;refine⟨.ref a,e4,?_⟩;refine⟨by simpa using hlen,λq hq=>?_⟩;exact⟨a,C',c,.ref q,b,rfl,by rw[Ax (CW hH hq)];exact hH,z,ec,.inr ⟨q,Cs,rfl,Bn,hk⟩,k _ _ O ⟨.new hq,An _⟩ (r.s.ext λb u e=>by rw[Ax (CW e hq)];exact e) (.bl b)⟩
def AFv(hf:∀c b,f c=some b->∃C,CS X.K c C/\FK X.K C/\AKo X.K (.ref C) (.type "ValueError")=some b)(hm:X.mg "isinstance"=none)(hmV:X.mg "ValueError"=none)
  (hN:X.N[i]?=some n:=by rfl) (hv:IA X.env.scope n:=by first|exact Or.inl rfl|exact Or.inr (Or.inl rfl)) (hd:(n == ("__debug__":Str))=false:=by decide) (hcd:(n == ("__classdict__":Str))=false:=by decide) (hg:Gl X "isinstance":=by rfl) (hgV:Gl X "ValueError":=by rfl) :
  AO X (.Call (.Name "isinstance" p) [.Name n p1,.Name "ValueError" p2] [] pos) (Ie i f) :=
 PE.weaken (Re YY hg hm Yf (Hg (Rb hN hv hd hcd) (Hg (show PE X (.Name "ValueError" p2) (tC (.ty "ValueError")) from λpins s Y H Q I h=>HD I hgV hmV AGY ⟨.ty "ValueError",H,I,rfl,h⟩ (by decide) (by decide)) LD))) λY H Q z3_=>by
  obtain⟨O,ρ,L,d,L',r,e,k⟩:=z3_;obtain⟨k0,c,b,e1,e2,e3,rfl,rfl⟩:=XN e;obtain⟨v,e4,e5⟩:=r.f.at' i _ e1
  cases e5 with
  |ref e6 =>
   rename_i a;obtain⟨C',hC',hH⟩:=r.s.ob k0 a _ e6 e2;obtain⟨C,z,ec,hk⟩:=hf c b e3
   have hCC:C'=C:=by have:=z.ns;unfold DI at hC';rw[hC'] at this;cases this;rfl
   subst hCC;exact⟨.ref a,e4,a,C',c,.ty "ValueError",b,rfl,hH,z,ec,.inl ⟨"ValueError",rfl,hk⟩,k _ _ O (.refl _ _) r.s (.bl b)⟩
end
abbrev only(c0:Str):Str->Bool:=λc=>c == c0
abbrev IV(c0:Str)(b:Bool):Str->Option Bool:=λc=>if (c == c0)=true then some b else none
def VE{K:AI}{c0:Str}{C0:Addr}(h:IB K c0 C0):∀c,only c0 c=true->IB K c C0:=λc e=>by
 unfold only at e;rw[eq_of_beq e];exact h
def AEp{K:AI}{c0:Str}{C:Addr}{vs:AMC}{b:Bool}(z:CS K c0 C)(ec:FK K C)(k:ALE K (.ref C) vs=some b) :
  ∀c b',IV c0 b c=some b'->∃C,CS K c C/\FK K C/\ALE K (.ref C) vs=some b':=λc b' e=>by
 unfold IV at e;split at e
 .rename_i h;cases e;rw[eq_of_beq h];exact⟨C,z,ec,k⟩
 .cases e
def AEq{K:AI}{c0:Str}{C:Addr}{v:Value}{b:Bool}(z:CS K c0 C)(ec:FK K C)(k:AKo K (.ref C) v=some b) :
  ∀c b',IV c0 b c=some b'->∃C,CS K c C/\FK K C/\AKo K (.ref C) v=some b':=λc b' e=>by
 unfold IV at e;split at e
 .rename_i h;cases e;rw[eq_of_beq h];exact⟨C,z,ec,k⟩
 .cases e
open Sem (wp) in
abbrev CT{prog:Program}{w:World}{κ:Type}[DecidableEq κ](knd:HeapKind prog w κ)(h:Heap)(d:Addr)(xs:List (κ×Addr×Value))(ep:Nat):Prop :=
 ∃o es,h.get? d=some o/\o.ExactDict/\o.data=.dict es ep/\es.toList=xs.map (entryOfKey knd)/\(∀x∈xs,knd.is h x.1 x.2.1)/\(xs.map (·.1)).Nodup
abbrev Em{κ:Type}[DecidableEq κ](xs:List (κ×Addr×Value))(k:κ)(ep:Nat):Nat:=if (atKey xs k).isSome=true then ep else ep+1
section
variable {prog:Program}{w:World}{κ:Type}[DecidableEq κ]{knd:HeapKind prog w κ}{A:Around}{E:AMI}{s:Shared}{d a:Addr}{k:κ}{xs:List (κ×Addr×Value)}{ep:Nat}
def CT.of{h:Heap}(x:CT knd h d xs ep):h.DictOfH knd d xs:=let ⟨o,es,h1,h2,h3,r⟩:=x;⟨o,es,ep,h1,h2,h3,r⟩
def AGk(hn:atKey xs k=none):k∉xs.map (·.1):=λhm=>by
 obtain⟨x,hx,rfl⟩:=Aw.mp hm;have h0:(xs.find? λy=>decide (y.1=x.1))=none:=by simpa[atKey] using hn
 simpa using ALb.mp h0 x hx
def CT.grown{h:Heap}(x:CT knd h d xs ep)(hn:atKey xs k=none)(hk:knd.is h k a)(v:Value) :
  CT knd (h.update d (Obj.mapDictKeys (·.push ⟨knd.hash k,.ref a,v⟩))) d (xs++[(k,a,v)]) (ep+1)/\Heap.SameBut d h (h.update d (Obj.mapDictKeys (·.push ⟨knd.hash k,.ref a,v⟩))):=by
 have sb:Heap.SameBut d h (h.update d (Obj.mapDictKeys (·.push ⟨knd.hash k,.ref a,v⟩))):=.update ..;obtain⟨o,es,g,ex,dat,el,all,nd⟩:=x;have stay:∀y∈xs++[(k,a,v)],knd.is h y.1 y.2.1:=λy hy=>(CF.mp hy).elim (all y) λz=>by rw[Fi.mp z];exact hk
 refine⟨⟨_,_,Heap.get?_update_self _ g (Obj.isFreed_of_dict (Obj.data_mapDictKeys dat _)),ex.mapDictKeys _,Obj.data_mapDictKeys dat _,by simp[el,entryOfKey],λy hy=>knd.keeps (stay y hy) g dat sb,?_⟩,sb⟩;rw[Co];exact AKg.mpr ⟨nd,by simp,λy hy z hz e=>AGk hn (by rw[show z=k by simpa using hz] at e;rwa [<-e])⟩
def CT.turned{h:Heap}(x:CT knd h d xs ep){j:Nat}{q:Addr×Value}(hj:xs[j]?=some (k,q))(v:Value) :
  CT knd (h.update d (Obj.mapDict (·.modify j λe=>{e with val:=v}))) d (xs.map (putAt k v)) ep/\Heap.SameBut d h (h.update d (Obj.mapDict (·.modify j λe=>{e with val:=v}))):=by
 have sb:Heap.SameBut d h (h.update d (Obj.mapDict (·.modify j λe=>{e with val:=v}))):=.update ..;obtain⟨o,es,g,ex,dat,el,all,nd⟩:=x
 have rows:(es.modify j λe=>{e with val:=v}).toList=(xs.map (putAt k v)).map (entryOfKey knd):=by rw[<-modify_map_putAt (entryOfKey knd) (λe:DictEntry=>{e with val:=v}) k v (λ_ _=>rfl) nd hj,<-el];simp
 refine⟨⟨_,_,Heap.get?_update_self _ g (Obj.isFreed_of_dict (Obj.data_mapDict dat _)),ex.mapDict _,Obj.data_mapDict dat _,rows,λy hy=>?_,by rw[keys_map_putAt];exact nd⟩,sb⟩;rw[Aw] at hy;obtain⟨z,hz,rfl⟩:=hy;have e1:(putAt k v z).1=z.1/\(putAt k v z).2.1=z.2.1:=by unfold putAt;split <;> exact⟨rfl,rfl⟩
 rw[e1.1,e1.2];exact knd.keeps (all z hz) g dat sb
def CT.find{G:Option Nat->Shared->Prop}(hu:knd.room A)(hk:knd.is s.heap k a)(x:CT knd s.heap d xs ep)(no:atKey xs k=none->G none s)(yes:∀j q,xs[j]?=some (k,q)->atKey xs k=some q->G (some j) s) :
  wpAny (model prog w) A (dictFind d (.ref a) (knd.hash k)) G E s:=by
 obtain⟨o,es,g,ex,dat,el,all,nd⟩:=x;exact wpAny_dictFind_heap hu hk g dat el all nd (λf=>no (atKey_none_of_get f)) λj q hj=>yes j q hj (atKey_of_get nd hj)
def CT.room(x:CT knd s.heap d xs ep):∃o es,s.heap.get? d=some o/\o.data=.dict es ep/\es.size=xs.length:=by obtain⟨o,es,g,ex,dat,el,_⟩:=x;exact⟨o,es,g,dat,size_of_entries el⟩
def AF6{v:Value}{Q:Unit->Shared->Prop}(hu:knd.room A)(hk:knd.is s.heap k a)(x:CT knd s.heap d xs ep)(hz:xs.length<=sizeLine)
  (q:∀h',CT knd h' d (storedH xs k a v) (Em xs k ep)->Heap.SameBut d s.heap h'->Q () {s with heap:=h',toks:=s.toks+knd.draws k}):wpAny (model prog w) A (dictSet d (.ref a) v) Q E s:=by
 obtain⟨o,es,g,dat,sz⟩:=x.room;unfold dictSet dictSetHashed
 (try with_reducible refine DJ ?_)
 refine AE (knd.pyHash hu hk ?_)
 (try with_reducible refine DJ ?_)
 refine AE (CT.find (s:={s with toks:=s.toks+knd.draws k}) hu hk x (λn=>?_) λj p hj e=>?_)
 .obtain⟨y,sb⟩:=x.grown n hk v;have e1:Em xs k ep=ep+1:=by simp[Em,n]
  rw[e1,storedH_new n] at q;exact AE (ALw (wpAny_updateDictKeys (s:={s with toks:=s.toks+knd.draws k}) (hz:=by omega) g dat (q _ y sb)))
 .obtain⟨y,sb⟩:=x.turned hj v;have e1:Em xs k ep=ep:=by simp[Em,e]
  rw[e1,storedH_old e] at q;exact AE (ALw (AE (wpAny_updateDict (s:={s with toks:=s.toks+knd.draws k}) g dat (wpAny_point (q _ y sb)))))
def ABu{v:Value}{Q:Unit->Shared->Prop}(hu:knd.room A.in1)(hk:knd.is s.heap k a)(x:CT knd s.heap d xs ep)(hz:xs.length<=sizeLine)
  (q:∀h',CT knd h' d (storedH xs k a v) (Em xs k ep)->Heap.SameBut d s.heap h'->Q () {s with heap:=h',toks:=s.toks+knd.draws k}):wpAny (model prog w) A (setItem (.ref d) (.ref a) v) Q E s:=by
 have ty:=x.of.typeIs
 have inner:∀{R:AMI} {F:AMI},(∀h',CT knd h' d (storedH xs k a v) (Em xs k ep)->Heap.SameBut d s.heap h'->R .none {s with heap:=h',toks:=s.toks+knd.draws k}) ->
   wpAny (model prog w) A.in1 (Builtin.«dict.__setitem__» ⟨[.ref d,.ref a,v],[]⟩) (λfi s2=>∃v,fi=PySem.Fin.done (Flow.ret v)/\R v s2) F s:=λ{R F} r=>by
  show wpAny _ _ (Builtin.Dict.notOrdered "__setitem__" ⟨[.ref d,.ref a,v],[]⟩ >>= λ_=>dictSet d (.ref a) v >>= _) _ F s;exact AE (AL5 ty (AE (AF6 hu hk x hz λh' y sb=>AK ⟨.none,rfl,r h' y sb⟩)))
 unfold setItem
 (try with_reducible refine DJ ?_)
 exact AE (wpAny_sequenceKey ty (by decide) (AE (AL2 (name:=Str.ofString "__setitem__") ty slot_dict_setitem (Fg slot_dict_setitem ty entry_dict_setitem (inner λh' y sb=>AK (q h' y sb)) (args_dict_setitem _ _ _)))))
end
section
variable {X:Cx}{pins:List (Addr×Obj)}{Y:L2.St}{H:Hp}{s:Shared}{O:AMD}{L:AB}
def key_leaf{k:Key}{v:V}{u:Value}(i:Is X.K H O v (keyD k))(r:AX v u):Dm k u:=by
 cases k with
 |inl n=>cases i;obtain⟨t,rfl⟩:=r;exact AEe _ _
 |inr x=>cases i;obtain⟨t,rfl⟩:=r;exact AEd _ _
def keys_leaf:∀{ks:List Key} {vs:List V} {us:AMC},AM X.K H O vs (ks.map keyD)->AV vs us->Paired Dm ks us
 |[],_,_,i,r=>by cases i;cases r;exact .nil
 |k::ks,_,_,i,r=>by
  cases i with|cons i1 i2=>cases r with|cons r1 r2=>exact .cons (key_leaf i1 r1) (keys_leaf i2 r2)
def SA(I:AG X pins Y H s):∀{ks:NK} {vs:List V} {us:AMC},AM X.K H O vs (ks.map Ib)->AV vs us->Paired (GR s.heap) ks us
 |[],_,_,i,r=>by cases i;cases r;exact .nil
 |.inl k::ks,_,_,i,r=>by
  cases i with|cons i1 i2=>cases r with|cons r1 r2=>exact .cons (key_leaf i1 r1) (SA I i2 r2)
 |.inr k::ks,v::_,_,i,r=>by
  cases i with|cons i1 i2=>cases r with|cons r1 r2 =>
   have i1':Is X.K H O v (.tup (k.map keyD)):=i1
   cases i1' with|tup h il =>
    obtain⟨its,rv,t,_⟩:=I.tuple h;exact .cons ⟨_,its,r1,t,keys_leaf il rv⟩ (SA I i2 r2)
def Jd(I:AG X pins Y H s){k:NK}{b:Addr}(i:Is X.K H O (.ref b) (Dh k)):(HE X.prog X.w).is s.heap k b:=by
 have i':Is X.K H O (.ref b) (.tup (k.map Ib)):=i
 cases i' with|tup h il =>
  obtain⟨its,rv,t,_⟩:=I.tuple h;exact⟨its,t,SA I il rv⟩
end
abbrev Lf:D->Option Key
 |.int i=>some (.inl i)
 |.str x=>some (.inr x)
 |_=>none
abbrev Iq:List D->Option (List Key)
 |[]=>some []
 |d::r=>(Lf d).bind λk=>(Iq r).map (k::·)
abbrev Ir:D->Option (Key ⊕ List Key)
 |.int i=>some (.inl (.inl i))
 |.str x=>some (.inl (.inr x))
 |.tup ds=>(Iq ds).map .inr
 |_=>none
abbrev EU:List D->Option NK
 |[]=>some []
 |d::r=>(Ir d).bind λk=>(EU r).map (k::·)
abbrev dNK:D->Option NK
 |.tup ds=>EU ds
 |_=>none
def AF9{d:D}{k:Key}(e:Lf d=some k):d=keyD k:=by unfold Lf at e;split at e <;> cases e <;> rfl
def YU:∀{ds:List D} {ks:List Key},Iq ds=some ks->ds=ks.map keyD
 |[],ks,e=>by cases e;rfl
 |d::r,ks,e=>by
  unfold Iq at e;obtain⟨k,e1,e2⟩:=FA.mp e;obtain⟨l,e3,rfl⟩:=AKf.mp e2;rw[AF9 e1,YU e3];rfl
def AGA{d:D}{k:Key ⊕ List Key}(e:Ir d=some k):d=Ib k:=by
 unfold Ir at e;split at e
 .cases e;rfl
 .cases e;rfl
 .obtain⟨l,e3,rfl⟩:=AKf.mp e;rw[YU e3];rfl
 .cases e
def YV:∀{ds:List D} {ks:NK},EU ds=some ks->ds=ks.map Ib
 |[],ks,e=>by cases e;rfl
 |d::r,ks,e=>by
  unfold EU at e;obtain⟨k,e1,e2⟩:=FA.mp e;obtain⟨l,e3,rfl⟩:=AKf.mp e2;rw[AGA e1,YV e3];rfl
def OX{d:D}{k:NK}(e:dNK d=some k):d=Dh k:=by
 unfold dNK at e;split at e
 .rw[YV e];rfl
 .cases e
def LL{K:AI}{H:Hp}{O:AMD}{v:V}{d:D}{k:NK}(i:Is K H O v d)(e:dNK d=some k):∃b,v=.ref b/\Is K H O (.ref b) (Dh k):=by rw[OX e] at i;have i':Is K H O v (.tup (k.map Ib)):=i;cases i' with|tup h il=>exact⟨_,rfl,.tup h il⟩
abbrev Bj(kvs:List (NK×D))(k:NK):Option D:=(kvs.find? λkv=>decide (kv.1=k)).map (·.2)
abbrev DB(kvs:List (NK×D))(k:NK)(d:D):List (NK×D) :=
 if (kvs.any λkv=>decide (kv.1=k))=true then kvs.map (λkv=>if kv.1=k then (kv.1,d) else kv) else kvs++[(k,d)]
section
variable {X:Cx}{pins:List (Addr×Obj)}{Y:L2.St}{H:Hp}{s:Shared}{O:AMD}{L:AB}{a:Addr}
inductive Cf (K:AI) (H:Hp) (O:AMD):List (NK×D)->List (NK×Addr×V)->List (NK×Addr×Value)->Prop
 |nil:Cf K H O [] [] []
 |cons {k:NK} {d:D} {b:Addr} {v:V} {u:Value} {kvs us xs}:Is K H O v d->AX v u->Cf K H O kvs us xs->Cf K H O ((k,d)::kvs) ((k,b,v)::us) ((k,b,u)::xs)
def row3_of{K:AI}:∀{kvs:List (NK×D)} {us:List (NK×Addr×V)} {xs:List (NK×Addr×Value)},us.map (·.1)=kvs.map (·.1)->AM K H O (us.map (·.2.2)) (kvs.map (·.2)) ->
  Paired (λ(p:NK×Addr×V) (q:NK×Addr×Value)=>p.1=q.1/\p.2.1=q.2.1/\AX p.2.2 q.2.2) us xs->Cf K H O kvs us xs
 |[],[],_,_,_,r=>by cases r;exact .nil
 |(k,d)::kvs,(k',b,v)::us,_,e,i,r=>by
  simp only[Ah,List.cons.injEq] at e;obtain⟨e1,e2⟩:=e
  cases r with
  |@cons _ q _ qs r1 r2 =>
   obtain⟨q1,q2,q3⟩:=q;obtain⟨h1,h2,h3⟩:=r1;simp only at e1 h1 h2 h3;subst e1 h1 h2
   cases i with
   |cons i1 i2=>exact .cons i1 h3 (row3_of e2 i2 r2)
 |[],_::_,_,e,_,_=>by simp at e
 |_::_,[],_,e,_,_=>by simp at e
def Cf.look{K:AI}{kvs:List (NK×D)}{us:List (NK×Addr×V)}{xs:List (NK×Addr×Value)}(r:Cf K H O kvs us xs)(k:NK) :
  (Bj kvs k=none/\atKey xs k=none)\/∃d b v u,Bj kvs k=some d/\atKey xs k=some (b,u)/\Is K H O v d/\AX v u/\(k,b,v)∈us:=by
 induction r with
 |nil=>exact .inl ⟨rfl,rfl⟩
 |@cons k' d b v u kvs us xs i rv t ih =>
  by_cases e:k'=k
  .subst e;exact .inr ⟨d,b,v,u,by simp[Bj],by simp[atKey],i,rv,BC⟩
  .have e1:Bj ((k',d)::kvs) k=Bj kvs k:=by simp[Bj,FB,e]
   have e2:atKey ((k',b,u)::xs) k=atKey xs k:=by simp[atKey,FB,e]
   rw[e1,e2];rcases ih with h|⟨d,b,v,u,h1,h2,h3,h4,h5⟩
   .exact .inl h
   .exact .inr ⟨d,b,v,u,h1,h2,h3,h4,Az _ h5⟩
def Le(I:AG X pins Y H s){kvs:List (NK×D)}{ep:Nat}(h:GQ X.K H O a (.dt kvs ep)):∃us xs,H a=some (.dN us ep)/\(a == sysModules)=false/\us.length<=sizeLine/\Cf X.K H O kvs us xs/\(∀u∈us,Is X.K H O (.ref u.2.1) (Dh u.1))/\CT (HE X.prog X.w) s.heap a xs ep:=by
 obtain⟨us,e,e1,il,ik⟩:=h;obtain⟨z,y,xs,r,o,es,h1,h2,h3,h4,h5⟩:=(show Bx X.prog X.w H s.heap a (.dN us ep) from I.hok a _ e);refine⟨us,xs,e,y,z,row3_of e1 il r,ik,o,es,h1,h2,h3,h4,λx hx=>?_,h5⟩
 have all:∀{l:List (NK×Addr×V)} {m:List (NK×Addr×Value)},Paired (λ(p:NK×Addr×V) (q:NK×Addr×Value)=>p.1=q.1/\p.2.1=q.2.1/\AX p.2.2 q.2.2) l m->(∀u∈l,Is X.K H O (.ref u.2.1) (Dh u.1))->∀x∈m,(HE X.prog X.w).is s.heap x.1 x.2.1:=by
  intro l m q
  induction q with
  |nil=>intro _ x hx;exact nomatch hx
  |@cons p q ps qs hq t ih =>
   intro hl x hx;rcases AW.mp hx with e|hx
   .subst e;rw[<-hq.1,<-hq.2.1];exact Jd I (hl p BC)
   .exact ih (λu hu=>hl u (Az _ hu)) x hx
 exact all r ik x hx
end
section
variable {X:Cx}
def AA2{prog:Program}{w:World}{A:Around}{E:AMI}{s:Shared}{value slice:Expr}{T id:String}{o i:Value}{Q:AMI}
  (hl:typeLookup (.type T) "__getitem__"=pure (some (.builtin id))) (hs:subscripted slice false o i=operate [o,i] (getItem o i)) (ty:s.TypeIs o T) (got:wpAny (model prog w) A (getItem o i) Q E s) :
  wpAny (model prog w) A (subscriptTail value slice o i) Q E s:=by
 have all:∀{k:Sem Value},k=(subscripted slice false o i >>= λr=>letTemporaryGo value o r >>= λ_=>pure r)->wpAny (model prog w) A k Q E s:=λ{k} ek=>by
  rw[ek,hs];exact AE (wpAny_operating (Dc got (λr _ z=>AE (wpAny_letTemporaryGo (AK z))) λ_ _ z=>z))
 unfold subscriptTail;rw[getitemInPython_of_ne ty.not_modules];refine AE (AE (wpAny_specialOf ty hl ?_))
 first|exact AK (all rfl)|exact AE (AK (all rfl))|exact all rfl
abbrev GB:G2:=λx y L=>match x with
 |.ref i=>(match L[i]? with|some (.dt kvs _)=>(dNK y).bind λk=>(Bj kvs k).map λd=>(d,L)|_=>none)
 |_=>none
def AFQ{x y d:D}{L L':AB}(e:GB x y L=some (d,L')):∃i kvs ep k,x=.ref i/\L[i]?=some (.dt kvs ep)/\dNK y=some k/\Bj kvs k=some d/\L'=L:=by
 unfold GB at e;split at e
 .rename_i i;split at e
  .rename_i kvs ep e1;obtain⟨k,e2,e3⟩:=FA.mp e;obtain⟨d',e4,e5⟩:=AKf.mp e3;cases e5;exact⟨i,kvs,ep,k,rfl,e1,e2,e4,rfl⟩
  .cases e
 .cases e
def AHG(hu:X.A.units+64<cLine):Oq X GB:=by
 rintro value slice pins s Y H x y v u Q I rx ry ⟨O,L,dx,dy,d,L',rs,ix,iy,e,k⟩ hs;obtain⟨i,kvs,ep,k0,rfl,e1,e2,e3,rfl⟩:=AFQ e
 cases ix with|ref hi =>
  obtain⟨us,xs,ha,hsm,hz,r3,hk,dd⟩:=Le I (rs.ob i _ _ hi e1);obtain⟨b,rfl,ik⟩:=LL iy e2;cases rx;cases ry;rcases r3.look k0 with⟨n,_⟩|⟨d',b',v',u',l,at_,iv,rv,_⟩
  .rw[e3] at n;cases n
  .rw[e3] at l;cases l;refine AA2 PySem.F.slot_dict_getitem.lookup hs dd.of.typeIs (wpAny_getItem_heap (show X.A.in1.units+1<cLine from by show X.A.units+1+1<cLine;omega) (Jd I ik) dd.of at_ ?_);exact⟨v',H,I.tok _,rv,k _ _ _ (.refl _ _) rs iv⟩
abbrev Gi(neg:Bool):G2:=λx y L=>match y with
 |.ref i=>(match L[i]? with|some (.dt kvs _)=>(dNK x).map λk=>(.bl (neg != (Bj kvs k).isSome),L)|_=>none)
 |_=>none
def Xr{neg:Bool}{x y d:D}{L L':AB}(e:Gi neg x y L=some (d,L')):∃i kvs ep k,y=.ref i/\L[i]?=some (.dt kvs ep)/\dNK x=some k/\d=.bl (neg != (Bj kvs k).isSome)/\L'=L:=by
 unfold Gi at e;split at e
 .rename_i i;split at e
  .rename_i kvs ep e1;obtain⟨k,e2,e3⟩:=AKf.mp e;cases e3;exact⟨i,kvs,ep,k,rfl,e1,e2,rfl,rfl⟩
  .cases e
 .cases e
def Cf.some_eq{K:AI}{H:Hp}{O:AMD}{kvs:List (NK×D)}{us:List (NK×Addr×V)}{xs:List (NK×Addr×Value)}(r:Cf K H O kvs us xs)(k:NK):(atKey xs k).isSome=(Bj kvs k).isSome:=by
 rcases r.look k with⟨a,b⟩|⟨d,b,v,u,h1,h2,_⟩
 .rw[a,b];rfl
 .rw[h1,h2];rfl
def AIj(hu:X.A.units+64<cLine):Cm X (compareOp .In) (Gi false):=by
 rintro pins s Y H x y v u Q I rx ry ⟨O,L,dx,dy,d,L',rs,ix,iy,e,k⟩;obtain⟨i,kvs,ep,k0,rfl,e1,e2,rfl,rfl⟩:=Xr e
 cases iy with|ref hi =>
  obtain⟨us,xs,ha,hsm,hz,r3,hk,dd⟩:=Le I (rs.ob i _ _ hi e1);obtain⟨b,rfl,ik⟩:=LL ix e2;cases rx;cases ry;refine wpAny_in_heap (show X.A.in1.units+1<cLine from by show X.A.units+1+1<cLine;omega) (Jd I ik) hsm dd.of ?_;rw[r3.some_eq];exact⟨.bl (Bj kvs k0).isSome,H,I.tok _,rfl,k _ _ _ (.refl _ _) rs (by rw[Bool.false_bne];exact .bl _)⟩
def AIb(hu:X.A.units+64<cLine):Cm X (compareOp .NotIn) (Gi true):=by
 rintro pins s Y H x y v u Q I rx ry ⟨O,L,dx,dy,d,L',rs,ix,iy,e,k⟩;obtain⟨i,kvs,ep,k0,rfl,e1,e2,rfl,rfl⟩:=Xr e
 cases iy with|ref hi =>
  obtain⟨us,xs,ha,hsm,hz,r3,hk,dd⟩:=Le I (rs.ob i _ _ hi e1);obtain⟨b,rfl,ik⟩:=LL ix e2;cases rx;cases ry;refine wpAny_notIn_heap (show X.A.in1.units+1<cLine from by show X.A.units+1+1<cLine;omega) (Jd I ik) hsm dd.of ?_;rw[r3.some_eq];exact⟨.bl (!(Bj kvs k0).isSome),H,I.tok _,rfl,k _ _ _ (.refl _ _) rs (by rw[Bool.true_bne];exact .bl _)⟩
end
abbrev Hx:EF:=λ_ L=>some (.ref L.length,L++[.dt [] 0])
section
variable {X:Cx}{pos:Pos}
def AF5{P:Program}{w:World}{H:Hp}(h:Heap)(hb:sysModules<h.objs.size):Bx P w H (h.push {cls:=.type "dict",data:=.dict #[]}) h.objs.size (.dN [] 0) :=
 ⟨Ed _,beq_eq_false_iff_ne.mpr (Ne.symm (BN hb)),[],.nil,_,#[],Heap.get?_push_size _ rfl,⟨rfl,rfl,rfl⟩,rfl,rfl,AKh⟩
def AJr:AO X (.Dict [] [] pos) Hx:=λpins s Y H Q I z6_=>by
 obtain⟨O,ρ,L,d,L',r,e,k⟩:=z6_;cases e;have hp:=I.hok.fresh (Ac s.heap.objs.size);have st:AY H O (upd H s.heap.objs.size (.dN [] 0)) (O++[s.heap.objs.size]):=⟨.new hp,Aj _ _⟩
 exact wpAny_Dict_empty ⟨.ref s.heap.objs.size,_,I.laid (a:=s.heap.objs.size) (o:=.dN [] 0) (t':=s.toks) (λ_ _ q=>Heap.get?_push_of_some _ q) (Ac _) (AF5 s.heap I.big),rfl,
  k _ _ _ st (r.s.new hp ⟨[],Bn,rfl,.nil,λu hu=>(nomatch hu)⟩) (.ref (by rw[<-r.s.len];simp))⟩
end
abbrev putU(us:List (NK×Addr×V))(k:NK)(b:Addr)(v:V):List (NK×Addr×V) :=
 if (us.any λu=>decide (u.1=k))=true then us.map (λu=>if u.1=k then (u.1,u.2.1,v) else u) else us++[(k,b,v)]
section
variable {K:AI}{H:Hp}{O:AMD}
def Cf.anyU{kvs:List (NK×D)}{us:List (NK×Addr×V)}{xs:List (NK×Addr×Value)}(r:Cf K H O kvs us xs)(k:NK) :
  (us.any λu=>decide (u.1=k))=(atKey xs k).isSome/\(kvs.any λu=>decide (u.1=k))=(atKey xs k).isSome:=by
 induction r with
 |nil=>exact⟨rfl,rfl⟩
 |@cons k' d b v u kvs us xs i rv t ih =>
  by_cases e:k'=k
  .subst e;simp[atKey]
  .have e2:atKey ((k',b,u)::xs) k=atKey xs k:=by simp[atKey,FB,e]
   rw[e2,AKW,AKW,ih.1,ih.2];simp[e]
def Cf.repl{kvs:List (NK×D)}{us:List (NK×Addr×V)}{xs:List (NK×Addr×Value)}(r:Cf K H O kvs us xs)(k:NK){d:D}{v:V}{u:Value}(i:Is K H O v d)(rv:AX v u) :
  Cf K H O (kvs.map λkv=>if kv.1=k then (kv.1,d) else kv) (us.map λq=>if q.1=k then (q.1,q.2.1,v) else q) (xs.map (putAt k u)):=by
 induction r with
 |nil=>exact .nil
 |@cons k' d' b v' u' kvs us xs i' rv' t ih =>
  rw[Ah,Ah,Ah];unfold putAt
  by_cases e:k'=k
  .rw[if_pos e,if_pos e,if_pos e];exact .cons i rv ih
  .rw[if_neg e,if_neg e,if_neg e];exact .cons i' rv' ih
def Cf.snoc{kvs:List (NK×D)}{us:List (NK×Addr×V)}{xs:List (NK×Addr×Value)}(r:Cf K H O kvs us xs){k:NK}{b:Addr}{d:D}{v:V}{u:Value}(i:Is K H O v d)(rv:AX v u) :
  Cf K H O (kvs++[(k,d)]) (us++[(k,b,v)]) (xs++[(k,b,u)]):=by
 induction r with
 |nil=>exact .cons i rv .nil
 |cons i' rv' t ih=>exact .cons i' rv' ih
def Cf.put{kvs:List (NK×D)}{us:List (NK×Addr×V)}{xs:List (NK×Addr×Value)}(r:Cf K H O kvs us xs)(k:NK){b:Addr}{d:D}{v:V}{u:Value}(i:Is K H O v d)(rv:AX v u) :
  Cf K H O (DB kvs k d) (putU us k b v) (storedH xs k b u):=by
 obtain⟨e1,e2⟩:=r.anyU k;unfold DB putU storedH;rw[e1,e2]
 by_cases q:(atKey xs k).isSome=true
 .rw[if_pos q,if_pos q,if_pos q];exact r.repl k i rv
 .rw[if_neg q,if_neg q,if_neg q];exact r.snoc i rv
def Cf.parts{kvs:List (NK×D)}{us:List (NK×Addr×V)}{xs:List (NK×Addr×Value)}(r:Cf K H O kvs us xs):us.map (·.1)=kvs.map (·.1)/\AM K H O (us.map (·.2.2)) (kvs.map (·.2)) /\
  Paired (λ(p:NK×Addr×V) (q:NK×Addr×Value)=>p.1=q.1/\p.2.1=q.2.1/\AX p.2.2 q.2.2) us xs:=by
 induction r with
 |nil=>exact⟨rfl,.nil,.nil⟩
 |cons i rv t ih=>exact⟨by rw[Ah,Ah,ih.1],.cons i ih.2.1,.cons ⟨rfl,rfl,rv⟩ ih.2.2⟩
def Cf.len{kvs:List (NK×D)}{us:List (NK×Addr×V)}{xs:List (NK×Addr×Value)}(r:Cf K H O kvs us xs):us.length=kvs.length/\xs.length=kvs.length:=by
 induction r with
 |nil=>exact⟨rfl,rfl⟩
 |cons i rv t ih=>simp[ih.1,ih.2]
def ACR{kvs:List (NK×D)}{k:NK}{d:D}:(DB kvs k d).length<=kvs.length+1:=by unfold DB;split <;> simp
def ACP{us:List (NK×Addr×V)}{k:NK}{b:Addr}{v:V}{P:NK->Addr->Prop}(h:∀u∈us,P u.1 u.2.1)(hb:P k b):∀u∈putU us k b v,P u.1 u.2.1:=by
 intro u hu;unfold putU at hu;split at hu
 .rw[Aw] at hu;obtain⟨q,hq,rfl⟩:=hu;split
  .exact h q hq
  .exact h q hq
 .rcases CF.mp hu with hu|hu
  .exact h u hu
  .rw[show u=(k,b,v) by simpa using hu];exact hb
end
abbrev epN(kvs:List (NK×D))(k:NK)(ep:Nat):Nat:=if (kvs.any λkv=>decide (kv.1=k))=true then ep else ep+1
abbrev Hs(o i v:D)(L:AB):Option AB:=match o with
 |.ref n=>(match L[n]? with|some (.dt kvs ep)=>if kvs.length<16777216 then (dNK i).map λk=>L.set n (.dt (DB kvs k v) (epN kvs k ep)) else none|_=>none)
 |_=>none
def AFR{o i v:D}{L L':AB}(e:Hs o i v L=some L'):∃n kvs ep k,o=.ref n/\L[n]?=some (.dt kvs ep)/\kvs.length<16777216/\dNK i=some k/\L'=L.set n (.dt (DB kvs k v) (epN kvs k ep)):=by
 unfold Hs at e;split at e
 .rename_i n;split at e
  .rename_i kvs ep e1;split at e
   .rename_i hz;obtain⟨k,e2,rfl⟩:=AKf.mp e;exact⟨n,kvs,ep,k,rfl,e1,hz,e2,rfl⟩
   .cases e
  .cases e
 .cases e
abbrev ACF(K:AI):Ol:=λo i v H Q=>∃O L x y d L',Ai K H O L/\Is K H O o x/\Is K H O i y/\Is K H O v d/\Hs x y d L=some L'/\∀H',AY H O H' O->Ai K H' O L'->Q H'
section
variable {X:Cx}{o i e:Expr}{fo fi fv:EF}{pos:Pos}
def YK{pins:List (Addr×Obj)}{Y:L2.St}{H:Hp}{s:Shared}{O:AMD}{L:AB}{n ep:Nat}{a b:Addr}{kvs:List (NK×D)}{k:NK}{v:V}{u:Value}{d:D}{us:List (NK×Addr×V)}{xs:List (NK×Addr×Value)}{h':Heap}{t':Nat}
  (I:AG X pins Y H s) (rs:Ai X.K H O L) (hn:O[n]?=some a) (hz:kvs.length<16777216) (ha:H a=some (.dN us ep)) (hsm:(a == sysModules)=false) (r3:Cf X.K H O kvs us xs) (hk:∀u∈us,Is X.K H O (.ref u.2.1) (Dh u.1))
  (ik:Is X.K H O (.ref b) (Dh k)) (iv:Is X.K H O v d) (rv:AX v u) (dd:CT (HE X.prog X.w) h' a (storedH xs k b u) (Em xs k ep)) (hs:Heap.SameBut a s.heap h') :
  AG X pins Y (upd H a (.dN (putU us k b v) (epN kvs k ep))) {s with heap:=h',toks:=t'}/\AY H O (upd H a (.dN (putU us k b v) (epN kvs k ep))) O/\Ai X.K (upd H a (.dN (putU us k b v) (epN kvs k ep))) O (L.set n (.dt (DB kvs k d) (epN kvs k ep))):=by
 have rp:=r3.put k (b:=b) iv rv;obtain⟨p1,p2,p3⟩:=rp.parts;have ee:Em xs k ep=epN kvs k ep:=by unfold Em epN;rw[(r3.anyU k).2]
 rw[ee] at dd
 have hl:(putU us k b v).length<=sizeLine:=by rw[rp.len.1,sizeLine_eq];have:=ACR (kvs:=kvs) (k:=k) (d:=d);omega
 have st:AY H O (upd H a (.dN (putU us k b v) (epN kvs k ep))) O:=⟨.write ha id,An _⟩;obtain⟨q,es,hq,h2,h3,h4,_,h5⟩:=dd;refine⟨AF8 I (by rw[ha];exact True.intro) hs ⟨q,hq⟩ ⟨hl,hsm,_,p3,q,es,hq,h2,h3,h4,h5⟩,st,?_⟩;exact rs.write (o':=.dt (DB kvs k d) (epN kvs k ep)) hn ⟨_,Bn,p1,p2.mono st,λx hx=>(ACP (P:=λk b=>Is X.K H O (.ref b) (Dh k)) hk ik x hx).mono st⟩
def ABt(hu:X.A.units+64<cLine):Sw X (ACF X.K):=by
 rintro pins s Y H o i v ov iv u Q I ro ri rv ⟨O,L,x,y,d,L',rs,io,ii,idv,e,k⟩;obtain⟨n,kvs,ep,k0,rfl,e1,hz,e2,rfl⟩:=AFR e
 cases io with|ref hn =>
  obtain⟨us,xs,ha,hsm,hz',r3,hk,dd⟩:=Le I (rs.ob n _ _ hn e1);obtain⟨b,rfl,ik⟩:=LL ii e2;cases ro;cases ri;refine ABu (show X.A.in1.units+1<cLine from by show X.A.units+1+1<cLine;omega) (Jd I ik) dd (by rw[r3.len.2,sizeLine_eq];omega) λh' dd' hs=>?_;obtain⟨I',st,rs'⟩:=YK (t':=s.toks+(HE X.prog X.w).draws k0) I rs hn hz ha hsm r3 hk ik idv rv dd' hs;exact⟨_,I',k _ st rs'⟩
abbrev Hw(fo fi fv:EF):SF:=λρ L=>(fv ρ L).bind λv=>(fo ρ v.2).bind λo=>(fi ρ o.2).bind λi=>(Hs o.1 i.1 v.1 i.2).bind λL'=>some (.next ρ L')
def AIF{p2:Pos}(hu:X.A.units+64<cLine)(ho:AO X o fo)(hi:AO X i fi)(he:AO X e fv)(hs:swapsWithSole [.Subscript o i p2] e pos.line X.env=pure false:=by rfl)(hw:swappedStores [.Subscript o i p2] e X.env=pure none:=by rfl)
  (h1:(assignEach [.Subscript o i p2] X.env).map (·.2)=[assign (.Subscript o i p2) X.env]:=by rfl)
  (ha:∀v,assign (.Subscript o i p2) X.env v=(do
   let ov <-holding [v] (eval o X.env)
   let iv <-holding [v,ov] (eval i X.env)
   standAt p2
   holding [v,ov,iv] (setItem ov iv v)
   release [v,ov,iv] []):=by intro _;rfl):DU X (.Assign [.Subscript o i p2] e pos) (Hw fo fi fv) :=
 PS.weaken (RV he (WG ho hi (ABt hu) ha) hs hw h1) λD Y H z3_=>by
  obtain⟨O,ρ,L,out,r,ee,k⟩:=z3_;unfold Hw at ee;obtain⟨p,e1,ee⟩:=bS ee;obtain⟨q,e2,ee⟩:=bS ee;obtain⟨w,e3,ee⟩:=bS ee
  cases e4:Hs q.1 w.1 p.1 w.2 with
  |none=>rw[e4] at ee;cases ee
  |some L' =>
   rw[e4] at ee;cases ee;refine⟨O,ρ,L,p.1,p.2,r,e1,λv H1 O1 st1 rs1 is1=>⟨O1,ρ,p.2,q.1,q.2,r.to st1 rs1,e2,λov H2 O2 st2 rs2 is2=>⟨O2,ρ,q.2,w.1,w.2,r.to (st1.trans st2) rs2,e3,λiv H3 O3 st3 rs3 is3=>?_⟩⟩⟩;refine⟨O3,w.2,q.1,w.1,p.1,L',rs3,is2.mono st3,is3,(is1.mono st2).mono st3,e4,λH4 st4 rs4=>?_⟩;have stA:=((st1.trans st2).trans st3).trans st4;exact k _ _ _ stA ⟨rs4,r.f.mono stA⟩
end
open Sem (wp)
section
variable {prog:Program}{w:World}{κ:Type}[DecidableEq κ]{knd:HeapKind prog w κ}{A:Around}{E:AMI}{s:Shared}{d a:Addr}{k:κ}{xs:List (κ×Addr×Value)}{ep:Nat}
def CT.entry{h:Heap}(x:CT knd h d xs ep){j:Nat}{q:Addr×Value}(hj:xs[j]?=some (k,q)):∃o es,h.get? d=some o/\o.data=.dict es ep/\es[j]?=some (entryOfKey knd (k,q)):=by obtain⟨o,es,g,ex,dat,el,_⟩:=x;exact⟨o,es,g,dat,by rw[entry_at el,hj];rfl⟩
def ABv{dv:Value}{Q:AMI}(hu:knd.room A)(hk:knd.is s.heap k a)(x:CT knd s.heap d xs ep)(hz:xs.length<=sizeLine)
  (there:∀p,atKey xs k=some p->Q p.2 {s with toks:=s.toks+knd.draws k})
  (new:atKey xs k=none->∀h',CT knd h' d (storedH xs k a dv) (Em xs k ep)->Heap.SameBut d s.heap h'->Q dv {s with heap:=h',toks:=s.toks+knd.draws k}) :
  wpAny (model prog w) A (dictSetDefault d (.ref a) dv) Q E s:=by
 obtain⟨o,es,g,dat,sz⟩:=x.room;unfold dictSetDefault
 (try with_reducible refine DJ ?_)
 refine AE (knd.pyHash hu hk ?_);refine AE (CT.find (s:={s with toks:=s.toks+knd.draws k}) hu hk x (λn=>?_) λj p hj e=>?_)
 .obtain⟨y,sb⟩:=x.grown n hk dv;have e1:Em xs k ep=ep+1:=by simp[Em,n]
  rw[e1,storedH_new n] at new;exact AE (ALw (AE (wpAny_updateDictKeys (s:={s with toks:=s.toks+knd.draws k}) (hz:=by omega) g dat (AK (new n _ y sb)))))
 .obtain⟨o',es',g',dat',ee⟩:=x.entry hj;refine AE (AL6 (s:={s with toks:=s.toks+knd.draws k}) g' dat' ?_);rw[ee];exact AE (ALw (AK (there p e)))
def AD1(hd:(d == sysModules)=false)(dflt:Value) :
  MeetsIn prog w (Builtin.«dict.setdefault» ⟨[.ref d,.ref a,dflt],[]⟩) (λA R s=>knd.room A.in1/\∃k xs ep,knd.is s.heap k a/\CT knd s.heap d xs ep/\xs.length<=sizeLine /\
   (∀p,atKey xs k=some p->R (.ok (.ret p.2)) {s with toks:=s.toks+knd.draws k}) /\
   (atKey xs k=none->∀h',CT knd h' d (storedH xs k a dflt) (Em xs k ep)->Heap.SameBut d s.heap h'->R (.ok (.ret dflt)) {s with heap:=h',toks:=s.toks+knd.draws k})) :=
 .of_wp λA R s z3_=>by
  obtain⟨hu,k,xs,ep,hkey,hm,hz,h1,h2⟩:=z3_;unfold Builtin.«dict.setdefault»;refine AE ?_;unfold Builtin.Dict.keyAndDefault;refine AE (AL5 hm.of.typeIs ?_);show wpAny _ _ (pure (d,Value.ref a,some dflt)) _ _ s;refine AK ?_
  show wpAny _ _ (if (d == sysModules)=true then _ else (dictSetDefault d (.ref a) dflt >>= _)) _ _ s
  rw[if_neg (by rw[hd];exact Cc)];exact AE (ABv hu hkey hm hz (λp hp=>AK ⟨p.2,rfl,h1 p hp⟩) λhn h' hm' hs'=>AK ⟨dflt,rfl,h2 hn h' hm' hs'⟩)
end
section
variable {X:Cx}
abbrev HH:GM:=λx xs L=>match x,xs with
 |.ref i,[y,v]=>(match L[i]? with
  |some (.dt kvs ep)=>(dNK y).bind λk=>(match Bj kvs k with|some d=>some (d,L)|none=>if kvs.length<16777216 then some (v,L.set i (.dt (DB kvs k v) (epN kvs k ep))) else none)
  |_=>none)
 |_,_=>none
def AIs(hu:X.A.units+64<cLine):MtD X "dict.setdefault" HH:=λpins s Y H x xs v us Q I rx rv z12_=>by
 obtain⟨O,L,dx,dxs,d,L',rp,ix,ixs,e,k⟩:=z12_;unfold HH at e;split at e
 .rename_i i y dv;split at e
  .rename_i kvs ep e1;obtain⟨k0,e2,e3⟩:=FA.mp e
   cases ix with|ref hi =>
    cases ixs with|@cons v1 _ _ _ i1 i2=>cases i2 with|@cons v2 _ _ _ j1 j2 =>
     cases j2;obtain⟨us',ys,ha,hsm,hz,r3,hk,dd⟩:=Le I (rp.ob i _ _ hi e1);obtain⟨b,rfl,ik⟩:=LL i1 e2;cases rx
     cases rv with|@cons _ u1 _ _ ru1 rv2=>cases rv2 with|@cons _ u2 _ _ ru2 rv3 =>
      cases rv3;cases (show u1=Value.ref b from ru1);refine call_meetsIn PySem.F.slot_dict_setdefault dd.of.typeIs PySem.F.entry_dict_setdefault (PySem.F.args_dict_setdefault_3 _ _ _) (AD1 (knd:=HE X.prog X.w) hsm u2) ⟨show X.A.in1.units+1<cLine from by show X.A.units+1+1<cLine;omega,k0,ys,ep,Jd I ik,dd,by rw[r3.len.2,<-r3.len.1];exact hz,λp hp=>?_,λhn h' dd' hs=>?_⟩
      .rcases r3.look k0 with⟨n1,n2⟩|⟨d',b',v',u',l,at_,iv,rv',_⟩
       .rw[n2] at hp;cases hp
       .rw[at_] at hp;cases hp;rw[l] at e3;cases e3;exact⟨v',H,I.tok _,rv',k _ _ _ (.refl _ _) rp iv⟩
      .rcases r3.look k0 with⟨n1,n2⟩|⟨d',b',v',u',l,at_,iv,rv',_⟩
       .rw[n1] at e3;simp only at e3;split at e3
        .rename_i hz2;cases e3;obtain⟨I',st,rs'⟩:=YK (t':=s.toks+(HE X.prog X.w).draws k0) I rp hi hz2 ha hsm r3 hk ik j1 ru2 dd' hs;exact⟨v2,_,I',ru2,k _ _ _ st rs' (j1.mono st)⟩
        .cases e3
       .rw[at_] at hn;cases hn
  .cases e
 .cases e
abbrev Ik:GM:=λx xs L=>match x,xs with
 |.ref i,[.ref j]=>(match L[i]?,L[j]? with|some (.lst as),some (.lst bs)=>if as.length+bs.length<=16777216 then some (.non,L.set i (.lst (as++bs))) else none|_,_=>none)
 |_,_=>none
def AIy:MtD X "list.extend" Ik:=Ev.weaken (show Ev X "list.extend" rExtend from ADy) λv vs H Q z4_=>by
 obtain⟨O,L,dx,dxs,d,L',rp,ix,ixs,e,k⟩:=z4_;unfold Ik at e;split at e
 .rename_i i j;split at e
  .rename_i as bs e1 e2;split at e
   .rename_i hz;cases e
    cases ix with|@ref _ a hi =>
     cases ixs with|@cons v1 y1 _ _ i1 i2 =>
      cases i2
      cases i1 with|@ref _ b hj =>
       obtain⟨ws,hw,il⟩:=rp.ob _ _ _ hi e1;obtain⟨zs,hzs,il2⟩:=rp.ob _ _ _ hj e2;refine⟨_,_,ws,zs,rfl,rfl,hw,hzs,by rw[il.length,il2.length,sizeLine_eq];exact hz,?_⟩;have st:AY H O (upd H a (.lst (ws++zs))) O:=⟨.write hw id,An _⟩;exact k _ _ _ st (rp.write (o':=.lst (as++bs)) hi ⟨_,Bn,(il.mono st).append (il2.mono st)⟩) .non
   .cases e
  .cases e
 .cases e
end
abbrev KL(h:Heap)(d:Addr)(es:Array DictEntry)(ep:Nat):Prop:=∃o,h.get? d=some o/\o.data=.dict es ep
section
variable {prog:Program}{w:World}{A:Around}{E:AMI}{s:Shared}{t d v:Addr}{i ep:Nat}{es:Array DictEntry}{Q:Option Value->Shared->Prop}
def Rl{α:Type}{h0:Heap}{E':AMI}(hh:A.handled=none)(k:Heap.ExtBut t h0 s.heap)(fin:∀h',Heap.ExtBut t h0 h'->∀e,(∃o,h'.get? e=some o/\o.cls=.type "StopIteration")->E' (.ref e) {s with heap:=h'}){R:α->Shared->Prop} :
  wpAny (model prog w) A (newExc (.type "StopIteration") [] >>= λx=>(raiseNew x:Sem α)) R E' s:=by
 refine AE ?_;simp only[newExc,newTuple];refine AE (AL3 (AE (m:=firstArgMember _ _) (wpAny_of_eq (a:=Value.none) (by simp only[firstArgMember];rfl) (AL3 ?_ (by size_fits)))) (by size_fits));simp only[raiseNew];refine AE (wpAny_handled ?_);rw[hh];exact AE (AK (wpAny_throw (fin _ ((k.push _).push _) _ ⟨_,Heap.get?_push_size _ rfl,rfl⟩)))
def OC(hh:A.handled=none)(it:s.heap.IsKeyIter t d i es.size ep)(en:KL s.heap d es ep)
  (more:∀e,es[i]?=some e->∀h',h'.IsKeyIter t d (i+1) es.size ep->Heap.SameBut t s.heap h'->Q (some e.key) {s with heap:=h'})
  (fin:es[i]?=none->∀h',Heap.ExtBut t s.heap h'->Q none {s with heap:=h'}):wpAny (model prog w) A (pyNext (.ref t)) Q E s:=by
 obtain⟨ot,gt,ct,dt⟩:=id it;obtain⟨od,gd,dd⟩:=en;have ty:=it.typeIs
 have inner:∀{F:AMI} {R:AMI},(∀e,es[i]?=some e->∀h',h'.IsKeyIter t d (i+1) es.size ep->Heap.SameBut t s.heap h'->R e.key {s with heap:=h'}) ->
   (es[i]?=none->∀h',Heap.ExtBut t s.heap h'->∀x,(∃o,h'.get? x=some o/\o.cls=.type "StopIteration")->F (.ref x) {s with heap:=h'}) ->
   wpAny (model prog w) A.in1 (Builtin.«dict_keyiterator.__next__» ⟨[.ref t],[]⟩) (λfi s2=>∃v,fi=PySem.Fin.done (Flow.ret v)/\R v s2) F s:=λ{F R} one none_=>by
  refine AE (AK (AE (AE (AE (AL7 ty (AK (AE (wpAny_fieldsOf gt dt ?_))))))));rw[show Builtin.Dict_items.ownsTuple "dict_keyiterator"=false from by decide]
  show wpAny _ _ (if (Value.ref d == Value.none)=true then _ else _) _ _ s
  rw[if_neg (λz=>by cases (show(false:Bool)=true from z))];refine AE (AK (AE (AL6 gd dd ?_)));rw[if_neg (by simp)];refine AE (AK (AE (wpAny_dictEpoch gd dd ?_)));rw[if_neg (by simp)];refine AK ?_;have i0:¬((i:Int)<0):=by omega
  simp only[i0,if_false,AKe]
  cases ee:es[i]? with
  |none =>
   refine AE (AE (AL7 ty (AK ?_)));refine AE (m:=setField (.ref t) 0 .none) (wpAny_setField gt dt (by simp) ?_);exact Rl (A:=A.in1) (t:=t) (h0:=s.heap) (s:={s with heap:=s.heap.update t (Obj.mapFields (·.setIfInBounds 0 .none))}) hh (Heap.SameBut.update ..).extBut λh' k x hx=>none_ ee h' k x hx
  |some e =>
   refine AE (AE (AL7 ty (AK (AE (wpAny_isOneOf_keyiter ty ?_)))))
   have it':(s.heap.update t (Obj.mapFields (·.setIfInBounds 1 (rawInt ((i:Int)+1))))).IsKeyIter t d (i+1) es.size ep :=
    ⟨_,Heap.get?_update_self _ gt (Obj.isFreed_of_fields (Obj.data_mapFields dt _)),(Obj.cls_mapFields ..).trans ct,by rw[Obj.data_mapFields dt];simp[rawInt]⟩
   refine AE (m:=setField (.ref t) 1 (rawInt ((i:Int)+1))) (wpAny_setField gt dt (by simp) (AE (DJ (AE (wpAny_isOneOf_keyiter it'.typeIs ?_)))));exact AK (AK ⟨_,rfl,one e ee _ it' (Heap.SameBut.update ..)⟩)
 unfold pyNext;refine AE (wpAny_attempt (AL2 (name:=Str.ofString "__next__") ty F.slot_dict_keyiterator_next (Fg F.slot_dict_keyiterator_next ty F.entry_dict_keyiterator_next (inner (λe ee h' i' sb=>AK (more e ee h' i' sb)) λen h' k x hx=>?_) (F.args_dict_keyiterator_next_1 _))));obtain⟨o,g,c⟩:=hx;exact AE (wpAny_isInstance (T:="StopIteration") (b:=true) ⟨o,g,c⟩ isSubtype_stop (AK (fin en h' k)))
abbrev ZE(h:Heap)(t d:Addr)(i n ep:Nat):Prop:=∃a b,IsItemIter h t d i n ep a b
abbrev ZD(h:Heap)(t d:Addr)(i n ep:Nat)(T:Addr):Prop:=∃a b,IsItemIterOut h t d i n ep a b T
def WK(hh:A.handled=none)(it:ZE s.heap t d i es.size ep)(en:KL s.heap d es ep)
  (more:∀e,es[i]?=some e->∀h',ZD h' t d (i+1) es.size ep s.heap.objs.size->h'.get? s.heap.objs.size=some {cls:=.type "tuple",data:=.seq #[e.key,e.val]}->h'.objs.size=s.heap.objs.size+1->(∀b o,b≠t->s.heap.get? b=some o->h'.get? b=some o)->Q (some (.ref s.heap.objs.size)) {s with heap:=h'})
  (fin:es[i]?=none->∀h',Heap.ExtBut t s.heap h'->Q none {s with heap:=h'}):wpAny (model prog w) A (pyNext (.ref t)) Q E s:=by
 obtain⟨ka,va,gt⟩:=it;obtain⟨od,gd,dd⟩:=en;have ty:s.TypeIs (.ref t) "dict_itemiterator":=⟨_,gt,rfl⟩;have tl:t<s.heap.objs.size:=Heap.lt_size gt
 have inner:∀{F:AMI} {R:AMI},
   (∀e,es[i]?=some e->∀h',ZD h' t d (i+1) es.size ep s.heap.objs.size->h'.get? s.heap.objs.size=some {cls:=.type "tuple",data:=.seq #[e.key,e.val]}->h'.objs.size=s.heap.objs.size+1->(∀b o,b≠t->s.heap.get? b=some o->h'.get? b=some o)->R (.ref s.heap.objs.size) {s with heap:=h'}) ->
   (es[i]?=none->∀h',Heap.ExtBut t s.heap h'->∀x,(∃o,h'.get? x=some o/\o.cls=.type "StopIteration")->F (.ref x) {s with heap:=h'}) ->
   wpAny (model prog w) A.in1 (Builtin.«dict_itemiterator.__next__» ⟨[.ref t],[]⟩) (λfi s2=>∃v,fi=PySem.Fin.done (Flow.ret v)/\R v s2) F s:=λ{F R} one none_=>by
  refine AE (AK (AE (AE (AE (AL8 ty (AK (AE (wpAny_fieldsOf gt rfl ?_))))))));rw[show Builtin.Dict_items.ownsTuple "dict_itemiterator"=true from by decide]
  show wpAny _ _ (if (Value.ref d == Value.none)=true then _ else _) _ _ s
  rw[if_neg (λz=>by cases (show(false:Bool)=true from z))];refine AE (AK (AE (AL6 gd dd ?_)));rw[if_neg (by simp)];refine AE (AK (AE (wpAny_dictEpoch gd dd ?_)));rw[if_neg (by simp)];refine AK ?_;have i0:¬((i:Int)<0):=by omega
  simp only[i0,if_false,AKe]
  cases ee:es[i]? with
  |none =>
   refine AE (AE (AL8 ty (AK ?_)));refine AE (m:=setField (.ref t) 2 .none) (wpAny_setField gt rfl (by simp) ?_);exact Rl (A:=A.in1) (t:=t) (h0:=s.heap) (s:={s with heap:=s.heap.update t (Obj.mapFields (·.setIfInBounds 2 .none))}) hh (Heap.SameBut.update ..).extBut λh' k x hx=>none_ ee h' k x hx
  |some e =>
   refine AE (AE (AL8 ty (AK (AE (wpAny_isOneOf_itemiter ty ?_)))));refine AE (m:=setField (.ref t) 3 (rawInt ((i:Int)+1))) (AL9 gt (by simp) λh1 g1 b1=>?_)
   have g1':IsItemIter h1 t d (i+1) es.size ep ka va:=by show h1.get? t=_;rw[show((i+1:Nat):Int)=(i:Int)+1 by omega];exact g1
   have ty1:Shared.TypeIs {s with heap:=h1} (.ref t) "dict_itemiterator":=⟨_,g1',rfl⟩;refine AE (DJ (AE (wpAny_isOneOf_itemiter ty1 (AE (wpAny_isOneOf_itemiter ty1 ?_)))));show wpAny _ _ (Builtin.Dict_items.pairFromOwner (.ref t) 6 e.key e.val) _ _ {s with heap:=h1};unfold Builtin.Dict_items.pairFromOwner;refine AE (wpAny_newTuple ?_)
   -- the tuple is laid
   have z1:h1.objs.size=s.heap.objs.size:=b1.1
   have lay:∀h2,h2=h1.push {cls:=.type "tuple",data:=.seq #[e.key,e.val]}->IsItemIter h2 t d (i+1) es.size ep ka va/\h2.get? s.heap.objs.size=some {cls:=.type "tuple",data:=.seq #[e.key,e.val]}/\h2.objs.size=s.heap.objs.size+1/\∀b o,b≠t->s.heap.get? b=some o->h2.get? b=some o:=λh2 e2=>by
    subst e2;exact⟨Heap.get?_push_of_some _ g1',by rw[<-z1];exact Heap.get?_push_size _ rfl,by rw[Heap.size_push,z1],λb o hb q=>Heap.get?_push_of_some _ (b1.extBut b o hb q)⟩
   show wpAny _ _ (Builtin.Dict_items.ownedTupleIsFree (.ref t) >>= _) _ _ {s with heap:=h1.push {cls:=.type "tuple",data:=.seq #[e.key,e.val]}};obtain⟨g2,u2,z2,k2⟩:=lay _ rfl;rw[z1];generalize h1.push {cls:=.type "tuple",data:=.seq #[e.key,e.val]}=h2 at g2 u2 z2 k2 ⊢;unfold Builtin.Dict_items.ownedTupleIsFree;refine AE (AE (EH (x:=.none) g2 rfl rfl (AK ?_)));rw[if_pos rfl];refine AE (EH (x:=ka) g2 rfl rfl (AE (EH (x:=va) g2 rfl rfl ?_)));refine AE (AL9 g2 (by simp) λh3 g3 b3=>AE (AL9 g3 (by simp) λh4 g4 b4=>AE (AL9 g4 (by simp) λh5 g5 b5=>AE (AL9 g5 (by simp) λh6 g6 b6=>?_))));have far:∀b o,b≠t->h2.get? b=some o->h6.get? b=some o:=λb o hb q=>b6.extBut b o hb (b5.extBut b o hb (b4.extBut b o hb (b3.extBut b o hb q)));have z6:h6.objs.size=h2.objs.size:=b6.1.trans (b5.1.trans (b4.1.trans b3.1));refine AE (wpAny_letGo (AK (AK ⟨_,rfl,one e ee h6 ⟨e.key,e.val,g6⟩ (far _ _ (FN tl) u2) (z6.trans z2) λb o hb q=>far b o hb (k2 b o hb q)⟩)))
 unfold pyNext;refine AE (wpAny_attempt (AL2 (name:=Str.ofString "__next__") ty F.slot_dict_itemiterator_next (Fg F.slot_dict_itemiterator_next ty F.entry_dict_itemiterator_next (inner (λe ee h' i' u z k=>AK (more e ee h' i' u z k)) λen h' k x hx=>?_) (F.args_dict_itemiterator_next_1 _))));obtain⟨o,g,c⟩:=hx;exact AE (wpAny_isInstance (T:="StopIteration") (b:=true) ⟨o,g,c⟩ isSubtype_stop (AK (fin en h' k)))
def XE{R:AMI}(hd:(d == sysModules)=false)(ty:s.TypeIs (.ref d) "dict")(en:KL s.heap d es ep)
  (k:R (.ref s.heap.objs.size) {s with heap:=s.heap.push {cls:=.type "dict_keyiterator",data:=.fields #[.ref d,.int 0 0,.int es.size 0,.int ep 0]}}):wpAny (model prog w) A (pyIter (.ref d)) R E s:=by
 obtain⟨od,gd,dd⟩:=en;refine wpAny_pyIter_slot ty F.slot_dict_iter (Fg F.slot_dict_iter ty F.entry_dict_iter ?_ (F.args_dict_iter_1 _));refine AE (AE (m:=Builtin.Dict.notOrdered "__iter__" ⟨[.ref d],[]⟩) (AL5 ty (AK ?_)));refine AE (m:=Builtin.Dict.showsAll d) ?_;unfold Builtin.Dict.showsAll;rw[hd,if_neg Cc];refine AK (AE (AL6 gd dd (AE (wpAny_dictEpoch gd dd (AE (AL3 (AK ⟨_,rfl,"dict_keyiterator",_,⟨_,Heap.get?_push_size _ rfl,rfl⟩,F.slot_dict_keyiterator_next.lookup,?_⟩)))))));exact k
def AD2(hd:(d == sysModules)=false):MeetsIn prog w (Builtin.«dict.items» ⟨[.ref d],[]⟩) (λ_ R s=>s.TypeIs (.ref d) "dict"/\R (.ok (.ret (.ref s.heap.objs.size))) {s with heap:=s.heap.push {cls:=.type "dict_items",data:=.fields #[.ref d]}}) :=
 .of_wp λA R s z3_=>by
  obtain⟨ty,k⟩:=z3_;refine AE (AE (m:=Builtin.Dict.notOrdered "items" ⟨[.ref d],[]⟩) (AL5 ty (AK ?_)));refine AE (m:=Builtin.Dict.showsAll d) ?_;unfold Builtin.Dict.showsAll;rw[hd,if_neg Cc];exact AK (AE (AL3 (AK ⟨_,rfl,k⟩)))
def ADP{R:AMI}(hv:s.heap.IsItemsView v d)(en:KL s.heap d es ep)
  (k:R (.ref s.heap.objs.size) {s with heap:=s.heap.push {cls:=.type "dict_itemiterator",data:=.fields #[.none,.bool false,.ref d,.int 0 0,.int es.size 0,.int ep 0,.none,.none]}}):wpAny (model prog w) A (pyIter (.ref v)) R E s:=by
 obtain⟨ov,gv,cv,dv⟩:=id hv;obtain⟨od,gd,dd⟩:=en;refine wpAny_pyIter_slot hv.typeIs F.slot_dict_items_iter (Fg F.slot_dict_items_iter hv.typeIs F.entry_dict_items_iter ?_ (F.args_dict_items_iter_1 _));refine AE (AK (AE (AE (EH (x:=.ref d) gv dv rfl (AK (AE (AE (AL6 gd dd (AE (wpAny_dictEpoch gd dd ?_))))))))));show wpAny _ _ (newFields "dict_itemiterator" [.none,.bool false,.ref d,rawInt 0,rawInt es.size,rawInt ep,.none,.none]) _ _ s;refine AL3 (AK ⟨_,rfl,"dict_itemiterator",_,⟨_,Heap.get?_push_size _ rfl,rfl⟩,F.slot_dict_itemiterator_next.lookup,?_⟩) (by rw[sizeOk,sizeLine_eq];show 8<=16777216+2;decide);exact k
end
section
variable {X:Cx}{pins:List (Addr×Obj)}{Y:L2.St}{H:Hp}{s:Shared}
def Paired.at{α β:Type}{R:α->β->Prop}:∀{l:List α} {m:List β} {j:Nat} {a:α},Paired R l m->l[j]?=some a->∃b,m[j]?=some b/\R a b
 |_,_,_,_,.nil,h=>by simp at h
 |_,_,0,_,.cons r _,h=>by simp at h;subst h;exact⟨_,rfl,r⟩
 |_,_,j+1,_,.cons _ t,h=>by
  obtain⟨b,e,q⟩:=Paired.at (j:=j) t (by simpa using h);exact⟨b,by simpa using e,q⟩
def Im(I:AG X pins Y H s){a:Addr}{us:List (NK×Addr×V)}{ep:Nat}(h:H a=some (.dN us ep)) :
  (a == sysModules)=false/\(s.TypeIs (.ref a) "dict"/\∃o,s.heap.get? a=some o/\o.dict=none)/\∃es,KL s.heap a es ep/\es.size=us.length/\∀(i:Nat) (u:NK×Addr×V),us[i]?=some u->∃e:DictEntry,es[i]?=some e/\e.key=.ref u.2.1/\AX u.2.2 e.val:=by
 obtain⟨z,y,xs,r,o,es,g,ex,dat,el,nd⟩:=(show Bx X.prog X.w H s.heap a (.dN us ep) from I.hok a _ h);have hl:xs.length=us.length:=(Paired.length r).symm;refine⟨y,⟨⟨o,g,ex.1⟩,o,g,ex.2.1⟩,es,⟨o,g,dat⟩,?_,λi u hu=>?_⟩
 .rw[<-ALS,el,Ag,hl]
 .obtain⟨q,hq,h1,h2,h3⟩:=Paired.at r hu;refine⟨entryOfKey (HE X.prog X.w) q,?_,by show Value.ref q.2.1=_;rw[h2],h3⟩;rw[<-Array.getElem?_toList,el,Av,hq];rfl
end
abbrev Itk(a:Addr)(n ep:Nat):It :=
 ⟨λi H=>∃us,H a=some (.dN us ep)/\us.length=n/\i<n,λi H v H'=>H'=H/\∀us,H a=some (.dN us ep)->∃u,us[i]?=some u/\v=.ref u.2.1,λi H=>∃us,H a=some (.dN us ep)/\us.length=n/\n<=i⟩
def AAu{P:Program}{w:World}{K:AI}{tg:Expr}(a it:Addr)(n ep:Nat):Go P w K tg (Itk a n ep) [it] it (λi h=>h.IsKeyIter it a i n ep) where
 mem:=by simp
 obj:=λi h st b hb=>by
  obtain rfl:b=it:=by simpa using hb
  obtain⟨o,e,c,d⟩:=st;exact⟨o,e,λv z=>by rw[d] at z;cases z⟩
 keep:=λi h h' st k=>st.at λo e=>k it (by simp) o e
 item:=by
  rintro X hP hw hK hc i pins s Y H E I hf st ⟨us,ha,hl,hi⟩;subst hP hw hK;obtain⟨_,_,es,en,sz,at_⟩:=Im I ha;obtain⟨f0,f1,f2,f3,f4,f5⟩:=hf it (by simp);have hz:es.size=n:=sz.trans hl;subst hz;obtain⟨u,hu⟩:∃u,us[i]?=some u:=⟨us[i]'(by omega),by simp[show i<us.length by omega]⟩;obtain⟨e,he,hk,_⟩:=at_ i u hu;refine OC (I.ok.hd hc) st en (λe' he' h' st' sb=>?_) λhn=>by rw[he] at hn;cases hn
  rw[he] at he';cases he';have I1:AG X pins Y H {s with heap:=h'}:=I.turned (t':=s.toks) (λb o hb q=>(sb.2 b hb).trans q) f0 f1 f3 f4 f5;rw[hk];exact⟨_,rfl,letGo_keyiter (s':={s with heap:=h'}) st' ⟨.ref u.2.1,H,I1,rfl,⟨rfl,λus' h'=>by rw[ha] at h';cases h';exact⟨u,hu,rfl⟩⟩,st',λb hb=>(hf b hb).1⟩⟩
 done:=by rintro X hP hw hK hc i pins s Y H E I hf st ⟨us,ha,hl,hi⟩;subst hP hw hK;obtain⟨_,_,es,en,sz,at_⟩:=Im I ha;obtain⟨f0,f1,f2,f3,f4,f5⟩:=hf it (by simp);have hz:es.size=n:=sz.trans hl;subst hz;refine OC (I.ok.hd hc) st en (λe' he' h' st' sb=>?_) λ_ h' k=>⟨rfl,I.turned (t':=s.toks) (λb o hb q=>k b o hb q) f0 f1 f3 f4 f5⟩;rw[ALs hi] at he';cases he'
 self:=λ_ _ _ _ _ st h=>wpAny_pyIter_keyiter st h
def AFq:entryFor table "dict_itemiterator.__iter__"=some Builtin.«dict_keyiterator.__iter__»:=entryFor_alias (id':="dict_keyiterator.__iter__") (by kernel_rfl) rfl (by decide +kernel) (by kernel_rfl)
abbrev Itp(a:Addr)(n ep:Nat):It :=
 ⟨λi H=>∃us,H a=some (.dN us ep)/\us.length=n/\i<n,λi H v H'=>∃T,H T=none/\v=.ref T/\∀us,H a=some (.dN us ep)->∃u,us[i]?=some u/\H'=upd H T (.tup [.ref u.2.1,u.2.2]),λi H=>∃us,H a=some (.dN us ep)/\us.length=n/\n<=i⟩
def AAs{P:Program}{w:World}{K:AI}{elts:AME}{x1:Nat}{tp:Pos}(a it:Addr)(n ep:Nat):Go P w K (.Tuple elts x1 tp) (Itp a n ep) [it] it (λi h=>ZE h it a i n ep) where
 mem:=by simp
 obj:=λi h st b hb=>by
  obtain rfl:b=it:=by simpa using hb
  obtain⟨_,_,e⟩:=st;exact⟨_,e,λv z=>by cases z⟩
 keep:=λi h h' z3_ k=>by obtain⟨x,y,st⟩:=z3_;exact⟨x,y,k it (by simp) _ st⟩
 item:=by
  rintro X hP hw hK hc i pins s Y H E I hf st ⟨us,ha,hl,hi⟩;subst hP hw hK;obtain⟨_,_,es,en,sz,at_⟩:=Im I ha;have hz:es.size=n:=sz.trans hl;subst hz;have til:it<s.heap.objs.size:=by obtain⟨_,_,e⟩:=st;exact Heap.lt_size e
  obtain⟨u,hu⟩:∃u,us[i]?=some u:=⟨us[i]'(by omega),by simp[show i<us.length by omega]⟩;obtain⟨e,he,hk,rv⟩:=at_ i u hu;refine WK (I.ok.hd hc) st en (λe' he' h' st' ht hsz kk=>?_) λhn=>by rw[he] at hn;cases hn
  rw[he] at he';cases he';obtain⟨y1,y2,st'⟩:=st';refine⟨_,rfl,wpAny_letOwnedTupleGo_items st' λh2 st2 sb2=>?_⟩;have ht2:h2.get? s.heap.objs.size=some {cls:=.type "tuple",data:=.seq #[e.key,e.val]}:=(sb2.2 _ (FN til)).trans ht
  have new:Bx X.prog X.w (upd H s.heap.objs.size (.tup [.ref u.2.1,u.2.2])) h2 s.heap.objs.size (.tup [.ref u.2.1,u.2.2]) :=
   ⟨by rw[sizeLine_eq];show 2<=16777216;decide,[e.key,e.val],.cons hk (.cons rv .nil),⟨_,ht2,rfl,_,rfl⟩⟩
  have I1:=NO (t':=s.toks) (h':=h2) I hf (λb o hb q=>by
   have hbi:b≠it:=λz=>hb (by simp[z])
   exact(sb2.2 b hbi).trans (kk b o hbi q)) (Ac _) (λz=>absurd (Fi.mp z) (FN til)) (λb hb=>by
   obtain rfl:b=it:=by simpa using hb
   exact⟨_,st2⟩) new
  refine⟨.ref s.heap.objs.size,_,I1,rfl,⟨s.heap.objs.size,I.hok.fresh (Ac _),rfl,λus' h'=>by rw[ha] at h';cases h';exact⟨u,hu,rfl⟩⟩,⟨_,_,st2⟩,λb hb=>?_⟩;obtain rfl:b=it:=by simpa using hb
  rw[Ax (BN til)];exact(hf b (by simp)).1
 done:=by rintro X hP hw hK hc i pins s Y H E I hf st ⟨us,ha,hl,hi⟩;subst hP hw hK;obtain⟨_,_,es,en,sz,at_⟩:=Im I ha;obtain⟨f0,f1,f2,f3,f4,f5⟩:=hf it (by simp);have hz:es.size=n:=sz.trans hl;subst hz;refine WK (I.ok.hd hc) st en (λe' he' h' st' ht hsz kk=>?_) λ_ h' k=>⟨rfl,I.turned (t':=s.toks) (λb o hb q=>k b o hb q) f0 f1 f3 f4 f5⟩;rw[ALs hi] at he';cases he'
 self:=λA i s Q E ⟨x,y,st⟩ h=>by
  have ty:s.TypeIs (.ref it) "dict_itemiterator":=⟨_,st,rfl⟩;refine wpAny_pyIter_slot ty ALu (Fg ALu ty AFq ?_ (PySem.F.args_dict_itemiterator_iter_1 _));show wpAny _ _ (ret (.ref it)) _ _ s;exact AK ⟨_,rfl,"dict_itemiterator",_,ty,PySem.F.slot_dict_itemiterator_next.lookup,h⟩
abbrev Hc(k:Nat)(kvs:List (NK×D))(ep:Nat)(L:AB):Bool:=match L[k]? with|some (.dt kvs' ep')=>decide (kvs'.map (·.1)=kvs.map (·.1))&&ep' == ep|_=>false
abbrev FX(kvs:List (NK×D)):List D:=kvs.map λkv=>Dh kv.1
abbrev Hf(kvs:List (NK×D)):List D:=kvs.map λkv=>.tup [Dh kv.1,kv.2]
abbrev Ji(f:EF):IF:=λρ L=>(f ρ L).bind λx=>match x.1 with
 |.ref k=>(match x.2[k]? with|some (.dt kvs ep)=>some (⟨FX kvs,Hc k kvs ep⟩,x.2)|_=>none)
 |_=>none
abbrev LN(f:EF):IF:=λρ L=>(f ρ L).bind λx=>match x.1 with
 |.ref k=>(match x.2[k]? with|some (.dt kvs ep)=>some (⟨Hf kvs,λL'=>decide (L'[k]?=some (.dt kvs ep))⟩,x.2)|_=>none)
 |_=>none
section
variable {X:Cx}{tg l:Expr}{f:EF}
def AB0{k:Nat}{kvs:List (NK×D)}{ep:Nat}{L:AB}(h:Hc k kvs ep L=true):∃kvs',L[k]?=some (.dt kvs' ep)/\kvs'.map (·.1)=kvs.map (·.1):=by
 unfold Hc at h;split at h
 .rename_i kvs' ep' e;rw[CA] at h;obtain rfl:ep'=ep:=beq_iff_eq.mp h.2;exact⟨kvs',e,of_decide_eq_true h.1⟩
 .cases h
def AIU(hl:AO X l f):Dl X tg l (Ji f):=by
 rintro pins s Y H R I ⟨O,ρ,L,J,L',r,e,k⟩;unfold Ji at e;obtain⟨p,e1,e⟩:=bS e;obtain⟨d,L1⟩:=p;simp only[AQ] at e;split at e
 .rename_i n;split at e
  .rename_i kvs ep e2;cases e;refine Ae (hl pins s Y H (λv H1=>∃a O1,v=.ref a/\AY H O H1 O1/\Ai X.K H1 O1 L'/\O1[n]?=some a) I ⟨O,ρ,L,_,_,r,e1,λv H1 O1 st rs is=>by cases is with|ref h=>exact⟨_,O1,rfl,st,rs,h⟩⟩) λv s1 z2_=>?_;obtain⟨x,H1,I1,r1,a,O1,ev,st,rs,hn⟩:=z2_;subst ev;cases r1;obtain⟨us,ha,ek,il,ik⟩:=rs.ob n _ _ hn e2;obtain⟨hsm,⟨ty,nd⟩,es,en,sz,_⟩:=Im I1 ha;have hul:us.length=kvs.length:=by simpa using congrArg List.length ek
   refine XE hsm ty en ?_;refine⟨s1.heap.objs.size,[s1.heap.objs.size],_,_,H1,rfl,I1.kept (t':=s1.toks) λb o q=>Heap.get?_push_of_some _ q,AAu a _ es.size ep,⟨_,Heap.get?_push_size _ rfl,rfl,rfl⟩,λb hb=>?_,k _ H1 O1 st rs λi H2 O2 L2 st2 rs2 ok=>?_⟩
   .obtain rfl:b=s1.heap.objs.size:=by simpa using hb
    exact I1.fpOk (Ac _) (I1.hok.fresh (Ac _))
   .obtain⟨kvs',e3,ekk⟩:=AB0 ok;obtain⟨us',ha',ek',il',ik'⟩:=rs2.ob n _ _ (Ch st2.2 hn) e3;have hl':us'.length=es.size:=by rw[sz,hul];simpa using congrArg List.length (ek'.trans ekk)
    refine⟨λd hd=>?_,λh=>⟨us',ha',hl',by rw[sz,hul];simpa[FX] using h⟩⟩
    have hi:i<kvs.length:=by
     rcases Nat.lt_or_ge i kvs.length with h|h
     .exact h
     .rw[show(FX kvs)[i]?=none from AKk (by simpa[FX] using h)] at hd;cases hd
    refine⟨⟨us',ha',hl',by rw[sz,hul];exact hi⟩,λx H' z2_=>?_⟩;obtain⟨eH,y⟩:=z2_;subst eH;obtain⟨u,hu,rfl⟩:=y us' ha';refine⟨.refl _ _,rs2,?_⟩;have hk:=ik' u (Bv hu);have e5:(us'.map (·.1))[i]?=some u.1:=by rw[Av,hu];rfl
    rw[ek',ekk,Av] at e5;simp only[FX,Av] at hd
    cases e6:kvs[i]? with
    |none=>rw[e6] at e5;cases e5
    |some q =>
     rw[e6] at e5 hd;cases hd;show Is _ _ _ _ (Dh q.1);rw[show q.1=u.1 from Option.some.inj e5];exact hk
  .cases e
 .cases e
def AIT{elts:AME}{x1:Nat}{tp apos cpos:Pos}(hl:AO X l f)(hbase:attributeBase l "items" X.env (eval l X.env)=eval l X.env:=by rfl)(hline:(apos.endLine == cpos.line)=true:=by rfl) :
  Dl X (.Tuple elts x1 tp) (.Call (.Attribute l "items" apos) [] [] cpos) (LN f):=by
 rintro pins s Y H R I ⟨O,ρ,L,J,L',r,e,k⟩;unfold LN at e;obtain⟨p,e1,e⟩:=bS e;obtain⟨d,L1⟩:=p;simp only[AQ] at e;split at e
 .rename_i n;split at e
  .rename_i kvs ep e2;cases e;refine wpAny_Call_method0_late hbase hline (Ae (hl pins s Y H (λv H1=>∃a O1,v=.ref a/\AY H O H1 O1/\Ai X.K H1 O1 L'/\O1[n]?=some a) I ⟨O,ρ,L,_,_,r,e1,λv H1 O1 st rs is=>by cases is with|ref h=>exact⟨_,O1,rfl,st,rs,h⟩⟩) λv s1 z2_=>?_);obtain⟨x,H1,I1,r1,a,O1,ev,st,rs,hn⟩:=z2_;subst ev;cases r1;obtain⟨us,ha,ek,il,ik⟩:=rs.ob n _ _ hn e2;obtain⟨hsm,⟨ty,nd⟩,es,en,sz,_⟩:=Im I1 ha;have hul:us.length=kvs.length:=by simpa using congrArg List.length ek
   refine⟨"dict","dict.items",PySem.F.plainAttrs_dict,PySem.F.slot_dict_items,PySem.F.type_dict_items,ty,λb q=>by cases q;exact nd,Calls.callWith_builtin rfl (PySem.evalArgs_none ?_)⟩;refine call_meetsIn PySem.F.slot_dict_items ty PySem.F.entry_dict_items (PySem.F.args_dict_items_1 _) (AD2 hsm) ⟨ty,?_⟩;obtain⟨od,gd,dd⟩:=en;refine ADP (d:=a) (es:=es) (ep:=ep) (s:={s1 with heap:=s1.heap.push {cls:=.type "dict_items",data:=.fields #[.ref a]}}) ⟨_,Heap.get?_push_size _ rfl,rfl,rfl⟩ ⟨od,Heap.get?_push_of_some _ gd,dd⟩ ?_;have I2:AG X pins Y H1 {s1 with heap:=s1.heap.push {cls:=.type "dict_items",data:=.fields #[.ref a]}}:=I1.kept (t':=s1.toks) λb o q=>Heap.get?_push_of_some _ q;refine⟨_,[_],_,_,H1,rfl,I2.kept (t':=s1.toks) λb o q=>Heap.get?_push_of_some _ q,AAs a _ es.size ep,⟨_,_,Heap.get?_push_size _ rfl⟩,λb hb=>?_,k _ H1 O1 st rs λi H2 O2 L2 st2 rs2 ok=>?_⟩
   .obtain rfl:=Fi.mp hb;exact I2.fpOk (Ac _) (I2.hok.fresh (Ac _))
   .have e3:L2[n]?=some (.dt kvs ep):=of_decide_eq_true ok;obtain⟨us',ha',ek',il',ik'⟩:=rs2.ob n _ _ (Ch st2.2 hn) e3;have hl':us'.length=es.size:=by rw[sz,hul];simpa using congrArg List.length ek'
    refine⟨λd hd=>?_,λh=>⟨us',ha',hl',by rw[sz,hul];simpa[Hf] using h⟩⟩
    have hi:i<kvs.length:=by
     rcases Nat.lt_or_ge i kvs.length with h|h
     .exact h
     .rw[show(Hf kvs)[i]?=none from AKk (by simpa[Hf] using h)] at hd;cases hd
    refine⟨⟨us',ha',hl',by rw[sz,hul];exact hi⟩,λx H' z2_=>?_⟩;obtain⟨T,hT,ex,y⟩:=z2_;obtain⟨u,hu,eH⟩:=y us' ha';subst ex eH;have st3:AY H2 O2 (upd H2 T (.tup [.ref u.2.1,u.2.2])) O2:=⟨.new hT,An _⟩;refine⟨st3,rs2.ext λb q h=>by rw[Ax (CW h hT)];exact h,?_⟩;have hk:=ik' u (Bv hu);have e5:(us'.map (·.1))[i]?=some u.1:=by rw[Av,hu];rfl
    rw[ek',Av] at e5;simp only[Hf,Av] at hd
    cases e6:kvs[i]? with
    |none=>rw[e6] at e5;cases e5
    |some q =>
     rw[e6] at e5 hd;cases hd;have e7:q.1=u.1:=Option.some.inj e5;obtain⟨v,hv,iv⟩:=il'.get (i:=i) (d:=q.2) (by rw[Av,e6];rfl);rw[Av,hu] at hv;cases hv;show Is _ _ _ _ (.tup [Dh q.1,q.2]);rw[e7];exact .tup (BW.of Bn) (.cons (hk.mono st3) (.cons (iv.mono st3) .nil))
  .cases e
 .cases e
end
abbrev ItE(K:AI)(a:Addr)(n:Nat):It :=
 ⟨λi H=>∃xs,BI K H a xs/\xs.length=n/\i<n,λi H v H'=>∃T,H T=none/\v=.ref T/\∀xs,BI K H a xs->∃x,xs[i]?=some x/\H'=upd H T (.tup [.int (i:Int),x]),λi H=>∃xs,BI K H a xs/\xs.length=n/\n<=i⟩
def AAv{P:Program}{w:World}{K:AI}{elts:AME}{x1:Nat}{tp:Pos}(a e it:Addr)(n:Nat)(hei:e≠it) :
  Go P w K (.Tuple elts x1 tp) (ItE K a n) [e,it] e (λi h=>(∃old,IsEnum h e it (i:Int) old)/\h.IsListIter it a i/\i<=n) where
 mem:=by simp
 obj:=λi h st b hb=>by
  obtain⟨⟨old,he⟩,⟨o,e1,c,d⟩,_⟩:=st;rcases AW.mp hb with rfl|hb
  .exact⟨_,he,λv z=>by cases z⟩
  .obtain rfl:=Fi.mp hb;exact⟨o,e1,λv z=>by rw[d] at z;cases z⟩
 keep:=λi h h' z3_ k=>by obtain⟨⟨old,he⟩,si,hi⟩:=z3_;exact⟨⟨old,k e (by simp) _ he⟩,si.at λo q=>k it (by simp) o q,hi⟩
 item:=by
  rintro X hP hw hK hc i pins s Y H E I hf st ⟨xs,hq,hl,hi⟩;subst hP hw hK;obtain⟨⟨old,he⟩,hs,_⟩:=st;obtain⟨its,rv,p,hz⟩:=I.list hq;have hlen:its.length=n:=by rw[<-rv.length];exact hl
  have hel:e<s.heap.objs.size:=Heap.lt_size he;have hil:it<s.heap.objs.size:=by obtain⟨o,e1,_⟩:=hs;exact Heap.lt_size e1
  obtain⟨x,hx⟩:∃x,xs[i]?=some x:=⟨xs[i]'(by omega),by simp[show i<xs.length by omega]⟩;obtain⟨u,hu,ru⟩:=rv.get hx
  have hae:a≠e:=λz=>by
   obtain⟨o,g,c,_⟩:=p.isList;rw[z] at g;have g':=he.symm.trans g;cases g';exact absurd (show Value.type "enumerate"=Value.type "list" from c) (by decide)
  have hai:a≠it:=λz=>by
   obtain⟨o,g,c,_⟩:=p.isList;obtain⟨o',g',c',_⟩:=hs;rw[z] at g;rw[g] at g';cases g';rw[c] at c';exact absurd c' (by decide)
  refine wpAny_pyNext_enum_itemD (Draws.list (show X.A.in1.handled=none from I.ok.hd hc) it a hai its.toArray) he ⟨hs,p.isList⟩ (by rw[Bi,hlen];exact hi) hei (by simp[hei,Ne.symm hae]) λv h' tk hv heo hs' ht _ kk=>⟨_,rfl,?_⟩
  obtain rfl:v=u:=by
   have:its[i]?=some v:=by simpa using hv
   rw[hu] at this;exact(Option.some.inj this).symm
  refine wpAny_letOwnedTupleGo_enum heo λh2 he2 sb2=>?_;have hs2:h2.IsListIter it a (i+1):=hs'.1.at λo q=>(sb2.2 it (Ne.symm hei)).trans q;have ht2:h2.get? s.heap.objs.size=some {cls:=.type "tuple",data:=.seq #[.int i tk,v]}:=(sb2.2 _ (FN hel)).trans ht
  have new:Bx X.prog X.w (upd H s.heap.objs.size (.tup [.int (i:Int),x])) h2 s.heap.objs.size (.tup [.int (i:Int),x]) :=
   ⟨by rw[sizeLine_eq];show 2<=16777216;decide,[.int i tk,v],.cons ⟨_,rfl⟩ (.cons ru .nil),⟨_,ht2,rfl,_,rfl⟩⟩
  have I1:=NO (t':=tk+1) (h':=h2) I hf (λb o hb q=>by
    have hbe:b≠e:=λz=>hb (by simp[z]);have hbi:b≠it:=λz=>hb (by simp[z])
    exact(sb2.2 b hbe).trans (kk b o hbe hbi q)) (Ac _) (λz=>by
    rcases AW.mp z with z|z
    .exact absurd z (FN hel)
    .exact absurd (Fi.mp z) (FN hil)) (λb hb=>by
    rcases AW.mp hb with rfl|hb
    .exact⟨_,he2⟩
    .obtain rfl:=Fi.mp hb;obtain⟨o,e1,_⟩:=hs2
     exact⟨o,e1⟩) new
  refine⟨.ref s.heap.objs.size,_,I1,rfl,⟨s.heap.objs.size,I.hok.fresh (Ac _),rfl,λys hy=>by rw[I.list_inj hy hq];exact⟨x,hx,rfl⟩⟩,⟨⟨v,?_⟩,hs2,hi⟩,λb hb=>?_⟩
  .rw[show((i+1:Nat):Int)=(i:Int)+1 by omega];exact he2
  .rw[Ax]
   .exact(hf b hb).1
   .rcases AW.mp hb with z|z
    .rw[z];exact BN hel
    .rw[Fi.mp z];exact BN hil
 done:=by
  rintro X hP hw hK hc i pins s Y H E I hf st ⟨xs,hq,hl,hi⟩;subst hP hw hK;obtain⟨⟨old,he⟩,hs,hin⟩:=st;obtain⟨its,rv,p,hz⟩:=I.list hq;have hlen:its.length=n:=by rw[<-rv.length];exact hl
  obtain⟨f0,f1,f2,f3,f4,f5⟩:=hf it (by simp)
  have hai:a≠it:=λz=>by
   obtain⟨o,g,c,_⟩:=p.isList;obtain⟨o',g',c',_⟩:=hs;rw[z] at g;rw[g] at g';cases g';rw[c] at c';exact absurd c' (by decide)
  obtain rfl:i=its.toArray.size:=by rw[Bi,hlen];omega
  exact wpAny_pyNext_enum_endD (Draws.list (show X.A.in1.handled=none from I.ok.hd hc) it a hai its.toArray) he ⟨hs,p.isList⟩ λh' eb=>⟨rfl,I.turned (t':=s.toks) (λb o hb q=>eb b o hb q) f0 f1 f3 f4 f5⟩
 self:=λA i s Q E st h=>by
  obtain⟨⟨old,he⟩,_⟩:=st;exact wpAny_pyIter_enum he h
abbrev LO(f:AF):IF:=λρ L=>(f ρ L).bind λx=>match x.1 with
 |[.ref k]=>(match x.2[k]? with|some (.lst xs)=>some (⟨Eo xs,λL'=>decide (L'[k]?=some (.lst xs))⟩,x.2)|_=>none)
 |_=>none
def YH(xs:List D)(i:Nat):(Eo xs)[i]?=(xs[i]?).map λd=>.tup [.int (i:Int),d]:=by unfold Eo;rw[Av,List.getElem?_zipIdx];cases xs[i]? <;> simp
section
variable {X:Cx}{elts:AME}{x1:Nat}{tp p pos:Pos}{a:Expr}{fa:AF}
def AIW(hm:X.mg "enumerate"=none)(ha:Da X [a] fa)(hg:Gl X "enumerate":=by rfl)(hs:starEach [a] X.env=[(false,eval a X.env)]:=by rfl):Dl X (.Tuple elts x1 tp) (.Call (.Name "enumerate" p) [a] [] pos) (LO fa):=by
 rintro pins s Y H R I ⟨O,ρ,L,J,L',r,e,k⟩;unfold LO at e;obtain⟨q,e1,e⟩:=bS e;obtain⟨ds,L1⟩:=q;simp only[AQ] at e;split at e
 .rename_i n;split at e
  .rename_i xs e2;cases e;refine Call_ (HD I hg hm (u:=.type "enumerate") (by decide +kernel) (PyProof.Rows.callWith_type1 (Ae (ha pos pins s Y H (λvs H1=>∃a O1,vs=[.ref a]/\AY H O H1 O1/\Ai X.K H1 O1 L'/\O1[n]?=some a) I ⟨O,ρ,L,_,_,r,e1,λvs H1 O1 st rs is=>?_⟩) λus s1 ⟨vs,H1,I1,r1,b,O1,ev,st,rs,hn⟩=>?_) hs rfl))
   .cases is with
    |cons i1 i2=>cases i2;cases i1 with|ref h=>exact⟨_,O1,rfl,st,rs,h⟩
   .subst ev;obtain⟨u,rfl,ru⟩:=EK r1;cases ru;obtain⟨ws,hw,il⟩:=rs.ob n _ _ hn e2;obtain⟨its,rv,pl,hz⟩:=I1.list (BI.of hw);refine call_enumerate_list pl.isList λh' he hs' hz' kk=>?_;refine wpAny_pyIter_enum he ?_;have I2:AG X pins Y H1 {s1 with heap:=h'}:=I1.kept (t':=s1.toks) kk;refine⟨s1.heap.objs.size+1,[s1.heap.objs.size+1,s1.heap.objs.size],_,_,H1,rfl,I2,AAv b _ _ xs.length (Nat.succ_ne_self _),⟨⟨_,he⟩,hs',Ed _⟩,λb hb=>?_,k _ H1 O1 st rs λi H2 O2 L2 st2 rs2 ok=>?_⟩
    .rcases AW.mp hb with rfl|hb
     .exact I1.fpOk (AKp _) (I1.hok.fresh (AKp _))
     .obtain rfl:=Fi.mp hb;exact I1.fpOk (Ac _) (I1.hok.fresh (Ac _))
    .obtain⟨ws',hw',il'⟩:=rs2.ob n _ _ (Ch st2.2 hn) (of_decide_eq_true ok);refine⟨λd hd=>?_,λh=>⟨ws',BI.of hw',il'.length,by simpa[Eo] using h⟩⟩;simp only at hd;rw[YH] at hd
     cases ec:xs[i]? with
     |none=>rw[ec] at hd;cases hd
     |some c =>
      rw[ec] at hd;cases hd;refine⟨⟨ws',BI.of hw',il'.length,(BA.mp ec).1⟩,λx H' ⟨T,hT,ex,y⟩=>?_⟩;obtain⟨v,hv,eH⟩:=y ws' (BI.of hw');subst ex eH;obtain⟨v',hv',iv⟩:=il'.get ec;rw[hv] at hv';cases hv';have st3:AY H2 O2 (upd H2 T (.tup [.int (i:Int),v])) O2:=⟨.new hT,An _⟩;exact⟨st3,rs2.ext λa u e=>by rw[Ax (CW e hT)];exact e,.tup (BW.of Bn) (.cons (.int _) (.cons (iv.mono st3) .nil))⟩
  .cases e
 .cases e
end
def Uf:∀{vs:List V} {us:AMC},vs.length=us.length->(∀(i:Nat) (v:V),vs[i]?=some v->∃u,us[i]?=some u/\AX v u)->AV vs us
 |[],[],_,_=>.nil
 |[],_::_,h,_=>by simp at h
 |_::_,[],h,_=>by simp at h
 |v::vs,u::us,h,f=>by
  refine .cons ?_ (Uf (by simpa using h) λi w hw=>by simpa using f (i+1) w (by simpa using hw));obtain⟨u',e,r⟩:=f 0 v rfl;cases e;exact r
section
variable {X:Cx}
def AAg{prog:Program}{w:World}{A:Around}(hh:A.handled=none)(t d:Addr)(hne:d≠t)(es:Array DictEntry)(ep:Nat) :
  Walks prog w A t [t,d] [t] es.size (λi v=>∃e,es[i]?=some e/\v=e.key) (λi h=>h.IsKeyIter t d i es.size ep/\KL h d es ep) where
 sub:=λb hb=>by simp at hb;simp[hb]
 frame:=λ_ _ _ z3_ k=>by obtain⟨a,o,g,dat⟩:=z3_;exact⟨a.at λo q=>k t (by simp) o q,o,k d (by simp) o g,dat⟩
 item:=λi s Q E hi ⟨a,o,g,dat⟩ k=>by
  refine OC hh a ⟨o,g,dat⟩ (λe he h' a' sb=>?_) λhn=>by rw[Array.getElem?_eq_none_iff] at hn;omega
  exact k e.key h' s.toks ⟨e,he,rfl⟩ ⟨a',o,(sb.2 d hne).trans g,dat⟩ λb q hb e'=>(sb.2 b (by simpa using hb)).trans e'
 done:=λs Q E ⟨a,en⟩ k=>by
  refine OC hh a en (λe he=>by rw[ALs (Ac _)] at he;cases he) λ_ h' x=>?_;exact k h' s.toks λb q hb e'=>x b q (by simpa using hb) e'
 self:=λ_ _ _ _ st h=>wpAny_pyIter_keyiter st.1 h
abbrev AHC(h:Heap)(d:Addr)(es:Array DictEntry)(ep:Nat):Prop:=∃o,h.get? d=some o/\o.cls=.type "dict"/\o.data=.dict es ep
def ABZ{prog:Program}{w:World}{d:Addr}{es:Array DictEntry}{ep:Nat}(hd:(d == sysModules)=false):PySem.W.KdlSrc prog w "dict" d d es.size (λi v=>∃e,es[i]?=some e/\v=e.key) (λh=>AHC h d es ep) where
 type:=λ_ z1_=>by obtain⟨o,g,c,_⟩:=z1_;exact⟨o,g,c⟩
 there:=λ_ z1_=>by obtain⟨o,g,_⟩:=z1_;exact⟨Heap.lt_size g,Heap.lt_size g⟩
 keep:=λ_ _ z2_ k=>by obtain⟨o,g,r⟩:=z2_;exact⟨o,k d (.inl rfl) o g,r⟩
 notList:=by decide
 notTuple:=by decide
 hint:=λ_ _ _ _ z4_ q=>by obtain⟨o,g,c,_⟩:=z4_;exact PySem.W.kdl_hint_dict ⟨o,g,c⟩ q
 iter:=λA s hh ⟨o,g,c,dat⟩=>⟨_,_,λE Q q=>XE hd ⟨o,g,c⟩ ⟨o,g,dat⟩ q,AAg hh _ d (BN (Heap.lt_size g)) es ep,⟨_,Heap.get?_push_size _ rfl,rfl,rfl⟩,o,Heap.get?_push_of_some _ g,dat⟩
abbrev LU:GL:=λxs L=>match xs with
 |[.ref k]=>(match L[k]? with|some (.dt kvs _)=>some (.ref L.length,L++[.lst (FX kvs)])|_=>none)
 |_=>none
def AJ3(hc:X.calm=true):Ez X (.type "list") LU:=λpins s Y H vs us Q I rv z9_=>by
 obtain⟨O,L,xs,d,L',rs,is,e,k⟩:=z9_;unfold LU at e;split at e
 .rename_i n;split at e
  .rename_i kvs ep e1;cases e
   cases is with|cons i1 i2=>cases i2;cases i1 with|@ref _ a hn =>
    obtain⟨u,rfl,ru⟩:=EK rv;cases ru;obtain⟨ws,ha,ek,il,ik⟩:=rs.ob n _ _ hn e1;obtain⟨hsm,⟨⟨o,g,c⟩,_⟩,es,⟨o',g',dat⟩,sz,at_⟩:=Im I ha;rw[g] at g';cases g';have hz:ws.length<=sizeLine:=(show Bx X.prog X.w H s.heap _ (.dN ws ep) from I.hok _ _ ha).1;have hl:ws.length=kvs.length:=by simpa using congrArg List.length ek
    refine PySem.W.kdl_call (ABZ (ep:=ep) hsm) (I.ok.hd hc) ⟨o,g,c,dat⟩ (by rw[sz];exact hz) λh' tk acc c' kk hD hacc=>?_
    -- the list of the keys
    have hv:AV (ws.map λw=>V.ref w.2.1) acc.toList:=by
     refine Uf (by have h9:=hacc.1;rw[sz] at h9;simp[h9]) λi v hv=>?_;rw[Av] at hv
     cases ew:ws[i]? with
     |none=>rw[ew] at hv;cases hv
     |some q =>
      rw[ew] at hv;cases hv;obtain⟨en,h1,h2,_⟩:=at_ i q ew;have hi:i<acc.size:=by rw[hacc.1,sz];exact(BA.mp ew).1
      obtain⟨en',h3,h4⟩:=hacc.2 i acc[i] (by simp[hi]);rw[h1] at h3;cases h3;exact⟨acc[i],by simp[hi],by rw[h4];exact h2⟩
    have hf:H s.heap.objs.size=none:=I.hok.fresh (Ac _)
    have I1:AG X pins Y (upd H s.heap.objs.size (.lst (ws.map λw=>V.ref w.2.1))) {s with heap:=h',toks:=tk} :=
     I.laid (t':=tk) kk (Ac _) ⟨by rw[Ag];exact hz,acc.toList,c',hv,by simpa using hD⟩
    have st:AY H O (upd H s.heap.objs.size (.lst (ws.map λw=>V.ref w.2.1))) (O++[s.heap.objs.size]):=⟨.new hf,Aj _ _⟩
    have ikk:AM X.K H O (ws.map λw=>V.ref w.2.1) (FX kvs):=by
     have go:∀{l:List (NK×Addr×V)} {m:List (NK×D)},l.map (·.1)=m.map (·.1)->(∀u∈l,Is X.K H O (.ref u.2.1) (Dh u.1))->AM X.K H O (l.map λw=>V.ref w.2.1) (FX m):=by
      intro l
      induction l with
      |nil=>intro m em _;cases m with|nil=>exact .nil|cons=>simp at em
      |cons q l ih =>
       intro m em hm
       cases m with
       |nil=>simp at em
       |cons p m =>
        simp only[Ah,List.cons.injEq] at em;refine .cons ?_ (ih em.2 λu hu=>hm u (Az _ hu));show Is X.K H O (.ref q.2.1) (Dh p.1);rw[<-em.1];exact hm q BC
     exact go ek ik
    exact⟨.ref s.heap.objs.size,_,I1,rfl,k _ _ _ st (rs.new hf ⟨_,Bn,ikk.mono st⟩) (.ref (by rw[<-rs.len];simp))⟩
  .cases e
 .cases e
end
abbrev DZ(b:Bool)(h:Heap)(l:Addr)(its:Array Value):Prop:=match b with|true=>h.IsTuple l its|false=>h.IsList l its
abbrev CZ(b:Bool)(h:Heap)(t l:Addr)(k:Nat):Prop:=match b with|true=>h.IsTupleIter t l k|false=>h.IsListIter t l k
section
variable {prog:Program}{w:World}{A:Around}{E:AMI}{s:Shared}{b:Bool}{h h':Heap}{t l:Addr}{k:Nat}{its:Array Value}
def DZ.ext(x:DZ b h l its)(e:∀o,h.get? l=some o->h'.get? l=some o):DZ b h' l its:=by
 cases b with
 |true=>obtain⟨o,g,r⟩:=x;exact⟨o,e o g,r⟩
 |false=>obtain⟨o,g,r⟩:=x;exact⟨o,e o g,r⟩
def CZ.ext(x:CZ b h t l k)(e:∀o,h.get? t=some o->h'.get? t=some o):CZ b h' t l k:=by
 cases b with
 |true=>obtain⟨o,g,r⟩:=x;exact⟨o,e o g,r⟩
 |false=>obtain⟨o,g,r⟩:=x;exact⟨o,e o g,r⟩
def CZ.obj(x:CZ b h t l k):∃o,h.get? t=some o/\∀v,o.data≠.cell v:=by
 cases b with
 |true=>obtain⟨o,g,_,d⟩:=x;exact⟨o,g,λv z=>by rw[d] at z;cases z⟩
 |false=>obtain⟨o,g,_,d⟩:=x;exact⟨o,g,λv z=>by rw[d] at z;cases z⟩
def ABx{Q:AMI}(x:DZ b s.heap l its)(q:∀o,CZ b (s.heap.push o) s.heap.objs.size l 0->Q (.ref s.heap.objs.size) {s with heap:=s.heap.push o}):wpAny (model prog w) A (pyIter (.ref l)) Q E s:=by
 cases b with
 |true=>exact wpAny_pyIter_tuple x (q _ ⟨_,Heap.get?_push_size _ rfl,rfl,rfl⟩)
 |false=>exact AL0 x (q _ ⟨_,Heap.get?_push_size _ rfl,rfl,rfl⟩)
def tup_next{Q:AMI}(hh:A.handled=none)(i:s.heap.IsTupleIter t l k)(x:s.heap.IsTuple l its)(some_:∀v,its[k]?=some v->∀h',h'.IsTupleIter t l (k+1)->Heap.SameBut t s.heap h'->Q v {s with heap:=h'})
  (none_:its[k]?=none->∀h' e,Heap.ExtBut t s.heap h'->(∃o,h'.get? e=some o/\o.cls=.type "StopIteration")->E (.ref e) {s with heap:=h'}):wpAny (model prog w) A (Builtin.SmallTypes.nextOf (.ref t)) Q E s:=by
 obtain⟨ot,gt,ct,dt⟩:=id i;obtain⟨ol,gl,_,n,dl⟩:=x
 have inner:∀{R:AMI},(∀v,its[k]?=some v->∀h',h'.IsTupleIter t l (k+1)->Heap.SameBut t s.heap h'->R v {s with heap:=h'}) ->
   wpAny (model prog w) A.in1 (Builtin.«tuple_iterator.__next__» ⟨[.ref t],[]⟩) (λfi s2=>∃v,fi=PySem.Fin.done (Flow.ret v)/\R v s2) E s:=λ{R} one=>by
  refine AE (m:=field (.ref t) 0) (EH (x:=.ref l) gt dt rfl ?_)
  show wpAny _ _ (if (Value.ref l == Value.none)=true then _ else _) _ _ s
  rw[if_neg (λz=>by cases (show(false:Bool)=true from z))];refine AE (m:=field (.ref t) 1) (EH (x:=.int k 0) gt dt rfl (AE (m:=seqItems? (.ref l)) (ALx gl dl ?_)));simp only[AKe]
  cases ev:its[k]? with
  |none =>
   refine AE (ALw (AE (m:=setField (.ref t) 0 .none) (wpAny_setField gt dt (by simp) ?_)));exact Rl (A:=A.in1) (t:=t) (h0:=s.heap) (s:={s with heap:=s.heap.update t (Obj.mapFields (·.setIfInBounds 0 .none))}) hh (Heap.SameBut.update ..).extBut λh' k x hx=>none_ ev h' x k hx
  |some v =>
   refine AE (wpAny_setField gt dt (by simp) (AK ⟨v,rfl,one v ev _ ?_ (Heap.SameBut.update ..)⟩));exact⟨_,Heap.get?_update_self _ gt (Obj.isFreed_of_fields (Obj.data_mapFields dt _)),(Obj.cls_mapFields ..).trans ct,by rw[Obj.data_mapFields dt];simp[rawInt]⟩
 unfold Builtin.SmallTypes.nextOf;exact AE (AL2 (name:=Str.ofString "__next__") i.typeIs ALv (Fg ALv i.typeIs PySem.F.entry_tuple_iterator_next (inner λv hv h' i' sb=>AK (some_ v hv h' i' sb)) (PySem.F.args_tuple_iterator_next_1 _)))
def ABw{v:Value}{Q:AMI}(hh:A.handled=none)(i:CZ b s.heap t l k)(x:DZ b s.heap l its)(hv:its[k]?=some v)(q:∀h',CZ b h' t l (k+1)->Heap.SameBut t s.heap h'->Q v {s with heap:=h'}):wpAny (model prog w) A (Builtin.SmallTypes.nextOf (.ref t)) Q E s:=by
 cases b with
 |true=>exact tup_next hh i x (λv' e h' i' sb=>by rw[hv] at e;cases e;exact q h' i' sb) λe=>by rw[hv] at e;cases e
 |false=>exact wpAny_nextOf_list_item i x hv q
def ABz{Q:AMI}(hh:A.handled=none)(i:CZ b s.heap t l k)(x:DZ b s.heap l its)(hv:its[k]?=none)(q:∀h' e,Heap.ExtBut t s.heap h'->(∃o,h'.get? e=some o/\o.cls=.type "StopIteration")->E (.ref e) {s with heap:=h'}):wpAny (model prog w) A (Builtin.SmallTypes.nextOf (.ref t)) Q E s:=by
 cases b with
 |true=>exact tup_next hh i x (λv' e=>by rw[hv] at e;cases e) λ_=>q
 |false=>exact wpAny_nextOf_list_end hh i x hv q
end
structure Src where
 b:Bool
 t:Addr
 l:Addr
noncomputable abbrev Dk(h:Heap)(T:Addr)(vs:AMC):Prop:=h.get? T=some {cls:=.type "tuple",data:=.seq vs.toArray}
abbrev LB:AMC->Nat->AMC->AMC
 |kept,_,[]=>kept
 |kept,j,v::vs=>LB (kept.set j v) (j+1) vs
def Vr:∀(vs kept:AMC) (j:Nat),kept.length=j+vs.length->LB kept j vs=kept.take j++vs
 |[],kept,j,h=>by simp only[LB,FR];rw[ALO (by simpa using AKz h)]
 |v::vs,kept,j,h=>by
  simp only[Dd] at h;rw[LB,Vr vs _ _ (by rw[Fl];omega)];rw[List.take_succ,AKY (by omega),List.take_set_of_le (Ac _)];simp
section
variable {prog:Program}{w:World}{A:Around}{E:AMI}{s:Shared}{z TI TO:Addr}{k:Nat}
abbrev AHB(M:Model)(A:Around)(E:AMI)(s:Shared)(z TI TO:Addr)(k:Nat){β:Type}(init:β)(f:Value×Nat->β->Sem (ForInStep β)):Prop :=
 ∀(r:Src) (j:Nat) (v:Value) (its:Array Value) (h1:Heap) (kept:AMC),CZ r.b h1 r.t r.l k->DZ r.b h1 r.l its->its[k]?=some v->IsZip h1 z TI TO .ellipsis->Dk h1 TO kept->kept.length<=1000->r.t≠TO->r.t≠z ->
  ∀G:ForInStep β->Shared->Prop,(∀h2,CZ r.b h2 r.t r.l (k+1)->Dk h2 TO (kept.set j v)->IsZip h2 z TI TO .ellipsis->h2.objs.size=h1.objs.size->(∀c o,c≠TO->c≠r.t->h1.get? c=some o->h2.get? c=some o)->G (.yield init) {s with heap:=h2}) ->
   wpAny M A (f (.ref r.t,j) init) G E {s with heap:=h1}
def AF3{M:Model}{β:Type}{init:β}{f:Value×Nat->β->Sem (ForInStep β)}(one:AHB M A E s z TI TO k init f)(tz:TO≠z):∀(rs:List Src) (vs:AMC) (j:Nat) (h1:Heap) (kept:AMC),
  Paired (λ(r:Src) v=>CZ r.b h1 r.t r.l k/\∃its,DZ r.b h1 r.l its/\its[k]?=some v) rs vs->(rs.map (·.t)).Nodup->(∀r∈rs,r.t≠TO/\r.t≠z/\r.l≠TO/\∀q∈rs,r.l≠q.t)->IsZip h1 z TI TO .ellipsis->Dk h1 TO kept->kept.length<=1000 ->
  ∀G:β->Shared->Prop,(∀h2,(∀r∈rs,CZ r.b h2 r.t r.l (k+1))->Dk h2 TO (LB kept j vs)->IsZip h2 z TI TO .ellipsis->h2.objs.size=h1.objs.size->(∀c o,c≠TO->c∉rs.map (·.t)->h1.get? c=some o->h2.get? c=some o)->G init {s with heap:=h2}) ->
   wpAny M A (forIn ((rs.map λr=>Value.ref r.t).zipIdx j) init f) G E {s with heap:=h1}:=by
 intro rs
 induction rs with
 |nil =>
  intro vs j h1 kept p _ _ hz ht _ G q;cases p;exact AK (q h1 (λ_ h=>nomatch h) ht hz rfl λc o _ _ e=>e)
 |cons r rs ih =>
  intro vs j h1 kept p nd ap hz ht hk G q
  cases p with
  |@cons _ v _ vs hr ps =>
  obtain⟨ir,its,xr,hv⟩:=hr;rw[Ah,List.zipIdx_cons,AK4];obtain⟨a1,a2,a3,a4⟩:=ap r BC;rw[Ah,AKZ] at nd;refine AE (one r j v its h1 kept ir xr hv hz ht hk a1 a2 _ λh2 i2 t2 z2 s2 k2=>?_);have ne:∀r'∈rs,r'.t≠r.t:=λr' h' e=>nd.1 (by rw[<-e];exact Cz h')
  have ps2:Paired (λ(r:Src) v=>CZ r.b h2 r.t r.l k/\∃its,DZ r.b h2 r.l its/\its[k]?=some v) rs vs:=by
   have go:∀{l:List Src} {m:AMC},(∀x∈l,x∈rs)->Paired (λ(r:Src) v=>CZ r.b h1 r.t r.l k/\∃its,DZ r.b h1 r.l its/\its[k]?=some v) l m->Paired (λ(r:Src) v=>CZ r.b h2 r.t r.l k/\∃its,DZ r.b h2 r.l its/\its[k]?=some v) l m:=by
    intro l m hl p
    induction p with
    |nil=>exact .nil
    |@cons x u l m hx _ ih =>
     obtain⟨i1,its1,x1,e1⟩:=hx;have hm:=hl x BC;obtain⟨c1,c2,c3,c4⟩:=ap x (Az _ hm);exact .cons ⟨i1.ext λo e=>k2 _ o c1 (ne x hm) e,its1,x1.ext λo e=>k2 _ o c3 (c4 r BC) e,e1⟩ (ih λy hy=>hl y (Az _ hy))
   exact go (λ_ h=>h) ps
  refine ih vs (j+1) h2 (kept.set j v) ps2 nd.2 (λr' h'=>?_) z2 t2 (by rw[Fl];exact hk) G λh3 i3 t3 z3 s3 k3=>?_
  .obtain⟨c1,c2,c3,c4⟩:=ap r' (Az _ h');exact⟨c1,c2,c3,λq' hq=>c4 q' (Az _ hq)⟩
  .refine q h3 (λr' h'=>?_) t3 z3 (s3.trans s2) λc o c1 c2 e=>?_
   .rcases AW.mp h' with e|h'
    .subst e;exact i2.ext λo e=>k3 _ o a1 nd.1 e
    .exact i3 r' h'
   .simp only[Ah,AW,not_or] at c2;exact k3 c o c1 c2.2 (k2 c o c1 c2.1 e)
def AAA{zs:List Src}{vs old:AMC}{R:AMI}(hh:A.handled=none)(hz:IsZip s.heap z TI TO .none)(hi:Dk s.heap TI (zs.map λr=>.ref r.t))(ht:Dk s.heap TO old)(ho:old.length=vs.length)(hk:old.length<=1000)(ne:zs≠[])
  (nd:(zs.map (·.t)).Nodup) (tz:TO≠z) (iz:TI≠z) (ap:∀r∈zs,r.t≠TO/\r.t≠z/\r.l≠TO/\r.l≠z/\∀q∈zs,r.l≠q.t) (each:Paired (λ(r:Src) v=>CZ r.b s.heap r.t r.l k/\∃its,DZ r.b s.heap r.l its/\its[k]?=some v) zs vs)
  (q:∀h',IsZip h' z TI TO (rawInt s.heap.objs.size)->Dk h' TO vs->(∀r∈zs,CZ r.b h' r.t r.l (k+1))->Dk h' s.heap.objs.size vs->(∀c o,c≠z->c≠TO->c∉zs.map (·.t)->s.heap.get? c=some o->h'.get? c=some o)->R (.ref s.heap.objs.size) {s with heap:=h'}) :
  wpAny (model prog w) A (Builtin.«zip.__next__» ⟨[.ref z],[]⟩) (λfi s2=>∃v,fi=PySem.Fin.done (Flow.ret v)/\R v s2) E s:=by
 refine AE (m:=field (.ref z) 2) (EH (x:=.bool false) hz rfl rfl (AE (m:=field (.ref z) 3) (EH (x:=.ref TI) hz rfl rfl (AE (ALx hi rfl ?_)))));have hem:(zs.map λr=>Value.ref r.t).toArray.isEmpty=false:=by cases zs with|nil=>exact absurd rfl ne|cons=>rfl
 simp only[hem,ALC,if_false];refine AE (m:=Builtin.SmallTypes.ownedTupleIsFree (.ref z)) (AE (EH (x:=.none) hz rfl rfl (AK ?_)));rw[if_pos rfl];refine AE (ALw (AE (EH (x:=.ref TO) hz rfl rfl (AE (AL9 hz (by simp) λh1 z1 b1=>?_)))));have z1':IsZip h1 z TI TO .ellipsis:=z1;refine AE ?_;refine AF3 (M:=model prog w) (E:=E) (A:=A) (s:=s) (TI:=TI) (k:=k) ?one tz zs vs 0 h1 old ?ps nd (λr hr=>?_) z1' (b1.extBut _ _ tz ht) hk _ λh2 i2 t2 z2 s2 k2=>?_
 case one =>
  intro r j v its h3 kept ir xr hv z3 t3 hl3 r1 r2 G g;refine AE (wpAny_onRaise (AE (m:=Builtin.SmallTypes.nextOf (.ref r.t)) (ABw (s:={s with heap:=h3}) hh ir xr hv λh4 i4 b4=>AK ?_)));have t4:Dk h4 TO kept:=b4.extBut _ _ (Ne.symm r1) t3;have z4:IsZip h4 z TI TO .ellipsis:=b4.extBut _ _ (Ne.symm r2) z3;refine AE (ALx t4 rfl (AE (wpAny_updateSeq t4 rfl (AE (wpAny_letGo (AK ?_))) (by rw[sizeLine_eq,Bi];omega) (by rw[sizeLine_eq,Array.size_setIfInBounds,Bi];omega))));have b5:Heap.SameBut TO h4 (h4.update TO (Obj.mapSeq (·.setIfInBounds j v))):=.update ..;refine g _ (i4.ext λo e=>b5.extBut _ _ r1 e) ?_ (b5.extBut _ _ (Ne.symm tz) z4) (b5.1.trans b4.1) λc o c1 c2 e=>b5.extBut _ _ c1 (b4.extBut _ _ c2 e);show Heap.get? _ TO=_;rw[Heap.get?_update_self _ t4 rfl];simp[Obj.mapSeq]
 case ps =>
  have go:∀{l:List Src} {m:AMC},(∀x∈l,x∈zs)->Paired (λ(r:Src) v=>CZ r.b s.heap r.t r.l k/\∃its,DZ r.b s.heap r.l its/\its[k]?=some v) l m->Paired (λ(r:Src) v=>CZ r.b h1 r.t r.l k/\∃its,DZ r.b h1 r.l its/\its[k]?=some v) l m:=by
   intro l m hl p
   induction p with
   |nil=>exact .nil
   |@cons x u l m hx _ ih =>
    obtain⟨i1,its1,x1,e1⟩:=hx;obtain⟨c1,c2,c3,c4,c5⟩:=ap x (hl x BC);exact .cons ⟨i1.ext λo e=>b1.extBut _ _ c2 e,its1,x1.ext λo e=>b1.extBut _ _ c4 e,e1⟩ (ih λy hy=>hl y (Az _ hy))
  exact go (λ_ h=>h) each
 .obtain⟨c1,c2,c3,c4,c5⟩:=ap r hr;exact⟨c1,c2,c3,c5⟩
 .rw[Vr vs old 0 (by rw[ho];omega),List.take_zero,List.nil_append] at t2;refine AE (ALx t2 rfl (AE (wpAny_newTuple ?_)));have sz:h2.objs.size=s.heap.objs.size:=s2.trans b1.1;have hzl:z<h2.objs.size:=Heap.lt_size z2;refine AE (m:=Builtin.SmallTypes.ownedTupleHandOut (.ref z) (.ref h2.objs.size)) (AE (AL9 (Heap.get?_push_of_some _ z2) (by simp) λh3 z3 b3=>AL9 z3 (by simp) λh4 z4 b4=>?_));have far:∀c o,c≠z->h2.get? c=some o->h4.get? c=some o:=λc o hc e=>b4.extBut _ _ hc (b3.extBut _ _ hc (Heap.get?_push_of_some _ e));refine AK ⟨_,rfl,?_⟩;have z4':IsZip h4 z TI TO (rawInt h2.objs.size):=z4;have new4:Dk h4 h2.objs.size vs:=b4.extBut _ _ (FN hzl) (b3.extBut _ _ (FN hzl) (by show Heap.get? _ _=_;exact Heap.get?_push_size _ rfl));rw[sz] at z4' new4;rw[sz];exact q h4 z4' (far _ _ tz t2) (λr hr=>(i2 r hr).ext λo e=>far _ _ (ap r hr).2.1 e) new4 λc o c1 c2 c3 e=>far c o c1 (k2 c o c2 c3 (b1.extBut _ _ c1 e))
def Zz{zs:List Src}{r0:Src}{its:Array Value}{Q:PySem.Fin->Shared->Prop}(hh:A.handled=none)(hz:IsZip s.heap z TI TO .none)(hi:Dk s.heap TI ((r0::zs).map λr=>.ref r.t))(a1:r0.t≠z)(a2:r0.l≠z)
  (ir:CZ r0.b s.heap r0.t r0.l k) (xr:DZ r0.b s.heap r0.l its) (hv:its[k]?=none)
  (q:∀h' e,(∀c o,c≠z->c≠r0.t->s.heap.get? c=some o->h'.get? c=some o)->(∃o,h'.get? e=some o/\o.cls=.type "StopIteration")->E (.ref e) {s with heap:=h'}) :
  wpAny (model prog w) A (Builtin.«zip.__next__» ⟨[.ref z],[]⟩) Q E s:=by
 refine AE (m:=field (.ref z) 2) (EH (x:=.bool false) hz rfl rfl (AE (m:=field (.ref z) 3) (EH (x:=.ref TI) hz rfl rfl (AE (ALx hi rfl ?_)))));have hem:((r0::zs).map λr=>Value.ref r.t).toArray.isEmpty=false:=rfl;simp only[hem,ALC,if_false];refine AE (m:=Builtin.SmallTypes.ownedTupleIsFree (.ref z)) (AE (EH (x:=.none) hz rfl rfl (AK ?_)));rw[if_pos rfl];refine AE (ALw (AE (EH (x:=.ref TO) hz rfl rfl (AE (AL9 hz (by simp) λh1 z1 b1=>AE ?_)))));rw[Ah,List.zipIdx_cons,AK4];have z1':IsZip h1 z TI TO .ellipsis:=z1;refine AE (AE (wpAny_onRaise (AE (m:=Builtin.SmallTypes.nextOf (.ref r0.t)) (ABz (s:={s with heap:=h1}) hh (ir.ext λo e=>b1.extBut _ _ a1 e) (xr.ext λo e=>b1.extBut _ _ a2 e) hv λh2 e k2 z3_=>?_))));obtain⟨oe,ge,ce⟩:=z3_;have z2:IsZip h2 z TI TO .ellipsis:=k2 _ _ (Ne.symm a1) z1';have ez:e≠z:=λx=>by subst x;rw[z2] at ge;cases ge;exact absurd (show Value.type "zip"=Value.type "StopIteration" from ce) (by decide)
 exact AL9 z2 (by simp) λh3 _ b3=>q h3 e (λc o c1 c2 x=>b3.extBut _ _ c1 (k2 _ _ c2 (b1.extBut _ _ c1 x))) ⟨oe,b3.extBut _ _ ez ge,ce⟩
end
abbrev Bq:Nat->List (Bool×Addr)->List Src
 |_,[]=>[]
 |n,p::r=>⟨p.1,n,p.2⟩::Bq (n+1) r
def Nc:∀(ls:List (Bool×Addr)) (n:Nat),(Bq n ls).length=ls.length
 |[],_=>rfl
 |_::r,n=>by simp[Bq,Nc r]
def Nd:∀(ls:List (Bool×Addr)) (n:Nat),(Bq n ls).map (λr=>(r.b,r.l))=ls
 |[],_=>rfl
 |_::r,n=>by simp[Bq,Nd r]
def Kv:∀(ls:List (Bool×Addr)) (n:Nat) (r:Src),r∈Bq n ls->n<=r.t/\r.t<n+ls.length
 |[],_,_,h=>nomatch h
 |p::q,n,r,h=>by
  rcases AW.mp h with e|h
  .subst e;simp
  .obtain⟨a,b⟩:=Kv q (n+1) r h;exact⟨Nat.le_of_succ_le a,Nat.lt_of_lt_of_eq b (by rw[Dd,AKj,Nat.add_comm 1])⟩
def VR:∀(ls:List (Bool×Addr)) (n:Nat),((Bq n ls).map (·.t)).Nodup
 |[],_=>AKh
 |p::q,n=>by
  rw[Bq,Ah,AKZ];refine⟨λh=>?_,VR q (n+1)⟩;obtain⟨r,hr,e⟩:=Aw.mp h;have:=(Kv q (n+1) r hr).1;rw[show r.t=n from e] at this;exact Nat.not_succ_le_self n this
section
variable {prog:Program}{w:World}{A:Around}{E:AMI}{s:Shared}
def XH:∀(ls:List (Bool×Addr)) (acc:Array Value) (s:Shared),(∀p∈ls,∃its,DZ p.1 s.heap p.2 its)->∀G:Array Value->Shared->Prop,
  (∀h',(∀r∈Bq s.heap.objs.size ls,CZ r.b h' r.t r.l 0)->h'.objs.size=s.heap.objs.size+ls.length->(∀c o,s.heap.get? c=some o->h'.get? c=some o)->G (acc++((Bq s.heap.objs.size ls).map λr=>Value.ref r.t).toArray) {s with heap:=h'}) ->
  wpAny (model prog w) A (forIn (ls.map λp=>Value.ref p.2) acc λx its=>do let __do_lift <-holding its.toList (pyIter x);pure (ForInStep.yield (its.push __do_lift))) G E s
 |[],acc,s,_,G,q=>AK (by simpa[Bq] using q s.heap (λ_ h=>nomatch h) rfl λ_ _ e=>e)
 |p::ls,acc,s,hs,G,q=>by
  obtain⟨its,x⟩:=hs p BC;rw[Ah,AK4];refine AE (AE (DJ (ABx x λo i=>AK ?_)));refine XH ls (acc.push (.ref s.heap.objs.size)) {s with heap:=s.heap.push o} (λp' hp=>?_) G λh' e z k=>?_
  .obtain⟨its',x'⟩:=hs p' (Az _ hp);exact⟨its',x'.ext λo' e=>Heap.get?_push_of_some _ e⟩
  .have sz:(s.heap.push o).objs.size=s.heap.objs.size+1:=Heap.size_push ..;have e1:Bq s.heap.objs.size (p::ls)=⟨p.1,s.heap.objs.size,p.2⟩::Bq (s.heap.push o).objs.size ls:=by rw[sz];rfl
   have:=q h' (λr hr=>by
    rw[e1] at hr;rcases AW.mp hr with er|hr
    .subst er;exact i.ext λo' e'=>k _ o' e'
    .exact e r hr) (by rw[z,Dd];show(s.heap.push o).objs.size+_=_;rw[sz];omega) λc o' e'=>k c o' (Heap.get?_push_of_some _ e')
   rw[e1] at this;simpa using this
def AAB(xs:AMC):Builtin.SmallTypes.newClass "zip" ⟨.type "zip"::xs,[]⟩=pure (.type "zip",xs):=by unfold Builtin.SmallTypes.newClass;simp only[sub_zip];rfl
def AD0(ls:List (Bool×Addr))(hn:ls.length<=1000):MeetsIn prog w (Builtin.«zip.__new__» ⟨.type "zip"::ls.map (λp=>.ref p.2),[]⟩) (λ_ R s=>(∀p∈ls,∃its,DZ p.1 s.heap p.2 its) /\
  ∀h',(∀r∈Bq s.heap.objs.size ls,CZ r.b h' r.t r.l 0)->Dk h' (s.heap.objs.size+ls.length) ((Bq s.heap.objs.size ls).map λr=>.ref r.t)->Dk h' (s.heap.objs.size+ls.length+1) ((Bq s.heap.objs.size ls).map λ_=>.none) ->
   IsZip h' (s.heap.objs.size+ls.length+2) (s.heap.objs.size+ls.length) (s.heap.objs.size+ls.length+1) .none->(∀c o,s.heap.get? c=some o->h'.get? c=some o)->R (.ok (.ret (.ref (s.heap.objs.size+ls.length+2)))) {s with heap:=h'}) :=
 .of_wp λA R s z3_=>by
  obtain⟨hs,q⟩:=z3_;unfold Builtin.«zip.__new__»;rw[AAB];refine AE (AK ?_);refine AE (m:=Builtin.SmallTypes.iterAll (ls.map λp=>.ref p.2)) ?_;unfold Builtin.SmallTypes.iterAll;refine AE (XH ls #[] s hs _ λh1 e1 z1 k1=>AK ?_);have e0:((#[]:Array Value)++((Bq s.heap.objs.size ls).map λr=>Value.ref r.t).toArray).toList=(Bq s.heap.objs.size ls).map λr=>Value.ref r.t:=by simp
  rw[e0];have len:(Bq s.heap.objs.size ls).length<=1000:=by rw[Nc];exact hn
  have z2:∀o,(h1.push o).objs.size=s.heap.objs.size+ls.length+1:=λo=>by rw[Heap.size_push,z1]
  have z3:∀o o',((h1.push o).push o').objs.size=s.heap.objs.size+ls.length+2:=λo o'=>by rw[Heap.size_push,z2]
  refine AE (wpAny_newTuple (s:={s with heap:=h1}) ?_ (by rw[Ag,sizeLine_eq];omega));refine AE (wpAny_newTuple ?_ (by rw[Ag,Ag,sizeLine_eq];omega));refine AE ?_;show wpAny _ _ (newObj (.type "zip") (.fields #[.none,.bool false,.bool false,.ref _,.ref _])) _ _ _;refine AL3 (AK ⟨_,rfl,?_⟩) (by show 5<=sizeLine+2;rw[sizeLine_eq];decide);show R (.ok (.ret (.ref ((h1.push _).push _).objs.size))) _;rw[z3];refine q _ (λr hr=>(e1 r hr).ext λo e=>Heap.get?_push_of_some _ (Heap.get?_push_of_some _ (Heap.get?_push_of_some _ e))) ?_ ?_ ?_ λc o e=>Heap.get?_push_of_some _ (Heap.get?_push_of_some _ (Heap.get?_push_of_some _ (k1 c o e)))
  .show Heap.get? _ _=_;rw[<-z1];exact Heap.get?_push_of_some _ (Heap.get?_push_of_some _ (Heap.get?_push_size _ rfl))
  .show Heap.get? _ _=_;rw[<-z2 {cls:=.type "tuple",data:=.seq ((Bq s.heap.objs.size ls).map λr=>Value.ref r.t).toArray}];refine Heap.get?_push_of_some _ ?_;rw[show((Bq s.heap.objs.size ls).map λ_=>Value.none)=((Bq s.heap.objs.size ls).map λr=>Value.ref r.t).map (λ_=>Value.none) by rw[Bz];rfl];exact Heap.get?_push_size _ rfl
  .rw[<-z3 {cls:=.type "tuple",data:=.seq ((Bq s.heap.objs.size ls).map λr=>Value.ref r.t).toArray} {cls:=.type "tuple",data:=.seq (((Bq s.heap.objs.size ls).map λr=>Value.ref r.t).map (λ_=>Value.none)).toArray}];have:=Heap.get?_push_size ((h1.push {cls:=.type "tuple",data:=.seq ((Bq s.heap.objs.size ls).map λr=>Value.ref r.t).toArray}).push {cls:=.type "tuple",data:=.seq (((Bq s.heap.objs.size ls).map λr=>Value.ref r.t).map (λ_=>Value.none)).toArray}) (o:={cls:=.type "zip",data:=.fields #[.none,.bool false,.bool false,.ref h1.objs.size,.ref (h1.push {cls:=.type "tuple",data:=.seq ((Bq s.heap.objs.size ls).map λr=>Value.ref r.t).toArray}).objs.size]}) rfl;refine Eq.trans this ?_;rw[z2,z1]
end
abbrev Et(K:AI)(b:Bool)(H:Hp)(a:Addr)(xs:List V):Prop:=match b with|true=>BW K H a xs|false=>BI K H a xs
section
variable {X:Cx}{pins:List (Addr×Obj)}{Y:L2.St}{H:Hp}{s:Shared}
def Et.at(I:AG X pins Y H s){b:Bool}{a:Addr}{xs:List V}(h:Et X.K b H a xs):∃its:AMC,AV xs its/\DZ b s.heap a its.toArray:=by
 cases b with
 |true=>obtain⟨its,rv,p,_⟩:=I.tuple h;exact⟨its,rv,p⟩
 |false=>obtain⟨its,rv,p,_⟩:=I.list h;exact⟨its,rv,p.isList⟩
def Et.inj(I:AG X pins Y H s){b:Bool}{a:Addr}{xs ys:List V}(h:Et X.K b H a xs)(h':Et X.K b H a ys):xs=ys:=by
 cases b with
 |true=>exact I.tuple_inj h h'
 |false=>exact I.list_inj h h'
end
def AAo{X:Cx}{pins:List (Addr×Obj)}{Y:L2.St}{H:Hp}{s:Shared}{h':Heap}{t':Nat}{fp:AMD}(I:AG X pins Y H s)(hf:∀b∈fp,GS X pins H b)(k:∀b o,b∉fp->s.heap.get? b=some o->h'.get? b=some o):AG X pins Y H {s with heap:=h',toks:=t'}:=by
 have nit:∀b u,H b=some u->b∉fp:=λb u e z=>by rw[(hf b z).1] at e;cases e
 refine I.step (g':=s.gens) (d':=s.drawn) (ch:=fp) (λb hb=>⟨(hf b hb).2.2.2.1,(hf b hb).2.1,(hf b hb).2.2.2.2.1,(hf b hb).2.2.2.2.2⟩) (λb o _ _ hc e _=>k b o hc e) (λb o _ _ hc e _=>⟨o.slots,k b o hc e⟩)
  (λb o _ e n=>n) (λb o hc e=>⟨o,k b o hc e⟩) (λb xs e=>e) (λb o u e=>e)
  (λb ps e=>⟨#[],by rw[e];simp⟩) (λm hm=>?_) (λb u e=>?_) I.bare
 .obtain⟨o,es,ep,ho,r⟩:=hm;exact⟨o,es,ep,k _ o (λz=>(hf _ z).2.1 rfl) ho,r⟩
 .refine(I.hok b u e).stay (λc v hc q=>k c v ?_ q) (λc q=>q) λc xs q=>q;rcases hc with z|z
  .rw[z];exact nit b u e
  .exact nit c _ z
abbrev Itz(K:AI)(zs:List Src)(n:Nat):It :=
 ⟨λi H=>(∀r∈zs,∃xs,Et K r.b H r.l xs/\xs.length=n)/\i<n,
  λi H v H'=>∃T vs,H T=none/\v=.ref T/\H'=upd H T (.tup vs)/\Paired (λ(r:Src) x=>∀xs,Et K r.b H r.l xs->xs[i]?=some x) zs vs,
  λi H=>(∀r∈zs,∃xs,Et K r.b H r.l xs/\xs.length=n)/\n<=i⟩
structure ZB (z TI TO:Addr) (zs:List Src):Prop where
 ne:zs≠[]
 few:zs.length<=1000
 nd:(zs.map (·.t)).Nodup
 tz:TO≠z
 iz:TI≠z
 it:TI≠TO
 ts:∀r∈zs,r.t≠z/\r.t≠TI/\r.t≠TO
 ls:∀r∈zs,r.l≠z/\r.l≠TI/\r.l≠TO/\∀q∈zs,r.l≠q.t
def AAp{P:Program}{w:World}{K:AI}{elts:AME}{x1:Nat}{tp:Pos}{z TI TO:Addr}{zs:List Src}(n:Nat)(ap:ZB z TI TO zs) :
  Go P w K (.Tuple elts x1 tp) (Itz K zs n) (z::TI::TO::zs.map (·.t)) z (λi h=>IsZip h z TI TO .none/\Dk h TI (zs.map λr=>.ref r.t)/\(∃old,Dk h TO old/\old.length=zs.length)/\(∀r∈zs,CZ r.b h r.t r.l i)/\i<=n) where
 mem:=by simp
 obj:=λi h ⟨hz,hi,⟨old,ho,_⟩,hs,_⟩ b hb=>by
  rcases AW.mp hb with rfl|hb
  .exact⟨_,hz,λv q=>by cases q⟩
  .rcases AW.mp hb with rfl|hb
   .exact⟨_,hi,λv q=>by cases q⟩
   .rcases AW.mp hb with rfl|hb
    .exact⟨_,ho,λv q=>by cases q⟩
    .obtain⟨r,hr,rfl⟩:=Aw.mp hb;exact(hs r hr).obj
 keep:=λi h h' z3_ k=>by obtain⟨hz,hi,⟨old,ho,hl⟩,hs,hn⟩:=z3_;exact⟨k z (by simp) _ hz,k TI (by simp) _ hi,⟨old,k TO (by simp) _ ho,hl⟩,λr hr=>(hs r hr).ext λo e=>k r.t (by simp only[AW];exact .inr (.inr (.inr (Cz hr)))) o e,hn⟩
 item:=by
  rintro X hP hw hK hc i pins s Y H E I hf ⟨hz,hi,⟨old,ho,hl⟩,hs,_⟩ ⟨hq,hlt⟩;subst hP hw hK
  -- the values
  have vals:∀l:List Src,(∀r∈l,r∈zs)->∃us vs,Paired (λ(r:Src) v=>CZ r.b s.heap r.t r.l i/\∃its,DZ r.b s.heap r.l its/\its[i]?=some v) l us/\AV vs us/\Paired (λ(r:Src) x=>∀xs,Et X.K r.b H r.l xs->xs[i]?=some x) l vs:=by
   intro l
   induction l with
   |nil=>intro _;exact⟨[],[],.nil,.nil,.nil⟩
   |cons r l ih =>
    intro hl;obtain⟨us,vs,p1,p2,p3⟩:=ih λq hq=>hl q (Az _ hq);obtain⟨xs,sv,hn⟩:=hq r (hl r BC);obtain⟨its,rv,so⟩:=sv.at I;obtain⟨x,hx⟩:∃x,xs[i]?=some x:=⟨xs[i]'(by omega),by simp[show i<xs.length by omega]⟩;obtain⟨u,hu,ru⟩:=rv.get hx;exact⟨u::us,x::vs,.cons ⟨hs r (hl r BC),its.toArray,so,by simpa using hu⟩ p1,.cons ru p2,.cons (λys hy=>by rw[hy.inj I sv];exact hx) p3⟩
  obtain⟨us,vs,p1,p2,p3⟩:=vals zs λ_ h=>h;have lu:us.length=zs.length:=(Paired.length p1).symm;have lv:vs.length=zs.length:=(Paired.length p3).symm;have zl:z<s.heap.objs.size:=Heap.lt_size hz;have ty:s.TypeIs (.ref z) "zip":=⟨_,hz,rfl⟩
  have hb:∀b,b∈z::TI::TO::zs.map (·.t)->b<s.heap.objs.size:=λb hb=>by
   rcases AW.mp hb with rfl|hb
   .exact zl
   .rcases AW.mp hb with rfl|hb
    .exact Heap.lt_size hi
    .rcases AW.mp hb with rfl|hb
     .exact Heap.lt_size ho
     .obtain⟨r,hr,rfl⟩:=Aw.mp hb;obtain⟨o,e,_⟩:=(hs r hr).obj;exact Heap.lt_size e
  unfold pyNext
  refine AE (wpAny_attempt (AL2 (name:=Str.ofString "__next__") ty ALc (Fg ALc ty PySem.F.entry_zip_next (AAA (A:=X.A.in1) (R:=_) (show X.A.in1.handled=none from I.ok.hd hc) hz hi ho (by rw[hl,lu]) (by rw[hl];exact ap.few) ap.ne ap.nd ap.tz ap.iz
   (λr hr=>⟨(ap.ts r hr).2.2,(ap.ts r hr).1,(ap.ls r hr).2.2.1,(ap.ls r hr).1,(ap.ls r hr).2.2.2⟩) p1 λh1 z1 t1 i1 u1 k1=>?_) (PySem.F.args_zip_next_1 _))))
  refine AK ⟨_,rfl,wpAny_letOwnedTupleGo_zip z1 λh2 z2 b2=>?_⟩;have nz:s.heap.objs.size≠z:=FN zl;have ht2:Dk h2 s.heap.objs.size us:=b2.extBut _ _ nz u1
  have new:Bx X.prog X.w (upd H s.heap.objs.size (.tup vs)) h2 s.heap.objs.size (.tup vs) :=
   ⟨by rw[lv,sizeLine_eq];exact Bu ap.few (by decide),us,p2,⟨_,ht2,rfl,_,rfl⟩⟩
  have tn2:IsZip h2 z TI TO .none/\Dk h2 TI (zs.map λr=>.ref r.t)/\(∃old,Dk h2 TO old/\old.length=zs.length)/\(∀r∈zs,CZ r.b h2 r.t r.l (i+1))/\i+1<=n:=by refine⟨z2,b2.extBut _ _ ap.iz (k1 _ _ ap.iz ap.it (λhm=>?_) hi),⟨us,b2.extBut _ _ ap.tz t1,lu⟩,λr hr=>(i1 r hr).ext λo e=>b2.extBut _ _ (ap.ts r hr).1 e,hlt⟩;obtain⟨r,hr,e⟩:=Aw.mp hm;exact(ap.ts r hr).2.1 e
  have I1:=NO (t':=s.toks) (h':=h2) I hf (λb o hb q=>by
    simp only[AW,not_or] at hb
    exact b2.extBut _ _ hb.1 (k1 b o hb.1 hb.2.2.1 hb.2.2.2 q)) (Ac _) (λq=>absurd (hb _ q) (Fh _)) (λb hb=>by
    rcases AW.mp hb with rfl|hb
    .exact⟨_,tn2.1⟩
    .rcases AW.mp hb with rfl|hb
     .exact⟨_,tn2.2.1⟩
     .rcases AW.mp hb with rfl|hb
      .obtain⟨old,q,_⟩:=tn2.2.2.1;exact⟨_,q⟩
      .obtain⟨r,hr,rfl⟩:=Aw.mp hb;obtain⟨o,e,_⟩:=(tn2.2.2.2.1 r hr).obj
       exact⟨o,e⟩) new
  exact⟨.ref s.heap.objs.size,_,I1,rfl,⟨s.heap.objs.size,vs,I.hok.fresh (Ac _),rfl,rfl,p3⟩,tn2,λb h'=>by rw[Ax (BN (hb b h'))];exact(hf b h').1⟩
 done:=by
  rintro X hP hw hK hc i pins s Y H E I hf ⟨hz,hi,⟨old,ho,hl⟩,hs,_⟩ ⟨hq,hlt⟩;subst hP hw hK;have ty:s.TypeIs (.ref z) "zip":=⟨_,hz,rfl⟩
  cases zs with
  |nil=>exact absurd rfl ap.ne
  |cons r0 zs =>
   obtain⟨xs,sv,hn⟩:=hq r0 BC;obtain⟨its,rv,so⟩:=sv.at I;have m1:r0.t∈z::TI::TO::(r0::zs).map (·.t):=by simp
   unfold pyNext
   refine AE (wpAny_attempt (AL2 (name:=Str.ofString "__next__") ty ALc (Fg ALc ty PySem.F.entry_zip_next (Zz (A:=X.A.in1) (show X.A.in1.handled=none from I.ok.hd hc) hz hi (ap.ts r0 BC).1 (ap.ls r0 BC).1 (hs r0 BC) so
    (by rw[List.getElem?_toArray,List.getElem?_eq_none_iff,<-rv.length];omega) λh' e k ⟨o,g,c⟩=>?_) (PySem.F.args_zip_next_1 _))))
   refine AE (wpAny_isInstance (T:="StopIteration") (b:=true) ⟨o,g,c⟩ isSubtype_stop (AK ⟨rfl,?_⟩))
   have I1:=AAo (t':=s.toks) (h':=h') (fp:=[z,r0.t]) I (λb hb=>hf b (by
    rcases AW.mp hb with rfl|hb
    .simp
    .rw[Fi.mp hb];exact m1)) λb o hb q=>k b o (λe=>hb (by simp[e])) (λe=>hb (by simp[e])) q
   exact I1
 self:=λA i s Q E z5_ h=>by obtain⟨hz,_⟩:=z5_;exact wpAny_pyIter_zip hz h
abbrev seqs:List D->AB->Option (List (List D))
 |[],_=>some []
 |d::r,L=>(Cd d L).bind λys=>(seqs r L).map (ys::·)
abbrev FC(n:Nat)(yss:List (List D)):List D:=(List.range n).map λi=>.tup (yss.map λys=>ys[i]?.getD .non)
abbrev Ig(n:Nat)(fa:AF):IF:=λρ L=>(fa ρ L).bind λx=>match seqs x.1 x.2 with
 |some (ys::yss)=>if (yss.all λzs=>zs.length == ys.length)=true/\yss.length<100/\yss.length+1=n then some (⟨FC ys.length (ys::yss),λL'=>decide (seqs x.1 L'=some (ys::yss))⟩,x.2) else none
 |_=>none
abbrev kindD:D->Bool
 |.tup _=>true
 |_=>false
def Ve{K:AI}{H:Hp}{O:AMD}{L:AB}{v:V}{d:D}{xs:List D}(rs:Ai K H O L)(h:Is K H O v d)(e:Cd d L=some xs):∃a vs,v=.ref a/\Et K (kindD d) H a vs/\AM K H O vs xs:=by
 cases h with
 |tup hq il=>cases e;exact⟨_,_,rfl,hq,il⟩
 |fz hq il=>cases e;exact⟨_,_,rfl,hq.sql,il⟩
 |ref hk =>
  simp only[Cd] at e;split at e
  .rename_i ys e2;cases e;obtain⟨vs,hv,iv⟩:=rs.ob _ _ _ hk e2;exact⟨_,vs,rfl,BI.of hv,iv⟩
  .cases e
 |_=>cases e
inductive Es (K:AI) (H:Hp) (O:AMD):List D->List (List D)->List (Bool×Addr)->Prop
 |nil:Es K H O [] [] []
 |cons {d:D} {ys:List D} {a:Addr} {vs:List V} {ds yss ls}:Is K H O (.ref a) d->Et K (kindD d) H a vs->AM K H O vs ys->Es K H O ds yss ls->Es K H O (d::ds) (ys::yss) ((kindD d,a)::ls)
def VQ{K:AI}{H:Hp}{O:AMD}{L:AB}(rs:Ai K H O L):∀{ds:List D} {yss:List (List D)} {vs:List V},AM K H O vs ds->seqs ds L=some yss->∃ls,Es K H O ds yss ls/\vs=ls.map λp=>.ref p.2
 |[],_,_,.nil,e=>by cases e;exact⟨[],.nil,rfl⟩
 |d::ds,_,_,.cons i r,e=>by
  unfold seqs at e;obtain⟨ys,e1,e2⟩:=FA.mp e;obtain⟨yss,e3,rfl⟩:=AKf.mp e2;obtain⟨ls,h1,rfl⟩:=VQ rs r e3;obtain⟨a,vs,rfl,h2,h3⟩:=Ve rs i e1;exact⟨(kindD d,a)::ls,.cons i h2 h3 h1,rfl⟩
def Es.again{K:AI}{H H':Hp}{O O':AMD}{L':AB}(st:AY H O H' O')(rs:Ai K H' O' L'){ds:List D}{yss yss':List (List D)}{ls:List (Bool×Addr)}(h:Es K H O ds yss ls)(e:seqs ds L'=some yss'):Es K H' O' ds yss' ls:=by
 induction h generalizing yss' with
 |nil=>cases e;exact .nil
 |@cons d ys a vs ds yss ls i _ _ _ ih =>
  unfold seqs at e;obtain⟨zs,e1,e2⟩:=FA.mp e;obtain⟨zss,e3,rfl⟩:=AKf.mp e2;obtain⟨a',vs',ea,h2,h3⟩:=Ve rs (i.mono st) e1;cases ea;exact .cons (i.mono st) h2 h3 (ih e3)
def Es.len{K:AI}{H:Hp}{O:AMD}{ds:List D}{yss:List (List D)}{ls:List (Bool×Addr)}(h:Es K H O ds yss ls):ls.length=yss.length/\ds.length=yss.length:=by
 induction h with
 |nil=>exact⟨rfl,rfl⟩
 |cons _ _ _ _ ih=>simp[ih.1,ih.2]
def Es.seq{K:AI}{H:Hp}{O:AMD}{ds:List D}{yss:List (List D)}{ls:List (Bool×Addr)}(h:Es K H O ds yss ls):∀p∈ls,∃vs ys,ys∈yss/\Et K p.1 H p.2 vs/\AM K H O vs ys:=by
 induction h with
 |nil=>intro p hp;cases hp
 |@cons d ys a vs ds yss ls i s1 s2 _ ih =>
  intro p hp;rcases AW.mp hp with e|hp
  .subst e;exact⟨vs,ys,BC,s1,s2⟩
  .obtain⟨vs',ys',h1,h2⟩:=ih p hp;exact⟨vs',ys',Az _ h1,h2⟩
def Es.tup{K:AI}{H:Hp}{O:AMD}{ds:List D}{yss:List (List D)}{ls:List (Bool×Addr)}(h:Es K H O ds yss ls){i n:Nat}(hn:∀ys∈yss,ys.length=n)(hi:i<n):∀{zs:List Src} {vs:List V},zs.map (λr=>(r.b,r.l))=ls ->
  Paired (λ(r:Src) x=>∀xs,Et K r.b H r.l xs->xs[i]?=some x) zs vs->AM K H O vs (yss.map λys=>ys[i]?.getD .non):=by
 induction h with
 |nil=>intro zs vs e p;cases zs with|nil=>cases p;exact .nil|cons=>simp at e
 |@cons d ys a us ds yss ls _ s1 s2 _ ih =>
  intro zs vs e p
  cases zs with
  |nil=>simp at e
  |cons r zs =>
   simp only[Ah,List.cons.injEq,Prod.mk.injEq] at e;obtain⟨⟨eb,el⟩,e2⟩:=e
   cases p with
   |@cons _ x _ vs hx p2 =>
    have hy:ys.length=n:=hn ys BC;have hx':=hx us (by rw[eb,el];exact s1);obtain⟨v,hv,iv⟩:=s2.get (i:=i) (d:=ys[i]'(by omega)) (by simp[show i<ys.length by omega]);rw[hx'] at hv;cases hv;rw[Ah,show ys[i]?.getD .non=ys[i]'(by omega) by simp[show i<ys.length by omega]];exact .cons iv (ih (λzs hz=>hn zs (Az _ hz)) e2 p2)
def AAC(n:Nat)(yss:List (List D))(i:Nat):(FC n yss)[i]?=if i<n then some (.tup (yss.map λys=>ys[i]?.getD .non)) else none:=by
 unfold FC;rw[Av]
 by_cases h:i<n
 .rw[if_pos h,AK0 h];rfl
 .rw[if_neg h,AKk (by simpa using h)];rfl
structure Sr (n:Nat):Prop where
 ty:∀us:AMC,us.length=n->checkTypeCall "zip" ⟨us,[]⟩=pure ()
 new:∀us:AMC,us.length=n->checkBuiltinCall "zip.__new__" ⟨.type "zip"::us,[]⟩=pure ()
 init:∀(o:Value) (us:AMC),us.length=n->argsOk "object.__init__" ⟨o::us,[]⟩
def AHF:Sr 2:=⟨λus h=>by obtain⟨a,b,rfl⟩:=Hj h;exact PySem.F.typeCall_zip_2 a b,λus h=>by obtain⟨a,b,rfl⟩:=Hj h;exact PySem.F.newCall_zip_2 a b,λo us h=>by obtain⟨a,b,rfl⟩:=Hj h;exact PySem.F.args_object_init_3 o a b⟩
def AHE:Sr 3:=⟨λus h=>by obtain⟨a,b,c,rfl⟩:=HC h;kernel_rfl,λus h=>by obtain⟨a,b,c,rfl⟩:=HC h;kernel_rfl,λo us h=>by
 obtain⟨a,b,c,rfl⟩:=HC h;unfold argsOk;rw[PySem.signature?_of (id:="object.__init__") (n:=['_','_','t','i','n','i','_','_']) (o:=['t','c','e','j','b','o']) (by kernel_rfl) PySem.F.owner_object]
 kernel_rfl⟩
section
variable {X:Cx}{elts:AME}{x1:Nat}{tp p pos:Pos}{e:Expr}{es:AME}{fa:AF}
def AIQ{n:Nat}(zn:Sr n)(hm:X.mg "zip"=none)(ha:Da X (e::es) fa)(hg:Gl X "zip":=by rfl)(hs:Ci e=true:=by rfl)(hplain:es.all Ci=true:=by rfl):Dl X (.Tuple elts x1 tp) (.Call (.Name "zip" p) (e::es) [] pos) (Ig n fa):=by
 rintro pins s Y H R I ⟨O,ρ,L,J,L',r,ee,k⟩;unfold Ig at ee;obtain⟨q,e1,ee⟩:=bS ee;obtain⟨ds,L1⟩:=q;simp only[AQ] at ee;split at ee
 .rename_i ys yss e2;split at ee
  .rename_i hall;simp only[Option.some.injEq,Prod.mk.injEq] at ee;obtain⟨hJ,hL⟩:=ee;subst hL;refine Call_ (HD I hg hm (u:=.type "zip") (by decide +kernel) (PyProof.Rows.callWith_type1 (Ae (ha pos pins s Y H (λvs H1=>∃O1 ls,AY H O H1 O1/\Ai X.K H1 O1 L1/\Es X.K H1 O1 ds (ys::yss) ls/\vs=ls.map λp=>.ref p.2) I ⟨O,ρ,L,_,_,r,e1,λvs H1 O1 st rs is=>?_⟩) λus s1 ⟨vs,H1,I1,r1,O1,ls,st,rs,sr,ev⟩=>?_) (Ef hs) (Gc hplain)))
   .obtain⟨ls,h1,h2⟩:=VQ rs is e2;exact⟨O1,ls,st,rs,h1,h2⟩
   .obtain⟨hall,hfew,hn⟩:=hall
    have eu:us=ls.map λp=>Value.ref p.2:=by
     subst ev
     have go:∀{ls:List (Bool×Addr)} {us:AMC},AV (ls.map λp=>V.ref p.2) us->us=ls.map λp=>Value.ref p.2:=by
      intro ls
      induction ls with
      |nil=>intro us h;cases h;rfl
      |cons p ls ih=>intro us h;cases h with|cons h1 h2=>cases h1;rw[ih h2];rfl
     exact go r1
    have ll:ls.length=n:=by rw[sr.len.1,Dd];exact hn
    have ul:us.length=n:=by rw[eu,Ag,ll]
    have lenY:∀zs∈ys::yss,zs.length=ys.length:=λzs hz=>by
     rcases AW.mp hz with e|hz
     .rw[e]
     .exact beq_iff_eq.mp (DM.mp hall zs hz)
    subst eu;refine callType_newIn PySem.F.called_zip (by decide) (zn.ty _ ul) (zn.new _ ul) (λo=>zn.init o _ ul) PySem.F.entry_zip_new (AD0 ls (by omega)) ⟨λp hp=>?_,λh' si ti to iz kk=>?_⟩
    .obtain⟨vs',ys',_,sv,_⟩:=sr.seq p hp;obtain⟨its,_,so⟩:=sv.at I1;exact⟨_,so⟩
    .refine⟨⟨_,iz,rfl⟩,wpAny_pyIter_zip iz ?_⟩;have I2:AG X pins Y H1 {s1 with heap:=h'}:=I1.kept (t':=s1.toks) kk
     have lt:∀p∈ls,p.2<s1.heap.objs.size:=λp hp=>by
      obtain⟨vs',ys',_,sv,_⟩:=sr.seq p hp;obtain⟨its,_,so⟩:=sv.at I1
      have:∃o,s1.heap.get? p.2=some o:=by
       revert so
       cases p.1 with
       |true=>rintro⟨o,g,_⟩;exact⟨o,g⟩
       |false=>rintro⟨o,g,_⟩;exact⟨o,g⟩
      obtain⟨o,g⟩:=this;exact Heap.lt_size g
     have lr:∀r∈Bq s1.heap.objs.size ls,r.l<s1.heap.objs.size:=λr hr=>by
      have:(r.b,r.l)∈ls:=by rw[<-Nd ls s1.heap.objs.size];exact Cz (f:=λr:Src=>(r.b,r.l)) hr
      exact lt _ this
     have ap:ZB (s1.heap.objs.size+ls.length+2) (s1.heap.objs.size+ls.length) (s1.heap.objs.size+ls.length+1) (Bq s1.heap.objs.size ls):=by
      refine⟨λh=>?_,by rw[Nc];omega,VR _ _,by simp,by simp,by simp,λr hr=>?_,λr hr=>?_⟩
      .have:=congrArg List.length h;rw[Nc,sr.len.1] at this;simp at this
      .have h1:=(Kv _ _ r hr).2;exact⟨BN (Bm h1 (AKt _ 2)),BN h1,BN (Bm h1 (AKt _ 1))⟩
      .have h1:=lr r hr;refine⟨BN (Bm h1 (by rw[AKj];exact AKt _ _)),BN (Bm h1 (AKt _ _)),BN (Bm h1 (by rw[AKj];exact AKt _ _)),λq hq=>BN (Bm h1 (Kv _ _ q hq).1)⟩
     have big:∀b∈(s1.heap.objs.size+ls.length+2)::(s1.heap.objs.size+ls.length)::(s1.heap.objs.size+ls.length+1)::(Bq s1.heap.objs.size ls).map (·.t),s1.heap.objs.size<=b:=λb hb=>by
      rcases AW.mp hb with rfl|hb
      .rw[AKj];exact AKt _ _
      .rcases AW.mp hb with rfl|hb
       .exact AKt _ _
       .rcases AW.mp hb with rfl|hb
        .rw[AKj];exact AKt _ _
        .obtain⟨r,hr,rfl⟩:=Aw.mp hb;exact(Kv _ _ r hr).1
     refine⟨_,_,_,_,H1,rfl,I2,AAp ys.length ap,⟨iz,ti,⟨_,to,by rw[Ag]⟩,si,Ed _⟩,λb hb=>I1.fpOk (big b hb) (I1.hok.fresh (big b hb)),k _ H1 O1 st rs λi H2 O2 L2 st2 rs2 ok=>?_⟩;rw[<-hJ] at ok ⊢;have sr2:=sr.again st2 rs2 (of_decide_eq_true ok)
     have all2:∀r∈Bq s1.heap.objs.size ls,∃xs,Et X.K r.b H2 r.l xs/\xs.length=ys.length:=λr hr=>by
      have hm:(r.b,r.l)∈ls:=by rw[<-Nd ls s1.heap.objs.size];exact Cz (f:=λr:Src=>(r.b,r.l)) hr
      obtain⟨vs',ys',hy,sv,il⟩:=sr2.seq _ hm;exact⟨vs',sv,by rw[il.length];exact lenY ys' hy⟩
     refine⟨λd hd=>?_,λh=>⟨all2,by simpa[FC] using h⟩⟩;simp only at hd;rw[AAC] at hd;split at hd
     .rename_i hi;cases hd;refine⟨⟨all2,hi⟩,λx H' z2_=>?_⟩;obtain⟨T,vs',hT,ex,eH,p3⟩:=z2_;subst ex eH;have st3:AY H2 O2 (upd H2 T (.tup vs')) O2:=⟨.new hT,An _⟩;exact⟨st3,rs2.ext λb u q=>by rw[Ax (CW q hT)];exact q,.tup (BW.of Bn) ((sr2.tup lenY hi (Nd _ _) p3).mono st3)⟩
     .cases hd
  .cases ee
 .cases ee
end
section
variable {X:Cx}
abbrev OP:GM:=λx xs L=>match x,xs with
 |.str a,[.str b]=>some (.bl (Txt.startswith a b),L)
 |_,_=>none
def AIr:MtD X "str.startswith" OP:=λpins s Y H x xs v us Q I rx rv z12_=>by
 obtain⟨O,L,dx,dxs,d,L',rp,ix,ixs,e,k⟩:=z12_;unfold OP at e;split at e
 .rename_i a b;cases e;cases ix
  cases ixs with|cons i1 i2 =>
   cases i2;cases i1;obtain⟨t,rfl⟩:=(show ∃t,v=Value.str a t from rx);obtain⟨u,rfl,ry⟩:=EK rv;obtain⟨t',rfl⟩:=(show ∃t',u=Value.str b t' from ry);exact SC.startswith ⟨.bl (Txt.startswith a b),H,I,rfl,k _ _ _ (.refl _ _) rp (.bl _)⟩
 .cases e
def AKD:bootBuiltins "sorted"=some (.builtin "sorted"):=PyProof.Rows.boot_sorted
end
open PySem.W (KasT kas_sort kas_ask kas_rev kas_asc kas_desc kas_tail3 kas_descPart kas_count kas_place kas_bin)
abbrev kEval{α:Type}(c:Nat->Nat->Bool):KasT α->α
 |.ret a=>a
 |.ask i j k=>kEval c (k (c i j))
abbrev CQ{α:Type}(n:Nat)(R:α->Prop):KasT α->Prop
 |.ret a=>R a
 |.ask i j k=>i<n/\j<n/\∀b,CQ n R (k b)
def CQ.eval{α:Type}{n:Nat}{R:α->Prop}(c:Nat->Nat->Bool):∀{t:KasT α},CQ n R t->R (kEval c t)
 |.ret _,h=>h
 |.ask i j k,h=>CQ.eval c (t:=k (c i j)) (h.2.2 (c i j))
def CQ.bind{α β:Type}{n:Nat}{R:α->Prop}{S:β->Prop}{f:α->KasT β}:∀{t:KasT α},CQ n R t->(∀a,R a->CQ n S (f a))->CQ n S (t.bind f)
 |.ret a,h,g=>g a h
 |.ask i j k,h,g=>⟨h.1,h.2.1,λb=>CQ.bind (t:=k b) (h.2.2 b) g⟩
def CQ.wp{α:Type}{n:Nat}{R:α->Prop}{cmp:Nat->Nat->(Bool->Shared->Prop)->Shared->Prop}{c:Nat->Nat->Bool}{Q:α->Shared->Prop}{s:Shared}
  (hc:∀i j C,i<n->j<n->C (c i j) s->cmp i j C s):∀{t:KasT α},CQ n R t->Q (kEval c t) s->t.kasWp cmp Q s
 |.ret _,_,q=>q
 |.ask i j k,h,q=>hc i j _ h.1 h.2.1 (CQ.wp hc (t:=k (c i j)) (h.2.2 (c i j)) q)
abbrev Pm(n:Nat)(p:Array Nat):Prop:=p.toList.Perm (List.range n)
section
variable {n:Nat}{p:Array Nat}
def Pm.lt(h:Pm n p)(h0:0<n)(k:Nat):p.getD k 0<n:=by
 by_cases hk:k<p.size
 .have e:p.getD k 0=p[k]:=by simp[Array.getD,hk]
  rw[e];exact CN.mp (h.mem_iff.mp (by simp))
 .simp[Array.getD,hk];exact h0
def Pm.rev(h:Pm n p)(i j:Nat):Pm n (kas_rev p i j):=(Array.perm_iff_toList_perm.mp (mirror_perm p i j ((j-i) / 2))).trans h
def Pm.bub(h:Pm n p)(i j:Nat):Pm n (bubble p i j):=(Array.perm_iff_toList_perm.mp (bubble_perm p i j)).trans h
def Si(h:Pm n p)(h0:0<n):∀f m,CQ n (λ_=>True) (kas_asc p f m)
 |0,_=>trivial
 |f+1,m=>⟨h.lt h0 _,h.lt h0 _,λb=>by
  cases b
  .exact Si h h0 f (m+1)
  .trivial⟩
def OW(h0:0<n):∀f (p:Array Nat) m q,Pm n p->CQ n (λr=>Pm n r.1) (kas_desc f p m q)
 |0,_,_,_,h=>h
 |f+1,p,m,q,h=>⟨h.lt h0 _,h.lt h0 _,λb=>by
  cases b
  .refine⟨h.lt h0 _,h.lt h0 _,λd=>?_⟩;cases d
   .exact OW h0 f p (m+1) (q+1) h
   .exact h
  .show CQ n _ (if q>0 then _ else _)
   by_cases hq:q>0
   .rw[if_pos hq];exact OW h0 f _ (m+1) 0 (h.rev _ _)
   .rw[if_neg hq];exact OW h0 f p (m+1) 0 h⟩
def Ut(h:Pm n p)(h0:0<n)(a b:Nat):CQ n (λr=>Pm n r.2) (kas_tail3 a b p) :=
 CQ.bind (Si (h.rev 0 a) h0 _ _) λ_ _=>h.rev 0 a
def WJ(h:Pm n p)(h0:0<n)(a b:Nat):CQ n (λr=>Pm n r.2) (kas_descPart a b p) :=
 CQ.bind (OW h0 _ p _ _ h) λr hr=>by
  by_cases hq:r.2.2>0
  .rw[if_pos hq];exact Ut (hr.rev _ _) h0 _ _
  .rw[if_neg hq];exact Ut hr h0 _ _
def AGG(h:Pm n p)(h0:0<n)(b:Nat):CQ n (λr=>Pm n r.2) (kas_count b p) :=
 CQ.bind (Si h h0 _ _) λr _=>by
  by_cases hq:(r == b)=true
  .rw[if_pos hq];exact h
  .rw[if_neg hq]
   by_cases h1:r>1
   .rw[if_pos h1];refine⟨h.lt h0 _,h.lt h0 _,λc=>?_⟩;cases c
    .exact WJ (h.rev _ _) h0 _ _
    .exact h
   .rw[if_neg h1];exact WJ h h0 _ _
def RZ(h:Pm n p)(h0:0<n)(k:Nat):∀f l r,CQ n (λ_=>True) (kas_place p k f l r)
 |0,_,_=>trivial
 |f+1,l,r=>by
  unfold kas_place
  by_cases hq:l ≥ r
  .rw[if_pos hq];trivial
  .rw[if_neg hq];refine⟨h.lt h0 _,h.lt h0 _,λc=>?_⟩;cases c
   .exact RZ h h0 k f _ _
   .exact RZ h h0 k f _ _
def Yl(h0:0<n):∀f (p:Array Nat) k,Pm n p->CQ n (Pm n) (kas_bin f p k)
 |0,_,_,h=>h
 |f+1,p,k,h=>CQ.bind (RZ h h0 k _ _ _) λl _=>Yl h0 f _ (k+1) (h.bub _ _)
def VV(h0:0<n):CQ n (Pm n) (kas_sort n) :=
 CQ.bind (AGG (p:=(List.range n).toArray) (List.Perm.refl _) h0 n) λr hr=>by
  by_cases hq:r.1<n
  .rw[if_pos hq];exact Yl h0 _ _ _ hr
  .rw[if_neg hq];exact hr
end
abbrev NZ(a b:Str):Bool:=decide (a.cps.toList<b.cps.toList)
abbrev ltP:D->D->Bool
 |.tup [.str a,.str b],.tup [.str c,.str d]=>if a=c then (if b=d then false else NZ b d) else NZ a c
 |_,_=>false
abbrev isPr:D->Bool
 |.tup [.str _,.str _]=>true
 |_=>false
abbrev Ce(ds:List D):AMG:=if ds.length<2 then List.range ds.length else (kEval (λi j=>ltP (ds.getD i .non) (ds.getD j .non)) (kas_sort ds.length)).toList
abbrev sortP(ds:List D):List D:=(Ce ds).map λi=>ds.getD i .non
def LF(ds:List D):(Ce ds).Perm (List.range ds.length):=by
 unfold Ce
 by_cases h:ds.length<2
 .rw[if_pos h]
 .rw[if_neg h];exact(VV (n:=ds.length) (by omega)).eval _
def Vm{α:Type}(x:α)(xs:List α):((List.range xs.length).map λi=>xs.getD i x)=xs:=by
 apply ALJ;intro i;rw[Av]
 by_cases h:i<xs.length
 .simp[h]
 .simp[h]
abbrev LR:GL:=λxs L=>match xs with
 |[.ref k]=>(match L[k]? with|some (.lst ds)=>if (ds.all isPr&&decide (ds.length<64))=true then some (.ref L.length,L++[.lst (sortP ds)]) else none|_=>none)
 |_=>none
abbrev GO(h:Heap)(v:Value)(d:D):Prop:=∃(x:Addr) (a b:Str) (t u:Tok),v=.ref x/\IsTup h x #[.str a t,.str b u]/\d=.tup [.str a,.str b]
section
variable {prog:Program}{w:World}{A:Around}{E:AMI}{s:Shared}
def ACi{v v':Value}{d d':D}{Q:Bool->Shared->Prop}(h1:GO s.heap v d)(h2:GO s.heap v' d')(q:Q (ltP d d') s):wpAny (model prog w) A (keyLt' (tuples' true) v v') Q E s:=by
 obtain⟨x,a,b,t,u,rfl,⟨o,e,_,n,k⟩,rfl⟩:=h1;obtain⟨y,c,d,t',u',rfl,⟨o',e',_,n',k'⟩,rfl⟩:=h2;refine PySem.W.kat_lt e k e' k' ?_;show PySem.W.KatLex prog w A true _ Q [(Value.str a t,Value.str c t'),(Value.str b u,Value.str d u')] 0 s
 have q':Q (if a=c then (if b=d then false else NZ b d) else NZ a c) s:=q
 refine PySem.W.kat_cons (wpAny_eqBool_str ?_)
 by_cases hac:a=c
 .rw[decide_eq_true hac];rw[if_pos hac] at q';refine PySem.W.kat_yes (PySem.W.kat_cons (wpAny_eqBool_str ?_))
  by_cases hbd:b=d
  .rw[decide_eq_true hbd];rw[if_pos hbd] at q';exact PySem.W.kat_yes (PySem.W.kat_nil q')
  .rw[decide_eq_false hbd];rw[if_neg hbd] at q';exact PySem.W.kat_no (PySem.W.kat_one _ _ (lt_str q'))
 .rw[decide_eq_false hac];rw[if_neg hac] at q';exact PySem.W.kat_no (oneLt_str q')
def Vx{h:Heap}:∀{vs:AMC} {ds:List D},Paired (GO h) vs ds->∃fs,PySem.W.KatTups h vs fs/\fs.length=vs.length/\∀f∈fs,∃a t,f=Value.str a t
 |_,_,.nil=>⟨[],trivial,rfl,λ_ z=>nomatch z⟩
 |_,_,.cons r t=>by
  obtain⟨x,a,b,tk,u,rfl,⟨o,e,c,n,k⟩,rfl⟩:=r;obtain⟨fs,h1,h2,h3⟩:=Vx t;refine⟨Value.str a tk::fs,PySem.W.KatTups.cons e c k rfl h1,by simp[h2],λf hf=>?_⟩;rcases AW.mp hf with rfl|hf
  .exact⟨_,_,rfl⟩
  .exact h3 f hf
def ACj{vs:AMC}{ds:List D}{Q:SortKind->Shared->Prop}(r:Paired (GO s.heap) vs ds)(h0:0<vs.length)(q:Q (tuples' true) s):wpAny (model prog w) A (keyKind' vs.toArray) Q E s:=by obtain⟨fs,h1,h2,h3⟩:=Vx r;refine PySem.W.kat_kind (T:=Value.type "str") h1 (by omega) (λv hv=>?_) rfl q;obtain⟨a,t,rfl⟩:=h3 v hv;exact .now
def Rh{α β:Type}{R:α->β->Prop}{xs:List α}{ys:List β}(r:Paired R xs ys)(a:α)(b:β):∀i,i<xs.length->R (xs.getD i a) (ys.getD i b):=by
 induction r with
 |nil=>intro i h;cases h
 |cons h t ih =>
  intro i hi
  cases i with
  |zero=>exact h
  |succ i=>exact ih i (by simpa using hi)
def Rg{α β:Type}{R:α->β->Prop}{xs:List α}{ys:List β}(r:Paired R xs ys)(a:α)(b:β):∀{p:AMG},(∀i∈p,i<xs.length)->Paired R (p.map λi=>xs.getD i a) (p.map λi=>ys.getD i b)
 |[],_=>.nil
 |i::p,h=>.cons (Rh r a b i (h i BC)) (Rg r a b λj hj=>h j (Az _ hj))
def ABc{a:Addr}{vs:AMC}{ds:List D}{n:Nat}{P:PySem.Fin->Shared->Prop}(ho:s.heap.get? a=some (seqObj "list" vs.toArray n))(r:Paired (GO s.heap) vs ds)(h64:vs.length<64)
  (h:P (.done (.ret .none)) {s with heap:=sortedHeap s.heap a vs ((Ce ds).map λi=>vs.getD i Value.none).toArray}):wpAny (model prog w) A (Builtin.«list.sort» ⟨[.ref a],[]⟩) P E s:=by
 have ha:=Heap.lt_size ho;have hlen:vs.length=ds.length:=Paired.length r;obtain⟨e1,ho1⟩:∃e1,(s.heap.update a (Obj.mapSeq λ_=>#[])).get? a=some (seqObj "list" #[] e1):=⟨_,get?_update_seq ho λ_=>#[]⟩;generalize hH:((s.heap.update a (Obj.mapSeq λ_=>#[])).push (seqObj "tuple" vs.toArray 0)).push (seqObj "list" #[] 0)=H3
 have kept:∀b o,b≠a->s.heap.get? b=some o->H3.get? b=some o:=λb o hb e=>by
  have hlt:=Heap.lt_size e;rw[<-hH,Heap.get?_push_ne _ _ _ (by rw[size_push',Heap.size_update];exact BN (ALd hlt)),Heap.get?_push_ne _ _ _ (by rw[Heap.size_update];exact BN hlt),Heap.get?_update_ne _ _ _ _ hb];exact e
 have at3:H3.get? a=some (seqObj "list" #[] e1):=by rw[<-hH,Heap.get?_push_ne _ _ _ (by rw[size_push',Heap.size_update];exact BN (ALd ha)),Heap.get?_push_ne _ _ _ (by rw[Heap.size_update];exact BN ha)];exact ho1
 have stays:∀{v d},GO s.heap v d->GO H3 v d:=λ{v d} ⟨x,p,q,t,u,e0,⟨o,e,c,r⟩,z⟩=>⟨x,p,q,t,u,e0,⟨o,kept x o (λhx=>by rw[hx,ho] at e;cases e;have c2:Value.type "list"=Value.type "tuple":=c;exact absurd c2 (by decide)) e,c,r⟩,z⟩
 have r3:Paired (GO H3) vs ds:=by
  clear h ho hlen h64 hH kept at3 ha ho1
  induction r with
  |nil=>exact .nil
  |cons q t ih=>exact .cons (stays q) ih
 have hout:H3.update a (Obj.mapSeq λ_=>((Ce ds).map λi=>vs.getD i Value.none).toArray)=sortedHeap s.heap a vs ((Ce ds).map λi=>vs.getD i Value.none).toArray:=by rw[<-hH];rfl
 have hol:(Ce ds).length=vs.length:=by rw[(LF ds).length_eq,List.length_range,hlen]
 rw[list_sort_plain];refine AE (listItems_at ho rfl (AE (listUpdate_at ho rfl ?_ (by rw[Bi,sizeLine_eq];omega) (Ed _))));refine AE (seqEpoch_at ho1 rfl (AE (wpAny_newTuple ?_ (by show vs.length<=_;rw[sizeLine_eq];omega))));refine AE (wpAny_newList (DJ ?_) (Ed _))
 have hgo:∀(st:SortSt),(arrOf st).map (·.2)=((Ce ds).map λi=>vs.getD i Value.none).toArray->failedOf st=none->wpAny (model prog w) A (do
   let touched:=(<-seqEpoch a) != e1
   Builtin.List.listUpdate (.ref a) λ_=>(arrOf st).map (·.2)
   if let some e:=failedOf st then rule "list.sort.comparison-raised";throw e
   if touched then rule "list.sort.modified";raiseError "ValueError" "list modified during sort"
   ret .none) P E {s with heap:=H3}:=λst hst hf=>by
  rw[hst,hf];refine AE (seqEpoch_at at3 rfl (AE (listUpdate_at at3 rfl ?_ (Ed _) (by rw[Bi,Ag,hol,sizeLine_eq];omega))));simp only[bne_self_eq_false,ALC,if_false];rw[hout];exact AK h
 show wpAny (model prog w) A _ P E {s with heap:=((s.heap.update a (Obj.mapSeq λ_=>#[])).push (seqObj "tuple" vs.toArray 0)).push (seqObj "list" #[] 0)};rw[hH]
 by_cases h2:vs.length<2
 .have h2':vs.toArray.size<2:=by simpa using h2
  dsimp only;rw[if_pos h2',if_pos h2'];refine AE (AK ?_);rw[StateT.run_pure];refine AE (AK ?_);refine hgo _ ?_ rfl;have e0:Ce ds=List.range vs.length:=by unfold Ce;rw[if_pos (by omega),hlen]
  rw[e0,Vm];apply Array.toList_inj.mp;show((vs.toArray.zip vs.toArray).map (·.2)).toList=vs;rw[Array.toList_map,Array.toList_zip];exact List.map_snd_zip (Ac _)
 .have h2':¬vs.toArray.size<2:=by simpa using h2
  dsimp only;rw[if_neg h2',if_neg h2'];refine AE (ACj (s:={s with heap:=H3}) r3 (by omega) ?_);have e0:Ce ds=(kEval (λi j=>ltP (ds.getD i .non) (ds.getD j .non)) (kas_sort vs.length)).toList:=by unfold Ce;rw[if_neg (by omega),hlen]
  refine AE (Dc (PySem.W.kat_run (ks:=vs) (vs:=vs) (κ:=tuples' true) (s:={s with heap:=H3}) (E:=E) (Q:=λst' s'=>s'={s with heap:=H3}/\(arrOf st').map (·.2)=((Ce ds).map λi=>vs.getD i Value.none).toArray/\failedOf st'=none)
   (G:=λp s'=>s'={s with heap:=H3}/\p=kEval (λi j=>ltP (ds.getD i .non) (ds.getD j .non)) (kas_sort vs.length)) rfl (by omega) h64 (λp st' s' _ a2 a3 a4=>⟨a4.1,?_,a3⟩) ?_) ?_ λ_ _ z=>z)
  .rw[PySem.W.kat_snds rfl a2,e0,a4.2]
  .refine CQ.wp (c:=λi j=>ltP (ds.getD i .non) (ds.getD j .non)) (n:=vs.length) (R:=Pm vs.length) (λi j C hi hj hC=>?_) (VV (by omega)) ⟨rfl,rfl⟩;exact ACi (s:={s with heap:=H3}) (Rh r3 Value.none D.non i hi) (Rh r3 Value.none D.non j hj) hC
  .rintro⟨⟨⟩,st'⟩ s' ⟨rfl,a2,a3⟩;exact hgo st' a2 a3
def ABb{l:Addr}{vs:AMC}{ds:List D}{Q:AMI}(hl:s.heap.IsList l vs.toArray)(r:Paired (GO s.heap) vs ds)(h64:vs.length<64)
  (h:Q (.ref (s.heap.objs.size+1)) {s with heap:=sortedAll s.heap vs ((Ce ds).map λi=>vs.getD i Value.none).toArray}):wpAny (model prog w) A (call (.builtin "sorted") [.ref l]) Q E s:=by
 have hsz:((s.heap.push (seqObj "list" #[] 0)).update s.heap.objs.size (Obj.mapSeq (·++vs.toArray))).objs.size=s.heap.objs.size+1:=by rw[Heap.size_update];exact size_push' _ _
 generalize hH:((s.heap.push (seqObj "list" #[] 0)).update s.heap.objs.size (Obj.mapSeq (·++vs.toArray))).push (seqObj "list" vs.toArray 0)=H2;have at2:H2.get? (s.heap.objs.size+1)=some (seqObj "list" vs.toArray 0):=by rw[<-hH,<-hsz];exact Heap.get?_push_size _ rfl
 have kept:∀b o,s.heap.get? b=some o->H2.get? b=some o:=λb o e=>by
  have hlt:=Heap.lt_size e;rw[<-hH,Heap.get?_push_ne _ _ _ (by rw[hsz];exact BN (ALd hlt)),Heap.get?_update_ne _ _ _ _ (BN hlt),Heap.get?_push_ne _ _ _ (BN hlt)];exact e
 have r2:Paired (GO H2) vs ds:=by
  clear h hl h64 hH at2 hsz
  induction r with
  |nil=>exact .nil
  |cons q t ih =>
   obtain⟨x,p,q,tk,u,e0,⟨o,e,c⟩,z⟩:=q;exact .cons ⟨x,p,q,tk,u,e0,⟨o,kept _ _ e,c⟩,z⟩ ih
 refine Calls.call_function_entry kind_sorted plain_sorted entry_sorted (args_sorted1 _) ?_;unfold Builtin.«sorted»;refine AE (m:=checkCount "sorted" 1 1 _) (AK (AE (collect_list hl ?_ (by rw[sizeLine_eq];omega))));refine AE (wpAny_newList ?_ (by rw[sizeLine_eq];omega));show wpAny _ _ _ _ _ {s with heap:=((s.heap.push (seqObj "list" #[] 0)).update s.heap.objs.size (Obj.mapSeq (·++vs.toArray))).push (seqObj "list" vs.toArray 0)};rw[hsz,hH];refine AE (DJ (Fg slot_list_sort ⟨_,at2,rfl⟩ entry_list_sort (ABc (s:={s with heap:=H2}) at2 r2 h64 ⟨_,rfl,AK ⟨_,rfl,?_⟩⟩) (args_list_sort _)));have e3:sortedHeap H2 (s.heap.objs.size+1) vs ((Ce ds).map λi=>vs.getD i Value.none).toArray=sortedAll s.heap vs ((Ce ds).map λi=>vs.getD i Value.none).toArray:=by rw[<-hH];rfl
 show Q _ {s with heap:=sortedHeap H2 (s.heap.objs.size+1) vs _};rw[e3];exact h
end
section
variable {X:Cx}
def SD{K:AI}{H:Hp}{O:AMD}:∀{ws:List V} {ds:List D},AM K H O ws ds->Paired (Is K H O) ws ds
 |_,_,.nil=>.nil
 |_,_,.cons h t=>.cons h (SD t)
def AEo{K:AI}{H:Hp}{O:AMD}{ws:List V}{ds:List D}(h:Paired (Is K H O) ws ds):AM K H O ws ds:=by
 induction h with
 |nil=>exact .nil
 |cons q _ ih=>exact .cons q ih
def Vy{pins}{s:Shared}{Y}{H:Hp}{O:AMD}(I:AG X pins Y H s):∀{ws:List V} {ds:List D} {vs:AMC},AM X.K H O ws ds->AV ws vs->ds.all isPr=true->Paired (GO s.heap) vs ds
 |_,_,_,.nil,.nil,_=>.nil
 |_,_,_,.cons h t,.cons r q,e=>by
  rw[AKq,CA] at e;refine .cons ?_ (Vy I t q e.2);have e1:=e.1;unfold isPr at e1;split at e1
  .rename_i a b
   cases h with|tup hs hl =>
    cases r
    cases hl with|cons h1 hl=>cases hl with|cons h2 hl =>
     cases hl;cases h1;cases h2;obtain⟨its,rv,p,_⟩:=I.tuple hs
     cases rv with|cons r1 rv=>cases rv with|cons r2 rv =>
      cases rv;obtain⟨t1,rfl⟩:=(show ∃t,_=Value.str a t from r1);obtain⟨t2,rfl⟩:=(show ∃t,_=Value.str b t from r2);exact⟨_,a,b,t1,t2,rfl,p,rfl⟩
  .cases e1
def AJ1:Ez X (.builtin "sorted") LR:=λpins s Y H vs us Q I rv z9_=>by
 obtain⟨O,L,xs,d,L',rs,is,e,k⟩:=z9_;unfold LR at e;split at e
 .rename_i n;split at e
  .rename_i ds e1;split at e
   .rename_i hall;rw[CA] at hall;have hlt:=of_decide_eq_true hall.2;cases e
    cases is with|cons i1 i2=>cases i2;cases i1 with|@ref _ a hn =>
     obtain⟨u,rfl,ru⟩:=EK rv;cases ru;obtain⟨ws,hw,il⟩:=rs.ob n _ _ hn e1;obtain⟨its,rvv,p,_⟩:=I.list (BI.of hw);have hl1:ws.length=its.length:=rvv.length;have hl2:ws.length=ds.length:=Paired.length (SD il);refine ABb p.isList (Vy I il rvv hall.1) (by omega) ?_;have hin:∀i∈Ce ds,i<ws.length:=λi hi=>by rw[hl2];exact CN.mp ((LF ds).mem_iff.mp hi)
     have hol:(Ce ds).length=ds.length:=by rw[(LF ds).length_eq,List.length_range]
     obtain⟨c,hc⟩:=sortedAll_at s.heap its ((Ce ds).map λi=>its.getD i Value.none).toArray;have hf:H (s.heap.objs.size+1)=none:=I.hok.fresh (AKp _);have st:AY H O (upd H (s.heap.objs.size+1) (.lst ((Ce ds).map λi=>ws.getD i V.non))) (O++[s.heap.objs.size+1]):=⟨.new hf,Aj _ _⟩;have hil:AM X.K H O ((Ce ds).map λi=>ws.getD i V.non) (sortP ds):=AEo (Rg (SD il) V.non D.non hin)
     exact⟨.ref (s.heap.objs.size+1),upd H (s.heap.objs.size+1) (.lst ((Ce ds).map λi=>ws.getD i V.non)),I.laid (o:=.lst ((Ce ds).map λi=>ws.getD i V.non)) (t':=s.toks) (λb o q=>sortedAll_old q) (AKp _) ⟨by rw[Ag,hol,sizeLine_eq];omega,(Ce ds).map λi=>its.getD i Value.none,c,Rg rvv V.non Value.none hin,hc⟩,rfl,
      k _ _ _ st (rs.new hf ⟨_,Bn,hil.mono st⟩) (.ref (by rw[<-rs.len];simp))⟩
   .cases e
  .cases e
 .cases e
end
section
variable {X:Cx}
def vv{i:Nat}{x:Str}{pos:Pos}(hN:X.N[i]?=some x:=by rfl)(hv:IA X.env.scope x:=by first|exact Or.inl rfl|exact Or.inr (Or.inl rfl)|exact Or.inr (Or.inr rfl))(hd:(x == ("__debug__":Str))=false:=by decide)(hcd:(x == ("__classdict__":Str))=false:=by decide):AO X (.Name x pos) (var i):=Cj (pv i hN hv hd hcd)
def ixq{a b:Expr}{fa fb:EF}{pos:Pos}(ha:AO X a fa)(hb:AO X b fb)(hs:Sv b:=by intro _ _;rfl):AO X (.Subscript a b pos) (bin2 AZ fa fb):=YJ UX ha hb hs
end
abbrev Sz(K:AI)(x:Str)(f:Addr):Prop:=Ba K mainGlobals x=some (some (.ref f))
abbrev Ix(K:AI)(x qual:Str)(st:Stmt)(f:Addr):Prop:=∃fd,Gu K x qual st f fd
def Xt{K:AI}{x qual:Str}{st:Stmt}{f:Addr}{oc:Value}{od an:Option Addr}{osl:Array (Option Value)}{kV doc pm cdv ct:Value}(l:K.lookup f=some ⟨oc,od,.func (AKd x qual (Io st) (Dz st) (AT st) .none kV doc pm an cdv ct),osl⟩)(c:ALX K cdv qual=true)(k:Ec K (.ref f)=true):Ix K x qual st f:=⟨_,AFT l c k⟩
abbrev Au(P:Program)(w:World)(K:AI)(mg:AMA)(base:Heap)(k:Nat)(N:AMB)(qual:Str)(st:Stmt)(B:SF):Prop :=
 ∀(cdv:Value) (f:Addr) (A:Around) (outer:List Env) (s:Shared) (H:Hp) (E:XK),Room k (A.deeper (envOfC qual (AT st) s.heap.objs.size f cdv))->EB (BV CX0 P w K mg base N qual (AT st) f cdv A outer s H E).nox (Dz st) B
abbrev ZP(x qual:Str)(st:Stmt)(ps:AMB):Prop:=∀(kV doc pm:Value) (an:Option Addr) (cdv ct:Value) (us:AMC),us.length=ps.length->bindArgs (AKd x qual (Io st) (Dz st) (AT st) .none kV doc pm an cdv ct) ⟨us,[]⟩=pure (ps.zip us)
def AFW{P:Program}{w:World}{K:AI}{mg:AMA}{base h:Heap}(X:K.In h)(Gn:h.Ns mainGlobals mg){x qual:Str}{st:Stmt}{f:Addr}{N ps:AMB}{k:Nat}{B:SF}(G:GL)(e:G=Aa B N ps.length)
  (a:Ba K mainGlobals x=some (some (.ref f))) (q:Ix K x qual st f) (S:Ap N ps (AT st)) (d:Au P w K mg base k N qual st B) (b:ZP x qual st ps):Al P w K mg base (k+1) x G:=by
 obtain⟨fd,F⟩:=q;subst e;exact La F S (λcdv A outer s H E hr=>d cdv f A outer s H E hr) (F.binds b) (Cn X Gn a) F.kp
def Al.mn{P:Program}{w:World}{K:AI}{mg:AMA}{base:Heap}{j k:Nat}{x:Str}{G:GL}(F:Al P w K mg base j x G)(h:j<=k:=by decide):Al P w K mg base k x G:=F.mono h
def EE.mn{P:Program}{w:World}{K:AI}{mg:AMA}{base:Heap}{j k:Nat}{x:Str}{G:GL}(F:EE P w K mg base j x G)(h:j<=k:=by decide):EE P w K mg base k x G:=F.mono h
abbrev NT(fa:EF)(fx:SX):SX:=λρ L=>(fa ρ L).bind λp=>fx ρ p.2
section
variable {X:Cx}{a b:Expr}{fa fb:EF}{fx:SX}{pos:Pos}
def AFr{x1:Nat}(ha:AO X a fa)(hb:On X b fb fx)(hsa:Ci a=true:=by rfl)(hsb:Ci b=true:=by rfl):On X (.Tuple [a,b] x1 pos) (Bp (AA fa (AA fb AD))) (NT fa fx) :=
 PE.weaken (Rc (Hg ha (Hg hb LD (Ef hsb)) (Ef hsa))) λY H Q q=>by
  rcases q with⟨O,ρ,L,d,L',r,e,k⟩|⟨O,ρ,L,c,L',C,r,e,hC,k⟩
  .unfold Bp AA at e
   cases e1:fa ρ L with
   |none=>rw[e1] at e;cases e
   |some p =>
    rw[e1] at e
    cases e2:fb ρ p.2 with
    |none=>simp only[AQ,e2] at e;cases e
    |some q =>
     simp only[AQ,e2] at e;cases e;refine⟨O,ρ,L,p.1,p.2,r,e1,λv H1 O1 st1 rs1 is1=>.inl ⟨O1,ρ,p.2,q.1,q.2,r.to st1 rs1,e2,λu H2 O2 st2 rs2 is2=>⟨by rw[sizeLine_eq];show 2<=16777216;decide,λy hy=>?_⟩⟩⟩;have st3:AY H2 O2 (upd H2 y (.tup [v,u])) O2:=⟨.new hy,An _⟩;exact k _ _ _ ((st1.trans st2).trans st3) (rs2.ext λa u e=>by rw[Ax (CW e hy)];exact e) (.tup (BW.of Bn) ((AM.cons (is1.mono st2) (.cons is2 .nil)).mono st3))
  .unfold NT at e
   cases e1:fa ρ L with
   |none=>rw[e1] at e;cases e
   |some p =>
    rw[e1] at e;exact⟨O,ρ,L,p.1,p.2,r,e1,λv H1 O1 st1 rs1 is1=>.inr ⟨O1,ρ,p.2,c,L',C,r.to st1 rs1,e,hC,λH' O' ev s' st' rs' x=>k H' O' ev s' (st1.trans st') rs' x⟩⟩
end
abbrev anyO:List (Option Bool)->Option Bool
 |[]=>some false
 |none::_=>none
 |some b::r=>(anyO r).map (b || ·)
def AGs{os:List (Option Bool)}{b:Bool}(h:anyO os=some b):∃bs:List Bool,os=bs.map some/\b=bs.any id:=by
 induction os generalizing b with
 |nil=>cases h;exact⟨[],rfl,rfl⟩
 |cons o r ih =>
  cases o with
  |none=>cases h
  |some c =>
   have h:(anyO r).map (c || ·)=some b:=h
   cases e:anyO r with
   |none=>rw[e] at h;cases h
   |some d =>
    rw[e] at h;cases h;obtain⟨bs,e1,e2⟩:=ih e;exact⟨c::bs,by rw[e1];rfl,by rw[e2];rfl⟩
abbrev Ij:G2:=λx y L=>match y with
 |.ref k=>(match L[k]? with|some (.lst ys)=>(anyO (ys.map λz=>CP 30 L z x)).map λb=>(.bl (!b),L)|_=>none)
 |_=>none
def AFM{x y d:D}{L L':AB}(e:Ij x y L=some (d,L')):∃k ys b,y=.ref k/\L[k]?=some (.lst ys)/\anyO (ys.map λz=>CP 30 L z x)=some b/\d=.bl (!b)/\L=L':=by
 unfold Ij at e
 cases y with
 |ref k =>
  simp only at e
  cases e1:L[k]? with
  |none=>rw[e1] at e;cases e
  |some o =>
   rw[e1] at e
   cases o with
   |lst ys =>
    simp only at e
    cases e2:anyO (ys.map λz=>CP 30 L z x) with
    |none=>rw[e2] at e;cases e
    |some b=>rw[e2] at e;cases e;exact⟨k,ys,b,rfl,e1,e2,rfl,rfl⟩
   |_=>cases e
 |_=>cases e
section
variable {X:Cx}
def AId(hu:X.A.units+64<cLine):Cm X (compareOp .NotIn) Ij:=by
 rintro pins s Y H x' y' v u Q I rx ry ⟨O,L,x,y,d,L',rs,ix,iy,e,k⟩;obtain⟨n,ys,b,rfl,e1,e2,rfl,rfl⟩:=AFM e
 cases iy with|ref hk =>
  cases ry;obtain⟨vs,hv,il⟩:=rs.ob _ _ _ hk e1;obtain⟨its,r,pl,hz⟩:=I.list (BI.of hv);obtain⟨bs,hbs,rfl⟩:=AGs e2;have hl1:its.length=ys.length:=(AV.length r).symm.trans il.length
  have hat:∀(i:Nat) (d:D),ys[i]?=some d->∃w c,its[i]?=some w/\bs[i]?=some c/\SeqAt.EqAt X.A.in1 s w v c:=λi d hd=>by
   obtain⟨v',h1,i1⟩:=il.get hd;obtain⟨w,h2,r2⟩:=AV.get r h1;have h3:(ys.map λz=>CP 30 L z x)[i]?=(bs.map some)[i]?:=congrArg (λl=>l[i]?) hbs;rw[Av,Av,hd] at h3
   cases h4:bs[i]? with
   |none=>rw[h4] at h3;cases h3
   |some c =>
    rw[h4] at h3;exact⟨w,c,h2,rfl,Sb I rs 30 (by rw[Around.in1_units];omega) i1 ix r2 rx (Option.some.inj h3)⟩
  have hix:∀(i:Nat) (w:Value),its[i]?=some w->∃d,ys[i]?=some d:=λi w h=>by
   have:=(BA.mp h).1;exact⟨ys[i],by simp[show i<ys.length by omega]⟩
  classical
  refine SeqAt.notIn_listAt (λw=>decide (∃i:Nat,its[i]?=some w/\bs[i]?=some true)) pl.isList (λw hw=>?_) ⟨.bl _,H,I,rfl,?_⟩
  .obtain⟨i,hi⟩:=ALe (show w∈its by simpa using hw)
   by_cases h:∃i:Nat,its[i]?=some w/\bs[i]?=some true
   .rw[decide_eq_true h];obtain⟨j,h1,h2⟩:=h;obtain⟨d,hd⟩:=hix j w h1;obtain⟨w',c,h3,h4,h5⟩:=hat j d hd;rw[h1] at h3;cases h3;rw[h2] at h4;cases h4;exact h5
   .rw[decide_eq_false h];obtain⟨d,hd⟩:=hix i w hi;obtain⟨w',c,h3,h4,h5⟩:=hat i d hd;rw[hi] at h3;cases h3
    cases c with
    |true=>exact absurd ⟨i,hi,h4⟩ h
    |false=>exact h5
  .have hany:(its.toArray.any λw=>decide (∃i:Nat,its[i]?=some w/\bs[i]?=some true))=bs.any id:=by
    rw[show(its.toArray.any λw=>decide (∃i:Nat,its[i]?=some w/\bs[i]?=some true))=its.any λw=>decide (∃i:Nat,its[i]?=some w/\bs[i]?=some true) by simp];rw[AKm,ALD,ALD];constructor
    .rintro⟨w,_,h⟩;obtain⟨i,_,h2⟩:=of_decide_eq_true h;exact⟨true,Bv h2,rfl⟩
    .rintro⟨c,hc,h⟩
     cases c with
     |false=>cases h
     |true =>
      obtain⟨i,hi⟩:=ALe hc;have hlen:bs.length=ys.length:=by have:=congrArg List.length hbs;rw[Ag,Ag] at this;exact this.symm
      have hlt:=(BA.mp hi).1;have hw:its[i]?=some its[i]:=by simp[show i<its.length by omega]
      exact⟨its[i],Bv hw,decide_eq_true ⟨i,hw,hi⟩⟩
   rw[hany];exact k _ _ _ (.refl _ _) rs (.bl _)
end
def VP{X:Cx}{sts:AMF}:EB X sts FW:=λpins s Y H D I h=>by
 obtain⟨O,ρ,L,out,r,e,k⟩:=h;cases e
structure FQ (K:AI) (x:Str) (st:Stmt) (f:Addr):Prop where
 a:Sz K x f
 b:Ix K x x st f
def dk{P:Program}{w:World}{K:AI}{mg:AMA}{base:Heap}{k:Nat}{N ps:AMB}{qual:Str}{st:Stmt}{B:SF}(S:Ap N ps (AT st))
  (h:∀(cdv:Value) (f:Addr) (A:Around) (outer:List Env) (s:Shared) (H:Hp) (E:XK),Room k (A.deeper (envOfC qual (AT st) s.heap.objs.size f cdv))->N.Nodup->EB (BV CX0 P w K mg base N qual (AT st) f cdv A outer s H E).nox (Dz st) B):Au P w K mg base k N qual st B:=λcdv f A outer s H E hr=>h cdv f A outer s H E hr S.nd
def AFX{P:Program}{w:World}{K:AI}{mg:AMA}{base h:Heap}(X:K.In h)(Gn:h.Ns mainGlobals mg){x:Str}{st:Stmt}{f:Addr}{N ps:AMB}{k:Nat}{B:SF}(G:GL)(q:FQ K x st f)(S:Ap N ps (AT st))(d:Au P w K mg base k N x st B)(e:G=Aa B N ps.length:=by rfl)(b:ZP x x st ps:=by wtm_at "bi"):Al P w K mg base (k+1) x G:=AFW X Gn G e q.a q.b S d b
abbrev Gk(tg:Expr)(N:AMB)(idx:AMG):AMB :=
 (match tg with
 |.Name x _=>[x]
 |.Tuple es _ _=>es.filterMap λe=>match e with
  |.Name x _=>some x
  |_=>none
 |_=>[])++idx.map λi=>N.getD i Str.empty
section
variable {P:Program}{w:World}{K:AI}{mg:AMA}{base:Heap}{N:AMB}{qual:Str}{sc:Scope}{f:Addr}{cdv:Value}{A:Around}{outer:List Env}{s:Shared}{H:Hp}{E:XK}{C0:FL}
def Yc{scope:Scope}{tg:Expr}{n:Nat}{idx:AMG}(h1:scope.kind=.function)(hc:Lh scope.names sc.names N (Gk tg N idx) n idx=true):Lu (BV C0 P w K mg base N qual sc f cdv A outer s H E).nox scope (Gk tg N idx) n idx:=AGJ h1 (λ_=>rfl) rfl hc
def AJs{tg iter elt:Expr}{ifs:AME}{scope:Scope}{pos:Pos}{fi:IF}{n:Nat}{idx:AMG}{g:GF}{c:TF}{fe:EF}(hi:Dl (BV C0 P w K mg base N qual sc f cdv A outer s H E).nox tg iter fi)
  (hbody:∀cl C s3 H3 fp pins,Gr (CY (BV C0 P w K mg base N qual sc f cdv A outer s H E).nox (Gk tg N idx) scope cl C s3 H3 fp pins) tg g/\ID (CY (BV C0 P w K mg base N qual sc f cdv A outer s H E).nox (Gk tg N idx) scope cl C s3 H3 fp pins) ifs c/\AO (CY (BV C0 P w K mg base N qual sc f cdv A outer s H E).nox (Gk tg N idx) scope cl C s3 H3 fp pins) elt fe)
  (h1:scope.kind=.function:=by rfl) (hc:Lh scope.names sc.names N (Gk tg N idx) n idx=true:=by decide +kernel)
  (hs:∀x,foldedSetIterable iter (BV C0 P w K mg base N qual sc f cdv A outer s H E).nox.env x=pure x:=by intro _;rfl):AO (BV C0 P w K mg base N qual sc f cdv A outer s H E).nox (.ListComp elt [⟨tg,iter,ifs,0⟩] scope pos) (BY fi n idx g c fe):=AFz rfl hi (Yc h1 hc) hbody hs
def AIG{i:Nat}{x:Str}{px pos':Pos}{tg iter elt:Expr}{ifs:AME}{scope:Scope}{pos:Pos}{fi:IF}{n:Nat}{idx:AMG}{g:GF}{c:TF}{fe:EF}(hN:N.Nodup)(hi:Dl (BV C0 P w K mg base N qual sc f cdv A outer s H E).nox tg iter fi)
  (hbody:∀cl C s3 H3 fp pins,Gr (CY (BV C0 P w K mg base N qual sc f cdv A outer s H E).nox (Gk tg N idx) scope cl C s3 H3 fp pins) tg g/\ID (CY (BV C0 P w K mg base N qual sc f cdv A outer s H E).nox (Gk tg N idx) scope cl C s3 H3 fp pins) ifs c/\AO (CY (BV C0 P w K mg base N qual sc f cdv A outer s H E).nox (Gk tg N idx) scope cl C s3 H3 fp pins) elt fe)
  (h1:scope.kind=.function:=by rfl) (hc:Lh scope.names sc.names N (Gk tg N idx) n idx=true:=by decide +kernel)
  (hi2:N[i]?=some x:=by rfl) (hx:Gs (BV C0 P w K mg base N qual sc f cdv A outer s H E).nox.env.scope x:=by first|exact Or.inl rfl|exact Or.inr rfl)
  (hsw:swapsWith (.ListComp elt [⟨tg,iter,ifs,0⟩] scope pos) (some (.Name x px)) pos'.line (BV C0 P w K mg base N qual sc f cdv A outer s H E).nox.env=pure true:=by rfl)
  (hs:∀x,foldedSetIterable iter (BV C0 P w K mg base N qual sc f cdv A outer s H E).nox.env x=pure x:=by intro _;rfl):DU (BV C0 P w K mg base N qual sc f cdv A outer s H E).nox (.Assign [.Name x px] (.ListComp elt [⟨tg,iter,ifs,0⟩] scope pos) pos') (AL i (BY fi n idx g c fe)):=ABq hN rfl hi (Yc h1 hc) hbody hi2 hx hsw (.inl rfl) hs
end
def nqC{X:Cx}{N':AMB}{scope:Scope}{cl C s3 H3 fp pins}(h:N'.Nodup:=by decide +kernel):(CY X N' scope cl C s3 H3 fp pins).N.Nodup:=h
abbrev W2{α:Type}(o:Option (α×AB))(Q:α->AB->Prop):Prop:=∃a L,o=some (a,L)/\Q a L
abbrev W1{α:Type}(o:Option α)(Q:α->Prop):Prop:=∃a,o=some a/\Q a
abbrev WI(o:Option (Lq×AB))(Q:List D->(AB->Bool)->AB->Prop):Prop:=∃a k L,o=some (⟨a,k⟩,L)/\Q a k L
structure TL where
 nx:Fm->AB->Prop
 rt:AMo
 bk:Fm->AB->Prop
 ct:Fm->AB->Prop
abbrev TL.of(E:TL):EC->Prop
 |.next ρ L=>E.nx ρ L
 |.ret d L=>E.rt d L
 |.brk ρ L=>E.bk ρ L
 |.cont ρ L=>E.ct ρ L
abbrev WS(o:Option EC)(nx:Fm->AB->Prop)(rt:AMo)(bk ct:Fm->AB->Prop):Prop:=∃x,o=some x/\TL.of ⟨nx,rt,bk,ct⟩ x
abbrev Br(b:Bool)(p q:Prop):Prop:=if b=true then p else q
abbrev Ls(d:D)(Q:Bool->Prop):Prop:=∃b,d=.bl b/\Q b
abbrev TD(d:D)(Q:Int->Prop):Prop:=∃b,d=.int b/\Q b
abbrev TC(n:Nat)(p:Prop):Prop:=n<=16777216/\p
abbrev Oi(T:String)(x:D)(L:AB)(p:Prop):Prop:=JT T x L=true/\p
section
variable {α β:Type}{ρ:Fm}{L:AB}{p q:Prop}{b:Bool}{c:Prop}
def AKM(h:p):Br true p q:=h
def AKR(h:q):Br false p q:=h
def AKN(h:Br b q p):Br (!b) p q:=by cases b <;> exact h
def BU[Decidable c](h1:c->p)(h2:¬c->q):Br (decide c) p q:=by
 by_cases h:c
 .rw[decide_eq_true h];exact h1 h
 .rw[decide_eq_false h];exact h2 h
def AKS[Decidable c](h:c)(h1:p):Br (decide c) p q:=BU (λ_=>h1) (λn=>absurd h n)
def AKT[Decidable c](h:¬c)(h1:q):Br (decide c) p q:=BU (λn=>absurd n h) (λ_=>h1)
def Sf(e:b=true)(h:p):Br b p q:=by rw[e];exact h
def Li(e:b=false)(h:q):Br b p q:=by rw[e];exact h
def GH(h1:b=true->p)(h2:b=false->q):Br b p q:=by
 cases b
 .exact h2 rfl
 .exact h1 rfl
def AI3{Q:Bool->Prop}(h:Q b):Ls (.bl b) Q:=⟨_,rfl,h⟩
def AI2{i:Int}{Q:Int->Prop}(h:Q i):TD (.int i) Q:=⟨_,rfl,h⟩
def AH5{z:Str}(h:p):Oi "str" (.str z) L p:=⟨rfl,h⟩
def Uj{k:Nat}{xs:List D}(e:L[k]?=some (.lst xs))(h:p):Oi "list" (.ref k) L p:=⟨by simp[JT,e],h⟩
def W2.mono{o:Option (α×AB)}{Q Q':α->AB->Prop}(h:W2 o Q)(i:∀a L,Q a L->Q' a L):W2 o Q':=let ⟨a,L,e,q⟩:=h;⟨a,L,e,i a L q⟩
def W2.mk{o:Option (α×AB)}{Q:α->AB->Prop}{a:α}(e:o=some (a,L))(h:Q a L):W2 o Q:=⟨a,L,e,h⟩
def W2.get{o:Option (α×AB)}{a:α}(h:W2 o λa' L'=>a'=a/\L'=L):o=some (a,L):=by obtain⟨a',L',e,rfl,rfl⟩:=h;exact e
def W1.mk{o:Option α}{Q:α->Prop}{a:α}(e:o=some a)(h:Q a):W1 o Q:=⟨a,e,h⟩
def WS.mono{o:Option EC}{nx nx':Fm->AB->Prop}{rt rt':AMo}{bk bk' ct ct':Fm->AB->Prop}(h:WS o nx rt bk ct)(i1:∀a L,nx a L->nx' a L)(i2:∀a L,rt a L->rt' a L)(i3:∀a L,bk a L->bk' a L)(i4:∀a L,ct a L->ct' a L):WS o nx' rt' bk' ct':=by
 obtain⟨x,e,h⟩:=h;refine⟨x,e,?_⟩;cases x
 .exact i1 _ _ h
 .exact i2 _ _ h
 .exact i3 _ _ h
 .exact i4 _ _ h
section
variable {Q:AMo}{QT:Bool->AB->Prop}{QA:List D->AB->Prop}{QO:Option Int->AB->Prop}{f g h:EF}{t u:TF}{a:AF}
def RG{d:D}(h:Q d L):W2 (AC d ρ L) Q:=⟨d,L,rfl,h⟩
def Ub{i:Nat}{d:D}(e:ρ[i]?=some (some d))(h:Q d L):W2 (var i ρ L) Q:=⟨d,L,by unfold var;rw[e],h⟩
def RH{o:G2}(h:W2 (f ρ L) λx L1=>W2 (g ρ L1) λy L2=>W2 (o x y L2) Q):W2 (bin2 o f g ρ L) Q:=by obtain⟨x,L1,e1,y,L2,e2,z,L3,e3,q⟩:=h;exact⟨z,L3,by unfold bin2;rw[e1,AQ,e2,AQ];exact e3,q⟩
def AHk{o:G1}(h:W2 (f ρ L) λx L1=>W2 (o x L1) Q):W2 (As o f ρ L) Q:=by obtain⟨x,L1,e1,z,L3,e3,q⟩:=h;exact⟨z,L3,by unfold As;rw[e1,AQ];exact e3,q⟩
def AHz(h:W2 (f ρ L) λd L1=>Ls d λb=>QT b L1):W2 (asT f ρ L) QT:=by obtain⟨x,L1,e1,b,rfl,q⟩:=h;exact⟨b,L1,by unfold asT;rw[e1];rfl,q⟩
def AHr(h:W2 (t ρ L) λb L1=>QT (!b) L1):W2 (Gd t ρ L) QT:=by obtain⟨x,L1,e1,q⟩:=h;exact⟨_,L1,by unfold Gd;rw[e1];rfl,q⟩
def AH2(h:W2 (t ρ L) λb L1=>Br b (W2 (u ρ L1) QT) (QT false L1)):W2 (HK t u ρ L) QT:=by
 obtain⟨x,L1,e1,q⟩:=h;cases x
 .exact⟨false,L1,by unfold HK;rw[e1];rfl,q⟩
 .obtain⟨y,L2,e2,q⟩:=q;exact⟨y,L2,by unfold HK;rw[e1];exact e2,q⟩
def AHp(h:W2 (t ρ L) λb L1=>Br b (QT true L1) (W2 (u ρ L1) QT)):W2 (FV t u ρ L) QT:=by
 obtain⟨x,L1,e1,q⟩:=h;cases x
 .obtain⟨y,L2,e2,q⟩:=q;exact⟨y,L2,by unfold FV;rw[e1];exact e2,q⟩
 .exact⟨true,L1,by unfold FV;rw[e1];rfl,q⟩
def AHm(h:QT true L):W2 (Cg ρ L) QT:=⟨_,_,rfl,h⟩
def AH1(h:W2 (f ρ L) λd L1=>Ls d λb=>Br b (W2 (g ρ L1) Q) (Q (.bl false) L1)):W2 (Fb f g ρ L) Q:=by
 obtain⟨x,L1,e1,b,rfl,q⟩:=h;cases b
 .exact⟨_,L1,by unfold Fb;rw[e1];rfl,q⟩
 .obtain⟨y,L2,e2,q⟩:=q;exact⟨y,L2,by unfold Fb;rw[e1];exact e2,q⟩
def AHo(h:W2 (f ρ L) λd L1=>Ls d λb=>Br b (Q (.bl true) L1) (W2 (g ρ L1) Q)):W2 (Hh f g ρ L) Q:=by
 obtain⟨x,L1,e1,b,rfl,q⟩:=h;cases b
 .obtain⟨y,L2,e2,q⟩:=q;exact⟨y,L2,by unfold Hh;rw[e1];exact e2,q⟩
 .exact⟨_,L1,by unfold Hh;rw[e1];rfl,q⟩
def AHq(h:W2 (f ρ L) λd L1=>Ls d λb=>Q (.bl (!b)) L1):W2 (LG f ρ L) Q:=by obtain⟨x,L1,e1,b,rfl,q⟩:=h;exact⟨_,L1,by unfold LG;rw[e1];rfl,q⟩
def AHv(h:W2 (t ρ L) λb L1=>Br b (W2 (f ρ L1) Q) (W2 (g ρ L1) Q)):W2 (Gg t f g ρ L) Q:=by
 obtain⟨x,L1,e1,q⟩:=h;cases x
 .obtain⟨y,L2,e2,q⟩:=q;exact⟨y,L2,by unfold Gg;rw[e1];exact e2,q⟩
 .obtain⟨y,L2,e2,q⟩:=q;exact⟨y,L2,by unfold Gg;rw[e1];exact e2,q⟩
def AAi(h:QA [] L):W2 (AD ρ L) QA:=⟨_,_,rfl,h⟩
def AHw(h:W2 (f ρ L) λd L1=>W2 (a ρ L1) λds L2=>QA (d::ds) L2):W2 (AA f a ρ L) QA:=by obtain⟨x,L1,e1,y,L2,e2,q⟩:=h;exact⟨_,L2,by unfold AA;rw[e1,AQ,e2];rfl,q⟩
def AHl(h:W2 (a ρ L) λds L1=>TC ds.length (Q (.tup ds) L1)):W2 (Bp a ρ L) Q:=by obtain⟨x,L1,e1,hz,q⟩:=h;exact⟨_,L1,by unfold Bp;rw[e1,AQ];simp only;rw[if_pos hz],q⟩
def AAj(h:W2 (a ρ L) λds L1=>TC ds.length (Q (.ref L1.length) (L1++[.lst ds]))):W2 (BS a ρ L) Q:=by obtain⟨x,L1,e1,hz,q⟩:=h;exact⟨_,_,by unfold BS;rw[e1,AQ];simp only;rw[if_pos hz],q⟩
def AHy{o:GL}(h:W2 (a ρ L) λds L1=>W2 (o ds L1) Q):W2 (AJ o a ρ L) Q:=by obtain⟨x,L1,e1,y,L2,e2,q⟩:=h;exact⟨_,L2,by unfold AJ;rw[e1,AQ];exact e2,q⟩
def AHt{T:String}{o:GM}(h:W2 (f ρ L) λx L1=>Oi T x L1 (W2 (a ρ L1) λys L2=>W2 (o x ys L2) Q)):W2 (Bw T o f a ρ L) Q:=by obtain⟨x,L1,e1,ty,y,L2,e2,z,L3,e3,q⟩:=h;exact⟨_,L3,by unfold Bw;rw[e1,AQ];simp only;rw[if_pos ty,e2,AQ];exact e3,q⟩
def AHs(h:QO none L):W2 (Ei ρ L) QO:=⟨_,_,rfl,h⟩
def AH0(h:W2 (f ρ L) λd L1=>TD d λi=>QO (some i) L1):W2 (Ck f ρ L) QO:=by obtain⟨x,L1,e1,b,rfl,q⟩:=h;exact⟨_,L1,by unfold Ck;rw[e1];rfl,q⟩
def AHn{fl fh:OF}(h:W2 (f ρ L) λx L1=>W2 (fl ρ L1) λlo L2=>W2 (fh ρ L2) λhi L3=>W2 (Jj x lo hi L3) Q):W2 (DO f fl fh ρ L) Q:=by obtain⟨x,L1,e1,y,L2,e2,z,L3,e3,v,L4,e4,q⟩:=h;exact⟨_,L4,by unfold DO;rw[e1,AQ,e2,AQ,e3,AQ];exact e4,q⟩
def AHx{fi:IF}{n:Nat}{idx:AMG}{gf:GF}{c:TF}{elt:EF}(h:WI (fi ρ L) λitems ok L1=>W1 (Cr ok gf c elt L1.length items (Ht n idx ρ) (L1++[.lst []])) λL2=>Q (.ref L1.length) L2):W2 (BY fi n idx gf c elt ρ L) Q:=by obtain⟨x,k,L1,e1,L2,e2,q⟩:=h;exact⟨_,_,by unfold BY;rw[e1,AQ];simp only;rw[e2];rfl,q⟩
end
section
variable {Q:List D->(AB->Bool)->AB->Prop}{f:EF}{a:AF}
def AHc(h:W2 (f ρ L) λd L1=>WI ((Ic d L1).bind λJ=>some (J,L1)) Q):WI (BG f ρ L) Q:=by obtain⟨x,L1,e1,y,k,L2,e2,q⟩:=h;exact⟨y,k,L2,by unfold BG;rw[e1,AQ];exact e2,q⟩
def AHT{xs:List D}(h:Q xs (λ_=>true) L):WI ((Ic (.tup xs) L).bind λJ=>some (J,L)) Q:=⟨_,_,_,rfl,h⟩
def AHU{y:Str}(h:Q (sgs y) (λ_=>true) L):WI ((Ic (.str y) L).bind λJ=>some (J,L)) Q:=⟨_,_,_,rfl,h⟩
def AHX{k:Nat}{xs:List D}(e:L[k]?=some (.lst xs))(h:Q xs (λL'=>decide (L'[k]?=some (.lst xs))) L):WI ((Ic (.ref k) L).bind λJ=>some (J,L)) Q:=⟨_,_,_,by simp only[Ic,e];rfl,h⟩
def AHW(h:W2 (a ρ L) λds L1=>∃j:Int,ds=[.int j]/\(j<=4611686018427387903/\-4611686018427387904<=j)/\Q (EM 0 j.toNat) (λ_=>true) L1):WI (Fx a ρ L) Q:=by obtain⟨x,L1,e1,j,rfl,hj,q⟩:=h;exact⟨_,_,L1,by unfold Fx;rw[e1,AQ];simp only;rw[if_pos hj],q⟩
def AHV(h:W2 (a ρ L) λds L1=>∃i j:Int,ds=[.int i,.int j]/\((i<=4611686018427387903/\-4611686018427387904<=i)/\(j<=4611686018427387903/\-4611686018427387904<=j))/\Q (EM i (j-i).toNat) (λ_=>true) L1):WI (LM a ρ L) Q:=by obtain⟨x,L1,e1,i,j,rfl,hj,q⟩:=h;exact⟨_,_,L1,by unfold LM;rw[e1,AQ];simp only;rw[if_pos hj],q⟩
def AHb(h:W2 (a ρ L) λds L1=>∃y:Str,ds=[.str y]/\Q (Eo (sgs y)) (λ_=>true) L1):WI (LP a ρ L) Q:=by obtain⟨x,L1,e1,y,rfl,q⟩:=h;exact⟨_,_,L1,by unfold LP;rw[e1,AQ],q⟩
end
def WS.inx{o:Option EC}{nx:Fm->AB->Prop}{rt:AMo}{bk ct:Fm->AB->Prop}{ρ':Fm}{L':AB}(e:o=some (.next ρ' L'))(q:nx ρ' L'):WS o nx rt bk ct:=⟨_,e,q⟩
def WS.irt{o:Option EC}{nx:Fm->AB->Prop}{rt:AMo}{bk ct:Fm->AB->Prop}{d:D}{L':AB}(e:o=some (.ret d L'))(q:rt d L'):WS o nx rt bk ct:=⟨_,e,q⟩
def WS.ibk{o:Option EC}{nx:Fm->AB->Prop}{rt:AMo}{bk ct:Fm->AB->Prop}{ρ':Fm}{L':AB}(e:o=some (.brk ρ' L'))(q:bk ρ' L'):WS o nx rt bk ct:=⟨_,e,q⟩
def WS.ict{o:Option EC}{nx:Fm->AB->Prop}{rt:AMo}{bk ct:Fm->AB->Prop}{ρ':Fm}{L':AB}(e:o=some (.cont ρ' L'))(q:ct ρ' L'):WS o nx rt bk ct:=⟨_,e,q⟩
section
variable {nx:Fm->AB->Prop}{rt:AMo}{bk ct:Fm->AB->Prop}{f g:SF}{t:TF}{e:EF}
def AHK(h:nx ρ L):WS (Ak ρ L) nx rt bk ct:=⟨_,rfl,h⟩
def Ks(h:WS (f ρ L) (λρ' L'=>WS (g ρ' L') nx rt bk ct) rt bk ct):WS (AH f g ρ L) nx rt bk ct:=by
 obtain⟨x,e1,q⟩:=h
 cases x with
 |next ρ' L'=>obtain⟨y,e2,q⟩:=q;exact⟨y,by unfold AH;rw[e1];exact e2,q⟩
 |ret d L'=>exact WS.irt (by unfold AH;rw[e1];rfl) q
 |brk d L'=>exact WS.ibk (by unfold AH;rw[e1];rfl) q
 |cont d L'=>exact WS.ict (by unfold AH;rw[e1];rfl) q
def NL{i:Nat}(h:W2 (e ρ L) λd L'=>nx (ρ.set i (some d)) L'):WS (AL i e ρ L) nx rt bk ct:=by obtain⟨x,L1,e1,q⟩:=h;exact WS.inx (by unfold AL;rw[e1];rfl) q
def AHH(h:W2 (e ρ L) rt):WS (AN e ρ L) nx rt bk ct:=by obtain⟨x,L1,e1,q⟩:=h;exact WS.irt (by unfold AN;rw[e1];rfl) q
def AHN(h:W2 (e ρ L) λ_ L'=>nx ρ L'):WS (DY e ρ L) nx rt bk ct:=by obtain⟨x,L1,e1,q⟩:=h;exact WS.inx (by unfold DY;rw[e1];rfl) q
def AHL(h:W2 (t ρ L) λb L'=>Br b (WS (f ρ L') nx rt bk ct) (WS (g ρ L') nx rt bk ct)):WS (Af t f g ρ L) nx rt bk ct:=by
 obtain⟨x,L1,e1,q⟩:=h;cases x
 .obtain⟨y,e2,q⟩:=q;exact⟨y,by unfold Af;rw[e1];exact e2,q⟩
 .obtain⟨y,e2,q⟩:=q;exact⟨y,by unfold Af;rw[e1];exact e2,q⟩
def AHM{fi:IF}{gf:GF}{body:SF}(h:WI (fi ρ L) λitems ok L1=>WS (DQ ok gf body items ρ L1) nx rt bk ct):WS (Bg fi gf body ρ L) nx rt bk ct:=by obtain⟨x,k,L1,e1,y,e2,q⟩:=h;exact⟨y,by unfold Bg;rw[e1,AQ];exact e2,q⟩
def RD{ok:AB->Bool}{gf:GF}{body:SF}(hk:ok L=true)(h:nx ρ L):WS (DQ ok gf body [] ρ L) nx rt bk ct:=WS.inx (by unfold DQ;rw[if_pos hk]) h
def HV{ok:AB->Bool}{gf:GF}{body:SF}{x:D}{xs:List D}(hk:ok L=true)(h:W1 (gf x ρ) λρ1=>WS (body ρ1 L) (λρ2 L2=>WS (DQ ok gf body xs ρ2 L2) nx rt bk ct) rt nx (λρ2 L2=>WS (DQ ok gf body xs ρ2 L2) nx rt bk ct)):WS (DQ ok gf body (x::xs) ρ L) nx rt bk ct:=by
 obtain⟨ρ1,e1,y,e2,q⟩:=h
 cases y with
 |next ρ2 L2=>obtain⟨z,e3,q⟩:=q;exact⟨z,by unfold DQ;rw[if_pos hk,e1,AQ,e2];exact e3,q⟩
 |cont ρ2 L2=>obtain⟨z,e3,q⟩:=q;exact⟨z,by unfold DQ;rw[if_pos hk,e1,AQ,e2];exact e3,q⟩
 |ret d L2=>exact WS.irt (by unfold DQ;rw[if_pos hk,e1,AQ,e2];rfl) q
 |brk ρ2 L2=>exact WS.inx (by unfold DQ;rw[if_pos hk,e1,AQ,e2];rfl) q
def Cu{ok:AB->Bool}{gf:GF}{body:SF}(I:Nat->Fm->AB->Prop):∀(items:List D) (j:Nat) (ρ:Fm) (L:AB),I j ρ L ->
  (∀i x ρ L,items[i]?=some x->I (j+i) ρ L->ok L=true/\W1 (gf x ρ) λρ1=>WS (body ρ1 L) (I (j+i+1)) rt nx (I (j+i+1))) ->
  (∀ρ L,I (j+items.length) ρ L->ok L=true/\nx ρ L)->WS (DQ ok gf body items ρ L) nx rt bk ct
 |[],j,ρ,L,h0,_,fin=>RD (fin ρ L h0).1 (fin ρ L h0).2
 |x::xs,j,ρ,L,h0,st,fin=>by
  obtain⟨hk,hw⟩:=st 0 x ρ L rfl h0
  have go:∀ρ2 L2,I (j+1) ρ2 L2->WS (DQ ok gf body xs ρ2 L2) nx rt bk ct:=λρ2 L2 h2=>Cu I xs (j+1) ρ2 L2 h2
   (λi y ρ L e h=>by
    have e':j+(i+1)=j+1+i:=by omega
    have:=st (i+1) y ρ L (by simpa using e) (by rw[e'];exact h);rw[e'] at this
    exact this)
   (λρ L h=>fin ρ L (by have e':j+(x::xs).length=j+1+xs.length:=by simp;omega
                        rw[e'];exact h))
  refine HV hk ?_;obtain⟨ρ1,e1,hb⟩:=hw;exact⟨ρ1,e1,hb.mono go (λ_ _ h=>h) (λ_ _ h=>h) go⟩
end
section
variable {Q:Fm->Prop}{gf:GF}{gs:EY}
def RF{i:Nat}{d:D}(h:Q (ρ.set i (some d))):W1 (Ab i d ρ) Q:=⟨_,rfl,h⟩
def AHd{n:Nat}{ds:List D}(e:ds.length=n)(h:W1 (gs ds ρ) Q):W1 (Fy n gs (.tup ds) ρ) Q:=by obtain⟨ρ',e1,q⟩:=h;exact⟨ρ',by unfold Fy;simp only;rw[if_pos e];exact e1,q⟩
def AHe(h:Q ρ):W1 (FZ [] ρ) Q:=⟨_,rfl,h⟩
def AHf{d:D}{ds:List D}(h:W1 (gf d ρ) λρ'=>W1 (gs ds ρ') Q):W1 (CK gf gs (d::ds) ρ) Q:=by obtain⟨ρ1,e1,ρ2,e2,q⟩:=h;exact⟨ρ2,by unfold CK;simp only;rw[e1];exact e2,q⟩
end
def AAd{ok:AB->Bool}{g:GF}{c:TF}{elt:EF}{k:Nat}{Q:AB->Prop}(hk:ok L=true)(h:Q L):W1 (Cr ok g c elt k [] ρ L) Q:=⟨_,by unfold Cr;rw[if_pos hk],h⟩
def AAf{ok:AB->Bool}{g:GF}{c:TF}{elt:EF}{k:Nat}{x:D}{xs:List D}{Q:AB->Prop}(hk:ok L=true)
  (h:W1 (g x ρ) λρ1=>W2 (c ρ1 L) λb L1=>Br b (W2 (elt ρ1 L1) λd L2=>∃ys,L2[k]?=some (.lst ys)/\ys.length<16777216/\W1 (Cr ok g c elt k xs ρ1 (L2.set k (.lst (ys++[d])))) Q) (W1 (Cr ok g c elt k xs ρ1 L1) Q)) :
  W1 (Cr ok g c elt k (x::xs) ρ L) Q:=by
 obtain⟨ρ1,e1,b,L1,e2,q⟩:=h;cases b
 .obtain⟨z,e3,q⟩:=q;exact⟨z,by unfold Cr;rw[if_pos hk,e1,AQ,e2,AQ];exact e3,q⟩
 .obtain⟨d,L2,e3,ys,e4,hz,z,e5,q⟩:=q;refine⟨z,?_,q⟩;unfold Cr;rw[if_pos hk,e1,AQ,e2,AQ];simp only[if_true];rw[e3,AQ];simp only;rw[e4];simp only;rw[if_pos hz];exact e5
def FS{ok:AB->Bool}{g:GF}{c:TF}{elt:EF}{k:Nat}{Q:AB->Prop}(I:Nat->Fm->AB->Prop):∀(items:List D) (j:Nat) (ρ:Fm) (L:AB),I j ρ L ->
  (∀i x ρ L,items[i]?=some x->I (j+i) ρ L->ok L=true/\W1 (g x ρ) λρ1=>W2 (c ρ1 L) λb L1=>Br b (W2 (elt ρ1 L1) λd L2=>∃ys,L2[k]?=some (.lst ys)/\ys.length<16777216/\I (j+i+1) ρ1 (L2.set k (.lst (ys++[d])))) (I (j+i+1) ρ1 L1)) ->
  (∀ρ L,I (j+items.length) ρ L->ok L=true/\Q L)->W1 (Cr ok g c elt k items ρ L) Q
 |[],j,ρ,L,h0,_,fin=>AAd (fin ρ L h0).1 (fin ρ L h0).2
 |x::xs,j,ρ,L,h0,st,fin=>by
  obtain⟨hk,ρ1,e1,b,L1,e2,q⟩:=st 0 x ρ L rfl h0
  have go:∀ρ2 L2,I (j+1) ρ2 L2->W1 (Cr ok g c elt k xs ρ2 L2) Q:=λρ2 L2 h2=>FS I xs (j+1) ρ2 L2 h2
   (λi y ρ L e h=>by
    have e':j+(i+1)=j+1+i:=by omega
    have:=st (i+1) y ρ L (by simpa using e) (by rw[e'];exact h);rw[e'] at this
    exact this)
   (λρ L h=>fin ρ L (by have e':j+(x::xs).length=j+1+xs.length:=by simp;omega
                        rw[e'];exact h))
  refine AAf hk ⟨ρ1,e1,b,L1,e2,?_⟩;cases b
  .exact go _ _ q
  .obtain⟨d,L2,e3,ys,e4,hz,q⟩:=q;exact⟨d,L2,e3,ys,e4,hz,go _ _ q⟩
def JO{g:GF}{c:TF}{elt:EF}{L0:AB}{Q:AB->Prop}(P:Fm->Prop)(f:D->Option D)(items:List D)(ρ:Fm)
  (hp:P ρ) (hz:items.length<=16777216)
  (h:∀x∈items,∀ρ,P ρ->W1 (g x ρ) λρ1=>P ρ1/\∀acc,W2 (c ρ1 (L0++[.lst acc])) λb L1=>L1=L0++[.lst acc]/\Br b (W2 (elt ρ1 (L0++[.lst acc])) λd L2=>L2=L0++[.lst acc]/\f x=some d) (f x=none))
  (q:Q (L0++[.lst (items.filterMap f)])):W1 (Cr (λ_=>true) g c elt L0.length items ρ (L0++[.lst []])) Q:=by
 refine FS (I:=λj ρ L=>P ρ/\L=L0++[.lst ((items.take j).filterMap f)]) items 0 ρ _ ⟨hp,by simp⟩ ?_ ?_
 .rintro i x ρ L e ⟨hp,rfl⟩;refine⟨rfl,?_⟩;have hi:i<items.length:=(BA.mp e).1;have hx:x∈items:=Bv e;obtain⟨ρ1,e1,hp1,h2⟩:=h x hx ρ hp;obtain⟨b,L1,e2,rfl,q⟩:=h2 ((items.take (0+i)).filterMap f);refine⟨ρ1,e1,b,_,e2,?_⟩
  have ht:items.take (0+i+1)=items.take (0+i)++[x]:=by rw[Bh,GV,e];rfl
  cases b
  .have q':f x=none:=q;refine⟨hp1,?_⟩;rw[ht,List.filterMap_append];simp[q']
  .obtain⟨d,L2,e3,rfl,q⟩:=q;refine⟨d,_,e3,(items.take (0+i)).filterMap f,by simp,?_,hp1,?_⟩
   .refine AK1 (List.length_filterMap_le _ _) ?_;simp;omega
   .rw[ht,List.filterMap_append];simp[q]
 .rintro ρ L ⟨_,rfl⟩;exact⟨rfl,by simpa using q⟩
section
variable {Q:AMo}{B:SF}{N:AMB}{n:Nat}{xs:List D}
def CG(hn:xs.length=n)(h:WS (B (CU N xs) L) (λ_ L2=>L <+: L2/\Q .non L) (λd L2=>d.noRef=true/\L <+: L2/\Q d L) (λ_ _=>False) (λ_ _=>False)):W2 (Aa B N n xs L) Q:=by
 obtain⟨x,e,q⟩:=h;have tk:∀L2:AB,L <+: L2->L2.take L.length=L:=λL2 hp=>by obtain⟨M,rfl⟩:=hp;simp
 cases x with
 |next ρ L2=>exact⟨_,_,by unfold Aa;rw[if_pos hn,e];simp only;rw[if_pos (tk _ q.1)],q.2⟩
 |ret d L2=>exact⟨_,_,by unfold Aa;rw[if_pos hn,e];simp only;rw[if_pos ⟨q.1,tk _ q.2.1⟩],q.2.2⟩
 |brk ρ L2=>exact q.elim
 |cont ρ L2=>exact q.elim
def EJ(hn:xs.length=n)(h:WS (B (CU N xs) L) (λ_ _=>False) (λd L2=>d.noRef=false/\Q d L2) (λ_ _=>False) (λ_ _=>False)):W2 (Aa B N n xs L) Q:=by
 obtain⟨x,e,q⟩:=h
 cases x with
 |next ρ L2=>exact q.elim
 |ret d L2=>exact⟨_,_,by unfold Aa;rw[if_pos hn,e];simp only;rw[if_neg (λh=>by rw[q.1] at h;cases h.1)],q.2⟩
 |brk ρ L2=>exact q.elim
 |cont ρ L2=>exact q.elim
end
section
variable {Q:AMo}{i j:Int}{x y:Str}
def AFK(h:Q (.int (i+j)) L):W2 (Bf (.int i) (.int j) L) Q:=⟨_,_,rfl,h⟩
def OO(hz:x.length+y.length<=16777216)(h:Q (.str (x++y)) L):W2 (Bf (.str x) (.str y) L) Q:=⟨_,_,by unfold Bf;simp only;rw[if_pos hz],h⟩
def Xn{a b:Nat}{xs ys:List D}(e1:L[a]?=some (.lst xs))(e2:L[b]?=some (.lst ys))(hz:xs.length+ys.length<=16777216)(h:Q (.ref L.length) (L++[.lst (xs++ys)])):W2 (Bf (.ref a) (.ref b) L) Q:=⟨_,_,by unfold Bf;simp only;rw[e1,e2];simp only;rw[if_pos hz],h⟩
def AJB(h:Q (.int (i-j)) L):W2 (Gh (.int i) (.int j) L) Q:=⟨_,_,rfl,h⟩
def Ek(hc:cMul i j=true)(h:Q (.int (i*j)) L):W2 (DR (.int i) (.int j) L) Q:=⟨_,_,by unfold DR;simp only;rw[if_pos hc],h⟩
def AFG(hc:JZ x j=true)(h:Q (.str (Txt.mul x j)) L):W2 (DR (.str x) (.int j) L) Q:=⟨_,_,by unfold DR;simp only;rw[if_pos hc],h⟩
def AJb(hc:Od i j=true)(h:Q (.int (i / j)) L):W2 (BQ (.int i) (.int j) L) Q:=⟨_,_,by unfold BQ gI;simp only;rw[if_pos hc],h⟩
def Xj(hc:Oa i j=true)(h:Q (.int (i % j)) L):W2 (BJ (.int i) (.int j) L) Q:=⟨_,_,by unfold BJ gI;simp only;rw[if_pos hc],h⟩
def SQ(hc:Se i j=true)(h:Q (.int (i ^ j.toNat)) L):W2 (Fz (.int i) (.int j) L) Q:=⟨_,_,by unfold Fz gI;simp only;rw[if_pos hc],h⟩
def AJI(h:Q (.int (-i)) L):W2 (Hq (.int i) L) Q:=⟨_,_,rfl,h⟩
def AJM(h:Q (.bl (decide (i<j))) L):W2 (gLt (.int i) (.int j) L) Q:=⟨_,_,rfl,h⟩
def AJY(h:Q (.bl (decide (j<i))) L):W2 (GA (.int i) (.int j) L) Q:=⟨_,_,rfl,h⟩
def AJZ(h:Q (.bl (decide (j<=i))) L):W2 (OQ (.int i) (.int j) L) Q:=⟨_,_,rfl,h⟩
def Ip{p q:Prop}[Decidable p][Decidable q](h:p↔q):decide p=decide q:=by
 by_cases a:p
 .rw[decide_eq_true a,decide_eq_true (h.mp a)]
 .rw[decide_eq_false a,decide_eq_false (λb=>a (h.mpr b))]
def SY{a b:D}(hs:HA a b=true)(h:Q (.bl (decide (a=b))) L):W2 (BK a b L) Q:=⟨_,_,by unfold BK;rw[if_pos hs],h⟩
def Xo{a b:D}(hs:HA a b=true)(h:Q (.bl (!decide (a=b))) L):W2 (HJ a b L) Q:=⟨_,_,by unfold HJ;rw[if_pos hs],h⟩
def AJe(h:Q (.bl (decide (i=j))) L):W2 (BK (.int i) (.int j) L) Q:=SY rfl (by rw[Ip (show D.int i=D.int j↔i=j by simp)];exact h)
def AJc(h:Q (.bl (decide (x=y))) L):W2 (BK (.str x) (.str y) L) Q:=SY rfl (by rw[Ip (show D.str x=D.str y↔x=y by simp)];exact h)
def AJK(h:Q (.bl (!decide (i=j))) L):W2 (HJ (.int i) (.int j) L) Q:=Xo rfl (by rw[Ip (show D.int i=D.int j↔i=j by simp)];exact h)
def AJJ(h:Q (.bl (!decide (x=y))) L):W2 (HJ (.str x) (.str y) L) Q:=Xo rfl (by rw[Ip (show D.str x=D.str y↔x=y by simp)];exact h)
def AJd(h:Q (.bl false) L):W2 (BK .non (.str y) L) Q:=SY rfl (by rw[decide_eq_false (by intro z;cases z)];exact h)
def AJT{a:D}(h:Q (.bl (Hm a)) L):W2 (LW a .non L) Q:=⟨_,_,rfl,h⟩
def AJS{a:D}(h:Q (.bl (!Hm a)) L):W2 (Jl a .non L) Q:=⟨_,_,rfl,h⟩
def AJX(h:Q (.bl (Gf x y)) L):W2 (DS false (.str x) (.str y) L) Q:=⟨_,_,rfl,h⟩
def SW{neg:Bool}{d e:D}{ys:List D}(h0:∀i j,d=.str i->e=.str j->False)(e1:Cd e L=some ys)(hf:(BH d&&ys.all BH)=true)(h:Q (.bl (if neg then !DE d ys else DE d ys)) L):W2 (DS neg d e L) Q:=by
 refine⟨_,_,?_,h⟩;unfold DS;split
 .exact(h0 _ _ rfl rfl).elim
 .rw[e1];simp only;rw[if_pos hf]
def AFE{d:D}{ys:List D}(hf:(BH d&&ys.all BH)=true)(h:Q (.bl (!DE d ys)) L):W2 (DS true d (.tup ys) L) Q:=SW (λ_ _ _ z=>by cases z) rfl hf h
def Xm{d:D}{k:Nat}{ys:List D}(e:L[k]?=some (.lst ys))(hf:(BH d&&ys.all BH)=true)(h:Q (.bl (DE d ys)) L):W2 (DS false d (.ref k) L) Q:=SW (λ_ _ _ z=>by cases z) (by simp[Cd,e]) hf h
def SR{d:D}{k:Nat}{ys:List D}(e:L[k]?=some (.lst ys))(hf:(BH d&&ys.all BH)=true)(h:Q (.bl (!DE d ys)) L):W2 (DS true d (.ref k) L) Q:=SW (λ_ _ _ z=>by cases z) (by simp[Cd,e]) hf h
def SS{c:Nat}(e:atI x.cps.toList i=some c)(h:Q (.str ⟨#[c]⟩) L):W2 (AZ (.str x) (.int i) L) Q:=⟨_,_,by unfold AZ;simp only;rw[e],h⟩
def AJR{xs:List D}{d:D}(e:atI xs i=some d)(h:Q d L):W2 (AZ (.tup xs) (.int i) L) Q:=⟨_,_,by unfold AZ;simp only[Cd];rw[e],h⟩
def Xk{xs:List D}{d:D}(e:atI xs i=some d)(h:Q d L):W2 (AZ (.fz xs) (.int i) L) Q:=⟨_,_,by unfold AZ;simp only[Cd];rw[e],h⟩
def EQ{k:Nat}{xs:List D}{d:D}(e1:L[k]?=some (.lst xs))(e:atI xs i=some d)(h:Q d L):W2 (AZ (.ref k) (.int i) L) Q:=⟨_,_,by unfold AZ;simp only[Cd,e1];rw[e],h⟩
def AJD{lo hi:Option Int}(h:Q (.str (Txt.slice x lo hi)) L):W2 (Jj (.str x) lo hi L) Q:=⟨_,_,rfl,h⟩
def AJE{lo hi:Option Int}{k:Nat}{xs:List D}(e:L[k]?=some (.lst xs))(h:Q (.ref L.length) (L++[.lst (cutD xs lo hi)])):W2 (Jj (.ref k) lo hi L) Q:=⟨_,_,by unfold Jj;simp only[e],h⟩
def AJO(h:Q (.int (x.length:Int)) L):W2 (Bt [.str x] L) Q:=⟨_,_,rfl,h⟩
def AJQ{xs:List D}(h:Q (.int (xs.length:Int)) L):W2 (Bt [.fz xs] L) Q:=⟨_,_,rfl,h⟩
def AJP{k:Nat}{xs:List D}(e:L[k]?=some (.lst xs))(h:Q (.int (xs.length:Int)) L):W2 (Bt [.ref k] L) Q:=⟨_,_,by simp only[Bt,Cd,e],h⟩
def AJf(h:Q (.int (if i<0 then -i else i)) L):W2 (LZ [.int i] L) Q:=⟨_,_,rfl,h⟩
def AJL(h:Q (.int (if j<i then j else i)) L):W2 (LS [.int i,.int j] L) Q:=⟨_,_,rfl,h⟩
def AJU{b:Bool}(h:Q (.int (if b then 1 else 0)) L):W2 (Jm [.bl b] L) Q:=⟨_,_,rfl,h⟩
def AJA{k:Nat}{xs:List D}(e:L[k]?=some (.lst xs))(h:Q (.tup xs) L):W2 (FY [.ref k] L) Q:=⟨_,_,by simp only[FY,Cd,e],h⟩
def Xl{d:D}{t T:String}{b:Bool}(hT:["int","str","bool","list","tuple","dict"].contains T=true)(e:JS d L=some t)(eb:Jh t T=b)(h:Q (.bl b) L):W2 (Hr [d,.ty T] L) Q:=⟨_,_,by simp only[Hr];rw[if_pos hT,e,<-eb];rfl,h⟩
def AFJ{k:Nat}{ds:List D}{bs:List Bool}(e:L[k]?=some (.lst ds))(e2:blsD ds=some bs)(h:Q (.bl (bs.all id)) L):W2 (LY [.ref k] L) Q:=⟨_,_,by simp only[LY,e,e2],h⟩
def AFH{k:Nat}{ds:List D}{ys:AMB}(e:L[k]?=some (.lst ds))(e2:CH ds=some ys)(hz:(ys.map (·.length)).sum+ys.length*x.length<=16777216)(h:Q (.str (Txt.join x ys)) L):W2 (LV (.str x) [.ref k] L) Q:=⟨_,_,by simp only[LV,Cd,e,e2];rw[if_pos hz],h⟩
def HG{k:Nat}{ds:List D}{d:D}(e:L[k]?=some (.lst ds))(hz:ds.length<16777216)(h:Q .non (L.set k (.lst (ds++[d])))):W2 (FF (.ref k) [d] L) Q:=⟨_,_,by simp only[FF,e];rw[if_pos hz],h⟩
def AJF{f:Str->Bool}(h:Q (.bl (f x)) L):W2 (HI f (.str x) [] L) Q:=⟨_,_,rfl,h⟩
def OM{f:Str->Str}(hz:(f x).length<=16777216)(h:Q (.str (f x)) L):W2 (gS0s f (.str x) [] L) Q:=⟨_,_,by simp only[gS0s];rw[if_pos hz],h⟩
end
end
def AEU{n:Nat}{p:Prop}(h:Nat.ble n 16777216=true)(hp:p):TC n p:=⟨Nat.le_of_ble_eq_true h,hp⟩
def AR{α:Type}{L:List α}{a:α}:(L++[a])[L.length]?=some a:=by simp
def AU{α:Type}{L M:List α}{k:Nat}{a:α}(h:L[k]?=some a):(L++M)[k]?=some a:=by rw[Dx (BA.mp h).1];exact h
def CB{α:Type}{L:List α}{k:Nat}{a b:α}(h:L[k]?=some b):(L.set k a)[k]?=some a:=by rw[AKY (BA.mp h).1]
def FE{α:Type}{L:List α}{k j:Nat}{a b:α}(n:j≠k)(h:L[k]?=some b):(L.set j a)[k]?=some b:=by rw[DA n];exact h
def Nk{α:Type}{L L2:List α}{k:Nat}{a:α}(h:L <+: L2)(hk:L.length<=k):L <+: L2.set k a:=by obtain⟨M,rfl⟩:=h;rw[List.set_append,if_neg (by omega)];exact Aj _ _
section
variable {Q:AMo}{L:AB}
def AJH(h:Q (.int 10000000000000000000000000000000000000000) L):W2 (Fz (.int 10) (.int 40) L) Q:=SQ (by decide) (by have e:(10:Int) ^ (40:Int).toNat=10000000000000000000000000000000000000000:=(by decide);(rw[e];exact h))
def AJG(h:Q (.int 1000000) L):W2 (Fz (.int 10) (.int 6) L) Q:=SQ (by decide) (by have e:(10:Int) ^ (6:Int).toNat=1000000:=(by decide);(rw[e];exact h))
end
section
variable {p q:Prop}
def AKP(h:p):Br (Hm .non) p q:=h
def AKQ{i:Int}(h:q):Br (Hm (.int i)) p q:=h
def AKO{i:Nat}(h:q):Br (Hm (.ref i)) p q:=h
end
def AJV{Q:AMo}{L:AB}{d:D}{t T:String}(hT:["int","str","bool","list","tuple","dict"].contains T=true)(e:JS d L=some t)(eb:Jh t T=true)(h:Q (.bl true) L):W2 (Hr [d,.ty T] L) Q:=Xl hT e eb h
def AJW{Q:AMo}{L:AB}{d:D}{t T:String}(hT:["int","str","bool","list","tuple","dict"].contains T=true)(e:JS d L=some t)(eb:Jh t T=false)(h:Q (.bl false) L):W2 (Hr [d,.ty T] L) Q:=Xl hT e eb h
def AAh{Q:AMo}{B:SF}{N:AMB}{n:Nat}{xs:List D}{L:AB}(hn:xs.length=n)(h:WS (B (CU N xs) L) (λ_ _=>False) (λd L2=>L <+: L2/\(d.noRef=true->Q d L)/\(d.noRef=false->Q d L2)) (λ_ _=>False) (λ_ _=>False)):W2 (Aa B N n xs L) Q:=by
 obtain⟨x,e,q⟩:=h;have tk:∀L2:AB,L <+: L2->L2.take L.length=L:=λL2 hp=>by obtain⟨M,rfl⟩:=hp;simp
 cases x with
 |next ρ L2=>exact q.elim
 |ret d L2 =>
  cases hd:d.noRef with
  |true=>exact⟨_,_,by unfold Aa;rw[if_pos hn,e];simp only;rw[if_pos ⟨hd,tk _ q.1⟩],q.2.1 hd⟩
  |false=>exact⟨_,_,by unfold Aa;rw[if_pos hn,e];simp only;rw[if_neg (λh=>by rw[hd] at h;cases h.1)],q.2.2 hd⟩
 |brk ρ L2=>exact q.elim
 |cont ρ L2=>exact q.elim
def AIM{j0:Int}{Q:Int->Prop}(hb:j0<=4611686018427387903/\-4611686018427387904<=j0)(h:Q j0):∃j:Int,[D.int j0]=[.int j]/\(j<=4611686018427387903/\-4611686018427387904<=j)/\Q j:=⟨j0,rfl,hb,h⟩
def AIL{i0 j0:Int}{Q:Int->Int->Prop}(hb:(i0<=4611686018427387903/\-4611686018427387904<=i0)/\(j0<=4611686018427387903/\-4611686018427387904<=j0))(h:Q i0 j0) :
  ∃i j:Int,[D.int i0,.int j0]=[.int i,.int j]/\((i<=4611686018427387903/\-4611686018427387904<=i)/\(j<=4611686018427387903/\-4611686018427387904<=j))/\Q i j:=⟨i0,j0,rfl,hb,h⟩
def AJg{y0:Str}{Q:Str->Prop}(h:Q y0):∃y:Str,[D.str y0]=[.str y]/\Q y:=⟨y0,rfl,h⟩
abbrev sg(y:Str)(i:Nat):Str:=⟨#[y.cps.getD i 0]⟩
def AFo(y:Str):Eo (sgs y)=(List.range y.cps.size).map λ(i:Nat)=>D.tup [.int (i:Int),.str (sg y i)]:=by
 apply ALJ;intro i;rw[YG,Av]
 by_cases h:i<y.cps.size
 .rw[AK0 h];simp[sg,h,Array.getD]
 .have h1:y.cps[i]?=none:=by simp;omega
  have h2:(List.range y.cps.size)[i]?=none:=by simp;omega
  rw[h1,h2];rfl
def Lc{α β:Type}{f g:α->Option β}:∀{l:List α},(∀x∈l,f x=g x)->l.filterMap f=l.filterMap g
 |[],_=>rfl
 |x::xs,h=>by
  have ih:=Lc λy hy=>h y (Az x hy);rw[AK5,AK5,h x BC,ih]
def Yo{α β:Type}(f:α->β)(xs:List α)(i:Int):atI (xs.map f) i=(atI xs i).map f:=by
 unfold atI;rw[Ag]
 cases ixN xs.length i with
 |none=>rfl
 |some j=>simp
def Ym{α:Type}{xs:List α}{i:Int}(h:-(xs.length:Int)<=i/\i<xs.length):∃v,atI xs i=some v:=by
 unfold atI ixN
 by_cases h0:0<=i
 .rw[if_pos h0,if_pos h.2];have:i.toNat<xs.length:=by omega
  exact⟨xs[i.toNat],by simp[this]⟩
 .rw[if_neg h0,if_pos h.1];have:(i+xs.length).toNat<xs.length:=by omega
  exact⟨xs[(i+xs.length).toNat],by simp[this]⟩
def Yn{α:Type}{xs:List α}{i:Int}{v:α}(h:atI xs i=some v):v∈xs:=by obtain⟨j,_,hj,_⟩:=Og h;exact Bv hj
def Of{α:Type}{xs:List α}{n:Int}(c:Int)(h0:0<n)(h:n<=xs.length):∃v∈xs,atI xs (c % n)=some v:=by have h1:=GW c (b:=n) (by omega);have h2:=GY c h0;obtain⟨v,hv⟩:=Ym (xs:=xs) (i:=c % n) ⟨by omega,by omega⟩;exact⟨v,Yn hv,hv⟩
def AB7(n:Nat):EM 0 n=(List.range n).map λ(i:Nat)=>D.int (i:Int):=by simp[EM]
def AB8{lo:Int}{n:Nat}{d:D}(h:d∈EM lo n):∃i:Nat,i<n/\d=.int (lo+(i:Int)):=by unfold EM at h;rw[Aw] at h;obtain⟨i,hi,rfl⟩:=h;exact⟨i,CN.mp hi,rfl⟩
def Ky{lo:Int}{n i:Nat}{d:D}(h:(EM lo n)[i]?=some d):i<n/\d=.int (lo+(i:Int)):=by
 rw[Vg] at h;split at h
 .rename_i hi;cases h;exact⟨hi,rfl⟩
 .cases h
open Builtin.Int in
def Nv{a b:Int}{m n:Nat}(ha:intBits a<=m)(hb:intBits b<=n)(h:m+n<=134217728):cMul a b=true:=decide_eq_true (PySem.IntMulOk.of_le ha hb h)
def Yg{a:Int}{n:Nat}(h:a.natAbs<2 ^ n):Builtin.Int.intBits a<=n:=PySem.intBits_le_iff.mpr h
def LH{a b:Int}(h:-18446744073709551616<a/\a<18446744073709551616):cMul a b=true:=decide_eq_true (.of_left (intBits_le_64 (by omega) (by omega)))
def Ro{a b:Int}(h:-18446744073709551616<b/\b<18446744073709551616):cMul a b=true:=decide_eq_true (.of_right (intBits_le_64 (by omega) (by omega)))
def Yp{ns:AMH}{k:Int}(h0:0<=k)(h1:k<ns.length):∃z∈ns,atI (ns.map D.int) k=some (.int z):=by
 have hk:k.toNat<ns.length:=by omega
 refine⟨ns[k.toNat],ALZ _,?_⟩;have e:((k.toNat:Nat):Int)=k:=by omega
 have q:=Gm (xs:=ns.map D.int) (j:=k.toNat) (v:=.int ns[k.toNat]) (by simp[hk]);rw[e] at q;exact q
abbrev Jw:AMG:=[97,98,99,100,101,102,103,104,105,106,107,108,109,110,111,112,113,114,115,116,117,118,119,120,121,122,65,66,67,68,69,70,71,72,73,74,75,76,77,78,79,80,81,82,83,84,85,86,87,88,89,90,48,49,50,51,52,53,54,55,56,57,32,45,46,44,47]
abbrev Sl:Str:="abcdefghijklmnopqrstuvwxyzABCDEFGHIJKLMNOPQRSTUVWXYZ0123456789 -.,/"
abbrev Ar(y:Str):Prop:=∀c∈y.cps.toList,c∈Jw
noncomputable instance (y:Str):Decidable (Ar y):=by unfold Ar;infer_instance
def Ar.at{y:Str}(h:Ar y){i:Nat}(hi:i<y.cps.size):y.cps.getD i 0∈Jw:=by
 have:y.cps.getD i 0=y.cps[i]:=by simp[Array.getD,hi]
 rw[this];exact h _ (by simp)
def Ar.one{c:Nat}(h:c∈Jw):Ar ⟨#[c]⟩:=λz hz=>by
 have:z=c:=by simpa using hz
 rw[this];exact h
def AGo(x y:Str):(x++y).cps.toList=x.cps.toList++y.cps.toList:=by show(x.cps++y.cps).toList=_;simp
def AGp(x y:Str):(x++y).cps.size=x.cps.size+y.cps.size:=by show(x.cps++y.cps).size=_;simp
def Oh(x y:Str):(x++y).length=x.length+y.length:=AGp x y
def Ar.app{x y:Str}(hx:Ar x)(hy:Ar y):Ar (x++y):=λc hc=>by
 rw[AGo,CF] at hc;rcases hc with h|h
 .exact hx c h
 .exact hy c h
def ABg{x:Str}{l u:Option Int}{c:Nat}(h:c∈(Txt.slice x l u).cps.toList):c∈x.cps.toList:=by
 unfold Txt.slice at h;split at h
 .exact h
 .simp only[ALK] at h;obtain⟨j,_,hj⟩:=h;have:=ALq.mp hj;obtain⟨h1,rfl⟩:=this;simp
def Ar.slice{x:Str}(h:Ar x)(l u:Option Int):Ar (Txt.slice x l u):=λc hc=>h c (ABg hc)
def Ar.join:∀{ys:AMB},(∀y∈ys,Ar y)->Ar (Txt.join "" ys):=λ{ys} h=>by
 show Ar (Builtin.Str.glued "" ys);rw[StrLaws.glued_eq_join]
 induction ys with
 |nil=>exact(by decide)
 |cons x r ih =>
  cases r with
  |nil=>exact h x BC
  |cons y r =>
   show Ar (x++("":Str)++Str.join "" (y::r));exact((h x BC).app (by decide)).app (ih λz hz=>h z (Az _ hz))
def Wc{c:Nat}:∀(l:List (Array Nat)) (a:Array Nat),c∈(l.foldl (·++·) a).toList->c∈a.toList\/∃b∈l,c∈b.toList
 |[],a,h=>.inl h
 |b::r,a,h=>by
  rw[ALB] at h;rcases Wc r _ h with h|⟨b',h1,h2⟩
  .rw[Array.toList_append,CF] at h;rcases h with h|h
   .exact .inl h
   .exact .inr ⟨b,BC,h⟩
  .exact .inr ⟨b',Az _ h1,h2⟩
def ADw{x:Str}{n:Int}{c:Nat}(h:c∈(Txt.mul x n).cps.toList):c∈x.cps.toList:=by
 unfold Txt.mul at h;split at h
 .simp[Str.empty] at h
 .split at h
  .exact h
  .rcases Wc _ _ h with h|⟨b,h1,h2⟩
   .simp at h
   .rw[List.eq_of_mem_replicate h1] at h2;exact h2
def Ar.mul{x:Str}(h:Ar x)(n:Int):Ar (Txt.mul x n):=λc hc=>h c (ADw hc)
def VF:∀{ds:List D},(∀d∈ds,∃s:Str,d=.str s)->∃ys,CH ds=some ys/\ds=ys.map D.str
 |[],_=>⟨[],rfl,rfl⟩
 |d::ds,h=>by
  obtain⟨s,rfl⟩:=h d BC;obtain⟨ys,e,e2⟩:=VF λz hz=>h z (Az _ hz);exact⟨s::ys,by simp[CH,e],by simp[<-e2]⟩
def ABW{ys:AMB}{n:Nat}(h:∀y∈ys,y.length<=n):(ys.map (·.length)).sum<=ys.length*n:=by
 induction ys with
 |nil=>simp
 |cons y r ih =>
  have h1:=h y BC;have h2:=ih λz hz=>h z (Az _ hz);simp only[Ah,EI,Dd,AKi];omega
section
variable {Q:AMo}{L:AB}
abbrev Ca(k:Nat)(L L':AB):Prop:=L.length<=L'.length/\∀j,j≠k->j<L.length->L'[j]?=L[j]?
def Ca.refl(k:Nat)(L:AB):Ca k L L:=⟨Ac _,λ_ _ _=>rfl⟩
def Ca.trans{k:Nat}{L L1 L2:AB}(a:Ca k L L1)(b:Ca k L1 L2):Ca k L L2:=⟨Bu a.1 b.1,λj h1 h2=>by rw[b.2 j h1 (by have:=a.1;omega),a.2 j h1 h2]⟩
def Ca.app(k:Nat)(L M:AB):Ca k L (L++M):=⟨by simp,λj _ h=>by rw[Dx h]⟩
def Ca.set(k:Nat)(L:AB)(o:Ob):Ca k L (L.set k o):=⟨by simp,λj h _=>by rw[DA (Ne.symm h)]⟩
def Ca.get{k j:Nat}{L L':AB}{o:Ob}(h:Ca k L L')(n:j≠k)(e:L[j]?=some o):L'[j]?=some o:=by rw[h.2 j n (BA.mp e).1];exact e
def RE{nx:Fm->AB->Prop}{rt:AMo}{bk ct:Fm->AB->Prop}{ok:AB->Bool}{gf:GF}{body:SF}(P:Fm->Prop)(k m B:Nat)(f:D->List D){items:List D}{ρ:Fm}{acc:List D}
  (hk:L[k]?=some (.lst acc)) (hp:P ρ) (hm:∀x∈items,(f x).length<=m) (hB:acc.length+items.length*m<=B)
  (turn:∀x∈items,∀ρ L' acc',P ρ->Ca k L L'->L'[k]?=some (.lst acc')->acc'.length<=B->ok L'=true/\W1 (gf x ρ) λρ1=>WS (body ρ1 L') (λρ2 L2=>P ρ2/\Ca k L' L2/\L2[k]?=some (.lst (acc'++f x))) rt (λ_ _=>False) (λρ2 L2=>P ρ2/\Ca k L' L2/\L2[k]?=some (.lst (acc'++f x))))
  (fin:∀ρ L',P ρ->Ca k L L'->L'[k]?=some (.lst (acc++items.flatMap f))->ok L'=true/\nx ρ L'):WS (DQ ok gf body items ρ L) nx rt bk ct:=by
 refine Cu (λj ρ L'=>P ρ/\Ca k L L'/\L'[k]?=some (.lst (acc++(items.take j).flatMap f))) items 0 ρ L ⟨hp,.refl k L,by simpa using hk⟩ ?_ ?_
 .rintro i x ρ L' hx ⟨hp,hkp,hl⟩;have hi:i<items.length:=(BA.mp hx).1;have hxm:=Bv hx;have ht:items.take (0+i+1)=items.take (0+i)++[x]:=by rw[Bh,GV,hx];rfl
  have hlen:(acc++(items.take (0+i)).flatMap f).length<=B:=by
   have h1:∀(l:List D),(∀x∈l,(f x).length<=m)->(l.flatMap f).length<=l.length*m:=λl=>by
    induction l with
    |nil=>intro _;simp
    |cons y r ih =>
     intro h;have:=ih λz hz=>h z (Az _ hz);have:=h y BC;simp only[ALF,Bc,Dd,AKi];omega
   have h2:=h1 (items.take (0+i)) λx hx=>hm x (ALG hx);have h3:(items.take (0+i)).length*m<=items.length*m:=AKr _ (by simp;omega);rw[Bc];omega
  obtain⟨h1,ρ1,e1,h2⟩:=turn x hxm ρ L' _ hp hkp hl hlen;refine⟨h1,ρ1,e1,?_⟩;have go:∀ρ2 L2,(P ρ2/\Ca k L' L2/\L2[k]?=some (.lst ((acc++(items.take (0+i)).flatMap f)++f x)))->P ρ2/\Ca k L L2/\L2[k]?=some (.lst (acc++(items.take (0+i+1)).flatMap f)):=λρ2 L2 z2_=>by obtain⟨a,b,c⟩:=z2_;exact⟨a,hkp.trans b,by rw[c,ht];simp⟩
  exact h2.mono go (λ_ _ h=>h) (λ_ _ h=>h.elim) go
 .rintro ρ L' ⟨hp,hkp,hl⟩;exact fin ρ L' hp hkp (by simpa using hl)
end
section
variable {ρ:Fm}{L:AB}{Q:AMo}{nx:Fm->AB->Prop}{rt:AMo}{bk ct:Fm->AB->Prop}
abbrev Ss(d:D)(L:AB)(n:Nat)(gs:EY)(ρ:Fm)(P:Fm->Prop):Prop:=∃ds,Cd d L=some ds/\ds.length=n/\W1 (gs ds ρ) P
def AHR{e:EF}{n:Nat}{gs:EY}(h:W2 (e ρ L) λd L'=>Ss d L' n gs ρ λρ'=>nx ρ' L'):WS (Iu e n gs ρ L) nx rt bk ct:=by obtain⟨d,L1,e1,ds,e2,e3,ρ',e4,q⟩:=h;exact WS.inx (by unfold Iu;rw[e1,AQ];simp only;rw[e2,AQ,if_pos e3,e4];rfl) q
def AH3{ds:List D}{n:Nat}{gs:EY}{P:Fm->Prop}(e:ds.length=n)(h:W1 (gs ds ρ) P):Ss (.tup ds) L n gs ρ P:=⟨ds,rfl,e,h⟩
def AH4{k:Nat}{ds:List D}{n:Nat}{gs:EY}{P:Fm->Prop}(e1:L[k]?=some (.lst ds))(e:ds.length=n)(h:W1 (gs ds ρ) P):Ss (.ref k) L n gs ρ P:=⟨ds,by simp[Cd,e1],e,h⟩
def BD{f g:SF}(P:Fm->AB->Prop)(h1:WS (f ρ L) P rt bk ct)(h2:∀ρ' L',P ρ' L'->WS (g ρ' L') nx rt bk ct):WS (AH f g ρ L) nx rt bk ct:=Ks (h1.mono h2 (λ_ _ h=>h) (λ_ _ h=>h) (λ_ _ h=>h))
def AHJ{fo fi fv:EF}(h:W2 (fv ρ L) λv L1=>W2 (fo ρ L1) λo L2=>W2 (fi ρ L2) λi L3=>W1 (Jk o i v L3) λL4=>nx ρ L4):WS (CO fo fi fv ρ L) nx rt bk ct:=by obtain⟨v,L1,e1,o,L2,e2,i,L3,e3,L4,e4,q⟩:=h;exact WS.inx (by unfold CO;rw[e1,AQ,e2,AQ,e3,AQ,e4];rfl) q
def Xi{k n:Nat}{j:Int}{v:D}{xs:List D}{P:AB->Prop}(e:L[k]?=some (.lst xs))(hn:ixN xs.length j=some n)(h:P (L.set k (.lst (xs.set n v)))):W1 (Jk (.ref k) (.int j) v L) P:=⟨_,by simp only[Jk,e,hn],h⟩
end
section
variable {Q:AMo}{ρ:Fm}{L:AB}{nx:Fm->AB->Prop}{rt:AMo}{bk ct:Fm->AB->Prop}{fo fv fe:EF}{af:AF}{cs:AMB}{f c m:Str}
def AJa{k:Nat}{fs:List (Str×D)}{d:D}(e:L[k]?=some (.ins c fs))(hc:cs.contains c=true)(hl:fs.lookup f=some d)(h:Q d L):W2 (BE cs f (.ref k) L) Q :=
 ⟨d,L,by simp only[BE,e];rw[if_pos (by simpa using hc),hl];rfl,h⟩
def AHI(h:W2 (fv ρ L) λv L1=>W2 (fo ρ L1) λx L2=>W1 (LA cs f x v L2) λL3=>nx ρ L3):WS (Dr cs f fo fv ρ L) nx rt bk ct:=by obtain⟨v,L1,e1,x,L2,e2,L3,e3,q⟩:=h;exact WS.inx (by unfold Dr;rw[e1];simp only[AQ];rw[e2];simp only[AQ];rw[e3];rfl) q
def Xg{k:Nat}{fs:List (Str×D)}{v:D}{P:AB->Prop}(e:L[k]?=some (.ins c fs))(hc:cs.contains c=true)(hl:Nat.blt fs.length 1000=true)(h:P (L.set k (.ins c (DP f v fs)))):W1 (LA cs f (.ref k) v L) P:=by
 have h1:fs.length<=999:=by simpa[Nat.blt] using hl
 exact⟨_,by simp only[LA,e];rw[if_pos ⟨by simpa using hc,by omega⟩],h⟩
def AHu{G:GL}(h:W2 (af ρ L) λys L1=>W2 (G (.ref L1.length::ys) (L1++[.ins c []])) λz L2=>z=.non/\Q (.ref L1.length) L2):W2 (Fu c G af ρ L) Q:=by obtain⟨ys,L1,e1,z,L2,e2,rfl,q⟩:=h;exact⟨_,L2,by unfold Fu;rw[e1];simp only[AQ];rw[e2];rfl,q⟩
abbrev ZQ(cs:AMB)(f:Str)(g:Int->Int->Int)(fv:EF)(ρ:Fm)(nx:Fm->AB->Prop)(x:D)(L:AB):Prop:=∃k c fs i,x=.ref k/\L[k]?=some (.ins c fs)/\c∈cs/\fs.lookup f=some (.int i) /\
 W2 (fv ρ L) λy L2=>∃j fs',y=.int j/\L2[k]?=some (.ins c fs')/\fs'.length<1000/\nx ρ (L2.set k (.ins c (DP f (.int (g i j)) fs')))
def AHP{g:Int->Int->Int}(h:W2 (fo ρ L) λx L1=>ZQ cs f g fv ρ nx x L1):WS (Lk cs f g fo fv ρ L) nx rt bk ct:=by obtain⟨x,L1,e1,k,c,fs,i,rfl,e2,hc,e3,y,L2,e4,j,fs',rfl,e5,hl,q⟩:=h;exact WS.inx (by unfold Lk;rw[e1];simp only[AQ];rw[e2];simp only;rw[if_pos hc,e3];simp only;rw[e4];simp only[AQ];rw[e5];dsimp only;rw[if_pos ⟨rfl,hl⟩]) q
def AHQ{i:Nat}{g:Int->Int->Int}{a:Int}(e:ρ[i]?=some (some (.int a)))(h:W2 (fe ρ L) λy L1=>TD y λb=>nx (ρ.set i (some (.int (g a b)))) L1):WS (augN i g fe ρ L) nx rt bk ct:=by obtain⟨y,L1,e1,b,rfl,q⟩:=h;exact WS.inx (by unfold augN;rw[e];simp only;rw[e1];rfl) q
def Xf{k:Nat}{ds:List D}{ns:AMH}(e:L[k]?=some (.lst ds))(e2:Du ds=some ns)(h:Q (.int ns.sum) L):W2 (LQ [.ref k] L) Q:=⟨_,_,by unfold LQ;rw[Wk e];simp only[AQ];rw[e2];rfl,h⟩
def AFI{k:Nat}{ds:List D}{bs:List Bool}(e:L[k]?=some (.lst ds))(e2:blsD ds=some bs)(h:Q (.bl (bs.any id)) L):W2 (LX [.ref k] L) Q:=⟨_,_,by unfold LX;rw[Wk e];simp only[AQ];rw[e2];rfl,h⟩
def JQ{B:SF}{N:AMB}{n:Nat}{xs:List D}(hn:xs.length=n)(h:WS (B (CU N xs) L) (λ_ L2=>(L <+: L2->Q .non L)/\Q .non L2) (λd L2=>(L <+: L2->d.noRef=true->Q d L)/\Q d L2) (λ_ _=>False) (λ_ _=>False)):W2 (Aa B N n xs L) Q:=by
 obtain⟨o,e,q⟩:=h
 cases o with
 |next ρ L2 =>
  by_cases c:L2.take L.length=L
  .exact⟨_,_,by unfold Aa;rw[if_pos hn,e];simp only;rw[if_pos c],q.1 (Nl c)⟩
  .exact⟨_,_,by unfold Aa;rw[if_pos hn,e];simp only;rw[if_neg c],q.2⟩
 |ret d L2 =>
  by_cases c:d.noRef=true/\L2.take L.length=L
  .exact⟨_,_,by unfold Aa;rw[if_pos hn,e];simp only;rw[if_pos c],q.1 (Nl c.2) c.1⟩
  .exact⟨_,_,by unfold Aa;rw[if_pos hn,e];simp only;rw[if_neg c],q.2⟩
 |brk _ _=>exact q.elim
 |cont _ _=>exact q.elim
def Uc{B:SF}{N:AMB}{n:Nat}{xs:List D}(hn:xs.length=n)(h:WS (B (CU N xs) L) (λ_ L2=>L2.length=L.length/\Q .non L2) (λd L2=>L2.length=L.length/\Q d L2) (λ_ _=>False) (λ_ _=>False)):W2 (Aa B N n xs L) Q:=by have eqp:∀L2:AB,L <+: L2->L2.length=L.length->L2=L:=λL2 p l=>(p.eq_of_length l.symm).symm;exact JQ hn (h.mono (λ_ L2 z2_=>(by obtain⟨a,b⟩:=z2_;exact⟨λp=>by rw[eqp L2 p a] at b;exact b,b⟩)) (λd L2 z2_=>(by obtain⟨a,b⟩:=z2_;exact⟨λp _=>by rw[eqp L2 p a] at b;exact b,b⟩)) (λ_ _ h=>h) (λ_ _ h=>h))
end
section
variable {Q:AMo}{QI:List D->(AB->Bool)->AB->Prop}{ρ:Fm}{L:AB}{nx:Fm->AB->Prop}{rt:AMo}{bk ct:Fm->AB->Prop}{fo fi fv f:EF}{a:AF}{k ep:Nat}{kvs:List (NK×D)}{kk:NK}{y d:D}
def AAk(h:Q (.ref L.length) (L++[.dt [] 0])):W2 (Hx ρ L) Q:=⟨_,_,rfl,h⟩
def AH6(e:L[k]?=some (.dt kvs ep)){p:Prop}(h:p):Oi "dict" (.ref k) L p:=⟨by simp[JT,e],h⟩
def Ii(e:L[k]?=some (.dt kvs ep))(ek:dNK y=some kk)(el:Bj kvs kk=some d)(h:Q d L):W2 (GB (.ref k) y L) Q:=⟨d,L,by simp only[GB,e,ek,AQ,el,ALN],h⟩
def SU{neg:Bool}(e:L[k]?=some (.dt kvs ep))(ek:dNK y=some kk)(h:Q (.bl (neg != (Bj kvs kk).isSome)) L):W2 (Gi neg y (.ref k) L) Q:=⟨_,L,by simp only[Gi,e,ek,ALN],h⟩
def AJN(e:L[k]?=some (.dt kvs ep))(h:Q (.ref L.length) (L++[.lst (FX kvs)])):W2 (LU [.ref k] L) Q:=⟨_,_,by simp only[LU,e],h⟩
def AFB{v:D}(e:L[k]?=some (.dt kvs ep))(ek:dNK y=some kk)(el:Bj kvs kk=some d)(h:Q d L):W2 (HH (.ref k) [y,v] L) Q:=⟨_,L,by simp only[HH,e,ek,AQ,el],h⟩
def AFC{v:D}(e:L[k]?=some (.dt kvs ep))(ek:dNK y=some kk)(el:Bj kvs kk=none)(hz:kvs.length<16777216)(h:Q v (L.set k (.dt (DB kvs kk v) (epN kvs kk ep)))):W2 (HH (.ref k) [y,v] L) Q:=⟨_,_,by simp only[HH,e,ek,AQ,el];rw[if_pos hz],h⟩
def SV{i j:Nat}{as bs:List D}(e1:L[i]?=some (.lst as))(e2:L[j]?=some (.lst bs))(hz:as.length+bs.length<=16777216)(h:Q .non (L.set i (.lst (as++bs)))):W2 (Ik (.ref i) [.ref j] L) Q:=⟨_,_,by simp only[Ik,e1,e2];rw[if_pos hz],h⟩
def AHO(h:W2 (fv ρ L) λv L1=>W2 (fo ρ L1) λo L2=>W2 (fi ρ L2) λi L3=>W1 (Hs o i v L3) λL4=>nx ρ L4):WS (Hw fo fi fv ρ L) nx rt bk ct:=by obtain⟨v,L1,e1,o,L2,e2,i,L3,e3,L4,e4,q⟩:=h;exact WS.inx (by unfold Hw;rw[e1,AQ,e2,AQ,e3,AQ,e4];rfl) q
def ON{v:D}{P:AB->Prop}(e:L[k]?=some (.dt kvs ep))(hz:kvs.length<16777216)(ek:dNK y=some kk)(h:P (L.set k (.dt (DB kvs kk v) (epN kvs kk ep)))):W1 (Hs (.ref k) y v L) P:=⟨_,by simp only[Hs,e];rw[if_pos hz,ek];rfl,h⟩
abbrev TM(d:D)(L:AB)(P:Nat->List (NK×D)->Nat->Prop):Prop:=∃k kvs ep,d=.ref k/\L[k]?=some (.dt kvs ep)/\P k kvs ep
def AJy{P:Nat->List (NK×D)->Nat->Prop}(e:L[k]?=some (.dt kvs ep))(h:P k kvs ep):TM (.ref k) L P:=⟨k,kvs,ep,rfl,e,h⟩
def AHZ(h:W2 (f ρ L) λd L1=>TM d L1 λk kvs ep=>QI (FX kvs) (Hc k kvs ep) L1):WI (Ji f ρ L) QI:=by obtain⟨d,L1,e1,k,kvs,ep,rfl,e2,q⟩:=h;exact⟨_,_,L1,by unfold Ji;rw[e1,AQ];simp only[e2],q⟩
def AHY(h:W2 (f ρ L) λd L1=>TM d L1 λk kvs ep=>QI (Hf kvs) (λL'=>decide (L'[k]?=some (.dt kvs ep))) L1):WI (LN f ρ L) QI:=by obtain⟨d,L1,e1,k,kvs,ep,rfl,e2,q⟩:=h;exact⟨_,_,L1,by unfold LN;rw[e1,AQ];simp only[e2],q⟩
abbrev ZI(ds:List D)(L:AB)(P:Nat->List D->Prop):Prop:=∃k xs,ds=[.ref k]/\L[k]?=some (.lst xs)/\P k xs
def AI0{P:Nat->List D->Prop}{xs:List D}(e:L[k]?=some (.lst xs))(h:P k xs):ZI [.ref k] L P:=⟨k,xs,rfl,e,h⟩
def AHa(h:W2 (a ρ L) λds L1=>ZI ds L1 λk xs=>QI (Eo xs) (λL'=>decide (L'[k]?=some (.lst xs))) L1):WI (LO a ρ L) QI:=by obtain⟨ds,L1,e1,k,xs,rfl,e2,q⟩:=h;exact⟨_,_,L1,by unfold LO;rw[e1,AQ];simp only[e2],q⟩
abbrev AG2(n:Nat)(ds:List D)(L:AB)(P:List D->List (List D)->Prop):Prop:=∃ys yss,seqs ds L=some (ys::yss)/\((yss.all λzs=>zs.length == ys.length)=true/\yss.length<100/\yss.length+1=n)/\P ys yss
def AHS{n:Nat}(h:W2 (a ρ L) λds L1=>AG2 n ds L1 λys yss=>QI (FC ys.length (ys::yss)) (λL'=>decide (seqs ds L'=some (ys::yss))) L1):WI (Ig n a ρ L) QI:=by obtain⟨ds,L1,e1,ys,yss,e2,hc,q⟩:=h;exact⟨_,_,L1,by unfold Ig;rw[e1,AQ];simp only[e2];rw[if_pos hc],q⟩
def AJC{x z:Str}(h:Q (.bl (Txt.startswith x z)) L):W2 (OP (.str x) [.str z] L) Q:=⟨_,_,rfl,h⟩
def AGh{cs:AMB}{c fl:Str}{g:Int->Int->Int}{fs:List (Str×D)}{i:Int}(e:L[k]?=some (.ins c fs))(hc:c∈cs)(hl:fs.lookup fl=some (.int i))
  (h:W2 (fv ρ L) λy L2=>∃j fs',y=.int j/\L2[k]?=some (.ins c fs')/\fs'.length<1000/\nx ρ (L2.set k (.ins c (DP fl (.int (g i j)) fs')))):ZQ cs fl g fv ρ nx (.ref k) L:=⟨k,c,fs,i,rfl,e,hc,hl,h⟩
end
end L3
set_option maxHeartbeats 8000000
namespace L3
open PySem PySem.Spec PyProof.Rows L2
abbrev Mn:D:=D.tup [D.str "small",D.str "great",D.str "figure",D.str "mark",D.str "any"]
abbrev Mj:D:=D.tup [D.tup [D.str "small",D.str "abcdefghijklmnopqrstuvwxyz"],D.tup [D.str "great",D.str "ABCDEFGHIJKLMNOPQRSTUVWXYZ"],D.tup [D.str "figure",D.str "0123456789"],D.tup [D.str "mark",D.str " -.,/"]]
abbrev Mg:D:=D.tup [D.int (1),D.int (2),D.int (-1),D.int (-2)]
abbrev Md:D:=D.tup [D.str "ahead",D.str "behind"]
abbrev Ma:D:=D.tup [D.str "copy",D.str "raise",D.str "sink"]
abbrev MX:D:=D.tup [D.int (1),D.int (2),D.int (3)]
abbrev MU:D:=D.int (0)
abbrev Km:D:=D.int (1)
abbrev MR:AMB:=[AMZ,"_law_most","_law_signs","_law_some","_law_size",AMc,"_law_k"]
abbrev Qi:SF :=
 (AH (AL 2 (AC (.str "abcdefghijklmnopqrstuvwxyzABCDEFGHIJKLMNOPQRSTUVWXYZ0123456789 -.,/")))
 (AH (AL 3 (bin2 AZ (BS (AA (AC (.str "abAB12 -")) (AA (AC (.str "aB 1")) (AA (AC (.str "aab")) (AA (var 2) AD))))) (bin2 BJ (bin2 BQ (var 0) (AC (.int 32))) (AC (.int 4)))))
 (AH (AL 4 (bin2 BJ (var 0) (bin2 Bf (var 1) (AC (.int 1)))))
 (AH (AL 0 (bin2 BQ (var 0) (AC (.int 128))))
 (AH (AL 5 (AC (.str "")))
 (AH (Bg (Fx (AA (var 4) AD)) (Ab 6) (AH (AL 5 (bin2 Bf (var 5) (bin2 AZ (var 3) (bin2 BJ (var 0) (AJ Bt (AA (var 3) AD))))))
 (AL 0 (bin2 BQ (var 0) (AJ Bt (AA (var 3) AD))))))
 (AN (var 5))))))))
abbrev JJ:GL:=Aa Qi MR 2
abbrev MO:AMB:=[AMZ,AMd,AMh,"_law_part","_law_k","_law_word"]
abbrev Qe:SF :=
 (AH (AL 1 (BS AD))
 (AH (AL 2 (bin2 BJ (var 0) (AC (.int 5))))
 (AH (Af (asT (bin2 BK (bin2 BJ (bin2 BQ (var 0) (AC (.int 5))) (AC (.int 4))) (AC (.int 1)))) (AL 2 (bin2 Bf (AC (.int 5)) (bin2 BJ (var 0) (AC (.int 2))))) Ak)
 (AH (AL 3 (bin2 BQ (var 0) (AC (.int 20))))
 (AH (Bg (Fx (AA (var 2) AD)) (Ab 4) (AH (AL 5 (AJ JJ (AA (var 3) (AA (bin2 AZ (BS (AA (AC (.int 2)) (AA (AC (.int 3)) (AA (AC (.int 3)) (AA (AC (.int 8)) AD))))) (bin2 BJ (bin2 BQ (var 3) (AC (.int 7))) (AC (.int 4)))) AD))))
 (AH (Af (asT (bin2 GA (var 2) (AC (.int 4)))) (AL 5 (DO (var 5) Ei (Ck (AC (.int 2))))) Ak)
 (AH (Af (asT (bin2 BK (var 5) (AC (.str "")))) (AL 5 (AC (.str "-"))) Ak)
 (AH (Af (asT (bin2 (DS true) (var 5) (var 1))) (DY (Bw "list" FF (var 1) (AA (var 5) AD))) Ak)
 (AL 3 (bin2 BQ (var 3) (bin2 Fz (AC (.int 10)) (AC (.int 6))))))))))
 (AN (var 1)))))))
abbrev Kk:GL:=Aa Qe MO 1
abbrev ML:AMB:=[AMZ,AMi,"_law_part","_law_k","_law_kind_here","_law_look"]
abbrev Qa:SF :=
 (AH (AL 1 (BS AD))
 (AH (AL 2 (bin2 BQ (var 0) (AC (.int 4))))
 (AH (Bg (Fx (AA (bin2 BJ (var 0) (AC (.int 4))) AD)) (Ab 3) (AH (AL 4 (bin2 AZ (BS (AA (AC (.str "figure")) (AA (AC (.str "great")) (AA (AC (.str "mark")) (AA (AC (.str "small")) (AA (AC (.str "any")) AD)))))) (bin2 BJ (bin2 BQ (var 2) (AC (.int 2))) (AC (.int 5)))))
 (AH (AL 5 (Bp (AA (bin2 AZ (BS (AA (AC (.str "has")) (AA (AC (.str "begins")) AD))) (bin2 BJ (var 2) (AC (.int 2)))) (AA (var 4) AD))))
 (AH (Af (HK (asT (bin2 BK (var 3) (AC (.int 1)))) (asT (bin2 BK (bin2 BJ (bin2 BQ (var 2) (AC (.int 10))) (AC (.int 2))) (AC (.int 0))))) (AL 5 (Bp (AA (bin2 AZ (BS (AA (AC (.str "has")) (AA (AC (.str "begins")) AD))) (AJ Jm (AA (bin2 BK (bin2 AZ (bin2 AZ (var 1) (AC (.int 0))) (AC (.int 0))) (AC (.str "has"))) AD))) (AA (bin2 AZ (bin2 AZ (var 1) (AC (.int 0))) (AC (.int 1))) AD)))) Ak)
 (AH (Af (asT (bin2 Ij (var 5) (var 1))) (DY (Bw "list" FF (var 1) (AA (var 5) AD))) Ak)
 (AL 2 (bin2 BQ (var 2) (AC (.int 1009)))))))))
 (AN (var 1)))))
abbrev Ki:GL:=Aa Qa ML 1
abbrev MI:AMB:=[AMZ,"_law_kind_here"]
abbrev QV:SF :=
 (AH (AL 1 (bin2 AZ (BS (AA (AC (.str "small")) (AA (AC (.str "great")) (AA (AC (.str "figure")) (AA (AC (.str "mark")) (AA (AC (.str "any")) AD)))))) (bin2 BJ (var 0) (AC (.int 5)))))
 (AN (Bp (AA (var 1) (AA (bin2 AZ (BS (AA (AC (.int 1)) (AA (AC (.int 2)) (AA (As Hq (AC (.int 1))) (AA (As Hq (AC (.int 2))) AD))))) (bin2 BJ (bin2 BQ (var 0) (AC (.int 5))) (AC (.int 4)))) (AA (bin2 AZ (BS (AA (AC (.str "ahead")) (AA (AC (.str "behind")) AD))) (bin2 BJ (bin2 BQ (var 0) (AC (.int 20))) (AC (.int 2)))) AD))))))
abbrev JI:GL:=Aa QV MI 1
abbrev MF:AMB:=[AMZ,AMd,"_law_deed"]
abbrev Ta:SF :=
 (AH (Af (HK (asT (bin2 BK (bin2 BJ (var 0) (AC (.int 7))) (AC (.int 0)))) (asT (bin2 GA (AJ Bt (AA (var 1) AD)) (AC (.int 0))))) (AN (Bp (AA (AC (.str "word")) (AA (bin2 AZ (var 1) (bin2 BJ (bin2 BQ (var 0) (AC (.int 7))) (AJ Bt (AA (var 1) AD)))) AD)))) Ak)
 (AH (AL 2 (bin2 AZ (BS (AA (AC (.str "copy")) (AA (AC (.str "raise")) (AA (AC (.str "sink")) (AA (AC (.str "copy")) AD))))) (bin2 BJ (bin2 BQ (var 0) (AC (.int 7))) (AC (.int 4)))))
 (AN (Bp (AA (var 2) (AA (AJ JI (AA (bin2 BQ (var 0) (AC (.int 28))) AD)) (AA (AJ JI (AA (bin2 BQ (var 0) (AC (.int 1120))) AD)) AD)))))))
abbrev Kh:GL:=Aa Ta MF 2
abbrev MC:AMB:=["_law_sign"]
abbrev QQ:SF :=
 (AH (Af (asT (Bw "str" (HI Txt.islower) (var 0) AD)) (AN (AC (.str "small"))) Ak)
 (AH (Af (asT (Bw "str" (HI Txt.isupper) (var 0) AD)) (AN (AC (.str "great"))) Ak)
 (AH (Af (asT (Bw "str" (HI Txt.isdigit) (var 0) AD)) (AN (AC (.str "figure"))) Ak)
 (AN (AC (.str "mark"))))))
abbrev JH:GL:=Aa QQ MC 1
abbrev MA:AMB:=["_law_place_here",AMc,"_law_kind_here","_law_nth","_law_edge","_law_found"]
abbrev QL:SF :=
 (AH (Iu (var 0) 3 (CK (Ab 2) (CK (Ab 3) (CK (Ab 4) FZ))))
 (AH (AL 5 (BY (Fx (AA (AJ Bt (AA (var 1) AD)) AD)) 1 [2,1] (Ab 0) (FV (asT (bin2 BK (var 1) (AC (.str "any")))) (asT (bin2 BK (AJ JH (AA (bin2 AZ (var 2) (var 0)) AD)) (var 1)))) (var 0)))
 (AH (Af (asT (bin2 gLt (AJ Bt (AA (var 5) AD)) (AJ LZ (AA (var 3) AD)))) (AN (AC .non)) Ak)
 (AH (Af (asT (bin2 GA (var 3) (AC (.int 0)))) (AN (bin2 Bf (bin2 AZ (var 5) (bin2 Gh (var 3) (AC (.int 1)))) (AJ Jm (AA (bin2 BK (var 4) (AC (.str "behind"))) AD)))) Ak)
 (AN (bin2 Bf (bin2 AZ (var 5) (var 3)) (AJ Jm (AA (bin2 BK (var 4) (AC (.str "behind"))) AD))))))))
abbrev zr:GL:=Aa QL MA 2
abbrev Ly:AMB:=[AMk,AMc,"_law_start","_law_end"]
abbrev Lw:SF :=
 (AH (Af (asT (bin2 BK (bin2 AZ (var 0) (AC (.int 0))) (AC (.str "word")))) (AN (bin2 AZ (var 0) (AC (.int 1)))) Ak)
 (AH (AL 2 (AJ zr (AA (bin2 AZ (var 0) (AC (.int 1))) (AA (var 1) AD))))
 (AH (AL 3 (AJ zr (AA (bin2 AZ (var 0) (AC (.int 2))) (AA (var 1) AD))))
 (AH (Af (FV (asT (bin2 LW (var 2) (AC .non))) (FV (asT (bin2 LW (var 3) (AC .non))) (asT (bin2 OQ (var 2) (var 3))))) (AN (AC .non)) Ak)
 (AH (Af (asT (bin2 BK (bin2 AZ (var 0) (AC (.int 0))) (AC (.str "raise")))) (AN (Bw "str" (gS0s Txt.upper) (DO (var 1) (Ck (var 2)) (Ck (var 3))) AD)) Ak)
 (AH (Af (asT (bin2 BK (bin2 AZ (var 0) (AC (.int 0))) (AC (.str "sink")))) (AN (Bw "str" (gS0s Txt.lower) (DO (var 1) (Ck (var 2)) (Ck (var 3))) AD)) Ak)
 (AN (DO (var 1) (Ck (var 2)) (Ck (var 3))))))))))
abbrev zt:GL:=Aa Lw Ly 2
abbrev NJ:AMB:=[AMZ,AMd,AMf,AMk,"_law_whole_here","_law_some"]
abbrev QG:SF :=
 (AH (AL 3 (AJ Kh (AA (var 0) (AA (var 1) AD))))
 (AH (Af (asT (bin2 BK (bin2 AZ (var 3) (AC (.int 0))) (AC (.str "word")))) (AN (var 3)) Ak)
 (AH (AL 4 (Bp (AA (bin2 AZ (var 3) (AC (.int 0))) (AA (Bp (AA (AC (.str "any")) (AA (AC (.int 1)) (AA (AC (.str "ahead")) AD)))) (AA (Bp (AA (AC (.str "any")) (AA (As Hq (AC (.int 1))) (AA (AC (.str "behind")) AD)))) AD)))))
 (AH (Bg (BG (BS (AA (var 3) (AA (Bp (AA (bin2 AZ (var 3) (AC (.int 0))) (AA (bin2 AZ (var 3) (AC (.int 2))) (AA (bin2 AZ (var 3) (AC (.int 1))) AD)))) (AA (var 4) AD))))) (Ab 5) (Af (asT (bin2 (DS true) (AC .non) (BY (BG (var 2)) 1 [5] (Ab 0) Cg (AJ zt (AA (var 1) (AA (var 0) AD)))))) (AN (var 5)) Ak))
 (AH (Af (asT (bin2 BK (AJ Bt (AA (var 1) AD)) (AC (.int 0)))) (AN (AC .non)) Ak)
 (AN (Bp (AA (AC (.str "word")) (AA (bin2 AZ (var 1) (bin2 BJ (bin2 BQ (var 0) (AC (.int 28))) (AJ Bt (AA (var 1) AD)))) AD)))))))))
abbrev Kg:GL:=Aa QG NJ 3
abbrev NH:AMB:=[AMZ,AMd,AMf,"_law_row_here","_law_part","_law_k",AMk]
abbrev QC:SF :=
 (AH (AL 3 (BS AD))
 (AH (AL 4 (bin2 BQ (var 0) (AC (.int 3))))
 (AH (Bg (Fx (AA (bin2 Bf (AC (.int 1)) (bin2 BJ (var 0) (AC (.int 3)))) AD)) (Ab 5) (AH (AL 6 (AJ Kg (AA (var 4) (AA (var 1) (AA (var 2) AD)))))
 (AH (Af (asT (bin2 Jl (var 6) (AC .non))) (DY (Bw "list" FF (var 3) (AA (var 6) AD))) Ak)
 (AL 4 (bin2 BQ (var 4) (AC (.int 1000003)))))))
 (AN (AJ FY (AA (var 3) AD))))))
abbrev zu:GL:=Aa QC NH 3
abbrev NF:AMB:=["_law_look",AMc,"_law_kinds"]
abbrev Px:SF :=
 (AH (AL 2 (BY (BG (var 1)) 1 [] (Ab 0) Cg (AJ JH (AA (var 0) AD))))
 (AH (Af (asT (bin2 BK (bin2 AZ (var 0) (AC (.int 0))) (AC (.str "begins")))) (AL 2 (DO (var 2) Ei (Ck (AC (.int 1))))) Ak)
 (AN (Hh (bin2 (DS false) (bin2 AZ (var 0) (AC (.int 1))) (var 2)) (Fb (bin2 BK (bin2 AZ (var 0) (AC (.int 1))) (AC (.str "any"))) (bin2 GA (AJ Bt (AA (var 2) AD)) (AC (.int 0))))))))
abbrev zk:GL:=Aa Px NF 2
abbrev ND:AMB:=[AMZ,AMd,AMi,AMf,"_law_look","_law_ones","_law_others"]
abbrev Pt:SF :=
 (AH (Af (FV (asT (bin2 BK (bin2 BJ (var 0) (AC (.int 2))) (AC (.int 0)))) (asT (bin2 BK (AJ Bt (AA (var 2) AD)) (AC (.int 0))))) (AN (Bp (AA (AC (.str "do")) (AA (AJ zu (AA (bin2 BQ (var 0) (AC (.int 2))) (AA (var 1) (AA (var 3) AD)))) AD)))) Ak)
 (AH (AL 4 (bin2 AZ (var 2) (bin2 BJ (bin2 BQ (var 0) (AC (.int 2))) (AJ Bt (AA (var 2) AD)))))
 (AH (AL 5 (BY (BG (var 3)) 1 [4] (Ab 0) (asT (AJ zk (AA (var 1) (AA (var 0) AD)))) (var 0)))
 (AH (AL 6 (BY (BG (var 3)) 1 [4] (Ab 0) (Gd (asT (AJ zk (AA (var 1) (AA (var 0) AD))))) (var 0)))
 (AN (Bp (AA (AC (.str "if")) (AA (var 4) (AA (AJ zu (AA (bin2 BQ (var 0) (AC (.int 8))) (AA (var 1) (AA (var 5) AD)))) (AA (AJ zu (AA (bin2 BQ (var 0) (bin2 DR (AC (.int 8)) (bin2 Fz (AC (.int 10)) (AC (.int 19))))) (AA (var 1) (AA (var 6) AD)))) AD))))))))))
abbrev Kf:GL:=Aa Pt ND 4
abbrev NA:AMB:=[AMg,"_law_k",AMh]
abbrev Pp:SF :=
 (AH (Af (asT (bin2 gLt (var 1) (AJ Bt (AA (var 0) AD)))) (AN (bin2 BJ (bin2 DR (bin2 Bf (bin2 AZ (var 0) (var 1)) (AC (.int 7919))) (AC (.int 2718281828459045235360287471352662497757))) (bin2 Fz (AC (.int 10)) (AC (.int 40))))) Ak)
 (AH (AL 2 (bin2 Bf (bin2 DR (bin2 DR (var 1) (var 1)) (AC (.int 7919))) (AC (.int 5))))
 (AH (Af (asT (bin2 GA (AJ Bt (AA (var 0) AD)) (AC (.int 0)))) (AL 2 (bin2 Bf (var 2) (bin2 DR (bin2 BJ (bin2 AZ (var 0) (bin2 BJ (bin2 DR (var 1) (AC (.int 7))) (AJ Bt (AA (var 0) AD)))) (bin2 Fz (AC (.int 10)) (AC (.int 40)))) (AC (.int 48271))))) Ak)
 (AN (bin2 BJ (bin2 DR (bin2 BJ (bin2 DR (var 2) (var 2)) (AC (.int 2147483629))) (AC (.int 2718281828459045235360287471352662497757))) (bin2 Fz (AC (.int 10)) (AC (.int 40))))))))
abbrev zc:GL:=Aa Pp NA 2
abbrev My:AMB:=["_law_row_here",AMc,"_law_found"]
abbrev Pk:SF :=
 (AH (AL 2 (BY (BG (var 0)) 1 [1] (Ab 0) Cg (AJ zt (AA (var 0) (AA (var 1) AD)))))
 (AH (Af (asT (bin2 (DS false) (AC .non) (var 2))) (AN (AC .non)) Ak)
 (AN (Bw "str" LV (AC (.str "")) (AA (var 2) AD)))))
abbrev zw:GL:=Aa Pk My 2
abbrev Mw:AMB:=[AMj,AMc]
abbrev Pg:SF :=
 (AH (Af (asT (bin2 BK (bin2 AZ (var 0) (AC (.int 0))) (AC (.str "do")))) (AN (AJ zw (AA (bin2 AZ (var 0) (AC (.int 1))) (AA (var 1) AD)))) Ak)
 (AH (Af (asT (AJ zk (AA (bin2 AZ (var 0) (AC (.int 1))) (AA (var 1) AD)))) (AN (AJ zw (AA (bin2 AZ (var 0) (AC (.int 2))) (AA (var 1) AD)))) Ak)
 (AN (AJ zw (AA (bin2 AZ (var 0) (AC (.int 3))) (AA (var 1) AD))))))
abbrev Ke:GL:=Aa Pg Mw 2
abbrev Mu:AMB:=[AMj,AMf,AMZ,"_law_examples_here","_law_at",AMc,"_law_answer_here","_law_other"]
abbrev Pd:SF :=
 (AH (AL 3 (BY (BG (var 1)) 1 [0] (Ab 0) Cg (Bp (AA (var 0) (AA (AJ Ke (AA (var 1) (AA (var 0) AD))) AD)))))
 (AH (Af (HK (asT (bin2 BK (bin2 BJ (var 2) (AC (.int 4))) (AC (.int 1)))) (asT (bin2 GA (AJ Bt (AA (var 3) AD)) (AC (.int 0))))) (AH (AL 4 (bin2 BJ (bin2 BQ (var 2) (AC (.int 4))) (AJ Bt (AA (var 3) AD))))
 (AH (Iu (bin2 AZ (var 3) (var 4)) 2 (CK (Ab 5) (CK (Ab 6) FZ)))
 (AH (AL 7 (bin2 AZ (BS (AA (DO (bin2 Bf (var 6) (AC (.str "a"))) Ei (Ck (AC (.int 72)))) (AA (DO (var 6) Ei (Ck (As Hq (AC (.int 1))))) (AA (bin2 Bf (DO (var 6) (Ck (AC (.int 1))) Ei) (DO (var 6) Ei (Ck (AC (.int 1))))) (AA (AC (.str "")) AD))))) (bin2 BJ (bin2 BQ (var 2) (AC (.int 16))) (AC (.int 4)))))
 (AL 3 (bin2 Bf (bin2 Bf (DO (var 3) Ei (Ck (var 4))) (BS (AA (Bp (AA (var 5) (AA (var 7) AD))) AD))) (DO (var 3) (Ck (bin2 Bf (var 4) (AC (.int 1)))) Ei)))))) Ak)
 (AN (var 3))))
abbrev Kd:GL:=Aa Pd Mu 3
abbrev Ms:AMB:=[AMg,"_law_start","_law_most",AMZ,AMh,"_law_rows","_law_some","_law_k","_law_at","_law_sign",AMf,AMc]
abbrev Pa:SF :=
 (AH (AL 3 (AJ zc (AA (var 0) (AA (var 1) AD))))
 (AH (AL 4 (bin2 Bf (AC (.int 1)) (bin2 BJ (var 3) (AC (.int 3)))))
 (AH (Af (asT (bin2 BK (bin2 BJ (bin2 BQ (var 3) (AC (.int 24))) (AC (.int 4))) (AC (.int 1)))) (AH (AL 4 (bin2 Bf (AC (.int 4)) (bin2 BJ (var 3) (AC (.int 3)))))
 (AL 2 (AJ LS (AA (var 2) (AA (AC (.int 6)) AD))))) Ak)
 (AH (AL 5 (BY (Fx (AA (var 4) AD)) 1 [] (Ab 0) Cg (AC (.str ""))))
 (AH (AL 6 (bin2 AZ (BS (AA (AC (.str "aB1 -")) (AA (AC (.str "aab")) (AA (AC (.str "abAB12 -")) (AA (AC (.str "abcXYZ019 -.,/")) AD))))) (bin2 BJ (bin2 BQ (var 3) (AC (.int 6))) (AC (.int 4)))))
 (AH (Af (asT (bin2 BK (bin2 BJ (bin2 BQ (var 3) (AC (.int 3))) (AC (.int 2))) (AC (.int 0)))) (AL 5 (BY (Fx (AA (var 4) AD)) 1 [2,0,1] (Ab 0) Cg (AJ JJ (AA (AJ zc (AA (var 2) (AA (bin2 Bf (bin2 Bf (var 3) (AC (.int 1))) (var 0)) AD))) (AA (var 1) AD))))) (Bg (LM (AA (bin2 Bf (var 1) (AC (.int 1))) (AA (AJ LS (AA (AJ Bt (AA (var 0) AD)) (AA (bin2 Bf (bin2 Bf (var 1) (AC (.int 1))) (bin2 DR (var 2) (var 4))) AD))) AD))) (Ab 7) (AH (AL 8 (bin2 BJ (var 7) (var 4)))
 (AH (AL 9 (bin2 AZ (var 6) (bin2 BJ (AJ zc (AA (var 0) (AA (var 7) AD))) (AJ Bt (AA (var 6) AD)))))
 (CO (var 5) (var 8) (bin2 Bf (bin2 AZ (var 5) (var 8)) (var 9)))))))
 (AH (Af (asT (bin2 BK (bin2 BJ (bin2 BQ (var 3) (AC (.int 96))) (AC (.int 8))) (AC (.int 3)))) (CO (var 5) (AC (.int 0)) (DO (bin2 DR (DO (var 6) Ei (Ck (bin2 Bf (AC (.int 1)) (bin2 BJ (bin2 BQ (var 3) (AC (.int 768))) (AC (.int 2)))))) (AC (.int 24))) Ei (Ck (AC (.int 24))))) Ak)
 (AH (AL 10 (BS AD))
 (AH (Bg (BG (var 5)) (Ab 11) (Af (asT (bin2 (DS true) (var 11) (var 10))) (DY (Bw "list" FF (var 10) (AA (var 11) AD))) Ak))
 (AN (var 10)))))))))))
abbrev Kc:GL:=Aa Pa Ms 3
abbrev Mp:AMB:=[AMg,AMd,AMi,AMf,AMj]
abbrev PV:SF :=
 (AH (AL 1 (AJ Kk (AA (AJ zc (AA (var 0) (AA (AC (.int 0)) AD))) AD)))
 (AH (AL 2 (AJ Ki (AA (bin2 BQ (AJ zc (AA (var 0) (AA (AC (.int 2)) AD))) (AC (.int 256))) AD)))
 (AH (AL 3 (BY (BG (AJ Kc (AA (var 0) (AA (AC (.int 4)) (AA (AC (.int 10)) AD))))) 1 [1] (Ab 0) (FV (asT (bin2 HJ (var 0) (AC (.str "")))) (asT (bin2 GA (AJ Bt (AA (var 1) AD)) (AC (.int 0))))) (var 0)))
 (AH (AL 4 (AJ Kf (AA (AJ zc (AA (var 0) (AA (AC (.int 1)) AD))) (AA (var 1) (AA (var 2) (AA (var 3) AD))))))
 (AN (BS (AA (var 1) (AA (var 2) (AA (var 4) (AA (AJ Kd (AA (var 4) (AA (var 3) (AA (AJ zc (AA (var 0) (AA (AC (.int 2)) AD))) AD)))) AD))))))))))
abbrev Kb:GL:=Aa PV Mp 1
abbrev Mm:AMB:=[AMR,AMX,AMe,"pieces",AMb,"piece"]
abbrev PP:SF :=
 (AH (AL 1 Hx)
 (AH (Bg (LN (var 0)) (Fy 2 (CK (Ab 2) (CK (Ab 3) FZ))) (Bg (LO (AA (var 3) AD)) (Fy 2 (CK (Ab 4) (CK (Ab 5) FZ))) (Hw (var 1) (var 5) (Bp (AA (var 2) (AA (var 4) AD))))))
 (AN (var 1))))
abbrev JG:GL:=Aa PP Mm 1
abbrev Mi:AMB:=["self",AMO]
abbrev PK:SF :=
 (AH (Dr [AMM] AMO (var 0) (var 1))
 (Dr [AMM] AMW (var 0) Hx))
abbrev IP:GL:=Aa PK Mi 2
abbrev Mf:AMB:=["self",AMS,AMR]
abbrev PD:SF :=
 (AH (Dr [AMJ] AMS (var 0) (var 1))
 (AH (Dr [AMJ] AMR (var 0) (var 2))
 (AH (Dr [AMJ] AMX (var 0) (AJ JG (AA (var 2) AD)))
 (AH (Dr [AMJ] AMT (var 0) (BS (AA (Fu AMM IP (AA (AC (.int 1)) AD)) (AA (Fu AMM IP (AA (AC (.int 0)) AD)) AD))))
 (AH (Dr [AMJ] AMY (var 0) Hx)
 (Dr [AMJ] AMa (var 0) (BS AD)))))))
abbrev Ka:GL:=Aa PD Mf 3
abbrev Mc:AMB:=["places","kind","nth","edge"]
abbrev Oy:SF :=
 (AH (AL 0 (BS AD))
 (AH (Bg (BG (AC Mn)) (Ab 1) (Bg (BG (AC Mg)) (Ab 2) (Bg (BG (AC Md)) (Ab 3) (DY (Bw "list" FF (var 0) (AA (Bp (AA (var 1) (AA (var 2) (AA (var 3) AD)))) AD))))))
 (AN (var 0))))
abbrev KZ:GL:=Aa Oy Mc 0
abbrev MZ:AMB:=["sign","kind","signs"]
abbrev RB:SF :=
 (AH (Bg (BG (AC Mj)) (Fy 2 (CK (Ab 1) (CK (Ab 2) FZ))) (Af (asT (bin2 (DS false) (var 0) (var 2))) (AN (var 1)) Ak))
 (AN (AC .non)))
abbrev KY:GL:=Aa RB MZ 1
abbrev MW:AMB:=["kind","sign"]
abbrev Qx:SF :=
 (AN (Hh (bin2 BK (var 0) (AC (.str "any"))) (bin2 BK (AJ KY (AA (var 1) AD)) (var 0))))
abbrev IN:GL:=Aa Qx MW 2
abbrev MT:AMB:=["place","text","kind","nth","numbers",AMb]
abbrev Qu:SF :=
 (AH (AL 2 (bin2 AZ (var 0) (AC (.int 0))))
 (AH (AL 3 (bin2 AZ (var 0) (AC (.int 1))))
 (AH (AL 4 (BY (LP (AA (var 1) AD)) 2 [2] (Fy 2 (CK (Ab 0) (CK (Ab 1) FZ))) (asT (AJ IN (AA (var 2) (AA (var 1) AD)))) (var 0)))
 (AH (Af (asT (bin2 gLt (AJ Bt (AA (var 4) AD)) (AJ LZ (AA (var 3) AD)))) (AN (AC .non)) Ak)
 (AH (AL 5 (Gg (asT (bin2 GA (var 3) (AC (.int 0)))) (bin2 AZ (var 4) (bin2 Gh (var 3) (AC (.int 1)))) (bin2 AZ (var 4) (var 3))))
 (AN (Gg (asT (bin2 BK (bin2 AZ (var 0) (AC (.int 2))) (AC (.str "ahead")))) (var 5) (bin2 Bf (var 5) (AC (.int 1))))))))))
abbrev IM:GL:=Aa Qu MT 2
abbrev MQ:AMB:=["texts","places","place","spots"]
abbrev Qr:SF :=
 (AH (AL 1 Hx)
 (AH (Bg (BG (AJ KZ AD)) (Ab 2) (AH (AL 3 (AJ FY (AA (BY (BG (var 0)) 1 [2] (Ab 0) Cg (AJ IM (AA (var 1) (AA (var 0) AD)))) AD)))
 (Af (asT (bin2 (DS true) (AC .non) (var 3))) (DY (Bw "list" FF (Bw "dict" HH (var 1) (AA (var 3) (AA (BS AD) AD))) (AA (var 2) AD))) Ak)))
 (AN (var 1))))
abbrev KW:GL:=Aa Qr MQ 1
abbrev MN:AMB:=[AMe,"wanted"]
abbrev Qo:SF :=
 (AN (AJ LY (AA (BY (Ig 2 (AA (var 0) (AA (var 1) AD))) 2 [] (Fy 2 (CK (Ab 0) (CK (Ab 1) FZ))) Cg (bin2 (DS false) (var 0) (var 1))) AD)))
abbrev KU:GL:=Aa Qo MN 2
abbrev MK:AMB:=[AMR,"wanted",AMe,"pieces"]
abbrev Ql:SF :=
 (Af (asT (AJ KU (AA (var 2) (AA (var 1) AD)))) (DY (Bw "list" Ik (Bw "dict" HH (var 0) (AA (var 2) (AA (BS AD) AD))) (AA (var 3) AD))) Ak)
abbrev JF:GL:=Aa Ql MK 4
abbrev MH:AMB:=["texts","starts","ends","signs","text","start","end"]
abbrev Qh:SF :=
 (AH (AL 3 (BS AD))
 (AH (Bg (Ig 3 (AA (var 0) (AA (var 1) (AA (var 2) AD)))) (Fy 3 (CK (Ab 4) (CK (Ab 5) (CK (Ab 6) FZ)))) (AH (Af (asT (bin2 OQ (var 5) (var 6))) (AN (AC .non)) Ak)
 (DY (Bw "list" FF (var 3) (AA (DO (var 4) (Ck (var 5)) (Ck (var 6))) AD)))))
 (AN (var 3))))
abbrev KS:GL:=Aa Qh MH 3
abbrev ME:AMB:=["deed","starts","ends","pieces","start"]
abbrev Qd:SF :=
 (AH (AL 3 (BS AD))
 (AH (Bg (BG (var 1)) (Ab 4) (DY (Bw "list" Ik (var 3) (AA (BY (BG (var 2)) 1 [0,4] (Ab 0) Cg (Bp (AA (var 1) (AA (var 2) (AA (var 0) AD))))) AD))))
 (AN (var 3))))
abbrev KR:GL:=Aa Qd ME 3
abbrev MB:AMB:=["deed","signs"]
abbrev QZ:SF :=
 (AH (Af (asT (bin2 BK (var 0) (AC (.str "copy")))) (AN (var 1)) Ak)
 (AN (Gg (asT (bin2 BK (var 0) (AC (.str "raise")))) (Bw "str" (gS0s Txt.upper) (var 1) AD) (Bw "str" (gS0s Txt.lower) (var 1) AD))))
abbrev KQ:GL:=Aa QZ MB 2
abbrev Lz:AMB:=[AMS,"texts","wanted",AMR,"word","places","starts","ends","signs","deed",AMe]
abbrev QU:SF :=
 (AH (AL 3 Hx)
 (AH (Bg (BG (var 0)) (Ab 4) (DY (AJ JF (AA (var 3) (AA (var 2) (AA (AJ FY (AA (BY (BG (var 1)) 1 [4] (Ab 0) Cg (var 1)) AD)) (AA (BS (AA (Bp (AA (AC (.str "word")) (AA (var 4) AD))) AD)) AD)))))))
 (AH (AL 5 (AJ KW (AA (var 1) AD)))
 (AH (Bg (Ji (var 5)) (Ab 6) (Bg (Ji (var 5)) (Ab 7) (AH (AL 8 (AJ KS (AA (var 1) (AA (var 6) (AA (var 7) AD)))))
 (Af (asT (bin2 Jl (var 8) (AC .non))) (Bg (BG (AC Ma)) (Ab 9) (AH (AL 10 (AJ FY (AA (BY (BG (var 8)) 1 [9] (Ab 0) Cg (AJ KQ (AA (var 1) (AA (var 0) AD)))) AD)))
 (DY (AJ JF (AA (var 3) (AA (var 2) (AA (var 10) (AA (AJ KR (AA (var 9) (AA (bin2 GB (var 5) (var 6)) (AA (bin2 GB (var 5) (var 7)) AD)))) AD)))))))) Ak))))
 (AN (var 3))))))
abbrev KP:GL:=Aa QU Lz 3
abbrev Lx:AMB:=[AMK,"length","rest"]
abbrev QP:SF :=
 (AH (Af (asT (bin2 BK (var 1) (AC (.int 1)))) (AN (Gg (asT (bin2 (Gi false) (var 2) (As (BE [AMJ] AMR) (var 0)))) (BS (AA (var 2) AD)) (BS AD))) Ak)
 (AN (AJ LU (AA (As (BE [AMJ] AMR) (var 0)) AD))))
abbrev KO:GL:=Aa QP Lx 3
abbrev Lv:AMB:=["rest",AMe,"parts","part","answer"]
abbrev QK:SF :=
 (AH (AL 2 (BS AD))
 (AH (Bg (Ig 2 (AA (var 0) (AA (var 1) AD))) (Fy 2 (CK (Ab 3) (CK (Ab 4) FZ))) (AH (Af (Gd (asT (Bw "str" OP (var 3) (AA (var 4) AD)))) (AN (AC .non)) Ak)
 (DY (Bw "list" FF (var 2) (AA (DO (var 3) (Ck (AJ Bt (AA (var 4) AD))) Ei) AD)))))
 (AN (AJ FY (AA (var 2) AD)))))
abbrev KN:GL:=Aa QK Lv 2
abbrev NI:AMB:=[AMK,"length","rest","node",AMe,"behind",AMb]
abbrev QF(zm:GL):SF :=
 (AH (AL 3 (Fu AMM IP (AA (AC (.int 0)) AD)))
 (AH (Bg (BG (AJ KO (AA (var 0) (AA (var 1) (AA (var 2) AD))))) (Ab 4) (AH (AL 5 (AJ KN (AA (var 2) (AA (var 4) AD))))
 (Af (asT (bin2 Jl (var 5) (AC .non))) (AH (AL 6 (AJ zm (AA (var 0) (AA (bin2 Gh (var 1) (AC (.int 1))) (AA (var 5) AD)))))
 (Af (asT (bin2 HJ (var 6) (AC Km))) (AH (Hw (As (BE [AMM] AMW) (var 3)) (var 4) (Bp (AA (As (BE [AMM] AMO) (var 3)) (AA (var 6) AD))))
 (Lk [AMM] AMO (λi j=>i+j) (var 3) (bin2 DR (AJ Bt (AA (bin2 GB (As (BE [AMJ] AMR) (var 0)) (var 4)) AD)) (As (BE [AMM] AMO) (bin2 AZ (As (BE [AMJ] AMT) (var 0)) (var 6)))))) Ak)) Ak)))
 (AH (Af (asT (bin2 BK (As (BE [AMM] AMO) (var 3)) (AC (.int 0)))) (AN (AC Km)) Ak)
 (AH (DY (Bw "list" FF (As (BE [AMJ] AMT) (var 0)) (AA (var 3) AD)))
 (AN (bin2 Gh (AJ Bt (AA (As (BE [AMJ] AMT) (var 0)) AD)) (AC (.int 1))))))))
abbrev NG(zm:GL):GL:=Aa (QF zm) NI 3
abbrev NE:AMB:=[AMK,"length","rest","key"]
abbrev NC(ze5:GL):SF :=
 (AH (Af (asT (bin2 BK (var 1) (AC (.int 0)))) (AN (AC MU)) Ak)
 (AH (AL 3 (Bp (AA (var 1) (AA (var 2) AD))))
 (AH (Af (asT (bin2 (Gi true) (var 3) (As (BE [AMJ] AMY) (var 0)))) (Hw (As (BE [AMJ] AMY) (var 0)) (var 3) (AJ ze5 (AA (var 0) (AA (var 1) (AA (var 2) AD))))) Ak)
 (AN (bin2 GB (As (BE [AMJ] AMY) (var 0)) (var 3))))))
abbrev zx:Nat->GL
 |0=>λ_ _=>none
 |n+1=>Aa (NC (NG (zx n))) NE 3
abbrev zm:GL:=zx 5
abbrev Mx:AMB:=[AMS,"examples","ordered","texts","wanted",AMK]
abbrev QB:SF :=
 (AH (AL 2 (AJ LR (AA (var 1) AD)))
 (AH (AL 3 (BY (BG (var 2)) 1 [] (Ab 0) Cg (bin2 AZ (var 0) (AC (.int 0)))))
 (AH (AL 4 (AJ FY (AA (BY (BG (var 2)) 1 [] (Ab 0) Cg (bin2 AZ (var 0) (AC (.int 1)))) AD)))
 (AH (AL 5 (Fu AMJ Ka (AA (AJ FY (AA (var 0) AD)) (AA (AJ KP (AA (var 0) (AA (var 3) (AA (var 4) AD)))) AD))))
 (AH (DY (Bw "list" Ik (As (BE [AMJ] AMa) (var 5)) (AA (BY (BG (AC MX)) 1 [5,4] (Ab 0) Cg (AJ zm (AA (var 1) (AA (var 0) (AA (var 2) AD))))) AD)))
 (AN (var 5)))))))
abbrev zy:GL:=Aa QB Mx 2
abbrev Mv:AMB:=["tables",AMS,"examples","key"]
abbrev Pw:SF :=
 (AH (AL 3 (AJ FY (AA (var 2) AD)))
 (AH (Af (asT (bin2 (Gi true) (var 3) (var 0))) (Hw (var 0) (var 3) (AJ zy (AA (var 1) (AA (var 2) AD)))) Ak)
 (AN (bin2 GB (var 0) (var 3)))))
abbrev IL:GL:=Aa Pw Mv 3
abbrev Mt:AMB:=["self",AMK,AMU]
abbrev Ps:SF :=
 (AH (Dr [AML,AMN] AMK (var 0) (var 1))
 (Dr [AMN] AMU (var 0) (var 2)))
abbrev Kr:GL:=Aa Ps Mt 3
abbrev Mr:AMB:=["self",AMP,AMK,AMV]
abbrev Po:SF :=
 (AH (Dr [AML] AMP (var 0) (var 1))
 (AH (Dr [AML,AMN] AMK (var 0) (var 2))
 (Dr [AML] AMV (var 0) (var 3))))
abbrev Kq:GL:=Aa Po Mr 4
abbrev Mo:AMB:=[AMP,"text","signs"]
abbrev Pj:SF :=
 (AH (AL 2 (Gg (asT (bin2 BK (bin2 AZ (var 0) (AC (.int 0))) (AC (.str "has")))) (var 1) (DO (var 1) Ei (Ck (AC (.int 1))))))
 (AN (AJ LX (AA (BY (BG (var 2)) 1 [0] (Ab 0) Cg (AJ IN (AA (bin2 AZ (var 1) (AC (.int 1))) (AA (var 0) AD)))) AD))))
abbrev IK:GL:=Aa Pj Mo 2
abbrev Ml:AMB:=["tables",AMS,AMP,"examples","coming","others"]
abbrev Pf:SF :=
 (AH (AL 4 (BY (BG (var 3)) 1 [2] (Ab 0) (asT (AJ IK (AA (var 1) (AA (bin2 AZ (var 0) (AC (.int 0))) AD)))) (var 0)))
 (AH (AL 5 (BY (BG (var 3)) 1 [2] (Ab 0) (Gd (asT (AJ IK (AA (var 1) (AA (bin2 AZ (var 0) (AC (.int 0))) AD))))) (var 0)))
 (AN (Fu AML Kq (AA (var 2) (AA (AJ IL (AA (var 0) (AA (var 1) (AA (var 4) AD)))) (AA (AJ IL (AA (var 0) (AA (var 1) (AA (var 5) AD)))) AD)))))))
abbrev Kp:GL:=Aa Pf Ml 4
abbrev Mh:AMB:=[AMS,"looks","examples","tables",AMK]
abbrev Pc:SF :=
 (AH (AL 3 Hx)
 (AH (AL 4 (AJ IL (AA (var 3) (AA (var 0) (AA (var 2) AD)))))
 (AN (Fu AMN Kr (AA (var 4) (AA (BY (BG (var 1)) 1 [3,0,2] (Ab 0) Cg (AJ Kp (AA (var 1) (AA (var 2) (AA (var 0) (AA (var 3) AD)))))) AD))))))
abbrev Ko:GL:=Aa Pc Mh 3
abbrev Me:AMB:=[AMK]
abbrev PZ:SF :=
 (AN (AJ LQ (AA (BY (BG (As (BE [AMJ] AMa) (var 0))) 1 [0] (Ab 0) Cg (As (BE [AMM] AMO) (bin2 AZ (As (BE [AMJ] AMT) (var 1)) (var 0)))) AD)))
abbrev ze:GL:=Aa PZ Me 1
abbrev Mb:AMB:=["choice"]
abbrev PU:SF :=
 (AN (bin2 DR (AJ ze (AA (As (BE [AML,AMN] AMK) (var 0)) AD)) (AJ ze (AA (As (BE [AML] AMV) (var 0)) AD))))
abbrev zo:GL:=Aa PU Mb 1
abbrev MY:AMB:=["kept"]
abbrev PN:SF :=
 (AN (bin2 Bf (AJ ze (AA (As (BE [AML,AMN] AMK) (var 0)) AD)) (AJ LQ (AA (BY (BG (As (BE [AMN] AMU) (var 0))) 1 [] (Ab 0) Cg (AJ zo (AA (var 0) AD))) AD))))
abbrev JE:GL:=Aa PN MY 1
abbrev MV:AMB:=[AMK,"root",AMb,"pieces","node",AMe,"arm","behind","within"]
abbrev TW:SF :=
 FW
abbrev Kn:GL:=Aa TW MV 3
abbrev zf:AMB:=[AMK,AMb,"root",AMO]
abbrev MS:SF :=
 (AH (Af (asT (bin2 gLt (var 1) (AC (.int 0)))) FW Ak)
 (AH (Bg (BG (As (BE [AMJ] AMa) (var 0))) (Ab 2) (AH (AL 3 (As (BE [AMM] AMO) (bin2 AZ (As (BE [AMJ] AMT) (var 0)) (var 2))))
 (AH (Af (asT (bin2 gLt (var 1) (var 3))) (AN (AJ Kn (AA (var 0) (AA (var 2) (AA (var 1) AD))))) Ak)
 (augN 1 (λi j=>i-j) (var 3)))))
 FW))
abbrev zz:GL:=Aa MS zf 2
abbrev PJ:SX :=
 (FU (Af (asT (bin2 gLt (var 1) (AC (.int 0)))) FW Ak) (Hn (asT (bin2 gLt (var 1) (AC (.int 0)))) (IU AMQ) Ft)
 (FU (Bg (BG (As (BE [AMJ] AMa) (var 0))) (Ab 2) (AH (AL 3 (As (BE [AMM] AMO) (bin2 AZ (As (BE [AMJ] AMT) (var 0)) (var 2))))
 (AH (Af (asT (bin2 gLt (var 1) (var 3))) (AN (AJ Kn (AA (var 0) (AA (var 2) (AA (var 1) AD))))) Ak)
 (augN 1 (λi j=>i-j) (var 3))))) Ft
 (IU AMQ)))
abbrev Kl:Fd:=HB PJ zf 2
abbrev MP:AMB:=["choice",AMb,"other_rows","row"]
abbrev TR:SF :=
 FW
abbrev JD:GL:=Aa TR MP 2
abbrev HU:AMB:=["kept",AMb,"rows","choice",AMO]
abbrev MM:SF :=
 (AH (AL 2 (AJ ze (AA (As (BE [AML,AMN] AMK) (var 0)) AD)))
 (AH (Af (asT (bin2 gLt (var 1) (var 2))) (AN (Bp (AA (AC (.str "do")) (AA (AJ zz (AA (As (BE [AML,AMN] AMK) (var 0)) (AA (var 1) AD))) AD)))) Ak)
 (AH (augN 1 (λi j=>i-j) (var 2))
 (AH (Bg (BG (As (BE [AMN] AMU) (var 0))) (Ab 3) (AH (AL 4 (AJ zo (AA (var 3) AD)))
 (AH (Af (asT (bin2 gLt (var 1) (var 4))) (AN (AJ JD (AA (var 3) (AA (var 1) AD)))) Ak)
 (augN 1 (λi j=>i-j) (var 4)))))
 FW))))
abbrev IJ:GL:=Aa MM HU 2
abbrev PC:SX :=
 (FU (AL 2 (AJ ze (AA (As (BE [AML,AMN] AMK) (var 0)) AD))) Ft
 (FU (Af (asT (bin2 gLt (var 1) (var 2))) (AN (Bp (AA (AC (.str "do")) (AA (AJ zz (AA (As (BE [AML,AMN] AMK) (var 0)) (AA (var 1) AD))) AD)))) Ak) (Hn (asT (bin2 gLt (var 1) (var 2))) (NT (AC (.str "do")) (OZ Kl (AA (As (BE [AML,AMN] AMK) (var 0)) (AA (var 1) AD)))) Ft)
 (FU (augN 1 (λi j=>i-j) (var 2)) Ft
 (FU (Bg (BG (As (BE [AMN] AMU) (var 0))) (Ab 3) (AH (AL 4 (AJ zo (AA (var 3) AD)))
 (AH (Af (asT (bin2 gLt (var 1) (var 4))) (AN (AJ JD (AA (var 3) (AA (var 1) AD)))) Ak)
 (augN 1 (λi j=>i-j) (var 4))))) Ft
 (IU AMQ)))))
abbrev JC:Fd:=HB PC HU 2
abbrev JB:AMB:=["_law_kept",AMh,"_law_caught","_law_kinds","error"]
abbrev MJ:SF :=
 (AH (AL 2 (AC (.bl false)))
 (AH (AL 3 (AC .non))
 (AH (NQ IJ JC (AA (var 0) (AA (var 1) AD)) (only AMQ) (AL 2 (AC (.bl true))))
 (AH (NR IJ JC (AA (var 0) (AA (var 1) AD)) (only AMQ) 4 (AL 3 (BS (AA (Ie 4 (IV AMQ true)) (AA (Ie 4 (IV AMQ false)) AD)))))
 (AN (Fb (var 2) (bin2 Jn (var 3) (BS (AA (AC (.bl true)) (AA (AC (.bl false)) AD))))))))))
abbrev JA:GL:=Aa MJ JB 2
abbrev MG:AMB:=["_law_found"]
abbrev Ox:SF :=
 (AN (Fb (AJ Hr (AA (var 0) (AA (AC (.ty "int")) AD))) (LG (AJ Hr (AA (var 0) (AA (AC (.ty "bool")) AD))))))
abbrev Kj:GL:=Aa Ox MG 1
abbrev MD:AMB:=[AMg,AMd,AMi,AMj,"_law_examples_here","_law_kept","_law_due","_law_look","_law_ones","_law_others","_law_size","_law_far"]
abbrev RA:SF :=
 (AH (Iu (AJ Kb (AA (var 0) AD)) 4 (CK (Ab 1) (CK (Ab 2) (CK (Ab 3) (CK (Ab 4) FZ)))))
 (AH (Af (asT (bin2 BK (bin2 BJ (AJ zc (AA (var 0) (AA (AC (.int 3)) AD))) (AC (.int 6))) (AC (.int 1)))) (AL 4 (BS AD)) Ak)
 (AH (AL 5 (AJ Ko (AA (var 1) (AA (var 2) (AA (var 4) AD)))))
 (AH (AL 6 (AJ ze (AA (AJ zy (AA (var 1) (AA (var 4) AD))) AD)))
 (AH (Bg (BG (var 2)) (Ab 7) (AH (AL 8 (BY (BG (var 4)) 1 [7] (Ab 0) (asT (AJ zk (AA (var 1) (AA (bin2 AZ (var 0) (AC (.int 0))) AD)))) (var 0)))
 (AH (AL 9 (BY (BG (var 4)) 1 [7] (Ab 0) (Gd (asT (AJ zk (AA (var 1) (AA (bin2 AZ (var 0) (AC (.int 0))) AD))))) (var 0)))
 (AL 6 (bin2 Bf (var 6) (bin2 DR (AJ ze (AA (AJ zy (AA (var 1) (AA (var 8) AD))) AD)) (AJ ze (AA (AJ zy (AA (var 1) (AA (var 9) AD))) AD))))))))
 (AH (AL 10 (AJ JE (AA (var 5) AD)))
 (AH (Af (FV (Gd (asT (AJ Kj (AA (var 10) AD)))) (asT (bin2 HJ (var 10) (var 6)))) (AN (AC (.bl false))) Ak)
 (AH (AL 11 (bin2 AZ (BS (AA (AC (.int 0)) (AA (bin2 BJ (bin2 BQ (AJ zc (AA (var 0) (AA (AC (.int 3)) AD))) (AC (.int 6))) (AC (.int 9))) (AA (bin2 BQ (AJ zc (AA (var 0) (AA (AC (.int 3)) AD))) (AC (.int 6))) AD)))) (bin2 BJ (bin2 BQ (AJ zc (AA (var 0) (AA (AC (.int 3)) AD))) (AC (.int 6))) (AC (.int 3)))))
 (AN (Fb (AJ JA (AA (var 5) (AA (bin2 Bf (var 10) (var 11)) AD))) (Fb (AJ JA (AA (var 5) (AA (bin2 Gh (As Hq (AC (.int 1))) (var 11)) AD))) (bin2 BK (AJ JE (AA (var 5) AD)) (var 10)))))))))))))
abbrev JN:GL:=Aa RA MD 1
end L3
set_option maxHeartbeats 4000000
local macro_rules | `(tactic| wtm_at "z_lk") => `(tactic| first | (with_reducible assumption) | (with_reducible exact L3.AR) | ((with_reducible refine L3.AU ?_); wtm_at "z_lk") | ((with_reducible refine L3.CB ?_); wtm_at "z_lk") | fail)
local macro_rules | `(tactic| wtm_at "z_pf") => `(tactic| first | exact An _ | assumption | ((with_reducible refine List.IsPrefix.trans ?_ (Aj _ _)); wtm_at "z_pf") | ((with_reducible refine L3.Nk ?_ ?_); (focus wtm_at "z_pf"); (focus (first | exact Ac _ | simp))) | fail)
local macro_rules | `(tactic| wtm_at "z_1") => do let k1 := Lean.mkIdent `k1; let k2 := Lean.mkIdent `k2; let k3 := Lean.mkIdent `k3; let f := fun (t : Lean.TSyntax `tactic) (s : String) (ks : Array Lean.Ident) (xs : List (Lean.TSyntax `tactic)) => (do let ks ← ks.mapM fun k => `(?$k:ident); let y ← (s.splitOn " ").foldr (fun n t => do let t ← t; `(tactic| first | refine' $(Lean.mkCIdent (.str `L3 n)) $ks* ?_ | $t:tactic)) `(tactic| fail); let y ← `(tactic| with_reducible $y:tactic); let y ← xs.foldlM (fun y x => `(tactic| ($y:tactic; $x:tactic))) y; `(tactic| first | $y:tactic | $t:tactic) : Lean.MacroM (Lean.TSyntax `tactic)); let x0 := fun (k : Lean.Ident) => `(tactic| (case $k:ident => first | rfl | assumption | decide | omega | (simp only [Dd, List.length_nil]; omega))); let x1 := fun (k : Lean.Ident) => `(tactic| (case $k:ident => first | decide | omega)); let x2 := fun (k : Lean.Ident) => `(tactic| (case $k:ident => wtm_at "z_lk")); let x3 := fun (k : Lean.Ident) => `(tactic| (case $k:ident => with_unfolding_all rfl)); let x4 := fun (k : Lean.Ident) => `(tactic| (case $k:ident => (first | with_unfolding_all rfl | (refine L3.ty_of_lst (xs := ?y1) ?y2; (case y2 => wtm_at "z_lk")) | (refine L3.ty_of_dk (xs := ?y1) ?y2; (case y2 => wtm_at "z_lk"))))); let x5 := fun (k : Lean.Ident) => `(tactic| (case $k:ident => first | rfl | (unfold L3.Od; rw [CA]; constructor <;> refine decide_eq_true ?_ <;> omega))); let x6 := fun (k : Lean.Ident) => `(tactic| (case $k:ident => first | rfl | (unfold L3.Oa; refine decide_eq_true ?_; omega))); let t ← `(tactic| fail); let t ← f t "AKT" #[k1] [(← x0 k1)]; let t ← f t "AKS" #[k1] [(← x0 k1)]; let t ← f t "AIM AIL" #[k1] [(← x1 k1)]; let t ← f t "" #[k1, k2, k3] [(← x2 k1), (← x2 k2), (← x3 k3)]; let t ← f t "SU" #[k1, k2] [(← x2 k1), (← x3 k2)]; let t ← f t "AJy AH6 AJN" #[k1] [(← x2 k1)]; let t ← f t "AJa Xg" #[k1, k2, k3] [(← x2 k1), (← x3 k2), (← x3 k3)]; let t ← f t "AH4" #[k1, k2] [(← x2 k1), (← x3 k2)]; let t ← f t "AJW" #[k1, k2, k3] [(← x3 k1), (← x4 k2), (← x3 k3)]; let t ← f t "AJV" #[k1, k2, k3] [(← x3 k1), (← x4 k2), (← x3 k3)]; let t ← f t "AJP Uj AHX AJA AJE AI0" #[k1] [(← x2 k1)]; let t ← f t "AJb" #[k1] [(← x5 k1)]; let t ← f t "Xj" #[k1] [(← x6 k1)]; let t ← f t "Ub AHd AEU AJR SS AH3 AHQ" #[k1] [(← x3 k1)]; let t ← f t "Ks NL AHL AHH AHK AHN AHM RG RH AHy AHw AAi AHz AHr AH2 AHp AHm AHl AAj AHt AHv AH1 AHo AHq AHn AHs AH0 AHk AHx AHc AHT AHU AHW AHV AHb AJg AKM AKR AKN AKP AKQ AKO AI3 AI2 AH5 RF AHe AHf AFK AJB AJI AJM AJY AJZ AJe AJc AJK AJJ AJd AJT AJS AJX AJD AJO AJQ AJf AJL AJU AJF AJH AJG AHJ AHR AHI AHu AHP AAk AHO AHZ AHY AHa AHS AJC" #[] []; return t
local macro_rules | `(tactic| rfl') => `(tactic| wtm_at "z")
local macro_rules | `(tactic| wtm_at "z") => `(tactic| repeat' (wtm_at "z_1"))
namespace L3
open PySem PySem.Spec PyProof.Rows L2
abbrev Oo(n:Int):Prop:=n=1\/n=2\/n=-1\/n=-2
abbrev Ex(d:D):Prop:=∃(kind:Str) (nth:Int) (edge:Str),d=.tup [.str kind,.int nth,.str edge]/\Oo nth/\(edge = "ahead"\/edge = "behind")/\kind∈([("small":Str),"great","figure","mark","any"]:AMB)
def GD{Q:AMo}{L:AB}{ns:AMH}(hb:∀z∈ns,Builtin.Int.intBits z<=1048576)(hn:ns.length<=63){k:Int}(h0:0<=k)(h1:k<1000)(q:∀v:Int,0<=v->v<10000000000000000000000000000000000000000->Q (.int v) L):W2 (zc [.fz (ns.map .int),.int k] L) Q:=by
 have hC:Builtin.Int.intBits 2718281828459045235360287471352662497757<=132:=by decide
 have hlen:((ns.map D.int).length:Int)=ns.length:=by simp
 unfold zc;refine CG rfl ?_;unfold Pp;have fin:∀x:Int,0<=x % 10000000000000000000000000000000000000000/\x % 10000000000000000000000000000000000000000<10000000000000000000000000000000000000000:=λx=>⟨GW _ (by decide),GY _ (by decide)⟩;rfl';refine BU (λhk=>?_) (λhk=>?_)
 .obtain⟨z,hz,ez⟩:=Yp h0 (hlen▸hk);rfl';refine Xk ez ?_;rfl';refine Ek (Nv (m:=1048577) (PySem.intBits_add_le (m:=1048576) (n:=13) (hb z hz) (by decide)) hC (by decide)) ?_;rfl';exact⟨rfl,An _,q _ (fin _).1 (fin _).2⟩
 .rfl'
  have hkk:0<=k*k/\k*k<=1000000:=by have a1:k*k<=1000*1000:=Int.mul_le_mul (by omega) (by omega) h0 (by omega);exact⟨Int.mul_nonneg h0 h0,by omega⟩
  refine Ek (LH (by omega)) ?_;rfl';refine Ek (Ro (by omega)) ?_;rfl'
  have rest:∀v:Int,0<=v->v<100000000000000000000000000000000000000000000000->cMul v v=true/\∀x:Int,cMul (x % 2147483629) 2718281828459045235360287471352662497757=true:=λv a b=>by
   have hv:Builtin.Int.intBits v<=160:=Yg (by
    have:(v.natAbs:Int)<((2 ^ 160:Nat):Int):=by
     have e:((2 ^ 160:Nat):Int)=1461501637330902918203684832716283019655932542976:=by decide
     rw[e];omega
    exact Int.ofNat_lt.mp this)
   refine⟨Nv hv hv (by decide),λx=>LH ?_⟩;have:=GW x (b:=2147483629) (by decide);have:=GY x (b:=2147483629) (by decide);omega
  refine BU (λhl=>?_) (λhl=>?_)
  .have hpos:0<(ns.length:Int):=by omega
   rfl';refine Ek (Ro (by omega)) ?_;rfl';obtain⟨z,hz,ez⟩:=Yp (ns:=ns) (k:=k*7 % ((ns.map D.int).length:Int)) (GW _ (by omega)) (by have:=GY (k*7) (b:=((ns.map D.int).length:Int)) (by omega);omega);refine Xk ez ?_;rfl';refine Ek (Ro (by omega)) ?_;have hr:=fin z;rfl';obtain⟨f1,f2⟩:=rest (k*k*7919+5+z % 10000000000000000000000000000000000000000*48271) (by omega) (by omega);refine Ek f1 ?_;rfl';refine Ek (f2 _) ?_;rfl';exact⟨rfl,An _,q _ (fin _).1 (fin _).2⟩
  .rfl';obtain⟨f1,f2⟩:=rest (k*k*7919+5) (by omega) (by omega);refine Ek f1 ?_;rfl';refine Ek (f2 _) ?_;rfl';exact⟨rfl,An _,q _ (fin _).1 (fin _).2⟩
def Ej{L:AB}{Q:AMo}{k:Nat}{xs:List D}{n:Int}(c:Int)(e:L[k]?=some (.lst xs))(h0:0<n)(h:n<=xs.length)(q:∀d∈xs,Q d L):W2 (AZ (.ref k) (.int (c % n)) L) Q:=by obtain⟨d,hd,e2⟩:=Of (xs:=xs) c h0 h;exact EQ e e2 (q d hd)
def Wh{Q:AMo}{L:AB}(c:Int)(q:∀p,Ex p->Q p L):W2 (JI [.int c] L) Q:=by
 unfold JI;refine CG rfl ?_;unfold QV;rfl';refine Ej c AR (by decide) (by decide) λd hd=>?_;rfl';refine Ej (c / 5) AR (by decide) (by decide) λd2 hd2=>?_;rfl';refine Ej (c / 20) AR (by decide) (by decide) λd3 hd3=>?_;rfl';simp only[AW,DK,or_false] at hd hd2 hd3
 have hk:∃kind:Str,d=.str kind/\kind∈([("small":Str),"great","figure","mark","any"]:AMB):=by
  rcases hd with rfl|rfl|rfl|rfl|rfl
  .exact⟨_,rfl,by decide⟩
  .exact⟨_,rfl,by decide⟩
  .exact⟨_,rfl,by decide⟩
  .exact⟨_,rfl,by decide⟩
  .exact⟨_,rfl,by decide⟩
 have hn:∃n:Int,d2=.int n/\Oo n:=by
  rcases hd2 with rfl|rfl|rfl|rfl
  .exact⟨_,rfl,.inl rfl⟩
  .exact⟨_,rfl,.inr (.inl rfl)⟩
  .exact⟨_,rfl,.inr (.inr (.inl rfl))⟩
  .exact⟨_,rfl,.inr (.inr (.inr rfl))⟩
 have he:∃e:Str,d3=.str e/\(e = "ahead"\/e = "behind"):=by
  rcases hd3 with rfl|rfl
  .exact⟨_,rfl,.inl rfl⟩
  .exact⟨_,rfl,.inr rfl⟩
 obtain⟨kind,rfl,hk⟩:=hk;obtain⟨n,rfl,hn⟩:=hn;obtain⟨e,rfl,he⟩:=he;exact⟨rfl,by wtm_at "z_pf",q _ ⟨kind,n,e,rfl,hn,he,hk⟩⟩
def We{Q:AMo}{L:AB}(c most:Int)(h0:0<=most)(h1:most<=100)(q:∀t:Str,Ar t->(t.length:Int)<=most->Q (.str t) L):W2 (JJ [.int c,.int most] L) Q:=by
 unfold JJ;refine CG rfl ?_;unfold Qi;have hS:("abcdefghijklmnopqrstuvwxyzABCDEFGHIJKLMNOPQRSTUVWXYZ0123456789 -.,/":Str)=Sl:=rfl;rw[hS];have hz1:0<=c % (most+1):=GW _ (by omega);have hz2:c % (most+1)<most+1:=GY _ (by omega);rfl';refine Ej _ AR (by decide) (by decide) λd hd=>?_
 have hd':∃m:Str,d=.str m/\Ar m/\0<m.length/\m.length<=67:=by simp only[AW,DK,or_false] at hd;rcases hd with rfl|rfl|rfl|rfl <;> exact⟨_,rfl,by decide +kernel,by decide +kernel,by decide +kernel⟩
 obtain⟨m,rfl,hm1,hm2,hm3⟩:=hd';rfl';generalize hL:L++[Ob.lst [D.str "abAB12 -",D.str "aB 1",D.str "aab",D.str Sl]]=L1;have hpre:L <+: L1:=by rw[<-hL];exact Aj _ _
 refine Cu (λj ρ L'=>L'=L1/\∃(c':Int) (t:Str) (a:Option D),ρ=[some (.int c'),some (.int most),some (.str Sl),some (.str m),some (.int (c % (most+1))),some (.str t),a]/\Ar t/\t.length<=j) _ 0 _ _ ⟨rfl,_,_,_,rfl,by decide,by decide⟩ ?_ ?_
 .rintro i x ρ L' hx ⟨rfl,c',t,a,rfl,ht1,ht2⟩;obtain⟨hi,rfl⟩:=Ky hx;refine⟨rfl,?_⟩;rfl';obtain⟨k,hk1,hk2⟩:=Of (xs:=m.cps.toList) (n:=(m.length:Int)) c' (by omega) (by simp[Str.length]);refine SS hk2 ?_;have hone:(⟨#[k]⟩:Str).length=1:=rfl;refine OO (by rw[hone];omega) ?_;rfl';refine⟨rfl,_,_,_,rfl,ht1.app (.one (hm1 _ hk1)),?_⟩;rw[Oh,hone];omega
 .rintro ρ L' ⟨rfl,c',t,a,rfl,ht1,ht2⟩;refine⟨rfl,?_⟩;rfl';rw[Gb] at ht2;exact⟨rfl,hpre,q t ht1 (by omega)⟩
abbrev Er(ws:AMB):Prop:=ws.Nodup/\(∀w∈ws,Ar w/\0<w.length/\w.length<=8)/\ws.length<=6
def SI(w:Str):∀ws:AMB,DE (.str w) (ws.map D.str)=decide (w∈ws)
 |[]=>by simp[DE]
 |x::xs=>by
  have ih:=SI w xs;unfold DE at ih ⊢;rw[Ah,AKW,ih]
  have e:Jr (.str x) (.str w)=decide (w=x):=by
   show(x == w)=decide (w=x)
   by_cases h:w=x
   .subst h;simp
   .have:¬x=w:=λz=>h z.symm;simp[h,this]
  rw[e]
  by_cases h:w=x <;> simp[h]
def Xx(ws:AMB):(ws.map D.str).all BH=true:=by rw[List.all_map,DM];exact λ_ _=>rfl
def VL{t:Str}(h:t≠""):0<t.length:=by
 rcases Nat.eq_zero_or_pos t.length with h0|h0
 .exfalso;apply h;obtain⟨a⟩:=t;have:a=#[]:=Array.eq_empty_of_size_eq_zero h0;subst this;rfl
 .exact h0
def Ry{L L':AB}{o:Ob}(h:Ca L.length (L++[o]) L'):L <+: L':=by rw[List.prefix_iff_getElem?];intro j hj;rw[h.2 j (by omega) (by simp;omega),Dx hj];simp[hj]
def AD9{Q:AMo}{L:AB}(c:Int)(q:∀ws L',Er ws->L <+: L'->L'[L.length]?=some (.lst (ws.map D.str))->Q (.ref L.length) L'):W2 (Kk [.int c] L) Q:=by
 unfold Kk;refine EJ rfl ?_;unfold Qe;have m5:=GW c (b:=5) (by decide);have m5':=GY c (b:=5) (by decide);have m2:=GW c (b:=2) (by decide);have m2':=GY c (b:=2) (by decide);refine Ks (NL (AAj (AAi (AEU rfl ?_))));refine Ks (NL (RH (Ub rfl (RG (Xj rfl ?_)))));refine BD (λρ L'=>L'=L++[.lst []]/\∃n:Int,0<=n/\n<=6/\ρ=[some (.int c),some (.ref L.length),some (.int n),none,none,none]) ?_ ?_
 .rfl';refine BU (λh=>?_) (λh=>?_)
  .rfl';exact⟨rfl,_,by omega,by omega,rfl⟩
  .rfl';exact⟨rfl,_,m5,by omega,rfl⟩
 rintro ρ L' ⟨rfl,n,hn0,hn6,rfl⟩;rfl';refine Cu (λj ρ L'=>∃(ws:AMB) (p:Int) (a b:Option D),ρ=[some (.int c),some (.ref L.length),some (.int n),some (.int p),a,b]/\Ca L.length (L++[.lst []]) L'/\L'[L.length]?=some (.lst (ws.map D.str))/\ws.Nodup/\(∀w∈ws,Ar w/\0<w.length/\w.length<=8)/\ws.length<=j) _ 0 _ _ ⟨[],_,none,none,rfl,.refl _ _,AR,AKh,λ_ h=>(nomatch h),Ac _⟩ ?_ ?_
 .rintro i x ρ L' hx ⟨ws,p,a,b,rfl,hkp,hg,hnd,hw,hl⟩;obtain⟨hi,rfl⟩:=Ky hx;refine⟨rfl,RF ?_⟩;refine BD (λρ L2=>Ca L.length (L++[.lst []]) L2/\L2[L.length]?=some (.lst (ws.map D.str))/\∃t:Str,Ar t/\t.length<=8/\ρ=[some (.int c),some (.ref L.length),some (.int n),some (.int p),some (.int (0+(i:Int))),some (.str t)]) ?_ ?_
  .rfl';refine Ej _ AR (by decide) (by decide) λd hd=>?_
   have hd':∃m:Int,d=.int m/\0<=m/\m<=8:=by simp only[AW,DK,or_false] at hd;rcases hd with rfl|rfl|rfl|rfl <;> exact⟨_,rfl,by decide,by decide⟩
   obtain⟨m,rfl,hm0,hm8⟩:=hd';rfl';refine We _ _ hm0 (by omega) λt ht1 ht2=>?_;exact⟨hkp.trans (.app _ _ _),AU hg,t,ht1,by omega,rfl⟩
  rintro ρ L2 ⟨hkp2,hg2,t,ht1,ht2,rfl⟩;refine BD (λρ L3=>L3=L2/\∃t:Str,Ar t/\t.length<=8/\ρ=[some (.int c),some (.ref L.length),some (.int n),some (.int p),some (.int (0+(i:Int))),some (.str t)]) ?_ ?_
  .rfl';refine BU (λh=>?_) (λh=>?_)
   .rfl';exact⟨rfl,_,ht1.slice _ _,Bu (Txt.slice_le _ _ _) ht2,rfl⟩
   .rfl';exact⟨rfl,t,ht1,ht2,rfl⟩
  clear ht1 ht2 t;rintro ρ L3 ⟨rfl,t,ht1,ht2,rfl⟩;refine BD (λρ L4=>L4=L3/\∃t:Str,Ar t/\t.length<=8/\0<t.length/\ρ=[some (.int c),some (.ref L.length),some (.int n),some (.int p),some (.int (0+(i:Int))),some (.str t)]) ?_ ?_
  .rfl';refine BU (λh=>?_) (λh=>?_)
   .rfl';exact⟨rfl,"-",by decide +kernel,by decide,by decide,rfl⟩
   .rfl';exact⟨rfl,t,ht1,ht2,VL h,rfl⟩
  clear ht1 ht2 t;rintro ρ L4 ⟨rfl,w,hw1,hw2,hw3,rfl⟩;rfl';refine SR hg2 (by rw[Xx];rfl) ?_;rw[SI];rfl';refine BU (λhm=>?_) (λhm=>?_)
  .rfl';exact⟨ws,_,_,_,rfl,hkp2,hg2,hnd,hw,by omega⟩
  .rfl';refine HG hg2 (by simp;omega) ?_;rfl';refine⟨ws++[w],_,_,_,rfl,hkp2.trans (.set _ _ _),?_,?_,λy hy=>?_,by simp;omega⟩
   .rw[CB hg2];simp
   .rw[AKg];refine⟨hnd,by simp,λa ha b hb=>?_⟩;have:b=w:=by simpa using hb
    rw[this];rintro rfl;exact hm ha
   .rcases CF.mp hy with h|h
    .exact hw y h
    .have:y=w:=by simpa using h
     rw[this];exact⟨hw1,hw3,hw2⟩
 .rintro ρ L' ⟨ws,p,a,b,rfl,hkp,hg,hnd,hw,hl⟩;refine⟨rfl,?_⟩;rw[Gb] at hl;rfl';refine⟨rfl,q ws L' ⟨hnd,hw,by omega⟩ (Ry hkp) hg⟩
abbrev Hl(s:Str):D:=if Gf s "abcdefghijklmnopqrstuvwxyz"=true then .str "small" else if Gf s "ABCDEFGHIJKLMNOPQRSTUVWXYZ"=true then .str "great" else if Gf s "0123456789"=true then .str "figure" else if Gf s " -.,/"=true then .str "mark" else .non
def AEX{Q:AMo}{L:AB}(s:Str)(h:Q (Hl s) L):W2 (KY [.str s] L) Q:=by
 unfold KY;refine CG rfl ?_;unfold Hl at h;simp only[RB,Mj];rfl';refine HV rfl ?_;rfl';refine GH (λh1=>?_) (λh1=>?_)
 .rw[if_pos h1] at h;rfl';exact⟨rfl,An _,h⟩
 rw[if_neg (by simp[h1])] at h;rfl';refine HV rfl ?_;rfl';refine GH (λh1=>?_) (λh1=>?_)
 .rw[if_pos h1] at h;rfl';exact⟨rfl,An _,h⟩
 rw[if_neg (by simp[h1])] at h;rfl';refine HV rfl ?_;rfl';refine GH (λh1=>?_) (λh1=>?_)
 .rw[if_pos h1] at h;rfl';exact⟨rfl,An _,h⟩
 rw[if_neg (by simp[h1])] at h;rfl';refine HV rfl ?_;rfl';refine GH (λh1=>?_) (λh1=>?_)
 .rw[if_pos h1] at h;rfl';exact⟨rfl,An _,h⟩
 rw[if_neg (by simp[h1])] at h;rfl';refine RD rfl ?_;rfl';exact⟨rfl,An _,h⟩
abbrev DD(kind s:Str):Bool:=decide (kind = "any") || decide (Hl s=.str kind)
def AEY(s:Str):Hl s=.non\/∃k,Hl s=.str k:=by
 unfold Hl
 repeat' split
 all_goals first|exact .inl rfl|exact .inr ⟨_,rfl⟩
def XJ{Q:AMo}{L:AB}(kind s:Str)(h:Q (.bl (DD kind s)) L):W2 (IN [.str kind,.str s] L) Q:=by
 unfold IN;refine CG rfl ?_;unfold Qx;rfl';refine BU (λh1=>?_) (λh1=>?_)
 .have e:DD kind s=true:=by simp[DD,h1]
  rw[e] at h;exact⟨rfl,An _,h⟩
 .rfl';refine AEX _ ?_;have e:DD kind s=decide (Hl s=.str kind):=by simp[DD,h1]
  rw[e] at h;rcases AEY s with e|⟨k,e⟩
  .rw[e] at h ⊢;rfl';rw[decide_eq_false (by intro z;cases z)] at h;exact⟨rfl,An _,h⟩
  .rw[e] at h ⊢;rfl';rw[Ip (show D.str k=D.str kind↔k=kind by simp)] at h;exact⟨rfl,An _,h⟩
abbrev nums(p:Nat->Bool)(n:Nat):AMH:=(List.range n).filterMap λ(i:Nat)=>if p i=true then some (i:Int) else none
def ADr{p q:Nat->Bool}{n:Nat}(h:∀i,i<n->p i=q i):nums p n=nums q n:=by unfold nums;apply Lc;intro i hi;rw[h i (CN.mp hi)]
def ADq{p:Nat->Bool}{n:Nat}{z:Int}(h:z∈nums p n):0<=z/\z<n:=by
 unfold nums at h;rw[ALK] at h;obtain⟨i,hi,h⟩:=h;have:=CN.mp hi;split at h
 .cases h;omega
 .cases h
abbrev Ga(ns:AMH)(nth:Int)(b:Bool):Option D:=if (ns.length:Int)<(if nth<0 then -nth else nth) then some .non else (atI ns (if nth>0 then nth-1 else nth)).map λi=>.int (if b then i+1 else i)
def VS{Q:AMo}{L:AB}{kind edge y:Str}{nth:Int}{d:D}(hy:y.length<=1000)(e:Ga (nums (λi=>DD kind (sg y i)) y.cps.size) nth (!decide (edge = "ahead"))=some d)(h:Q d L):W2 (IM [.tup [.str kind,.int nth,.str edge],.str y] L) Q:=by
 unfold IM;refine CG rfl ?_;unfold Qu;rfl';have hy':y.cps.size<=1000:=hy;rw[AFo]
 refine JO (λρ=>∃a b,ρ=[a,b,some (.str kind)]) (λx=>match x with|.tup [.int i,.str s]=>if DD kind s=true then some (.int i) else none|_=>none) _ _ ⟨none,none,rfl⟩ (by simp;omega) ?_ ?_
 .rintro x hx ρ ⟨a,b,rfl⟩;rw[Aw] at hx;obtain⟨i,_,rfl⟩:=hx;rfl';refine⟨⟨_,_,rfl⟩,λacc=>?_⟩;rfl';refine XJ _ _ ?_;rfl';refine⟨rfl,GH (λh=>?_) (λh=>?_)⟩
  .rfl';exact⟨rfl,if_pos h⟩
  .exact if_neg (by rw[h];exact Cc)
 have ef:AKu (λx=>match x with|D.tup [.int i,.str s]=>if DD kind s=true then some (D.int i) else none|_=>none) ((List.range y.cps.size).map λ(i:Nat)=>D.tup [.int (i:Int),.str (sg y i)])=(nums (λi=>DD kind (sg y i)) y.cps.size).map D.int:=by rw[ALL];unfold nums;rw[List.map_filterMap];apply Lc;intro i _;simp only[Function.comp];split <;> simp
 rw[ef];generalize nums (λi=>DD kind (sg y i)) y.cps.size=ns at e ⊢;have hl:((ns.map D.int).length:Int)=ns.length:=by simp
 unfold Ga at e;rfl';rw[hl];refine BU (λhlt=>?_) (λhlt=>?_)
 .rw[if_pos hlt] at e;cases e;rfl';exact⟨rfl,Aj _ _,h⟩
 .rw[if_neg hlt] at e;rfl';obtain⟨i,q,e⟩:=mS e;cases e
  have q2:atI (ns.map D.int) (if nth>0 then nth-1 else nth)=some (.int i):=by rw[Yo,q];rfl
  refine BU (λhp=>?_) (λhp=>?_)
  .rw[if_pos hp] at q2;rfl';refine EQ AR q2 ?_;rfl';refine BU (λhe=>?_) (λhe=>?_)
   .rfl';rw[decide_eq_true he] at h;exact⟨rfl,Aj _ _,h⟩
   .rfl';rw[decide_eq_false he] at h;exact⟨rfl,Aj _ _,h⟩
  .rw[if_neg hp] at q2;rfl';refine EQ AR q2 ?_;rfl';refine BU (λhe=>?_) (λhe=>?_)
   .rfl';rw[decide_eq_true he] at h;exact⟨rfl,Aj _ _,h⟩
   .rfl';rw[decide_eq_false he] at h;exact⟨rfl,Aj _ _,h⟩
abbrev lawKind(s:Str):Str:=if Txt.islower s=true then "small" else if Txt.isupper s=true then "great" else if Txt.isdigit s=true then "figure" else "mark"
def Wj{Q:AMo}{L:AB}(s:Str)(h:Q (.str (lawKind s)) L):W2 (JH [.str s] L) Q:=by
 unfold JH;refine CG rfl ?_;unfold QQ;unfold lawKind at h;rfl';refine GH (λh1=>?_) (λh1=>?_)
 .rw[if_pos h1] at h;rfl';exact⟨rfl,An _,h⟩
 rw[if_neg (by simp[h1])] at h;rfl';refine GH (λh1=>?_) (λh1=>?_)
 .rw[if_pos h1] at h;rfl';exact⟨rfl,An _,h⟩
 rw[if_neg (by simp[h1])] at h;rfl';refine GH (λh1=>?_) (λh1=>?_)
 .rw[if_pos h1] at h;rfl';exact⟨rfl,An _,h⟩
 rw[if_neg (by simp[h1])] at h;rfl';exact⟨rfl,An _,h⟩
def XC:∀c∈Jw,Hl ⟨#[c]⟩=.str (lawKind ⟨#[c]⟩):=by decide +kernel
abbrev Di(kind s:Str):Bool:=decide (kind = "any") || decide (lawKind s=kind)
def WW{y:Str}(h:Ar y)(kind:Str):nums (λi=>DD kind (sg y i)) y.cps.size=nums (λi=>Di kind (sg y i)) y.cps.size:=by apply ADr;intro i hi;unfold DD Di sg;rw[XC _ (h.at hi)];simp
def ABn{y:Str}{i:Nat}(hi:i<y.cps.size):atI y.cps.toList (i:Int)=some (y.cps.getD i 0):=by apply Gm;simp[hi,Array.getD]
def Wf{Q:AMo}{L:AB}{kind edge y:Str}{nth:Int}{d:D}(hy:y.length<=1000)(e:Ga (nums (λi=>Di kind (sg y i)) y.cps.size) nth (decide (edge = "behind"))=some d)(h:Q d L):W2 (zr [.tup [.str kind,.int nth,.str edge],.str y] L) Q:=by
 unfold zr;refine CG rfl ?_;unfold QL;have hy':y.cps.size<=1000:=hy;have hyl:(y.length:Int)=(y.cps.size:Int):=rfl;rfl';rw[hyl,AKe,AB7]
 refine JO (λρ=>∃a,ρ=[a,some (.str kind),some (.str y)]) (λx=>match x with|.int i=>if Di kind (sg y i.toNat)=true then some (.int i) else none|_=>none) _ _ ⟨none,rfl⟩ (by simp;omega) ?_ ?_
 .rintro x hx ρ ⟨a,rfl⟩;rw[Aw] at hx;obtain⟨i,hi,rfl⟩:=hx;have hi':=CN.mp hi;have hat:atI y.cps.toList (i:Int)=some (y.cps.getD i 0):=ABn hi';rfl';refine⟨⟨_,rfl⟩,λacc=>?_⟩;rfl';refine BU (λh1=>?_) (λh1=>?_)
  .rfl';refine⟨rfl,?_⟩;rfl';exact⟨rfl,if_pos (by rw[AKe];simp[Di,h1])⟩
  .rfl';refine SS hat ?_;rfl';refine Wj _ ?_;rfl';refine⟨rfl,BU (λh2=>?_) (λh2=>?_)⟩
   .rfl';exact⟨rfl,if_pos (by rw[AKe];unfold Di sg;rw[decide_eq_true h2];simp)⟩
   .exact if_neg (by rw[AKe];unfold Di sg;rw[decide_eq_false h2,decide_eq_false h1];simp)
 have ef:AKu (λx=>match x with|D.int i=>if Di kind (sg y i.toNat)=true then some (D.int i) else none|_=>none) ((List.range y.cps.size).map λ(i:Nat)=>D.int (i:Int))=(nums (λi=>Di kind (sg y i)) y.cps.size).map D.int:=by rw[ALL];unfold nums;rw[List.map_filterMap];apply Lc;intro i _;simp only[Function.comp,AKe];split <;> simp
 rw[ef];generalize nums (λi=>Di kind (sg y i)) y.cps.size=ns at e ⊢;have hl:((ns.map D.int).length:Int)=ns.length:=by simp
 unfold Ga at e;rfl';rw[hl];refine BU (λhlt=>?_) (λhlt=>?_)
 .rw[if_pos hlt] at e;cases e;rfl';exact⟨rfl,Aj _ _,h⟩
 .rw[if_neg hlt] at e;rfl';obtain⟨i,q,e⟩:=mS e;cases e
  have q2:atI (ns.map D.int) (if nth>0 then nth-1 else nth)=some (.int i):=by rw[Yo,q];rfl
  have fin:(D.int (i+if decide (edge = "behind")=true then 1 else 0))=.int (if decide (edge = "behind")=true then i+1 else i):=by split <;> simp
  refine BU (λhp=>?_) (λhp=>?_)
  .rw[if_pos hp] at q2;rfl';refine EQ AR q2 ?_;rfl';rw[fin];exact⟨rfl,Aj _ _,h⟩
  .rw[if_neg hp] at q2;rfl';refine EQ AR q2 ?_;rfl';rw[fin];exact⟨rfl,Aj _ _,h⟩
def Nf(p:Nat->Bool)(m:Nat){n:Int}(hn:Oo n)(b:Bool):∃d,Ga (nums p m) n b=some d/\(d=.non\/∃i:Int,d=.int i/\0<=i/\i<=m):=by
 unfold Ga
 by_cases hlt:((nums p m).length:Int)<(if n<0 then -n else n)
 .rw[if_pos hlt];exact⟨_,rfl,.inl rfl⟩
 .rw[if_neg hlt]
  obtain⟨v,hv⟩:∃v,atI (nums p m) (if n>0 then n-1 else n)=some v:=Ym (by
   rcases hn with rfl|rfl|rfl|rfl <;> simp at hlt ⊢ <;> omega)
  rw[hv];have:=ADq (Yn hv);refine⟨_,rfl,.inr ⟨_,rfl,?_⟩⟩;cases b <;> simp <;> omega
def AIA{y:Str}{p:D}(hy:y.length<=1000)(hs:Ar y)(hp:Ex p):∃d,(d=.non\/∃i:Int,d=.int i/\0<=i/\i<=y.cps.size)/\(∀{Q:AMo} {L:AB},Q d L->W2 (IM [p,.str y] L) Q)/\(∀{Q:AMo} {L:AB},Q d L->W2 (zr [p,.str y] L) Q):=by
 obtain⟨kind,nth,edge,rfl,hn,he,_⟩:=hp;obtain⟨d,h1,h2⟩:=Nf (λi=>DD kind (sg y i)) y.cps.size hn (!decide (edge = "ahead"));refine⟨d,h2,λ{Q L} h=>VS hy h1 h,λ{Q L} h=>Wf hy ?_ h⟩;rw[<-WW hs];have e:(decide (edge = "behind"))=!decide (edge = "ahead"):=by rcases he with rfl|rfl <;> decide
 rw[e];exact h1
abbrev Lr(s:Str):Prop:=s = "copy"\/s = "raise"\/s = "sink"
abbrev HS(d:D):Prop:=(∃w:Str,d=.tup [.str "word",.str w]/\Ar w/\w.length<=8/\0<w.length)\/(∃(deed:Str) (p q:D),d=.tup [.str deed,p,q]/\Lr deed/\Ex p/\Ex q)
def Ex.noRef{p:D}(h:Ex p):p.noRef=true:=by obtain⟨_,_,_,rfl,_⟩:=h;rfl
def HS.noRef{p:D}(h:HS p):p.noRef=true:=by
 rcases h with⟨w,rfl,_⟩|⟨deed,p,q,rfl,_,hp,hq⟩
 .rfl
 .simp[D.noRef,D.noRefL,hp.noRef,hq.noRef]
def AGK:∀c∈Jw,c<128:=by decide
def Ar.ascii{x:Str}(h:Ar x):∀c∈x.cps.toList,c<128:=λc hc=>AGK c (h c hc)
def RK{x:Str}(h:Ar x):(Txt.upper x).length=x.length:=by rw[upper_ascii h.ascii];show(x.cps.map _).size=x.cps.size;simp
def Rr{x:Str}(h:Ar x):(Txt.lower x).length=x.length:=by rw[lower_ascii h.ascii];show(x.cps.map _).size=x.cps.size;simp
def VG:∀{xs:List D} {ys:AMB},CH xs=some ys->ys.length=xs.length
 |[],ys,h=>by cases h;rfl
 |x::xs,ys,h=>by
  cases x with
  |str s =>
   simp only[CH] at h
   cases e:CH xs with
   |none=>rw[e] at h;cases h
   |some a=>rw[e] at h;cases h;simp[VG e]
  |_=>simp[CH] at h
def VI:∀{xs:List D} {ys:AMB} {P:Str->Prop},CH xs=some ys->(∀s,D.str s∈xs->P s)->∀y∈ys,P y
 |[],ys,P,h,_=>by cases h;exact λ_ hy=>(nomatch hy)
 |x::xs,ys,P,h,hP=>by
  cases x with
  |str s =>
   simp only[CH] at h
   cases e:CH xs with
   |none=>rw[e] at h;cases h
   |some a =>
    rw[e] at h;cases h;intro y hy;rcases AW.mp hy with rfl|hy
    .exact hP y BC
    .exact VI e (λs hs=>hP s (Az _ hs)) y hy
  |_=>simp[CH] at h
def SJ:∀{xs:List D},(∀d∈xs,d=.non\/∃t,d=.str t)->DE .non xs=(CH xs).isNone
 |[],_=>rfl
 |x::xs,h=>by
  have ih:=SJ λd hd=>h d (Az _ hd);rcases h x BC with rfl|⟨t,rfl⟩
  .rfl
  .have:DE .non (.str t::xs)=DE .non xs:=rfl;rw[this,ih];simp only[CH];cases CH xs <;> rfl
abbrev Df(p:D)(y:Str):D:=match p with
 |.tup [.str kind,.int nth,.str edge]=>(Ga (nums (λi=>Di kind (sg y i)) y.cps.size) nth (decide (edge = "behind"))).getD .non
 |_=>.non
def Kw{kind edge y:Str}{nth:Int}:Df (.tup [.str kind,.int nth,.str edge]) y=(Ga (nums (λi=>Di kind (sg y i)) y.cps.size) nth (decide (edge = "behind"))).getD .non:=rfl
def Kx{p:D}(hp:Ex p)(y:Str):Df p y=.non\/∃i:Int,Df p y=.int i/\0<=i/\i<=y.length:=by obtain⟨kind,nth,edge,rfl,hn,he,_⟩:=hp;obtain⟨d,h1,h2⟩:=Nf (λi=>Di kind (sg y i)) y.cps.size hn (decide (edge = "behind"));simp only[Kw,h1,Option.getD_some];exact h2
def Wg{Q:AMo}{L:AB}{p:D}{y:Str}(hy:y.length<=1000)(hp:Ex p)(h:Q (Df p y) L):W2 (zr [p,.str y] L) Q:=by obtain⟨kind,nth,edge,rfl,hn,he,_⟩:=hp;obtain⟨d,h1,h2⟩:=Nf (λi=>Di kind (sg y i)) y.cps.size hn (decide (edge = "behind"));simp only[Kw,h1,Option.getD_some] at h;exact Wf hy h1 h
abbrev ET(deed:Str)(t:Str):Str:=if deed = "raise" then Txt.upper t else if deed = "sink" then Txt.lower t else t
abbrev Cp(y:Str)(pc:D):D:=match pc with
 |.tup [_,q]=>(match q with|.str w=>.str w|_=>.non)
 |.tup [a,p,q]=>(match a with|.str deed=>(match Df p y,Df q y with|.int i,.int j=>if j<=i then .non else .str (ET deed (Txt.slice y (some i) (some j)))|_,_=>.non)|_=>.non)
 |_=>.non
def No{y deed:Str}{p q:D}:Cp y (.tup [.str deed,p,q])=(match Df p y,Df q y with|.int i,.int j=>if j<=i then .non else .str (ET deed (Txt.slice y (some i) (some j)))|_,_=>.non):=rfl
def AF7{deed t:Str}(h:Ar t):(ET deed t).length=t.length:=by
 unfold ET;split
 .exact RK h
 .split
  .exact Rr h
  .rfl
def Np{y:Str}{pc:D}(hy:y.length<=1000)(hs:Ar y)(hp:HS pc):Cp y pc=.non\/∃t:Str,Cp y pc=.str t/\t.length<=1000:=by
 rcases hp with⟨w,rfl,h1,h2,_⟩|⟨deed,p,q,rfl,hd,hp,hq⟩
 .exact .inr ⟨w,rfl,by omega⟩
 .obtain⟨k,n,e,rfl,_⟩:=id hq;rw[No];rcases Kx hp y with e1|⟨i,e1,_⟩
  .rw[e1];exact .inl rfl
  .rcases Kx hq y with e2|⟨j,e2,_⟩
   .rw[e1,e2];exact .inl rfl
   .rw[e1,e2];simp only;split
    .exact .inl rfl
    .exact .inr ⟨_,rfl,by rw[AF7 (hs.slice _ _)];exact Bu (Txt.slice_le _ _ _) hy⟩
def Wi{Q:AMo}{L:AB}{y:Str}{pc:D}(hy:y.length<=1000)(hs:Ar y)(hp:HS pc)(h:Q (Cp y pc) L):W2 (zt [pc,.str y] L) Q:=by
 rcases hp with⟨w,rfl,h1,h2,_⟩|⟨deed,p,q,rfl,hd,hp,hq⟩
 .unfold zt;refine CG rfl ?_;unfold Lw;rfl';exact⟨rfl,An _,h⟩
 .have hnw:deed≠"word":=by rcases hd with rfl|rfl|rfl <;> decide
  obtain⟨k,n,e,rfl,_⟩:=id hq;rw[No] at h;unfold zt;refine CG rfl ?_;unfold Lw;rfl';refine Wg hy hp ?_;rfl';refine Wg hy hq ?_;rcases Kx hp y with e1|⟨i,e1,hi⟩
  .rw[e1] at h ⊢;rfl';exact⟨rfl,An _,h⟩
  rcases Kx hq y with e2|⟨j,e2,hj⟩
  .rw[e1,e2] at h ⊢;rfl';exact⟨rfl,An _,h⟩
  rw[e1,e2] at h ⊢;simp only at h
  by_cases hij:j<=i
  .rw[if_pos hij] at h;rfl';exact⟨rfl,An _,h⟩
  rw[if_neg hij] at h;have hts:=hs.slice (some i) (some j);have htl:(Txt.slice y (some i) (some j)).length<=1000:=Bu (Txt.slice_le _ _ _) hy;unfold ET at h;rfl';refine BU (λh1=>?_) (λh1=>?_)
  .rw[if_pos h1] at h;rfl';refine OM (by rw[RK hts];omega) ?_;exact⟨rfl,An _,h⟩
  rw[if_neg h1] at h;rfl';refine BU (λh2=>?_) (λh2=>?_)
  .rw[if_pos h2] at h;rfl';refine OM (by rw[Rr hts];omega) ?_;exact⟨rfl,An _,h⟩
  .rw[if_neg h2] at h;rfl';exact⟨rfl,An _,h⟩
abbrev JX(y:Str)(ps:List D):D:=match CH (ps.map (Cp y)) with|some ys=>.str (Txt.join "" ys)|none=>.non
def VB{y:Str}{ps:List D}{ys:AMB}(hy:y.length<=1000)(hs:Ar y)(hp:∀p∈ps,HS p)(e:CH (ps.map (Cp y))=some ys):(ys.map (·.length)).sum<=ps.length*1000:=by
 have hl:=VG e;rw[Ag] at hl;rw[<-hl];refine ABW λz hz=>VI (P:=λz=>z.length<=1000) e (λs hs'=>?_) z hz;rw[Aw] at hs';obtain⟨p,hp',e⟩:=hs';rcases Np hy hs (hp p hp') with h|⟨t,h,ht⟩
 .rw[h] at e;cases e
 .rw[h] at e;cases e;exact ht
def AED{Q:AMo}{L:AB}{y:Str}{ps:List D}(hy:y.length<=1000)(hs:Ar y)(hp:∀p∈ps,HS p)(hl:ps.length<=1000)(h:Q (JX y ps) L):W2 (zw [.tup ps,.str y] L) Q:=by
 unfold zw;refine CG rfl ?_;unfold Pk;rfl';refine JO (λρ=>∃a,ρ=[a,some (.str y)]) (λx=>some (Cp y x)) _ _ ⟨none,rfl⟩ (by omega) ?_ ?_
 .rintro x hx ρ ⟨a,rfl⟩;rfl';refine⟨⟨_,rfl⟩,λacc=>?_⟩;rfl';refine⟨rfl,?_⟩;rfl';refine Wi hy hs (hp x hx) ?_;exact⟨rfl,rfl⟩
 have ef:AKu (λx=>some (Cp y x)) ps=ps.map (Cp y):=by rw[<-ALf];rfl
 rw[ef]
 have hk:∀d∈ps.map (Cp y),d=.non\/∃t,d=.str t:=λd hd=>by
  rw[Aw] at hd;obtain⟨p,hp',rfl⟩:=hd;rcases Np hy hs (hp p hp') with e|⟨t,e,_⟩
  .exact .inl e
  .exact .inr ⟨t,e⟩
 have hfl:(BH .non&&(ps.map (Cp y)).all BH)=true:=by rw[CA,DM];refine⟨rfl,λd hd=>?_⟩;rcases hk d hd with rfl|⟨t,rfl⟩ <;> rfl
 rfl';refine Xm AR hfl ?_;rw[SJ hk];unfold JX at h
 cases e:CH (ps.map (Cp y)) with
 |none =>
  rw[e] at h;rfl';refine Sf rfl ?_;rfl';exact⟨rfl,Aj _ _,h⟩
 |some ys =>
  rw[e] at h;rfl';refine Li rfl ?_;rfl';have hsum:=VB hy hs hp e;have e0:(Str.ofString "").length=0:=rfl;refine AFH AR e (by rw[e0];omega) ?_;exact⟨rfl,Aj _ _,h⟩
abbrev HQ(ws:AMB)(d:D):Prop:=(∃w∈ws,d=.tup [.str "word",.str w])\/(∃(deed:Str) (p q:D),d=.tup [.str deed,p,q]/\Lr deed/\Ex p/\Ex q)
def HQ.piece{ws:AMB}{d:D}(hw:Er ws)(h:HQ ws d):HS d:=by
 rcases h with⟨w,hm,rfl⟩|h
 .exact .inl ⟨w,rfl,(hw.2.1 w hm).1,(hw.2.1 w hm).2.2,(hw.2.1 w hm).2.1⟩
 .exact .inr h
def AEF{Q:AMo}{L:AB}{k:Nat}{ws:AMB}(c:Int)(hk:L[k]?=some (.lst (ws.map D.str)))(hw:Er ws)(q:∀p,HQ ws p->Q p L):W2 (Kh [.int c,.ref k] L) Q:=by
 unfold Kh;refine CG rfl ?_;refine BD (λρ L'=>L'=L/\ρ=[some (.int c),some (.ref k),none]) ?_ ?_
 .rfl';refine BU (λh7=>?_) (λh7=>?_)
  .rfl';refine BU (λhl=>?_) (λhl=>?_)
   .rfl';refine Ej _ hk (by omega) (Int.le_refl _) λd hd=>?_;rw[Aw] at hd;obtain⟨w,hm,rfl⟩:=hd;rfl';exact⟨rfl,An _,q _ (.inl ⟨w,hm,rfl⟩)⟩
   .rfl';exact⟨rfl,rfl⟩
  .rfl';exact⟨rfl,rfl⟩
 rintro ρ L' ⟨rfl,rfl⟩;rfl';refine Ej _ AR (by decide) (by decide) λd hd=>?_
 have hd':∃m:Str,d=.str m/\Lr m:=by
  simp only[AW,DK,or_false] at hd;rcases hd with rfl|rfl|rfl|rfl
  .exact⟨_,rfl,.inl rfl⟩
  .exact⟨_,rfl,.inr (.inl rfl)⟩
  .exact⟨_,rfl,.inr (.inr rfl)⟩
  .exact⟨_,rfl,.inl rfl⟩
 obtain⟨m,rfl,hm⟩:=hd';rfl';refine Wh _ λp1 hp1=>?_;rfl';refine Wh _ λp2 hp2=>?_;rfl';have hP:HQ ws (.tup [.str m,p1,p2]):=.inr ⟨m,p1,p2,rfl,hm,hp1,hp2⟩;exact⟨(hP.piece hw).noRef,by wtm_at "z_pf",q _ hP⟩
abbrev EA(ts:AMB):Prop:=∀y∈ts,Ar y/\y.length<=100
abbrev Iz(ts:AMB)(d:D):Prop:=∀y∈ts,∃t,Cp y d=.str t
abbrev HW(deed:Str):D:=.tup [.str deed,.tup [.str "any",.int 1,.str "ahead"],.tup [.str "any",.int (-1),.str "behind"]]
def AGr:Ex (.tup [.str "any",.int 1,.str "ahead"]):=⟨"any",1,"ahead",rfl,.inl rfl,.inl rfl,by decide⟩
def AGq:Ex (.tup [.str "any",.int (-1),.str "behind"]):=⟨"any",-1,"behind",rfl,.inr (.inr (.inl rfl)),.inr rfl,by decide⟩
def WV(y:Str):nums (λi=>Di "any" (sg y i)) y.cps.size=(List.range y.cps.size).map λ(i:Nat)=>(i:Int):=by
 unfold nums;rw[<-ALf];apply Lc;intro i _;have:Di "any" (sg y i)=true:=by simp[Di]
 simp only[this,if_true];rfl
def AAc{deed y:Str}(hd:Lr deed)(hy:y≠""):∃t,Cp y (HW deed)=.str t:=by
 have hpos:0<y.cps.size:=VL hy
 have e1:Df (.tup [.str "any",.int 1,.str "ahead"]) y=.int 0:=by
  simp only[Kw,WV];unfold Ga;rw[if_neg (by simp;omega)]
  have:atI ((List.range y.cps.size).map λ(i:Nat)=>(i:Int)) (if (1:Int)>0 then 1-1 else 1)=some 0:=by have:=Gm (xs:=(List.range y.cps.size).map λ(i:Nat)=>(i:Int)) (j:=0) (v:=0) (by simp[AK0,hpos]);simpa using this
  rw[this];have:decide (("ahead":Str) = "behind")=false:=by decide
  simp[this]
 have e2:Df (.tup [.str "any",.int (-1),.str "behind"]) y=.int (y.cps.size:Int):=by
  simp only[Kw,WV];unfold Ga;rw[if_neg (by simp;omega)]
  have:atI ((List.range y.cps.size).map λ(i:Nat)=>(i:Int)) (if (-1:Int)>0 then -1-1 else -1)=some ((y.cps.size:Int)-1):=by
   have hs:y.cps.size=(y.cps.size-1)+1:=by omega
   rw[hs,ALg,Co];have:=AGl ((List.range (y.cps.size-1)).map λ(i:Nat)=>(i:Int)) (((y.cps.size-1:Nat):Int));simp only[Ah,AK9];rw[if_neg (by decide),this]
   congr 1
   omega
  rw[this];have:decide (("behind":Str) = "behind")=true:=by decide
  simp
 unfold HW;simp only[No,e1,e2];exact⟨_,by rw[if_neg (by omega)]⟩
def Yv{ts:AMB}{d:D}(ht:EA ts)(hp:HS d):(CH (ts.map λy=>Cp y d)).isNone=false↔Iz ts d:=by
 induction ts with
 |nil=>simp[CH,Iz]
 |cons y r ih =>
  have ih:=ih λz hz=>ht z (Az _ hz);have hy:=ht y BC;rw[Ah];rcases Np (by omega) hy.1 hp with e|⟨t,e,_⟩
  .rw[e];simp only[CH,Option.isNone_none,Bool.true_eq_false,false_iff];intro h;obtain⟨t,h⟩:=h y BC;rw[e] at h;cases h
  .rw[e];simp only[CH,Option.isNone_map,ih];constructor
   .intro h z hz;rcases AW.mp hz with rfl|hz
    .exact⟨t,e⟩
    .exact h z hz
   .exact λh z hz=>h z (Az _ hz)
def AEI{Q:AMo}{L:AB}{k t:Nat}{ws ts:AMB}(c:Int)(hk:L[k]?=some (.lst (ws.map D.str)))(htx:L[t]?=some (.lst (ts.map D.str)))(hw:Er ws)(ht:EA ts)(hl:ts.length<=1000)
  (hne:ws≠[]\/∀y∈ts,y≠"") (q:∀p,HQ ws p->Iz ts p->Q p L):W2 (Kg [.int c,.ref k,.ref t] L) Q:=by
 unfold Kg;refine CG rfl ?_;unfold QG;have wordAns:∀w:Str,Iz ts (.tup [.str "word",.str w]):=λw y _=>⟨w,rfl⟩;rfl';refine AEF _ hk hw λp hp=>?_;rcases hp with⟨w,hm,rfl⟩|⟨deed,p1,p2,rfl,hd,hp1,hp2⟩
 .rfl';exact⟨rfl,An _,q _ (.inl ⟨w,hm,rfl⟩) (wordAns w)⟩
 have hnw:deed≠"word":=by rcases hd with rfl|rfl|rfl <;> decide
 rfl';have hW:(D.tup [D.str deed,D.tup [D.str "any",D.int 1,D.str "ahead"],D.tup [D.str "any",D.int (-1),D.str "behind"]])=HW deed:=rfl
 have hin:∀x∈[D.tup [.str deed,p1,p2],.tup [.str deed,p2,p1],HW deed],HQ ws x:=λx hx=>by
  simp only[AW,DK,or_false] at hx;rcases hx with rfl|rfl|rfl
  .exact .inr ⟨deed,p1,p2,rfl,hd,hp1,hp2⟩
  .exact .inr ⟨deed,p2,p1,rfl,hd,hp2,hp1⟩
  .exact .inr ⟨deed,_,_,rfl,hd,AGr,AGq⟩
 rw[hW];generalize hxs:[D.tup [.str deed,p1,p2],.tup [.str deed,p2,p1],HW deed]=xs at hin ⊢;have hlast:xs[2]?=some (HW deed):=by rw[<-hxs];rfl
 have hlen:xs.length=3:=by rw[<-hxs];rfl
 refine Cu (λj ρ L'=>L++[Ob.lst xs] <+: L'/\(3<=j->∃y∈ts,y = "")/\∃a:Option D,ρ=[some (.int c),some (.ref k),some (.ref t),some (.tup [.str deed,p1,p2]),some (HW deed),a]) _ 0 _ _ ⟨An _,λh=>by omega,none,rfl⟩ ?_ ?_
 .rintro i x ρ L' hx ⟨hpre,_,a,rfl⟩;have hxp:=hin x (Bv hx);have hxi:=hxp.piece hw;have htx':=Ch hpre (AU (M:=[Ob.lst xs]) htx);refine⟨decide_eq_true (Ch hpre AR),?_⟩;rfl';have hfin:∀p:Prop,p->p:=λ_ h=>h
  have comp:W1 (Cr (λL''=>decide (L''[t]?=some (Ob.lst (ts.map D.str)))) (Ab 0) Cg (AJ zt (AA (var 1) (AA (var 0) AD))) L'.length (ts.map D.str) [none,some x] (L'++[Ob.lst []])) (λL2=>L2=L'++[Ob.lst (ts.map λy=>Cp y x)]):=by
   refine FS (I:=λj ρ L2=>(∃a,ρ=[a,some x])/\L2=L'++[Ob.lst ((ts.take j).map λy=>Cp y x)]) _ 0 _ _ ⟨⟨none,rfl⟩,rfl⟩ ?_ ?_
   .rintro i2 z ρ L2 hz ⟨⟨a,rfl⟩,rfl⟩;rw[Av] at hz;obtain⟨y,hy,hz⟩:=mS hz;cases hz;have hyt:=ht y (Bv hy);have hi2:i2<ts.length:=(BA.mp hy).1;have htk:ts.take (0+i2+1)=ts.take (0+i2)++[y]:=by rw[Bh,GV,hy];rfl
    refine⟨decide_eq_true (AU htx'),?_⟩;rfl';refine Wi (by omega) hyt.1 hxi ?_;refine⟨_,AR,by simp;omega,⟨_,rfl⟩,?_⟩;rw[htk];simp
   .rintro ρ L2 ⟨_,rfl⟩;refine⟨decide_eq_true (AU htx'),?_⟩;simp
  obtain⟨L2,ec,rfl⟩:=comp;refine⟨_,ec,?_⟩
  have hk2:∀d∈ts.map (λy=>Cp y x),d=.non\/∃t,d=.str t:=λd hd=>by
   rw[Aw] at hd;obtain⟨y,hy,rfl⟩:=hd;rcases Np (by have:=ht y hy;omega) (ht y hy).1 hxi with e|⟨t,e,_⟩
   .exact .inl e
   .exact .inr ⟨t,e⟩
  have hfl:(BH .non&&(ts.map (λy=>Cp y x)).all BH)=true:=by rw[CA,DM];refine⟨rfl,λd hd=>?_⟩;rcases hk2 d hd with rfl|⟨t,rfl⟩ <;> rfl
  refine SR AR hfl ?_;rw[SJ hk2];rfl';refine GH (λh=>?_) (λh=>?_)
  .rfl';refine⟨hpre.trans (Aj _ _),λh3=>?_,_,rfl⟩;have:i=2:=by have:=(BA.mp hx).1;omega
   subst this;rw[hlast] at hx;cases hx;refine Classical.byContradiction λhno=>?_;have:Iz ts (HW deed):=λy hy=>AAc hd λe=>hno ⟨y,hy,e⟩;rw[(Yv ht hxi).mpr this] at h;cases h
  .rfl';exact⟨hxi.noRef,(Aj _ _).trans (hpre.trans (Aj _ _)),q _ hxp ((Yv ht hxi).mp h)⟩
 .rintro ρ L' ⟨hpre,h3,a,rfl⟩;have hk':=Ch hpre (AU (M:=[Ob.lst xs]) hk);refine⟨decide_eq_true (Ch hpre AR),?_⟩
  have hwne:ws≠[]:=by
   rcases hne with h|h
   .exact h
   .obtain⟨y,hy,e⟩:=h3 (by omega);exact absurd e (h y hy)
  have hwl:0<ws.length:=List.length_pos_iff.mpr hwne;have hwl':(((ws.map D.str).length:Nat):Int)=ws.length:=by simp
  rfl';refine Ej _ hk' (by omega) (Int.le_refl _) λd hd=>?_;rw[Aw] at hd;obtain⟨w,hm,rfl⟩:=hd;rfl';exact⟨rfl,(Aj _ _).trans hpre,q _ (.inl ⟨w,hm,rfl⟩) (wordAns w)⟩
abbrev HP(ws ts:AMB)(ps:List D):Prop:=(∀p∈ps,HQ ws p)/\(∀p∈ps,Iz ts p)/\0<ps.length/\ps.length<=3
def Rm:∀{ps:List D},(∀p∈ps,p.noRef=true)->D.noRefL ps=true
 |[],_=>rfl
 |p::ps,h=>by rw[D.noRefL,h p BC,Rm λq hq=>h q (Az _ hq)];rfl
def Rq{Q:AMo}{L:AB}{k t:Nat}{ws ts:AMB}(c:Int)(hk:L[k]?=some (.lst (ws.map D.str)))(htx:L[t]?=some (.lst (ts.map D.str)))(hw:Er ws)(ht:EA ts)(hl:ts.length<=1000)
  (hne:ws≠[]\/∀y∈ts,y≠"") (q:∀ps,HP ws ts ps->Q (.tup ps) L):W2 (zu [.int c,.ref k,.ref t] L) Q:=by
 unfold zu;refine CG rfl ?_;unfold QC;have hm:=GW c (b:=3) (by decide);have hm':=GY c (b:=3) (by decide);have hkl:k<L.length:=(BA.mp hk).1;have htl:t<L.length:=(BA.mp htx).1;rfl';refine Cu (λj ρ L'=>∃(ps:List D) (p:Int) (a b:Option D),ρ=[some (.int c),some (.ref k),some (.ref t),some (.ref L.length),some (.int p),a,b]/\L'=L++[Ob.lst ps]/\(∀p∈ps,HQ ws p)/\(∀p∈ps,Iz ts p)/\ps.length=j) _ 0 _ _ ⟨[],_,none,none,rfl,rfl,λ_ h=>(nomatch h),λ_ h=>(nomatch h),rfl⟩ ?_ ?_
 .rintro i x ρ L' hx ⟨ps,p,a,b,rfl,rfl,h1,h2,h3⟩;obtain⟨hi,rfl⟩:=Ky hx;refine⟨rfl,?_⟩;rfl';refine AEI _ (AU hk) (AU htx) hw ht hl hne λd hd1 hd2=>?_
  have hnn:Hm d=false:=by rcases hd1 with⟨w,_,rfl⟩|⟨_,_,_,rfl,_⟩ <;> rfl
  rfl';refine Li hnn ?_;rfl';refine HG AR (by omega) ?_;rfl';refine⟨ps++[d],_,_,_,rfl,by simp,λr hr=>?_,λr hr=>?_,by simp;omega⟩
  .rcases CF.mp hr with h|h
   .exact h1 r h
   .have:r=d:=by simpa using h
    rw[this];exact hd1
  .rcases CF.mp hr with h|h
   .exact h2 r h
   .have:r=d:=by simpa using h
    rw[this];exact hd2
 .rintro ρ L' ⟨ps,p,a,b,rfl,rfl,h1,h2,h3⟩;refine⟨rfl,?_⟩;rw[Gb] at h3;rfl';have hR:HP ws ts ps:=⟨h1,h2,by omega,by omega⟩;refine⟨?_,Aj _ _,q ps hR⟩;rw[D.noRef];exact Rm λp hp=>((h1 p hp).piece hw).noRef
def ABf(x:Str)(n:Int)(h:0<=n):((Txt.slice x none (some n)).length:Int)<=n:=by
 have hs:∀k:Nat,(Builtin.Str.strSliceIndices none (some (k:Int)) 1 x.length).length<=k:=λk=>by
  unfold Builtin.Str.strSliceIndices sliceRange;simp only[show(1:Int)>0 by decide,if_true,Ag,List.length_range]
  split <;> (try split) <;> (try simp only[Int.ediv_one]) <;> omega
 have hn:((n.toNat:Nat):Int)=n:=by omega
 rw[<-hn];have:=hs n.toNat;unfold Txt.slice;split
 .rename_i h;simp only[CA,beq_iff_eq] at h;omega
 .show(((AKu _ (Builtin.Str.strSliceIndices none (some (n.toNat:Int)) 1 x.length)).toArray.size:Nat):Int)<=_;rw[Bi];have:=List.length_filterMap_le (λx_1=>x.cps[x_1]?) (Builtin.Str.strSliceIndices none (some (n.toNat:Int)) 1 x.length);omega
def AAe{g:GF}{elt:EF}{L0:AB}{Q:AB->Prop}(P:Fm->Prop)(E:D->Prop){items:List D}{ρ:Fm}(hp:P ρ)(hz:items.length<=16777216)
  (h:∀x∈items,∀ρ,P ρ->W1 (g x ρ) λρ1=>P ρ1/\∀acc,W2 (elt ρ1 (L0++[.lst acc])) λd L2=>L2=L0++[.lst acc]/\E d)
  (q:∀ds:List D,ds.length=items.length->(∀d∈ds,E d)->Q (L0++[.lst ds])):W1 (Cr (λ_=>true) g Cg elt L0.length items ρ (L0++[.lst []])) Q:=by
 refine FS (I:=λj ρ L=>P ρ/\∃ds:List D,ds.length=j/\(∀d∈ds,E d)/\L=L0++[.lst ds]) items 0 ρ _ ⟨hp,[],rfl,λd hd=>(nomatch hd),rfl⟩ ?_ ?_
 .rintro i x ρ L e ⟨hp,ds,hl,hE,rfl⟩;refine⟨rfl,?_⟩;have hi:i<items.length:=(BA.mp e).1;obtain⟨ρ1,e1,hp1,h2⟩:=h x (Bv e) ρ hp;obtain⟨d,L2,e3,rfl,q⟩:=h2 ds;refine⟨ρ1,e1,true,_,rfl,d,_,e3,ds,by simp,by omega,hp1,ds++[d],by simp;omega,λz hz=>?_,by simp⟩;rcases CF.mp hz with h|h
  .exact hE z h
  .have:z=d:=by simpa using h
   rw[this];exact q
 .rintro ρ L ⟨_,ds,hl,hE,rfl⟩;exact⟨rfl,q ds (by omega) hE⟩
def AEB{Q:AMo}{L:AB}{ns:AMH}(hb:∀z∈ns,Builtin.Int.intBits z<=1048576)(hn:ns.length<=63)(st most:Int)(h0:0<=st)(h1:st<=20)(h2:0<=most)(h3:most<=24)
  (q:∀ts L',ts.Nodup->EA ts->0<ts.length->ts.length<=6->∀k,L <+: L'->L'[k]?=some (.lst (ts.map D.str))->Q (.ref k) L'):W2 (Kc [.fz (ns.map .int),.int st,.int most] L) Q:=by
 unfold Kc;refine EJ rfl ?_;unfold Pa;have hlen:((ns.map D.int).length:Int)=ns.length:=by simp
 refine BD (λρ L'=>L'=L/\∃c:Int,0<=c/\ρ=[some (.fz (ns.map .int)),some (.int st),some (.int most),some (.int c),none,none,none,none,none,none,none,none]) ?_ ?_
 .rfl';exact GD hb hn h0 (by omega) λc hc1 hc2=>⟨rfl,c,hc1,rfl⟩
 rintro ρ L' ⟨rfl,c,hc1,rfl⟩;have c3:=GW c (b:=3) (by decide);have c3':=GY c (b:=3) (by decide);refine Ks (NL (RH (RG (RH (Ub rfl (RG (Xj rfl (AFK ?_))))))));refine BD (λρ L2=>L2=L'/\∃m n:Int,0<=m/\m<=24/\1<=n/\n<=6/\ρ=[some (.fz (ns.map .int)),some (.int st),some (.int m),some (.int c),some (.int n),none,none,none,none,none,none,none]) ?_ ?_
 .rfl';refine BU (λh=>?_) (λh=>?_)
  .rfl';exact⟨rfl,_,_,by split <;> omega,by split <;> omega,by omega,by omega,rfl⟩
  .rfl';exact⟨rfl,_,_,h2,h3,by omega,by omega,rfl⟩
 rintro ρ L' ⟨rfl,m,n,hm0,hm1,hn1,hn6,rfl⟩;refine BD (λρ L1=>L1=L'++[Ob.lst (AKa n.toNat (D.str ""))]/\ρ=[some (.fz (ns.map .int)),some (.int st),some (.int m),some (.int c),some (.int n),some (.ref L'.length),none,none,none,none,none,none]) ?_ ?_
 .rfl';refine JO (λρ=>∃a,ρ=[a]) (λ_=>some (D.str "")) _ _ ⟨none,rfl⟩ (by rw[Gb];omega) ?_ ?_
  .rintro x hx ρ ⟨a,rfl⟩;rfl';refine⟨⟨_,rfl⟩,λacc=>?_⟩;rfl';refine⟨rfl,?_⟩;rfl';exact⟨rfl,rfl⟩
  .have e:AKu (λ_=>some (D.str "")) (EM 0 n.toNat)=AKa n.toNat (D.str ""):=by
    have:∀l:List D,AKu (λ_=>some (D.str "")) l=AKa l.length (D.str ""):=λl=>by
     induction l with
     |nil=>rfl
     |cons x r ih=>rw[AK5,ih];rfl
    rw[this,Gb]
   rw[e];exact⟨rfl,rfl⟩
 rintro ρ L1 ⟨rfl,rfl⟩;refine BD (λρ L1=>L' <+: L1/\∃(sm:Str) (rows:AMB),Ar sm/\0<sm.length/\sm.length<=20/\L1[L'.length]?=some (.lst (rows.map D.str))/\rows.length=n.toNat/\(∀y∈rows,y = "")/\ρ=[some (.fz (ns.map .int)),some (.int st),some (.int m),some (.int c),some (.int n),some (.ref L'.length),some (.str sm),none,none,none,none,none]) ?_ ?_
 .rfl';refine Ej _ AR (by decide) (by decide) λd hd=>?_
  have hd':∃s:Str,d=.str s/\Ar s/\0<s.length/\s.length<=20:=by simp only[AW,DK,or_false] at hd;rcases hd with rfl|rfl|rfl|rfl <;> exact⟨_,rfl,by decide +kernel,by decide +kernel,by decide +kernel⟩
  obtain⟨sm,rfl,e1,e2,e3⟩:=hd';refine⟨by wtm_at "z_pf",sm,AKa n.toNat "",e1,e2,e3,?_,by simp,λy hy=>List.eq_of_mem_replicate hy,rfl⟩;rw[List.map_replicate];exact AU AR
 rintro ρ L1 ⟨hpre,sm,rows,hs1,hs2,hs3,hg,hrl,hre,rfl⟩
 -- the rows,filled
 refine BD (λρ L2=>L' <+: L2/\∃(r:Nat) (rows:AMB) (a b e:Option D),L2[r]?=some (.lst (rows.map D.str))/\rows.length=n.toNat/\EA rows/\L'.length<=r/\ρ=[some (.fz (ns.map .int)),some (.int st),some (.int m),some (.int c),some (.int n),some (.ref r),some (.str sm),a,b,e,none,none]) ?_ ?_
 .rfl';refine BU (λh=>?_) (λh=>?_)
  .rfl';refine AAe (λρ=>∃a,ρ=[a,some (.int m),some (.fz (ns.map .int)),some (.int st)]) (λd=>∃s:Str,d=.str s/\Ar s/\s.length<=100) ⟨none,rfl⟩ (by rw[Gb];omega) ?_ ?_
   .rintro x hx ρ ⟨a,rfl⟩;obtain⟨i,hi,rfl⟩:=AB8 hx;rfl';refine⟨⟨_,rfl⟩,λacc=>?_⟩;rfl';refine GD hb hn (by omega) (by omega) λv hv1 hv2=>?_;rfl';refine We _ _ hm0 (by omega) λt ht1 ht2=>?_;exact⟨rfl,t,rfl,ht1,by omega⟩
   .intro ds hd hE;rw[Gb] at hd;obtain⟨ys,_,e3⟩:=VF λd hd=>let ⟨s,a,_⟩:=hE d hd;⟨s,a⟩;refine⟨hpre.trans (Aj _ _),L1.length,ys,none,none,none,by rw[<-e3];exact AR,by rw[<-hd,e3];simp,λy hy=>?_,hpre.length_le,rfl⟩;obtain⟨s,a,b,c⟩:=hE (.str y) (by rw[e3];exact Cz hy);cases a;exact⟨b,c⟩
  .rfl';refine Ek (LH (by omega)) ?_;have hmn:0<=m*n/\m*n<=24*6:=⟨Int.mul_nonneg hm0 (by omega),Int.mul_le_mul hm1 hn6 (by omega) (by omega)⟩;rfl'
   generalize hN:((if st+1+m*n<((List.map D.int ns).length:Int) then st+1+m*n else ((List.map D.int ns).length:Int))-(st+1)).toNat=Bd
   have hcnt:Bd<=63:=by rw[<-hN];split <;> omega
   clear hN hmn;refine Cu (λj ρ L2=>L' <+: L2/\∃(rows:AMB) (a b e:Option D),L2[L'.length]?=some (.lst (rows.map D.str))/\rows.length=n.toNat/\(∀y∈rows,Ar y/\y.length<=j)/\ρ=[some (.fz (ns.map .int)),some (.int st),some (.int m),some (.int c),some (.int n),some (.ref L'.length),some (.str sm),a,b,e,none,none]) _ 0 _ _ ⟨hpre,rows,none,none,none,hg,hrl,λy hy=>by rw[hre y hy];exact⟨by decide,by decide⟩,rfl⟩ ?_ ?_
   .rintro i x ρ L2 hx ⟨hpre2,rows,a,b,e,hg2,hrl2,hr2,rfl⟩;obtain⟨hi,rfl⟩:=Ky hx;refine⟨rfl,?_⟩;rfl';refine GD hb hn (by omega) (by omega) λv hv1 hv2=>?_;rfl';obtain⟨sg0,hk1,hk2⟩:=Of (xs:=sm.cps.toList) (n:=(sm.length:Int)) v (by omega) (by simp[Str.length]);refine SS hk2 ?_;rfl';obtain⟨d,hd,ed⟩:=Of (xs:=rows.map D.str) (n:=n) (st+1+(i:Int)) (by omega) (by simp;omega);rw[Aw] at hd;obtain⟨y,hy,rfl⟩:=hd;refine EQ hg2 ed ?_;rfl';have hone:(⟨#[sg0]⟩:Str).length=1:=rfl;have hy2:=hr2 y hy;refine OO (by rw[hone];omega) ?_;rfl';have a0:=GW (st+1+(i:Int)) (b:=n) (by omega);have a1:=GY (st+1+(i:Int)) (b:=n) (by omega)
    have hix:ixN (rows.map D.str).length ((st+1+(i:Int)) % n)=some ((st+1+(i:Int)) % n).toNat:=by unfold ixN;rw[if_pos a0,if_pos (by simp;omega)]
    refine Xi hg2 hix ?_;refine⟨Nk hpre2 (Ac _),rows.set ((st+1+(i:Int)) % n).toNat (y++⟨#[sg0]⟩),_,_,_,?_,by simp[hrl2],λz hz=>?_,rfl⟩
    .rw[CB hg2,List.map_set]
    .rcases List.mem_or_eq_of_mem_set hz with h|h
     .have:=hr2 z h;exact⟨this.1,by omega⟩
     .rw[h];exact⟨hy2.1.app (.one (hs1 _ hk1)),by rw[Oh,hone];omega⟩
   .rintro ρ L2 ⟨hpre2,rows,a,b,e,hg2,hrl2,hr2,rfl⟩;rw[Gb] at hr2;refine⟨rfl,hpre2,_,rows,_,_,_,hg2,hrl2,λy hy=>?_,Ac _,rfl⟩;have:=hr2 y hy;exact⟨this.1,by omega⟩
 clear hg hrl hre hpre rows;rintro ρ L2 ⟨hpre,r,rows,a,b,e,hg,hrl,hr,hrL,rfl⟩;refine BD (λρ L3=>L' <+: L3/\∃(rows:AMB),L3[r]?=some (.lst (rows.map D.str))/\rows.length=n.toNat/\EA rows/\ρ=[some (.fz (ns.map .int)),some (.int st),some (.int m),some (.int c),some (.int n),some (.ref r),some (.str sm),a,b,e,none,none]) ?_ ?_
 .rfl';refine BU (λh=>?_) (λh=>?_)
  .rfl';have hsl:=Txt.slice_le sm none (some (1+c / 768 % 2));refine AFG ?_ ?_
   .unfold JZ;simp only[CA,decide_eq_true_eq];have e24:(24:Int).toNat=24:=rfl;rw[e24];refine⟨⟨by decide,by decide⟩,?_⟩;omega
   rfl'
   have hix:ixN (rows.map D.str).length 0=some 0:=by unfold ixN;rw[if_pos (by decide),if_pos (by simp;omega)];rfl
   refine Xi hg hix ?_;refine⟨Nk hpre hrL,rows.set 0 (Txt.slice (Txt.mul (Txt.slice sm none (some (1+c / 768 % 2))) 24) none (some 24)),?_,by simp[hrl],λz hz=>?_,rfl⟩
   .rw[CB hg,List.map_set]
   .rcases List.mem_or_eq_of_mem_set hz with h|h
    .exact hr z h
    .rw[h];refine⟨((hs1.slice _ _).mul _).slice _ _,?_⟩;have:=ABf (Txt.mul (Txt.slice sm none (some (1+c / 768 % 2))) 24) 24 (by decide);omega
  .rfl';exact⟨hpre,rows,hg,hrl,hr,rfl⟩
 clear hg hrl hr hpre rows;rintro ρ L3 ⟨hpre,rows,hg,hrl,hr,rfl⟩;rfl';have hrlt:r<L3.length:=(BA.mp hg).1;refine Cu (λj ρ L4=>∃(ts:AMB) (z:Option D),L4=L3++[Ob.lst (ts.map D.str)]/\ts.Nodup/\EA ts/\ts.length<=j/\(0<j->0<ts.length)/\ρ=[some (.fz (ns.map .int)),some (.int st),some (.int m),some (.int c),some (.int n),some (.ref r),some (.str sm),a,b,e,some (.ref L3.length),z]) _ 0 _ _ ⟨[],none,rfl,AKh,λ_ h=>(nomatch h),Ac _,λh=>absurd h (by decide),rfl⟩ ?_ ?_
 .rintro i x ρ L4 hx ⟨ts,z,rfl,hnd,hts,hl,hp,rfl⟩;rw[Av] at hx;obtain⟨y,hy,hx⟩:=mS hx;cases hx;have hyr:=hr y (Bv hy);have hil:=(BA.mp hy).1;refine⟨decide_eq_true (AU hg),?_⟩;rfl';refine SR AR (by rw[Xx];rfl) ?_;rw[SI];rfl';refine BU (λhm=>?_) (λhm=>?_)
  .rfl';exact⟨ts,_,rfl,hnd,hts,by omega,λ_=>List.length_pos_of_mem hm,rfl⟩
  .rfl';refine HG AR (by simp;omega) ?_;refine⟨ts++[y],_,by simp,?_,λw hw=>?_,by simp;omega,λ_=>by simp,rfl⟩
   .rw[AKg];refine⟨hnd,by simp,λa ha b hb=>?_⟩;have:b=y:=by simpa using hb
    rw[this];rintro rfl;exact hm ha
   .rcases CF.mp hw with h|h
    .exact hts w h
    .have:w=y:=by simpa using h
     rw[this];exact hyr
 .rintro ρ L4 ⟨ts,z,rfl,hnd,hts,hl,hp,rfl⟩;refine⟨decide_eq_true (AU hg),?_⟩;rw[Ag,hrl] at hl hp;rfl';exact⟨rfl,q ts _ hnd hts (hp (by omega)) (by omega) _ (hpre.trans (Aj _ _)) AR⟩
noncomputable abbrev Ay:=List (Str×Str)
abbrev AS(e:Str×Str):D:=.tup [.str e.1,.str e.2]
abbrev Ey(exs:Ay):Prop:=∀e∈exs,Ar e.1/\e.1.length<=100/\e.2.length<=10000
def VJ:∀{xs:List D},(∀x∈xs,∃t,x=D.str t)->∃ys,CH xs=some ys
 |[],_=>⟨[],rfl⟩
 |x::xs,h=>by
  obtain⟨t,rfl⟩:=h x BC;obtain⟨ys,e⟩:=VJ λz hz=>h z (Az _ hz);exact⟨t::ys,by simp[CH,e]⟩
def AB5{y:Str}{ps:List D}(hy:y.length<=1000)(hs:Ar y)(hp:∀p∈ps,HS p)(ha:∀p∈ps,∃t,Cp y p=.str t)(hl:ps.length<=3):∃a:Str,JX y ps=.str a/\a.length<=3000:=by
 obtain⟨ys,e⟩:=VJ (xs:=ps.map (Cp y)) λx hx=>by
  rw[Aw] at hx;obtain⟨p,hp',rfl⟩:=hx;exact ha p hp'
 have hsum:=VB hy hs hp e;refine⟨Txt.join "" ys,by unfold JX;rw[e],?_⟩;have:=join_len "" ys;have e0:(Str.ofString "").length=0:=rfl;rw[e0] at this;have:ps.length*1000<=3*1000:=AKr _ hl;omega
abbrev ansOf(ps:List D)(y:Str):Str:=match JX y ps with|.str a=>a|_=>""
def AGB(xs:List D)(k:Nat):cutD xs none (some (k:Int))=xs.take k:=by
 unfold cutD;have e:HT.sIx xs.length 0 none=0:=rfl;rw[e,ALM,Nat.sub_zero,HT.AIK]
 by_cases h:k<=xs.length
 .rw[Nat.min_eq_left h]
 .rw[Nat.min_eq_right (by omega),Ee,ALO (by omega)]
def AGE(xs:List D)(k:Nat):cutD xs (some (k:Int)) none=xs.drop k:=by
 unfold cutD;have e:HT.sIx xs.length xs.length none=xs.length:=rfl;rw[e,HT.AIK]
 by_cases h:k<=xs.length
 .rw[Nat.min_eq_left h,ALO (by simp)]
 .rw[Nat.min_eq_right (by omega),List.drop_length,List.drop_of_length_le (by omega)];simp
abbrev DV(d:D):Prop:=∃w k:Str,d=.tup [.str w,.str k]/\(w = "has"\/w = "begins")/\k∈([("small":Str),"great","figure","mark","any"]:AMB)
def DV.noRef{d:D}(h:DV d):d.noRef=true:=by obtain⟨_,_,rfl,_⟩:=h;rfl
def AGZ(bs:List Bool):blsD (bs.map D.bl)=some bs:=by
 induction bs with
 |nil=>rfl
 |cons y r ih=>simp[blsD,ih]
def ABe(y:Str):(Txt.slice y none (some 1)).cps.toList=y.cps.toList.take 1:=by
 rcases Nat.eq_zero_or_pos y.cps.toList.length with h|h
 .have hy:y=⟨#[]⟩:=by
   obtain⟨a⟩:=y
   have:a=#[]:=by apply Array.eq_empty_of_size_eq_zero;simpa using h
   rw[this]
  rw[hy];decide +kernel
 .have:=slice_closes_to (x:=y) (j:=1) ⟨by decide,by omega⟩;rw[eq_of_beq this];simp
def AGC(ks:List D):cutD ks none (some 1)=ks.take 1:=by
 unfold cutD;have e:HT.sIx ks.length 0 none=0:=rfl;rw[e,ALM,Nat.sub_zero];have:(HT.sIx ks.length ks.length (some ((1:Nat):Int)))=min 1 ks.length:=by rw[HT.AIK]
 rw[show(some (1:Int))=some ((1:Nat):Int) from rfl,this];rcases ks with _|⟨a,r⟩ <;> simp
abbrev Ng(w:Str)(y:Str):AMG:=if w = "has" then y.cps.toList else y.cps.toList.take 1
abbrev holdB(w kind y:Str):Bool:=(Ng w y).any λc=>DD kind ⟨#[c]⟩
def AE0{Q:AMo}{L:AB}{l:D}{y:Str}(hl:DV l)(hy:y.length<=1000)(q:∀w k:Str,l=.tup [.str w,.str k]->Q (.bl (holdB w k y)) L):W2 (IK [l,.str y] L) Q:=by
 obtain⟨w,kind,rfl,hw,hk⟩:=hl;have q:=q w kind rfl;unfold IK;refine CG rfl ?_;unfold Pj
 have main:∀x:Str,x.cps.toList=Ng w y->x.length<=1000->∀{nx:Fm->AB->Prop} {bk ct:Fm->AB->Prop},WS (AN (AJ LX (AA (BY (BG (var 2)) 1 [0] (Ab 0) Cg (AJ IN (AA (bin2 AZ (var 1) (AC (.int 1))) (AA (var 0) AD)))) AD)) [some (.tup [.str w,.str kind]),some (.str y),some (.str x)] L) nx (λd L2=>d.noRef=true/\L <+: L2/\Q d L) bk ct:=λx hx hxl nx bk ct=>by
  rfl'
  refine JO (λρ=>∃a,ρ=[a,some (.tup [.str w,.str kind])]) (λx=>match x with|.str s=>some (.bl (DD kind s))|_=>none) _ _ ⟨none,rfl⟩ (by simp only[sgs,Ag];show x.length<=_;omega) ?_ ?_
  .rintro d hd ρ ⟨a,rfl⟩;unfold sgs at hd;rw[Aw] at hd;obtain⟨c,_,rfl⟩:=hd;rfl';refine⟨⟨_,rfl⟩,λacc=>?_⟩;rfl';refine⟨rfl,?_⟩;rfl';refine XJ _ _ ?_;exact⟨rfl,rfl⟩
  .have e:AKu (λx=>match x with|D.str s=>some (D.bl (DD kind s))|_=>none) (sgs x)=(x.cps.toList.map λc=>DD kind ⟨#[c]⟩).map D.bl:=by
    unfold sgs;rw[ALL,Bz,<-ALf];rfl
   rw[e];rfl';refine AFI AR (AGZ _) ?_;refine⟨rfl,Aj _ _,?_⟩
   have e2:holdB w kind y=(x.cps.toList.map λc=>DD kind ⟨#[c]⟩).any id:=by unfold holdB;rw[hx,List.any_map];rfl
   rw[e2] at q;exact q
 rcases hw with rfl|rfl
 .refine BD (λρ L'=>ρ=[some (.tup [.str "has",.str kind]),some (.str y),some (.str y)]/\L'=L) ?_ ?_
  .rfl';exact⟨rfl,rfl⟩
  rintro _ _ ⟨rfl,rfl⟩;exact main y rfl hy
 .refine BD (λρ L'=>ρ=[some (.tup [.str "begins",.str kind]),some (.str y),some (.str (Txt.slice y none (some 1)))]/\L'=L) ?_ ?_
  .rfl';exact⟨rfl,rfl⟩
  rintro _ _ ⟨rfl,rfl⟩;exact main _ (ABe y) (Bu (Txt.slice_le _ _ _) hy)
def AEH{Q:AMo}{L:AB}{l:D}{y:Str}(hl:DV l)(hy:y.length<=1000)(hs:Ar y)(q:∀w k:Str,l=.tup [.str w,.str k]->Q (.bl (holdB w k y)) L):W2 (zk [l,.str y] L) Q:=by
 obtain⟨w,kind,rfl,hw,hk⟩:=hl;have q:=q w kind rfl;unfold zk;refine CG rfl ?_;unfold Px
 have hagree:∀cs:AMG,(∀c∈cs,c∈Jw)->(cs.any λc=>DD kind ⟨#[c]⟩)=(DE (.str kind) (cs.map λc=>D.str (lawKind ⟨#[c]⟩)) || (decide (kind = "any")&&decide (0<cs.length))):=λcs=>by
  induction cs with
  |nil=>intro _;simp[DE]
  |cons c r ih =>
   intro h;have hc:=XC c (h c BC)
   have e1:DD kind ⟨#[c]⟩=(decide (kind = "any") || decide (lawKind ⟨#[c]⟩=kind)):=by unfold DD;rw[hc,Ip (show D.str (lawKind ⟨#[c]⟩)=D.str kind↔lawKind ⟨#[c]⟩=kind by simp)]
   have e2:DE (.str kind) ((c::r).map λc=>D.str (lawKind ⟨#[c]⟩))=(decide (lawKind ⟨#[c]⟩=kind) || DE (.str kind) (r.map λc=>D.str (lawKind ⟨#[c]⟩))):=by
    unfold DE;rw[Ah,AKW]
    congr 1
   rw[AKW,ih λx hx=>h x (Az _ hx),e1,e2]
   by_cases hk:kind = "any"
   .simp[hk]
   .simp[hk]
 have fin:∀(cs:AMG) (ρ:Fm) (k:Nat) (L2:AB),cs=Ng w y->ρ=[some (.tup [.str w,.str kind]),some (.str y),some (.ref k)]->L <+: L2->L2[k]?=some (.lst (cs.map λc=>D.str (lawKind ⟨#[c]⟩)))->∀{nx:Fm->AB->Prop} {bk ct:Fm->AB->Prop},WS (AN (Hh (bin2 (DS false) (bin2 AZ (var 0) (AC (.int 1))) (var 2)) (Fb (bin2 BK (bin2 AZ (var 0) (AC (.int 1))) (AC (.str "any"))) (bin2 GA (AJ Bt (AA (var 2) AD)) (AC (.int 0))))) ρ L2) nx (λd L2=>d.noRef=true/\L <+: L2/\Q d L) bk ct:=by
  rintro cs ρ k L2 hcs rfl hp hg nx bk ct
  have hq:holdB w kind y=(DE (.str kind) (cs.map λc=>D.str (lawKind ⟨#[c]⟩)) || (decide (kind = "any")&&decide (0<cs.length))):=by
   unfold holdB;rw[<-hcs];refine hagree cs λc hc=>hs c ?_;rw[hcs] at hc;unfold Ng at hc;split at hc
   .exact hc
   .exact ALG hc
  rw[hq] at q;rfl';refine Xm hg (by simp[BH]) ?_;rfl';refine GH (λh1=>?_) (λh1=>?_)
  .rw[h1,Bool.true_or] at q;exact⟨rfl,hp,q⟩
  .rw[h1,Bool.false_or] at q;rfl';refine BU (λh2=>?_) (λh2=>?_)
   .rw[decide_eq_true h2,Bool.true_and] at q;rfl';refine⟨rfl,hp,?_⟩;rw[Ip (show((0:Int)<((cs.map λc=>D.str (lawKind ⟨#[c]⟩)).length:Int))↔0<cs.length by rw[Ag];omega)];exact q
   .rw[decide_eq_false h2,Bool.false_and] at q;exact⟨rfl,hp,q⟩
 refine BD (λρ L'=>ρ=[some (.tup [.str w,.str kind]),some (.str y),some (.ref L.length)]/\L'=L++[.lst (y.cps.toList.map λc=>D.str (lawKind ⟨#[c]⟩))]) ?_ ?_
 .rfl'
  refine JO (λρ=>∃a,ρ=[a]) (λx=>match x with|.str s=>some (.str (lawKind s))|_=>none) _ _ ⟨none,rfl⟩ (by simp only[sgs,Ag];show y.length<=_;omega) ?_ ?_
  .rintro d hd ρ ⟨a,rfl⟩;unfold sgs at hd;rw[Aw] at hd;obtain⟨c,_,rfl⟩:=hd;rfl';refine⟨⟨_,rfl⟩,λacc=>?_⟩;rfl';refine⟨rfl,?_⟩;rfl';refine Wj _ ?_;exact⟨rfl,rfl⟩
  .have e:AKu (λx=>match x with|D.str s=>some (D.str (lawKind s))|_=>none) (sgs y)=y.cps.toList.map λc=>D.str (lawKind ⟨#[c]⟩):=by
    unfold sgs;rw[ALL,<-ALf];rfl
   rw[e];exact⟨rfl,rfl⟩
 rintro _ _ ⟨rfl,rfl⟩;rcases hw with rfl|rfl
 .refine BD (λρ L'=>ρ=[some (.tup [.str "has",.str kind]),some (.str y),some (.ref L.length)]/\L'=L++[.lst (y.cps.toList.map λc=>D.str (lawKind ⟨#[c]⟩))]) ?_ ?_
  .rfl';exact⟨rfl,rfl⟩
  rintro _ _ ⟨rfl,rfl⟩;exact fin _ _ _ _ rfl rfl (Aj _ _) AR
 .refine BD (λρ L'=>∃k,ρ=[some (.tup [.str "begins",.str kind]),some (.str y),some (.ref k)]/\L <+: L'/\L'[k]?=some (.lst ((y.cps.toList.take 1).map λc=>D.str (lawKind ⟨#[c]⟩)))) ?_ ?_
  .rfl';refine⟨_,rfl,(Aj _ _).trans (Aj _ _),?_⟩;rw[AR,AGC,List.map_take]
  rintro _ _ ⟨k,rfl,hp,hg⟩;exact fin _ _ _ _ rfl rfl hp hg
abbrev XD:List D:=[.str "small",.str "great",.str "figure",.str "mark",.str "any"]
abbrev Sc:List D:=[.str "ahead",.str "behind"]
abbrev p1(k:D):List D:=[D.int 1,.int 2,.int (-1),.int (-2)].flatMap λn=>Sc.flatMap λe=>[D.tup [k,n,e]]
abbrev Dt:List D:=XD.flatMap p1
def RY:∀p∈Dt,Ex p:=by
 intro p hp;simp only[Dt,p1,XD,Sc,AK2,AW,DK,or_false] at hp;obtain⟨k,hk,n,hn,e,he,rfl⟩:=hp
 have h1:∃s:Str,k=.str s/\s∈([("small":Str),"great","figure","mark","any"]:AMB):=by rcases hk with rfl|rfl|rfl|rfl|rfl <;> exact⟨_,rfl,by decide +kernel⟩
 have h2:∃i:Int,n=.int i/\Oo i:=by
  rcases hn with rfl|rfl|rfl|rfl
  .exact⟨_,rfl,.inl rfl⟩
  .exact⟨_,rfl,.inr (.inl rfl)⟩
  .exact⟨_,rfl,.inr (.inr (.inl rfl))⟩
  .exact⟨_,rfl,.inr (.inr (.inr rfl))⟩
 have h3:∃s:Str,e=.str s/\(s = "ahead"\/s = "behind"):=by
  clear hk hn h1 h2;rcases he with rfl|rfl
  .exact⟨_,rfl,.inl rfl⟩
  .exact⟨_,rfl,.inr rfl⟩
 obtain⟨s,rfl,hs⟩:=h1;obtain⟨i,rfl,hi⟩:=h2;obtain⟨e,rfl,he'⟩:=h3;exact⟨s,i,e,rfl,hi,he',hs⟩
def RX:Dt.length=40:=by decide +kernel
def AGu{Q:AMo}{L:AB}(h:∀L',L'[L.length]?=some (.lst Dt)->L <+: L'->Q (.ref L.length) L'):W2 (KZ [] L) Q:=by
 unfold KZ;refine EJ rfl ?_;simp only[Oy,Mn,Mg,Md];rfl';refine RE (λρ=>∃a b c,ρ=[some (.ref L.length),a,b,c]) L.length 8 40 p1 AR ⟨none,none,none,rfl⟩ (λx _=>Ac _) (by decide) ?_ ?_
 .rintro x hx ρ L1 acc1 ⟨a,b,c,rfl⟩ hkp hl hB;refine⟨rfl,?_⟩;rfl';refine RE (λρ=>∃b c,ρ=[some (.ref L.length),some x,b,c]) L.length 2 48 (λn=>Sc.flatMap λe=>[D.tup [x,n,e]]) hl ⟨_,_,rfl⟩ (λx _=>Ac _) (by show acc1.length+8<=48;omega) ?_ ?_
  .rintro n hn ρ L2 acc2 ⟨b,c,rfl⟩ hkp2 hl2 hB2;refine⟨rfl,?_⟩;rfl';refine RE (λρ=>∃c,ρ=[some (.ref L.length),some x,some n,c]) L.length 1 50 (λe=>[D.tup [x,n,e]]) hl2 ⟨_,rfl⟩ (λx _=>Ac _) (by show acc2.length+2<=50;omega) ?_ ?_
   .rintro e he ρ L3 acc3 ⟨c,rfl⟩ hkp3 hl3 hB3;refine⟨rfl,?_⟩;rfl';refine HG hl3 (by omega) ?_;exact⟨⟨_,rfl⟩,.set _ _ _,CB hl3⟩
   .rintro ρ L3 ⟨c,rfl⟩ hkp3 hl3;exact⟨rfl,⟨_,_,rfl⟩,hkp3,hl3⟩
  .rintro ρ L2 ⟨b,c,rfl⟩ hkp2 hl2;exact⟨rfl,⟨_,_,_,rfl⟩,hkp2,hl2⟩
 .rintro ρ L1 ⟨a,b,c,rfl⟩ hkp hl;refine⟨rfl,?_⟩;rfl';exact⟨rfl,h _ hl (Ry hkp)⟩
abbrev Ad(S:AMG)(L L':AB):Prop:=L.length<=L'.length/\∀j,j<L.length->j∉S->L'[j]?=L[j]?
def Ad.refl(S:AMG)(L:AB):Ad S L L:=⟨Ac _,λ_ _ _=>rfl⟩
def Ad.trans{S:AMG}{L L1 L2:AB}(a:Ad S L L1)(b:Ad S L1 L2):Ad S L L2:=⟨Bu a.1 b.1,λj h1 h2=>by rw[b.2 j (Bm h1 a.1) h2,a.2 j h1 h2]⟩
def Ad.app(S:AMG)(L M:AB):Ad S L (L++M):=⟨by simp,λj h _=>by rw[Dx h]⟩
def Ad.set{S:AMG}{L L1:AB}{k:Nat}{o:Ob}(h:Ad S L L1)(hk:k∈S\/L.length<=k):Ad S L (L1.set k o):=⟨by rw[Fl];exact h.1,λj h1 h2=>by
 rw[DA (λe=>by subst e;rcases hk with z|z;exact h2 z;omega),h.2 j h1 h2]⟩
def Ad.step{S S':AMG}{L L1 L2:AB}(a:Ad S L L1)(b:Ad S' L1 L2)(i:∀j∈S',j∈S\/L.length<=j):Ad S L L2:=⟨Bu a.1 b.1,λj h1 h2=>by
 rw[b.2 j (Bm h1 a.1) (λz=>by rcases i j z with q|q;exact h2 q;omega),a.2 j h1 h2]⟩
def Ad.get{S:AMG}{L L':AB}{j:Nat}{o:Ob}(h:Ad S L L')(n:j∉S)(e:L[j]?=some o):L'[j]?=some o:=by rw[h.2 j (BA.mp e).1 n];exact e
def Ad.pre{L L':AB}(h:Ad [] L L'):L <+: L':=by rw[List.prefix_iff_getElem?];intro j hj;rw[h.2 j hj (by simp)];simp[hj]
def Ad.of_pre{S:AMG}{L L':AB}(h:L <+: L'):Ad S L L':=by obtain⟨M,rfl⟩:=h;exact .app _ _ _
def Ad.mono{S S':AMG}{L L':AB}(h:Ad S L L')(i:∀j∈S,j∈S'\/L.length<=j):Ad S' L L':=⟨h.1,λj h1 h2=>h.2 j h1 λz=>by rcases i j z with q|q;exact h2 q;omega⟩
def BP{L L':AB}{j:Nat}{o:Ob}(h:L <+: L')(e:L[j]?=some o):L'[j]?=some o:=by obtain⟨M,rfl⟩:=h;exact AU e
def OL{L:AB}{j k:Nat}{a o o':Ob}(hj:L[j]?=some o)(hk:L[k]?=some o')(ne:o≠o'):(L.set j a)[k]?=some o':=by rw[DA (λe=>by subst e;rw[hj] at hk;exact ne (Option.some.inj hk))];exact hk
def Bs{L:AB}{j:Nat}{o:Ob}(h:L[j]?=some o):j<L.length:=(BA.mp h).1
def IQ{ok:AB->Bool}{g:GF}{elt:EF}{L0:AB}{Q:AB->Prop}(P:Fm->Prop)(f:D->D){items:List D}{ρ:Fm}(hok:∀acc,ok (L0++[.lst acc])=true)(hp:P ρ)(hz:items.length<=16777216)
  (h:∀x∈items,∀ρ,P ρ->W1 (g x ρ) λρ1=>P ρ1/\∀acc,W2 (elt ρ1 (L0++[.lst acc])) λd L2=>L2=L0++[.lst acc]/\d=f x)
  (q:Q (L0++[.lst (items.map f)])):W1 (Cr ok g Cg elt L0.length items ρ (L0++[.lst []])) Q:=by
 refine FS (I:=λj ρ L=>P ρ/\L=L0++[.lst ((items.take j).map f)]) items 0 ρ _ ⟨hp,by simp⟩ ?_ ?_
 .rintro i x ρ L e ⟨hp,rfl⟩;refine⟨hok _,?_⟩;have hi:i<items.length:=(BA.mp e).1;obtain⟨ρ1,e1,hp1,h2⟩:=h x (Bv e) ρ hp;obtain⟨d,L2,e3,rfl,rfl⟩:=h2 ((items.take (0+i)).map f);refine⟨ρ1,e1,true,_,rfl,f x,_,e3,(items.take (0+i)).map f,by simp,by simp;omega,hp1,?_⟩;have ht:items.take (0+i+1)=items.take (0+i)++[x]:=by rw[Bh,GV,e];rfl
  rw[ht,Co];simp
 .rintro ρ L ⟨_,rfl⟩;exact⟨hok _,by simpa using q⟩
def HX{α:Type}{xs:List α}{i:Nat}{x:α}(h:xs[i]?=some x):xs.take (0+i+1)=xs.take (0+i)++[x]:=by rw[Bh,GV,h];rfl
abbrev GI(d:Str)(xs ys:List D):List D:=xs.flatMap λx=>ys.map λy=>.tup [.str d,x,y]
def Jx(d:Str)(xs ys:List D):(GI d xs ys).length=xs.length*ys.length:=by
 unfold GI
 induction xs with
 |nil=>simp
 |cons x xs ih=>rw[ALF,Bc,ih,Ag,Dd,AKi];omega
def AGa{Q:AMo}{L:AB}{d:Str}{a b:Nat}{xs ys:List D}(ha:L[a]?=some (.lst xs))(hb:L[b]?=some (.lst ys))(hz:xs.length*ys.length<=10000000)(hy:ys.length<=1000000)
  (h:∀L2,L <+: L2->L2[L.length]?=some (.lst (GI d xs ys))->Q (.ref L.length) L2):W2 (KR [.str d,.ref a,.ref b] L) Q:=by
 unfold KR;refine EJ rfl ?_;unfold Qd;have hal:=Bs ha;have hbl:=Bs hb;rfl';refine Cu (λj ρ L'=>L <+: L'/\L'[L.length]?=some (.lst (GI d (xs.take j) ys))/\∃e,ρ=[some (.str d),some (.ref a),some (.ref b),some (.ref L.length),e]) _ 0 _ _ ⟨Aj _ _,AR,none,rfl⟩ ?_ ?_
 .rintro i x ρ L' hx ⟨hp,hl,e,rfl⟩;refine⟨decide_eq_true (BP hp ha),?_⟩;have hb':=BP hp hb;have hi:i<xs.length:=(BA.mp hx).1;rfl';refine IQ (λρ=>∃e,ρ=[e,some (.str d),some x]) (λy=>.tup [.str d,x,y]) (λacc=>decide_eq_true (AU hb')) ⟨_,rfl⟩ (by omega) ?_ ?_
  .rintro y hy ρ ⟨e,rfl⟩;rfl';refine⟨⟨_,rfl⟩,λacc=>?_⟩;rfl';exact⟨rfl,rfl⟩
  .rfl';have hll:=Bs hl;refine SV (AU hl) AR ?_ ?_
   .rw[Jx,Ag,FP];have h1:min (0+i) xs.length*ys.length<=xs.length*ys.length:=AKv (Nat.min_le_right _ _) (Ac _);omega
   .rfl';refine⟨Nk (hp.trans (Aj _ _)) (Ac _),?_,_,rfl⟩;rw[CB (AU hl),HX hx];unfold GI;rw[ALP];simp
 .rintro ρ L' ⟨hp,hl,e,rfl⟩;refine⟨decide_eq_true (BP hp ha),?_⟩;rfl';refine⟨rfl,h _ hp ?_⟩;simpa using hl
abbrev NM(w:Str):D:=.tup [.str "word",.str w]
abbrev ES:AMB:=["copy","raise","sink"]
def Kz{kvs:List (NK×D)}{k:NK}{d:D}{ep:Nat}(h:k∉kvs.map (·.1)):DB kvs k d=kvs++[(k,d)]/\epN kvs k ep=ep+1:=by
 have:(kvs.any λkv=>decide (kv.1=k))=false:=by rw[ALI];intro ha;obtain⟨x,hx,e⟩:=ALD.mp ha;exact h (by rw[<-of_decide_eq_true e];exact Cz hx)
 unfold DB epN;rw[this];exact⟨rfl,rfl⟩
def Wo{kvs:List (NK×D)}{k:NK}(h:k∉kvs.map (·.1)):Bj kvs k=none:=by
 unfold Bj;rw[ALb.mpr]
 .rfl
 .intro x hx hd;exact h (by rw[<-of_decide_eq_true hd];exact Cz hx)
def AEN{kvs:List (NK×D)}{i:Nat}{k:NK}{d:D}(nd:(kvs.map (·.1)).Nodup)(h:kvs[i]?=some (k,d)):Bj kvs k=some d:=by
 induction kvs generalizing i with
 |nil=>simp at h
 |cons x xs ih =>
  rw[Ah,AKZ] at nd;unfold Bj
  cases i with
  |zero =>
   simp at h;subst h;simp
  |succ i =>
   have h':xs[i]?=some (k,d):=by simpa using h
   have hne:x.1≠k:=λe=>nd.1 (by rw[e];exact Cz (f:=λz:NK×D=>z.1) (Bv h'));rw[FB,decide_eq_false hne];exact ih nd.2 h'
abbrev ED(L:AB)(r:Nat)(w:Int)(a:Nat)(kvs:List (NK×D))(ep:Nat):Prop:=L[r]?=some (.ins AMM [(AMO,.int w),(AMW,.ref a)])/\L[a]?=some (.dt kvs ep)
def Rk{Q:AMo}{L:AB}{k:Nat}{w:Int}(hk:L[k]?=some (.ins AMM []))(h:∀L2,ED L2 k w L.length [] 0->L2.length=L.length+1->Ad [k] L L2->Q .non L2):W2 (IP [.ref k,.int w] L) Q:=by
 unfold IP;refine JQ rfl ?_;unfold PK;have hkl:=Bs hk;rfl';have e1:(L.set k (.ins AMM (DP AMO (.int w) [])))[k]?=some (.ins AMM [(AMO,.int w)]):=CB hk;refine Xg (AU e1) rfl rfl ?_;rfl'
 have e2:(((L.set k (.ins AMM (DP AMO (.int w) [])))++[Ob.dt [] 0]).set k (.ins AMM (DP AMW (.ref (L.set k (.ins AMM (DP AMO (.int w) []))).length) [(AMO,.int w)])))[k]?=some (.ins AMM [(AMO,.int w),(AMW,.ref L.length)]):=by rw[CB (AU e1),Fl];rfl
 refine⟨λhp=>?_,h _ ⟨e2,?_⟩ (by simp) ?_⟩
 .have:=BP hp hk;rw[e2] at this;cases this
 .rw[DA (by omega)];have:=AR (L:=L.set k (.ins AMM (DP AMO (.int w) []))) (a:=Ob.dt [] 0)
  rwa [Fl] at this
 .exact((((Ad.refl _ _).set (.inl (by simp))).trans (.app _ _ _)).set (.inl (by simp)))
abbrev NW(W:D)(g m nd nn rt:Nat):List (Str×D):=[(AMS,W),(AMR,.ref g),(AMX,.ref m),(AMT,.ref nd),(AMY,.ref nn),(AMa,.ref rt)]
abbrev Aq(d:D):NK:=(dNK d).getD []
def Jc{d:D}(h:(dNK d).isSome=true):dNK d=some (Aq d):=by
 unfold Aq
 cases e:dNK d with
 |none=>rw[e] at h;cases h
 |some k=>rfl
def Nu{α β:Type}{f:α->β}:∀{l:List α},(l.map f).Nodup->∀{a b},a∈l->b∈l->f a=f b->a=b
 |[],_,_,_,h,_,_=>nomatch h
 |x::l,h,a,b,ha,hb,e=>by
  rw[Ah,AKZ] at h;rcases AW.mp ha with ha'|ha'
  .rcases AW.mp hb with hb'|hb'
   .rw[ha',hb']
   .exact absurd (by rw[<-ha',e];exact Cz hb') h.1
  .rcases AW.mp hb with hb'|hb'
   .exact absurd (by rw[<-hb',<-e];exact Cz ha') h.1
   .exact Nu h.2 ha' hb' e
structure KD {κ:Type} (kd:κ->D):Prop where
 key:∀a,dNK (kd a)=some (Aq (kd a))
 inj:∀a b,kd a=kd b->a=b
def KD.kf{κ:Type}{kd:κ->D}(K:KD kd){a b:κ}(h:Aq (kd a)=Aq (kd b)):a=b :=
 K.inj a b ((OX (K.key a)).trans (by rw[h];exact(OX (K.key b)).symm))
def KD.nk{κ:Type}{kd:κ->D}(K:KD kd)(a:κ):Dh (Aq (kd a))=kd a:=(OX (K.key a)).symm
abbrev Am(xs:AMB):D:=.tup (xs.map D.str)
abbrev Dp(xs:AMH):D:=.tup (xs.map D.int)
def Ny{α β:Type}{f:α->β}(hf:∀a b,f a=f b->a=b):∀{xs ys:List α},xs.map f=ys.map f->xs=ys
 |[],[],_=>rfl
 |[],_::_,h=>by cases h
 |_::_,[],h=>by cases h
 |x::xs,y::ys,h=>by
  rw[Ah,Ah] at h;have h1:=List.cons.inj h;rw[hf _ _ h1.1,Ny hf h1.2]
def Fw:KD Am:=⟨λa=>Jc (by
  unfold Am;show(EU (a.map D.str)).isSome=true
  induction a with
  |nil=>rfl
  |cons x a ih =>
   rw[Ah];show((Ir (.str x)).bind λk=>(EU (a.map D.str)).map (k::·)).isSome=true
   cases e:EU (a.map D.str) with
   |none=>rw[e] at ih;cases ih
   |some y=>rfl),λa b h=>Ny (λ_ _ e=>D.str.inj e) (D.tup.inj h)⟩
def Ia:KD Dp:=⟨λa=>Jc (by
  unfold Dp;show(EU (a.map D.int)).isSome=true
  induction a with
  |nil=>rfl
  |cons x a ih =>
   rw[Ah];show((Ir (.int x)).bind λk=>(EU (a.map D.int)).map (k::·)).isSome=true
   cases e:EU (a.map D.int) with
   |none=>rw[e] at ih;cases ih
   |some y=>rfl),λa b h=>Ny (λ_ _ e=>D.int.inj e) (D.tup.inj h)⟩
abbrev CM{κ:Type}[DecidableEq κ](c:List (κ×List D))(k:κ)(ds:List D):List (κ×List D):=if k∈c.map (·.1) then c.map (λe=>if e.1=k then (e.1,e.2++ds) else e) else c++[(k,ds)]
abbrev Ih{κ:Type}[DecidableEq κ](c:List (κ×List D))(k:κ):Option (List D):=(c.find? λe=>decide (e.1=k)).map (·.2)
abbrev cont{κ:Type}(es:List (κ×Nat×List D)):List (κ×List D):=es.map λe=>(e.1,e.2.2)
abbrev BL{κ:Type}(es:List (κ×Nat×List D)):AMG:=es.map (·.2.1)
abbrev CI{κ:Type}(kd:κ->D)(es:List (κ×Nat×List D)):List (NK×D):=es.map λe=>(Aq (kd e.1),D.ref e.2.1)
structure DL {κ:Type} (kd:κ->D) (L:AB) (g:Nat) (es:List (κ×Nat×List D)):Prop where
 at_:∃ep,L[g]?=some (.dt (CI kd es) ep)
 it:∀e∈es,L[e.2.1]?=some (.lst e.2.2)
 nd:(BL es).Nodup
 kn:(es.map (·.1)).Nodup
section
variable {κ:Type}[DecidableEq κ]{kd:κ->D}{L L':AB}{g:Nat}{es:List (κ×Nat×List D)}
def Lg(es:List (κ×Nat×List D)):(cont es).map (·.1)=es.map (·.1):=by unfold cont;rw[Bz];rfl
def GJ{e:κ×Nat×List D}(h:e∈es):e.2.1∈BL es:=Cz h
def DL.same(h:DL kd L g es)(hg:L'[g]?=L[g]?)(ha:∀q∈BL es,L'[q]?=L[q]?):DL kd L' g es :=
 ⟨let ⟨ep,e⟩:=h.at_;⟨ep,hg.trans e⟩,λe he=>(ha _ (GJ he)).trans (h.it e he),h.nd,h.kn⟩
def DL.lt(h:DL kd L g es){q:Nat}(hq:q∈BL es):q<L.length:=by obtain⟨e,he,rfl⟩:=Aw.mp hq;exact Bs (h.it e he)
def DL.glt(h:DL kd L g es):g<L.length:=by obtain⟨ep,e⟩:=h.at_;exact Bs e
def DL.keep{S:AMG}(h:DL kd L g es)(k:Ad S L L')(hg:g∉S)(ha:∀q∈BL es,q∉S):DL kd L' g es:=h.same (k.2 g h.glt hg) λq hq=>k.2 q (h.lt hq) (ha q hq)
def DL.pre(h:DL kd L g es)(p:L <+: L'):DL kd L' g es:=h.keep (S:=[]) (.of_pre p) (by simp) (by simp)
def Vi(K:KD kd):∀{es es':List (κ×Nat×List D)},CI kd es=CI kd es'->(∀e∈es,L[e.2.1]?=some (.lst e.2.2))->(∀e∈es',L[e.2.1]?=some (.lst e.2.2))->es=es'
 |[],[],_,_,_=>rfl
 |[],_::_,h,_,_=>by cases h
 |_::_,[],h,_,_=>by cases h
 |(k,q,ds)::es,(k',q',ds')::es',h,h1,h2=>by
  unfold CI at h;rw[Ah,Ah] at h;have h0:=List.cons.inj h;have hk:=K.kf (congrArg Prod.fst h0.1);have hq:q=q':=by have:=congrArg Prod.snd h0.1;exact D.ref.inj this
  have a1:=h1 _ BC;have a2:=h2 _ BC;subst hk hq;rw[a1] at a2;have hd:ds=ds':=Ob.lst.inj (Option.some.inj a2);subst hd;rw[Vi K h0.2 (λe he=>h1 e (Az _ he)) λe he=>h2 e (Az _ he)]
def DL.uniq(K:KD kd){es':List (κ×Nat×List D)}(h:DL kd L g es)(h':DL kd L g es'):es=es':=by obtain⟨ep,e⟩:=h.at_;obtain⟨ep',e'⟩:=h'.at_;rw[e] at e';exact Vi K (Ob.dt.inj (Option.some.inj e')).1 h.it h'.it
def Jq{β:Type}{es:List (κ×β)}{k:κ}(h:k∈es.map (·.1)):∃e,es.find? (λe=>decide (e.1=k))=some e/\e∈es/\e.1=k:=by
 cases hf:es.find? (λe=>decide (e.1=k)) with
 |none =>
  obtain⟨e,he,rfl⟩:=Aw.mp h;have:=ALb.mp hf e he;simp at this
 |some e=>exact⟨e,rfl,ALt hf,by have:=List.find?_some hf;simpa using this⟩
def AFb{β:Type}{es:List (κ×β)}{k:κ}(h:k∉es.map (·.1)):es.find? (λe=>decide (e.1=k))=none:=by rw[ALb];intro e he hd;exact h (by rw[<-of_decide_eq_true hd];exact Cz he)
def Nz(K:KD kd)(es:List (κ×Nat×List D))(k:κ):Bj (CI kd es) (Aq (kd k))=(es.find? λe=>decide (e.1=k)).map λe=>D.ref e.2.1:=by
 unfold Bj CI
 induction es with
 |nil=>rfl
 |cons e es ih =>
  rw[Ah,FB,FB]
  by_cases h:e.1=k
  .subst h;simp
  .rw[decide_eq_false h,decide_eq_false (λz=>h (K.kf z))];exact ih
def AGH(es:List (κ×Nat×List D))(k:κ):(cont es).find? (λe=>decide (e.1=k))=(es.find? λe=>decide (e.1=k)).map λe=>(e.1,e.2.2):=by unfold cont;rw[List.find?_map];rfl
def DL.get(K:KD kd)(h:DL kd L g es){k:κ}{ds:List D}(e:Ih (cont es) k=some ds):∃q,Bj (CI kd es) (Aq (kd k))=some (.ref q)/\L[q]?=some (.lst ds):=by
 unfold Ih at e;rw[AGH] at e;rw[Nz K]
 cases hf:es.find? (λe=>decide (e.1=k)) with
 |none=>rw[hf] at e;cases e
 |some x =>
  rw[hf] at e;have e2:x.2.2=ds:=Option.some.inj e;exact⟨x.2.1,rfl,by rw[<-e2];exact h.it x (ALt hf)⟩
def AEM(K:KD kd)(es:List (κ×Nat×List D))(k:κ):(Bj (CI kd es) (Aq (kd k))).isSome=decide (k∈(cont es).map (·.1)):=by
 rw[Nz K,Lg]
 by_cases h:k∈es.map (·.1)
 .obtain⟨e,he,_⟩:=Jq h;rw[he,decide_eq_true h];rfl
 .rw[AFb h,decide_eq_false h];rfl
def Yy(c:List (κ×List D)){k:κ}(h:k∈c.map (·.1)):CM c k []=c:=by
 unfold CM;rw[if_pos h]
 conv=>rhs;rw[<-List.map_id c]
 apply AKX;intro e _
 by_cases z:e.1=k
 .rw[if_pos z];simp
 .rw[if_neg z];rfl
def Yz(c:List (κ×List D))(k:κ)(ds:List D):CM (CM c k []) k ds=CM c k ds:=by
 by_cases h:k∈c.map (·.1)
 .rw[Yy c h]
 .have e1:CM c k []=c++[(k,[])]:=by unfold CM;rw[if_neg h]
  have e2:CM c k ds=c++[(k,ds)]:=by unfold CM;rw[if_neg h]
  rw[e1,e2];unfold CM;rw[if_pos (by simp),Co]
  congr 1
  .conv=>rhs;rw[<-List.map_id c]
   apply AKX;intro e he;rw[if_neg (λz=>h (by rw[<-z];exact Cz he))];rfl
  .simp
def Sq(c:List (κ×List D))(k:κ)(ds:List D):(CM c k ds).map (·.1)=if k∈c.map (·.1) then c.map (·.1) else c.map (·.1)++[k]:=by
 unfold CM
 by_cases h:k∈c.map (·.1)
 .rw[if_pos h,if_pos h,Bz];apply AKX;intro e _
  show(if e.1=k then (e.1,e.2++ds) else e).1=e.1
  split <;> rfl
 .rw[if_neg h,if_neg h,Co];rfl
def So{c:List (κ×List D)}{k:κ}{ds:List D}(h:(c.map (·.1)).Nodup):((CM c k ds).map (·.1)).Nodup:=by
 rw[Sq]
 by_cases z:k∈c.map (·.1)
 .rw[if_pos z];exact h
 .rw[if_neg z,AKg]
  exact⟨h,by simp,λa ha b hb e=>z (by have:b=k:=by simpa using hb
                                      rw[<-this,<-e];exact ha)⟩
def Lm{c:List (κ×List D)}{k k':κ}{ds ps:List D}(h:(k',ps)∈CM c k ds):(k',ps)∈c\/k'=k/\((ps=ds)\/∃qs,(k,qs)∈c/\ps=qs++ds):=by
 unfold CM at h
 by_cases z:k∈c.map (·.1)
 .rw[if_pos z] at h;obtain⟨e,he,h⟩:=Aw.mp h
  by_cases y:e.1=k
  .rw[if_pos y] at h;have h1:=congrArg Prod.fst h;have h2:=congrArg Prod.snd h;simp only at h1 h2;refine .inr ⟨by rw[<-h1,y],.inr ⟨e.2,?_,h2.symm⟩⟩;rw[<-y];exact he
  .rw[if_neg y] at h;rw[<-h];exact .inl he
 .rw[if_neg z] at h;rcases CF.mp h with h|h
  .exact .inl h
  .have h':(k',ps)=(k,ds):=by simpa using h
   cases h';exact .inr ⟨rfl,.inl rfl⟩
abbrev Db(c:List (κ×List D))(n b:Nat):Prop:=c.length<=n/\∀e∈c,e.2.length<=b
def Db.add{c:List (κ×List D)}{n b m:Nat}{k:κ}{ds:List D}(h:Db c n b)(hd:ds.length<=m):Db (CM c k ds) (n+1) (b+m):=by
 refine⟨?_,λ⟨k',ps⟩ he=>?_⟩
 .have:=congrArg List.length (Sq c k ds);rw[Ag] at this;rw[this];have h1:=h.1;split
  .rw[Ag];omega
  .rw[Bc,Ag];simp;omega
 .rcases Lm he with h'|⟨_,h'|⟨qs,h',h2⟩⟩
  .have:=h.2 _ h';simp only at this ⊢;omega
  .simp only;rw[h'];omega
  .have:=h.2 _ h';simp only at this ⊢;rw[h2,Bc];omega
def Db.mono{c:List (κ×List D)}{n b n' b':Nat}(h:Db c n b)(h1:n<=n')(h2:b<=b'):Db c n' b':=⟨Bu h.1 h1,λe he=>Bu (h.2 e he) h2⟩
def Jv(es:List (κ×Nat×List D)):(cont es).length=es.length:=by unfold cont;rw[Ag]
def YO{Q:AMo}(K:KD kd){k:κ}{q:Nat}(h:DL kd L g es)(hz:es.length<16777216)(hq:L[q]?=some (.lst []))(hqn:q∉BL es)
  (p:∀L2 q2 es2 old,DL kd L2 g es2->(k,q2,old)∈es2->cont es2=CM (cont es) k []->(∀x∈BL es2,x∈BL es\/x=q)->Ad [g] L L2->L2.length=L.length->Q (.ref q2) L2):W2 (HH (.ref g) [kd k,.ref q] L) Q:=by
 obtain⟨ep,ha⟩:=h.at_
 by_cases hk:k∈es.map (·.1)
 .obtain⟨e,hf,he,hek⟩:=Jq hk;refine AFB ha (K.key _) (d:=.ref e.2.1) (by rw[Nz K,hf];rfl) ?_;refine p L e.2.1 es e.2.2 h (by rw[<-hek];exact he) ?_ (λx hx=>.inl hx) (.refl _ _) rfl;rw[Yy _ (by rw[Lg];exact hk)]
 .have hnk:Aq (kd k)∉(CI kd es).map (·.1):=λz=>by
   unfold CI at z;rw[Bz] at z;obtain⟨e,he,h2⟩:=Aw.mp z;exact hk (by rw[<-K.kf h2];exact Cz he)
  refine AFC ha (K.key _) (Wo hnk) (by unfold CI;rw[Ag];exact hz) ?_;have hput:=λd ep=>Kz (d:=d) (ep:=ep) hnk;rw[(hput _ 0).1,(hput .non _).2];have hgq:g≠q:=λz=>by rw[z,hq] at ha;cases ha
  have er:CI kd es++[(Aq (kd k),D.ref q)]=CI kd (es++[(k,q,[])]):=by unfold CI;rw[Co];rfl
  rw[er];refine p _ q (es++[(k,q,[])]) [] ⟨⟨_,CB ha⟩,λe he=>?_,?_,?_⟩ (by simp) ?_ (λx hx=>?_) ((Ad.refl _ _).set (.inl (by simp))) (by simp)
  .rcases CF.mp he with he|he
   .exact OL ha (h.it e he) (by simp)
   .have:e=(k,q,[]):=by simpa using he
    subst this;exact FE hgq hq
  .unfold BL;rw[Co,AKg]
   exact⟨h.nd,by simp,λa ha b hb z=>hqn (by have:b=q:=by simpa using hb
                                            rw[<-this,<-z];exact ha)⟩
  .rw[Co,AKg]
   exact⟨h.kn,by simp,λa ha b hb z=>hk (by have:b=k:=by simpa using hb
                                           rw[<-this,<-z];exact ha)⟩
  .unfold CM;rw[Lg,if_neg hk];unfold cont;rw[Co];rfl
  .unfold BL at hx;rw[Co] at hx;rcases CF.mp hx with hx|hx
   .exact .inl hx
   .exact .inr (by simpa using hx)
def DL.grow{k:κ}{q:Nat}{old ds:List D}(h:DL kd L g es)(hm:(k,q,old)∈es):∃es2,DL kd (L.set q (.lst (old++ds))) g es2/\cont es2=CM (cont es) k ds/\BL es2=BL es:=by
 obtain⟨ep,ha⟩:=h.at_;have hgq:q≠g:=λz=>by have:=h.it _ hm;simp only at this;rw[z,ha] at this;cases this
 have hraw:CI kd (es.map λe=>if e.1=k then (e.1,e.2.1,e.2.2++ds) else e)=CI kd es:=by
  unfold CI;rw[Bz];apply AKX;intro e _
  show(Aq (kd (if e.1=k then (e.1,e.2.1,e.2.2++ds) else e).1),D.ref (if e.1=k then (e.1,e.2.1,e.2.2++ds) else e).2.1)=_
  split <;> rfl
 have hadr:BL (es.map λe=>if e.1=k then (e.1,e.2.1,e.2.2++ds) else e)=BL es:=by
  unfold BL;rw[Bz];apply AKX;intro e _
  show(if e.1=k then (e.1,e.2.1,e.2.2++ds) else e).2.1=_
  split <;> rfl
 refine⟨es.map λe=>if e.1=k then (e.1,e.2.1,e.2.2++ds) else e,⟨⟨ep,by rw[hraw];exact FE hgq ha⟩,λe he=>?_,by rw[hadr];exact h.nd,?_⟩,?_,hadr⟩
 .obtain⟨e0,he0,rfl⟩:=Aw.mp he
  by_cases z:e0.1=k
  .rw[if_pos z];have:e0=(k,q,old):=Nu (f:=λe=>e.1) h.kn he0 hm z;subst this;exact CB (h.it _ hm)
  .rw[if_neg z];refine FE (λy=>z ?_) (h.it e0 he0);have:(k,q,old)=e0:=Nu (l:=es) (f:=λe:κ×Nat×List D=>e.2.1) (show(es.map λe=>e.2.1).Nodup from h.nd) hm he0 y;rw[<-this]
 .rw[Bz]
  have:((λe:κ×Nat×List D=>e.1)∘λe=>if e.1=k then (e.1,e.2.1,e.2.2++ds) else e)=λe=>e.1:=by
   funext e
   show(if e.1=k then (e.1,e.2.1,e.2.2++ds) else e).1=e.1
   split <;> rfl
  rw[this];exact h.kn
 .unfold CM;rw[if_pos (by rw[Lg];exact Cz (f:=λe:κ×Nat×List D=>e.1) hm)];unfold cont;rw[Bz,Bz];apply AKX;intro e _
  show((if e.1=k then (e.1,e.2.1,e.2.2++ds) else e).1,(if e.1=k then (e.1,e.2.1,e.2.2++ds) else e).2.2)=if e.1=k then (e.1,e.2.2++ds) else (e.1,e.2.2)
  split <;> rfl
end
def LJ{α β:Type}(f:α->β)(xs:List α)(i:Nat)(a:α)(b:β)(h:i<xs.length):(xs.map f)[i]?.getD b=f (xs.getD i a):=by simp[h]
def QX{xs ys:AMB}{i:Nat}{x:D}(hl:ys.length=xs.length)(h:(FC (xs.map D.str).length [xs.map D.str,ys.map D.str])[i]?=some x):i<xs.length/\x=.tup [.str (xs.getD i ""),.str (ys.getD i "")]:=by
 unfold FC at h;rw[Av,Ag] at h
 by_cases hi:i<xs.length
 .rw[AK0 hi] at h;refine⟨hi,?_⟩;have h':=Option.some.inj h;rw[<-h'];simp only[Ah,AK9];rw[LJ D.str xs i "" .non hi,LJ D.str ys i "" .non (by omega)]
 .rw[AKk (by simp;omega)] at h;cases h
def Mq(n:Nat)(yss:List (List D)):(FC n yss).length=n:=by unfold FC;simp
abbrev SK(as w:AMB):Bool:=(List.range as.length).all λi=>Gf (as.getD i "") (w.getD i "")
def AAb{Q:AMo}{L:AB}{as w:AMB}(hl:w.length=as.length)(hz:as.length<=1000)(h:Q (.bl (SK as w)) L):W2 (KU [Am as,Am w] L) Q:=by
 unfold KU;refine CG rfl ?_;unfold Qo Am;rfl';refine⟨as.map D.str,[w.map D.str],rfl,⟨by simp[hl],by simp,rfl⟩,?_⟩
 refine IQ (λρ=>∃e1 e2,ρ=[e1,e2]) (λx=>match x with|.tup [.str a,.str b]=>.bl (Gf a b)|_=>.non) (λacc=>decide_eq_true rfl) ⟨none,none,rfl⟩ (by rw[Mq,Ag];omega) ?_ ?_
 .rintro x hx ρ ⟨e1,e2,rfl⟩;obtain⟨i,hi,hx⟩:=ALA hx;obtain⟨hi2,rfl⟩:=QX hl (x:=x) (i:=i) (by rw[List.getElem?_eq_getElem hi,hx]);rfl';refine⟨⟨_,_,rfl⟩,λacc=>?_⟩;rfl';exact⟨rfl,rfl⟩
 .rfl'
  have e0:(FC (as.map D.str).length [as.map D.str,w.map D.str]).map (λx=>match x with|.tup [.str a,.str b]=>D.bl (Gf a b)|_=>.non)=((List.range as.length).map λi=>Gf (as.getD i "") (w.getD i "")).map D.bl:=by
   apply ALJ;intro i;rw[Av,Av,Av]
   cases hx:(FC (as.map D.str).length [as.map D.str,w.map D.str])[i]? with
   |none =>
    have:as.length<=i:=by have:=List.getElem?_eq_none_iff.mp hx;rw[Mq,Ag] at this;exact this
    rw[AKk (by simp;exact this)];rfl
   |some x =>
    obtain⟨hi2,rfl⟩:=QX hl hx;rw[AK0 hi2];rfl
  rw[e0]
  have e2:∀l:List Bool,blsD (l.map D.bl)=some l:=λl=>by
   induction l with
   |nil=>rfl
   |cons x l ih=>rw[Ah];simp[blsD,ih]
  refine AFJ AR (e2 _) ?_;refine⟨rfl,Aj _ _,?_⟩;rw[List.all_map];exact h
abbrev CJ(w:AMB)(c:List (AMB×List D))(a:AMB×List D):List (AMB×List D):=if SK a.1 w=true then CM c a.1 a.2 else c
def ZA{Q:AMo}{L:AB}{g p:Nat}{es:List (AMB×Nat×List D)}{as w:AMB}{ds:List D}(hg:DL Am L g es)(hp:L[p]?=some (.lst ds))(hpn:p∉BL es)(hl:w.length=as.length)(hn:as.length<=1000)
  (hz:es.length<16777216) (hb:∀e∈cont es,e.2.length+ds.length<=16777216) (hd:ds.length<=16777216)
  (h:∀L2 es2,DL Am L2 g es2->cont es2=CJ w (cont es) (as,ds)->(∀x∈BL es2,x∈BL es\/L.length<=x)->Ad (g::BL es) L L2->Q .non L2):W2 (JF [.ref g,Am w,Am as,.ref p] L) Q:=by
 unfold JF;refine JQ rfl ?_;unfold Ql;obtain⟨ep0,hg0⟩:=hg.at_;rfl';refine AAb hl hn ?_
 by_cases hw:SK as w=true
 .rw[hw];rfl';refine YO (q:=L.length) Fw (hg.pre (Aj _ _)) hz AR (λz=>Fh _ (hg.lt z)) λL2 q2 es2 old h2 hm hc ha hk hlen=>?_;have hpl:=Bs hp
  have hp2:L2[p]?=some (.lst ds):=hk.get (λz=>by
   have:p=g:=by simpa using z
   obtain⟨ep,e⟩:=hg.at_
   rw[<-this,hp] at e;cases e) (AU hp)
  refine Uj (h2.it _ hm) ?_;rfl';refine SV (h2.it _ hm) hp2 ?_ ?_
  .have:(as,old)∈cont es2:=Cz (f:=λe:AMB×Nat×List D=>(e.1,e.2.2)) hm;rw[hc] at this;rcases Lm this with h'|⟨_,h'|⟨qs,h',h3⟩⟩
   .exact hb _ h'
   .rw[h'];simpa using hd
   .rw[h3];simpa using hb _ h'
  .rfl';obtain⟨es3,h3,hc3,ha3⟩:=h2.grow (ds:=ds) hm
   have hcc:cont es3=CJ w (cont es) (as,ds):=by rw[hc3,hc,Yz];unfold CJ;rw[if_pos hw]
   refine⟨λhpre=>?_,h _ es3 h3 hcc (λx hx=>?_) ?_⟩
   .have e:=DL.uniq Fw (hg.pre hpre) h3;refine h L es hg ?_ (λx hx=>.inl hx) (.refl _ _);rw[<-hcc,<-e]
   .rw[ha3] at hx;rcases ha x hx with z|z
    .exact .inl z
    .exact .inr (AKz z.symm)
   .have k1:Ad (g::BL es) L L2:=(Ad.app _ _ _).step hk λj hj=>.inl (by simp at hj;simp[hj]);refine k1.set ?_;rcases ha q2 (GJ hm) with z|z
    .exact .inl (Az _ z)
    .exact .inr (AKz z.symm)
 .rw[Bool.not_eq_true] at hw;rw[hw];rfl';have hcc:cont es=CJ w (cont es) (as,ds):=by unfold CJ;rw[if_neg (by simp[hw])]
  exact⟨λ_=>h L es hg hcc (λx hx=>.inl hx) (.refl _ _),h L es hg hcc (λx hx=>.inl hx) (.refl _ _)⟩
def ABa{Q:AMo}{L:AB}{p:D}{y:Str}(hy:y.length<=1000)(hs:Ar y)(hp:Ex p)(h:Q (Df p y) L):W2 (IM [p,.str y] L) Q:=by
 obtain⟨kind,nth,edge,rfl,hn,he,_⟩:=hp;obtain⟨d,h1,h2⟩:=Nf (λi=>Di kind (sg y i)) y.cps.size hn (decide (edge = "behind"));simp only[Kw,h1,Option.getD_some] at h;refine VS hy ?_ h;rw[WW hs];have e:(!decide (edge = "ahead"))=decide (edge = "behind"):=by rcases he with rfl|rfl <;> decide
 rw[e];exact h1
abbrev Oj(ts:AMB):Prop:=(∀y∈ts,Ar y/\y.length<=100)/\ts.length<=100
abbrev Gy(ts:AMB)(p:D):Option (AMH):=Du (ts.map λy=>Df p y)
def OG:∀{xs:List D} {ys:AMH},Du xs=some ys->xs=ys.map D.int
 |[],ys,h=>by cases h;rfl
 |x::xs,ys,h=>by
  cases x with
  |int s =>
   simp only[Du] at h
   cases e:Du xs with
   |none=>rw[e] at h;cases h
   |some a=>rw[e] at h;cases h;simp[<-OG e]
  |_=>simp[Du] at h
def XV:∀{xs:List D},(∀d∈xs,d=.non\/∃t,d=.int t)->DE .non xs=(Du xs).isNone
 |[],_=>rfl
 |x::xs,h=>by
  have ih:=XV λd hd=>h d (Az _ hd);rcases h x BC with rfl|⟨t,rfl⟩
  .rfl
  .have:DE .non (.int t::xs)=DE .non xs:=rfl;rw[this,ih];simp only[Du];cases Du xs <;> rfl
abbrev DC(ts:AMB)(c:List (AMH×List D))(p:D):List (AMH×List D):=match Gy ts p with|some ks=>CM c ks [p]|none=>c
abbrev CV(ts:AMB):List (AMH×List D):=Dt.foldl (DC ts) []
def Ra{ts:AMB}:∀(ps:List D) {c:List (AMH×List D)} {n b:Nat},Db c n b->Db (ps.foldl (DC ts) c) (n+ps.length) (b+ps.length)
 |[],c,n,b,h=>h
 |p::ps,c,n,b,h=>by
  have h1:Db (DC ts c p) (n+1) (b+1):=by
   unfold DC;split
   .exact h.add (by simp)
   .exact h.mono (by omega) (by omega)
  exact(Ra ps h1).mono (by simp;omega) (by simp;omega)
def Lj{κ:Type}[DecidableEq κ]:Db ([]:List (κ×List D)) 0 0:=⟨Ac _,(λ_ h=>(nomatch h))⟩
def SZ{α β:Type}{f:β->α->β}{xs:List α}{i:Nat}{x:α}{b:β}(h:xs[i]?=some x):(xs.take (0+i+1)).foldl f b=f ((xs.take (0+i)).foldl f b) x:=by rw[HX h,List.foldl_append];rfl
def AGX{Q:AMo}{L:AB}{tx:Nat}{ts:AMB}(ht:L[tx]?=some (.lst (ts.map D.str)))(ok:Oj ts)
  (h:∀L2 es,L <+: L2->DL Dp L2 L.length es->cont es=CV ts->(∀x∈BL es,L.length<x)->Q (.ref L.length) L2):W2 (KW [.ref tx] L) Q:=by
 unfold KW;refine EJ rfl ?_;unfold Qr;rfl';refine AGu λL1 h1 hp1=>?_;rfl';have hlen1:=Bs h1;have ed1:L1[L.length]?=some (.dt [] 0):=BP hp1 AR;have e0:(L++[Ob.dt [] 0]).length=L.length+1:=by simp
 have htl:=Bs ht
 refine Cu (λj ρ L'=>Ad [L.length] L1 L'/\(∃e1 e2,ρ=[some (.ref tx),some (.ref L.length),e1,e2])/\∃es,DL Dp L' L.length es/\cont es=(Dt.take j).foldl (DC ts) []/\∀x∈BL es,L1.length<=x) _ 0 _ _
  ⟨.refl _ _,⟨none,none,rfl⟩,[],⟨⟨0,ed1⟩,(λ_ h=>(nomatch h)),AKh,AKh⟩,rfl,(λ_ h=>(nomatch h))⟩ ?_ ?_
 .rintro i x ρ L' hx ⟨hk,⟨e1,e2,rfl⟩,es,hd,hc,ha⟩;refine⟨decide_eq_true (hk.get (by simp) h1),?_⟩;have ht1:L'[tx]?=some (.lst (ts.map D.str)):=hk.get (by simp;omega) (BP hp1 (AU ht));have hpl:=RY x (Bv hx);have hi:i<40:=by have:=(BA.mp hx).1;rw[RX] at this;exact this
  have hb:Db (cont es) 40 40:=by
   rw[hc];have:=Ra (ts:=ts) (Dt.take (0+i)) Lj;have hl:(Dt.take (0+i)).length<=40:=by rw[FP,RX];omega
   exact this.mono (by omega) (by omega)
  rfl'
  refine IQ (λρ=>∃e,ρ=[e,some x]) (λy=>match y with|.str s=>Df x s|_=>.non) (λacc=>decide_eq_true (AU ht1)) ⟨_,rfl⟩ (by rw[Ag];have:=ok.2;omega) ?_ ?_
  .rintro y hy ρ ⟨e,rfl⟩;obtain⟨s,hs,rfl⟩:=Aw.mp hy;rfl';refine⟨⟨_,rfl⟩,λacc=>?_⟩;rfl';refine ABa (by have:=(ok.1 s hs).2;omega) (ok.1 s hs).1 hpl ?_;exact⟨rfl,rfl⟩
  .have em:(ts.map D.str).map (λy=>match y with|.str s=>Df x s|_=>.non)=ts.map λy=>Df x y:=by rw[Bz];rfl
   rw[em]
   have hk2:∀d∈ts.map (λy=>Df x y),d=.non\/∃t,d=.int t:=λd hd=>by
    obtain⟨y,_,rfl⟩:=Aw.mp hd;rcases Kx hpl y with e|⟨t,e,_⟩
    .exact .inl e
    .exact .inr ⟨t,e⟩
   rfl'
   refine AFE (by
    rw[CA,DM];refine⟨rfl,λd hd=>?_⟩
    rcases hk2 d hd with rfl|⟨t,rfl⟩ <;> rfl) ?_
   rw[XV hk2];have hf:=SZ (f:=DC ts) (b:=[]) hx
   cases e3:Du (ts.map λy=>Df x y) with
   |none =>
    have e4:DC ts ((Dt.take (0+i)).foldl (DC ts) []) x=(Dt.take (0+i)).foldl (DC ts) []:=by unfold DC Gy;rw[e3]
    rw[show(none:Option (AMH)).isNone=true from rfl];rfl';exact⟨hk.trans (.app _ _ _),⟨_,_,rfl⟩,es,hd.pre (Aj _ _),by rw[hf,e4];exact hc,ha⟩
   |some ks =>
    have e4:DC ts ((Dt.take (0+i)).foldl (DC ts) []) x=CM ((Dt.take (0+i)).foldl (DC ts) []) ks [x]:=by unfold DC Gy;rw[e3]
    rw[show(some ks).isNone=false from rfl,OG e3];obtain⟨epd,hd0⟩:=hd.at_;rfl';have hkl:=hk.1;refine YO (k:=ks) (q:=(L'++[Ob.lst (ks.map D.int)]).length) Ia ((hd.pre (Aj _ [Ob.lst (ks.map D.int)])).pre (Aj _ _)) (by have:=hb.1;rw[Jv] at this;omega) AR (λz=>by have:=hd.lt z;simp at this;omega) λL2 q2 es2 old h2 hm hcc haa hkk hlen=>?_;refine Uj (h2.it _ hm) ?_;rfl';refine HG (h2.it _ hm) ?_ ?_
    .have:(ks,old)∈cont es2:=Cz (f:=λe:AMH×Nat×List D=>(e.1,e.2.2)) hm;rw[hcc] at this;have h9:old.length<=40+0:=(hb.add (m:=0) (ds:=[]) (k:=ks) (Ac _)).2 _ this;show old.length<16777216;omega
    .rfl';obtain⟨es3,h3,hc3,ha3⟩:=h2.grow (ds:=[x]) hm;have kk:Ad [L.length] L1 L2:=((hk.trans (.app _ _ _)).trans (.app _ _ _)).trans hkk
     have hq2:L1.length<=q2:=by
      rcases haa q2 (GJ hm) with z|z
      .exact ha q2 z
      .rw[z];simp;omega
     refine⟨kk.set (.inr hq2),⟨_,_,rfl⟩,es3,h3,?_,λy hy=>?_⟩
     .rw[hc3,hcc,Yz,hf,e4,hc]
     .rw[ha3] at hy;rcases haa y hy with z|z
      .exact ha y z
      .rw[z];simp;omega
 .rintro ρ L' ⟨hk,⟨e1,e2,rfl⟩,es,hd,hc,ha⟩;refine⟨decide_eq_true (hk.get (by simp) h1),?_⟩;rfl';refine⟨rfl,h _ es ?_ hd ?_ λx hx=>?_⟩
  .have:Ad [L.length] (L++[Ob.dt [] 0]) L':=(Ad.of_pre hp1).trans hk;exact Ad.pre (((Ad.app _ _ _).trans this).mono λj hj=>.inr (by simp at hj;omega))
  .rw[hc,Bh,Ee];rfl
  .have:=ha x hx;omega
abbrev FH(ts:AMB)(ss ee:AMH):Bool:=(List.range ts.length).all λi=>decide (ss.getD i 0<ee.getD i 0)
abbrev EV(ts:AMB)(ss ee:AMH)(n:Nat):AMB:=(List.range n).map λi=>Txt.slice (ts.getD i "") (some (ss.getD i 0)) (some (ee.getD i 0))
def AAD{ts:AMB}{ss ee:AMH}{i:Nat}{x:D}(h1:ss.length=ts.length)(h2:ee.length=ts.length)(h:(FC (ts.map D.str).length [ts.map D.str,ss.map D.int,ee.map D.int])[i]?=some x):i<ts.length/\x=.tup [.str (ts.getD i ""),.int (ss.getD i 0),.int (ee.getD i 0)]:=by
 unfold FC at h;rw[Av,Ag] at h
 by_cases hi:i<ts.length
 .rw[AK0 hi] at h;refine⟨hi,?_⟩;have h':=Option.some.inj h;rw[<-h'];simp only[Ah,AK9];rw[LJ D.str ts i "" .non hi,LJ D.int ss i 0 .non (by omega),LJ D.int ee i 0 .non (by omega)]
 .rw[AKk (by simp;omega)] at h;cases h
def ABY{Q:AMo}{L:AB}{tx:Nat}{ts:AMB}{ss ee:AMH}(ht:L[tx]?=some (.lst (ts.map D.str)))(hz:ts.length<=1000)(h1:ss.length=ts.length)(h2:ee.length=ts.length)
  (hn:FH ts ss ee=false->Q .non L) (hy:FH ts ss ee=true->Q (.ref L.length) (L++[.lst ((EV ts ss ee ts.length).map D.str)])):W2 (KS [.ref tx,Dp ss,Dp ee] L) Q:=by
 unfold KS;refine AAh rfl ?_;unfold Qh Dp;rfl';have e0:∀M:AB,M[tx]?=some (.lst (ts.map D.str))->seqs [.ref tx,.tup (ss.map D.int),.tup (ee.map D.int)] M=some [ts.map D.str,ss.map D.int,ee.map D.int]:=λM hM=>by simp[seqs,Cd,hM]
 refine⟨ts.map D.str,[ss.map D.int,ee.map D.int],e0 _ (AU ht),⟨by simp[h1,h2],by simp,rfl⟩,?_⟩;refine Cu (λj ρ L'=>L'=L++[.lst ((EV ts ss ee j).map D.str)]/\(∀i,i<j->i<ts.length->ss.getD i 0<ee.getD i 0)/\∃e1 e2 e3,ρ=[some (.ref tx),some (.tup (ss.map D.int)),some (.tup (ee.map D.int)),some (.ref L.length),e1,e2,e3]) _ 0 _ _ ⟨rfl,λi hi=>(by omega),none,none,none,rfl⟩ ?_ ?_
 .rintro i x ρ L' hx ⟨rfl,hlt,e1,e2,e3,rfl⟩;refine⟨decide_eq_true (e0 _ (AU ht)),?_⟩;obtain⟨hi,rfl⟩:=AAD h1 h2 hx;rfl';refine BU (λhge=>?_) (λhge=>?_)
  .rfl';refine⟨Aj _ _,λ_=>hn ?_,λz=>by cases z⟩;rw[ALI];intro hall;unfold FH at hall;have:=DM.mp hall i (CN.mpr hi);have:=of_decide_eq_true this;omega
  .rfl';refine HG AR (by unfold EV;simp;omega) ?_;rfl';refine⟨?_,λk hk hkt=>?_,_,_,_,rfl⟩
   .have:EV ts ss ee (0+i+1)=EV ts ss ee (0+i)++[Txt.slice (ts.getD i "") (some (ss.getD i 0)) (some (ee.getD i 0))]:=by
     unfold EV;rw[ALg,Co,Bh];rfl
    rw[this,Co];simp
   .by_cases z:k=i
    .subst z;omega
    .exact hlt k (by omega) hkt
 .rintro ρ L' ⟨rfl,hlt,e1,e2,e3,rfl⟩;refine⟨decide_eq_true (e0 _ (AU ht)),?_⟩;rw[Mq,Ag,Bh] at *;rfl';refine⟨Aj _ _,(λz=>by cases z),λ_=>hy ?_⟩;unfold FH;rw[DM];exact λi hi=>decide_eq_true (hlt i (CN.mp hi) (CN.mp hi))
def AF4{Q:AMo}{L:AB}{d y:Str}(hd:d∈ES)(hs:Ar y)(hl:y.length<=1000)(h:Q (.str (ET d y)) L):W2 (KQ [.str d,.str y] L) Q:=by
 unfold KQ;refine CG rfl ?_;unfold QZ;unfold ET at h;simp only[ES,AW,DK,or_false] at hd;rcases hd with rfl|rfl|rfl
 .rw[if_neg (by decide),if_neg (by decide)] at h;rfl';exact⟨rfl,An _,h⟩
 .rw[if_pos rfl] at h;rfl';refine OM (by rw[RK hs];omega) ?_;exact⟨rfl,An _,h⟩
 .rw[if_neg (by decide),if_pos rfl] at h;rfl';refine OM (by rw[Rr hs];omega) ?_;exact⟨rfl,An _,h⟩
abbrev DG(ws ts:AMB):List (AMB×List D):=ws.map λw=>(ts.map (λ_=>w),[NM w])
abbrev Gj(ts:AMB)(s e:AMH×List D)(d:Str):AMB×List D:=((EV ts s.1 e.1 ts.length).map (ET d),GI d s.2 e.2)
abbrev Cq(ts:AMB)(s e:AMH×List D):List (AMB×List D):=if FH ts s.1 e.1=true then ES.map (Gj ts s e) else []
abbrev HN(ts:AMB)(P:List (AMH×List D)):List (AMB×List D):=P.flatMap λs=>P.flatMap λe=>Cq ts s e
abbrev Dv(ws ts w:AMB):List (AMB×List D):=(DG ws ts++HN ts (CV ts)).foldl (CJ w) []
def OJ{w:AMB}:∀(A:List (AMB×List D)) {c:List (AMB×List D)} {n b:Nat},Db c n b->(∀a∈A,a.2.length<=1600)->Db (A.foldl (CJ w) c) (n+A.length) (b+1600*A.length)
 |[],c,n,b,h,_=>h
 |a::A,c,n,b,h,hA=>by
  have h1:Db (CJ w c a) (n+1) (b+1600):=by
   unfold CJ;split
   .exact h.add (hA a BC)
   .exact h.mono (by omega) (by omega)
  exact(OJ A h1 λx hx=>hA x (Az _ hx)).mono (by simp;omega) (by simp;omega)
def Nn(ts:AMB):Db (CV ts) 40 40:=by have:=Ra (ts:=ts) Dt Lj;rw[RX] at this;exact this.mono (by omega) (by omega)
def WC{ts:AMB}:∀(ps:List D) {c:List (AMH×List D)},(∀e∈c,e.1.length=ts.length)->∀e∈ps.foldl (DC ts) c,e.1.length=ts.length
 |[],c,h=>h
 |p::ps,c,h=>by
  refine WC ps ?_;unfold DC
  cases e3:Gy ts p with
  |none=>exact h
  |some ks =>
   rintro⟨k,qs⟩ he;rcases Lm he with h'|⟨rfl,_⟩
   .exact h _ h'
   .have:=congrArg List.length (OG e3);simpa using this.symm
def Nm{ts:AMB}{e:AMH×List D}(h:e∈CV ts):e.1.length=ts.length:=WC Dt (by simp) e h
def WO{ts:AMB}(s e:AMH×List D):(Cq ts s e).length<=3:=by
 unfold Cq;split
 .simp[ES]
 .simp
def OS{α β:Type}{f:α->List β}{m:Nat}:∀(l:List α),(∀x∈l,(f x).length<=m)->(l.flatMap f).length<=l.length*m
 |[],_=>by simp
 |x::l,h=>by
  rw[ALF,Bc,Dd,AKi];have h1:=h x BC;have h2:=OS l λy hy=>h y (Az _ hy);omega
def WN{ts:AMB}{P:List (AMH×List D)}(hP:Db P 40 40){s e:AMH×List D}(hs:s∈P)(he:e∈P):∀a∈Cq ts s e,a.2.length<=1600:=by
 intro a ha;unfold Cq at ha;split at ha
 .obtain⟨d,_,rfl⟩:=Aw.mp ha;show(GI d s.2 e.2).length<=1600;rw[Jx];exact AKv (hP.2 s hs) (hP.2 e he)
 .cases ha
def Rw{κ:Type}{kd:κ->D}(K:KD kd)(es:List (κ×Nat×List D)):FX (CI kd es)=es.map λe=>kd e.1:=by unfold FX CI;rw[Bz];apply AKX;intro e _;exact K.nk e.1
def DL.look_mem{κ:Type}[DecidableEq κ]{kd:κ->D}(K:KD kd){L:AB}{g:Nat}{es:List (κ×Nat×List D)}(h:DL kd L g es){e:κ×Nat×List D}(he:e∈es):Bj (CI kd es) (Aq (kd e.1))=some (.ref e.2.1):=by rw[Nz K];obtain⟨e',hf,he',hk⟩:=Jq (Cz (f:=λe:κ×Nat×List D=>e.1) he);rw[hf];have:e'=e:=Nu (f:=λe=>e.1) h.kn he' he hk;rw[this];rfl
def AGD{ts:AMB}(ok:Oj ts)(ss ee:AMH){n:Nat}{y:Str}(h:y∈EV ts ss ee n):Ar y/\y.length<=100:=by
 unfold EV at h;obtain⟨i,_,rfl⟩:=Aw.mp h
 by_cases hi:i<ts.length
 .have hm:ts.getD i ""∈ts:=by simp[hi]
  exact⟨(ok.1 _ hm).1.slice _ _,Bu (Txt.slice_le _ _ _) (ok.1 _ hm).2⟩
 .have e:ts.getD i "" = "":=by simp[Nat.le_of_not_lt hi]
  rw[e];have h0:Ar "":=λc hc=>by cases hc
  exact⟨h0.slice _ _,Bu (Txt.slice_le _ _ _) (by decide)⟩
def YX(ts:AMB)(ss ee:AMH)(n:Nat):(EV ts ss ee n).length=n:=by unfold EV;simp
def AE7{Q:AMo}{L:AB}{w tx:Nat}{ws ts wd:AMB}(hw:L[w]?=some (.lst (ws.map D.str)))(hl:ws.length<=6)(ht:L[tx]?=some (.lst (ts.map D.str)))(ok:Oj ts)(hwd:wd.length=ts.length)
  (h:∀L2 es,L <+: L2->DL Am L2 L.length es->cont es=Dv ws ts wd->(∀x∈BL es,L.length<x)->Q (.ref L.length) L2):W2 (KP [.ref w,.ref tx,Am wd] L) Q:=by
 unfold KP;refine EJ rfl ?_;unfold QU;simp only[Ma];have hwl:=Bs hw;have htl:=Bs ht;have htn:=ok.2;refine Ks (NL (AAk ?_));generalize hL1:L++[Ob.dt [] 0]=L1;have hL1l:L1.length=L.length+1:=by rw[<-hL1];simp
 have hg1:L1[L.length]?=some (.dt [] 0):=by rw[<-hL1];exact AR
 have hw1:L1[w]?=some (.lst (ws.map D.str)):=by rw[<-hL1];exact AU hw
 have ht1:L1[tx]?=some (.lst (ts.map D.str)):=by rw[<-hL1];exact AU ht
 have hAw:∀a∈DG ws ts,a.2.length<=1600:=λa ha=>by
  obtain⟨x,_,rfl⟩:=Aw.mp ha;simp
 have hAl:(DG ws ts).length<=6:=by unfold DG;rw[Ag];exact hl
 refine BD (λρ L'=>∃es,DL Am L' L.length es/\cont es=(DG ws ts).foldl (CJ wd) []/\(∀x∈BL es,L1.length<=x)/\Ad [L.length] L1 L'/\∃e,ρ=[some (.ref w),some (.ref tx),some (Am wd),some (.ref L.length),e,none,none,none,none,none,none]) ?_ ?_
 .rfl'
  refine Cu (λj ρ L'=>∃es,DL Am L' L.length es/\cont es=((DG ws ts).take j).foldl (CJ wd) []/\(∀x∈BL es,L1.length<=x)/\Ad [L.length] L1 L'/\∃e,ρ=[some (.ref w),some (.ref tx),some (Am wd),some (.ref L.length),e,none,none,none,none,none,none]) _ 0 _ _
   ⟨[],⟨⟨0,hg1⟩,(λ_ h=>(nomatch h)),AKh,AKh⟩,rfl,(λ_ h=>(nomatch h)),.refl _ _,none,rfl⟩ ?_ ?_
  .rintro i x ρ L' hx ⟨es,hd,hc,ha,hk,e,rfl⟩;refine⟨decide_eq_true (hk.get (by simp;omega) hw1),?_⟩;have ht':L'[tx]?=some (.lst (ts.map D.str)):=hk.get (by simp;omega) ht1;rw[Av] at hx;obtain⟨wd1,hxw,hx⟩:=mS hx;cases hx
   have hb:Db (cont es) 6 9600:=by
    rw[hc];have:=OJ (w:=wd) ((DG ws ts).take (0+i)) Lj λa ha=>hAw a (ALG ha);have hl:((DG ws ts).take (0+i)).length<=6:=by rw[FP];omega
    exact this.mono (by omega) (by omega)
   rfl';refine IQ (λρ=>∃e,ρ=[e,some (.str wd1)]) (λ_=>.str wd1) (λacc=>decide_eq_true (AU ht')) ⟨_,rfl⟩ (by rw[Ag];omega) ?_ ?_
   .rintro y hy ρ ⟨e,rfl⟩;rfl';refine⟨⟨_,rfl⟩,λacc=>?_⟩;rfl';exact⟨rfl,rfl⟩
   .have em:(ts.map D.str).map (λ_=>D.str wd1)=(ts.map λ_=>wd1).map D.str:=by rw[Bz,Bz];rfl
    rw[em];rfl';have hkl:=hk.1;refine ZA (as:=ts.map λ_=>wd1) (w:=wd) (ds:=[.tup [.str "word",.str wd1]]) ((hd.pre (Aj _ _)).pre (Aj _ _)) AR (λz=>by have:=hd.lt z;simp at this;omega) (by simp[hwd]) (by simp;omega) (by have:=hb.1;rw[Jv] at this;omega) (λe he=>by have:=hb.2 e he;simp;omega) (by simp) λL2 es2 h2 hc2 ha2 hk2=>?_;rfl';refine⟨es2,h2,?_,λy hy=>?_,?_,_,rfl⟩
    .have hxa:(DG ws ts)[i]?=some (ts.map (λ_=>wd1),[NM wd1]):=by unfold DG;rw[Av,hxw];rfl
     rw[SZ hxa,<-hc];exact hc2
    .rcases ha2 y hy with z|z
     .exact ha y z
     .simp at z;omega
    .exact((hk.trans (.app _ _ _)).trans (.app _ _ _)).step hk2 (λj hj=>by
      rcases AW.mp hj with e1|e1
      .exact .inl (by simp[e1])
      .exact .inr (ha j e1))
  .rintro ρ L' ⟨es,hd,hc,ha,hk,e,rfl⟩;refine⟨decide_eq_true (hk.get (by simp;omega) hw1),?_⟩;refine⟨es,hd,?_,ha,hk,_,rfl⟩;rw[hc,Ag,Bh];have:(DG ws ts).length=ws.length:=by unfold DG;simp
   rw[<-this,Ee]
 rintro ρ L2 ⟨es1,hd1,hc1,ha1,hk1,e,rfl⟩;have ht2:L2[tx]?=some (.lst (ts.map D.str)):=hk1.get (by simp;omega) ht1;have hk1l:=hk1.1;rfl';refine AGX ht2 ok λL3 esP hp3 hdP hcP haP=>?_;have hL3:L2.length<L3.length:=hdP.glt;have hd3:=hd1.pre hp3;have ht3:L3[tx]?=some (.lst (ts.map D.str)):=BP hp3 ht2;obtain⟨epP,hP0⟩:=hdP.at_;have hPb:Db (cont esP) 40 40:=by rw[hcP];exact Nn ts
 have hPl:(cont esP).length<=40:=hPb.1
 have free:∀j,j≠L.length->(j<L1.length\/L2.length<=j)->j∉L.length::BL es1:=λj h1 h2 hj=>by
  rcases AW.mp hj with e1|e1
  .exact h1 e1
  .have:=hd1.lt e1;have:=ha1 j e1;omega
 rfl';rw[Rw Ia]
 refine Cu (λi ρ L'=>∃es,DL Am L' L.length es/\cont es=(DG ws ts++((cont esP).take i).flatMap λs=>(cont esP).flatMap λe=>Cq ts s e).foldl (CJ wd) []/\(∀x∈BL es,x∈BL es1\/L3.length<=x)/\Ad (L.length::BL es1) L3 L' /\
   ∃e1 e2 e3 e4 e5,ρ=[some (.ref w),some (.ref tx),some (Am wd),some (.ref L.length),e,some (.ref L2.length),e1,e2,e3,e4,e5]) _ 0 _ _ ⟨es1,hd3,by simpa using hc1,λx hx=>.inl hx,.refl _ _,none,none,none,none,none,rfl⟩ ?_ ?_
 .rintro i x ρ L' hx ⟨es,hd,hc,ha,hk,e1,e2,e3,e4,e5,rfl⟩;have hP':L'[L2.length]?=some (.dt (CI Dp esP) epP):=hk.get (free _ (by omega) (by omega)) hP0;refine⟨by simp[Hc,hP'],?_⟩;rw[Av] at hx;obtain⟨se,hse,hx⟩:=mS hx;cases hx;have hsm:=Bv hse;have hsc:(cont esP)[i]?=some (se.1,se.2.2):=by unfold cont;rw[Av,hse];rfl
  have hscm:=Bv hsc;rfl';rw[Rw Ia];generalize hA1:(DG ws ts++((cont esP).take (0+i)).flatMap λs=>(cont esP).flatMap λe=>Cq ts s e)=A1 at hc
  have hA1s:∀a∈A1,a.2.length<=1600:=λa ha=>by
   rw[<-hA1] at ha;rcases CF.mp ha with ha|ha
   .exact hAw a ha
   .obtain⟨s,hs,ha⟩:=AK2.mp ha;obtain⟨e,he,ha⟩:=AK2.mp ha;exact WN hPb (ALG hs) he a ha
  have hA1l:A1.length<=6+4800:=by
   rw[<-hA1,Bc]
   have h1:=OS (m:=120) ((cont esP).take (0+i)) (f:=λs=>(cont esP).flatMap λe=>Cq ts s e) λs _=>by
    have:=OS (m:=3) (cont esP) (f:=λe=>Cq ts s e) λe _=>WO s e;omega
   have h2:((cont esP).take (0+i)).length<=40:=by rw[FP];omega
   have h3:=AKr 120 h2;omega
  refine Cu (λj ρ L'=>∃es,DL Am L' L.length es/\cont es=(A1++((cont esP).take j).flatMap λe=>Cq ts (se.1,se.2.2) e).foldl (CJ wd) []/\(∀x∈BL es,x∈BL es1\/L3.length<=x)/\Ad (L.length::BL es1) L3 L' /\
   ∃e2 e3 e4 e5,ρ=[some (.ref w),some (.ref tx),some (Am wd),some (.ref L.length),e,some (.ref L2.length),some (Dp se.1),e2,e3,e4,e5]) _ 0 _ _ ⟨es,hd,by simpa using hc,ha,hk,_,_,_,_,rfl⟩ ?_ ?_
  .clear hP' hk ha hc hd es;rintro j x ρ L' hx ⟨es,hd,hc,ha,hk,e2,e3,e4,e5,rfl⟩;have hP':L'[L2.length]?=some (.dt (CI Dp esP) epP):=hk.get (free _ (by omega) (by omega)) hP0;have ht':L'[tx]?=some (.lst (ts.map D.str)):=hk.get (free _ (by omega) (by omega)) ht3;refine⟨by simp[Hc,hP'],?_⟩;rw[Av] at hx;obtain⟨ee,hee,hx⟩:=mS hx;cases hx;have hem:=Bv hee;have hec:(cont esP)[j]?=some (ee.1,ee.2.2):=by unfold cont;rw[Av,hee];rfl
   have hecm:=Bv hec;have hkl:=hk.1
   have htake:((cont esP).take (0+j+1)).flatMap (λe=>Cq ts (se.1,se.2.2) e)=((cont esP).take (0+j)).flatMap (λe=>Cq ts (se.1,se.2.2) e)++Cq ts (se.1,se.2.2) (ee.1,ee.2.2):=by rw[HX hec,ALP];simp
   generalize hA2:(A1++((cont esP).take (0+j)).flatMap λe=>Cq ts (se.1,se.2.2) e)=A2 at hc
   have hA2s:∀a∈A2,a.2.length<=1600:=λa ha=>by
    rw[<-hA2] at ha;rcases CF.mp ha with ha|ha
    .exact hA1s a ha
    .obtain⟨e,he,ha⟩:=AK2.mp ha;exact WN hPb hscm (ALG he) a ha
   have hA2l:A2.length<=6+4800+120:=by
    rw[<-hA2,Bc];have h1:=OS (m:=3) ((cont esP).take (0+j)) (f:=λe=>Cq ts (se.1,se.2.2) e) λe _=>WO _ e;have h2:((cont esP).take (0+j)).length<=40:=by rw[FP];omega
    omega
   rw[show A1++((cont esP).take (0+j+1)).flatMap (λe=>Cq ts (se.1,se.2.2) e)=A2++Cq ts (se.1,se.2.2) (ee.1,ee.2.2) by rw[htake,<-hA2,AK3]];rfl';refine ABY ht' (by omega) (Nm (e:=(se.1,se.2.2)) (by rw[<-hcP];exact hscm)) (Nm (e:=(ee.1,ee.2.2)) (by rw[<-hcP];exact hecm)) (λhno=>?_) (λhyes=>?_)
   .rfl';refine⟨es,hd,?_,ha,hk,_,_,_,_,rfl⟩;rw[hc];unfold Cq;rw[if_neg (by rw[hno];simp),FR]
   .rfl';have hpa:Cq ts (se.1,se.2.2) (ee.1,ee.2.2)=ES.map (Gj ts (se.1,se.2.2) (ee.1,ee.2.2)):=by unfold Cq;rw[if_pos hyes]
    rw[hpa];generalize hcut:EV ts se.1 ee.1 ts.length=sgs;have hcl:sgs.length=ts.length:=by rw[<-hcut,YX]
    generalize hL4:L'++[Ob.lst (sgs.map D.str)]=L4;have hp4:L' <+: L4:=by rw[<-hL4];exact Aj _ _
    have hL4l:L4.length=L'.length+1:=by rw[<-hL4];simp
    have hs4:L4[L'.length]?=some (.lst (sgs.map D.str)):=by rw[<-hL4];exact AR
    have hd4:=hd.pre hp4;have hP4:=BP hp4 hP';have hxs:L4[se.2.1]?=some (.lst se.2.2):=BP hp4 (hk.get (free _ (by have:=haP _ (GJ hsm);omega) (by have:=haP _ (GJ hsm);omega)) (hdP.it se hsm));have hys:L4[ee.2.1]?=some (.lst ee.2.2):=BP hp4 (hk.get (free _ (by have:=haP _ (GJ hem);omega) (by have:=haP _ (GJ hem);omega)) (hdP.it ee hem))
    have outP:∀q,L2.length<=q->q<L3.length->q∉L.length::BL es:=λq h1 h2 hj=>by
     rcases AW.mp hj with z|z
     .omega
     .rcases ha q z with y|y
      .have:=hd1.lt y;omega
      .omega
    have outS:L'.length∉L.length::BL es:=λhj=>by
     rcases AW.mp hj with z|z
     .omega
     .have:=hd.lt z;omega
    have hsl:=hdP.lt (GJ hsm);have hel:=hdP.lt (GJ hem);have hsl2:=haP _ (GJ hsm);have hel2:=haP _ (GJ hem)
    refine Cu (λk ρ L'=>∃es',DL Am L' L.length es'/\cont es'=(A2++(ES.take k).map (Gj ts (se.1,se.2.2) (ee.1,ee.2.2))).foldl (CJ wd) []/\(∀x∈BL es',x∈BL es\/L4.length<=x)/\Ad (L.length::BL es) L4 L' /\
     ∃e4 e5,ρ=[some (.ref w),some (.ref tx),some (Am wd),some (.ref L.length),e,some (.ref L2.length),some (Dp se.1),some (Dp ee.1),some (.ref (L4.length-1)),e4,e5]) _ 0 _ _ ⟨es,hd4,by simpa using hc,λx hx=>.inl hx,.refl _ _,_,_,by rw[hL4l];rfl⟩ ?_ ?_
    .rintro k x ρ L5 hx ⟨es5,hd5,hc5,ha5,hk5,e4,e5,rfl⟩
     have hds:∃d,ES[k]?=some d/\x=.str d:=by
      have:(ES.map D.str)[k]?=some x:=hx;rw[Av] at this
      cases hd:ES[k]? with
      |none=>rw[hd] at this;cases this
      |some d=>rw[hd] at this;exact⟨d,rfl,(Option.some.inj this).symm⟩
     obtain⟨d,hdk,rfl⟩:=hds;have hdm:=Bv hdk;refine⟨rfl,?_⟩;have el4:L4.length-1=L'.length:=by omega
     rw[el4];have hs5:L5[L'.length]?=some (.lst (sgs.map D.str)):=hk5.get outS hs4;have hP5:L5[L2.length]?=some (.dt (CI Dp esP) epP):=hk5.get (outP _ (by omega) (by omega)) hP4;have hxs5:L5[se.2.1]?=some (.lst se.2.2):=hk5.get (outP _ (by omega) hsl) hxs;have hys5:L5[ee.2.1]?=some (.lst ee.2.2):=hk5.get (outP _ (by omega) hel) hys;have hk5l:=hk5.1
     have hb5:Db (cont es5) 10000 12000000:=by
      rw[hc5]
      have h3:((ES.take (0+k)).map (Gj ts (se.1,se.2.2) (ee.1,ee.2.2))).length<=3:=by rw[Ag,FP];have:ES.length=3:=rfl;omega
      have:=OJ (w:=wd) (A2++(ES.take (0+k)).map (Gj ts (se.1,se.2.2) (ee.1,ee.2.2))) Lj λa ha=>by
       rcases CF.mp ha with ha|ha
       .exact hA2s a ha
       .obtain⟨d',_,rfl⟩:=Aw.mp ha;show(GI d' se.2.2 ee.2.2).length<=1600;rw[Jx];exact AKv (hPb.2 _ hscm) (hPb.2 _ hecm)
      rw[Bc] at this;exact this.mono (by omega) (by omega)
     have hbw:(GI d se.2.2 ee.2.2).length<=1600:=by rw[Jx];exact AKv (hPb.2 _ hscm) (hPb.2 _ hecm)
     rfl'
     refine IQ (λρ=>∃e,ρ=[e,some (.str d)]) (λy=>match y with|.str s=>.str (ET d s)|_=>.non) (λacc=>decide_eq_true (AU hs5)) ⟨_,rfl⟩ (by rw[Ag,hcl];omega) ?_ ?_
     .rintro y hy ρ ⟨e,rfl⟩;obtain⟨s,hs,rfl⟩:=Aw.mp hy;rw[<-hcut] at hs;have hso:=AGD ok _ _ hs;rfl';refine⟨⟨_,rfl⟩,λacc=>?_⟩;rfl';refine AF4 hdm hso.1 (by omega) ?_;exact⟨rfl,rfl⟩
     .have em:(sgs.map D.str).map (λy=>match y with|.str s=>D.str (ET d s)|_=>.non)=(sgs.map (ET d)).map D.str:=by rw[Bz,Bz];rfl
      rw[em];rfl';refine Ii (kk:=Aq (Dp se.1)) (AU hP5) (Ia.key _) (hdP.look_mem Ia hsm) ?_;rfl';refine Ii (kk:=Aq (Dp ee.1)) (AU hP5) (Ia.key _) (hdP.look_mem Ia hem) ?_;rfl';refine AGa (AU hxs5) (AU hys5) (by have:=hbw;rw[Jx] at this;omega) (by have:=hPb.2 _ hecm;simp only at this;omega) λL6 hp6 hl6=>?_;have hp56:L5 <+: L6:=(Aj _ _).trans hp6;have hp6l:=hp6.length_le;simp only[Bc,Dd,List.length_nil] at hp6l;rfl';refine ZA (as:=sgs.map (ET d)) (w:=wd) (hd5.pre hp56) hl6 (λz=>by have:=hd5.lt z;simp at this;omega) (by simp[hwd,hcl]) (by simp[hcl];omega) (by have:=hb5.1;rw[Jv] at this;omega) (λe he=>by have:=hb5.2 e he;omega) (by omega) λL7 es7 h7 hc7 ha7 hk7=>?_;rfl';refine⟨es7,h7,?_,λy hy=>?_,?_,_,_,rfl⟩
      .rw[HX hdk,Co,<-AK3,List.foldl_append,<-hc5,hc7];show _=CJ wd (cont es5) (Gj ts (se.1,se.2.2) (ee.1,ee.2.2) d);unfold Gj;rw[hcut]
      .rcases ha7 y hy with z|z
       .exact ha5 y z
       .exact .inr (by omega)
      .refine(hk5.trans (.of_pre hp56)).step hk7 λj hj=>?_;rcases AW.mp hj with z|z
       .exact .inl (by simp[z])
       .rcases ha5 j z with y|y
        .exact .inl (Az _ y)
        .exact .inr y
    .rintro ρ L5 ⟨es5,hd5,hc5,ha5,hk5,e4,e5,rfl⟩;refine⟨rfl,?_⟩;refine⟨es5,hd5,?_,λy hy=>?_,?_,_,_,_,_,rfl⟩
     .rw[hc5]
      congr 2
     .rcases ha5 y hy with z|z
      .exact ha y z
      .exact .inr (by omega)
     .refine(hk.trans (.of_pre hp4)).step hk5 λj hj=>?_;rcases AW.mp hj with z|z
      .exact .inl (by simp[z])
      .rcases ha j z with y|y
       .exact .inl (Az _ y)
       .exact .inr y
  .rintro ρ L' ⟨es,hd,hc,ha,hk,e2,e3,e4,e5,rfl⟩;have hP':L'[L2.length]?=some (.dt (CI Dp esP) epP):=hk.get (free _ (by omega) (by omega)) hP0;refine⟨by simp[Hc,hP'],es,hd,?_,ha,hk,_,_,_,_,_,rfl⟩;rw[hc,Ag,Bh];have:esP.length=(cont esP).length:=(Jv esP).symm;rw[this,Ee,HX hsc,ALP,<-hA1,AK3];simp
 .rintro ρ L' ⟨es,hd,hc,ha,hk,e1,e2,e3,e4,e5,rfl⟩;have hP':L'[L2.length]?=some (.dt (CI Dp esP) epP):=hk.get (free _ (by omega) (by omega)) hP0;refine⟨by simp[Hc,hP'],?_⟩;rfl';refine⟨rfl,h L' es ?_ hd ?_ λx hx=>?_⟩
  .have k1:Ad [L.length] L L':=by
    have a1:Ad [L.length] L L1:=by rw[<-hL1];exact .app _ _ _
    have a2:=(a1.trans hk1).trans (Ad.of_pre hp3);refine a2.step hk λj hj=>?_;rcases AW.mp hj with e8|e8
    .exact .inl (by simp[e8])
    .exact .inr (by have:=ha1 j e8;omega)
   exact(k1.mono λj hj=>.inr (by simp at hj;omega)).pre
  .rw[hc,Ag,Bh];have:esP.length=(cont esP).length:=(Jv esP).symm;rw[this,Ee,hcP];rfl
  .rcases ha x hx with z|z
   .have:=ha1 x z;omega
   .omega
abbrev En(a:AMB)(ps:List D):List (NK×D):=ps.zipIdx.map λq=>(Aq q.1,D.tup [Am a,.int (q.2:Int)])
def AFn{a:AMB}{ps:List D}{i:Nat}{x:D}(h:ps[i]?=some x):En a (ps.take (0+i+1))=En a (ps.take (0+i))++[(Aq x,.tup [Am a,.int (i:Int)])]:=by have hi:i<ps.length:=(BA.mp h).1;rw[HX h];unfold En;rw[List.zipIdx_append,Co];simp[Nat.min_eq_left (Nat.le_of_lt hi)]
abbrev DX(G:List (AMB×List D)):List (NK×D):=G.flatMap λe=>En e.1 e.2
abbrev Eh(xs:List (NK×D)):List (NK×D):=xs.foldl (λm x=>DB m x.1 x.2) []
def ACQ(m:List (NK×D))(k:NK)(d:D):(DB m k d).length<=m.length+1:=by
 unfold DB;split
 .rw[Ag];omega
 .simp
def ACU(xs:List (NK×D)):(Eh xs).length<=xs.length:=by
 have:∀(xs:List (NK×D)) (m:List (NK×D)),(xs.foldl (λm x=>DB m x.1 x.2) m).length<=m.length+xs.length:=by
  intro xs
  induction xs with
  |nil=>intro m;simp
  |cons x xs ih =>
   intro m;rw[ALB,Dd];have h1:=ih (DB m x.1 x.2);have h2:=ACQ m x.1 x.2;omega
 have h:=this xs [];simpa[Eh] using h
abbrev Dy{κ:Type}(c:List (κ×List D)):Nat:=(c.map λe=>e.2.length).sum
def AFa(G:List (AMB×List D)):(DX G).length=Dy G:=by
 unfold DX Dy
 induction G with
 |nil=>rfl
 |cons e G ih =>
  rw[ALF,Bc,ih,Ah,EI];unfold En;simp
def AA1{κ:Type}[DecidableEq κ]{c:List (κ×List D)}{k:κ}{ds:List D}(nd:(c.map (·.1)).Nodup):Dy (CM c k ds)=Dy c+ds.length:=by
 by_cases h:k∈c.map (·.1)
 .have e:CM c k ds=c.map (λe=>if e.1=k then (e.1,e.2++ds) else e):=by unfold CM;rw[if_pos h]
  rw[e];clear e
  induction c with
  |nil=>cases h
  |cons x c ih =>
   rw[Ah,AKZ] at nd;rw[Ah];unfold Dy;rw[Ah,EI,Ah,EI]
   by_cases hx:x.1=k
   .rw[if_pos hx]
    have e2:c.map (λe=>if e.1=k then (e.1,e.2++ds) else e)=c:=by
     conv=>rhs;rw[<-List.map_id c]
     apply AKX;intro e he;rw[if_neg (λz=>nd.1 (by rw[hx,<-z];exact Cz he))];rfl
    rw[e2];simp only[Bc];omega
   .rw[if_neg hx]
    have h':k∈c.map (·.1):=by
     rw[Ah] at h;rcases AW.mp h with z|z
     .exact absurd z.symm hx
     .exact z
    have:=ih nd.2 h';unfold Dy at this;omega
 .have e:CM c k ds=c++[(k,ds)]:=by unfold CM;rw[if_neg h]
  rw[e];unfold Dy;simp
def XY{w:AMB}:∀(A:List (AMB×List D)) {c:List (AMB×List D)},(c.map (·.1)).Nodup->((A.foldl (CJ w) c).map (·.1)).Nodup
 |[],_,h=>h
 |a::A,c,h=>XY A (by unfold CJ;split;exact So h;exact h)
def XX{w:AMB}{m:Nat}:∀(A:List (AMB×List D)) {c:List (AMB×List D)},(c.map (·.1)).Nodup->(∀a∈A,a.2.length<=m)->Dy (A.foldl (CJ w) c)<=Dy c+A.length*m
 |[],c,_,_=>by simp
 |a::A,c,h,hA=>by
  have h1:Dy (CJ w c a)<=Dy c+m:=by
   unfold CJ;split
   .rw[AA1 h];have:=hA a BC;omega
   .omega
  have h2:=XX (w:=w) A (c:=CJ w c a) (by unfold CJ;split;exact So h;exact h) λx hx=>hA x (Az _ hx);rw[ALB,Dd,AKi];omega
def ADO{κ:Type}{kd:κ->D}(K:KD kd)(es:List (κ×Nat×List D)):Hf (CI kd es)=es.map λe=>.tup [kd e.1,.ref e.2.1]:=by unfold Hf CI;rw[Bz];apply AKX;intro e _;show D.tup [Dh (Aq (kd e.1)),.ref e.2.1]=_;rw[K.nk e.1]
def AFZ{G:List (AMB×List D)}{i:Nat}{e:AMB×List D}(h:G[i]?=some e):DX (G.take (0+i+1))=DX (G.take (0+i))++En e.1 e.2:=by unfold DX;rw[HX h,ALP];simp
def AFY(G:List (AMB×List D))(i:Nat):(DX (G.take i)).length<=Dy G:=by
 rw[<-AFa G]
 conv=>rhs;rw[<-ALa i G]
 unfold DX;rw[ALP,Bc];omega
def ADz{Q:AMo}{L:AB}{g:Nat}{es:List (AMB×Nat×List D)}(hg:DL Am L g es)(hk:∀e∈cont es,∀p∈e.2,dNK p=some (Aq p))(hz:Dy (cont es)<=8000000)(hb:∀e∈cont es,e.2.length<=8000000)
  (h:∀ep,Q (.ref L.length) (L++[.dt (Eh (DX (cont es))) ep])):W2 (JG [.ref g] L) Q:=by
 unfold JG;refine EJ rfl ?_;unfold PP;obtain⟨ep0,hg0⟩:=hg.at_;rfl';rw[ADO Fw];refine Cu (λj ρ L'=>(∃ep,L'=L++[.dt (Eh (DX ((cont es).take j))) ep])/\∃e1 e2 e3 e4,ρ=[some (.ref g),some (.ref L.length),e1,e2,e3,e4]) _ 0 _ _ ⟨⟨0,rfl⟩,none,none,none,none,rfl⟩ ?_ ?_
 .rintro i x ρ L' hx ⟨⟨ep,rfl⟩,e1,e2,e3,e4,rfl⟩;refine⟨decide_eq_true (AU hg0),?_⟩;rw[Av] at hx;obtain⟨e,hse,hx⟩:=mS hx;cases hx;have hem:=Bv hse;have hq:=hg.it e hem;have hec:(cont es)[i]?=some (e.1,e.2.2):=by unfold cont;rw[Av,hse];rfl
  have hecm:=Bv hec;rfl';refine Cu (λj ρ L'=>(∃ep,L'=L++[.dt (Eh (DX ((cont es).take (0+i))++En e.1 (e.2.2.take j))) ep])/\∃e3 e4,ρ=[some (.ref g),some (.ref L.length),some (Am e.1),some (.ref e.2.1),e3,e4]) _ 0 _ _ ⟨⟨ep,by simp[En]⟩,_,_,rfl⟩ ?_ ?_
  .rintro j x ρ L' hx ⟨⟨ep,rfl⟩,e3,e4,rfl⟩;refine⟨decide_eq_true (AU hq),?_⟩;rw[YH] at hx;obtain⟨p,hp,hx⟩:=mS hx;cases hx;rfl';refine ON (kk:=Aq p) AR ?_ (hk _ hecm p (Bv hp)) ?_
   .have h1:=ACU (DX ((cont es).take (0+i))++En e.1 (e.2.2.take (0+j)));have h2:=AFY (cont es) (0+i)
    have h3:(En e.1 (e.2.2.take (0+j))).length<=8000000:=by unfold En;rw[Ag,List.length_zipIdx,FP];have:=hb _ hecm;simp only at this;omega
    rw[Bc] at h1;omega
   .have e5:Eh (DX ((cont es).take (0+i))++En e.1 (e.2.2.take (0+j+1)))=DB (Eh (DX ((cont es).take (0+i))++En e.1 (e.2.2.take (0+j)))) (Aq p) (.tup [Am e.1,.int (j:Int)]):=by
     rw[AFn hp,<-AK3];unfold Eh;rw[List.foldl_append];rfl
    rfl';rw[e5];refine⟨⟨epN (Eh (DX ((cont es).take (0+i))++En e.1 (e.2.2.take (0+j)))) (Aq p) ep,?_⟩,_,_,rfl⟩;simp
  .rintro ρ L' ⟨⟨ep,rfl⟩,e3,e4,rfl⟩;refine⟨decide_eq_true (AU hq),⟨ep,?_⟩,_,_,_,_,rfl⟩;have e6:(Eo e.2.2).length=e.2.2.length:=by simp[Eo]
   rw[e6,Bh e.2.2.length,Ee,AFZ hec]
 .rintro ρ L' ⟨⟨ep,rfl⟩,e1,e2,e3,e4,rfl⟩;refine⟨decide_eq_true (AU hg0),?_⟩;rfl';refine⟨rfl,?_⟩;rw[Ag,Bh];have:es.length=(cont es).length:=(Jv es).symm;rw[this,Ee];exact h ep
def AA3{Q:AMo}{L:AB}{k g:Nat}{W:D}{M:List (NK×D)}(hk:L[k]?=some (.ins AMJ []))(hgl:g<L.length)(hm:∀(L':AB) (Q':AMo),Ad [k] L L'->L'.length=L.length->(∀ep,Q' (.ref L'.length) (L'++[.dt M ep]))->W2 (JG [.ref g] L') Q')
  (h:∀L2,L2.length=L.length+8->Ad [k] L L2->L2[k]?=some (.ins AMJ (NW W g L.length (L.length+5) (L.length+6) (L.length+7)))->(∃ep,L2[L.length]?=some (.dt M ep)) ->
   L2[L.length+5]?=some (.lst [.ref (L.length+1),.ref (L.length+3)])->ED L2 (L.length+1) 1 (L.length+2) [] 0->ED L2 (L.length+3) 0 (L.length+4) [] 0->L2[L.length+6]?=some (.dt [] 0)->L2[L.length+7]?=some (.lst [])->Q .non L2) :
  W2 (Ka [.ref k,W,.ref g] L) Q:=by
 unfold Ka;refine JQ rfl ?_;unfold PD;have hkl:=Bs hk;refine BD (λρ L'=>ρ=[some (.ref k),some W,some (.ref g)]/\L'.length=L.length/\Ad [k] L L'/\L'[k]?=some (.ins AMJ [(AMS,W)])) ?_ ?_
 .rfl';exact⟨rfl,by simp,(Ad.refl _ _).set (.inl (by simp)),CB hk⟩
 rintro ρ L1 ⟨rfl,l1,k1,t1⟩;refine BD (λρ L'=>ρ=[some (.ref k),some W,some (.ref g)]/\L'.length=L.length/\Ad [k] L L'/\L'[k]?=some (.ins AMJ [(AMS,W),(AMR,.ref g)])) ?_ ?_
 .rfl';exact⟨rfl,by simp[l1],k1.set (.inl (by simp)),CB t1⟩
 rintro ρ L2 ⟨rfl,l2,k2,t2⟩;refine BD (λρ L'=>ρ=[some (.ref k),some W,some (.ref g)]/\L'.length=L.length+1/\Ad [k] L L'/\L'[k]?=some (.ins AMJ [(AMS,W),(AMR,.ref g),(AMX,.ref L.length)])/\(∃ep,L'[L.length]?=some (.dt M ep))) ?_ ?_
 .rfl';refine hm _ _ k2 l2 λep=>?_;rfl';refine⟨rfl,by simp[l2],(k2.trans (.app _ _ _)).set (.inl (by simp)),?_,?_⟩
  .rw[CB (AU t2),l2];rfl
  .exact⟨ep,by rw[<-l2,DA (by omega)];exact AR⟩
 rintro ρ L3 ⟨rfl,l3,k3,t3,ep,m3⟩;have stayK:∀{L4 L5:AB} {j:Nat} {o:Ob},Ad [j] L4 L5->L4.length<=j->∀i,i<L4.length->L4[i]?=some o->L5[i]?=some o:=λ{L4 L5 j o} hk hj i hi e=>hk.get (by simp;omega) e
 refine BD (λρ L'=>ρ=[some (.ref k),some W,some (.ref g)]/\L'.length=L.length+6/\Ad [k] L L'/\L'[k]?=some (.ins AMJ [(AMS,W),(AMR,.ref g),(AMX,.ref L.length),(AMT,.ref (L.length+5))])/\(∃ep,L'[L.length]?=some (.dt M ep)) /\
  L'[L.length+5]?=some (.lst [.ref (L.length+1),.ref (L.length+3)])/\ED L' (L.length+1) 1 (L.length+2) [] 0/\ED L' (L.length+3) 0 (L.length+4) [] 0) ?_ ?_
 .rfl';refine Rk AR λL4 n4 l4 k4=>?_;have l4':L4.length=L.length+3:=by rw[l4];simp;omega
  have p4:∀i o,i<L3.length->L3[i]?=some o->L4[i]?=some o:=λi o hi e=>k4.get (by simp;omega) (AU e);refine⟨rfl,?_⟩;rfl';refine Rk AR λL5 n5 l5 k5=>?_;have l5':L5.length=L.length+5:=by rw[l5];simp;omega
  have p5:∀i o,i<L4.length->L4[i]?=some o->L5[i]?=some o:=λi o hi e=>k5.get (by simp;omega) (AU e);refine⟨rfl,?_⟩;have t5:=p5 _ _ (by omega) (p4 _ _ (by omega) t3);have m5:=p5 _ _ (by omega) (p4 _ _ (by omega) m3);have a5:=p5 _ _ (by omega) n4.1;have b5:=p5 _ _ (by simp at *;omega) n4.2;rfl';have e1:L3.length=L.length+1:=l3;have e2:(L3++[Ob.ins AMM []]).length=L.length+2:=by simp[l3]
  have e3:L4.length=L.length+3:=l4';have e4:(L4++[Ob.ins AMM []]).length=L.length+4:=by simp[l4']
  rw[e1] at n4 a5;rw[e2] at n4 b5 a5;rw[e3,e4] at n5;have far:∀(i:Nat) (o o':Ob) (M:AB),i≠k->L5[i]?=some o->((L5++M).set k o')[i]?=some o:=λi o o' M hi e=>by rw[DA (Ne.symm hi)];exact AU e
  refine⟨rfl,by simp[l5'],?_,?_,⟨ep,far _ _ _ _ (by omega) m5⟩,?_,⟨far _ _ _ _ (by omega) a5,far _ _ _ _ (by omega) b5⟩,⟨far _ _ _ _ (by omega) n5.1,far _ _ _ _ (by omega) n5.2⟩⟩
  .have q1:Ad [k] L L4:=(k3.trans (.app _ _ _)).step k4 λj hj=>.inr (by simp at hj;omega);have q2:Ad [k] L L5:=(q1.trans (.app _ _ _)).step k5 λj hj=>.inr (by simp at hj;omega);exact(q2.trans (.app _ _ _)).set (.inl (by simp))
  .rw[CB (AU t5),l5'];rfl
  .rw[DA (by omega),<-l5',e1,e3];exact AR
 rintro ρ L4 ⟨rfl,l4,k4,t4,⟨ep,m4⟩,n4,a4,b4⟩;rfl';have far:∀(i:Nat) (o o':Ob) (N M:AB),i≠k->N[i]?=some o->((N++M).set k o')[i]?=some o:=λi o o' N M hi e=>by rw[DA (Ne.symm hi)];exact AU e
 have f2:∀(i:Nat) (o o' o'':Ob) (M M':AB),i≠k->L4[i]?=some o->((((L4++M).set k o')++M').set k o'')[i]?=some o:=λi o o' o'' M M' hi e=>far i o o'' _ _ hi (far i o o' _ _ hi e)
 have t5:((L4++[Ob.dt [] 0]).set k (.ins AMJ (DP AMY (.ref L4.length) [(AMS,W),(AMR,.ref g),(AMX,.ref L.length),(AMT,.ref (L.length+5))])))[k]?=some (.ins AMJ [(AMS,W),(AMR,.ref g),(AMX,.ref L.length),(AMT,.ref (L.length+5)),(AMY,.ref (L.length+6))]):=by rw[CB (AU t4),l4];rfl
 refine Xg (AU t5) rfl rfl ?_;rfl';refine⟨λhp=>?_,h _ (by simp[l4]) ?_ ?_ ⟨ep,f2 _ _ _ _ _ _ (by omega) m4⟩ (f2 _ _ _ _ _ _ (by omega) n4) ⟨f2 _ _ _ _ _ _ (by omega) a4.1,f2 _ _ _ _ _ _ (by omega) a4.2⟩ ⟨f2 _ _ _ _ _ _ (by omega) b4.1,f2 _ _ _ _ _ _ (by omega) b4.2⟩ (far _ _ _ _ _ (by omega) ?_) ?_⟩
 .have:=BP hp hk;rw[CB (AU t5)] at this;cases this
 .exact(((k4.trans (.app _ _ _)).set (.inl (by simp))).trans (.app _ _ _)).set (.inl (by simp))
 .rw[CB (AU t5),Fl,Bc,l4];rfl
 .rw[DA (by omega),<-l4];exact AR
 .rw[DA (by omega)];have e6:((L4++[Ob.dt [] 0]).set k (.ins AMJ (DP AMY (.ref L4.length) [(AMS,W),(AMR,.ref g),(AMX,.ref L.length),(AMT,.ref (L.length+5))]))).length=L.length+7:=by simp[l4]
  rw[<-e6];exact AR
noncomputable abbrev BM:=List (AMB×List D)
abbrev EL(G:BM)(a:AMB):Nat:=((Ih G a).getD []).length
abbrev RW(rest a:AMB):Bool:=(List.range rest.length).all λi=>Txt.startswith (rest.getD i "") (a.getD i "")
abbrev Il(rest a:AMB)(n:Nat):AMB:=(List.range n).map λi=>Txt.slice (rest.getD i "") (some ((a.getD i "").length:Int)) none
abbrev Ep(rest a:AMB):Option (AMB):=if RW rest a=true then some (Il rest a rest.length) else none
def AGc{rest a b:AMB}(h:Ep rest a=some b):b.length=rest.length:=by
 unfold Ep at h;split at h
 .cases h;unfold Il;simp
 .cases h
def ABX(xs:AMB):(Am xs).noRef=true:=by
 unfold Am;show D.noRefL (xs.map D.str)=true
 induction xs with
 |nil=>rfl
 |cons x xs ih=>rw[Ah,D.noRefL,ih];rfl
def AGb{Q:AMo}{L:AB}{rest a:AMB}(hl:a.length=rest.length)(hz:rest.length<=1000)(hn:Ep rest a=none->Q .non L)(hy:∀b,Ep rest a=some b->Q (Am b) L):W2 (KN [Am rest,Am a] L) Q:=by
 unfold KN;refine CG rfl ?_;unfold QK;have et:∀xs:AMB,Am xs=.tup (xs.map D.str):=λ_=>rfl;rw[et rest,et a];rfl';refine⟨rest.map D.str,[a.map D.str],rfl,⟨by simp[hl],by simp,rfl⟩,?_⟩;refine Cu (λj ρ L'=>L'=L++[.lst ((Il rest a j).map D.str)]/\(∀i,i<j->i<rest.length->Txt.startswith (rest.getD i "") (a.getD i "")=true)/\∃e1 e2,ρ=[some (.tup (rest.map D.str)),some (.tup (a.map D.str)),some (.ref L.length),e1,e2]) _ 0 _ _ ⟨rfl,λi hi=>(by omega),none,none,rfl⟩ ?_ ?_
 .rintro i x ρ L' hx ⟨rfl,hlt,e1,e2,rfl⟩;refine⟨decide_eq_true rfl,?_⟩;obtain⟨hi,rfl⟩:=QX hl hx;rfl';refine GH (λhs=>?_) (λhs=>?_)
  .rfl';refine HG AR (by unfold Il;simp;omega) ?_;rfl';refine⟨?_,λk hk hkt=>?_,_,_,rfl⟩
   .have:Il rest a (0+i+1)=Il rest a (0+i)++[Txt.slice (rest.getD i "") (some ((a.getD i "").length:Int)) none]:=by
     unfold Il;rw[ALg,Co,Bh];rfl
    rw[this,Co];simp
   .by_cases z:k=i
    .subst z;exact hs
    .exact hlt k (by omega) hkt
  .rfl';refine⟨rfl,Aj _ _,hn ?_⟩;unfold Ep;rw[if_neg];intro hall;unfold RW at hall;have:=DM.mp hall i (CN.mpr hi);rw[hs] at this;cases this
 .rintro ρ L' ⟨rfl,hlt,e1,e2,rfl⟩;refine⟨decide_eq_true rfl,?_⟩;rw[Mq,Ag,Bh] at *;rfl';refine⟨ABX _,Aj _ _,hy _ ?_⟩;unfold Ep;rw[if_pos];unfold RW;rw[DM];exact λi hi=>hlt i (CN.mp hi) (CN.mp hi)
abbrev BR(G:BM)(l:Nat)(rest:AMB):List (AMB):=if l=1 then (if rest∈G.map (·.1) then [rest] else []) else G.map (·.1)
abbrev BO(G:BM):Nat->AMB->Nat
 |0,_=>1
 |l+1,rest=>((BR G (l+1) rest).map λa=>match Ep rest a with|some b=>EL G a*BO G l b|none=>0).sum
abbrev EW(G:BM)(l:Nat)(rest:AMB)(st:List (AMB×Nat×AMB)×Nat)(a:AMB):List (AMB×Nat×AMB)×Nat:=match Ep rest a with
 |none=>st
 |some b=>if BO G l b=0 then st else (st.1++[(a,st.2,b)],st.2+EL G a*BO G l b)
abbrev Cw(G:BM)(l:Nat)(rest:AMB)(xs:List (AMB)):List (AMB×Nat×AMB)×Nat:=xs.foldl (EW G l rest) ([],0)
abbrev Sj(G:BM)(l:Nat)(rest:AMB):List (AMB×Nat×AMB):=(Cw G l rest (BR G (l+1) rest)).1
def Ys{G:BM}{l:Nat}{rest:AMB}:∀(xs:List (AMB)) (st:List (AMB×Nat×AMB)×Nat),(xs.foldl (EW G l rest) st).2=st.2+(xs.map λa=>match Ep rest a with|some b=>EL G a*BO G l b|none=>0).sum
 |[],st=>by simp
 |x::xs,st=>by
  rw[ALB,Ys xs,Ah,EI];unfold EW
  cases e:Ep rest x with
  |none=>simp
  |some b =>
   simp only
   by_cases z:BO G l b=0
   .rw[if_pos z,z];simp
   .rw[if_neg z];simp only;omega
def AGn(G:BM)(l:Nat)(rest:AMB):(Cw G l rest (BR G (l+1) rest)).2=BO G (l+1) rest:=by unfold Cw;rw[Ys];simp[BO]
def Yu{G:BM}{l:Nat}{rest:AMB}:∀(xs:List (AMB)) (st:List (AMB×Nat×AMB)×Nat),∃ys,ys.Sublist xs/\((xs.foldl (EW G l rest) st).1).map (·.1)=st.1.map (·.1)++ys
 |[],st=>⟨[],List.Sublist.refl _,by simp⟩
 |x::xs,st=>by
  rw[ALB]
  have key:(EW G l rest st x).1.map (·.1)=st.1.map (·.1)\/(EW G l rest st x).1.map (·.1)=st.1.map (·.1)++[x]:=by
   unfold EW
   cases e:Ep rest x with
   |none=>exact .inl rfl
   |some b =>
    simp only
    by_cases z:BO G l b=0
    .rw[if_pos z];exact .inl rfl
    .rw[if_neg z];exact .inr (by simp)
  obtain⟨ys,h1,h2⟩:=Yu xs (EW G l rest st x);rcases key with k|k
  .exact⟨ys,h1.cons x,by rw[h2,k]⟩
  .exact⟨x::ys,h1.cons₂ x,by rw[h2,k];simp⟩
def Yr(G:BM)(l:Nat)(rest:AMB)(xs:List (AMB)):((Cw G l rest xs).1.map (·.1)).Sublist xs:=by obtain⟨ys,h1,h2⟩:=Yu (G:=G) (l:=l) (rest:=rest) xs ([],0);unfold Cw;rw[h2];simpa using h1
def AAy{G:BM}(h:(G.map (·.1)).Nodup)(l:Nat)(rest:AMB):(BR G l rest).Nodup:=by
 unfold BR;split
 .split
  .simp
  .exact .nil
 .exact h
def Ur{G:BM}{l:Nat}{rest a:AMB}(h:a∈BR G l rest):a∈G.map (·.1):=by
 unfold BR at h;split at h
 .split at h
  .have:a=rest:=by simpa using h
   subst this;assumption
  .cases h
 .exact h
def Us{G:BM}{l:Nat}{rest:AMB}:(BR G l rest).length<=G.length:=by
 unfold BR;split
 .split
  .rename_i h
   cases G with
   |nil=>cases h
   |cons=>simp
  .simp
 .simp
abbrev EN(G:BM)(sp:List (Nat×AMB))(k:Nat):Nat->AMB->Prop
 |0,_=>k=0
 |l+1,rest=>(BO G (l+1) rest=0/\k=1)\/(BO G (l+1) rest≠0/\∃j,k=j+2/\sp[j]?=some (l,rest))
def EN.mono{G:BM}{sp sp':List (Nat×AMB)}{k l:Nat}{rest:AMB}(h:EN G sp k l rest)(p:sp <+: sp'):EN G sp' k l rest:=by
 cases l with
 |zero=>exact h
 |succ l =>
  rcases h with h|⟨h1,j,h2,h3⟩
  .exact .inl h
  .exact .inr ⟨h1,j,h2,Ch p h3⟩
def EN.one{G:BM}{sp:List (Nat×AMB)}{k l:Nat}{rest:AMB}(h:EN G sp k l rest):k=1↔BO G l rest=0:=by
 cases l with
 |zero =>
  have:k=0:=h;subst this;simp[BO]
 |succ l =>
  rcases h with⟨h1,h2⟩|⟨h1,j,h2,h3⟩
  .simp[h1,h2]
  .constructor
   .intro z;omega
   .intro z;exact absurd z h1
abbrev Ff(G:BM)(sp:List (Nat×AMB))(l:Nat)(x:AMB×Nat×AMB)(y:NK×D):Prop:=∃num:Nat,y=(Aq (Am x.1),.tup [.int (x.2.1:Int),.int (num:Int)])/\EN G sp num l x.2.2
def JY{α β:Type}{R S:α->β->Prop}{xs:List α}{ys:List β}(h:Paired R xs ys)(i:∀a b,R a b->S a b):Paired S xs ys:=by
 induction h with
 |nil=>exact .nil
 |cons r _ ih=>exact .cons (i _ _ r) ih
def WL{α β:Type}{R:α->β->Prop}{xs:List α}{ys:List β}{x:α}{y:β}(h:Paired R xs ys)(r:R x y):Paired R (xs++[x]) (ys++[y]):=by
 induction h with
 |nil=>exact .cons r .nil
 |cons q _ ih=>exact .cons q ih
def Ff.mono{G:BM}{sp sp':List (Nat×AMB)}{l:Nat}{x:AMB×Nat×AMB}{y:NK×D}(p:sp <+: sp')(h:Ff G sp l x y):Ff G sp' l x y:=let ⟨n,e,k⟩:=h;⟨n,e,k.mono p⟩
def Yt{G:BM}{sp:List (Nat×AMB)}{l:Nat}{xs:List (AMB×Nat×AMB)}{ys:List (NK×D)}(h:Paired (Ff G sp l) xs ys):ys.map (·.1)=xs.map λx=>Aq (Am x.1):=by
 induction h with
 |nil=>rfl
 |cons r _ ih=>obtain⟨n,rfl,_⟩:=r;rw[Ah,Ah,ih]
abbrev Dj(k:Nat×AMB):D:=.tup [.int (k.1:Int),Am k.2]
def IZ:KD Dj:=⟨λa=>Jc (by
  have h:(Iq (a.2.map D.str)).isSome=true:=by
   induction a.2 with
   |nil=>rfl
   |cons x a ih =>
    rw[Ah]
    cases e:Iq (a.map D.str) with
    |none=>rw[e] at ih;cases ih
    |some y=>simp[Iq,Lf,e]
  obtain⟨y,hy⟩:=ALV.mp h;show(EU [.int (a.1:Int),.tup (a.2.map D.str)]).isSome=true
  simp[EU,Ir,Lf,hy]),λa b h=>by
  have h1:=D.tup.inj h;have h2:=List.cons.inj h1;have h3:=List.cons.inj h2.2;have e1:a.1=b.1:=by have:=D.int.inj h2.1;omega
  have e2:=Fw.inj _ _ h3.1
  exact Prod.ext e1 e2⟩
abbrev Dg(mk:List ((Nat×AMB)×Nat)):List (NK×D):=mk.map λe=>(Aq (Dj e.1),D.int (e.2:Int))
def Wp(mk:List ((Nat×AMB)×Nat))(k:Nat×AMB):Bj (Dg mk) (Aq (Dj k))=(mk.find? λe=>decide (e.1=k)).map λe=>D.int (e.2:Int):=by
 unfold Bj Dg
 induction mk with
 |nil=>rfl
 |cons e es ih =>
  rw[Ah,FB,FB]
  by_cases h:e.1=k
  .subst h;simp
  .rw[decide_eq_false h,decide_eq_false (λz=>h (IZ.kf z))];exact ih
abbrev KC(G:BM)(sp:List (Nat×AMB))(L:AB)(r a:Nat):Nat->Prop
 |0=>∃ep,ED L r 1 a [] ep
 |1=>∃ep,ED L r 0 a [] ep
 |i+2=>∃l rest kvs ep,sp[i]?=some (l,rest)/\ED L r (BO G (l+1) rest:Int) a kvs ep/\Paired (Ff G sp l) (Sj G l rest) kvs
def KC.mono{G:BM}{sp sp':List (Nat×AMB)}{L L':AB}{r a i:Nat}(h:KC G sp L r a i)(p:sp <+: sp')(h1:L'[r]?=L[r]?)(h2:L'[a]?=L[a]?):KC G sp' L' r a i:=by
 match i,h with
 |0,⟨ep,n⟩=>exact⟨ep,h1.trans n.1,h2.trans n.2⟩
 |1,⟨ep,n⟩=>exact⟨ep,h1.trans n.1,h2.trans n.2⟩
 |i+2,⟨l,rest,kvs,ep,e,n,k⟩=>exact⟨l,rest,kvs,ep,Ch p e,⟨h1.trans n.1,h2.trans n.2⟩,JY k λ_ _=>Ff.mono p⟩
def KC.node{G:BM}{sp:List (Nat×AMB)}{L:AB}{r a i:Nat}(h:KC G sp L r a i):∃w kvs ep,ED L r w a kvs ep:=by
 match i,h with
 |0,⟨ep,n⟩=>exact⟨_,_,ep,n⟩
 |1,⟨ep,n⟩=>exact⟨_,_,ep,n⟩
 |i+2,⟨l,rest,kvs,ep,e,n,k⟩=>exact⟨_,_,ep,n⟩
structure BZ (G:BM) (X:AMG) (L:AB) (t g m nd nn rt:Nat) (W:D) (es:List (AMB×Nat×List D)) (sp:List (Nat×AMB)) (rs:List (Nat×Nat)) (mk:List ((Nat×AMB)×Nat)):Prop where
 t_:L[t]?=some (.ins AMJ (NW W g m nd nn rt))
 g_:DL Am L g es
 gc:cont es=G
 nd_:L[nd]?=some (.lst (rs.map λp=>D.ref p.1))
 nn_:∃ep,L[nn]?=some (.dt (Dg mk) ep)
 mk_:∀e∈mk,EN G sp e.2 e.1.1 e.1.2
 len:rs.length=sp.length+2
 nod:∀i r a,rs[i]?=some (r,a)->KC G sp L r a i
 ndg:nd∉BL es
 nng:nn≠g
 nnr:∀p∈rs,nn≠p.2
 out:∀x∈X,x≠t/\x≠g/\x∉BL es/\x≠nd/\x≠nn/\∀p∈rs,x≠p.1/\x≠p.2
section
variable {G:BM}{X:AMG}{L L':AB}{t g m nd nn rt:Nat}{W:D}{es:List (AMB×Nat×List D)}{sp:List (Nat×AMB)}{rs:List (Nat×Nat)}{mk:List ((Nat×AMB)×Nat)}
def BZ.same(T:BZ G X L t g m nd nn rt W es sp rs mk)(h:∀j,(j=t\/j=g\/j∈BL es\/j=nd\/j=nn\/∃p∈rs,j=p.1\/j=p.2)->L'[j]?=L[j]?):BZ G X L' t g m nd nn rt W es sp rs mk :=
 ⟨(h t (.inl rfl)).trans T.t_,T.g_.same (h g (.inr (.inl rfl))) λq hq=>h q (.inr (.inr (.inl hq))),T.gc,(h nd (.inr (.inr (.inr (.inl rfl))))).trans T.nd_,let ⟨ep,e⟩:=T.nn_;⟨ep,(h nn (.inr (.inr (.inr (.inr (.inl rfl)))))).trans e⟩,T.mk_,T.len,
   λi r a e=>(T.nod i r a e).mono (An _) (h r (.inr (.inr (.inr (.inr (.inr ⟨_,Bv e,.inl rfl⟩)))))) (h a (.inr (.inr (.inr (.inr (.inr ⟨_,Bv e,.inr rfl⟩)))))),T.ndg,T.nng,T.nnr,T.out⟩
def BZ.lt(T:BZ G X L t g m nd nn rt W es sp rs mk){j:Nat}(h:j=t\/j=g\/j∈BL es\/j=nd\/j=nn\/∃p∈rs,j=p.1\/j=p.2):j<L.length:=by
 rcases h with rfl|rfl|h|rfl|rfl|⟨p,hp,h⟩
 .exact Bs T.t_
 .exact T.g_.glt
 .exact T.g_.lt h
 .exact Bs T.nd_
 .obtain⟨ep,e⟩:=T.nn_;exact Bs e
 .obtain⟨i,hi⟩:=ALe hp;obtain⟨w,kvs,ep,n⟩:=(T.nod i p.1 p.2 hi).node;rcases h with rfl|rfl
  .exact Bs n.1
  .exact Bs n.2
def BZ.pre(T:BZ G X L t g m nd nn rt W es sp rs mk)(p:L <+: L'):BZ G X L' t g m nd nn rt W es sp rs mk:=T.same λj hj=>by
 have:=T.lt hj;obtain⟨M,rfl⟩:=p;rw[Dx this]
def BZ.setX(T:BZ G X L t g m nd nn rt W es sp rs mk){x:Nat}(hx:x∈X)(o:Ob):BZ G X (L.set x o) t g m nd nn rt W es sp rs mk:=T.same λj hj=>by
 have hne:x≠j:=λz=>by
  obtain⟨h1,h2,h3,h4,h5,h6⟩:=T.out x hx;rcases hj with rfl|rfl|h|rfl|rfl|⟨p,hp,h⟩
  .exact h1 z
  .exact h2 z
  .exact h3 (z▸h)
  .exact h4 z
  .exact h5 z
  .rcases h with rfl|rfl
   .exact(h6 p hp).1 z
   .exact(h6 p hp).2 z
 rw[DA hne]
def BZ.more(T:BZ G X L t g m nd nn rt W es sp rs mk){Y_:AMG}(h:∀y∈Y_,y∈X\/L.length<=y):BZ G Y_ L t g m nd nn rt W es sp rs mk :=
 ⟨T.t_,T.g_,T.gc,T.nd_,T.nn_,T.mk_,T.len,T.nod,T.ndg,T.nng,T.nnr,λy hy=>by
  rcases h y hy with z|z
  .exact T.out y z
  .have lt:∀j,(j=t\/j=g\/j∈BL es\/j=nd\/j=nn\/∃p∈rs,j=p.1\/j=p.2)->y≠j:=λj hj e=>by have:=T.lt hj;omega
   exact⟨lt _ (.inl rfl),lt _ (.inr (.inl rfl)),λhm=>lt y (.inr (.inr (.inl hm))) rfl,lt _ (.inr (.inr (.inr (.inl rfl)))),lt _ (.inr (.inr (.inr (.inr (.inl rfl))))),λp hp=>⟨lt _ (.inr (.inr (.inr (.inr (.inr ⟨p,hp,.inl rfl⟩))))),lt _ (.inr (.inr (.inr (.inr (.inr ⟨p,hp,.inr rfl⟩)))))⟩⟩⟩
def BZ.node(T:BZ G X L t g m nd nn rt W es sp rs mk){k l:Nat}{rest:AMB}(h:EN G sp k l rest)(h1:k≠1):∃r a kvs ep,rs[k]?=some (r,a)/\ED L r (BO G l rest:Int) a kvs ep/\(l=0->kvs=[])/\∀l',l=l'+1->Paired (Ff G sp l') (Sj G l' rest) kvs:=by
 cases l with
 |zero =>
  have hk:k=0:=h;subst hk;have hlt:0<rs.length:=by rw[T.len];omega
  obtain⟨ep,n⟩:=T.nod 0 rs[0].1 rs[0].2 (by simp[hlt]);exact⟨_,_,[],ep,by simp[hlt],n,λ_=>rfl,λl' e=>by omega⟩
 |succ l =>
  rcases h with⟨_,h2⟩|⟨h2,j,rfl,h3⟩
  .exact absurd h2 h1
  .have hj:j<sp.length:=(BA.mp h3).1;have hlt:j+2<rs.length:=by rw[T.len];omega
   obtain⟨l',rest',kvs,ep,e,n,k⟩:=T.nod (j+2) rs[j+2].1 rs[j+2].2 (by simp[hlt]);rw[h3] at e;cases e;exact⟨_,_,kvs,ep,by simp[hlt],n,λz=>by omega,λl' e=>by cases e;exact k⟩
def AE9{k:AMB}(h:k∈G.map (·.1)):∃ds,Ih G k=some ds/\EL G k=ds.length:=by
 obtain⟨e,hf,_⟩:=Jq h;have:Ih G k=some e.2:=by unfold Ih;rw[hf];rfl
 exact⟨e.2,this,by unfold EL;rw[this];rfl⟩
end
abbrev Bd(g:Nat):Nat->Nat
 |0=>0
 |l+1=>1+g*Bd g l
section
variable {G:BM}{X:AMG}{L:AB}{t g m nd nn rt:Nat}{W:D}{es:List (AMB×Nat×List D)}{sp:List (Nat×AMB)}{rs:List (Nat×Nat)}{mk:List ((Nat×AMB)×Nat)}{Q:AMo}
def AAz(T:BZ G X L t g m nd nn rt W es sp rs mk)(l:Nat)(rest:AMB)(h:Q (.ref L.length) (L++[.lst ((BR G l rest).map Am)])):W2 (KO [.ref t,.int (l:Int),Am rest] L) Q:=by
 unfold KO;refine EJ rfl ?_;unfold QP;have ht:=T.t_;obtain⟨ep,hg⟩:=T.g_.at_;unfold BR at h;rfl';refine BU (λh0=>?_) (λh0=>?_)
 .rw[if_pos (by omega)] at h;rfl';refine SU hg (Fw.key rest) ?_;have e1:(Bj (CI Am es) (Aq (Am rest))).isSome=decide (rest∈G.map (·.1)):=by rw[AEM Fw,T.gc];exact decide_eq_decide.mpr Iff.rfl
  rw[e1]
  by_cases hm:rest∈G.map (·.1)
  .rw[if_pos hm] at h;rw[decide_eq_true hm];rfl';refine Sf rfl ?_;rfl';exact⟨rfl,h⟩
  .rw[if_neg hm] at h;rw[decide_eq_false hm];rfl';refine Li rfl ?_;rfl';exact⟨rfl,h⟩
 .rw[if_neg (by omega)] at h;rfl';rw[Rw Fw];refine⟨rfl,?_⟩;have e2:es.map (λe=>Am e.1)=(G.map (·.1)).map Am:=by rw[<-T.gc,Lg,Bz];rfl
  rw[e2];exact h
end
abbrev Sy(G:BM)(n l:Nat)(f:Nat):Prop:=∀{X:AMG} {L:AB} {t g m nd nn rt:Nat} {W:D} {es:List (AMB×Nat×List D)} {sp:List (Nat×AMB)} {rs:List (Nat×Nat)} {mk:List ((Nat×AMB)×Nat)} {Q:AMo} {rest:AMB},
 BZ G X L t g m nd nn rt W es sp rs mk->(∀x∈X,x<L.length)->rest.length=n->mk.length+Bd G.length l<=16000000->rs.length+Bd G.length l<=16000000 ->
 (∀L2 sp' rs' mk' k,BZ G X L2 t g m nd nn rt W es sp' rs' mk'->sp <+: sp'->mk'.length<=mk.length+Bd G.length l->rs'.length<=rs.length+Bd G.length l->EN G sp' k l rest->Ad [nd,nn] L L2->Q (.int (k:Int)) L2) ->
 W2 (zx f [.ref t,.int (l:Int),Am rest] L) Q
def VU{G:BM}{X X':AMG}{L L2:AB}{t g m nd nn rt:Nat}{W:D}{es:List (AMB×Nat×List D)}{sp sp':List (Nat×AMB)}{rs rs':List (Nat×Nat)}{mk mk':List ((Nat×AMB)×Nat)}(T:BZ G X L t g m nd nn rt W es sp rs mk)(T':BZ G X' L2 t g m nd nn rt W es sp' rs' mk')(p:sp <+: sp')(hp:L <+: L2):sp'=sp:=by have h1:=BP hp T.nd_;rw[T'.nd_] at h1;have h2:=congrArg List.length (Ob.lst.inj (Option.some.inj h1));rw[Ag,Ag,T.len,T'.len] at h2;exact(p.eq_of_length (by omega)).symm
def ADu{G:BM}{n l f:Nat}(ih:Sy G n l f)(hG:(G.map (·.1)).Nodup)(hGn:∀a∈G.map (·.1),a.length=n)(hn:n<=1000)(hGl:G.length<=16000000)(hGs:∀a∈G.map (·.1),EL G a<=16777216)
  {X:AMG} {L:AB} {t g m nd nn rt:Nat} {W:D} {es:List (AMB×Nat×List D)} {sp:List (Nat×AMB)} {rs:List (Nat×Nat)} {mk:List ((Nat×AMB)×Nat)} {Q:AMo} {rest:AMB}
  (T:BZ G X L t g m nd nn rt W es sp rs mk) (hX:∀x∈X,x<L.length) (hr:rest.length=n) (hz:mk.length+Bd G.length (l+1)<=16000000) (hrs:rs.length+Bd G.length (l+1)<=16000000)
  (h:∀L2 sp' rs' mk' k,BZ G X L2 t g m nd nn rt W es sp' rs' mk'->sp <+: sp'->mk'.length<=mk.length+G.length*Bd G.length l->rs'.length<=rs.length+Bd G.length (l+1)->EN G sp' k (l+1) rest->Ad [nd,nn] L L2->Q (.int (k:Int)) L2) :
  W2 (NG (zx f) [.ref t,.int ((l+1:Nat):Int),Am rest] L) Q:=by
 unfold NG;refine JQ rfl ?_;unfold QF;simp only[Km];refine BD (λρ L1=>ED L1 L.length 0 (L.length+1) [] 0/\L1.length=L.length+2/\L <+: L1/\ρ=[some (.ref t),some (.int ((l+1:Nat):Int)),some (Am rest),some (.ref L.length),none,none,none]) ?_ ?_
 .rfl';refine Rk AR λL1 n1 l1 k1=>⟨rfl,?_⟩;have e1:(L++[Ob.ins AMM []]).length=L.length+1:=by simp
  rw[e1] at n1 l1;have p1:L <+: L1:=(((Ad.app [L.length] L [Ob.ins AMM []]).trans k1).mono λj hj=>.inr (by simp at hj;omega)).pre;rfl';exact⟨n1,by omega,p1,rfl⟩
 rintro ρ L1 ⟨n1,l1,p1,rfl⟩;have T1:=T.pre p1;have htl:=Us (G:=G) (l:=l+1) (rest:=rest)
 have hfree:∀x,L.length<=x->x∉[nd,nn]:=λx hx hm=>by
  have h1:=Bs T.nd_;obtain⟨ep,h2⟩:=T.nn_;have h2:=Bs h2;simp only[AW,DK,or_false] at hm;omega
 refine BD (λρ L'=>∃sp' rs' mk' kvs ep,BZ G (L.length::(L.length+1)::(L.length+2)::X) L' t g m nd nn rt W es sp' rs' mk'/\sp <+: sp'/\mk'.length<=mk.length+G.length*Bd G.length l/\rs'.length<=rs.length+G.length*Bd G.length l /\
  ED L' L.length (BO G (l+1) rest:Int) (L.length+1) kvs ep/\Paired (Ff G sp' l) (Sj G l rest) kvs/\Ad [nd,nn] L L'/\∃e4 e5 e6,ρ=[some (.ref t),some (.int ((l+1:Nat):Int)),some (Am rest),some (.ref L.length),e4,e5,e6]) ?_ ?_
 .have ht1:=T1.t_;rfl';refine AAz T1 (l+1) rest ?_;rfl';generalize hL2:L1++[Ob.lst ((BR G (l+1) rest).map Am)]=L2;have p2:L1 <+: L2:=by rw[<-hL2];exact Aj _ _
  have l2:L2.length=L.length+3:=by rw[<-hL2];simp[l1]
  have a2:L2[L1.length]?=some (.lst ((BR G (l+1) rest).map Am)):=by rw[<-hL2];exact AR
  have n2:ED L2 L.length 0 (L.length+1) [] 0:=⟨BP p2 n1.1,BP p2 n1.2⟩
  have T2:BZ G (L.length::(L.length+1)::(L.length+2)::X) L2 t g m nd nn rt W es sp rs mk:=by
   refine(T.more λy hy=>?_).pre (p1.trans p2);simp only[AW] at hy;rcases hy with rfl|rfl|rfl|hy
   .exact .inr (by omega)
   .exact .inr (by omega)
   .exact .inr (by omega)
   .exact .inl hy
  rw[l1] at a2 ⊢
  refine Cu (λj ρ L'=>∃sp' rs' mk' kvs ep,BZ G (L.length::(L.length+1)::(L.length+2)::X) L' t g m nd nn rt W es sp' rs' mk'/\sp <+: sp'/\mk'.length<=mk.length+j*Bd G.length l/\rs'.length<=rs.length+j*Bd G.length l /\
   ED L' L.length ((Cw G l rest ((BR G (l+1) rest).take j)).2:Int) (L.length+1) kvs ep/\Paired (Ff G sp' l) (Cw G l rest ((BR G (l+1) rest).take j)).1 kvs/\L'[L.length+2]?=some (.lst ((BR G (l+1) rest).map Am))/\Ad [nd,nn] L L' /\
   ∃e4 e5 e6,ρ=[some (.ref t),some (.int ((l+1:Nat):Int)),some (Am rest),some (.ref L.length),e4,e5,e6]) _ 0 _ _ ⟨sp,rs,mk,[],0,T2,An _,by omega,by omega,n2,.nil,a2,.of_pre (p1.trans p2),none,none,none,rfl⟩ ?_ ?_
  .rintro i x ρ L' hx ⟨sp',rs',mk',kvs,ep,T',psp,hmk,hrs',nA,pA,hL',hk,e4,e5,e6,rfl⟩;refine⟨decide_eq_true hL',?_⟩;rw[Av] at hx;obtain⟨a,hse,hx⟩:=mS hx;cases hx;have hi:i<(BR G (l+1) rest).length:=(BA.mp hse).1;have haG:=Ur (Bv hse)
   have hst:Cw G l rest ((BR G (l+1) rest).take (0+i+1))=EW G l rest (Cw G l rest ((BR G (l+1) rest).take (0+i))) a:=by unfold Cw;rw[SZ hse]
   have hmul:(i+1)*Bd G.length l<=G.length*Bd G.length l:=AKr _ (by omega);have hcn:Bd G.length (l+1)=1+G.length*Bd G.length l:=rfl;rw[AKi,Nat.one_mul] at hmul;have hstep:(0+i+1)*Bd G.length l=(0+i)*Bd G.length l+Bd G.length l:=by rw[AKi (0+i) 1,Nat.one_mul]
   have hzi:(0+i)*Bd G.length l=i*Bd G.length l:=by rw[Bh]
   have hmk2:mk'.length+Bd G.length l<=16000000:=by omega
   have hrs2:rs'.length+Bd G.length l<=16000000:=by omega
   rfl';refine AGb (by rw[hGn a haG,hr]) (by omega) (λhb=>?_) (λb hb=>?_)
   .have e7:EW G l rest (Cw G l rest ((BR G (l+1) rest).take (0+i))) a=Cw G l rest ((BR G (l+1) rest).take (0+i)):=by unfold EW;rw[hb]
    rw[hst,e7];rfl';exact⟨sp',rs',mk',kvs,ep,T',psp,by omega,by omega,nA,pA,hL',hk,_,_,_,rfl⟩
   .rfl';refine Li rfl ?_;have ec:((l+1:Nat):Int)-1=(l:Int):=by omega
    rfl';rw[ec];refine ih T' (λy hy=>?_) (by rw[AGc hb,hr]) hmk2 hrs2 λL3 sp3 rs3 mk3 k3 T3 psp3 hmk3' hrs3 nk3 hk3=>?_
    .have hkl:=hk.1;have hl2:=Bs hL';simp only[AW] at hy;rcases hy with rfl|rfl|rfl|hy
     .omega
     .omega
     .omega
     .have:=hX y hy;omega
    have nA3:ED L3 L.length ((Cw G l rest ((BR G (l+1) rest).take (0+i))).2:Int) (L.length+1) kvs ep:=⟨hk3.get (hfree _ (Ac _)) nA.1,hk3.get (hfree _ (by omega)) nA.2⟩;have hL3:L3[L.length+2]?=some (.lst ((BR G (l+1) rest).map Am)):=hk3.get (hfree _ (by omega)) hL';have pA3:Paired (Ff G sp3 l) (Cw G l rest ((BR G (l+1) rest).take (0+i))).1 kvs:=JY pA λ_ _=>Ff.mono psp3;have hone:=nk3.one;rfl';refine BU (λhne=>?_) (λhne=>?_)
    .have hk1:k3=1:=by omega
     have hw0:=hone.mp hk1;have e7:EW G l rest (Cw G l rest ((BR G (l+1) rest).take (0+i))) a=Cw G l rest ((BR G (l+1) rest).take (0+i)):=by unfold EW;rw[hb];simp only;rw[if_pos hw0]
     rw[hst,e7];rfl';exact⟨sp3,rs3,mk3,kvs,ep,T3,psp.trans psp3,by omega,by omega,nA3,pA3,hL3,hk.trans hk3,_,_,_,rfl⟩
    .have hk1:k3≠1:=by omega
     have hw0:BO G l b≠0:=λz=>hk1 (hone.mpr z)
     have e7:EW G l rest (Cw G l rest ((BR G (l+1) rest).take (0+i))) a=((Cw G l rest ((BR G (l+1) rest).take (0+i))).1++[(a,(Cw G l rest ((BR G (l+1) rest).take (0+i))).2,b)],(Cw G l rest ((BR G (l+1) rest).take (0+i))).2+EL G a*BO G l b):=by unfold EW;rw[hb];simp only;rw[if_neg hw0]
     rw[hst,e7]
     have hknew:Aq (Am a)∉kvs.map (·.1):=by rw[Yt pA3];intro hm;obtain⟨y,hy,hy2⟩:=Aw.mp hm;have hya:=Fw.kf hy2;have hsub:=(Yr G l rest ((BR G (l+1) rest).take (0+i))).subset (Cz (f:=λx:AMB×Nat×AMB=>x.1) hy);have hnd:((BR G (l+1) rest).take (0+i+1)).Nodup:=List.Sublist.nodup (List.take_sublist _ _) (AAy hG _ _);rw[HX hse,AKg] at hnd;exact hnd.2.2 _ hsub a (by simp) hya
     have hkvl:kvs.length<=i:=by have h1:=congrArg List.length (Yt pA3);rw[Ag,Ag] at h1;have h2:=(Yr G l rest ((BR G (l+1) rest).take (0+i))).length_le;rw[Ag,FP] at h2;omega
     generalize hwz:(Cw G l rest ((BR G (l+1) rest).take (0+i))).2=wz at *;generalize haz:(Cw G l rest ((BR G (l+1) rest).take (0+i))).1=az at *;have n3a:=nA3.1;rfl';refine ON (kk:=Aq (Am a)) nA3.2 (by omega) (Fw.key a) ?_;have hput:=λd ep=>Kz (d:=d) (ep:=ep) hknew;rw[(hput _ 0).1,(hput .non _).2];generalize hL4:L3.set (L.length+1) (.dt (kvs++[(Aq (Am a),.tup [.int (wz:Int),.int (k3:Int)])]) (ep+1))=L4;have T4:BZ G (L.length::(L.length+1)::(L.length+2)::X) L4 t g m nd nn rt W es sp3 rs3 mk3:=by rw[<-hL4];exact T3.setX (by simp) _
     have nA4:ED L4 L.length (wz:Int) (L.length+1) (kvs++[(Aq (Am a),.tup [.int (wz:Int),.int (k3:Int)])]) (ep+1):=by rw[<-hL4];exact⟨FE (by omega) nA3.1,CB nA3.2⟩
     have hL4':L4[L.length+2]?=some (.lst ((BR G (l+1) rest).map Am)):=by rw[<-hL4];exact FE (by omega) hL3
     have hk4:Ad [nd,nn] L L4:=by rw[<-hL4];exact(hk.trans hk3).set (.inr (by omega))
     have ht4:=T4.t_;obtain⟨epg,hg4⟩:=T4.g_.at_;have hnd4:=T4.nd_;obtain⟨ds,hds,hsz⟩:=AE9 haG;obtain⟨q,hq1,hq2⟩:=T4.g_.get Fw (k:=a) (ds:=ds) (by rw[T4.gc];exact hds);obtain⟨r0,a0,kv0,ep0,hr0,m0,_⟩:=T4.node nk3 hk1;have n4a:=nA4.1;have m0a:=m0.1;rfl';refine AGh nA4.1 (by simp) rfl ?_;rfl';refine Ii (kk:=Aq (Am a)) hg4 (Fw.key a) hq1 ?_;rfl';refine EQ (d:=.ref r0) hnd4 (Gm (by rw[Av,hr0];rfl)) ?_;rfl';refine Ek (LH (by have:=hGs a haG;rw[hsz] at this;omega)) ?_;refine⟨_,_,rfl,n4a,by show 2<1000;decide,?_⟩;refine⟨sp3,rs3,mk3,_,ep+1,T4.setX (by simp) _,psp.trans psp3,by omega,by omega,⟨?_,FE (by omega) nA4.2⟩,WL pA3 ⟨k3,rfl,nk3⟩,FE (by omega) hL4',hk4.set (.inr (Ac _)),_,_,_,rfl⟩;rw[CB n4a,hsz];push_cast;rfl
  .rintro ρ L' ⟨sp',rs',mk',kvs,ep,T',psp,hmk,hrs',nA,pA,hL',hk,e4,e5,e6,rfl⟩;rw[Ag,Bh] at hmk hrs';have hmx:=AKr (Bd G.length l) htl;refine⟨decide_eq_true hL',sp',rs',mk',kvs,ep,T',psp,by omega,by omega,?_,?_,hk,_,_,_,rfl⟩
   .rw[Ag,Bh,Ee,AGn] at nA;exact nA
   .rw[Ag,Bh,Ee] at pA;exact pA
 rintro ρ L3 ⟨sp',rs',mk',kvs,ep,T',psp,hmk,hrs',nA,pA,hk,e4,e5,e6,rfl⟩;have TX:BZ G X L3 t g m nd nn rt W es sp' rs' mk':=T'.more λy hy=>.inl (by simp[hy]);have n3a:=nA.1;have ht3:=TX.t_;have hnd3:=TX.nd_;rfl';refine BU (λhw0=>?_) (λhw0=>?_)
 .have hw:BO G (l+1) rest=0:=by omega
  rfl';have hcn:Bd G.length (l+1)=1+G.length*Bd G.length l:=rfl;refine⟨λhp _=>?_,h L3 sp' rs' mk' 1 TX psp hmk (by omega) (.inl ⟨hw,rfl⟩) hk⟩;exact h L sp rs mk 1 T (An _) (by omega) (by omega) (.inl ⟨hw,rfl⟩) (.refl _ _)
 .have hw:BO G (l+1) rest≠0:=by omega
  have hmx:=hz;have hcn:Bd G.length (l+1)=1+G.length*Bd G.length l:=rfl;rfl';refine HG hnd3 (by rw[Ag];omega) ?_;have hnd5:(L3.set nd (.lst (rs'.map (λp=>D.ref p.1)++[.ref L.length])))[nd]?=some (.lst (rs'.map (λp=>D.ref p.1)++[.ref L.length])):=CB hnd3;have ht5:(L3.set nd (.lst (rs'.map (λp=>D.ref p.1)++[.ref L.length])))[t]?=some (.ins AMJ (NW W g m nd nn rt)):=OL hnd3 ht3 (by simp);rfl';have el:(((rs'.map (λp=>D.ref p.1)++[D.ref L.length]).length:Nat):Int)-1=((sp'.length+2:Nat):Int):=by rw[Bc,Ag,T'.len];simp
  rw[el];have hndn:nd≠L.length/\nd≠L.length+1:=by have:=Bs T.nd_;omega
  have pq:sp' <+: sp'++[(l,rest)]:=Aj _ _
  have T5:BZ G X (L3.set nd (.lst (rs'.map (λp=>D.ref p.1)++[.ref L.length]))) t g m nd nn rt W es (sp'++[(l,rest)]) (rs'++[(L.length,L.length+1)]) mk':=by
   have stay:∀j,j≠nd->(L3.set nd (.lst (rs'.map (λp=>D.ref p.1)++[.ref L.length])))[j]?=L3[j]?:=λj hj=>DA (Ne.symm hj);obtain⟨epg,hg0⟩:=TX.g_.at_;obtain⟨epn,hnn0⟩:=TX.nn_;have ne1:g≠nd:=λz=>by rw[z,hnd3] at hg0;cases hg0
   have ne2:nn≠nd:=λz=>by rw[z,hnd3] at hnn0;cases hnn0
   refine⟨ht5,TX.g_.same (stay g ne1) λq hq=>stay q λz=>TX.ndg (z▸hq),TX.gc,by rw[hnd5];simp,⟨epn,(stay nn ne2).trans hnn0⟩,λe he=>(TX.mk_ e he).mono pq,by rw[Bc,Bc,TX.len];simp,λi r a hi=>?_,TX.ndg,TX.nng,λp hp=>?_,λx hx=>?_⟩
   .by_cases hlt:i<rs'.length
    .rw[Dx hlt] at hi;have hN:=TX.nod i r a hi;obtain⟨w0,kv0,ep0,m0⟩:=hN.node;refine hN.mono pq (stay r λz=>?_) (stay a λz=>?_)
     .have:=m0.1;rw[z,hnd3] at this;cases this
     .have:=m0.2;rw[z,hnd3] at this;cases this
    .have hi':i=sp'.length+2:=by
      have:=(BA.mp hi).1;rw[Bc,TX.len] at this;rw[TX.len] at hlt;simp at this;omega
     subst hi';rw[AKc (by rw[TX.len];exact Ac _),TX.len,Nat.sub_self] at hi;cases hi;exact⟨l,rest,kvs,ep,by simp,⟨(stay _ (Ne.symm hndn.1)).trans nA.1,(stay _ (Ne.symm hndn.2)).trans nA.2⟩,JY pA λ_ _=>Ff.mono pq⟩
   .rcases CF.mp hp with hp|hp
    .exact TX.nnr p hp
    .have:p=(L.length,L.length+1):=by simpa using hp
     subst this;obtain⟨ep0,h0⟩:=T.nn_;have:=Bs h0;show nn≠L.length+1;omega
   .obtain⟨h1,h2,h3,h4,h5,h6⟩:=TX.out x hx;refine⟨h1,h2,h3,h4,h5,λp hp=>?_⟩;rcases CF.mp hp with hp|hp
    .exact h6 p hp
    .have:p=(L.length,L.length+1):=by simpa using hp
     subst this;have:=hX x hx;exact⟨by show x≠L.length;omega,by show x≠L.length+1;omega⟩
  refine⟨λhp _=>?_,h _ (sp'++[(l,rest)]) (rs'++[(L.length,L.length+1)]) mk' (sp'.length+2) T5 (psp.trans pq) hmk (by simp;omega) (.inr ⟨hw,sp'.length,rfl,by simp⟩) (hk.set (.inl (by simp)))⟩;have hbad:=VU T T5 (psp.trans pq) hp;have:=congrArg List.length hbad;have hl:=psp.length_le;rw[Bc] at this;simp at this;omega
abbrev Ds(mk:List ((Nat×AMB)×Nat))(k:Nat×AMB)(v:Nat):List ((Nat×AMB)×Nat):=if k∈mk.map (·.1) then mk.map (λe=>if e.1=k then (e.1,v) else e) else mk++[(k,v)]
def ACT(mk:List ((Nat×AMB)×Nat))(k:Nat×AMB)(v:Nat):(Ds mk k v).length<=mk.length+1:=by
 unfold Ds;split
 .rw[Ag];omega
 .simp
def ACS{mk:List ((Nat×AMB)×Nat)}{k:Nat×AMB}{v:Nat}{e:(Nat×AMB)×Nat}(h:e∈Ds mk k v):e∈mk\/e=(k,v):=by
 unfold Ds at h;split at h
 .obtain⟨x,hx,rfl⟩:=Aw.mp h
  by_cases z:x.1=k
  .rw[if_pos z];exact .inr (by rw[z])
  .rw[if_neg z];exact .inl hx
 .rcases CF.mp h with h|h
  .exact .inl h
  .exact .inr (by simpa using h)
def ACB(mk:List ((Nat×AMB)×Nat))(k:Nat×AMB)(v:Nat):Dg (Ds mk k v)=DB (Dg mk) (Aq (Dj k)) (.int (v:Int)):=by
 by_cases h:k∈mk.map (·.1)
 .have h2:((Dg mk).any λkv=>decide (kv.1=Aq (Dj k)))=true:=by
   obtain⟨e,he,rfl⟩:=Aw.mp h;rw[ALD];exact⟨(Aq (Dj e.1),.int (e.2:Int)),Cz (f:=λe:(Nat×AMB)×Nat=>(Aq (Dj e.1),D.int (e.2:Int))) he,by simp⟩
  unfold DB;rw[if_pos h2];unfold Ds;rw[if_pos h];unfold Dg;rw[Bz,Bz];apply AKX;intro e _
  show(Aq (Dj (if e.1=k then (e.1,v) else e).1),D.int ((if e.1=k then (e.1,v) else e).2:Int))=if Aq (Dj e.1)=Aq (Dj k) then (Aq (Dj e.1),D.int (v:Int)) else (Aq (Dj e.1),D.int (e.2:Int))
  by_cases z:e.1=k
  .rw[if_pos z,if_pos (by rw[z])]
  .rw[if_neg z,if_neg (λy=>z (IZ.kf y))]
 .have hn:Aq (Dj k)∉(Dg mk).map (·.1):=λhm=>by
   unfold Dg at hm;rw[Bz] at hm;obtain⟨e,he,h2⟩:=Aw.mp hm;exact h (by rw[<-IZ.kf h2];exact Cz he)
  rw[(Kz (ep:=0) hn).1];unfold Ds;rw[if_neg h];unfold Dg;rw[Co];rfl
def AEL(mk:List ((Nat×AMB)×Nat))(k:Nat×AMB)(v:Nat):Bj (Dg (Ds mk k v)) (Aq (Dj k))=some (.int (v:Int)):=by
 rw[Wp]
 have hin:k∈(Ds mk k v).map (·.1):=by
  unfold Ds
  by_cases h:k∈mk.map (·.1)
  .rw[if_pos h,Bz];obtain⟨e,he,hek⟩:=Aw.mp h;refine Aw.mpr ⟨e,he,?_⟩
   show(if e.1=k then (e.1,v) else e).1=k
   rw[if_pos hek];exact hek
  .rw[if_neg h];simp
 obtain⟨e,hf,he,hk⟩:=Jq hin;rw[hf];unfold Ds at he
 by_cases h:k∈mk.map (·.1)
 .rw[if_pos h] at he;obtain⟨x,_,rfl⟩:=Aw.mp he
  by_cases z:x.1=k
  .rw[if_pos z];rfl
  .rw[if_neg z] at hk;exact absurd hk z
 .rw[if_neg h] at he;rcases CF.mp he with he|he
  .exact absurd (by rw[<-hk];exact Cz he) h
  .have:e=(k,v):=by simpa using he
   rw[this];rfl
def WX{G:BM}{n:Nat}(hG:(G.map (·.1)).Nodup)(hGn:∀a∈G.map (·.1),a.length=n)(hn:n<=1000)(hGl:G.length<=16000000)(hGs:∀a∈G.map (·.1),EL G a<=16777216):∀(l f:Nat),l<f->Sy G n l f
 |0,0,hf=>absurd hf (by omega)
 |0,f+1,hf=>by
  intro T hX hr hz hrs h;rename_i X L t g m nd nn rt W es sp rs mk Q rest;unfold zx;refine CG rfl ?_;unfold NC;simp only[MU];rfl';exact⟨rfl,An _,h L sp rs mk 0 T (An _) (by omega) (by omega) rfl (.refl _ _)⟩
 |l+1,0,hf=>absurd hf (by omega)
 |l+1,f+1,hf=>by
  intro T hX hr hz hrs h;rename_i X L t g m nd nn rt W es sp rs mk Q rest;have ih:Sy G n l f:=WX hG hGn hn hGl hGs l f (by omega);unfold zx;refine JQ rfl ?_;unfold NC;have ht:=T.t_;obtain⟨epn,hnn⟩:=T.nn_;have hcn:Bd G.length (l+1)=1+G.length*Bd G.length l:=rfl;rfl';refine SU hnn (IZ.key (l+1,rest)) ?_;have hlk:=Wp mk (l+1,rest)
  cases hf:mk.find? (λe=>decide (e.1=(l+1,rest))) with
  |some e =>
   rw[hf] at hlk;have hem:=ALt hf;have hek:e.1=(l+1,rest):=by have:=List.find?_some hf;simpa using this
   have hnum:=T.mk_ e hem;rw[hek] at hnum;rw[hlk];rfl';refine Li rfl ?_;rfl';refine Ii (kk:=Aq (Dj (l+1,rest))) hnn (IZ.key (l+1,rest)) hlk ?_;refine⟨λ_ _=>h L sp rs mk e.2 T (An _) (by omega) (by omega) hnum (.refl _ _),h L sp rs mk e.2 T (An _) (by omega) (by omega) hnum (.refl _ _)⟩
  |none =>
   rw[hf] at hlk;rw[hlk];rfl';refine Sf rfl ?_;rfl';refine ADu ih hG hGn hn hGl hGs T hX hr hz hrs λL2 sp2 rs2 mk2 k2 T2 psp2 hmk2 hrs2 nk2 hk2=>?_;have ht2:=T2.t_;obtain⟨ep2,hnn2⟩:=T2.nn_;rfl';refine ON (kk:=Aq (Dj (l+1,rest))) hnn2 (by unfold Dg;rw[Ag];omega) (IZ.key (l+1,rest)) ?_;have hput:=ACB mk2 (l+1,rest) k2;rw[<-hput];have hlk3:=AEL mk2 (l+1,rest) k2;have ne1:nn≠nd:=λz=>by have:=T2.nd_;rw[<-z,hnn2] at this;cases this
   generalize hep:epN (Dg mk2) (Aq (Dj (l+1,rest))) ep2=ep3;have hnn3:(L2.set nn (.dt (Dg (Ds mk2 (l+1,rest) k2)) ep3))[nn]?=some (.dt (Dg (Ds mk2 (l+1,rest) k2)) ep3):=CB hnn2;have stay:∀j,j≠nn->(L2.set nn (.dt (Dg (Ds mk2 (l+1,rest) k2)) ep3))[j]?=L2[j]?:=λj hj=>DA (Ne.symm hj);have ht3:(L2.set nn (.dt (Dg (Ds mk2 (l+1,rest) k2)) ep3))[t]?=some (.ins AMJ (NW W g m nd nn rt)):=OL hnn2 ht2 (by simp)
   have T3:BZ G X (L2.set nn (.dt (Dg (Ds mk2 (l+1,rest) k2)) ep3)) t g m nd nn rt W es sp2 rs2 (Ds mk2 (l+1,rest) k2):=by
    refine⟨ht3,T2.g_.same (stay g (Ne.symm T2.nng)) λq hq=>stay q λz=>?_,T2.gc,(stay nd (Ne.symm ne1)).trans T2.nd_,⟨ep3,hnn3⟩,λe he=>?_,T2.len,λi r a hi=>?_,T2.ndg,T2.nng,T2.nnr,T2.out⟩
    .obtain⟨e,he,rfl⟩:=Aw.mp hq;have:=T2.g_.it e he;rw[z,hnn2] at this;cases this
    .rcases ACS he with h'|rfl
     .exact T2.mk_ e h'
     .exact nk2
    .have hN:=T2.nod i r a hi;obtain⟨w0,kv0,ep0,m0⟩:=hN.node;refine hN.mono (An _) (stay r λz=>?_) (stay a λz=>?_)
     .have:=m0.1;rw[z,hnn2] at this;cases this
     .exact T2.nnr _ (Bv hi) z.symm
   have hml:=ACT mk2 (l+1,rest) k2;rfl';refine Ii (kk:=Aq (Dj (l+1,rest))) hnn3 (IZ.key (l+1,rest)) hlk3 ?_;refine⟨λhp _=>?_,h _ sp2 rs2 _ k2 T3 psp2 (by omega) (by omega) nk2 (hk2.set (.inl (by simp)))⟩;have hsp:=VU T T3 psp2 hp;rw[hsp] at nk2;exact h L sp rs mk k2 T (An _) (by omega) (by omega) nk2 (.refl _ _)
def XZ{w:AMB}:∀(A:List (AMB×List D)) {c:List (AMB×List D)} {a:AMB} {ps:List D},(a,ps)∈A.foldl (CJ w) c->∀p∈ps,(∃qs,(a,qs)∈c/\p∈qs)\/∃x∈A,x.1=a/\p∈x.2
 |[],c,a,ps,h,p,hp=>.inl ⟨ps,h,hp⟩
 |x::A,c,a,ps,h,p,hp=>by
  rcases XZ A (c:=CJ w c x) h p hp with⟨qs,h1,h2⟩|⟨y,hy,h1,h2⟩
  .unfold CJ at h1;split at h1
   .rcases Lm h1 with h'|⟨h3,h'|⟨zs,h',h4⟩⟩
    .exact .inl ⟨qs,h',h2⟩
    .exact .inr ⟨x,BC,h3.symm,by rw[<-h'];exact h2⟩
    .rw[h4] at h2;rcases CF.mp h2 with h2|h2
     .exact .inl ⟨zs,by rw[h3];exact h',h2⟩
     .exact .inr ⟨x,BC,h3.symm,h2⟩
   .exact .inl ⟨qs,h1,h2⟩
  .exact .inr ⟨y,Az _ hy,h1,h2⟩
def WB{ts:AMB}:∀(A:List D) {c:List (AMH×List D)} {a:AMH} {ps:List D},(a,ps)∈A.foldl (DC ts) c->∀p∈ps,(∃qs,(a,qs)∈c/\p∈qs)\/(p∈A/\Gy ts p=some a)
 |[],c,a,ps,h,p,hp=>.inl ⟨ps,h,hp⟩
 |x::A,c,a,ps,h,p,hp=>by
  rcases WB A (c:=DC ts c x) h p hp with⟨qs,h1,h2⟩|⟨h1,h2⟩
  .unfold DC at h1
   cases e:Gy ts x with
   |none=>rw[e] at h1;exact .inl ⟨qs,h1,h2⟩
   |some ks =>
    rw[e] at h1
    have hx:∀p,p∈[x]->(p∈x::A/\Gy ts p=some ks):=λp hp=>by
     have:p=x:=by simpa using hp
     subst this;exact⟨BC,e⟩
    rcases Lm h1 with h'|⟨h3,h'|⟨zs,h',h4⟩⟩
    .exact .inl ⟨qs,h',h2⟩
    .rw[h'] at h2;rw[h3];exact .inr (hx p h2)
    .rw[h4] at h2;rcases CF.mp h2 with h2|h2
     .exact .inl ⟨zs,by rw[h3];exact h',h2⟩
     .rw[h3];exact .inr (hx p h2)
  .exact .inr ⟨Az _ h1,h2⟩
def WA{ts:AMB}{ks:AMH}{ps:List D}(h:(ks,ps)∈CV ts){p:D}(hp:p∈ps):p∈Dt/\Gy ts p=some ks:=by
 rcases WB Dt h p hp with⟨_,h1,_⟩|h1
 .cases h1
 .exact h1
def Xa{w:AMB}:∀(A:List (AMB×List D)) {c:List (AMB×List D)} {a:AMB},a∈(A.foldl (CJ w) c).map (·.1)->a∈c.map (·.1)\/∃x∈A,x.1=a
 |[],c,a,h=>.inl h
 |x::A,c,a,h=>by
  rcases Xa A (c:=CJ w c x) h with h1|⟨y,hy,h1⟩
  .unfold CJ at h1;split at h1
   .rw[Sq] at h1;split at h1
    .exact .inl h1
    .rcases CF.mp h1 with h1|h1
     .exact .inl h1
     .have h5:a=x.1:=by simpa using h1
      exact .inr ⟨x,BC,h5.symm⟩
   .exact .inl h1
  .exact .inr ⟨y,Az _ hy,h1⟩
def Sn{ws ts:AMB}{x:AMB×List D}(h:x∈DG ws ts++HN ts (CV ts)):(∃w∈ws,x=(ts.map (λ_=>w),[NM w]))\/∃s∈CV ts,∃e∈CV ts,∃d∈ES,FH ts s.1 e.1=true/\x=Gj ts s e d:=by
 rcases CF.mp h with h|h
 .obtain⟨w,hw,rfl⟩:=Aw.mp h;exact .inl ⟨w,hw,rfl⟩
 .obtain⟨s,hs,h⟩:=AK2.mp h;obtain⟨e,he,h⟩:=AK2.mp h;unfold Cq at h;split at h
  .obtain⟨d,hd,rfl⟩:=Aw.mp h;exact .inr ⟨s,hs,e,he,d,hd,by assumption,rfl⟩
  .cases h
def AE6{ws ts w:AMB}{a:AMB}(h:a∈(Dv ws ts w).map (·.1)):a.length=ts.length:=by
 rcases Xa _ h with h|⟨x,hx,rfl⟩
 .cases h
 .rcases Sn hx with⟨w,_,rfl⟩|⟨s,_,e,_,d,_,_,rfl⟩
  .simp
  .unfold Gj;simp[YX]
def AE5(ws ts w:AMB):((Dv ws ts w).map (·.1)).Nodup:=XY _ .nil
abbrev AG3(ws ts:AMB)(a:AMB)(p:D):Prop:=HQ ws p/\dNK p=some (Aq p)/\∀i,i<ts.length->Cp (ts.getD i "") p=.str (a.getD i "")
def XT{ts:AMB}{p:D}{ks:AMH}(h:Gy ts p=some ks){i:Nat}(hi:i<ts.length):Df p (ts.getD i "")=.int (ks.getD i 0):=by
 have e:=OG h;have hl:ks.length=ts.length:=by have:=congrArg List.length e;simpa using this.symm
 have h1:=congrArg (λl=>l[i]?) e;simp only[Av] at h1;have e1:ts[i]?=some (ts.getD i ""):=by simp[hi]
 have e2:ks[i]?=some (ks.getD i 0):=by simp[hl,hi]
 rw[e1,e2] at h1;exact Option.some.inj h1
def AE4{ws ts w:AMB}{a:AMB}{ps:List D}(h:(a,ps)∈Dv ws ts w){p:D}(hp:p∈ps):AG3 ws ts a p:=by
 rcases XZ _ h p hp with⟨_,h1,_⟩|⟨x,hx,rfl,h2⟩
 .cases h1
 .rcases Sn hx with⟨w,hw,rfl⟩|⟨s,hs,e,he,d,hd,hlt,rfl⟩
  .have:p=NM w:=by simpa using h2
   subst this;refine⟨.inl ⟨w,hw,rfl⟩,Jc rfl,λi hi=>?_⟩;have:(ts.map λ_=>w).getD i ""=w:=by simp[hi]
   rw[this];rfl
  .unfold Gj GI at h2;simp only[AK2,Aw] at h2;obtain⟨x,hx,y,hy,rfl⟩:=h2;obtain⟨hx1,hx2⟩:=WA (ks:=s.1) (ps:=s.2) hs hx;obtain⟨hy1,hy2⟩:=WA (ks:=e.1) (ps:=e.2) he hy;have px:=RY x hx1;have py:=RY y hy1
   have hdd:Lr d:=by simp only[ES,AW,DK,or_false] at hd;exact hd
   refine⟨.inr ⟨d,x,y,rfl,hdd,px,py⟩,?_,λi hi=>?_⟩
   .obtain⟨k,n,e,rfl,_⟩:=px;obtain⟨k',n',e',rfl,_⟩:=py;exact Jc rfl
   .have i1:=XT hx2 hi;have i2:=XT hy2 hi;have hl:=of_decide_eq_true (DM.mp hlt i (CN.mpr hi))
    have ec:((EV ts s.1 e.1 ts.length).map (ET d)).getD i ""=ET d (Txt.slice (ts.getD i "") (some (s.1.getD i 0)) (some (e.1.getD i 0))):=by unfold EV;simp[hi]
    show Cp (ts.getD i "") (.tup [.str d,x,y])=.str (((EV ts s.1 e.1 ts.length).map (ET d)).getD i "");rw[ec];obtain⟨k',n',e',rfl,_⟩:=py;rw[No];rw[i1,i2];simp only;rw[if_neg (by omega)]
def Ya{α:Type}{p q:α->Bool}(h:∀x,p x=true->q x=false):∀l:List α,l.countP p+l.countP q<=l.length
 |[]=>by simp
 |x::l=>by
  have ih:=Ya h l;rw[ALH,ALH,Dd]
  cases hp:p x with
  |false=>cases hq:q x <;> simp <;> omega
  |true=>rw[h x hp];simp;omega
abbrev Fs{α:Type}(r:α->α->Bool)(l m:List α):Nat:=(l.map λx=>m.countP (r x)).sum
def ADR{α:Type}(r:α->α->Bool)(x:α)(l m:List α):Fs r l (x::m)=Fs r l m+l.countP (λy=>r y x):=by
 unfold Fs
 induction l with
 |nil=>rfl
 |cons y l ih =>
  rw[Ah,Ah,EI,EI,ih,ALH,ALH];omega
def WP{α:Type}{r:α->α->Bool}(h:∀x y,r x y=true->r y x=false):∀l:List α,2*Fs r l l<=l.length*l.length
 |[]=>by simp[Fs]
 |x::l=>by
  have ih:=WP h l
  have hx:r x x=false:=by
   cases e:r x x with
   |false=>rfl
   |true=>rw[h x x e] at e;cases e
  have e1:Fs r (x::l) (x::l)=(x::l).countP (r x)+Fs r l (x::l):=by unfold Fs;rw[Ah,EI]
  rw[e1,ADR,ALH,hx];have h2:=Ya (p:=r x) (q:=λy=>r y x) (λy hy=>h x y hy) l;simp only[ALC,if_false,Dd]
  have e3:(l.length+1)*(l.length+1)=l.length*l.length+2*l.length+1:=by rw[AKi,Nat.mul_add];omega
  omega
def Xw{α β:Type}(f:α->List β)(n:α->Nat)(h:∀x,(f x).length=n x):∀l:List α,(l.flatMap f).length=(l.map n).sum
 |[]=>rfl
 |x::l=>by rw[ALF,Bc,h,Xw f n h l,Ah,EI]
def WQ(ts:AMB)(s:AMH×List D):∀P:List (AMH×List D),(P.flatMap λe=>Cq ts s e).length=3*P.countP λe=>FH ts s.1 e.1
 |[]=>rfl
 |e::P=>by
  rw[ALF,Bc,WQ ts s P,ALH];unfold Cq
  by_cases h:FH ts s.1 e.1=true
  .rw[if_pos h,if_pos h];simp[ES];omega
  .rw[if_neg h,if_neg h];simp
def VC{α:Type}(f:α->Nat):∀l:List α,(l.map λx=>3*f x).sum=3*(l.map f).sum
 |[]=>rfl
 |x::l=>by rw[Ah,EI,VC f l,Ah,EI];omega
def AG0(ts:AMB):(HN ts (CV ts)).length<=2400:=by
 have hb:=Nn ts
 have e1:(HN ts (CV ts)).length=3*Fs (λs e=>FH ts s.1 e.1) (CV ts) (CV ts):=by unfold HN;rw[Xw _ (λs=>3*(CV ts).countP λe=>FH ts s.1 e.1) (λs=>WQ ts s _),VC];rfl
 rw[e1]
 cases ts with
 |nil =>
  have hlen:(CV []).length<=1:=by
   have hnd:((CV []).map (·.1)).Nodup:=by
    have:∀(A:List D) (c:List (AMH×List D)),(c.map (·.1)).Nodup->((A.foldl (DC []) c).map (·.1)).Nodup:=by
     intro A
     induction A with
     |nil=>intro c h;exact h
     |cons x A ih =>
      intro c h;refine ih _ ?_;unfold DC;split
      .exact So h
      .exact h
    exact this Dt [] .nil
   match h:CV [] with
   |[]=>simp
   |[_]=>simp
   |a::b::r =>
    rw[h] at hnd;have h1:a.1=[]:=ALr.mp (Nm (ts:=[]) (by rw[h];simp));have h2:b.1=[]:=ALr.mp (Nm (ts:=[]) (by rw[h];simp));rw[Ah,Ah,AKZ] at hnd;exact absurd (by rw[h1,h2];simp) hnd.1
  have h2:Fs (λs e:AMH×List D=>FH [] s.1 e.1) (CV []) (CV [])<=1:=by
   unfold Fs
   match h:CV [] with
   |[]=>simp
   |[a] =>
    simp only[Ah,AK9,EI,List.sum_nil];have:=List.countP_le_length (p:=λe:AMH×List D=>FH [] a.1 e.1) (l:=[a]);simp at this ⊢;omega
   |a::b::r=>rw[h] at hlen;simp at hlen
  omega
 |cons t ts =>
  have h:=WP (r:=λs e:AMH×List D=>FH (t::ts) s.1 e.1) (λs e hse=>by
   rw[ALI];intro hes;have h1:=of_decide_eq_true (DM.mp hse 0 (CN.mpr (by simp)));have h2:=of_decide_eq_true (DM.mp hes 0 (CN.mpr (by simp)))
   omega) (CV (t::ts))
  have h3:(CV (t::ts)).length*(CV (t::ts)).length<=40*40:=AKv hb.1 hb.1;omega
def Yx{ws ts:AMB}{x:AMB×List D}(h:x∈DG ws ts++HN ts (CV ts)):x.2.length<=1600:=by
 rcases Sn h with⟨w,_,rfl⟩|⟨s,hs,e,he,d,_,_,rfl⟩
 .simp
 .show(GI d s.2 e.2).length<=1600;rw[Jx];exact AKv ((Nn ts).2 s hs) ((Nn ts).2 e he)
def SO{ws:AMB}(hw:ws.length<=6)(ts w:AMB):(Dv ws ts w).length<=2406/\Dy (Dv ws ts w)<=4000000/\∀e∈Dv ws ts w,e.2.length<=4000000:=by
 have hl:(DG ws ts++HN ts (CV ts)).length<=2406:=by
  rw[Bc];have:=AG0 ts;have:(DG ws ts).length=ws.length:=by unfold DG;simp
  omega
 have h1:=OJ (w:=w) (DG ws ts++HN ts (CV ts)) Lj λa ha=>Yx ha;have h2:=XX (w:=w) (m:=1600) (DG ws ts++HN ts (CV ts)) (c:=[]) .nil λa ha=>Yx ha;have h3:=AKr 1600 hl;have e0:Dy ([]:List (AMB×List D))=0:=rfl;refine⟨?_,?_,λe he=>?_⟩
 .have:=h1.1;unfold Dv;omega
 .unfold Dv;omega
 .have:=h1.2 e he;omega
def Uz{ws:AMB}(hw:ws.length<=6)(ts w:AMB){a:AMB}(h:a∈(Dv ws ts w).map (·.1)):EL (Dv ws ts w) a<=4000000:=by
 obtain⟨e,hf,he,_⟩:=Jq h;have:EL (Dv ws ts w) a=e.2.length:=by unfold EL Ih;rw[hf];rfl
 rw[this];exact(SO hw ts w).2.2 e he
abbrev Eg(exs:Ay):Ay:=(Ce (exs.map AS)).map λi=>exs.getD i ("","")
def ABd(exs:Ay):sortP (exs.map AS)=(Eg exs).map AS:=by unfold sortP Eg;rw[Bz];apply AKX;intro i hi;have hi2:=CN.mp ((LF (exs.map AS)).mem_iff.mp hi);rw[Ag] at hi2;show(exs.map AS).getD i D.non=AS (exs.getD i ("",""));simp[hi2]
def VW(exs:Ay):(Eg exs).Perm exs:=by have h:=(LF (exs.map AS)).map λi=>exs.getD i (("",""):Str×Str);rw[Ag,Vm] at h;exact h
def AGt(exs:Ay):(exs.map AS).all isPr=true:=by rw[DM];intro d hd;obtain⟨e,_,rfl⟩:=Aw.mp hd;rfl
def AFA{Q:AMo}{L:AB}{k:Nat}{exs:Ay}(e:L[k]?=some (.lst (exs.map AS)))(hz:exs.length<64)(h:Q (.ref L.length) (L++[.lst ((Eg exs).map AS)])):W2 (LR [.ref k] L) Q:=by refine⟨_,_,?_,h⟩;unfold LR;simp only[e];rw[if_pos (by rw[AGt,Ag];simp[hz]),ABd]
abbrev cs(g:Nat):Nat->Nat
 |0=>0
 |j+1=>cs g j+Bd g (j+1)
abbrev Gp(L:AB)(t:Nat)(ws:AMB)(G:BM)(wd:AMB):Prop:=∃g m nd nn rt es sp rs mk,∃ks:AMG,BZ G [] L t g m nd nn rt (Am ws) es sp rs mk/\(∃ep,L[m]?=some (.dt (Eh (DX G)) ep))/\L[rt]?=some (.lst (ks.map λ(k:Nat)=>D.int (k:Int)))/\ks.length=3/\∀i k,ks[i]?=some k->EN G sp k (i+1) wd
def Gp.pre{L L':AB}{t:Nat}{ws:AMB}{G:BM}{wd:AMB}(T:Gp L t ws G wd)(p:L <+: L'):Gp L' t ws G wd:=by obtain⟨g,m,nd,nn,rt,es,sp,rs,mk,ks,T,⟨ep,hm⟩,hr,hk,hn⟩:=T;exact⟨g,m,nd,nn,rt,es,sp,rs,mk,ks,T.pre p,⟨ep,BP p hm⟩,BP p hr,hk,hn⟩
abbrev GK(b:Nat)(L:AB)(t:Nat)(ws:AMB)(G:BM)(wd:AMB):Prop:=∃g m nd nn rt es sp rs mk,∃ks:AMG,BZ G (List.range b) L t g m nd nn rt (Am ws) es sp rs mk/\(b<=m/\b<=rt)/\(∃ep,L[m]?=some (.dt (Eh (DX G)) ep))/\L[rt]?=some (.lst (ks.map λ(k:Nat)=>D.int (k:Int)))/\ks.length=3/\∀i k,ks[i]?=some k->EN G sp k (i+1) wd
def GK.tab{b:Nat}{L:AB}{t:Nat}{ws:AMB}{G:BM}{wd:AMB}(T:GK b L t ws G wd):Gp L t ws G wd:=by obtain⟨g,m,nd,nn,rt,es,sp,rs,mk,ks,T,_,h1,h2,h3,h4⟩:=T;exact⟨g,m,nd,nn,rt,es,sp,rs,mk,ks,T.more (λ_ hy=>(nomatch hy)),h1,h2,h3,h4⟩
def GK.pre{b:Nat}{L L':AB}{t:Nat}{ws:AMB}{G:BM}{wd:AMB}(T:GK b L t ws G wd)(p:L <+: L'):GK b L' t ws G wd:=by obtain⟨g,m,nd,nn,rt,es,sp,rs,mk,ks,T,hb,⟨ep,hm⟩,hr,hk,hn⟩:=T;exact⟨g,m,nd,nn,rt,es,sp,rs,mk,ks,T.pre p,hb,⟨ep,BP p hm⟩,BP p hr,hk,hn⟩
def GK.set{b:Nat}{L:AB}{t k:Nat}{ws:AMB}{G:BM}{wd:AMB}(T:GK b L t ws G wd)(h:k<b)(o:Ob):GK b (L.set k o) t ws G wd:=by obtain⟨g,m,nd,nn,rt,es,sp,rs,mk,ks,T,hb,⟨ep,hm⟩,hr,hk,hn⟩:=T;exact⟨g,m,nd,nn,rt,es,sp,rs,mk,ks,T.setX (CN.mpr h) o,hb,⟨ep,FE (by omega) hm⟩,FE (by omega) hr,hk,hn⟩
def AFc{x l N g:Nat}(h:x<l\/x=N+1+7\/x=N+1+8)(hg:g=l+3)(hN:g<N)(n:Nat)(hn:n<=7):x≠N+n:=by omega
def AFe{x l N g:Nat}(h:x<l\/x=N+1+7\/x=N+1+8)(hg:g=l+3)(hN:g<N):x≠g:=by omega
def AFd{x l N g:Nat}(h:x<l\/x=N+1+7\/x=N+1+8)(hg:g=l+3)(h1:x<N)(h2:g<x):False:=by omega
def NV{Q:AMo}{L:AB}{w ex:Nat}{ws:AMB}{exs:Ay}(hw:L[w]?=some (.lst (ws.map D.str)))(hl:ws.length<=6)(he:L[ex]?=some (.lst (exs.map AS)))(hx:Ey exs)(hxl:exs.length<60)
  (h:∀L2 t,L <+: L2->GK L.length L2 t ws (Dv ws ((Eg exs).map (·.1)) ((Eg exs).map (·.2))) ((Eg exs).map (·.2))->Q (.ref t) L2):W2 (zy [.ref w,.ref ex] L) Q:=by
 unfold zy;refine EJ rfl ?_;unfold QB;simp only[MX];have hsl:(Eg exs).length=exs.length:=(VW exs).length_eq;generalize hts:(Eg exs).map (·.1)=ts at h;generalize hwd:(Eg exs).map (·.2)=wd at h;have htl:ts.length=exs.length:=by rw[<-hts,Ag,hsl]
 have hwl:wd.length=ts.length:=by rw[<-hts,<-hwd,Ag,Ag]
 have ok:Oj ts:=⟨λy hy=>by
  rw[<-hts] at hy;obtain⟨e,he,rfl⟩:=Aw.mp hy;have:=hx e ((VW exs).mem_iff.mp he)
  exact⟨this.1,this.2.1⟩,by omega⟩
 generalize hS:Eg exs=S at hts hwd hsl;rfl';refine AFA he (by omega) ?_;rw[hS];rfl'
 refine IQ (λρ=>∃e,ρ=[e]) (λx=>match x with|.tup [.str a,.str b]=>.str a|_=>.non) (λacc=>decide_eq_true (AU AR)) ⟨_,rfl⟩ (by rw[Ag];omega) ?_ ?_
 .rintro x hx ρ ⟨e,rfl⟩;obtain⟨y,_,rfl⟩:=Aw.mp hx;unfold AS;rfl';refine⟨⟨_,rfl⟩,λacc=>?_⟩;rfl';exact⟨rfl,rfl⟩
 have em1:(S.map AS).map (λx=>match x with|.tup [.str a,.str b]=>D.str a|_=>.non)=ts.map D.str:=by rw[<-hts,Bz,Bz];rfl
 rw[em1];rfl'
 refine IQ (λρ=>∃e,ρ=[e]) (λx=>match x with|.tup [.str a,.str b]=>.str b|_=>.non) (λacc=>decide_eq_true (AU (AU AR))) ⟨_,rfl⟩ (by rw[Ag];omega) ?_ ?_
 .rintro x hx ρ ⟨e,rfl⟩;obtain⟨y,_,rfl⟩:=Aw.mp hx;unfold AS;rfl';refine⟨⟨_,rfl⟩,λacc=>?_⟩;rfl';exact⟨rfl,rfl⟩
 have em2:(S.map AS).map (λx=>match x with|.tup [.str a,.str b]=>D.str b|_=>.non)=wd.map D.str:=by rw[<-hwd,Bz,Bz];rfl
 rw[em2];rfl';refine AE7 (AU (AU (AU hw))) hl (AU AR) ok hwl λL1 es p1 g1 c1 a1=>?_;generalize hGg:Dv ws ts wd=G at c1 h;have hGb:G.length<=2406/\Dy G<=4000000/\∀e∈G,e.2.length<=4000000:=by rw[<-hGg];exact SO hl ts wd
 have hGnd:(G.map (·.1)).Nodup:=by rw[<-hGg];exact AE5 ws ts wd
 have hGn:∀a∈G.map (·.1),a.length=ts.length:=λa ha=>by rw[<-hGg] at ha;exact AE6 ha
 have hGs:∀a∈G.map (·.1),EL G a<=16777216:=λa ha=>by
  rw[<-hGg] at ha ⊢;have:=Uz hl ts wd ha;omega
 have hGp:∀e∈G,∀p∈e.2,dNK p=some (Aq p):=λe he p hp=>by
  rw[<-hGg] at he;exact(AE4 (a:=e.1) (ps:=e.2) he hp).2.1
 generalize hG:(L++[Ob.lst (S.map AS)]++[Ob.lst (ts.map D.str)]++[Ob.lst (wd.map D.str)]).length=g at g1 a1 ⊢;have hG':g=L.length+3:=by rw[<-hG];simp
 have p1':L <+: L1:=((Aj _ _).trans ((Aj _ _).trans (Aj _ _))).trans p1;have hl1:=p1'.length_le;have gl:=g1.glt;rfl';have g1':DL Am (L1++[Ob.ins AMJ []]) g es:=g1.pre (Aj _ _);refine AA3 (M:=Eh (DX G)) AR g1'.glt (λL' Q' kL lL q=>?_) λL2 l2 k2 t2 m2 n2 a2 b2 nn2 rt2=>⟨rfl,?_⟩
 .have hLn:L1.length∉g::BL es:=λhm=>by
   rcases AW.mp hm with z|z
   .omega
   .have:=g1.lt z;omega
  have gL:DL Am L' g es:=g1'.keep kL (by simp;omega) λq hq z=>by
   have z':q=L1.length:=by simpa using z
   exact hLn (Az _ (by rw[<-z'];exact hq))
  refine ADz gL (by rw[c1];exact hGp) (by rw[c1];omega) (by rw[c1];exact λe he=>by have:=hGb.2.2 e he;omega) λep=>?_;rw[c1];exact q ep
 have e1:(L1++[Ob.ins AMJ []]).length=L1.length+1:=by simp
 rw[e1] at t2 m2 n2 a2 b2 nn2 rt2 l2;clear e1;generalize hN:L1.length=N at *;have adl:∀q∈BL es,q<N:=λq hq=>by rw[<-hN];exact g1.lt hq
 have g2:DL Am L2 g es:=g1'.keep k2 (by simp;omega) λq hq z=>by
  have:q=N:=by simpa using z
  have:=adl q hq;omega
 have T2:BZ G (List.range L.length++[N+1+7,L2.length]) L2 N g (N+1) (N+1+5) (N+1+6) (N+1+7) (Am ws) es [] [(N+1+1,N+1+2),(N+1+3,N+1+4)] []:=by
  refine⟨t2,g2,c1,n2,⟨0,nn2⟩,(λ_ hm=>(nomatch hm)),rfl,λi r a hr=>?_,λhm=>?_,by omega,λp hp=>?_,λx hx=>?_⟩
  .match i,hr with
   |0,hr=>cases hr;exact⟨_,a2⟩
   |1,hr=>cases hr;exact⟨_,b2⟩
   |i+2,hr=>simp at hr
  .have:=adl _ hm;omega
  .simp only[AW,DK,or_false] at hp;rcases hp with rfl|rfl
   .exact λh=>absurd (Nat.add_left_cancel h) (by decide)
   .exact λh=>absurd (Nat.add_left_cancel h) (by decide)
  .have hx2:x<L.length\/x=N+1+7\/x=N+1+8:=by
    rcases CF.mp hx with hx|hx
    .exact .inl (CN.mp hx)
    .simp only[AW,DK,or_false] at hx;rcases hx with rfl|rfl
     .exact .inr (.inl rfl)
     .exact .inr (.inr (by omega))
   have far:∀n,n<=7->x≠N+n:=AFc hx2 hG' gl;refine⟨far 0 (Ed _),AFe hx2 hG' gl,λhm=>AFd hx2 hG' (adl _ hm) (a1 _ hm),far 6 (by decide),far 7 (by decide),λp hp=>?_⟩;simp only[AW,DK,or_false] at hp;rcases hp with rfl|rfl
   .exact⟨far 2 (by decide),far 3 (by decide)⟩
   .exact⟨far 4 (by decide),far 5 (by decide)⟩
 have p2:L <+: L2:=by have:Ad [N] L1 L2:=(Ad.app _ _ _).trans k2;exact p1'.trans (this.mono λj hj=>.inr (by simp at hj;omega)).pre
 have ht2:=T2.t_;rfl';generalize hM:L2.length=M at *
 have hcs:∀j,j<=3->cs G.length j<=6000000:=λj hj=>by
  have hg:=hGb.1
  have e3:cs G.length 3=3+2*G.length+G.length*G.length:=by simp only[cs,Bd];simp only[Nat.mul_zero,Nat.add_zero,Nat.mul_one,Nat.mul_add];omega
  have h4:G.length*G.length<=2406*2406:=AKv hg hg
  have:cs G.length j<=cs G.length 3:=by
   match j,hj with
   |0,_=>exact Ed _
   |1,_=>simp only[cs];omega
   |2,_=>simp only[cs];omega
   |3,_=>exact Ac _
  omega
 refine FS (I:=λj ρ L'=>(∃e,ρ=[e,some (.ref N),some (Am wd)])/\∃sp rs mk,∃ks:AMG,BZ G (List.range L.length++[N+1+7,M]) L' N g (N+1) (N+1+5) (N+1+6) (N+1+7) (Am ws) es sp rs mk/\mk.length<=cs G.length j/\rs.length<=2+cs G.length j/\ks.length=j/\(∀i k,ks[i]?=some k->EN G sp k (i+1) wd) /\
  Ad [N+1+5,N+1+6] L2 L'/\L'[M]?=some (.lst (ks.map λ(k:Nat)=>D.int (k:Int)))) _ 0 _ _ ⟨⟨_,rfl⟩,[],_,[],[],T2.pre (Aj _ _),Ac _,Ac _,rfl,λi k hk=>by simp at hk,.app _ _ _,by rw[<-hM];exact AR⟩ ?_ ?_
 .rintro i x ρ L' hx ⟨⟨e,rfl⟩,sp,rs,mk,ks,T,hmk,hrs,hks,hkn,k',hM'⟩;refine⟨rfl,?_⟩
  have hi:i<3/\x=.int ((i+1:Nat):Int):=by
   match i,hx with
   |0,hx=>cases hx;exact⟨by decide,rfl⟩
   |1,hx=>cases hx;exact⟨by decide,rfl⟩
   |2,hx=>cases hx;exact⟨by decide,rfl⟩
   |i+3,hx=>simp at hx
  obtain⟨hi,rfl⟩:=hi;have hc:=hcs (0+i+1) (by omega);have hce:cs G.length (0+i+1)=cs G.length (0+i)+Bd G.length (i+1):=by rw[Bh];rfl
  rfl';refine WX hGnd hGn (by omega) (by omega) hGs (i+1) 5 (by omega) T (λy hy=>?_) hwl (by omega) (by omega) λL3 sp3 rs3 mk3 k3 T3 psp3 hmk3 hrs3 nk3 hk3=>?_
  .have hM2:=Bs hM';rcases CF.mp hy with hy|hy
   .have:=CN.mp hy;have:=p2.length_le;omega
   .simp only[AW,DK,or_false] at hy;rcases hy with rfl|rfl <;> omega
  have hM3:L3[M]?=some (.lst (ks.map λ(k:Nat)=>D.int (k:Int))):=hk3.get (by simp;omega) hM';refine⟨_,hM3,by rw[Ag,hks];omega,⟨_,rfl⟩,sp3,rs3,mk3,ks++[k3],T3.setX (by simp) _,by omega,by omega,by simp[hks],λj k hj=>?_,(k'.trans hk3).set (.inr (by omega)),?_⟩
  .by_cases hlt:j<ks.length
   .rw[Dx hlt] at hj;exact(hkn j k hj).mono psp3
   .have hj':j=ks.length:=by
     have:=(BA.mp hj).1;simp at this;omega
    subst hj';rw[AKc (Ac _),Nat.sub_self] at hj;cases hj;rw[hks,Bh];exact nk3
  .rw[CB hM3];simp
 .rintro ρ L' ⟨⟨e,rfl⟩,sp,rs,mk,ks,T,hmk,hrs,hks,hkn,k',hM'⟩;refine⟨rfl,?_⟩;have hks3:ks.length=3:=hks;have rt':L'[N+1+7]?=some (.lst []):=k'.get (by simp) rt2;obtain⟨epm,m2⟩:=m2;have m':L'[N+1]?=some (.dt (Eh (DX G)) epm):=k'.get (by simp) m2;have htk:=T.t_;rfl';refine SV rt' hM' (by simp[hks3]) ?_;rfl';refine⟨rfl,h _ N ?_ ⟨g,N+1,N+1+5,N+1+6,N+1+7,es,sp,rs,mk,ks,(T.setX (by simp) _).more (λy hy=>.inl (ALk _ hy)),⟨by omega,by omega⟩,⟨epm,OL rt' m' (by simp)⟩,?_,hks3,hkn⟩⟩
  .exact(((Ad.of_pre p2).step k' λj hj=>.inr (by simp at hj;omega)).set (.inr (by omega))).pre
  .rw[CB rt'];simp
def VD{α:Type}{f:α->Nat}{m:Nat}:∀(l:List α),(∀x∈l,f x<=m)->(l.map f).sum<=l.length*m
 |[],_=>by simp
 |x::l,h=>by
  rw[Ah,EI,Dd,AKi];have h1:=h x BC;have h2:=VD l λy hy=>h y (Az _ hy);omega
def Ua{G:BM}(hn:G.length<=2406)(hs:∀a∈G.map (·.1),EL G a<=4000000):∀(l:Nat) (rest:AMB),BO G l rest<=10000000000 ^ l
 |0,_=>by simp[BO]
 |l+1,rest=>by
  have h:=VD (m:=4000000*10000000000 ^ l) (f:=λa=>match Ep rest a with|some b=>EL G a*BO G l b|none=>0) (BR G (l+1) rest) λa ha=>by
   cases e:Ep rest a with
   |none=>exact Ed _
   |some b=>exact AKv (hs a (Ur ha)) (Ua hn hs l b)
  have h2:(BR G (l+1) rest).length<=2406:=Bu Us hn;have h3:=AKr (4000000*10000000000 ^ l) h2;rw[Nat.pow_succ]
  show((BR G (l+1) rest).map λa=>match Ep rest a with|some b=>EL G a*BO G l b|none=>0).sum<=_
  generalize 10000000000 ^ l=B at *;omega
section
variable {G:BM}{X:AMG}{L:AB}{t g m nd nn rt:Nat}{W:D}{es:List (AMB×Nat×List D)}{sp:List (Nat×AMB)}{rs:List (Nat×Nat)}{mk:List ((Nat×AMB)×Nat)}{Q:AMo}
def BZ.ways(T:BZ G X L t g m nd nn rt W es sp rs mk){k l:Nat}{rest:AMB}(h:EN G sp k (l+1) rest):∃r a,rs[k]?=some (r,a)/\L[r]?=some (.ins AMM [(AMO,.int (BO G (l+1) rest:Int)),(AMW,.ref a)]):=by
 by_cases h1:k=1
 .subst h1;have hw:=h.one.mp rfl;have hlt:1<rs.length:=by rw[T.len];omega
  obtain⟨ep,n⟩:=T.nod 1 rs[1].1 rs[1].2 (by simp[hlt]);exact⟨rs[1].1,rs[1].2,by simp[hlt],by rw[hw];exact n.1⟩
 .obtain⟨r,a,kvs,ep,e,n,_⟩:=T.node h h1;exact⟨r,a,e,n.1⟩
end
abbrev Fv(G:BM)(wd:AMB):Nat:=BO G 1 wd+BO G 2 wd+BO G 3 wd
def AD4{ws:AMB}(hw:ws.length<=6)(ts w wd:AMB):Fv (Dv ws ts w) wd<2 ^ 110:=by
 have h:∀l,l<=3->BO (Dv ws ts w) l wd<=1000000000000000000000000000000:=λl hl=>Bu (Ua (SO hw ts w).1 (λa ha=>Uz hw ts w ha) l wd) (Bu (Nat.pow_le_pow_right (by decide) hl) (by decide));have h1:=h 1 (by decide);have h2:=h 2 (by decide);have h3:=h 3 (by decide);have e:(2:Nat) ^ 110=1298074214633706907132624082305024:=by decide
 unfold Fv;rw[e];omega
section
variable {L:AB}{t:Nat}{ws ts wd:AMB}{G:BM}{Q:AMo}
def IX(T:Gp L t ws G wd)(h:Q (.int (Fv G wd:Int)) L):W2 (ze [.ref t] L) Q:=by
 obtain⟨g,m,nd,nn,rt,es,sp,rs,mk,ks,T,hm,hr,hk3,hkn⟩:=T;unfold ze;refine CG rfl ?_;unfold PZ;have ht:=T.t_;rfl';refine FS (I:=λj ρ L'=>(∃e,ρ=[e,some (.ref t)])/\L'=L++[.lst ((List.range j).map λi=>D.int (BO G (i+1) wd:Int))]) _ 0 _ _ ⟨⟨_,rfl⟩,rfl⟩ ?_ ?_
 .rintro i x ρ L' hx ⟨⟨e,rfl⟩,rfl⟩;refine⟨decide_eq_true (AU hr),?_⟩;rw[Av] at hx;obtain⟨k,hse,hx⟩:=mS hx;cases hx;have hi:i<3:=by rw[<-hk3];exact(BA.mp hse).1
  obtain⟨r,a,h1,h2⟩:=T.ways (hkn i k hse);have ht':(L++[Ob.lst ((List.range (0+i)).map λi=>D.int (BO G (i+1) wd:Int))])[t]?=_:=AU ht;have h2':(L++[Ob.lst ((List.range (0+i)).map λi=>D.int (BO G (i+1) wd:Int))])[r]?=_:=AU h2;rfl';refine EQ (d:=.ref r) (AU T.nd_) (Gm (by rw[Av,h1];rfl)) ?_;rfl';refine⟨_,AR,by simp;omega,⟨_,rfl⟩,?_⟩;rw[ALg,Co,Bh];simp
 .rintro ρ L' ⟨⟨e,rfl⟩,rfl⟩;refine⟨decide_eq_true (AU hr),?_⟩;have e3:(0+(ks.map λ(k:Nat)=>D.int (k:Int)).length)=3:=by rw[Ag,hk3]
  rw[e3];have e4:((List.range 3).map λi=>D.int (BO G (i+1) wd:Int))=[.int (BO G 1 wd:Int),.int (BO G 2 wd:Int),.int (BO G 3 wd:Int)]:=rfl;rw[e4];rfl';refine Xf AR rfl ?_;refine⟨rfl,Aj _ _,?_⟩
  have e5:([(BO G 1 wd:Int),(BO G 2 wd:Int),(BO G 3 wd:Int)]:AMH).sum=(Fv G wd:Int):=by unfold Fv;simp only[EI,List.sum_nil];omega
  rw[e5];exact h
def AB6(T:Gp L t ws G wd){z:Int}(hz:z<0\/(Fv G wd:Int)<=z):zz [.ref t,.int z] L=none/\Kl [.ref t,.int z] L=some ((AMQ:Str),L):=by
 obtain⟨g,m,nd,nn,rt,es,sp,rs,mk,ks,T,hm,hr,hk3,hkn⟩:=T
 match ks,hk3 with
 |[k1,k2,k3],_ =>
 have hr':L[rt]?=some (.lst [.int (k1:Int),.int (k2:Int),.int (k3:Int)]):=hr;obtain⟨r1,a1,hr1,w1'⟩:=T.ways (hkn 0 k1 rfl);have w1:L[r1]?=some (.ins AMM [(AMO,.int (BO G 1 wd:Int)),(AMW,.ref a1)]):=w1';obtain⟨r2,a2,hr2,w2'⟩:=T.ways (hkn 1 k2 rfl);have w2:L[r2]?=some (.ins AMM [(AMO,.int (BO G 2 wd:Int)),(AMW,.ref a2)]):=w2';obtain⟨r3,a3,hr3,w3'⟩:=T.ways (hkn 2 k3 rfl);have w3:L[r3]?=some (.ins AMM [(AMO,.int (BO G 3 wd:Int)),(AMW,.ref a3)]):=w3';have ht:=T.t_;have hnd:=T.nd_;unfold Fv at hz;unfold zz Kl MS PJ
 by_cases h0:z<0
 .have e0:asT (bin2 gLt (var 1) (AC (.int 0))) (CU zf [.ref t,.int z]) L=some (true,L):=by
   have:W2 (asT (bin2 gLt (var 1) (AC (.int 0))) (CU zf [.ref t,.int z]) L) λb L'=>b=true/\L'=L:=by rfl';exact⟨by rw[decide_eq_true h0],rfl⟩
   obtain⟨b,L',e,rfl,rfl⟩:=this;exact e
  generalize asT (bin2 gLt (var 1) (AC (.int 0)))=F at e0;constructor
  .simp[Aa,AH,Af,e0,FW]
  .simp[HB,FU,Hn,e0,IU]
 .have e0:asT (bin2 gLt (var 1) (AC (.int 0))) (CU zf [.ref t,.int z]) L=some (false,L):=by
   have:W2 (asT (bin2 gLt (var 1) (AC (.int 0))) (CU zf [.ref t,.int z]) L) λb L'=>b=false/\L'=L:=by rfl';exact⟨by rw[decide_eq_false h0],rfl⟩
   obtain⟨b,L',e,rfl,rfl⟩:=this;exact e
  generalize hF:Bg (BG (As (BE [AMJ] AMa) (var 0))) (Ab 2) (AH (AL 3 (As (BE [AMM] AMO) (bin2 AZ (As (BE [AMJ] AMT) (var 0)) (var 2)))) (AH (Af (asT (bin2 gLt (var 1) (var 3))) (AN (AJ Kn (AA (var 0) (AA (var 2) (AA (var 1) AD))))) Ak) (augN 1 (λi j=>i-j) (var 3))))=Fo
  have e1:∃ρ,Fo (CU zf [.ref t,.int z]) L=some (.next ρ L):=by
   have:WS (Fo (CU zf [.ref t,.int z]) L) (λ_ L'=>L'=L) (λ_ _=>False) (λ_ _=>False) (λ_ _=>False):=by rw[<-hF];rfl';refine HV (decide_eq_true hr') ?_;rfl';refine EQ (d:=.ref r1) hnd (Gm (by rw[Av,hr1];rfl)) ?_;rfl';refine HV (decide_eq_true hr') ?_;rfl';refine EQ (d:=.ref r2) hnd (Gm (by rw[Av,hr2];rfl)) ?_;rfl';refine HV (decide_eq_true hr') ?_;rfl';refine EQ (d:=.ref r3) hnd (Gm (by rw[Av,hr3];rfl)) ?_;rfl';refine RD (decide_eq_true hr') ?_;rfl
   obtain⟨o,e,q⟩:=this
   cases o with
   |next ρ L'=>exact⟨ρ,by rw[e];exact congrArg (λx=>some (EC.next ρ x)) q⟩
   |ret d L'=>exact q.elim
   |brk ρ L'=>exact q.elim
   |cont ρ L'=>exact q.elim
  obtain⟨ρ,e1⟩:=e1;generalize asT (bin2 gLt (var 1) (AC (.int 0)))=F at e0;constructor
  .simp[Aa,AH,Af,e0,Ak,e1,FW]
  .simp[HB,FU,Hn,Af,e0,Ak,Ft,e1,IU]
end
abbrev gE(ws:AMB)(exs:Ay):BM:=Dv ws ((Eg exs).map (·.1)) ((Eg exs).map (·.2))
abbrev wE(exs:Ay):AMB:=(Eg exs).map (·.2)
abbrev cE(ws:AMB)(exs:Ay):Nat:=Fv (gE ws exs) (wE exs)
abbrev CC(S:AMG)(L:AB)(t:Nat)(ws:AMB)(G:BM)(wd:AMB):Prop:=∃g m nd nn rt es sp rs mk,∃ks:AMG,BZ G S L t g m nd nn rt (Am ws) es sp rs mk/\(m∉S/\rt∉S)/\(∃ep,L[m]?=some (.dt (Eh (DX G)) ep))/\L[rt]?=some (.lst (ks.map λ(k:Nat)=>D.int (k:Int)))/\ks.length=3/\∀i k,ks[i]?=some k->EN G sp k (i+1) wd
section
variable {S S':AMG}{L L':AB}{t:Nat}{ws wd:AMB}{G:BM}
def CC.tab(T:CC S L t ws G wd):Gp L t ws G wd:=by obtain⟨g,m,nd,nn,rt,es,sp,rs,mk,ks,T,_,h1,h2,h3,h4⟩:=T;exact⟨g,m,nd,nn,rt,es,sp,rs,mk,ks,T.more (λ_ hy=>(nomatch hy)),h1,h2,h3,h4⟩
def CC.pre(T:CC S L t ws G wd)(p:L <+: L'):CC S L' t ws G wd:=by obtain⟨g,m,nd,nn,rt,es,sp,rs,mk,ks,T,hb,⟨ep,hm⟩,hr,hk,hn⟩:=T;exact⟨g,m,nd,nn,rt,es,sp,rs,mk,ks,T.pre p,hb,⟨ep,BP p hm⟩,BP p hr,hk,hn⟩
def CC.set{k:Nat}(T:CC S L t ws G wd)(h:k∈S)(o:Ob):CC S (L.set k o) t ws G wd:=by obtain⟨g,m,nd,nn,rt,es,sp,rs,mk,ks,T,hb,⟨ep,hm⟩,hr,hk,hn⟩:=T;exact⟨g,m,nd,nn,rt,es,sp,rs,mk,ks,T.setX h o,hb,⟨ep,FE (λe=>hb.1 (e▸h)) hm⟩,FE (λe=>hb.2 (e▸h)) hr,hk,hn⟩
def CC.more(T:CC S L t ws G wd)(h:∀y∈S',y∈S\/L.length<=y):CC S' L t ws G wd:=by
 obtain⟨g,m,nd,nn,rt,es,sp,rs,mk,ks,T,hb,⟨ep,hm⟩,hr,hk,hn⟩:=T;refine⟨g,m,nd,nn,rt,es,sp,rs,mk,ks,T.more h,⟨λz=>?_,λz=>?_⟩,⟨ep,hm⟩,hr,hk,hn⟩
 .rcases h _ z with q|q
  .exact hb.1 q
  .have:=Bs hm;omega
 .rcases h _ z with q|q
  .exact hb.2 q
  .have:=Bs hr;omega
def GK.x{b:Nat}(T:GK b L t ws G wd)(h:∀y∈S,y<b):CC S L t ws G wd:=by obtain⟨g,m,nd,nn,rt,es,sp,rs,mk,ks,T,hb,⟨ep,hm⟩,hr,hk,hn⟩:=T;exact⟨g,m,nd,nn,rt,es,sp,rs,mk,ks,T.more λy hy=>.inl (CN.mpr (h y hy)),⟨λz=>by have:=h _ z;omega,λz=>by have:=h _ z;omega⟩,⟨ep,hm⟩,hr,hk,hn⟩
end
noncomputable abbrev Tb(S:AMG)(L:AB)(ws:AMB)(exs:Ay)(t:Nat):Prop:=CC S L t ws (gE ws exs) (wE exs)
def ACh{kd:Nat}{L L':AB}(k:Ad [kd] L L'){o:Ob}(h:L'[kd]?=some o):L.set kd o <+: L':=by
 refine⟨L'.drop L.length,?_⟩;apply ALJ;intro j
 by_cases hj:j<L.length
 .rw[Dx (by rw[Fl];exact hj)]
  by_cases e:j=kd
  .subst e;rw[h,AKY hj]
  .rw[DA (Ne.symm e)];exact(k.2 j hj (by simpa using e)).symm
 .rw[AKc (by rw[Fl];omega),Fl,List.getElem?_drop]
  congr 1;omega
def CC.keep{S:AMG}{kd t:Nat}{L L':AB}{ws wd:AMB}{G:BM}(T:CC S L t ws G wd)(k:Ad [kd] L L')(hd:kd<L.length)(hS:kd∈S):CC S L' t ws G wd:=by have hl:kd<L'.length:=Bm hd k.1;obtain⟨o,ho⟩:∃o,L'[kd]?=some o:=⟨L'[kd],by simp[hl]⟩;exact(T.set hS o).pre (ACh k ho)
abbrev FD(exs:Ay):D:=.tup (exs.map AS)
def AFk(a b:Str×Str)(h:AS a=AS b):a=b:=by obtain⟨a1,a2⟩:=a;obtain⟨b1,b2⟩:=b;cases h;rfl
def Jf:KD FD:=⟨λa=>Jc (by
  unfold FD;show(EU (a.map AS)).isSome=true
  induction a with
  |nil=>rfl
  |cons x a ih =>
   rw[Ah];show((Ir (AS x)).bind λk=>(EU (a.map AS)).map (k::·)).isSome=true
   cases e:EU (a.map AS) with
   |none=>rw[e] at ih;cases ih
   |some y=>rfl),λa b h=>Ny AFk (D.tup.inj h)⟩
abbrev Dq(es:List (Ay×Nat)):List (NK×D):=es.map λe=>(Aq (FD e.1),D.ref e.2)
structure DT (S:AMG) (kd:Nat) (L:AB) (ws:AMB) (es:List (Ay×Nat)):Prop where
 at_:∃ep,L[kd]?=some (.dt (Dq es) ep)
 kn:(es.map (·.1)).Nodup
 tb:∀e∈es,Tb S L ws e.1 e.2
 lt:∀a∈S,a<L.length
 hS:kd∈S
def DT.pre{S:AMG}{kd:Nat}{L L':AB}{ws:AMB}{es:List (Ay×Nat)}(d:DT S kd L ws es)(p:L <+: L'):DT S kd L' ws es:=by obtain⟨ep,hat⟩:=d.at_;exact⟨⟨ep,BP p hat⟩,d.kn,λe hm=>(d.tb e hm).pre p,λa ha=>Bm (d.lt a ha) p.length_le,d.hS⟩
def Vj(es:List (Ay×Nat)):(Dq es).map (·.1)=(es.map (·.1)).map λx=>Aq (FD x):=by unfold Dq;rw[Bz,Bz];rfl
def ACA{es:List (Ay×Nat)}(h:(es.map (·.1)).Nodup):((Dq es).map (·.1)).Nodup:=by rw[Vj];unfold List.Nodup at h ⊢;rw[List.pairwise_map];exact h.imp λhne e=>hne (Jf.kf e)
def Vk{es:List (Ay×Nat)}{exs:Ay}{t:Nat}(h:(es.map (·.1)).Nodup)(hm:(exs,t)∈es):Bj (Dq es) (Aq (FD exs))=some (.ref t):=by obtain⟨i,hi⟩:=ALe hm;exact AEN (i:=i) (ACA h) (by unfold Dq;rw[Av,hi];rfl)
def AB9{es:List (Ay×Nat)}{exs:Ay}(hm:exs∉es.map (·.1)):Aq (FD exs)∉(Dq es).map (·.1):=by rw[Vj];intro h;obtain⟨x,hx,e⟩:=Aw.mp h;exact hm (by rw[<-Jf.kf e];exact hx)
def Sk{Q:AMo}{L:AB}{S:AMG}{kd w ex:Nat}{ws:AMB}{exs:Ay}{es:List (Ay×Nat)}(hd:DT S kd L ws es)(hes:es.length<=100)(hw:L[w]?=some (.lst (ws.map D.str)))(hl:ws.length<=6)(he:L[ex]?=some (.lst (exs.map AS)))(hx:Ey exs)(hxl:exs.length<60)
  (h:∀L2 es2 t,Ad [kd] L L2->DT S kd L2 ws es2->es2.length<=es.length+1->Tb S L2 ws exs t->Q (.ref t) L2):W2 (IL [.ref kd,.ref w,.ref ex] L) Q:=by
 unfold IL;refine EJ rfl ?_;unfold Pw;obtain⟨ep,hat⟩:=hd.at_;rfl';refine SU (kk:=Aq (FD exs)) hat (Jf.key exs) ?_
 by_cases hm:exs∈es.map (·.1)
 .obtain⟨⟨x,t⟩,hmem,hxe⟩:=Aw.mp hm;have hxe:x=exs:=hxe;subst hxe;have hlk:=Vk hd.kn hmem;have e1:(true != (Bj (Dq es) (Aq (FD x))).isSome)=false:=by rw[hlk];rfl
  rw[e1];rfl';refine Ii (kk:=Aq (FD x)) hat (Jf.key x) hlk ?_;have T0:Tb S L ws x t:=hd.tb (x,t) hmem;have hq:=h L es t (Ad.refl _ _) hd (AKp _) T0;exact⟨rfl,hq⟩
 .have hno:=AB9 hm;have e1:(true != (Bj (Dq es) (Aq (FD exs))).isSome)=true:=by rw[Wo hno];rfl
  rw[e1];rfl';refine NV hw hl he hx hxl λL2 t p T=>?_;have hkd:kd<L.length:=Bs hat;have hat2:=BP p hat;rfl';refine ON (kk:=Aq (FD exs)) hat2 (by unfold Dq;rw[Ag];omega) (Jf.key exs) ?_;rw[(Kz (d:=.ref t) (ep:=ep) hno).1,(Kz (d:=.ref t) (ep:=ep) hno).2];have er:Dq es++[(Aq (FD exs),D.ref t)]=Dq (es++[(exs,t)]):=by unfold Dq;rw[Co];rfl
  rw[er];have hk:Ad [kd] L (L2.set kd (.dt (Dq (es++[(exs,t)])) (ep+1))):=(Ad.of_pre p).set (.inl (by simp));have hat3:(L2.set kd (.dt (Dq (es++[(exs,t)])) (ep+1)))[kd]?=some (.dt (Dq (es++[(exs,t)])) (ep+1)):=CB hat2
  have hkn:((es++[(exs,t)]).map (·.1)).Nodup:=by
   rw[Co,AKg];refine⟨hd.kn,by simp,λa ha b hb e=>?_⟩;have hb:b=exs:=by simpa using hb
   exact hm (by rw[<-hb,<-e];exact ha)
  have T3:Tb S (L2.set kd (.dt (Dq (es++[(exs,t)])) (ep+1))) ws exs t:=CC.set (T.x hd.lt) hd.hS _;rfl';refine Ii (kk:=Aq (FD exs)) hat3 (Jf.key exs) (Vk hkn (AKV _ (Fi.mpr rfl))) ?_;refine⟨rfl,h _ (es++[(exs,t)]) t hk ⟨⟨_,hat3⟩,hkn,λe hm'=>?_,λa ha=>Bm (hd.lt a ha) hk.1,hd.hS⟩ (by rw[Bc];simp) T3⟩;rcases CF.mp hm' with hm'|hm'
  .exact(hd.tb e hm').keep hk hkd hd.hS
  .have:e=(exs,t):=by simpa using hm'
   subst this;exact T3
def JP{c:TF}{look:D}{xs:List D}{f:D->Bool}{ex:Nat}{L:AB}{Q:AB->Prop}(hc:∀x∈xs,∀L',W2 (c [some x,some look] L') λb L1=>b=f x/\L1=L')(he:L[ex]?=some (.lst xs))(hz:xs.length<=1000)
  (h:Q (L++[.lst (xs.filter f)])):W1 (Cr (λL''=>decide (L''[ex]?=some (.lst xs))) (Ab 0) c (var 0) L.length xs [none,some look] (L++[.lst []])) Q:=by
 refine FS (I:=λj ρ L3=>(∃a,ρ=[a,some look])/\L3=L++[Ob.lst ((xs.take j).filter f)]) _ 0 _ _ ⟨⟨none,rfl⟩,rfl⟩ ?_ ?_
 .rintro i x ρ L3 hx ⟨⟨a,rfl⟩,rfl⟩;refine⟨decide_eq_true (AU he),?_⟩;have hlen:((xs.take (0+i)).filter f).length<16777216:=AK1 (AKw _ _) (by rw[FP];omega);have htk:xs.take (0+i+1)=xs.take (0+i)++[x]:=by rw[Bh,GV,hx];rfl
  rfl';obtain⟨b,L1,e,rfl,rfl⟩:=hc x (Bv hx) (L++[Ob.lst ((xs.take (0+i)).filter f)]);refine⟨_,_,e,?_⟩;rw[htk,ALh]
  cases hf:f x with
  |true =>
   rfl';refine⟨_,AR,hlen,⟨_,rfl⟩,?_⟩;simp[hf]
  |false =>
   rfl';refine⟨⟨_,rfl⟩,?_⟩;simp[hf]
 .rintro ρ L3 ⟨_,rfl⟩;refine⟨decide_eq_true (AU he),?_⟩;rw[Bh,Ee];exact h
abbrev DF(l:D)(y:Str):Bool:=match l with|.tup [.str w,.str k]=>holdB w k y|_=>false
abbrev fE(l:D)(exs:Ay):Ay:=exs.filter λe=>DF l e.1
abbrev nE(l:D)(exs:Ay):Ay:=exs.filter λe=>!DF l e.1
abbrev Ld(g:Str->Bool)(x:D):Bool:=match x with|.tup [.str y,_]=>g y|_=>false
def OT(g:Str->Bool)(exs:Ay):(exs.map AS).filter (Ld g)=(exs.filter λe=>g e.1).map AS:=by rw[List.filter_map];rfl
def Ey.fil{exs:Ay}(h:Ey exs)(p:Str×Str->Bool):Ey (exs.filter p):=λe he=>h e (Fj.mp he).1
def XW{Q:AMo}{L:AB}{l:D}{y:Str}(hl:DV l)(hy:y.length<=1000)(q:Q (.bl (DF l y)) L):W2 (IK [l,.str y] L) Q:=AE0 hl hy λw k e=>by
 subst e;exact q
def LK{Q:AMo}{L:AB}{l:D}{y:Str}(hl:DV l)(hy:y.length<=1000)(hs:Ar y)(q:Q (.bl (DF l y)) L):W2 (zk [l,.str y] L) Q:=AEH hl hy hs λw k e=>by
 subst e;exact q
def AGM{Q:AMo}{L:AB}{k:Nat}{a b c:D}(hk:L[k]?=some (.ins AML []))(h:Q .non (L.set k (.ins AML [(AMP,a),(AMK,b),(AMV,c)]))):W2 (Kq [.ref k,a,b,c] L) Q:=by unfold Kq;refine Uc rfl ?_;unfold Po;have e1:(L.set k (.ins AML (DP AMP a [])))[k]?=some (.ins AML [(AMP,a)]):=CB hk;have e2:((L.set k (.ins AML (DP AMP a []))).set k (.ins AML (DP AMK b [(AMP,a)])))[k]?=some (.ins AML [(AMP,a),(AMK,b)]):=CB e1;rfl';rw[List.set_set,List.set_set];exact⟨by rw[Fl],h⟩
def AGN{Q:AMo}{L:AB}{S:AMG}{kd w ex:Nat}{ws:AMB}{exs:Ay}{es:List (Ay×Nat)}{l:D}(hd:DT S kd L ws es)(hes:es.length<=50)(hw:L[w]?=some (.lst (ws.map D.str)))(hl:ws.length<=6)(he:L[ex]?=some (.lst (exs.map AS)))(hx:Ey exs)(hxl:exs.length<=6)(hk:DV l)
  (h:∀L2 es2 c t t',Ad [kd] L L2->DT S kd L2 ws es2->es2.length<=es.length+2->L2[c]?=some (.ins AML [(AMP,l),(AMK,.ref t),(AMV,.ref t')])->Tb S L2 ws (fE l exs) t->Tb S L2 ws (nE l exs) t'->Q (.ref c) L2):W2 (Kp [.ref kd,.ref w,l,.ref ex] L) Q:=by
 unfold Kp;refine EJ rfl ?_;unfold Pf;have hml:(exs.map AS).length<=1000:=by rw[Ag];omega
 have hlen:∀x∈exs.map AS,∃e:Str×Str,x=AS e/\e.1.length<=1000:=λx hm=>by
  obtain⟨e,hm',rfl⟩:=Aw.mp hm;exact⟨e,rfl,by have:=(hx e hm').2.1;omega⟩
 refine BD (λρ L'=>L'=L++[.lst ((fE l exs).map AS)]/\ρ=[some (.ref kd),some (.ref w),some l,some (.ref ex),some (.ref L.length),none]) ?_ ?_
 .rfl';refine JP (f:=Ld (DF l)) (λx hm L'=>?_) he hml ?_
  .obtain⟨e,rfl,hy⟩:=hlen x hm;rw[show AS e=.tup [.str e.1,.str e.2] from rfl];rfl';refine XW hk hy ?_;exact⟨_,rfl,rfl,rfl⟩
  .rw[OT];exact⟨rfl,rfl⟩
 rintro ρ L1 ⟨rfl,rfl⟩;have he1:(L++[Ob.lst ((fE l exs).map AS)])[ex]?=some (.lst (exs.map AS)):=AU he;refine BD (λρ L'=>L'=L++[.lst ((fE l exs).map AS)]++[.lst ((nE l exs).map AS)]/\ρ=[some (.ref kd),some (.ref w),some l,some (.ref ex),some (.ref L.length),some (.ref (L.length+1))]) ?_ ?_
 .rfl';refine JP (f:=Ld λy=>!DF l y) (λx hm L'=>?_) he1 hml ?_
  .obtain⟨e,rfl,hy⟩:=hlen x hm;rw[show AS e=.tup [.str e.1,.str e.2] from rfl];rfl';refine XW hk hy ?_;exact⟨_,rfl,rfl,rfl⟩
  .rw[OT];exact⟨rfl,by rw[Bc];rfl⟩
 rintro ρ L2 ⟨rfl,rfl⟩;have p2:L <+: L++[Ob.lst ((fE l exs).map AS)]++[Ob.lst ((nE l exs).map AS)]:=by rw[AK3];exact Aj _ _
 have g1:(L++[Ob.lst ((fE l exs).map AS)]++[Ob.lst ((nE l exs).map AS)])[L.length]?=some (.lst ((fE l exs).map AS)):=AU AR
 have g2:(L++[Ob.lst ((fE l exs).map AS)]++[Ob.lst ((nE l exs).map AS)])[L.length+1]?=some (.lst ((nE l exs).map AS)):=by have:=AR (L:=L++[Ob.lst ((fE l exs).map AS)]) (a:=Ob.lst ((nE l exs).map AS));rw[Bc] at this;exact this
 generalize L++[Ob.lst ((fE l exs).map AS)]++[Ob.lst ((nE l exs).map AS)]=L2 at p2 g1 g2 ⊢;obtain⟨ep,hat⟩:=hd.at_;have hkd:=Bs hat;have hd2:DT S kd L2 ws es:=hd.pre p2
 have notk:∀{L:AB} {es:List (Ay×Nat)} {j:Nat} {xs:List D},DT S kd L ws es->L[j]?=some (.lst xs)->j∉[kd]:=λ{L es j xs} hd h hm=>by
  obtain⟨ep,hat⟩:=hd.at_;have:j=kd:=by simpa using hm
  rw[this,hat] at h;cases h
 rfl';refine Sk hd2 (by omega) (BP p2 hw) hl g1 (hx.fil _) (AK1 (AKw _ _) (by omega)) λL3 es3 t k3 hd3 hl3 T3=>?_;rfl';have g3:=k3.get (notk hd2 g2) g2;have hw3:=k3.get (notk hd2 (BP p2 hw)) (BP p2 hw);refine Sk hd3 (by omega) hw3 hl g3 (hx.fil _) (AK1 (AKw _ _) (by omega)) λL4 es4 t' k4 hd4 hl4 T4=>?_;have hkd3:kd<L3.length:=Bm (Bm hkd p2.length_le) k3.1;have hkd4:kd<L4.length:=Bm hkd3 k4.1;rfl';refine AGM AR ⟨rfl,?_⟩;have es1:(L4++[Ob.ins AML []]).set L4.length (.ins AML [(AMP,l),(AMK,.ref t),(AMV,.ref t')])=L4++[.ins AML [(AMP,l),(AMK,.ref t),(AMV,.ref t')]]:=by simp
 rw[es1];have p5:L4 <+: L4++[Ob.ins AML [(AMP,l),(AMK,.ref t),(AMV,.ref t')]]:=Aj _ _;obtain⟨ep4,hat4⟩:=hd4.at_;refine⟨rfl,h _ es4 L4.length t t' ((Ad.of_pre p2).trans ((k3.trans k4).trans (.of_pre p5))) (hd4.pre p5) (by omega) AR ((CC.keep T3 k4 hkd3 hd.hS).pre p5) (T4.pre p5)⟩
abbrev wayE(ws:AMB)(exs:Ay)(l:D):Nat:=cE ws (fE l exs)*cE ws (nE l exs)
abbrev leftE(ws:AMB)(exs:Ay)(ls:List D):Nat:=cE ws exs+(ls.map (wayE ws exs)).sum
abbrev KM(L:AB)(ws:AMB)(exs:Ay)(l:D)(c:Nat):Prop:=∃t t',L[c]?=some (.ins AML [(AMP,l),(AMK,.ref t),(AMV,.ref t')])/\Gp L t ws (gE ws (fE l exs)) (wE (fE l exs))/\Gp L t' ws (gE ws (nE l exs)) (wE (nE l exs))
abbrev IG(L:AB)(ws:AMB)(exs:Ay)(ls:List D)(k:Nat):Prop:=∃(t ch:Nat) (cs:AMG),L[k]?=some (.ins AMN [(AMK,.ref t),(AMU,.ref ch)])/\L[ch]?=some (.lst (cs.map .ref))/\Gp L t ws (gE ws exs) (wE exs)/\Paired (KM L ws exs) ls cs
def KM.pre{L L':AB}{ws:AMB}{exs:Ay}{l:D}{c:Nat}(h:KM L ws exs l c)(p:L <+: L'):KM L' ws exs l c:=by obtain⟨t,t',h1,h2,h3⟩:=h;exact⟨t,t',BP p h1,h2.pre p,h3.pre p⟩
def IG.pre{L L':AB}{ws:AMB}{exs:Ay}{ls:List D}{k:Nat}(h:IG L ws exs ls k)(p:L <+: L'):IG L' ws exs ls k:=by obtain⟨t,ch,cs,h1,h2,h3,h4⟩:=h;exact⟨t,ch,cs,BP p h1,BP p h2,h3.pre p,JY h4 λ_ _ q=>q.pre p⟩
abbrev Gw(S:AMG)(L:AB)(ws:AMB)(exs:Ay)(l:D)(c:Nat):Prop:=∃t t',L[c]?=some (.ins AML [(AMP,l),(AMK,.ref t),(AMV,.ref t')])/\Tb S L ws (fE l exs) t/\Tb S L ws (nE l exs) t'
def Gw.keep{S:AMG}{kd:Nat}{L L':AB}{ws:AMB}{exs:Ay}{l:D}{c ep:Nat}{kvs:List (NK×D)}(h:Gw S L ws exs l c)(k:Ad [kd] L L')(hd:L[kd]?=some (.dt kvs ep))(hS:kd∈S):Gw S L' ws exs l c:=by
 obtain⟨t,t',h1,h2,h3⟩:=h;have hlt:=Bs hd;refine⟨t,t',k.get (λhm=>?_) h1,CC.keep h2 k hlt hS,CC.keep h3 k hlt hS⟩;have:c=kd:=by simpa using hm
 rw[this,hd] at h1;cases h1
def Gw.set{S:AMG}{a:Nat}{L:AB}{ws:AMB}{exs:Ay}{l:D}{c:Nat}{xs:List D}(h:Gw S L ws exs l c)(ha:L[a]?=some (.lst xs))(hS:a∈S)(o:Ob):Gw S (L.set a o) ws exs l c:=by obtain⟨t,t',h1,h2,h3⟩:=h;exact⟨t,t',FE (λe=>by rw[<-e,ha] at h1;cases h1) h1,CC.set h2 hS o,CC.set h3 hS o⟩
def Gw.at_{S:AMG}{L:AB}{ws:AMB}{exs:Ay}{l:D}{c:Nat}(h:Gw S L ws exs l c):KM L ws exs l c:=by obtain⟨t,t',h1,h2,h3⟩:=h;exact⟨t,t',h1,CC.tab h2,CC.tab h3⟩
def AEf{Q:AMo}{L:AB}{k:Nat}{a b:D}(hk:L[k]?=some (.ins AMN []))(h:Q .non (L.set k (.ins AMN [(AMK,a),(AMU,b)]))):W2 (Kr [.ref k,a,b] L) Q:=by unfold Kr;refine Uc rfl ?_;unfold Ps;have e1:(L.set k (.ins AMN (DP AMK a [])))[k]?=some (.ins AMN [(AMK,a)]):=CB hk;rfl';rw[List.set_set];exact⟨by rw[Fl],h⟩
def AEg{Q:AMo}{L:AB}{w lk ex:Nat}{ws:AMB}{exs:Ay}{ls:List D}(hw:L[w]?=some (.lst (ws.map D.str)))(hl:ws.length<=6)(hlk:L[lk]?=some (.lst ls))(hls:∀l∈ls,DV l)(hll:ls.length<=6)(he:L[ex]?=some (.lst (exs.map AS)))(hx:Ey exs)(hxl:exs.length<=6)
  (h:∀L2 k,L <+: L2->IG L2 ws exs ls k->Q (.ref k) L2):W2 (Ko [.ref w,.ref lk,.ref ex] L) Q:=by
 unfold Ko;refine EJ rfl ?_;unfold Pc;have hd1:DT [L.length] L.length (L++[Ob.dt [] 0]) ws []:=⟨⟨0,AR⟩,by simp,λe he=>(nomatch he),λa ha=>by rw[Fi.mp ha,Bc];exact ALT _,by simp⟩;have old:∀{S:AB} {j:Nat} {o:Ob},L[j]?=some o->Ad [L.length] (L++[Ob.dt [] 0]) S->S[j]?=some o:=λ{S j o} h k=>k.get (λhm=>by have:=Bs h;have e:j=L.length:=(by simpa using hm);omega) (AU h);rfl';refine Sk hd1 (by decide) (AU hw) hl (AU he) hx (by omega) λL2 es2 t k2 hd2 hl2 T2=>?_;have hlk2:=old hlk k2;have hl2':es2.length<=1:=hl2;obtain⟨ep2,hat2⟩:=hd2.at_;have hL2:L.length<L2.length:=Bs hat2;rfl';refine FS (I:=λj ρ L3=>(∃a,ρ=[a,some (.ref L.length),some (.ref w),some (.ref ex)])/\∃es3 cs,Ad [L.length] (L++[Ob.dt [] 0]) L3/\DT [L.length,L2.length] L.length L3 ws es3/\es3.length<=1+2*j/\L3[L2.length]?=some (.lst (cs.map .ref))/\Tb [L.length,L2.length] L3 ws exs t/\Paired (Gw [L.length,L2.length] L3 ws exs) (ls.take j) cs) _ 0 _ _ ?_ ?_ ?_
 .have p3:L2 <+: L2++[Ob.lst []]:=Aj _ _
  have more:∀{x:Ay} {u:Nat},Tb [L.length] L2 ws x u->Tb [L.length,L2.length] (L2++[Ob.lst []]) ws x u:=λ{x u} T=>(CC.more T λy hy=>by
   simp only[AW,DK,or_false] at hy;rcases hy with rfl|rfl
   .exact .inl (by simp)
   .exact .inr (Ac _)).pre p3
  refine⟨⟨none,rfl⟩,es2,[],k2.trans (.of_pre p3),⟨⟨ep2,BP p3 hat2⟩,hd2.kn,λe hm=>more (hd2.tb e hm),λa ha=>?_,by simp⟩,hl2',AR,more T2,.nil⟩;simp only[AW,DK,or_false] at ha;rw[Bc];rcases ha with rfl|rfl
  .exact ALd hL2
  .exact ALT _
 .rintro i x ρ L3 hx0 ⟨⟨a,rfl⟩,es3,cs,k3,hd3,hl3,hA,T3,pc⟩;have hi:i<ls.length:=(BA.mp hx0).1;refine⟨decide_eq_true (old hlk k3),?_⟩;rfl';refine AGN hd3 (by omega) (old hw k3) hl (old he k3) hx hxl (hls x (Bv hx0)) λL4 es4 c t1 t2 k4 hd4 hl4 hc U1 U2=>?_;obtain⟨ep3,hat3⟩:=hd3.at_;obtain⟨ep4,hat4⟩:=hd4.at_;have hA4:=k4.get (λhm=>by have e:L2.length=L.length:=(by simpa using hm);omega) hA;have hS:L2.length∈[L.length,L2.length]:=by simp
  have hpl:cs.length=(ls.take (0+i)).length:=(Paired.length pc).symm;have htk:ls.take (0+i+1)=ls.take (0+i)++[x]:=by rw[Bh,GV,hx0];rfl
  have er:(cs++[c]).map D.ref=cs.map D.ref++[.ref c]:=by rw[Co];rfl
  refine⟨_,hA4,by rw[Ag,hpl,FP];omega,⟨_,rfl⟩,es4,cs++[c],(k3.trans k4).set (.inr k2.1),⟨⟨ep4,FE (FN hL2) hat4⟩,hd4.kn,λe hm=>CC.set (hd4.tb e hm) hS _,λa ha=>by rw[Fl];exact hd4.lt a ha,hd4.hS⟩,by omega,by rw[er];exact CB hA4,CC.set (CC.keep T3 k4 (Bs hat3) hd3.hS) hS _,?_⟩;rw[htk];exact WL (JY pc λ_ _ q=>(q.keep k4 hat3 hd3.hS).set hA4 hS _) (Gw.set ⟨t1,t2,hc,U1,U2⟩ hA4 hS _)
 .rintro ρ L3 ⟨_,es3,cs,k3,hd3,hl3,hA,T3,pc⟩;refine⟨decide_eq_true (old hlk k3),?_⟩;rfl';refine AEf AR ⟨rfl,?_⟩;have es1:(L3++[Ob.ins AMN []]).set L3.length (.ins AMN [(AMK,.ref t),(AMU,.ref L2.length)])=L3++[.ins AMN [(AMK,.ref t),(AMU,.ref L2.length)]]:=by simp
  rw[es1];have p5:L3 <+: L3++[Ob.ins AMN [(AMK,.ref t),(AMU,.ref L2.length)]]:=Aj _ _
  have pL:L <+: L3:=by refine Ad.pre ⟨Bu (by simp) k3.1,λj hj _=>?_⟩;rw[k3.2 j (by rw[Bc];omega) (λhm=>by have e:j=L.length:=(by simpa using hm);omega),Dx hj]
  rw[Bh,Ee] at pc;exact⟨rfl,h _ L3.length (pL.trans p5) ⟨t,L2.length,cs,AR,AU hA,CC.tab (T3.pre p5),JY pc λ_ _ q=>(q.at_).pre p5⟩⟩
def WM{α β:Type}{R:α->β->Prop}{xs:List α}{ys:List β}(h:Paired R xs ys){i:Nat}{y:β}(e:ys[i]?=some y):∃x,xs[i]?=some x/\R x y:=by
 induction h generalizing i with
 |nil=>simp at e
 |cons r _ ih =>
  cases i with
  |zero=>simp at e;subst e;exact⟨_,rfl,r⟩
  |succ i=>obtain⟨x,h1,h2⟩:=ih (i:=i) (by simpa using e);exact⟨x,by simpa using h1,h2⟩
def Oc{ws:AMB}(hl:ws.length<=6)(exs:Ay):Builtin.Int.intBits ((cE ws exs:Nat):Int)<=110:=Yg (by rw[Int.natAbs_natCast];exact AD4 hl _ _ _)
section
variable {Q:AMo}{L:AB}{ws:AMB}{exs:Ay}{ls:List D}{l:D}{c k:Nat}
def UZ(hc:KM L ws exs l c)(hl:ws.length<=6)(h:Q (.int (wayE ws exs l:Int)) L):W2 (zo [.ref c] L) Q:=by
 obtain⟨t,t',h1,T1,T2⟩:=hc;unfold zo;refine CG rfl ?_;unfold PU;rfl';refine IX T1 ?_;rfl';refine IX T2 ?_;rfl';refine Ek (Nv (Oc hl (fE l exs)) (Oc hl (nE l exs)) (by decide)) ?_;refine⟨rfl,An _,?_⟩
 have e:((Fv (gE ws (fE l exs)) (wE (fE l exs)):Nat):Int)*((Fv (gE ws (nE l exs)) (wE (nE l exs)):Nat):Int)=((wayE ws exs l:Nat):Int):=by unfold wayE cE;rw[Int.natCast_mul]
 rw[e];exact h
def Wv(hk:IG L ws exs ls k)(hl:ws.length<=6)(hll:ls.length<=6)(h:Q (.int (leftE ws exs ls:Int)) L):W2 (JE [.ref k] L) Q:=by
 obtain⟨t,ch,cs,h1,h2,T,pc⟩:=hk;unfold JE;refine CG rfl ?_;unfold PN;have hcl:cs.length=ls.length:=(Paired.length pc).symm;rfl';refine IX T ?_;rfl';refine FS (I:=λj ρ L'=>(∃a,ρ=[a])/\L'=L++[.lst ((ls.take j).map λl=>D.int (wayE ws exs l:Int))]) _ 0 _ _ ⟨⟨none,rfl⟩,rfl⟩ ?_ ?_
 .rintro i x ρ L' hx ⟨⟨a,rfl⟩,rfl⟩;refine⟨decide_eq_true (AU h2),?_⟩;rw[Av] at hx;obtain⟨c,hc,hx⟩:=mS hx;cases hx;obtain⟨l,hl1,hl2⟩:=WM pc hc;have htk:ls.take (0+i+1)=ls.take (0+i)++[l]:=by rw[Bh,GV,hl1];rfl
  rfl';refine UZ (hl2.pre (Aj _ _)) hl ?_;refine⟨_,AR,by rw[Ag,FP];omega,⟨_,rfl⟩,?_⟩;rw[htk,Co];simp
 .rintro ρ L' ⟨⟨a,rfl⟩,rfl⟩;refine⟨decide_eq_true (AU h2),?_⟩;rw[Bh,Ag,hcl,Ee];have e1:(ls.map λl=>D.int ((wayE ws exs l:Nat):Int))=(ls.map λl=>((wayE ws exs l:Nat):Int)).map D.int:=by rw[Bz];rfl
  rw[e1];rfl';refine Xf AR (AEs _) ?_;rfl';refine⟨rfl,Aj _ _,?_⟩
  have e2:∀ls:List D,(ls.map λl=>((wayE ws exs l:Nat):Int)).sum=(((ls.map (wayE ws exs)).sum:Nat):Int):=λls=>by
   induction ls with
   |nil=>rfl
   |cons x r ih=>rw[Ah,Ah,EI,EI,ih,ALQ]
  rw[e2]
  have e3:((Fv (gE ws exs) (wE exs):Nat):Int)+(((ls.map (wayE ws exs)).sum:Nat):Int)=((leftE ws exs ls:Nat):Int):=by unfold leftE cE;rw[ALQ]
  rw[e3];exact h
def UY{o:Option EC}{r:Fm}{M:AB}(h:WS o (λρ L'=>ρ=r/\L'=M) (λ_ _=>False) (λ_ _=>False) (λ_ _=>False)):o=some (.next r M):=by
 obtain⟨x,e,q⟩:=h
 cases x with
 |next ρ L'=>obtain⟨rfl,rfl⟩:=q;exact e
 |ret d L'=>exact q.elim
 |brk ρ L'=>exact q.elim
 |cont ρ L'=>exact q.elim
def AAa{o:Option EC}{M:AB}(h:WS o (λ_ L'=>L'=M) (λ_ _=>False) (λ_ _=>False) (λ_ _=>False)):∃r,o=some (.next r M):=by
 obtain⟨x,e,q⟩:=h
 cases x with
 |next ρ L'=>have q:L'=M:=q;subst q;exact⟨ρ,e⟩
 |ret d L'=>exact q.elim
 |brk ρ L'=>exact q.elim
 |cont ρ L'=>exact q.elim
def Ud{α:Type}{o:Option (α×AB)}{x:α}{M:AB}(h:W2 o λb L'=>b=x/\L'=M):o=some (x,M):=by obtain⟨b,L',e,rfl,rfl⟩:=h;exact e
def ABV(f:D->Nat)(ls:List D){i:Nat}{l:D}(h:ls[i]?=some l):((ls.take i).map f).sum+f l<=(ls.map f).sum:=by
 have e:ls=ls.take i++l::ls.drop (i+1):=by obtain⟨h1,h2⟩:=BA.mp h;rw[<-h2,List.getElem_cons_drop,ALa]
 have h2:(ls.map f).sum=((ls.take i).map f).sum+(f l+((ls.drop (i+1)).map f).sum):=by
  conv=>lhs;rw[e]
  rw[Co,List.sum_append,Ah,EI]
 omega
def ACg(hk:IG L ws exs ls k)(hl:ws.length<=6){z:Int}(hz:z<0\/((leftE ws exs ls:Nat):Int)<=z):IJ [.ref k,.int z] L=none/\JC [.ref k,.int z] L=some ((AMQ:Str),L):=by
 obtain⟨t,ch,cs,h1,h2,T,pc⟩:=hk;have hcl:cs.length=ls.length:=(Paired.length pc).symm;have bad:=λh=>AB6 (z:=z) T h;unfold IJ JC MM PC
 have e1:AL 2 (AJ ze (AA (As (BE [AML,AMN] AMK) (var 0)) AD)) (CU HU [.ref k,.int z]) L=some (.next [some (.ref k),some (.int z),some (.int ((cE ws exs:Nat):Int)),none,none] L):=UY (by
  rfl';refine IX T ?_
  exact⟨rfl,rfl⟩)
 have e2:asT (bin2 gLt (var 1) (var 2)) [some (.ref k),some (.int z),some (.int ((cE ws exs:Nat):Int)),none,none] L=some (decide (z<((cE ws exs:Nat):Int)),L):=Ud (by
  rfl'
  exact⟨rfl,rfl⟩)
 have e3:AA (As (BE [AML,AMN] AMK) (var 0)) (AA (var 1) AD) [some (.ref k),some (.int z),some (.int ((cE ws exs:Nat):Int)),none,none] L=some ([.ref t,.int z],L):=Ud (by
  rfl'
  exact⟨rfl,rfl⟩)
 by_cases h0:z<0
 .have hb:decide (z<((cE ws exs:Nat):Int))=true:=decide_eq_true (by omega);rw[hb] at e2;obtain⟨b1,b2⟩:=bad (.inl h0);generalize AL 2 (AJ ze (AA (As (BE [AML,AMN] AMK) (var 0)) AD))=F1 at e1 ⊢;generalize asT (bin2 gLt (var 1) (var 2))=F2 at e2 ⊢;generalize AA (As (BE [AML,AMN] AMK) (var 0)) (AA (var 1) AD)=F3 at e3 ⊢;constructor
  .simp[Aa,AH,Af,e1,e2,AN,Bp,AA,AC,AJ,e3,b1]
  .simp[HB,FU,Hn,Af,e1,e2,Ft,NT,AC,OZ,e3,b2]
 .have hz':((leftE ws exs ls:Nat):Int)<=z:=by omega
  have hle:((cE ws exs:Nat):Int)+(((ls.map (wayE ws exs)).sum:Nat):Int)<=z:=by
   have:((leftE ws exs ls:Nat):Int)=((cE ws exs:Nat):Int)+(((ls.map (wayE ws exs)).sum:Nat):Int):=by unfold leftE;rw[ALQ]
   omega
  have hb:decide (z<((cE ws exs:Nat):Int))=false:=decide_eq_false (by omega);rw[hb] at e2
  have e4:augN 1 (λi j=>i-j) (var 2) [some (.ref k),some (.int z),some (.int ((cE ws exs:Nat):Int)),none,none] L=some (.next [some (.ref k),some (.int (z-((cE ws exs:Nat):Int))),some (.int ((cE ws exs:Nat):Int)),none,none] L):=UY (by
   rfl'
   exact⟨rfl,rfl⟩)
  obtain⟨r5,e5⟩:∃r,Bg (BG (As (BE [AMN] AMU) (var 0))) (Ab 3) (AH (AL 4 (AJ zo (AA (var 3) AD))) (AH (Af (asT (bin2 gLt (var 1) (var 4))) (AN (AJ JD (AA (var 3) (AA (var 1) AD)))) Ak) (augN 1 (λi j=>i-j) (var 4)))) [some (.ref k),some (.int (z-((cE ws exs:Nat):Int))),some (.int ((cE ws exs:Nat):Int)),none,none] L=some (.next r L):=AAa (by
   rfl';refine Cu (λj ρ L'=>L'=L/\∃a b,ρ=[some (.ref k),some (.int (z-((cE ws exs:Nat):Int)-((((ls.take j).map (wayE ws exs)).sum:Nat):Int))),some (.int ((cE ws exs:Nat):Int)),a,b]) _ 0 _ _ ⟨rfl,none,none,by simp⟩ ?_ ?_
   .rintro i x ρ L' hx ⟨rfl,a,b,rfl⟩;refine⟨decide_eq_true h2,?_⟩;rw[Av] at hx;obtain⟨c,hc,hx⟩:=mS hx;cases hx;obtain⟨l,hl1,hl2⟩:=WM pc hc;have hst:=ABV (wayE ws exs) ls hl1;have htk:ls.take (0+i+1)=ls.take (0+i)++[l]:=by rw[Bh,GV,hl1];rfl
    have hs2:((ls.take (0+i+1)).map (wayE ws exs)).sum=((ls.take (0+i)).map (wayE ws exs)).sum+wayE ws exs l:=by rw[htk,Co,List.sum_append];simp
    rw[Bh] at hs2 ⊢;rfl';refine UZ hl2 hl ?_;rfl';refine⟨rfl,some (.ref c),some (.int ((wayE ws exs l:Nat):Int)),?_⟩;have e6:z-((cE ws exs:Nat):Int)-((((ls.take i).map (wayE ws exs)).sum:Nat):Int)-((wayE ws exs l:Nat):Int)=z-((cE ws exs:Nat):Int)-((((ls.take (i+1)).map (wayE ws exs)).sum:Nat):Int):=by rw[hs2,ALQ];omega
    rw[e6];rfl
   .rintro ρ L' ⟨rfl,a,b,rfl⟩
    exact⟨decide_eq_true h2,rfl⟩)
  generalize AL 2 (AJ ze (AA (As (BE [AML,AMN] AMK) (var 0)) AD))=F1 at e1 ⊢;generalize asT (bin2 gLt (var 1) (var 2))=F2 at e2 ⊢;generalize augN 1 (λi j=>i-j) (var 2)=F4 at e4 ⊢;generalize Bg (BG (As (BE [AMN] AMU) (var 0))) (Ab 3) (AH (AL 4 (AJ zo (AA (var 3) AD))) (AH (Af (asT (bin2 gLt (var 1) (var 4))) (AN (AJ JD (AA (var 3) (AA (var 1) AD)))) Ak) (augN 1 (λi j=>i-j) (var 4))))=F5 at e5 ⊢;constructor
  .simp[Aa,AH,Af,e1,e2,Ak,e4,e5,FW]
  .simp[HB,FU,Hn,Af,e1,e2,Ak,Ft,e4,e5,IU]
end
def AFF{Q:AMo}{L:AB}{k:Nat}{ys:List D}{x:D}{b:Bool}(e:L[k]?=some (.lst ys))(e2:anyO (ys.map λz=>CP 30 L z x)=some b)(h:Q (.bl (!b)) L):W2 (Ij x (.ref k) L) Q:=⟨_,_,by unfold Ij;simp only[e,e2,ALN],h⟩
def Wn{L:AB}{x:D}(hx:DV x):∀{ls:List D},(∀l∈ls,DV l)->∃b,anyO (ls.map λz=>CP 30 L z x)=some b
 |[],_=>⟨false,rfl⟩
 |z::r,h=>by
  obtain⟨b,e⟩:=Wn hx λl hl=>h l (Az _ hl);obtain⟨w,k,rfl,_⟩:=hx;obtain⟨w',k',rfl,_⟩:=h z BC;obtain⟨c,hc⟩:∃c,CP 30 L (.tup [.str w',.str k']) (.tup [.str w,.str k])=some c:=⟨_,rfl⟩;refine⟨c || b,?_⟩;rw[Ah,hc];show(anyO (r.map λz=>CP 30 L z (.tup [.str w,.str k]))).map (c || ·)=_;rw[e];rfl
def AEG{Q:AMo}{L:AB}(c:Int)(q:∀ls L',(∀l∈ls,DV l)->ls.length<=3->L <+: L'->L'[L.length]?=some (.lst ls)->Q (.ref L.length) L'):W2 (Ki [.int c] L) Q:=by
 unfold Ki;refine EJ rfl ?_;unfold Qa;have m4:=GW c (b:=4) (by decide);have m4':=GY c (b:=4) (by decide);rfl';refine Cu (λj ρ L'=>∃(ls:List D) (p:Int) (a b d:Option D),ρ=[some (.int c),some (.ref L.length),some (.int p),a,b,d]/\Ca L.length (L++[.lst []]) L'/\L'[L.length]?=some (.lst ls)/\(∀l∈ls,DV l)/\ls.length<=j/\(0<j->ls≠[])) _ 0 _ _ ⟨[],_,none,none,none,rfl,.refl _ _,AR,λ_ h=>(nomatch h),Ac _,λh=>absurd h (Fh _)⟩ ?_ ?_
 .rintro i x ρ L' hx ⟨ls,p,a,b,d,rfl,hkp,hg,hls,hl,hne⟩;obtain⟨hi,rfl⟩:=Ky hx;refine⟨rfl,RF ?_⟩
  have hh:∀d∈([.str "has",.str "begins"]:List D),∃s:Str,d=.str s/\(s = "has"\/s = "begins"):=λd hd=>by
   simp only[AW,DK,or_false] at hd;rcases hd with rfl|rfl
   .exact⟨_,rfl,.inl rfl⟩
   .exact⟨_,rfl,.inr rfl⟩
  refine BD (λρ L2=>Ca L.length (L++[.lst []]) L2/\L2[L.length]?=some (.lst ls)/\∃k:Str,k∈([("small":Str),"great","figure","mark","any"]:AMB)/\ρ=[some (.int c),some (.ref L.length),some (.int p),some (.int (0+(i:Int))),some (.str k),d]) ?_ ?_
  .rfl';refine Ej _ AR (by decide) (by decide) λd2 hd2=>?_
   have h2:∃s:Str,d2=.str s/\s∈([("small":Str),"great","figure","mark","any"]:AMB):=by simp only[AW,DK,or_false] at hd2;rcases hd2 with rfl|rfl|rfl|rfl|rfl <;> exact⟨_,rfl,by decide +kernel⟩
   obtain⟨k,rfl,hk⟩:=h2;exact⟨hkp.trans (.app _ _ _),AU hg,k,hk,rfl⟩
  rintro ρ L2 ⟨hkp2,hg2,k,hk,rfl⟩;refine BD (λρ L3=>Ca L.length (L++[.lst []]) L3/\L3[L.length]?=some (.lst ls)/\∃l:D,DV l/\ρ=[some (.int c),some (.ref L.length),some (.int p),some (.int (0+(i:Int))),some (.str k),some l]) ?_ ?_
  .rfl';refine Ej _ AR (by decide) (by decide) λd2 hd2=>?_;obtain⟨s,rfl,hs⟩:=hh d2 hd2;rfl';exact⟨hkp2.trans (.app _ _ _),AU hg2,_,⟨s,k,rfl,hs,hk⟩,rfl⟩
  rintro ρ L3 ⟨hkp3,hg3,l,hl1,rfl⟩;refine BD (λρ L4=>Ca L.length (L++[.lst []]) L4/\L4[L.length]?=some (.lst ls)/\∃l:D,DV l/\ρ=[some (.int c),some (.ref L.length),some (.int p),some (.int (0+(i:Int))),some (.str k),some l]) ?_ ?_
  .rfl';refine BU (λh1=>?_) (λh1=>?_)
   .rfl';refine BU (λh2=>?_) (λh2=>?_)
    .have hi0:0<0+i:=by omega
     have hne:=hne hi0
     obtain⟨l0,r,rfl⟩:∃l0 r,ls=l0::r:=by
      cases ls with
      |nil=>exact absurd rfl hne
      |cons x r=>exact⟨x,r,rfl⟩
     obtain⟨w0,k0,rfl,hw0,hk0⟩:=hls l0 BC;have h00:atI (.tup [.str w0,.str k0]::r:List D) 0=some (.tup [.str w0,.str k0]):=Gm (j:=0) rfl;rfl';refine EQ (AU hg3) h00 ?_;rfl'
     obtain⟨s,hs1,hs2⟩:∃s:Str,atI ([.str "has",.str "begins"]:List D) (if decide (w0 = "has")=true then 1 else 0)=some (.str s)/\(s = "has"\/s = "begins"):=by
      cases decide (w0 = "has") with
      |true=>exact⟨"begins",rfl,.inr rfl⟩
      |false=>exact⟨"has",rfl,.inl rfl⟩
     refine EQ AR hs1 ?_;rfl';refine EQ (AU hg3) h00 ?_;rfl';exact⟨hkp3.trans (.app _ _ _),AU hg3,_,⟨s,k0,rfl,hs2,hk0⟩,rfl⟩
    .rfl';exact⟨hkp3,hg3,l,hl1,rfl⟩
   .rfl';exact⟨hkp3,hg3,l,hl1,rfl⟩
  rintro ρ L4 ⟨hkp4,hg4,l,hl1,rfl⟩;obtain⟨bb,hbb⟩:=Wn (L:=L4) hl1 hls;rfl';refine AFF hg4 hbb ?_
  cases bb with
  |false =>
   rfl';refine HG hg4 (by omega) ?_;rfl';refine⟨ls++[l],_,_,_,_,rfl,hkp4.trans (.set _ _ _),?_,λy hy=>?_,by simp;omega,λ_=>by simp⟩
   .rw[CB hg4]
   .rcases CF.mp hy with h|h
    .exact hls y h
    .have:y=l:=by simpa using h
     rw[this];exact hl1
  |true =>
   rfl';refine⟨ls,_,_,_,_,rfl,hkp4,hg4,hls,by omega,λ_ z=>?_⟩;subst z;cases hbb
 .rintro ρ L' ⟨ls,p,a,b,d,rfl,hkp,hg,hls,hl,hne⟩;refine⟨rfl,?_⟩;rw[Gb] at hl;rfl';refine⟨rfl,q ls L' hls (by omega) (Ry hkp) hg⟩
abbrev Iv(ws ts:AMB)(p:D):Prop:=(∃ps,p=.tup [.str "do",.tup ps]/\HP ws ts ps)\/(∃l ps qs,p=.tup [.str "if",l,.tup ps,.tup qs]/\DV l/\HP ws (ts.filter (DF l)) ps/\HP ws (ts.filter λy=>!DF l y) qs)
def HP.noRef{ws ts:AMB}{ps:List D}(h:HP ws ts ps)(hw:Er ws):(D.tup ps).noRef=true:=Rm λp hp=>((h.1 p hp).piece hw).noRef
def Iv.noRef{ws ts:AMB}{p:D}(h:Iv ws ts p)(hw:Er ws):p.noRef=true:=by
 rcases h with⟨ps,rfl,h⟩|⟨l,ps,qs,rfl,hl,h1,h2⟩
 .have:=h.noRef hw;show(true&&((D.tup ps).noRef&&true))=true;rw[this];rfl
 .show(true&&(l.noRef&&((D.tup ps).noRef&&((D.tup qs).noRef&&true))))=true;rw[hl.noRef,h1.noRef hw,h2.noRef hw];rfl
abbrev RO(g:Str->Bool)(x:D):Bool:=match x with|.str y=>g y|_=>false
def YA(g:Str->Bool)(ts:AMB):(ts.map D.str).filter (RO g)=(ts.filter g).map D.str:=by rw[List.filter_map];rfl
def AFD{Q:AMo}{L:AB}(h:Q (.int 10000000000000000000) L):W2 (Fz (.int 10) (.int 19) L) Q:=SQ (by decide) (by have e:(10:Int) ^ (19:Int).toNat=10000000000000000000:=(by decide);(rw[e];exact h))
def AEE{Q:AMo}{L:AB}{kw kl kt:Nat}{ws ts:AMB}{ls:List D}(c:Int)(hkw:L[kw]?=some (.lst (ws.map D.str)))(hkl:L[kl]?=some (.lst ls))(hls:∀l∈ls,DV l)(hkt:L[kt]?=some (.lst (ts.map D.str)))(hws:Er ws)(hts:EA ts)(hl6:ts.length<=6)(hne:ws≠[]\/∀y∈ts,y≠"")
  (q:∀p,Iv ws ts p->Q p L):W2 (Kf [.int c,.ref kw,.ref kl,.ref kt] L) Q:=by
 unfold Kf;refine CG rfl ?_;unfold Pt;have hsub:∀g:Str->Bool,EA (ts.filter g)/\(ts.filter g).length<=1000/\(ws≠[]\/∀y∈ts.filter g,y≠""):=λg=>⟨λy hy=>hts y (Fj.mp hy).1,Bu (AKw _ _) (by omega),hne.imp id λh y hy=>h y (Fj.mp hy).1⟩;have fin:∀{p:D} {L2:AB},Iv ws ts p->L <+: L2->p.noRef=true/\L <+: L2/\Q p L:=λ{p L2} h hp=>⟨h.noRef hws,hp,q p h⟩
 have doit:WS (AN (Bp (AA (AC (.str "do")) (AA (AJ zu (AA (bin2 BQ (var 0) (AC (.int 2))) (AA (var 1) (AA (var 3) AD)))) AD))) [some (.int c),some (.ref kw),some (.ref kl),some (.ref kt),none,none,none] L) (λρ' L'=>False) (λd L2=>d.noRef=true/\L <+: L2/\Q d L) (λ_ _=>False) (λ_ _=>False):=by rfl';refine Rq _ hkw hkt hws hts (by omega) hne λps hps=>?_;rfl';exact fin (.inl ⟨ps,rfl,hps⟩) (An _)
 refine BD (λρ L'=>L'=L/\0<ls.length/\ρ=[some (.int c),some (.ref kw),some (.ref kl),some (.ref kt),none,none,none]) ?_ ?_
 .rfl';refine BU (λh1=>?_) (λh1=>?_)
  .exact doit.mono (λ_ _ h=>h.elim) (λ_ _ h=>h) (λ_ _ h=>h.elim) (λ_ _ h=>h.elim)
  .rfl';refine BU (λh2=>?_) (λh2=>?_)
   .exact doit.mono (λ_ _ h=>h.elim) (λ_ _ h=>h) (λ_ _ h=>h.elim) (λ_ _ h=>h.elim)
   .rfl';exact⟨rfl,by omega,rfl⟩
 rintro ρ L' ⟨hL',hl0,rfl⟩;rw[hL'];clear hL' L';refine BD (λρ L'=>L'=L/\∃l,DV l/\ρ=[some (.int c),some (.ref kw),some (.ref kl),some (.ref kt),some l,none,none]) ?_ ?_
 .rfl';refine Ej _ hkl (by omega) (by omega) λl hl=>?_;exact⟨rfl,l,hls l hl,rfl⟩
 rintro ρ L' ⟨hL',l,hl,rfl⟩;rw[hL'];clear hL' L';have hml:(ts.map D.str).length<=1000:=by rw[Ag];omega
 refine BD (λρ L'=>L'=L++[.lst ((ts.filter (DF l)).map D.str)]/\ρ=[some (.int c),some (.ref kw),some (.ref kl),some (.ref kt),some l,some (.ref L.length),none]) ?_ ?_
 .rfl';refine JP (f:=RO (DF l)) (λx hm L'=>?_) hkt hml ?_
  .obtain⟨y,hy,rfl⟩:=Aw.mp hm;have hyt:=hts y hy;rfl';refine LK hl (by omega) hyt.1 ?_;exact⟨_,rfl,rfl,rfl⟩
  .rw[YA];exact⟨rfl,rfl⟩
 rintro ρ L' ⟨rfl,rfl⟩;refine BD (λρ L'=>L'=L++[.lst ((ts.filter (DF l)).map D.str)]++[.lst ((ts.filter λy=>!DF l y).map D.str)]/\ρ=[some (.int c),some (.ref kw),some (.ref kl),some (.ref kt),some l,some (.ref L.length),some (.ref (L.length+1))]) ?_ ?_
 .rfl';refine JP (f:=RO λy=>!DF l y) (λx hm L'=>?_) (AU hkt) hml ?_
  .obtain⟨y,hy,rfl⟩:=Aw.mp hm;have hyt:=hts y hy;rfl';refine LK hl (by omega) hyt.1 ?_;exact⟨_,rfl,rfl,rfl⟩
  .rw[YA];exact⟨rfl,by rw[Bc];rfl⟩
 rintro ρ L' ⟨rfl,rfl⟩;have p2:L <+: L++[Ob.lst ((ts.filter (DF l)).map D.str)]++[Ob.lst ((ts.filter λy=>!DF l y).map D.str)]:=by rw[AK3];exact Aj _ _
 have g1:(L++[Ob.lst ((ts.filter (DF l)).map D.str)]++[Ob.lst ((ts.filter λy=>!DF l y).map D.str)])[L.length]?=some (.lst ((ts.filter (DF l)).map D.str)):=AU AR
 have g2:(L++[Ob.lst ((ts.filter (DF l)).map D.str)]++[Ob.lst ((ts.filter λy=>!DF l y).map D.str)])[L.length+1]?=some (.lst ((ts.filter λy=>!DF l y).map D.str)):=by have:=AR (L:=L++[Ob.lst ((ts.filter (DF l)).map D.str)]) (a:=Ob.lst ((ts.filter λy=>!DF l y).map D.str));rw[Bc] at this;exact this
 generalize L++[Ob.lst ((ts.filter (DF l)).map D.str)]++[Ob.lst ((ts.filter λy=>!DF l y).map D.str)]=L2 at p2 g1 g2 ⊢;rfl';refine Rq _ (BP p2 hkw) g1 hws (hsub _).1 (hsub _).2.1 (hsub _).2.2 λps hps=>?_;rfl';refine AFD ?_;refine Ek (LH (by decide)) ?_;rfl';refine Rq _ (BP p2 hkw) g2 hws (hsub _).1 (hsub _).2.1 (hsub _).2.2 λqs hqs=>?_;rfl';exact fin (.inr ⟨l,ps,qs,rfl,hl,hps,hqs⟩) p2
abbrev tupL:D->List D
 |.tup ps=>ps
 |_=>[]
abbrev Hz(p:D)(y:Str):Str:=match p with
 |.tup [_,ps]=>ansOf (tupL ps) y
 |.tup [_,l,ps,qs]=>if DF l y=true then ansOf (tupL ps) y else ansOf (tupL qs) y
 |_=>""
def row_ans{ws ts:AMB}{ps:List D}{y:Str}(h:HP ws ts ps)(hw:Er ws)(hts:EA ts)(hy:y∈ts):JX y ps=.str (ansOf ps y)/\(ansOf ps y).length<=3000:=by
 obtain⟨a,e,hl⟩:=AB5 (by have:=hts y hy;omega) (hts y hy).1 (λp hp=>(h.1 p hp).piece hw) (λp hp=>h.2.1 p hp y hy) h.2.2.2;have:ansOf ps y=a:=by unfold ansOf;rw[e]
 rw[this];exact⟨e,hl⟩
def AEK{Q:AMo}{L:AB}{ws ts:AMB}{p:D}{y:Str}(h:Iv ws ts p)(hw:Er ws)(hts:EA ts)(hy:y∈ts)(q:(Hz p y).length<=3000->Q (.str (Hz p y)) L):W2 (Ke [p,.str y] L) Q:=by
 have hyt:=hts y hy;have row:∀{ts':AMB} {ps:List D} {Q:AMo} {L:AB},HP ws ts' ps->EA ts'->y∈ts'->((ansOf ps y).length<=3000->Q (.str (ansOf ps y)) L)->W2 (zw [.tup ps,.str y] L) Q:=λ{ts' ps Q L} hr ht hm hq=>AED (by omega) hyt.1 (λp hp=>(hr.1 p hp).piece hw) (by have:=hr.2.2.2;omega) (by rw[(row_ans hr hw ht hm).1];exact hq (row_ans hr hw ht hm).2);unfold Ke;refine CG rfl ?_;unfold Pg;rcases h with⟨ps,rfl,h⟩|⟨l,ps,qs,rfl,hl,h1,h2⟩
 .rfl';refine row h hts hy λhz=>?_;exact⟨rfl,An _,q hz⟩
 .rfl';refine LK hl (by omega) hyt.1 ?_;rfl';have hst:∀g:Str->Bool,EA (ts.filter g):=λg y hy=>hts y (Fj.mp hy).1
  cases hh:DF l y with
  |true =>
   have e:Hz (.tup [.str "if",l,.tup ps,.tup qs]) y=ansOf ps y:=by show(if DF l y=true then ansOf ps y else ansOf qs y)=_;rw[hh];rfl
   rw[e] at q;rfl';refine row h1 (hst _) (Fj.mpr ⟨hy,hh⟩) λhz=>?_;exact⟨rfl,An _,q hz⟩
  |false =>
   have e:Hz (.tup [.str "if",l,.tup ps,.tup qs]) y=ansOf qs y:=by show(if DF l y=true then ansOf ps y else ansOf qs y)=_;rw[hh];rfl
   rw[e] at q;rfl';refine row h2 (hst _) (Fj.mpr ⟨hy,by rw[hh];rfl⟩) λhz=>?_;exact⟨rfl,An _,q hz⟩
def AEJ{Q:AMo}{L:AB}{ws ts:AMB}{pr:D}{t:Nat}(c:Int)(htx:L[t]?=some (.lst (ts.map D.str)))(ht:EA ts)(hl:ts.length<=1000)(hpr:Iv ws ts pr)(hwk:Er ws)
  (q:∀exs:Ay,exs.map Prod.fst=ts->Ey exs->∀k L',L <+: L'->L'[k]?=some (.lst (exs.map AS))->Q (.ref k) L'):W2 (Kd [pr,.ref t,.int c] L) Q:=by
 have hans:∀y∈ts,(Hz pr y).length<=3000:=λy hy=>by
  rcases hpr with⟨ps,rfl,h⟩|⟨l,ps,qs,rfl,_,h1,h2⟩
  .exact(row_ans h hwk ht hy).2
  .have hst:∀g:Str->Bool,EA (ts.filter g):=λg y hy=>ht y (Fj.mp hy).1
   show(if DF l y=true then ansOf ps y else ansOf qs y).length<=3000
   cases hh:DF l y with
   |true=>exact(row_ans h1 hwk (hst _) (Fj.mpr ⟨hy,hh⟩)).2
   |false=>exact(row_ans h2 hwk (hst _) (Fj.mpr ⟨hy,by rw[hh];rfl⟩)).2
 unfold Kd;refine EJ rfl ?_;unfold Pd;refine BD (λρ L'=>L'=L++[Ob.lst ((ts.map λy=>(y,Hz pr y)).map AS)]/\ρ=[some pr,some (.ref t),some (.int c),some (.ref L.length),none,none,none,none]) ?_ ?_
 .rfl';refine FS (I:=λj ρ L2=>(∃a,ρ=[a,some pr])/\L2=L++[Ob.lst (((ts.take j).map λy=>(y,Hz pr y)).map AS)]) _ 0 _ _ ⟨⟨none,rfl⟩,rfl⟩ ?_ ?_
  .rintro i2 z ρ L2 hz ⟨⟨a,rfl⟩,rfl⟩;rw[Av] at hz;obtain⟨y,hy,hz⟩:=mS hz;cases hz;have hym:=Bv hy;have hyt:=ht y hym;have hi2:i2<ts.length:=(BA.mp hy).1;have htk:ts.take (0+i2+1)=ts.take (0+i2)++[y]:=by rw[Bh,GV,hy];rfl
   refine⟨decide_eq_true (AU htx),?_⟩;rfl';refine AEK hpr hwk ht hym λ_=>?_;rfl';refine⟨_,AR,by simp;omega,⟨_,rfl⟩,?_⟩;rw[htk];simp[AS]
  .rintro ρ L2 ⟨_,rfl⟩;refine⟨decide_eq_true (AU htx),?_⟩;rw[Bh,Ag,Ee];exact⟨rfl,rfl⟩
 rintro ρ L' ⟨rfl,rfl⟩;generalize hxs:(ts.map λy=>(y,Hz pr y))=exs;have hfst:exs.map Prod.fst=ts:=by rw[<-hxs,Bz];exact List.map_id ts
 have hok:∀e∈exs,Ar e.1/\e.1.length<=100/\e.2.length<=3000:=λe he=>by
  rw[<-hxs,Aw] at he;obtain⟨y,hy,rfl⟩:=he;exact⟨(ht y hy).1,(ht y hy).2,hans y hy⟩
 have hok':Ey exs:=λe he=>⟨(hok e he).1,(hok e he).2.1,by have:=(hok e he).2.2;omega⟩;have hxl:exs.length<=1000:=by rw[<-hxs];simpa using hl
 refine BD (λρ L2=>∃(k:Nat) (exs:Ay) (a b e f:Option D),L <+: L2/\L2[k]?=some (.lst (exs.map AS))/\exs.map Prod.fst=ts/\Ey exs/\ρ=[some pr,some (.ref t),some (.int c),some (.ref k),a,b,e,f]) ?_ ?_
 .have done:∀{p:Prop},p->p:=λh=>h;have keepIt:∃(k:Nat) (exs':Ay) (a b e f:Option D),L <+: (L++[Ob.lst (exs.map AS)])/\(L++[Ob.lst (exs.map AS)])[k]?=some (.lst (exs'.map AS))/\exs'.map Prod.fst=ts/\Ey exs'/\[some pr,some (.ref t),some (.int c),some (.ref L.length),none,none,none,none]=[some pr,some (.ref t),some (.int c),some (.ref k),a,b,e,f]:=⟨L.length,exs,none,none,none,none,Aj _ _,AR,hfst,hok',rfl⟩;rfl';refine BU (λh1=>?_) (λh1=>?_)
  .rfl';refine BU (λh2=>?_) (λh2=>?_)
   .have h2':0<exs.length:=by simpa using h2
    have hml:(((exs.map AS).length:Nat):Int)=exs.length:=by simp
    rfl';have a0:=GW (c / 4) (b:=((exs.map AS).length:Int)) (by omega);have a1:=GY (c / 4) (b:=((exs.map AS).length:Int)) (by omega);generalize hat:(c / 4 % ((exs.map AS).length:Int))=at0 at a0 a1 ⊢;obtain⟨n,rfl⟩:∃n:Nat,at0=(n:Int):=⟨at0.toNat,by omega⟩;have hlt:n<exs.length:=by omega
    obtain⟨ex,hex0⟩:∃ex,exs[n]?=some ex:=⟨exs[n],by simp[hlt]⟩
    have hsplit:exs=exs.take n++ex::exs.drop (n+1):=by obtain⟨h1,h2⟩:=BA.mp hex0;rw[<-h2,List.getElem_cons_drop,ALa]
    have ex0:atI (exs.map AS) (n:Int)=some (AS ex):=Gm (by rw[Av,hex0];rfl);have hex:=hok ex (Bv hex0);refine EQ AR ex0 ?_;rw[show AS ex=D.tup [.str ex.1,.str ex.2] from rfl];rfl';have ha1:(Str.ofString "a").length=1:=by decide
    have s1:=Txt.slice_le (ex.2++"a") none (some 72);have s2:=Txt.slice_le ex.2 none (some (-1));have s3:=Txt.slice_le ex.2 (some 1) none;have s4:=Txt.slice_le ex.2 none (some 1);rw[Oh,ha1] at s1;refine OO (by rw[ha1];omega) ?_;rfl';refine OO (by omega) ?_;rfl';refine Ej _ AR (by decide) (by simp) λd hd=>?_
    have hd':∃o:Str,d=.str o/\o.length<=10000:=by
     simp only[AW,DK,or_false] at hd;rcases hd with rfl|rfl|rfl|rfl
     .exact⟨_,rfl,by omega⟩
     .exact⟨_,rfl,by omega⟩
     .exact⟨_,rfl,by rw[Oh];omega⟩
     .exact⟨_,rfl,by decide⟩
    obtain⟨o,rfl,ho⟩:=hd';rfl';rw[AGB];refine Xn (by wtm_at "z_lk") AR (by simp;omega) ?_;rfl';have en1:((n:Int)+1)=((n+1:Nat):Int):=by omega
    rw[en1,AGE];refine Xn (by wtm_at "z_lk") AR (by simp;omega) ?_;refine⟨_,exs.take n++(ex.1,o)::exs.drop (n+1),_,_,_,_,by wtm_at "z_pf",?_,?_,λe he=>?_,rfl⟩
    .rw[AR];simp[AS,List.map_take,List.map_drop]
    .rw[<-hfst]
     conv=>rhs;rw[hsplit]
     simp
    .rcases CF.mp he with h|h
     .exact hok' e (ALG h)
     .rcases AW.mp h with rfl|h
      .exact⟨hex.1,hex.2.1,ho⟩
      .exact hok' e (List.mem_of_mem_drop h)
   .rfl';exact keepIt
  .rfl';exact keepIt
 .rintro ρ L2 ⟨k,exs,a,b,e,f,hpre,hg,h1,h2,rfl⟩;rfl';exact⟨rfl,q exs h1 h2 k L2 hpre hg⟩
def AEC{Q:AMo}{L:AB}{ns:AMH}(hb:∀z∈ns,Builtin.Int.intBits z<=1048576)(hn:ns.length<=63)
  (q:∀(ws:AMB) (ls:List D) (pr:D) (exs:Ay) L' kw kl ke kk,Er ws->(∀l∈ls,DV l)->ls.length<=3->pr.noRef=true->Ey exs->exs.length<=6->L <+: L'->L'[kw]?=some (.lst (ws.map D.str))->L'[kl]?=some (.lst ls)->L'[ke]?=some (.lst (exs.map AS))->L'[kk]?=some (.lst [.ref kw,.ref kl,pr,.ref ke])->Q (.ref kk) L') :
  W2 (Kb [.fz (ns.map .int)] L) Q:=by
 unfold Kb;refine EJ rfl ?_;unfold PV;refine BD (λρ L'=>∃ws,Er ws/\L <+: L'/\L'[L.length]?=some (.lst (ws.map D.str))/\ρ=[some (.fz (ns.map .int)),some (.ref L.length),none,none,none]) ?_ ?_
 .rfl';refine GD hb hn (by decide) (by decide) λc hc1 hc2=>?_;rfl';exact AD9 _ λws L' h1 h2 h3=>⟨ws,h1,h2,h3,rfl⟩
 rintro ρ L1 ⟨ws,hws,hpre1,hkw,rfl⟩;have hwl:(((ws.map D.str).length:Nat):Int)=ws.length:=by simp
 refine BD (λρ L'=>∃ls,(∀l∈ls,DV l)/\ls.length<=3/\L1 <+: L'/\L'[L1.length]?=some (.lst ls)/\ρ=[some (.fz (ns.map .int)),some (.ref L.length),some (.ref L1.length),none,none]) ?_ ?_
 .rfl';refine GD hb hn (by decide) (by decide) λc hc1 hc2=>?_;rfl';exact AEG _ λls L' h1 h2 h3 h4=>⟨ls,h1,h2,h3,h4,rfl⟩
 rintro ρ L0 ⟨ls,hls,hl3,hpre0,hkl,rfl⟩;have hkw:=Ch hpre0 hkw;refine BD (λρ L'=>∃(ts:AMB) (kt:Nat),EA ts/\ts.Nodup/\ts.length<=6/\(ws≠[]\/∀y∈ts,y≠"")/\L0 <+: L'/\L'[kt]?=some (.lst (ts.map D.str))/\ρ=[some (.fz (ns.map .int)),some (.ref L.length),some (.ref L1.length),some (.ref kt),none]) ?_ ?_
 .rfl';refine AEB hb hn 4 10 (by decide) (by decide) (by decide) (by decide) λts L2 hnd hts hl0 hl6 k hpre hg=>?_;have hkw2:=Ch hpre hkw;rfl';refine FS (I:=λj ρ L3=>(∃a,ρ=[a,some (.ref L.length)])/\L3=L2++[Ob.lst (((ts.take j).filter λ(y:Str)=>decide (y≠("":Str)) || decide (ws≠[])).map D.str)]) _ 0 _ _ ⟨⟨none,rfl⟩,rfl⟩ ?_ ?_
  .rintro i2 z ρ L3 hz ⟨⟨a,rfl⟩,rfl⟩;rw[Av] at hz;obtain⟨y,hy,hz⟩:=mS hz;cases hz;have hi2:i2<ts.length:=(BA.mp hy).1;have htk:ts.take (0+i2+1)=ts.take (0+i2)++[y]:=by rw[Bh,GV,hy];rfl
   refine⟨decide_eq_true (AU hg),?_⟩;have hfl:((ts.take (0+i2)).filter λ(y:Str)=>decide (y≠("":Str)) || decide (ws≠[])).length<16777216:=AK1 (AKw _ _) (by simp;omega);rfl';refine BU (λh1=>?_) (λh1=>?_)
   .rfl';refine BU (λh2=>?_) (λh2=>?_)
    .rfl';refine⟨_,AR,by simpa using hfl,⟨_,rfl⟩,?_⟩;have hw':ws≠[]:=by rintro rfl;simp at h2
     rw[htk,ALh];simp[hw']
    .rfl';refine⟨⟨_,rfl⟩,?_⟩
     have hw':ws=[]:=by
      rcases ws with _|⟨x,r⟩
      .rfl
      .exfalso;apply h2;simp
     rw[htk,ALh];simp[hw',h1]
   .rfl';refine⟨_,AR,by simpa using hfl,⟨_,rfl⟩,?_⟩;rw[htk,ALh];simp[h1]
  .rintro ρ L3 ⟨_,rfl⟩;refine⟨decide_eq_true (AU hg),?_⟩;rw[Bh,Ag,Ee];refine⟨ts.filter λ(y:Str)=>decide (y≠("":Str)) || decide (ws≠[]),L2.length,λy hy=>hts y (Fj.mp hy).1,hnd.filter _,Bu (AKw _ _) hl6,?_,hpre.trans (Aj _ _),AR,rfl⟩
   by_cases hw:ws=[]
   .refine .inr λy hy=>?_;have:=(Fj.mp hy).2;simpa[hw] using this
   .exact .inl hw
 rintro ρ L2 ⟨ts,kt,hts,hnd,hl6,hne,hpre2,hkt,rfl⟩;have hkw2:=Ch hpre2 hkw;have hkl2:=Ch hpre2 hkl;refine BD (λρ L'=>L'=L2/\∃pr,Iv ws ts pr/\ρ=[some (.fz (ns.map .int)),some (.ref L.length),some (.ref L1.length),some (.ref kt),some pr]) ?_ ?_
 .rfl';refine GD hb hn (by decide) (by decide) λc hc1 hc2=>?_;rfl';exact AEE _ hkw2 hkl2 hls hkt hws hts (by omega) hne λpr hpr=>⟨rfl,pr,hpr,rfl⟩
 rintro ρ L3 ⟨rfl,pr,hpr,rfl⟩;rfl';refine GD hb hn (by decide) (by decide) λc hc1 hc2=>?_;rfl';refine AEJ _ hkt hts (by omega) hpr hws λexs he1 he2 ke L4 hpre4 hke=>?_;rfl';refine⟨rfl,q ws ls pr exs _ L.length L1.length ke _ hws hls hl3 (hpr.noRef hws) he2 ?_ ((hpre1.trans hpre0).trans (hpre2.trans (hpre4.trans (Aj _ _)))) (AU (Ch hpre4 hkw2)) (AU (Ch hpre4 hkl2)) (AU hke) AR⟩;have:=congrArg List.length he1;simp at this;omega
def Vh{Q:AMo}{L:AB}{ws:AMB}{exs:Ay}{ls:List D}{k:Nat}(hk:IG L ws exs ls k)(hl:ws.length<=6){z:Int}(hz:z<0\/((leftE ws exs ls:Nat):Int)<=z)(h:Q (.bl true) L):W2 (JA [.ref k,.int z] L) Q:=by
 obtain⟨e1,e2⟩:=ACg hk hl hz;unfold JA;refine CG rfl ?_
 have eq:Jn (.ref (L.length+1)) (.ref (L.length+2)) (L++[.exn AMQ,.lst [.bl true,.bl false],.lst [.bl true,.bl false]])=some (.bl true,L++[.exn AMQ,.lst [.bl true,.bl false],.lst [.bl true,.bl false]]):=by
  generalize hM:L++[Ob.exn AMQ,.lst [.bl true,.bl false],.lst [.bl true,.bl false]]=M;have s1:DW (.ref (L.length+1)) M=some (false,[.bl true,.bl false]):=by simp[DW,<-hM]
  have s2:DW (.ref (L.length+2)) M=some (false,[.bl true,.bl false]):=by simp[DW,<-hM]
  have e3:CP 30 M (.ref (L.length+1)) (.ref (L.length+2))=some true:=by rw[YD,s1,s2];rfl
  unfold Jn;rw[if_neg (by simp[HA,BH]),if_pos (by simp[JW,s1,s2]),e3];rfl
 have:MJ (CU JB [.ref k,.int z]) L=some (.ret (.bl true) (L++[.exn AMQ,.lst [.bl true,.bl false],.lst [.bl true,.bl false]])):=by simp[MJ,JB,CU,AH,AL,AC,NQ,NR,AA,AD,var,e1,e2,only,Xc,Af,asT,Ie,IV,AN,Ak,Fb,BS,bin2,eq]
 exact WS.irt this ⟨rfl,Aj _ _,h⟩
def AEA{Q:AMo}{L:AB}{z:Int}(h:Q (.bl true) L):W2 (Kj [.int z] L) Q:=by unfold Kj;refine CG rfl ?_;unfold Ox;rfl';exact⟨rfl,An _,h⟩
def AEV(ns:AMH)(hn:ns.length<=63)(hb:∀z∈ns,Builtin.Int.intBits z<=1048576):W2 (JN [.fz (ns.map .int)] []) λd _=>d=.bl true:=by
 unfold JN;refine CG rfl ?_;unfold RA;refine BD (λρ L'=>∃ws ls pr exs kw kl ke,Er ws/\(∀l∈ls,DV l)/\ls.length<=3/\Ey exs/\exs.length<=6/\L'[kw]?=some (.lst (ws.map D.str))/\L'[kl]?=some (.lst ls)/\L'[ke]?=some (.lst (exs.map AS))/\ρ=[some (.fz (ns.map .int)),some (.ref kw),some (.ref kl),some pr,some (.ref ke),none,none,none,none,none,none,none]) ?_ ?_
 .rfl';refine AEC hb hn λws ls pr exs L' kw kl ke kk h1 h2 h3 h4 h5 h6 h7 h8 h9 h10 h11=>?_;rfl';exact⟨ws,ls,pr,exs,kw,kl,ke,h1,h2,h3,h5,h6,h8,h9,h10,rfl⟩
 rintro ρ L1 ⟨ws,ls,pr,exs0,kw,kl,ke0,hw,hls,hl3,hx0,hxl0,hkw1,hkl1,hke0,rfl⟩;refine BD (λρ L'=>∃exs ke,Ey exs/\exs.length<=6/\L'[kw]?=some (.lst (ws.map D.str))/\L'[kl]?=some (.lst ls)/\L'[ke]?=some (.lst (exs.map AS))/\ρ=[some (.fz (ns.map .int)),some (.ref kw),some (.ref kl),some pr,some (.ref ke),none,none,none,none,none,none,none]) ?_ ?_
 .rfl';refine GD hb hn (by decide) (by decide) λc _ _=>?_;rfl';refine BU (λh=>?_) (λh=>?_)
  .rfl';exact⟨[],_,(λ_ h=>(nomatch h)),by simp,AU hkw1,AU hkl1,AR,rfl⟩
  .rfl';exact⟨exs0,ke0,hx0,hxl0,hkw1,hkl1,hke0,rfl⟩
 rintro ρ L2 ⟨exs,ke,hx,hxl,hkw2,hkl2,hke2,rfl⟩;refine BD (λρ L'=>∃k,L2 <+: L'/\IG L' ws exs ls k/\ρ=[some (.fz (ns.map .int)),some (.ref kw),some (.ref kl),some pr,some (.ref ke),some (.ref k),none,none,none,none,none,none]) ?_ ?_
 .rfl';refine AEg hkw2 hw.2.2 hkl2 hls (by omega) hke2 hx hxl λL3 k hp K=>?_;exact⟨k,hp,K,rfl⟩
 rintro ρ L3 ⟨k,hp3,K3,rfl⟩;have hkw3:=BP hp3 hkw2;have hkl3:=BP hp3 hkl2;have hke3:=BP hp3 hke2;refine BD (λρ L'=>L3 <+: L'/\ρ=[some (.fz (ns.map .int)),some (.ref kw),some (.ref kl),some pr,some (.ref ke),some (.ref k),some (.int ((cE ws exs:Nat):Int)),none,none,none,none,none]) ?_ ?_
 .rfl';refine NV hkw3 hw.2.2 hke3 hx (by omega) λL4 t hp T=>?_;rfl';refine IX T.tab ?_;exact⟨hp,rfl⟩
 rintro ρ L4 ⟨hp4,rfl⟩;have hml:(exs.map AS).length<=1000:=by rw[Ag];omega
 have hlen:∀x∈exs.map AS,∃e:Str×Str,x=AS e/\e.1.length<=1000/\Ar e.1:=λx hm=>by
  obtain⟨e,hm',rfl⟩:=Aw.mp hm;exact⟨e,rfl,by have:=(hx e hm').2.1;omega,(hx e hm').1⟩
 refine BD (λρ L'=>L3 <+: L'/\∃a b c,ρ=[some (.fz (ns.map .int)),some (.ref kw),some (.ref kl),some pr,some (.ref ke),some (.ref k),some (.int ((leftE ws exs ls:Nat):Int)),a,b,c,none,none]) ?_ ?_
 .have hkl4:=BP hp4 hkl3;rfl';refine Cu (λj ρ L'=>L3 <+: L'/\∃a b c,ρ=[some (.fz (ns.map .int)),some (.ref kw),some (.ref kl),some pr,some (.ref ke),some (.ref k),some (.int ((cE ws exs+((ls.take j).map (wayE ws exs)).sum:Nat):Int)),a,b,c,none,none]) _ 0 _ _ ⟨hp4,none,none,none,rfl⟩ ?_ ?_
  .rintro i l ρ L5 hi ⟨hp5,a,b,c,rfl⟩;have hl:=hls l (Bv hi);refine⟨decide_eq_true (BP hp5 hkl3),RF ?_⟩;have hke5:=BP hp5 hke3;refine BD (λρ L'=>L'=L5++[.lst ((fE l exs).map AS)]/\ρ=[some (.fz (ns.map .int)),some (.ref kw),some (.ref kl),some pr,some (.ref ke),some (.ref k),some (.int ((cE ws exs+((ls.take (0+i)).map (wayE ws exs)).sum:Nat):Int)),some l,some (.ref L5.length),c,none,none]) ?_ ?_
   .rfl';refine JP (f:=Ld (DF l)) (λx hm L'=>?_) hke5 hml ?_
    .obtain⟨e,rfl,hy,hs⟩:=hlen x hm;rw[show AS e=.tup [.str e.1,.str e.2] from rfl];rfl';refine LK hl hy hs ?_;exact⟨_,rfl,rfl,rfl⟩
    .rw[OT];exact⟨rfl,rfl⟩
   rintro ρ L6 ⟨rfl,rfl⟩;refine BD (λρ L'=>L'=L5++[.lst ((fE l exs).map AS)]++[.lst ((nE l exs).map AS)]/\ρ=[some (.fz (ns.map .int)),some (.ref kw),some (.ref kl),some pr,some (.ref ke),some (.ref k),some (.int ((cE ws exs+((ls.take (0+i)).map (wayE ws exs)).sum:Nat):Int)),some l,some (.ref L5.length),some (.ref (L5.length+1)),none,none]) ?_ ?_
   .rfl';refine JP (f:=Ld λy=>!DF l y) (λx hm L'=>?_) (AU hke5) hml ?_
    .obtain⟨e,rfl,hy,hs⟩:=hlen x hm;rw[show AS e=.tup [.str e.1,.str e.2] from rfl];rfl';refine LK hl hy hs ?_;exact⟨_,rfl,rfl,rfl⟩
    .rw[OT];exact⟨rfl,by rw[Bc];rfl⟩
   rintro ρ L7 ⟨rfl,rfl⟩;have p7:L5 <+: L5++[Ob.lst ((fE l exs).map AS)]++[Ob.lst ((nE l exs).map AS)]:=by rw[AK3];exact Aj _ _
   have g1:(L5++[Ob.lst ((fE l exs).map AS)]++[Ob.lst ((nE l exs).map AS)])[L5.length]?=some (.lst ((fE l exs).map AS)):=AU AR
   have g2:(L5++[Ob.lst ((fE l exs).map AS)]++[Ob.lst ((nE l exs).map AS)])[L5.length+1]?=some (.lst ((nE l exs).map AS)):=by have:=AR (L:=L5++[Ob.lst ((fE l exs).map AS)]) (a:=Ob.lst ((nE l exs).map AS));rw[Bc] at this;exact this
   generalize L5++[Ob.lst ((fE l exs).map AS)]++[Ob.lst ((nE l exs).map AS)]=L7 at p7 g1 g2 ⊢;have hkw7:=BP (hp5.trans p7) hkw3;rfl';refine NV hkw7 hw.2.2 g1 (hx.fil _) (AK1 (AKw _ _) (by omega)) λL8 t8 p8 T8=>?_;rfl';refine IX T8.tab ?_;rfl';refine NV (BP p8 hkw7) hw.2.2 (BP p8 g2) (hx.fil _) (AK1 (AKw _ _) (by omega)) λL9 t9 p9 T9=>?_;rfl';refine IX T9.tab ?_;rfl';refine Ek (Nv (Oc hw.2.2 (fE l exs)) (Oc hw.2.2 (nE l exs)) (by decide)) ?_;rfl';refine⟨hp5.trans (p7.trans (p8.trans p9)),some l,some (.ref L5.length),some (.ref (L5.length+1)),?_⟩;have htk:ls.take (0+i+1)=ls.take (0+i)++[l]:=by rw[Bh,GV,hi];rfl
   have e9:((cE ws exs+((ls.take (0+i)).map (wayE ws exs)).sum:Nat):Int)+((cE ws (fE l exs):Nat):Int)*((cE ws (nE l exs):Nat):Int)=((cE ws exs+((ls.take (0+i+1)).map (wayE ws exs)).sum:Nat):Int):=by rw[htk,Co,List.sum_append,<-Int.natCast_mul,<-ALQ];rw[AKj];rfl
   rw[<-e9];rfl
  .rintro ρ L' ⟨hp5,a,b,c,rfl⟩;refine⟨decide_eq_true (BP hp5 hkl3),hp5,a,b,c,?_⟩;rw[Bh,Ee];rfl
 rintro ρ L5 ⟨hp5,a,b,c,rfl⟩;have K5:=K3.pre hp5;refine BD (λρ L'=>L'=L5/\ρ=[some (.fz (ns.map .int)),some (.ref kw),some (.ref kl),some pr,some (.ref ke),some (.ref k),some (.int ((leftE ws exs ls:Nat):Int)),a,b,c,some (.int ((leftE ws exs ls:Nat):Int)),none]) ?_ ?_
 .rfl';refine Wv K5 hw.2.2 (by omega) ?_;exact⟨rfl,rfl⟩
 rintro ρ L6 ⟨rfl,rfl⟩;refine BD (λρ L'=>L'=L6/\ρ=[some (.fz (ns.map .int)),some (.ref kw),some (.ref kl),some pr,some (.ref ke),some (.ref k),some (.int ((leftE ws exs ls:Nat):Int)),a,b,c,some (.int ((leftE ws exs ls:Nat):Int)),none]) ?_ ?_
 .rfl';refine AEA ?_;rfl';exact⟨rfl,rfl⟩
 rintro ρ L7 ⟨rfl,rfl⟩;refine BD (λρ L'=>L7 <+: L'/\∃far:Int,0<=far/\ρ=[some (.fz (ns.map .int)),some (.ref kw),some (.ref kl),some pr,some (.ref ke),some (.ref k),some (.int ((leftE ws exs ls:Nat):Int)),a,b,c,some (.int ((leftE ws exs ls:Nat):Int)),some (.int far)]) ?_ ?_
 .rfl';refine GD hb hn (by decide) (by decide) λc1 h1 _=>?_;rfl';refine GD hb hn (by decide) (by decide) λc2 h2 _=>?_;rfl';refine GD hb hn (by decide) (by decide) λc3 h3 _=>?_;rfl';refine Ej _ AR (by decide) (show(3:Int)<=((3:Nat):Int) from by decide) λd hd=>?_;refine⟨Aj _ _,?_⟩;simp only[AW,DK,or_false] at hd;rcases hd with rfl|rfl|rfl
  .exact⟨0,by decide,rfl⟩
  .exact⟨_,by omega,rfl⟩
  .exact⟨_,by omega,rfl⟩
 rintro ρ L8 ⟨hp8,far,hfar,rfl⟩;have K8:=K5.pre hp8;rfl';refine Vh K8 hw.2.2 (.inr (by omega)) ?_;rfl';refine Vh K8 hw.2.2 (.inl (by omega)) ?_;rfl';refine Wv K8 hw.2.2 (by omega) ?_;rfl';exact⟨rfl,List.nil_prefix,by rw[decide_eq_true rfl]⟩
def law_true(ns:AMH)(hn:ns.length<=63)(hb:∀z∈ns,Builtin.Int.intBits z<=1048576):∃L',JN [.fz (ns.map .int)] []=some (.bl true,L'):=by obtain⟨d,L',e,rfl⟩:=AEV ns hn hb;exact⟨L',e⟩
end L3
set_option maxHeartbeats 8000000
namespace L3
open PySem PySem.Spec PyProof.Rows L2
local macro_rules | `(tactic| wtm_at "sc") => `(tactic| exact ⟨rfl, rfl, rfl, by decide +kernel, rfl, by decide +kernel, by decide +kernel⟩)
local macro_rules | `(tactic| wtm_at "b0") => `(tactic| (intro _ _ _ _ _ _ us hl; obtain e := L3.AET hl; subst e; rfl))
local macro_rules | `(tactic| wtm_at "b1") => `(tactic| (intro _ _ _ _ _ _ us hl; obtain ⟨_, e⟩ := L3.Wu hl; subst e; rfl))
local macro_rules | `(tactic| wtm_at "b2") => `(tactic| (intro _ _ _ _ _ _ us hl; obtain ⟨_, _, e⟩ := L3.Hj hl; subst e; rfl))
local macro_rules | `(tactic| wtm_at "b3") => `(tactic| (intro _ _ _ _ _ _ us hl; obtain ⟨_, _, _, e⟩ := L3.HC hl; subst e; rfl))
local macro_rules | `(tactic| wtm_at "b4") => `(tactic| (intro _ _ _ _ _ _ us hl; obtain ⟨_, _, _, _, e⟩ := L3.Wt hl; subst e; rfl))
local macro_rules | `(tactic| wtm_at "bi") => `(tactic| first | wtm_at "b0" | wtm_at "b1" | wtm_at "b2" | wtm_at "b3" | wtm_at "b4")
noncomputable abbrev pW:=PySem.Challenge.pw_byexample_k43_left_by_looks
seal AO Eu IC Da DU EB Gr KA Dl ID Ln Cm Ez Oq MtD
seal var AC bin2 As AA AD AJ Bw Bp BS AH AL Af Bg AN DY Ak asT HK FV Gd BG BY Ab AZ GB BK Jn DS Gi Ij Bt AFP Bf DR BJ BQ Gh
local macro_rules | `(tactic| wtm_at $s:str) => do let w := s.getString.toList; (if w.take 2 == ['d', ' '] then pure () else Lean.Macro.throwUnsupported); let T := "vv.a Dw.ea.b HM.c AFx.d HY.sS.e IR.s.f AJl.Oee.g OU.FFa.h IT.ne.i RP.e.j Xd.n.k AFs.l ixq.ee.m NU.Oeer.n Va.tSS.o VO.p Hu.Fl.q Jo.r AIg.s WE.e.t AIo.u AIn.v AJu.Omba.w YI.a.x Js.el.y AIp.z Vb.prigS.A AI6.gG.B AKG.C AJ4.D AJi.a.E AIX.e.F AIO.G AFu.H AJj.eoo.I AIG.niB.J AIE.e.K AH8.e.L AIf.M AIB.eel.N AJt.Omba.O AJs.iB.P AIY.Q AF0.Oeer.R AI5.S AJx.fOea:list_append.T AJq.F.U AIz.V AIN.t.W AKB.X AJz.Y AIl.Z AH7.w.0 AI7.rG.1 Nt.2 AIS.ma.3 AJr.4 AJo.FFa.5 AHg.tw.6 AJp.tee.7 YJ.Oeex.8 AJn.e.9 AFt.e.! AIa.# AIZ.$ AH9.t.& AHh.t.( AHG.u.) AKH.* AF2.ee.+ AIk., AIc.; AIF.ueee.< AJ5.= AJx.fOea:list_extend.> SE.? AIy.^ AIh._ AIe.{ AIQ.zma.| AII.reG.} RQ.neP.~ AID.' AHj.tw.À AHi.t.Á AKL.Â Yf.Ã AKE.Ä AKC.Å AJ9.Æ AJ6.Ç AJ2.r.È AJ0.r.É AJx.fOea:dict_setdefault.Ê AJw.fOe:str_lower.Ë AJw.fOe:str_upper.Ì AJk.ee.Í AJh.mb.Î AIt.Ï AIs.u.Ð AIq.Ñ AIm.Ò AIi.Ó AIb.u.Ô AIU.e.Õ AIC.eee.Ö AHF.× AKK.Ø AKJ.Ù AKI.Ú AKF.Û AKD.Ü AJ8.r.Ý AJ7.r.Þ AJ3.r.ß AJ1.à OV.á AJx.fOea:str_join.â AJx.fOea:str_startswith.ã AJw.fOe:str_isdigit.ä AJw.fOe:str_islower.å AJw.fOe:str_isupper.æ AJv.FF.ç AJm.e.è AI4.é AIx.ê AIw.ë AIv.ì AIu.í AIr.î AIj.u.ï AId.u.ð AIW.ma.ñ AIV.ma.ò AIT.e.ó AIR.ma.ô AIH.eelP.õ AHE.ö".splitOn " "; let st ← (w.drop 2).foldrM (fun n st => do let v := (((T.find? (·.back == n)).getD "").dropEnd 2).toString.splitOn ":"; let m := (v.headD "").splitOn "."; let q ← (m.getD 1 "").toList.foldlM (fun (q : Array Lean.Term × List Lean.Term) k => do let p ← (match k with | 'F' => return #[← `(by assumption)] | 'r' => return #[← `(rfl)] | 'p' => return #[← `(PassesOwn.never)] | 'u' => return #[← `(Room.units (by assumption))] | 'm' => return #[← `(BlOk.get (by assumption) _)] | 'x' => return #[← `(fun _ _ => rfl)] | 'n' => return #[← `(by first | assumption | exact nqC)] | 'f' => return (let u := v.getD 1 ""; #["plainAttrs_" ++ (u.splitOn "_").headD "", "slot_" ++ u, "type_" ++ u].map fun u => ⟨Lean.mkIdent (.str `PySem.F u)⟩) | _ => return #[]); let a := q.2; (match k, a with | 'B', x :: y :: z :: a => return (q.1.push (← `(fun _ _ _ _ _ _ => ⟨$x, $y, $z⟩)), a) | _, x :: b => return (if p.isEmpty then (q.1.push x, b) else (q.1 ++ p, a)) | _, [] => return (q.1 ++ p, a))) (#[], st); let c := Lean.mkIdent (.mkSimple (m.headD "")); return (← (if q.1.isEmpty then `($c) else `($c $(q.1)*))) :: q.2) ([] : List Lean.Term); let t := st.headD ⟨.missing⟩; `(tactic| exact fun _ _ _ _ _ _ _ _ _ => $t)
abbrev TB:AMB:=["ValueError","abs","all","any","bool","enumerate","int","isinstance","len","list","min","range","sorted","sum","tuple","zip"]
section
variable {P:Program}{w:World}{K:AI}{mg:AMA}{base:Heap}{k:Nat}(hb:BlOk mg TB)
 (za11:Dn K mg "DEEDS" Ma)
 (zb11:Dn K mg "EDGES" Md)
 (zc11:Dn K mg "END" MU)
 (zd11:Dn K mg "KINDS" Mn)
 (ze11:Dn K mg "NOWHERE" Km)
 (zf11:Dn K mg "NTHS" Mg)
 (zg11:Dn K mg "ROW_LENGTHS" MX)
 (zh11:Dn K mg "SIGNS_BY_KIND" Mj)
 (zi11:Bk K AML AMP)
 (zb8:Bk K AML AMV)
 (zp:Bk K AML AMK)
 (zb2:Bk K AMN AMU)
 (zq:Bk K AMN AMK)
 (zc8:Bk K AMM AMW)
 (zm1:Bk K AMM AMO)
 (zw5:Bk K AMJ AMR)
 (zj11:Bk K AMJ AMX)
 (zd8:Bk K AMJ AMY)
 (zn1:Bk K AMJ AMT)
 (zo1:Bk K AMJ AMa)
 (zk11:Bk K AMJ AMS)
 (ze8:Al P w K mg base k "_law_text" JJ)
 (zl11:Al P w K mg base k "_law_words" Kk)
 (zm11:Al P w K mg base k "_law_looks" Ki)
 (zn11:Al P w K mg base k "_law_place" JI)
 (zo11:Al P w K mg base k "_law_piece" Kh)
 (zf8:Al P w K mg base k "_law_kind" JH)
 (zp11:Al P w K mg base k "_law_spot" zr)
 (zg8:Al P w K mg base k AMl zt)
 (zq11:Al P w K mg base k "_law_fitting" Kg)
 (zr11:Al P w K mg base k "_law_row" zu)
 (zx5:Al P w K mg base k "_law_holds" zk)
 (zs11:Al P w K mg base k "_law_program" Kf)
 (zy5:Al P w K mg base k "_law_cell" zc)
 (zt11:Al P w K mg base k AMm zw)
 (zu11:Al P w K mg base k "_law_answer" Ke)
 (zv11:Al P w K mg base k "_law_examples" Kd)
 (zw11:Al P w K mg base k AMn Kc)
 (zx11:Al P w K mg base k "_law_setting" Kb)
 (zy11:Al P w K mg base k "members_of" JG)
 (zh8:EE P w K mg base k AMM IP)
 (zz11:EE P w K mg base k AMJ Ka)
 (za12:Al P w K mg base k "all_places" KZ)
 (zb12:Al P w K mg base k "kind_of" KY)
 (zi8:Al P w K mg base k "is_of" IN)
 (zc12:Al P w K mg base k "spot" IM)
 (zd12:Al P w K mg base k "places_by_spots" KW)
 (ze12:Al P w K mg base k "stand_within" KU)
 (zf12:Al P w K mg base k "add_to_group" JF)
 (zg12:Al P w K mg base k "stretches" KS)
 (zh12:Al P w K mg base k "pieces_between" KR)
 (zi12:Al P w K mg base k "done_to" KQ)
 (zj12:Al P w K mg base k "groups_of" KP)
 (zk12:Al P w K mg base k "answers_to_try" KO)
 (zl12:Al P w K mg base k "rest_behind" KN)
 (zj8:Al P w K mg base k "node_number" zm)
 (zk8:Al P w K mg base k "table_of" zy)
 (zl8:Al P w K mg base k "table_among" IL)
 (zm12:EE P w K mg base k AMN Kr)
 (zn12:EE P w K mg base k AML Kq)
 (zo12:Al P w K mg base k "holds" IK)
 (zp12:Al P w K mg base k "choice_of" Kp)
 (zq12:Al P w K mg base k "keep" Ko)
 (zp1:Al P w K mg base k "many" ze)
 (zh3:Al P w K mg base k "ways_of" zo)
 (zr12:Al P w K mg base k "left" JE)
 (zz5:Al P w K mg base k "row_from" Kn)
 (zs12:Al P w K mg base k "row_at" zz)
 (za6:Al P w K mg base k "choice_program" JD)
 (zt12:Al P w K mg base k "_law_refused" JA)
 (zu12:Al P w K mg base k "_law_whole" Kj)
 {zb1:Addr}
 {zc1:Addr}
 {za:Addr}
 {zd1:Addr}
 {ze1:Addr}
 {zf1:Addr}
 (zm8:CS K "FitError" zb1)
 (zn8:CS K "NoExample" zc1)
 (zh:CS K AMQ za)
 (zo8:CS K "NoProgram" zd1)
 (zp8:CS K "NothingFits" ze1)
 (zq8:CS K "Twice" zf1)
 (zb6:FK K za)
 (KA_NoNumber_NoExample_NoProgram_NothingFits_Twice:ALE K (.ref za) ([zc1,zd1,ze1,zf1].map Value.ref)=some false)
 (KO_NoNumber:AKo K (.ref za) (.type "ValueError")=some true)
 (zr8:IB K AMQ zb1)
 (zs8:IB K AMQ za)
 (zt8:GU P w K mg base k "row_at" zz Kl)
 (zc6:GU P w K mg base k "program_at" IJ JC)
noncomputable abbrev PY:Stmt:=BB pW 57
def Tf:Ap MR (MR.take 2) (AT PY):=by wtm_at "sc"
abbrev AAU:Au P w K mg base k MR "_law_text" PY Qi:=dk Tf (by wtm_at "d eileimxblblblbacgsgvaddeigsagzadeigvadeileA3backeigzamagsawDCbacfigvawDCbacfja")
noncomputable abbrev PR:Stmt:=BB pW 58
def Td:Ap MO (MO.take 1) (AT PR):=by wtm_at "sc"
abbrev AAR:Au P w K mg base k MO "_law_words" PR Qe:=dk Td (by wtm_at "d eixceigsadeonugsgvadddfigzdgsadpeigvadeA3backeihbabmxbdbdbdbdcgsgvaddceonZadfiIaQFdpeonualfilpeon;aafKTVabacpfigvag#ddfja")
noncomputable abbrev PM:Stmt:=BB pW 69
def TZ:Ap ML (ML.take 1) (AT PM):=by wtm_at "sc"
abbrev AAO:Au P w K mg base k ML "_law_looks" PM Qa:=dk TZ (by wtm_at "d eixceigvadeA3bgsadckeimxblblblblblcgsgvaddeiEbmxblblcgsadbaceo0ÀnuadÁnugsgvadddfiEbmxblblcO=*bRummaddlcbmmaddcpeonðaafKTVabacpfigvadfja")
noncomputable abbrev PH:Stmt:=BB pW 59
def TV:Ap MI (MI.take 1) (AT PH):=by wtm_at "sc"
abbrev AAL:Au P w K mg base k MI "_law_place" PH QV:=dk TV (by wtm_at "d eimxblblblblblcgsadfjEbabmxbdbdb9db9dcgsgvaddbmxblblcgsgvaddc")
noncomputable abbrev PB:Stmt:=BB pW 60
def TQ:Ap MF (MF.take 2) (AT PB):=by wtm_at "sc"
abbrev AAJ:Au P w K mg base k MF "_law_piece" PB Ta:=dk TQ (by wtm_at "d eo0ÀnugsaddÁnZwDCbacdfjEblbmagsgvadwDCbaccpeimxblblblblcgsgvaddfjEbabhbgvadcbhbgvadcc")
noncomputable abbrev Ow:Stmt:=BB pW 61
def UW:Ap MC (MC.take 1) (AT Ow):=by wtm_at "sc"
abbrev AAH:Au P w K mg base k MC "_law_kind" Ow QQ:=dk UW (by wtm_at "d eoLåëafjlpeoLæìafjlpeoLäêafjlpfjl")
noncomputable abbrev Qz:Stmt:=BB pW 62
def UU:Ap MA (MA.take 2) (AT Qz):=by wtm_at "sc"
abbrev AAF:Au P w K mg base k MA "_law_spot" Qz QL:=dk UU (by wtm_at "d e}aBkBkBkSeJ3bwDCbacckW06nual(nuhbmaacaaeon2wDCbacwÆÂbacfjHpeonZadfjgzmag$adO=*bRualcpfjgzmaaO=*bRualc")
noncomputable abbrev Qw:Stmt:=BB pW 63
def US:Ap Ly (Ly.take 2) (AT Qw):=by wtm_at "sc"
abbrev Zy:Au P w K mg base k Ly AMl Qw Lw:=dk US (by wtm_at "d eonumadlfjmadpeihbmadbaceihbmadbaceo06nÓaH6nÓaH(nÒaafjHpeonumadlfjÌÑIaFaFapeonumadlfjËÏIaFaFapfjIaFaFa")
noncomputable abbrev Qt:Stmt:=BB pW 67
def UQ:Ap NJ (NJ.take 3) (AT Qt):=by wtm_at "sc"
abbrev Zw:Au P w K mg base k NJ "_law_fitting" Qt QG:=dk UQ (by wtm_at "d eihbabaceonumadlfjapeiEbmadbEblbdblcbEblb9dblcceAtxbabEbmadbmadbmadcbackfon;HPtakGhbabacfjapeonuwDCbacdfjHpfjEblbmagsgvadwDCbacc")
noncomputable abbrev Qq:Stmt:=BB pW 68
def UO:Ap NH (NH.take 3) (AT Qq):=by wtm_at "sc"
abbrev Zu:Au P w K mg base k NH "_law_row" Qq QC:=dk UO (by wtm_at "d eixceigvadeA3bgzdgsadckeihbababaceon_aHfKTVabacpfigvadfjOYXbac")
noncomputable abbrev Qn:Stmt:=BB pW 65
def UM:Ap NF (NF.take 2) (AT Qn):=by wtm_at "sc"
abbrev Zs:Au P w K mg base k NF "_law_holds" Qn Px:=dk UM (by wtm_at "d eJtakGhbaceonumadlfiIaQFdpfjÍR,mada!+Rumadl!RZwDCbacd")
noncomputable abbrev Qk:Stmt:=BB pW 70
def UK:Ap ND (ND.take 4) (AT Qk):=by wtm_at "sc"
abbrev Zq:Au P w K mg base k ND "_law_program" Qk Pt:=dk UK (by wtm_at "d eo06nugsadd(nuwDCbacdfjEblbhbgvadbabaccpeimagsgvadwDCbaceJtakWLhbabacaeJtakW&LhbabacafjEblbabhbgvadbabacbhbgvagMdg#ddbabacc")
noncomputable abbrev Qg:Stmt:=BB pW 56
def UI:Ap NA (NA.take 2) (AT Qg):=by wtm_at "sc"
abbrev Zo:Au P w K mg base k NA "_law_cell" Qg Pp:=dk UI (by wtm_at "d eon2awDCbacfjgsgMgzmaaddg#ddpeigzgMgMaaddeonZwDCbacdfigzagMgsmagsgMadwDCbacg#dddpfjgsgMgsgMaaddg#dd")
noncomputable abbrev Qc:Stmt:=BB pW 64
def UG:Ap My (My.take 2) (AT Qc):=by wtm_at "sc"
abbrev Zm:Au P w K mg base k My AMm Qc Pk:=dk UG (by wtm_at "d eJtakGhbabaceon,HafjHpfjâílbac")
noncomputable abbrev QY:Stmt:=BB pW 66
def UE:Ap Mw (Mw.take 2) (AT QY):=by wtm_at "sc"
abbrev Zk:Au P w K mg base k Mw "_law_answer" QY Pg:=dk UE (by wtm_at "d eonumadlfjhbmadbacpeoLhbmadbacfjhbmadbacpfjhbmadbac")
noncomputable abbrev QS:Stmt:=BB pW 72
def UC:Ap Mu (Mu.take 3) (AT QS):=by wtm_at "sc"
abbrev Zi:Au P w K mg base k Mu "_law_examples" QS Pd:=dk UC (by wtm_at "d eJtakGEbabhbabacceo0ÀnugsaddÁnZwDCbacdeigsgvadwDCbace}maaBkBkSeimxbIgzalQFdbIaQF9dbgzIaFdQIaQFdblcgsgvaddfigzgzIaQFaxbEbabaccIaFgzadQpfja")
noncomputable abbrev QN:Stmt:=BB pW 71
def UA:Ap Ms (Ms.take 3) (AT QN):=by wtm_at "sc"
abbrev Zg:Au P w K mg base k Ms AMn QN Pa:=dk UA (by wtm_at "d eihbabaceigzdgsadeonugsgvadddeigzdgsadfiwÈÄbabdcpeJ3backGleimxblblblblcgsgvaddeonugsgvadddfJ3backGhbhbabgzgzadacbacfAôbgzadbwÈÄbwDCbacbgzgzadgMaacckeigsaaeimagshbabacwDCbacfÖaagzmaaaeonugsgvadddfÖadIgMIaQFgzdgsgvadddQFdpeixceAtakfon;aafKTVabacpfja")
noncomputable abbrev QJ:Stmt:=BB pW 73
def Tx:Ap Mp (Mp.take 1) (AT QJ):=by wtm_at "sc"
abbrev Ze:Au P w K mg base k Mp "_law_setting" QJ PV:=dk Tx (by wtm_at "d eihbhbabdcceihbgvhbabdcdceJthbabdbdckW06n{al(nZwDCbacdaeihbhbabdcbababacfjxbabababhbababhbabdccc")
noncomputable abbrev QE:Stmt:=BB pW 33
def Tv:Ap Mm (Mm.take 1) (AT QE):=by wtm_at "sc"
abbrev Zc:Au P w K mg base k Mm "members_of" QE PP:=dk Tv (by wtm_at "d ei4eAóa1BkBkSfAñbac1BkBkSf<aaEbabacfja")
noncomputable abbrev Pz:Stmt:=OH pW 31 0
def Tt:Ap Mi (Mi.take 2) (AT Pz):=by wtm_at "sc"
abbrev Za:Au P w K mg base k Mi "Node.__init__" Pz PK:=dk Tt (by wtm_at "d eNaaqrfNa4qr")
noncomputable abbrev Pv:Stmt:=OH pW 32 0
def Tr:Ap Mf (Mf.take 3) (AT Pv):=by wtm_at "sc"
abbrev ZY:Au P w K mg base k Mf "Table.__init__" Pv PD:=dk Tr (by wtm_at "d eNaaqreNaaqreNahbacqreNaxb5bdcb5bdccqreNa4qrfNaxcqr")
noncomputable abbrev Pr:Stmt:=BB pW 8
def Tp:Ap Mc (Mc.take 0) (AT Pr):=by wtm_at "sc"
abbrev ZW:Au P w K mg base k Mc "all_places" Pr Oy:=dk Tp (by wtm_at "d eixceAtUkfAtUkfAtUkfKTVabEbababaccfja")
noncomputable abbrev Pn:Stmt:=BB pW 3
def Tn:Ap MZ (MZ.take 1) (AT Pn):=by wtm_at "sc"
abbrev ZU:Au P w K mg base k MZ "kind_of" Pn RB:=dk Tn (by wtm_at "d eAtU1BkBkSfon,aafjapfjH")
noncomputable abbrev Ph:Stmt:=BB pW 4
def Tk:Ap MW (MW.take 2) (AT Ph):=by wtm_at "sc"
abbrev ZS:Au P w K mg base k MW "is_of" Ph Qx:=dk Tk (by wtm_at "d fjÍRual!Ruhbaca")
noncomputable abbrev Pe:Stmt:=BB pW 9
def Ti:Ap MT (MT.take 2) (AT Pe):=by wtm_at "sc"
abbrev AAY:Au P w K mg base k MT "spot" Pe Qu:=dk Ti (by wtm_at "d eimadeimadeJòbac1BkBkSWLhbabacaeon2wDCbacwÆÂbacfjHpei7nZadmag$admaafj7numadlagzad")
noncomputable abbrev Pb:Stmt:=BB pW 34
def Tg:Ap MQ (MQ.take 1) (AT Pb):=by wtm_at "sc"
abbrev AAW:Au P w K mg base k MQ "places_by_spots" Pb Qr:=dk Tg (by wtm_at "d ei4eAtçkeiOYXbPtakGhbabaccfon;HafKTVÊÐababxccbacpfja")
noncomputable abbrev PX:Stmt:=BB pW 36
def Te:Ap MN (MN.take 2) (AT PX):=by wtm_at "sc"
abbrev AAT:Au P w K mg base k MN "stand_within" PX Qo:=dk Te (by wtm_at "d fjwÝØbP|×babac1BkBkSGR,aac")
noncomputable abbrev PQ:Stmt:=BB pW 37
def Tc:Ap MK (MK.take 4) (AT PQ):=by wtm_at "sc"
abbrev AAQ:Au P w K mg base k MK "add_to_group" PQ Ql:=dk Tc (by wtm_at "d foLhbabacfK>^ÊÐababxccbacp")
noncomputable abbrev PL:Stmt:=BB pW 35
def TY:Ap MH (MH.take 3) (AT PL):=by wtm_at "sc"
abbrev AAN:Au P w K mg base k MH "stretches" PL Qh:=dk TY (by wtm_at "d eixceA|öbababac1BkBkBkSeonÒaafjHpfKTVabIaFaFacfja")
noncomputable abbrev PF:Stmt:=BB pW 38
def TU:Ap ME (ME.take 3) (AT PF):=by wtm_at "sc"
abbrev AAK:Au P w K mg base k ME "pieces_between" PF Qd:=dk TU (by wtm_at "d eixceAtakfK>^abPtakGEbababaccfja")
noncomputable abbrev Oz:Stmt:=BB pW 12
def TN:Ap MB (MB.take 2) (AT Oz):=by wtm_at "sc"
abbrev AAI:Au P w K mg base k MB "done_to" Oz QZ:=dk TN (by wtm_at "d eonualfjapfj7nualÌÑaËÏa")
noncomputable abbrev Ov:Stmt:=BB pW 39
def UV:Ap Lz (Lz.take 3) (AT Ov):=by wtm_at "sc"
abbrev AAG:Au P w K mg base k Lz "groups_of" Ov QU:=dk UV (by wtm_at "d ei4eAtakfKhbababOYXbPtakGacbxbEblbaccceihbaceAÕakfAÕakeihbababacfon_aHfAtUkeiOYXbPtakGhbabaccfKhbabababhbab8)aab8)aaccpfja")
noncomputable abbrev RC:Stmt:=BB pW 41
def UT:Ap Lx (Lx.take 3) (AT RC):=by wtm_at "sc"
abbrev AAE:Au P w K mg base k Lx "answers_to_try" RC QP:=dk UT (by wtm_at "d eonuadfj7nïayaqrxbacxcpfjOßÛbyaqrc")
noncomputable abbrev Qy:Stmt:=BB pW 40
def UR:Ap Lv (Lv.take 2) (AT Qy):=by wtm_at "sc"
abbrev Zx:Au P w K mg base k Lv "rest_behind" Qy QK:=dk UR (by wtm_at "d eixceA|×babac1BkBkSeo&LãîabacfjHpfKTVabIaFwDCbacQcfjOYXbac")
noncomputable abbrev Qv:Stmt:=BB pW 42
def UP:Ap NI (NI.take 3) (AT Qv):=by wtm_at "sc"
abbrev Zv{zm:GL}(zj8:Al P w K mg base k "node_number" zm):Au P w K mg base k NI "new_node" Qv (QF zm):=dk UP (by wtm_at "d ei5bdceAthbababackeihbabacfon_aHeihbabg$adbacfon{aUe<yaqraEbyaqrbacfõagMwDCb8)yaqracymyaqraqrqréppeonuyaqrdfjUpeKTVyaqrbacfjg$wDCbyaqrcd")
noncomputable abbrev Qs:Stmt:=BB pW 43
def UN:Ap NE (NE.take 3) (AT Qs):=by wtm_at "sc"
abbrev Zt{ze5:GL}(zo19:Al P w K mg base k "new_node" ze5):Au P w K mg base k NE "node_number" Qs (NC ze5):=dk UN (by wtm_at "d eonuadfjUpeiEbabaceonÔayaqrf<yaqrahbababacpfj8)yaqra")
noncomputable abbrev Qp:Stmt:=BB pW 44
def UL:Ap Mx (Mx.take 2) (AT Qp):=by wtm_at "sc"
abbrev Zr:Au P w K mg base k Mx "table_of" Qp QB:=dk UL (by wtm_at "d eiwàÜbaceJtakGmadeiOYXbPtakGmadcei5bOYXbacbhbababacceK>^yaqrbPtUkGhbababaccfja")
noncomputable abbrev Qm:Stmt:=BB pW 48
def UJ:Ap Mv (Mv.take 3) (AT Qm):=by wtm_at "sc"
abbrev Zp:Au P w K mg base k Mv "table_among" Qm Pw:=dk UJ (by wtm_at "d eiOYXbaceonÔaaf<aahbabacpfj8)aa")
noncomputable abbrev Qj:Stmt:=OH pW 47 0
def UH:Ap Mt (Mt.take 3) (AT Qj):=by wtm_at "sc"
abbrev Zn:Au P w K mg base k Mt "Keep.__init__" Qj Ps:=dk UH (by wtm_at "d eNaaqqrfNaaqr")
noncomputable abbrev Qf:Stmt:=OH pW 46 0
def UF:Ap Mr (Mr.take 4) (AT Qf):=by wtm_at "sc"
abbrev Zl:Au P w K mg base k Mr "Choice.__init__" Qf Po:=dk UF (by wtm_at "d eNaaqreNaaqqrfNaaqr")
noncomputable abbrev Qb:Stmt:=BB pW 22
def UD:Ap Mo (Mo.take 2) (AT Qb):=by wtm_at "sc"
abbrev Zj:Au P w K mg base k Mo "holds" Qb Pj:=dk UD (by wtm_at "d ei7numadlaIaQFdfjwÞÙbPtakGhbmadbacc")
noncomputable abbrev QW:Stmt:=BB pW 49
def UB:Ap Ml (Ml.take 4) (AT QW):=by wtm_at "sc"
abbrev Zh:Au P w K mg base k Ml "choice_of" QW Pf:=dk UB (by wtm_at "d eJtakWLhbabmadcaeJtakW&Lhbabmadcafj5babhbababacbhbababacc")
noncomputable abbrev QR:Stmt:=BB pW 50
def Tz:Ap Mh (Mh.take 3) (AT QR):=by wtm_at "sc"
abbrev Zf:Au P w K mg base k Mh "keep" QR Pc:=dk Tz (by wtm_at "d ei4eihbababacfj5babPtakGhbabababacc")
noncomputable abbrev QM:Stmt:=BB pW 24
def Tw:Ap Me (Me.take 1) (AT QM):=by wtm_at "sc"
abbrev Zd:Au P w K mg base k Me "many" QM PZ:=dk Tw (by wtm_at "d fjwÉÅbPtyaqrkGymyaqraqrc")
noncomputable abbrev QH:Stmt:=BB pW 51
def Tu:Ap Mb (Mb.take 1) (AT QH):=by wtm_at "sc"
abbrev Zb:Au P w K mg base k Mb "ways_of" QH PU:=dk Tu (by wtm_at "d fjgMhbyaqqrchbyaqrc")
noncomputable abbrev QD:Stmt:=BB pW 52
def Ts:Ap MY (MY.take 1) (AT QD):=by wtm_at "sc"
abbrev ZZ:Au P w K mg base k MY "left" QD PN:=dk Ts (by wtm_at "d fjgzhbyaqqrcwÉÅbPtyaqrkGhbacc")
noncomputable abbrev Py:Stmt:=BB pW 26
def Tq:Ap MV (MV.take 3) (AT Py):=by wtm_at "sc"
abbrev ZX:Au P w K mg base k MV "row_from" Py TW:=dk Tq λ_ _ _ _ _ _ _ _ _=>VP
noncomputable abbrev JM:Stmt:=BB pW 27
def NB:Ap zf (zf.take 2) (AT JM):=by wtm_at "sc"
abbrev ZV{f:Addr}{cdv:Value}{A:Around}{outer:List Env}{s:Shared}{H:Hp}{E:XK}(hr:Room k (A.deeper (envOfC "row_at" (AT JM) s.heap.objs.size f cdv))):HR (BV (Ea P w) P w K mg base zf "row_at" (AT JM) f cdv A outer s H E) (Dz JM) MS PJ:=by have nd:zf.Nodup:=NB.nd;exact(JU (VA (NU Nt (Cj (pv 1)) AFx rfl) (Nb (RM zh rfl)) VN) (JU (NY (Vb PassesOwn.never rfl (WE (Js (Cj (pv 0)) (Hu zo1 Jo))) (Xd (i:=2) nd) (HY (IT (i:=3) nd (Js (YJ UX (Js (Cj (pv 0)) (Hu zn1 Jo)) (Cj (pv 2)) (λ_ _=>rfl)) (Hu zm1 Jo))) (HY (Va (NU Nt (Cj (pv 1)) (Cj (pv 3)) rfl) (IR (RP (OU zz5 hr (Dw (Cj (pv 0)) (Dw (Cj (pv 2)) (Dw (Cj (pv 1)) HM)))))) VO) (IR (RQ (i:=1) nd (Cj (pv 3)) SE)))))) (Nb (RM zh rfl))))
abbrev ZT:Au P w K mg base k zf "row_at" JM MS:=dk NB (by wtm_at "d eon2adf'peAtyaqrkeiymyaqraqreon2aafjhbababacpf~a?f'")
noncomputable abbrev Pu:Stmt:=BB pW 53
def To:Ap MP (MP.take 2) (AT Pu):=by wtm_at "sc"
abbrev ZR:Au P w K mg base k MP "choice_program" Pu TR:=dk To λ_ _ _ _ _ _ _ _ _=>VP
noncomputable abbrev JL:Stmt:=BB pW 54
def Mz:Ap HU (HU.take 2) (AT JL):=by wtm_at "sc"
abbrev AAX{f:Addr}{cdv:Value}{A:Around}{outer:List Env}{s:Shared}{H:Hp}{E:XK}(hr:Room k (A.deeper (envOfC "program_at" (AT JL) s.heap.objs.size f cdv))):HR (BV (Ea P w) P w K mg base HU "program_at" (AT JL) f cdv A outer s H E) (Dz JL) MM PC:=by have nd:HU.Nodup:=Mz.nd;exact(JU (NY (IT (i:=2) nd (OU zp1 hr (Dw (Js (Cj (pv 0)) (Hu zp (Hu zq Jo))) HM)))) (JU (VA (NU Nt (Cj (pv 1)) (Cj (pv 2)) rfl) (Nb (ABU (AFr AFs (AF1 zt8 hr (Dw (Js (Cj (pv 0)) (Hu zp (Hu zq Jo))) (Dw (Cj (pv 1)) HM)))))) VN) (JU (NY (RQ (i:=1) nd (Cj (pv 2)) SE)) (JU (NY (Vb PassesOwn.never rfl (WE (Js (Cj (pv 0)) (Hu zb2 Jo))) (Xd (i:=3) nd) (HY (IT (i:=4) nd (OU zh3 hr (Dw (Cj (pv 3)) HM))) (HY (Va (NU Nt (Cj (pv 1)) (Cj (pv 4)) rfl) (IR (RP (OU za6 hr (Dw (Cj (pv 3)) (Dw (Cj (pv 1)) HM))))) VO) (IR (RQ (i:=1) nd (Cj (pv 4)) SE)))))) (Nb (RM zh rfl))))))
abbrev AAV:Au P w K mg base k HU "program_at" JL MM:=dk Mz (by wtm_at "d eihbyaqqrceon2aafjEblbhbyaqqrbaccpe~a?eAtyaqrkeihbaceon2aafjhbabacpf~a?f'")
noncomputable abbrev Pq:Stmt:=BB pW 75
def Tl:Ap JB (JB.take 2) (AT Pq):=by wtm_at "sc"
abbrev AAS:Au P w K mg base k JB "_law_refused" Pq MJ:=dk Tl λ_ _ _ _ _ _ _ hr nd=>(HY (IT nd OV) (HY (IT nd AFu) (HY (ABp zc6 hr (Dw vv (Dw vv HM)) zh (VE zs8) (λ_=>(IR (IT nd OV))) rfl rfl) (HY (ABo (i:=4) zc6 hr (Dw vv (Dw vv HM)) zm8 (VE zr8) nd (λ_=>(IR (IT nd (YI (Dw (AFv (i:=4) (AEq zh zb6 KO_NoNumber) (hb.get "isinstance") (hb.get "ValueError")) (Dw (AFw (i:=4) (Cs:=[zc1,zd1,ze1,zf1]) (Nq (Nq (Nq (Nq ADS zq8.ns) zp8.ns) zo8.ns) zn8.ns) (by show 4<=sizeLine;decide) (AEp zh zb6 KA_NoNumber_NoExample_NoProgram_NothingFits_Twice) (hb.get "isinstance")) HM)))))) rfl rfl) (IR (RP (AF2 vv (AFt (AF0 (ADp hr.units) vv (YI (Dw OV (Dw OV HM))) rfl)))))))))
noncomputable abbrev Pl:Stmt:=BB pW 74
def Tj:Ap MG (MG.take 1) (AT Pl):=by wtm_at "sc"
abbrev AAP:Au P w K mg base k MG "_law_whole" Pl Ox:=dk Tj (by wtm_at "d fj+wÇÃbabÎ*c!èwÇÃbabÎÚc")
noncomputable abbrev JK:Stmt:=BB pW 76
def Th:Ap MD (MD.take 1) (AT JK):=by wtm_at "sc"
abbrev AAM:Au P w K mg base k MD "law" JK RA:=dk Th (by wtm_at "d e}hbacBkBkBkBkSeonugshbabdcddfixcpeihbababaceihbhbabacceAtakeJtakWLhbabmadcaeJtakW&LhbabmadcafigzagMhbhbabacchbhbabacceihbaceo06&Lhbac(n{aafjápeimxbdbgsgvhbabdcddbgvhbabdcdcgsgvhbabdcddfj+hbabgzaac+hbabg$9dac!Ruhbaca")
end
def AGv{l:PySem.W.OpenLaw}{w:World}{K:AI}{h:Heap}{mg:AMA}{fa:Addr}(X:K.In h)(G:h.Ns mainGlobals mg)(hfa:mg "law"=some (.ref fa)){r1 r7 r14 r24 r31 r37 r38 r42 r46 r50 zi zb zg zj zb1 zc1 za zd1 ze1 zf1 zf17 zg17 zh17 zi17 zj17 zk17 zl17 zm17 zn17 zo17 zp17 zq17 zr17 zs17 zt17 zu17 zv17 zw17 zx17 zs10 zt10 zy17 zz17 za18 zb18 zc18 zd18 ze18 zf18 zg18 zh18 zi18 zj18 zk18 zl18 zm18 zn18 zo18 zu10 zv10 zp18 zq18 zr18 zs18 zt18 zu18 zv18 zw18 zx18 zy18 zz18 za19 zb19:Addr}{o1 o7 o14 o24 o31 o37 o38 o42 o46 o50:Option Addr}{n1 n7 n14 n24 n31 n37 n38 n42 n46 n50:Nat}{l1 l7 l14 l24 l31 l37 l38 l42 l46 l50:Array (Option Value)}{t2 t3 t4 t8 t9 t12 t15 t16 t17 t18 t19 t22 t25 t26 t27 t28 t32 t33 t34 t39 t40 t43 t44 t47 t48 t51 t52:Tok}(q6:Ba K mainGlobals "DEEDS"=some (some (.ref r1)))(q5:K.lookup r1=some ⟨.type "tuple",o1,.seq ([.str "copy" t2,.str "raise" t3,.str "sink" t4]:AMC).toArray n1,l1⟩)(q11:Ba K mainGlobals "EDGES"=some (some (.ref r7)))(q10:K.lookup r7=some ⟨.type "tuple",o7,.seq ([.str "ahead" t8,.str "behind" t9]:AMC).toArray n7,l7⟩)(q13:Ba K mainGlobals "END"=some (some (.int (0) t12)))(q21:Ba K mainGlobals "KINDS"=some (some (.ref r14)))(q20:K.lookup r14=some ⟨.type "tuple",o14,.seq ([.str "small" t15,.str "great" t16,.str "figure" t17,.str "mark" t18,.str "any" t19]:AMC).toArray n14,l14⟩)(q23:Ba K mainGlobals "NOWHERE"=some (some (.int (1) t22)))(q30:Ba K mainGlobals "NTHS"=some (some (.ref r24)))(q29:K.lookup r24=some ⟨.type "tuple",o24,.seq ([.int (1) t25,.int (2) t26,.int (-1) t27,.int (-2) t28]:AMC).toArray n24,l24⟩)(q36:Ba K mainGlobals "ROW_LENGTHS"=some (some (.ref r31)))(q35:K.lookup r31=some ⟨.type "tuple",o31,.seq ([.int (1) t32,.int (2) t33,.int (3) t34]:AMC).toArray n31,l31⟩)(q55:Ba K mainGlobals "SIGNS_BY_KIND"=some (some (.ref r37)))(q54:K.lookup r37=some ⟨.type "tuple",o37,.seq ([.ref r38,.ref r42,.ref r46,.ref r50]:AMC).toArray n37,l37⟩)(q41:K.lookup r38=some ⟨.type "tuple",o38,.seq ([.str "small" t39,.str "abcdefghijklmnopqrstuvwxyz" t40]:AMC).toArray n38,l38⟩)(q45:K.lookup r42=some ⟨.type "tuple",o42,.seq ([.str "great" t43,.str "ABCDEFGHIJKLMNOPQRSTUVWXYZ" t44]:AMC).toArray n42,l42⟩)(q49:K.lookup r46=some ⟨.type "tuple",o46,.seq ([.str "figure" t47,.str "0123456789" t48]:AMC).toArray n46,l46⟩)(q53:K.lookup r50=some ⟨.type "tuple",o50,.seq ([.str "mark" t51,.str " -.,/" t52]:AMC).toArray n50,l50⟩)(q56:Ba K mainGlobals "ValueError"=some none)(q57:Ba K mainGlobals "abs"=some none)(q58:Ba K mainGlobals "all"=some none)(q59:Ba K mainGlobals "any"=some none)(q60:Ba K mainGlobals "bool"=some none)(q61:Ba K mainGlobals "enumerate"=some none)(q62:Ba K mainGlobals "int"=some none)(q63:Ba K mainGlobals "isinstance"=some none)(q64:Ba K mainGlobals "len"=some none)(q65:Ba K mainGlobals "list"=some none)(q66:Ba K mainGlobals "min"=some none)(q67:Ba K mainGlobals "range"=some none)(q68:Ba K mainGlobals "sorted"=some none)(q69:Ba K mainGlobals "sum"=some none)(q70:Ba K mainGlobals "tuple"=some none)(q71:Ba K mainGlobals "zip"=some none)(q72:Ba K mainGlobals AMM=some (some (.ref zi)))(q73:AKx K zi Str.empty=true)(q74:AKy K zi=true)(q75:AK6 K zi=true)(q76:Be K (.ref zi) "__setattr__"=some (some (.builtin "object.__setattr__")))(q77:AK7 K zi=true)(q78:Ec K (.ref zi)=true)(q79:Ba K mainGlobals AMJ=some (some (.ref zb)))(q80:AKx K zb Str.empty=true)(q81:AKy K zb=true)(q82:AK6 K zb=true)(q83:Be K (.ref zb) "__setattr__"=some (some (.builtin "object.__setattr__")))(q84:AK7 K zb=true)(q85:Ec K (.ref zb)=true)(q86:Ba K mainGlobals AML=some (some (.ref zg)))(q87:AKx K zg Str.empty=true)(q88:AKy K zg=true)(q89:AK6 K zg=true)(q90:Be K (.ref zg) "__setattr__"=some (some (.builtin "object.__setattr__")))(q91:AK7 K zg=true)(q92:Ec K (.ref zg)=true)(q93:Ba K mainGlobals AMN=some (some (.ref zj)))(q94:AKx K zj Str.empty=true)(q95:AKy K zj=true)(q96:AK6 K zj=true)(q97:Be K (.ref zj) "__setattr__"=some (some (.builtin "object.__setattr__")))(q98:AK7 K zj=true)(q99:Ec K (.ref zj)=true)(q100:Be K (.ref zg) AMP=some none)(q101:Be K (.ref zg) AMV=some none)(q102:Be K (.ref zg) AMK=some none)(q103:Be K (.ref zj) AMU=some none)(q104:Be K (.ref zj) AMK=some none)(q105:Be K (.ref zi) AMW=some none)(q106:Be K (.ref zi) AMO=some none)(q107:Be K (.ref zb) AMR=some none)(q108:Be K (.ref zb) AMX=some none)(q109:Be K (.ref zb) AMY=some none)(q110:Be K (.ref zb) AMT=some none)(q111:Be K (.ref zb) AMa=some none)(q112:Be K (.ref zb) AMS=some none)(q113:Ba K mainGlobals "FitError"=some (some (.ref zb1)))(q114:AKs K zb1 Hy "ValueError.__new__"=true)(q115:Ba K mainGlobals "NoExample"=some (some (.ref zc1)))(q116:AKs K zc1 Hy "ValueError.__new__"=true)(q117:Ba K mainGlobals AMQ=some (some (.ref za)))(q118:AKs K za Hy "ValueError.__new__"=true)(q119:Ba K mainGlobals "NoProgram"=some (some (.ref zd1)))(q120:AKs K zd1 Hy "ValueError.__new__"=true)(q121:Ba K mainGlobals "NothingFits"=some (some (.ref ze1)))(q122:AKs K ze1 Hy "ValueError.__new__"=true)(q123:Ba K mainGlobals "Twice"=some (some (.ref zf1)))(q124:AKs K zf1 Hy "ValueError.__new__"=true)(q125:Be K (.ref za) "__getattribute__"=some (some (.builtin "BaseException.__getattribute__")))(q126:Be K (.ref za) "__getattr__"=some none)(q127:Be K (.ref za) "__class__"=some (some (.builtin "object.__class__")))(q128:PySem.W.specialIn K (.builtin "object.__class__") "__get__"=some (some (.builtin "getset_descriptor.__get__")))(q129:PySem.W.takesIn K (.builtin "object.__class__")=some true)(q130:AKn K za (.type "object")=some true)(q131:ALE K (.ref za) ([zc1,zd1,ze1,zf1].map Value.ref)=some false)(q132:AKo K (.ref za) (.type "ValueError")=some true)(q133:AKn K za (.ref zb1)=some true)(q134:AKn K za (.ref za)=some true)(q135:FQ K "_law_text" PY zf17)(q136:FQ K "_law_words" PR zg17)(q137:FQ K "_law_looks" PM zh17)(q138:FQ K "_law_place" PH zi17)(q139:FQ K "_law_piece" PB zj17)(q140:FQ K "_law_kind" Ow zk17)(q141:FQ K "_law_spot" Qz zl17)(q142:FQ K AMl Qw zm17)(q143:FQ K "_law_fitting" Qt zn17)(q144:FQ K "_law_row" Qq zo17)(q145:FQ K "_law_holds" Qn zp17)(q146:FQ K "_law_program" Qk zq17)(q147:FQ K "_law_cell" Qg zr17)(q148:FQ K AMm Qc zs17)(q149:FQ K "_law_answer" QY zt17)(q150:FQ K "_law_examples" QS zu17)(q151:FQ K AMn QN zv17)(q152:FQ K "_law_setting" QJ zw17)(q153:FQ K "members_of" QE zx17)(q154:Be K (.ref zi) "__init__"=some (some (.ref zs10)))(q155:AK8 K (.ref zs10)=true)(q156:Ix K "__init__" "Node.__init__" Pz zs10)(q157:Be K (.ref zb) "__init__"=some (some (.ref zt10)))(q158:AK8 K (.ref zt10)=true)(q159:Ix K "__init__" "Table.__init__" Pv zt10)(q160:FQ K "all_places" Pr zy17)(q161:FQ K "kind_of" Pn zz17)(q162:FQ K "is_of" Ph za18)(q163:FQ K "spot" Pe zb18)(q164:FQ K "places_by_spots" Pb zc18)(q165:FQ K "stand_within" PX zd18)(q166:FQ K "add_to_group" PQ ze18)(q167:FQ K "stretches" PL zf18)(q168:FQ K "pieces_between" PF zg18)(q169:FQ K "done_to" Oz zh18)(q170:FQ K "groups_of" Ov zi18)(q171:FQ K "answers_to_try" RC zj18)(q172:FQ K "rest_behind" Qy zk18)(q173:FQ K "new_node" Qv zl18)(q174:FQ K "node_number" Qs zm18)(q175:FQ K "table_of" Qp zn18)(q176:FQ K "table_among" Qm zo18)(q177:Be K (.ref zj) "__init__"=some (some (.ref zu10)))(q178:AK8 K (.ref zu10)=true)(q179:Ix K "__init__" "Keep.__init__" Qj zu10)(q180:Be K (.ref zg) "__init__"=some (some (.ref zv10)))(q181:AK8 K (.ref zv10)=true)(q182:Ix K "__init__" "Choice.__init__" Qf zv10)(q183:FQ K "holds" Qb zp18)(q184:FQ K "choice_of" QW zq18)(q185:FQ K "keep" QR zr18)(q186:FQ K "many" QM zs18)(q187:FQ K "ways_of" QH zt18)(q188:FQ K "left" QD zu18)(q189:FQ K "row_from" Py zv18)(q190:FQ K "row_at" JM zw18)(q191:FQ K "choice_program" Pu zx18)(q192:FQ K "program_at" JL zy18)(q193:FQ K "_law_refused" Pq zz18)(q194:FQ K "_law_whole" Pl za19)
  (q195:FQ K "law" JK zb19) :
  ∃fd:FuncData,(∀(s:Shared) (v:Value),BindsTo s fd ⟨[v],[]⟩ [(AMg,v)])/\∀base:Heap,K.In base->base.Ns mainGlobals mg->DH l.prog w K mg base CX0 17 fa fd [AMg] (IS K JN):=by
 have za11:Dn K mg "DEEDS" Ma:=Ho (Cn X G q6) (GZ q5 (by show 3<=sizeLine;decide) (.cons (De (by decide)) (.cons (De (by decide)) (.cons (De (by decide)) .nil))));have zb11:Dn K mg "EDGES" Md:=Ho (Cn X G q11) (GZ q10 (by show 2<=sizeLine;decide) (.cons (De (by decide)) (.cons (De (by decide)) .nil)));have zc11:Dn K mg "END" MU:=Ho (Cn X G q13) Gx;have zd11:Dn K mg "KINDS" Mn:=Ho (Cn X G q21) (GZ q20 (by show 5<=sizeLine;decide) (.cons (De (by decide)) (.cons (De (by decide)) (.cons (De (by decide)) (.cons (De (by decide)) (.cons (De (by decide)) .nil))))));have ze11:Dn K mg "NOWHERE" Km:=Ho (Cn X G q23) Gx;have zf11:Dn K mg "NTHS" Mg:=Ho (Cn X G q30) (GZ q29 (by show 4<=sizeLine;decide) (.cons Gx (.cons Gx (.cons Gx (.cons Gx .nil)))));have zg11:Dn K mg "ROW_LENGTHS" MX:=Ho (Cn X G q36) (GZ q35 (by show 3<=sizeLine;decide) (.cons Gx (.cons Gx (.cons Gx .nil))));have zh11:Dn K mg "SIGNS_BY_KIND" Mj:=Ho (Cn X G q55) (GZ q54 (by show 4<=sizeLine;decide) (.cons (GZ q41 (by show 2<=sizeLine;decide) (.cons (De (by decide)) (.cons (De (by decide)) .nil))) (.cons (GZ q45 (by show 2<=sizeLine;decide) (.cons (De (by decide)) (.cons (De (by decide)) .nil))) (.cons (GZ q49 (by show 2<=sizeLine;decide) (.cons (De (by decide)) (.cons (De (by decide)) .nil))) (.cons (GZ q53 (by show 2<=sizeLine;decide) (.cons (De (by decide)) (.cons (De (by decide)) .nil))) .nil)))))
 have hb:BlOk mg TB:=by
  intro x hx;simp only[TB,AW,DK,or_false] at hx;rcases hx with rfl|rfl|rfl|rfl|rfl|rfl|rfl|rfl|rfl|rfl|rfl|rfl|rfl|rfl|rfl|rfl
  .exact Eb X G q56
  .exact Eb X G q57
  .exact Eb X G q58
  .exact Eb X G q59
  .exact Eb X G q60
  .exact Eb X G q61
  .exact Eb X G q62
  .exact Eb X G q63
  .exact Eb X G q64
  .exact Eb X G q65
  .exact Eb X G q66
  .exact Eb X G q67
  .exact Eb X G q68
  .exact Eb X G q69
  .exact Eb X G q70
  .exact Eb X G q71
 have ca_Node:DI K AMM zi:=q72;have cl_Node:Cls K zi:=⟨q73,q74,q75,q76⟩;have ca_Table:DI K AMJ zb:=q79;have cl_Table:Cls K zb:=⟨q80,q81,q82,q83⟩;have ca_Choice:DI K AML zg:=q86;have cl_Choice:Cls K zg:=⟨q87,q88,q89,q90⟩;have ca_Keep:DI K AMN zj:=q93;have cl_Keep:Cls K zj:=⟨q94,q95,q96,q97⟩;have zi11:Bk K AML AMP:=FG ca_Choice cl_Choice q100;have zb8:Bk K AML AMV:=FG ca_Choice cl_Choice q101;have zp:Bk K AML AMK:=FG ca_Choice cl_Choice q102;have zb2:Bk K AMN AMU:=FG ca_Keep cl_Keep q103;have zq:Bk K AMN AMK:=FG ca_Keep cl_Keep q104;have zc8:Bk K AMM AMW:=FG ca_Node cl_Node q105;have zm1:Bk K AMM AMO:=FG ca_Node cl_Node q106;have zw5:Bk K AMJ AMR:=FG ca_Table cl_Table q107;have zj11:Bk K AMJ AMX:=FG ca_Table cl_Table q108;have zd8:Bk K AMJ AMY:=FG ca_Table cl_Table q109;have zn1:Bk K AMJ AMT:=FG ca_Table cl_Table q110;have zo1:Bk K AMJ AMa:=FG ca_Table cl_Table q111;have zk11:Bk K AMJ AMS:=FG ca_Table cl_Table q112;have zm8:CS K "FitError" zb1:=⟨q113,q114⟩;have zn8:CS K "NoExample" zc1:=⟨q115,q116⟩;have zh:CS K AMQ za:=⟨q117,q118⟩;have zo8:CS K "NoProgram" zd1:=⟨q119,q120⟩;have zp8:CS K "NothingFits" ze1:=⟨q121,q122⟩;have zq8:CS K "Twice" zf1:=⟨q123,q124⟩;have zb6:FK K za:=⟨q125,q126,q127,q128,q129,q130⟩;have KA_NoNumber_NoExample_NoProgram_NothingFits_Twice:=q131;have KO_NoNumber:=q132;have zr8:IB K AMQ zb1:=⟨za,zh,q133⟩;have zs8:IB K AMQ za:=⟨za,zh,q134⟩;obtain⟨zp19,zu14⟩:=q156;have zc19:=zu14.binds (ps:=["self",AMO]) λ_ _ _ _ _ _ us hl=>by obtain⟨_,_,rfl⟩:=Hj hl;rfl
 obtain⟨zq19,zv14⟩:=q159;have zd19:=zv14.binds (ps:=["self",AMS,AMR]) λ_ _ _ _ _ _ us hl=>by obtain⟨_,_,_,rfl⟩:=HC hl;rfl
 obtain⟨zr19,zw10⟩:=q173.b;have ze19:=zw10.binds (ps:=[AMK,"length","rest"]) λ_ _ _ _ _ _ us hl=>by obtain⟨_,_,_,rfl⟩:=HC hl;rfl
 obtain⟨zs19,zf6⟩:=q174.b;have zw14:=zf6.binds (ps:=[AMK,"length","rest"]) λ_ _ _ _ _ _ us hl=>by obtain⟨_,_,_,rfl⟩:=HC hl;rfl
 obtain⟨zt19,zx14⟩:=q179;have zf19:=zx14.binds (ps:=["self",AMK,AMU]) λ_ _ _ _ _ _ us hl=>by obtain⟨_,_,_,rfl⟩:=HC hl;rfl
 obtain⟨zu19,zy14⟩:=q182;have zg19:=zy14.binds (ps:=["self",AMP,AMK,AMV]) λ_ _ _ _ _ _ us hl=>by obtain⟨_,_,_,_,rfl⟩:=Wt hl;rfl
 obtain⟨zv19,zi3⟩:=q190.b;have zz14:=zi3.binds (ps:=[AMK,AMb]) λ_ _ _ _ _ _ us hl=>by obtain⟨_,_,rfl⟩:=Hj hl;rfl
 obtain⟨zw19,zj3⟩:=q192.b;have za15:=zj3.binds (ps:=["kept",AMb]) λ_ _ _ _ _ _ us hl=>by obtain⟨_,_,rfl⟩:=Hj hl;rfl
 obtain⟨zx19,zb15⟩:=q195.b;obtain⟨_,_,zh19,zi19,zj19,zk19,zl19,zm19,_,rfl,_,_⟩:=id zb15.ex;have e0:=hfa.symm.trans (Cn X G q195.a);cases e0;refine⟨AKd "law" "law" (Io JK) (Dz JK) (AT JK) .none zh19 zi19 zj19 zk19 zl19 zm19,λs v=>.of_eq rfl,λbase _ _=>?_⟩;have fq:=@AFX l.prog w K mg base h X G;have ze8:=fq JJ q135 Tf (AAU (k:=0) hb);have zl11:=fq Kk q136 Td (AAR (k:=1) hb ze8.mn);have zm11:=fq Ki q137 TZ (AAO (k:=0) hb);have zn11:=fq JI q138 TV (AAL (k:=0));have zo11:=fq Kh q139 TQ (AAJ (k:=1) hb zn11.mn);have zf8:=fq JH q140 UW (AAH (k:=0));have zp11:=fq zr q141 UU (AAF (k:=1) hb zf8.mn);have zg8:=fq zt q142 US (Zy (k:=2) zp11.mn);have zq11:=fq Kg q143 UQ (Zw (k:=3) hb zo11.mn zg8.mn);have zr11:=fq zu q144 UO (Zu (k:=4) hb zq11.mn);have zx5:=fq zk q145 UM (Zs (k:=1) hb zf8.mn);have zs11:=fq Kf q146 UK (Zq (k:=5) hb zr11.mn zx5.mn);have zy5:=fq zc q147 UI (Zo (k:=0) hb);have zt11:=fq zw q148 UG (Zm (k:=3) zg8.mn);have zu11:=fq Ke q149 UE (Zk (k:=4) zx5.mn zt11.mn);have zv11:=fq Kd q150 UC (Zi (k:=5) hb zu11.mn);have zw11:=fq Kc q151 UA (Zg (k:=1) hb ze8.mn zy5.mn);have zx11:=fq Kb q152 Tx (Ze (k:=6) hb zl11.mn zm11.mn zs11.mn zy5.mn zv11.mn zw11.mn);have zy11:=fq JG q153 Tv (Zc (k:=0) hb);have zh8:EE l.prog w K mg base 2 AMM IP:=OR zu14 Tt (λcdv A outer s H E hr=>Za zc8 zm1 cdv _ A outer s H E hr) zc19 (Cn X G q72) ca_Node ⟨q77,q154,q155,q78⟩;have zz11:EE l.prog w K mg base 4 AMJ Ka:=OR zv14 Tr (λcdv A outer s H E hr=>ZY zw5 zj11 zd8 zn1 zo1 zk11 (zy11.mono (by decide:1<=2)) (zh8.mono (by decide:2<=2)) cdv _ A outer s H E hr) zd19 (Cn X G q79) ca_Table ⟨q84,q157,q158,q85⟩;have za12:=fq KZ q160 Tp (ZW (k:=0) zb11 zd11 zf11);have zb12:=fq KY q161 Tn (ZU (k:=0) zh11);have zi8:=fq IN q162 Tk (ZS (k:=1) zb12.mn);have zc12:=fq IM q163 Ti (AAY (k:=2) hb zi8.mn);have zd12:=fq KW q164 Tg (AAW (k:=3) hb za12.mn zc12.mn);have ze12:=fq KU q165 Te (AAT (k:=0) hb);have zf12:=fq JF q166 Tc (AAQ (k:=1) ze12.mn);have zg12:=fq KS q167 TY (AAN (k:=0) hb);have zh12:=fq KR q168 TU (AAK (k:=0));have zi12:=fq KQ q169 TN (AAI (k:=0));have zj12:=fq KP q170 UV (AAG (k:=4) hb za11 zd12.mn zf12.mn zg12.mn zh12.mn zi12.mn);have zk12:=fq KO q171 UT (AAE (k:=0) hb zw5);have zl12:=fq KN q172 UR (Zx (k:=0) hb)
 have zn19:∀n,Al l.prog w K mg base (2+2*n) "node_number" (zx n):=λn=>by
  induction n with
  |zero=>exact fnd_none zw14 (Cn X G q174.a) zf6.kp
  |succ n ih =>
   have FI:Al l.prog w K mg base (2+2*n+1) "new_node" (NG (zx n)):=La zw10 UP (λcdv A outer s H E hr=>Zv hb ze11 zc8 zm1 zw5 zn1 (zh8.mono (by omega:2<=2+2*n)) (zk12.mono (by omega:1<=2+2*n)) (zl12.mono (by omega:1<=2+2*n)) ih cdv _ A outer s H E hr) ze19 (Cn X G q173.a) zw10.kp;exact La zf6 UN (λcdv A outer s H E hr=>Zt zc11 zd8 FI cdv _ A outer s H E hr) zw14 (Cn X G q174.a) zf6.kp
 have zj8:Al l.prog w K mg base 12 "node_number" zm:=zn19 5;have zk8:=fq zy q175 UL (Zr (k:=12) hb zg11 zo1 zz11.mn zj12.mn zj8.mn);have zl8:=fq IL q176 UJ (Zp (k:=13) hb zk8.mn);have zm12:EE l.prog w K mg base 2 AMN Kr:=OR zx14 UH (λcdv A outer s H E hr=>Zn zp zb2 zq cdv _ A outer s H E hr) zf19 (Cn X G q93) ca_Keep ⟨q98,q177,q178,q99⟩;have zn12:EE l.prog w K mg base 2 AML Kq:=OR zy14 UF (λcdv A outer s H E hr=>Zl zi11 zb8 zp zq cdv _ A outer s H E hr) zg19 (Cn X G q86) ca_Choice ⟨q91,q180,q181,q92⟩;have zo12:=fq IK q183 UD (Zj (k:=2) hb zi8.mn);have zp12:=fq Kp q184 UB (Zh (k:=14) zl8.mn zn12.mn zo12.mn);have zq12:=fq Ko q185 Tz (Zf (k:=15) zl8.mn zm12.mn zp12.mn);have zp1:=fq ze q186 Tw (Zd (k:=0) hb zm1 zn1 zo1);have zh3:=fq zo q187 Tu (Zb (k:=1) zb8 zp zq zp1.mn);have zr12:=fq JE q188 Ts (ZZ (k:=2) hb zp zb2 zq zp1.mn zh3.mn);have zz5:=fq Kn q189 Tq (ZX (k:=0));have zs12:Al l.prog w K mg base 2 "row_at" zz:=La zi3 NB (λcdv A outer s H E hr=>ZT zm1 zn1 zo1 (zz5.mono (by decide:1<=1)) cdv _ A outer s H E hr) zz14 (Cn X G q190.a) zi3.kp;have zt8:GU l.prog w K mg base 2 "row_at" zz Kl:=Xs zi3 NB (λcdv A outer s H E hr=>ZV zm1 zn1 zo1 (zz5.mono (by decide:1<=1)) zh hr) zz14 (Cn X G q190.a) zi3.kp;have za6:=fq JD q191 To (ZR (k:=0));have zy19:Al l.prog w K mg base 3 "program_at" IJ:=La zj3 Mz (λcdv A outer s H E hr=>AAV zp zb2 zq (zp1.mono (by decide:1<=2)) (zh3.mono (by decide:2<=2)) (zs12.mono (by decide:2<=2)) (za6.mono (by decide:1<=2)) cdv _ A outer s H E hr) za15 (Cn X G q192.a) zj3.kp;have zc6:GU l.prog w K mg base 3 "program_at" IJ JC:=Xs zj3 Mz (λcdv A outer s H E hr=>AAX zp zb2 zq (zp1.mono (by decide:1<=2)) (zh3.mono (by decide:2<=2)) (za6.mono (by decide:1<=2)) zh (zt8.mono (by decide:2<=2)) hr) za15 (Cn X G q192.a) zj3.kp;have zt12:=fq JA q193 Tl (AAS (k:=3) hb zm8 zn8 zh zo8 zp8 zq8 zb6 KA_NoNumber_NoExample_NoProgram_NothingFits_Twice KO_NoNumber zr8 zs8 (zc6.mono (by decide:3<=3)));have zu12:=fq Kj q194 Tj (AAP (k:=0) hb);exact Sa zb15 Th JN _ (λ_ _ _ h=>Ni h) (λcdv A outer s H E hr=>AAM (zx5.mono (by decide:2<=16)) (zy5.mono (by decide:1<=16)) (zx11.mono (by decide:7<=16)) (zk8.mono (by decide:13<=16)) (zq12.mono (by decide:16<=16)) (zp1.mono (by decide:1<=16)) (zr12.mono (by decide:3<=16)) (zt12.mono (by decide:4<=16)) (zu12.mono (by decide:1<=16)) cdv _ A outer s H E hr) (λ_ _ _ _ h=>Nh h)
end L3
open PySem PySem.W PyProof.Rows
namespace PySem.Challenge.cw_byexample_k43_left_by_looks_holds
#check "5495929647145437205 5652213303807862897 3984351701692357900 15524385626675823896 13183762712972357553 15595737501025766930 14675897109093696763 17503758682084695049 11601008791813492711 11415688518613655875 3481073376421578471 7423666674725507539 15682029550341940915 14777854326059239040 7575215365035801869 4796592779517807138 1798968640880503432 11674774627234898681 5184385237860134239 1455268546857604120 10678633073374641587 15670952213880608156 15936023765078704729 16728821542191174230 14858976565138688814 12868697141774198229 16703636861221301158 16749073902523684019 7729777161168363493 5654299844940797207 11691461168539886309 6595244948793561989 13337199326580980090 14628366261868521217 8865735850347361434 13656264390602211483 884051953374526647 2893786991423297527 9150283522127081590 12288546424766796050 9152996989705841562 4828574326805257756 1643098536508799491 15743213825249314530 677424280885482563 3615986404438118860 794491963959068780 7293180088881370657 2271122152152508698 4388622672018870590 12236302685886120920 3892366950492370487 18018073001225759013 14110603473078300754 13141027040264004151 15340205327478330412 14722083665298811754 3700838039525304041 8766068541946310395 15668634859431951157 7528687395108308722 9172508979648872415 837575315859439051 10977409089777742746 18192021409140466159 13588699029590086100 3294766487972471141 14944029735443585767 14565213794915381061 11428870617629911608 18128933415847627583 16106157331940776021 9513240378454961749 1673503053122148719 979137846189540146 3034837378745182267 11051509511624954607 13893444504227159057 829178455422576228 16701513123696784539 12973606447969994728 10083316974679825795 10345001279181553050 15458766319748196978 10268528110218535169 6481731518883827873 8118592981810319383 5534424835045719699 11155766998233696387 14124833539314161687 3733067027674773820 12413185694216711529 312990043529795752 2941421895492573323 3227403889708395783 12332051983172554270 8573542700198566932 1583504287643477026 13621493732823107434 13980909369885994115 8898245316822328059 2737483940905748031 12512511688402661323 8635520654257815250 9779654948845416458 8054257909508929851 4391913993078767073 2151075426256938899 14344117993510966014 4055389448929370008 17760787393439938351 11638377143114227304 6267463058222649756 11762811387091692439 15788174607603524056 7198569224291480231 1525261828473799477 13214950264777023990 13303062109228657427 13555800899316095295 9974300292811046835 17110030311888442331 12417009544169781103 17996132719251729178 1669718897676587688 705095974487863091 11359180004492731130 3676556999032939296 9104114282321793459 9594188612551630269 727582343453126633 7070373827387604055 7363428369271865217 11825088281990094110 12687876041356262351 6482197480188324834 8859069628485655828 2043327590839219927 5897007957257594605 3081807754495345070 3810793220373759925 8357926936446270388 16176299186032608883 3651337165847889066 288999196891773803 10560845106341431615 7154867113758933298 17589683535664876567 10032190672017821999 9901740539624485019 6989344985472731584 3309816559874821142 5052461340630269603 17288238223586652088 14312021946671478807 10676029502089458885 5176630880818716874 10283453156503543752 11343017568701462404 1819215168142570078 17516113867811379044 11009994940019692694 12861105850568200584 13645912854899019695 693066552652825218 1263382228895419552 5083722962915991772 342942517182827756 16695283702273376109 4408424012243695377 11978774216039518436 17324884764052339165 18264232154625658075 2699605427486858154 3208076393431304332 3978100828408821645 8369616676409717913 7225640338271137359 11607092505724966732 4800056556570796973 14534446351598772657 4413720032140481086 15096499353462639430 8680837373794906616 10483128558796035947 7333956132852576165 13351649303465640617 422070355720282601 16095518753031397015 6494934730219760262 4424194849668865547 27852786687607802 16337487375167499689 10243817356559042063 3710619302698963268 16982441394868649031 15995069944890513081 1677408517897866059 6319503726303908696 224653746897844112 11910892842669496946 8105463668497055884 10405154550506964317 8059783791813332320 16982506195200051288 12941863714944046433 834595785694927218 16369150707901037550 8751799995808087613 17195371717120085565 17568579701411407819 6874310927533092259 1788367076302891342 3853629853055087358 2183037368983338900 3459124716950170226 13871882700733983338 556872323348565848 14852550311974022403 1088372053432251111 8600791580957228511 3441415685494309560 9867562635101780665 16953054237853773409 17104214098702721077 4790023246823901661 3999266027866429965 10361272189286799161 322274263256316928 10313867456586687439 8893314021513006600 5258420656231614826 13371095570725951269 9790153707380348507 11129835914956937278 5052271811776596703 15214877969711499417 9176421030899665990 14783331793808771223 18416482115101112241 9185581147345062134 9001935592543873805 16130290216499142056 12925013597158747510 14315857162281683298 2762360391691577337 12069181063906846396 9604151318537793970 5729078263241300291 2258238786881271504 6308189288626910225 4459403640091346951 5898359316477142370 5771040540158970102 15798632580369797264 1111563694088374846 13428369055991740242 14620509203636518146 14890263730653341768 8867572558520007869 12615411443557014724 13716234867136383533 12076877029711528288 3831197320941335618 3886173906051478101 16714455847351686386 15447900250975615724 15211557308169478727 121786867860673418 15528438961644135583 13569047970465543239 1746121130430746119 3064178338136380049 13975179385951876683 9786160972054700799 5051878797164019050 12220990251610939406 365777564915663823 11452998320629740176 17742297508754618946 4728491277020969929 14102875992994492858 6249605407808707215 8526359656931406804 17039781023187365753 6354377565888163830 8259344275688936750 6922296069266847824 8271623045429012264 12908647928764633070 1856300902347777963 14114836091028573400 9005225486706144087 8597596326298486845 17888064842622887962 2400886248473703604 17579930486984607347 2606641993323060855 14384148868627785614 2459205844928433917 6751378475691079843 5418491464093705021 14023056073365686167 2851852930376188007 17081481491935655556 18201363841817995378 17298654259506046512 11448799820131176439 13018167788784703260 18187723811611749480 3463567009431856260 11509066716591327177 5680625966402726340 4545734246457134839 7506640247922376696 10156581542765317459 14130798365722399142 6606310382005275617 14647412715421602847 4083644938562169257 7296510036938691696 2833099837762795154 6432000162416984327 198895239146958098 8068629286138267947 834149876802334305 10056924008764905783 1426596919343129068 3650795278665418342 281676782219760921 3103390373271832600 17222556930250846746 10810574798299856811 344374570220315575 11819761940631956787 9296901649510330784 8890730240950134259 8635248370546432350 11209207760527129359 17834264998433865273"
end PySem.Challenge.cw_byexample_k43_left_by_looks_holds
set_option Elab.async true in
set_option maxRecDepth 100000 in
set_option maxHeartbeats 0 in
theorem PySem.Challenge.cw_byexample_k43_left_by_looks_holds : PySem.Challenge.rw_byexample_k43_left_by_looks.Holds := by
 w_on;o_law;k_head;(case hw=>w_witness2)
 k_fill
 refine L3.walk_f (l:=PySem.Challenge.rw_byexample_k43_left_by_looks) (n:=63) (k:=17) (x:="_law_script") (G:=L3.JN) rfl (by decide) rfl ⟨rfl,by decide,by decide⟩ (λw h Y_=>PySem.W.kIn_of Y_) ?F L3.law_true
 case F =>
  intro w mg fa h KX G hmg
  refine' L3.AGv KX G hmg ?_ ?_ ?_ ?_ ?_ ?_ ?_ ?_ ?_ ?_ ?_ ?_ ?_ ?_ ?_ ?_ ?_ ?_ ?_ ?_ ?_ ?_ ?_ ?_ ?_ ?_ ?_ ?_ ?_ ?_ ?_ ?_ ?_ ?_ ?_ ?_ ?_ ?_ ?_ ?_ ?_ ?_ ?_ ?_ ?_ ?_ ?_ ?_ ?_ ?_ ?_ ?_ ?_ ?_ ?_ ?_ ?_ ?_ ?_ ?_ ?_ ?_ ?_ ?_ ?_ ?_ ?_ ?_ ?_ ?_ ?_ ?_ ?_ ?_ ?_ ?_ ?_ ?_ ?_ ?_ ?_ ?_ ?_ ?_ ?_ ?_ ?_ ?_ ?_ ?_ ?_ ?_ ?_ ?_ ?_ ?_ ?_ ?_ ?_ ?_ ?_ ?_ ?_ ?_ ?_ ?_ ?_ ?_ ?_ ?_ ?_ ?_ ?_ ?_ ?_ ?_ ?_ ?_ ?_ ?_ ?_ ?_ ?_ ?_ ?_ ?_ ?_ ?_ ?_ ?_ ?_ ?_ ?_ ?_ ?_ ?_ ?_ ?_ ?_ ?_ ?_ ?_ ?_ ?_ ?_ ?_ ?_ ?_ ?_ ?_ ?_ ?_ ?_ ?_ ?_ ?_ ?_ ?_
  all_goals first|k_is|(unfold L3.Sz;k_is)|(refine' ⟨?a,L3.Xt ?l ?c ?k⟩;(case a=>unfold L3.Sz;k_is);(case l=>k_is);(case c=>k_is);(case k=>k_is))|(refine' L3.Xt ?l ?c ?k;(case l=>k_is);(case c=>k_is);(case k=>k_is))|k_exc|kernel_rfl|rfl|decide|skip
