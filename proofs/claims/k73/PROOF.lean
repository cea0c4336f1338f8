import PyProof.Rows.All
import Wide.All
import OpenK.AllK
import Wide.FinOn
import KE.KStateDown
import Lean
import HandS.ForMost
import HandS.More
import HandS.WordsExc
import HandS.ExcIs
import HandS.ExcOwn
import HandS.TryOnly
import HandS.Exc
import HandS.Defaults
import HandS.Wide
import HandS.WideBits
import HandS.IsInst
import HandS.Head0
import HandS.Head1
import HandS.Head2
import HandS.HeadEnd
import HandS.HeadHook1
import HandS.HeadHook2
import HandS.Conv
import HandS.FStr
import HandS.DeepEq
import HandS.ExcInit
import HandS.ExcValue
import HandS.ExcField
import KE.KExcIs
import HandS.HeadHook3
import HandS.ListItems
import HandS.Iter
import HandS.Dict
import HandS.Star
import HandS.Rev
import HandS.Style
import HandS.Walk
import HandS.More
import HandS.Sort
import HandS.SortOrd
import HandS.TupSets
import HandS.TupLe
import HandS.SortKw
import KE.DataMinMax
import HandS.TupAny
import HandS.SortInts
import HandS.Deep
import KE.KDictWalk
import PyProof.DictMoreH
import PySem.Challenge.RW_movebook_k73_off_nought
set_option Elab.async false
set_option linter.all false
set_option maxRecDepth 100000
set_option maxHeartbeats 4000000
namespace Mb
open PySem L2
/-! ### a def that keeps its promise, as its callers take it -/
structure Kn (P : Program) (w : World) (K : PySem.W.Frag) (mg : Str → Option Value) (base : Heap) (k : Nat) (x : Str) (ps : List Str) (sp : Sp) : Prop where
  ex : ∃ f fd, FnOk P w K mg base CX0 k f fd ps sp ∧ mg x = some (.ref f) ∧ PySem.W.keepIn K (.ref f) = true ∧ Binds K fd ps []
theorem pe_kn {X : Cx} {k : Nat} {x : Str} {ps : List Str} {sp : Sp} {e : Expr} {es : List Expr} {p pos : Pos} {t : TA} (G : Kn X.prog X.w X.K X.mg X.base k x ps sp) (hr : Room k X.A) (hg : Gl X x)
    (ha : PA X (e :: es) t) (hdb : (x == ("__debug__" : Str)) = false := by decide) (he : starEach (e :: es) X.env = (false, eval e X.env) :: starEach es X.env := by rfl) (hpl : (backTo pos (starEach es X.env)).any (·.1) = false := by rfl) :
    PE X (.Call (.Name x p) (e :: es) [] pos) (tCall sp [] E0 t) := by
  obtain ⟨f, fd, F, m, kp, b⟩ := G.ex
  exact pe_call F hr hg m kp b .nil pass0 ha hdb he hpl
/-- a def of the text: where it stands -/
abbrev FnP (K : PySem.W.Frag) (x : Str) (st : Stmt) (f : Addr) (fd : FuncData) : Prop := FunD K x x (defArgs st) (defBody st) (defScope st) [] [] f fd
structure Fn (K : PySem.W.Frag) (mg : Str → Option Value) (x : Str) (st : Stmt) : Prop where
  ex : ∃ f fd, FnP K x st f fd ∧ mg x = some (.ref f)
/-- from the walk of its body to its promise -/
theorem Fn.kn {P : Program} {w : World} {K : PySem.W.Frag} {mg : Str → Option Value} {base : Heap} {k : Nat} {x : Str} {st : Stmt} {N ps : List Str} {sp : Sp} (F : Fn K mg x st) (S : FnScope N ps (defScope st)) (len : ∀ vs H Q E, sp vs H Q E → vs.length = ps.length)
    (hbody : ∀ (f : Addr) (cdv : Value) (A : Around) (outer : List Env) (s : Shared) (H : Hp) (vs : List V) (Q : VK) (E : XK), Room k (A.deeper (PyProof.Rows.envOfC x (defScope st) s.heap.objs.size f cdv)) → sp vs H Q E →
      ∃ t, PSs (cxOf CX0 P w K mg base N x (defScope st) f cdv A outer s H E).nox (defBody st) t ∧ t { nx := fun _ H' => Q .non H', rt := Q } (start N vs) H)
    (hb : ∀ (kV doc pm : Value) (an : Option Addr) (cdv ct : Value) (us : List Value), us.length = ps.length → bindArgs (PySem.W.fnOf x x (defArgs st) (defBody st) (defScope st) .none kV doc pm an cdv ct) ⟨us, []⟩ = pure (ps.zip us)) :
    Kn P w K mg base (k + 1) x ps sp := by
  obtain ⟨f, fd, F, m⟩ := F.ex
  refine ⟨f, fd, F.ok S len fun cdv A outer s H vs Q E hr h => ?_, m, F.kp, F.bindsN hb⟩
  obtain ⟨t, p, q⟩ := hbody f cdv A outer s H vs Q E hr h
  exact ⟨t, p.nox, q⟩
/-- the same for the law itself, whose function object is known -/
theorem fnp_ok {P : Program} {w : World} {K : PySem.W.Frag} {mg : Str → Option Value} {base : Heap} {k : Nat} {x : Str} {st : Stmt} {N ps : List Str} {sp : Sp} {f : Addr} {fd : FuncData} (F : FnP K x st f fd) (S : FnScope N ps (defScope st)) (len : ∀ vs H Q E, sp vs H Q E → vs.length = ps.length)
    (hbody : ∀ (cdv : Value) (A : Around) (outer : List Env) (s : Shared) (H : Hp) (vs : List V) (Q : VK) (E : XK), Room k (A.deeper (PyProof.Rows.envOfC x (defScope st) s.heap.objs.size f cdv)) → sp vs H Q E →
      ∃ t, PSs (cxOf CX0 P w K mg base N x (defScope st) f cdv A outer s H E).nox (defBody st) t ∧ t { nx := fun _ H' => Q .non H', rt := Q } (start N vs) H) : FnOk P w K mg base CX0 (k + 1) f fd ps sp := by
  refine F.ok S len fun cdv A outer s H vs Q E hr h => ?_
  obtain ⟨t, p, q⟩ := hbody cdv A outer s H vs Q E hr h
  exact ⟨t, p.nox, q⟩
/-! ### x is True, x is False -/
theorem op_isB {X : Cx} : OpR X (compareOp .Is) (fun x y H Q => ∃ a b, x = .bl a ∧ y = .bl b ∧ Q (.bl (a == b)) H) := by
  intro pins s σ H x y v u Q I rx ry h
  obtain ⟨a, b, rfl, rfl, q⟩ := h
  cases (show v = Value.bool a from rx)
  cases (show u = Value.bool b from ry)
  exact PyProof.Rows.is_bool ⟨.bl (a == b), H, I, rfl, q⟩
/-! ### // by any great divisor but 0 -/
def CDivZ (_ j : Int) : Prop := j ≠ 0 ∧ j.natAbs.log2 < 9000
theorem op_fdivZ {X : Cx} : OpR X (binaryOp .FloorDiv) (rI CDivZ fun i j => .int (i.fdiv j)) := opI fun _ _ _ _ _ _ _ hc q => PyProof.Rows.floordiv_int hc.1 q (.inl (PyProof.noPylong_of_log2 hc.2))
theorem cdivZ {i j : Int} {b : Nat} (h : j ≠ 0) (hb : j.natAbs < 2 ^ b) (h0 : 0 < b) (h9 : b ≤ 9000) : CDivZ i j := ⟨h, Nat.lt_of_lt_of_le (PySem.Flt.log2_lt_of h0 hb) h9⟩
/-! ### readings, step by step -/
section
variable {σ : St} {H : Hp} {Q : VK} {D : Ends} {K : PySem.W.Frag}
theorem r_var {i : Nat} {v : V} (h : σ[i]? = some (some v)) (q : Q v H) : tVar i σ H Q := ⟨v, h, q⟩
theorem r_c {v : V} (q : Q v H) : tC v σ H Q := q
theorem r_op {r : R2} {ta tb : TE} (q : ta σ H fun x H1 => tb σ H1 fun y H2 => r x y H2 Q) : tOp r ta tb σ H Q := q
theorem r_un {r : V → Hp → VK → Prop} {ta : TE} (q : ta σ H fun x H1 => r x H1 Q) : tUn r ta σ H Q := q
theorem r_i {C : Int → Int → Prop} {g : Int → Int → V} {i j : Int} (c : C i j) (q : Q (g i j) H) : rI C g (.int i) (.int j) H Q := ⟨i, j, rfl, rfl, c, q⟩
theorem r_i0 {g : Int → Int → V} {i j : Int} (q : Q (g i j) H) : rI0 g (.int i) (.int j) H Q := ⟨i, j, rfl, rfl, q⟩
theorem r_u {g : Int → V} {i : Int} (q : Q (g i) H) : rU g (.int i) H Q := ⟨i, rfl, q⟩
theorem r_eqI {i j : Int} (q : Q (.bl (decide (i = j))) H) : rEq (.int i) (.int j) H Q := ⟨rfl, by
  rw [show decide (V.int i = V.int j) = decide (i = j) from by simp]; exact q⟩
theorem r_neI {i j : Int} (q : Q (.bl (!decide (i = j))) H) : rNe (.int i) (.int j) H Q := ⟨rfl, by
  rw [show decide (V.int i = V.int j) = decide (i = j) from by simp]; exact q⟩
theorem r_eqB {i j : Bool} (q : Q (.bl (i == j)) H) : rEq (.bl i) (.bl j) H Q := ⟨rfl, by
  rw [show decide (V.bl i = V.bl j) = (i == j) from by cases i <;> cases j <;> rfl]; exact q⟩
theorem r_eqS {i j : Str} (q : Q (.bl (decide (i = j))) H) : rEq (.str i) (.str j) H Q := ⟨rfl, by
  rw [show decide (V.str i = V.str j) = decide (i = j) from by simp]; exact q⟩
theorem r_bits {to : TE} (q : to σ H fun x H1 => ∃ i, x = .int i ∧ Q (.int (Builtin.Int.intBits i : Nat)) H1) : tBits to σ H Q := q
theorem r_int {i : Int} {Q : Int → Prop} (q : Q i) : ∃ k, V.int i = .int k ∧ Q k := ⟨i, rfl, q⟩
theorem r_cb {r : List V → Hp → VK → Prop} {t : TA} (q : t σ H fun vs H1 => r vs H1 Q) : tCB r t σ H Q := q
theorem r_nil {Q : List V → Hp → Prop} (q : Q [] H) : tNil σ H Q := q
theorem r_cons {ta : TE} {tr : TA} {Q : List V → Hp → Prop} (q : ta σ H fun x H1 => tr σ H1 fun xs H2 => Q (x :: xs) H2) : tCons ta tr σ H Q := q
theorem r_tup {t : TA} (q : t σ H fun xs H1 => xs.length ≤ sizeLine ∧ ∀ p, H1 p = none → Q (.ref p) (upd H1 p (.tup xs))) : tTup t σ H Q := q
theorem r_lst {t : TA} (q : t σ H fun xs H1 => xs.length ≤ sizeLine ∧ ∀ p, H1 p = none → Q (.ref p) (upd H1 p (.lst xs))) : tLst t σ H Q := q
theorem r_call {sp : Sp} {E : XK} {t : TA} (q : t σ H fun vs H1 => sp (vs ++ []) H1 Q E) : tCall sp [] E t σ H Q := q
theorem r_seq {t u : TS} (q : t { D with nx := u D } σ H) : tSeq t u D σ H := q
theorem r_seqA {te : TE} {g : TG} {u : TS} (q : te σ H fun x H1 => g x σ H1 (u D)) : tSeq (tAsg te g) u D σ H := q
theorem r_seqD {te : TE} {u : TS} (q : te σ H fun _ H1 => u D σ H1) : tSeq (tDrop te) u D σ H := q
theorem r_seqP {i j : Nat} {ta : TA} {u : TS} (q : ta σ H fun vs H1 => ∃ v w, vs = [v, w] ∧ u D ((σ.set i (some v)).set j (some w)) H1) : tSeq (tPar i j ta) u D σ H := q
theorem r_cut {t u : TS} (R : St → Hp → Prop) (k : ∀ σ1 H1, R σ1 H1 → u D σ1 H1) (h : ∀ N : St → Hp → Prop, (∀ σ1 H1, R σ1 H1 → N σ1 H1) → t { D with nx := N } σ H) : tSeq t u D σ H := h _ k
theorem r_next (q : D.nx σ H) : tNext D σ H := q
theorem r_nx {a c d : St → Hp → Prop} {b : VK} (q : a σ H) : (Ends.mk a b c d).nx σ H := q
theorem r_asg {te : TE} {g : TG} (q : te σ H fun x H1 => g x σ H1 D.nx) : tAsg te g D σ H := q
theorem r_gname {i : Nat} {v : V} {Q : St → Hp → Prop} (q : Q (σ.set i (some v)) H) : gName i v σ H Q := q
theorem r_gsub {to ti : TE} {t : TSet} {v : V} {Q : St → Hp → Prop} (q : to σ H fun o H1 => ti σ H1 fun i H2 => t o i v H2 fun H3 => Q σ H3) : gSub to ti t v σ H Q := q
theorem r_ret {te : TE} (q : te σ H D.rt) : tRet te D σ H := q
theorem r_drop {te : TE} (q : te σ H fun _ H1 => D.nx σ H1) : tDrop te D σ H := q
theorem r_ifs {c : TT} {t u : TS} (q : c σ H fun b H1 => if b = true then t D σ H1 else u D σ H1) : tIfS c t u D σ H := q
theorem r_test {t : TE} {Q : Bool → Hp → Prop} (q : t σ H fun x H' => ∃ k, x = .bl k ∧ Q k H') : tTest t σ H Q := q
theorem r_tB {t : TE} {Q : Bool → Hp → Prop} (q : t σ H fun x H' => ∃ k, x = .bl k ∧ Q k H') : tB t σ H Q := q
theorem r_bl {b : Bool} {Q : Bool → Prop} (q : Q b) : ∃ k, V.bl b = .bl k ∧ Q k := ⟨b, rfl, q⟩
theorem r_and {t u : TT} {Q : Bool → Hp → Prop} (q : t σ H fun c H1 => if c = true then u σ H1 Q else Q false H1) : tAnd t u σ H Q := q
theorem r_or {t u : TT} {Q : Bool → Hp → Prop} (q : t σ H fun c H1 => if c = true then Q true H1 else u σ H1 Q) : tOr t u σ H Q := q
theorem r_not {t : TT} {Q : Bool → Hp → Prop} (q : t σ H fun c H1 => Q (!c) H1) : tNot t σ H Q := q
theorem r_andV {ta tb : TE} (q : ta σ H fun x H1 => ∃ c, x = .bl c ∧ if c = true then tb σ H1 Q else Q (.bl false) H1) : tAndV ta tb σ H Q := q
theorem r_orV {ta tb : TE} (q : ta σ H fun x H1 => ∃ c, x = .bl c ∧ if c = true then Q (.bl true) H1 else tb σ H1 Q) : tOrV ta tb σ H Q := q
theorem r_notV {ta : TE} (q : ta σ H fun x H1 => ∃ c, x = .bl c ∧ Q (.bl (!c)) H1) : tNotV ta σ H Q := q
theorem r_par {i j : Nat} {ta : TA} (q : ta σ H fun vs H1 => ∃ v w, vs = [v, w] ∧ D.nx ((σ.set i (some v)).set j (some w)) H1) : tPar i j ta D σ H := q
theorem r_two {v w : V} {Q : V → V → Prop} (q : Q v w) : ∃ a b, [v, w] = [a, b] ∧ Q a b := ⟨v, w, rfl, q⟩
theorem r_ixL {p : Addr} {xs : List V} {i : Int} {v : V} (h : SqL K H p xs) (a : atI xs i = some v) (q : Q v H) : rIxL K (.ref p) (.int i) H Q := ⟨p, xs, i, v, rfl, rfl, h, a, q⟩
theorem r_ixT {p : Addr} {xs : List V} {i : Int} {v : V} (h : SqT K H p xs) (a : atI xs i = some v) (q : Q v H) : rIxT K (.ref p) (.int i) H Q := ⟨p, xs, i, v, rfl, rfl, h, a, q⟩
theorem r_setL {p : Addr} {xs : List V} {k : Int} {j : Nat} {v : V} {Q : Hp → Prop} (h : H p = some (.lst xs)) (a : ixN xs.length k = some j) (q : Q (upd H p (.lst (xs.set j v)))) : rSetL (.ref p) (.int k) v H Q := ⟨p, xs, k, j, rfl, rfl, h, a, q⟩
theorem r_isi {x : V} {a b : String} {r : Bool} (ty : TyX K H x (.type a)) (h : kitB a b = some r) (q : Q (.bl r) H) : rIsi K [x, .ty b] H Q := ⟨x, .ty b, .type a, .type b, r, rfl, .ty b, ty, kit_ty h, q⟩
theorem r_eqFr {p q : Addr} {a b c d : Int} (h1 : SqT K H p [.int a, .int b]) (h2 : SqT K H q [.int c, .int d]) (e : a = c ∧ b = d) (k : Q (.bl true) H) : rEqD K (.ref p) (.ref q) H Q := by
  obtain ⟨rfl, rfl⟩ := e
  refine ⟨.tuple [.int a, .int b], .tuple [.int a, .int b], .tup h1 (.cons (.int a) (.cons (.int b) .nil)), .tup h2 (.cons (.int a) (.cons (.int b) .nil)), rfl, rfl, ?_⟩
  rw [SeqAt.eqv_refl _ rfl]
  exact k
/-- a test that is open -/
theorem r_ite {c : Prop} [Decidable c] {A B : Prop} (h1 : c → A) (h2 : ¬ c → B) : if decide c = true then A else B := by
  by_cases h : c
  · rw [decide_eq_true h]; exact h1 h
  · rw [decide_eq_false h]; exact h2 h
theorem r_iteN {c : Prop} [Decidable c] {A B : Prop} (h1 : ¬ c → A) (h2 : c → B) : if (!decide c) = true then A else B := by
  by_cases h : c
  · rw [decide_eq_true h]; exact h2 h
  · rw [decide_eq_false h]; exact h1 h
theorem r_T {A B : Prop} (h : A) : if true = true then A else B := iteT h
theorem r_dT {c : Bool} {A B : Prop} (hc : c = true) (h : A) : if c = true then A else B := by rw [hc]; exact iteT h
theorem r_dF {c : Bool} {A B : Prop} (hc : c = false) (h : B) : if c = true then A else B := by rw [hc]; exact iteF h
theorem r_nT {A B : Prop} (h : B) : if (!true) = true then A else B := iteF h
theorem r_nF {A B : Prop} (h : A) : if (!false) = true then A else B := iteT h
theorem r_F {A B : Prop} (h : B) : if false = true then A else B := iteF h
end
/-- a while by a word and a measure -/
theorem r_while {σ : St} {H : Hp} {D : Ends} {c : TT} {tb : TS} (Pv : St → Hp → Prop) (μ : St → Hp → Nat) (h0 : Pv σ H)
    (hs : ∀ σ1 H1, Pv σ1 H1 → c σ1 H1 fun b H2 => if b = true then ∃ N : St → Hp → Prop, (∀ σ2 H2, N σ2 H2 → ∃ m, m < μ σ1 H1 ∧ m = μ σ2 H2 ∧ Pv σ2 H2) ∧ tb { D with nx := N, ct := N, bk := D.nx } σ1 H2 else D.nx σ1 H2) : tWhile c tb D σ H := by
  refine ⟨fun m σ H => m = μ σ H ∧ Pv σ H, ⟨_, rfl, h0⟩, ?_⟩
  rintro m σ H ⟨rfl, p⟩
  exact hs σ H p
theorem r_turn {σ : St} {H : Hp} {D : Ends} {tb : TS} {Pv : St → Hp → Prop} {μ : St → Hp → Nat} {n : Nat} (q : tb { D with nx := fun σ2 H2 => Pv σ2 H2 ∧ μ σ2 H2 < n, ct := fun σ2 H2 => Pv σ2 H2 ∧ μ σ2 H2 < n, bk := D.nx } σ H) :
    ∃ N : St → Hp → Prop, (∀ σ2 H2, N σ2 H2 → ∃ m, m < n ∧ m = μ σ2 H2 ∧ Pv σ2 H2) ∧ tb { D with nx := N, ct := N, bk := D.nx } σ H :=
  ⟨_, fun _ _ h => ⟨_, h.2, rfl, h.1⟩, q⟩
theorem sz {n : Nat} (h : Nat.ble n 1000 = true) : n ≤ sizeLine := Nat.le_of_lt (small1000 (Nat.le_of_ble_eq_true h))
/-! ### heaps -/
/-- all but p is as it was -/
def But (p : Addr) (H H' : Hp) : Prop := ∀ b o, b ≠ p → H b = some o → H' b = some o
theorem But.refl (p : Addr) (H : Hp) : But p H H := fun _ _ _ h => h
theorem But.trans {p : Addr} {H H1 H2 : Hp} (a : But p H H1) (b : But p H1 H2) : But p H H2 := fun c o n h => b c o n (a c o n h)
theorem But.upd (p : Addr) (H : Hp) (o : HO) : But p H (upd H p o) := fun b o' n h => by rw [upd_ne n]; exact h
theorem But.same {p : Addr} {H H' : Hp} (s : Same H H') : But p H H' := fun b o _ h => s b o h
/-- what stood ahead of p's making stands -/
theorem Same.but {H0 H H' : Hp} {p : Addr} (s : Same H0 H) (n : H0 p = none) (b : But p H H') : Same H0 H' := fun c o h => b c o (ne_of_none h n) (s c o h)
theorem same_new {H : Hp} {p : Addr} (h : H p = none) (o : HO) : Same H (upd H p o) := fun b u q => by rw [upd_ne (ne_of_none q h)]; exact q
theorem nw {H : Hp} {p : Addr} (n : H p = none) (o : HO) : ∃ H1, H1 = upd H p o ∧ Same H H1 ∧ H1 p = some o := ⟨_, rfl, same_new n o, upd_same⟩
theorem _root_.L2.Same.tp {K : PySem.W.Frag} {H H' : Hp} {a : Addr} {xs : List V} (e : Same H H') (h : SqT K H a xs) : SqT K H' a xs := by
  rcases h with (h | ⟨o, h⟩) | h
  · exact .inl (.inl (e _ _ h))
  · exact .inl (.inr ⟨o, e _ _ h⟩)
  · exact .inr h
theorem But.tup {K : PySem.W.Frag} {H H' : Hp} {a p : Addr} {xs ys : List V} (e : But p H H') (hp : H p = some (.lst ys)) (h : SqT K H a xs) : SqT K H' a xs := by
  rcases h with (h | ⟨o, h⟩) | h
  · exact .inl (.inl (e _ _ (fun z => by rw [z, hp] at h; cases h) h))
  · exact .inl (.inr ⟨o, e _ _ (fun z => by rw [z, hp] at h; cases h) h⟩)
  · exact .inr h
theorem tupOf {K : PySem.W.Frag} {H : Hp} {a : Addr} {xs : List V} (h : H a = some (.tup xs)) : SqT K H a xs := .inl (.inl h)
theorem lstOf {K : PySem.W.Frag} {H : Hp} {a : Addr} {xs : List V} (h : H a = some (.lst xs)) : SqL K H a xs := .inl (.inl h)
/-! ### sizes -/
abbrev Sm (n : Nat) (i : Int) : Prop := i.natAbs < 2 ^ n
theorem Sm.mono {m n : Nat} {i : Int} (h : Sm m i) (l : m ≤ n) : Sm n i := Nat.lt_of_lt_of_le h (Nat.pow_le_pow_right (by decide) l)
theorem Sm.le {n : Nat} {i j : Int} (h : Sm n j) (l : i.natAbs ≤ j.natAbs) : Sm n i := Nat.lt_of_le_of_lt l h
theorem Sm.mul {m n : Nat} {i j : Int} (h : Sm m i) (l : Sm n j) : Sm (m + n) (i * j) := wide_lt h l
theorem Sm.neg {n : Nat} {i : Int} (h : Sm n i) : Sm n (-i) := by rw [Sm, Int.natAbs_neg]; exact h
theorem Sm.add {n : Nat} {i j : Int} (h : Sm n i) (l : Sm n j) : Sm (n + 1) (i + j) := by
  have := Int.natAbs_add_le i j
  unfold Sm at *
  rw [Nat.pow_succ]
  omega
theorem Sm.sub {n : Nat} {i j : Int} (h : Sm n i) (l : Sm n j) : Sm (n + 1) (i - j) := by
  rw [Int.sub_eq_add_neg]; exact h.add l.neg
theorem Sm.cmul {m n : Nat} {i j : Int} (h : Sm m i) (l : Sm n j) (h0 : 0 < m := by decide) (h1 : 0 < n := by decide) (s : m + n ≤ 1000000 := by decide) : CMulW i j := wide_mul h l h0 h1 s
theorem Sm.cdiv {n : Nat} {i j : Int} (p : 0 < j) (l : Sm n j) (h1 : 0 < n := by decide) (s : n ≤ 9000 := by decide) : CDivW i j := wide_div p l h1 s
theorem Sm.of_lt {n : Nat} {i j : Int} (h0 : 0 ≤ i) (h : i < j) (s : j.natAbs ≤ 2 ^ n) : Sm n i := by unfold Sm; omega
end Mb
namespace Mb
open PySem L2
theorem Sm.addm {m n : Nat} {i j : Int} (h : Sm m i) (l : Sm n j) : Sm (max m n + 1) (i + j) := (h.mono (Nat.le_max_left _ _)).add (l.mono (Nat.le_max_right _ _))
theorem Sm.subm {m n : Nat} {i j : Int} (h : Sm m i) (l : Sm n j) : Sm (max m n + 1) (i - j) := (h.mono (Nat.le_max_left _ _)).sub (l.mono (Nat.le_max_right _ _))
theorem Sm.lit {i : Int} (h : i.natAbs < 2 ^ 64) : Sm 64 i := h
theorem Sm.lit2 {i : Int} (h : i.natAbs < 2 ^ 512) : Sm 512 i := h
/-! ### lowest terms -/
def lowT (t b : Int) : Int := (if b < 0 then -t else t) / (Int.gcd t b : Int)
def lowB (t b : Int) : Int := (if b < 0 then -b else b) / (Int.gcd t b : Int)
theorem gcd_pos {t b : Int} (hb : b ≠ 0) : 0 < (Int.gcd t b : Int) := by
  have := Int.gcd_pos_of_ne_zero_right t hb
  omega
theorem lowB_pos {t b : Int} (hb : b ≠ 0) : 0 < lowB t b := by
  unfold lowB
  have g := gcd_pos (t := t) hb
  have d : (Int.gcd t b : Int) ∣ (if b < 0 then -b else b) := by
    split
    · exact (Int.dvd_neg).mpr (Int.gcd_dvd_right t b)
    · exact Int.gcd_dvd_right t b
  have p : 0 < (if b < 0 then -b else b) := by split <;> omega
  exact Int.ediv_pos_of_pos_of_dvd p (by omega) d
theorem ediv_abs {x g : Int} (hg : 0 < g) (d : g ∣ x) : (x / g).natAbs ≤ x.natAbs := by
  obtain ⟨k, rfl⟩ := d
  rw [Int.mul_ediv_cancel_left k (by omega), Int.natAbs_mul]
  have : 1 ≤ g.natAbs := by omega
  calc k.natAbs = 1 * k.natAbs := by rw [Nat.one_mul]
    _ ≤ g.natAbs * k.natAbs := Nat.mul_le_mul_right _ this
theorem lowT_le {t b : Int} (hb : b ≠ 0) : (lowT t b).natAbs ≤ t.natAbs := by
  unfold lowT
  have g := gcd_pos (t := t) hb
  have d : (Int.gcd t b : Int) ∣ (if b < 0 then -t else t) := by
    split
    · exact (Int.dvd_neg).mpr (Int.gcd_dvd_left t b)
    · exact Int.gcd_dvd_left t b
  have := ediv_abs g d
  split at this <;> split <;> simp_all
theorem lowB_le {t b : Int} (hb : b ≠ 0) : (lowB t b).natAbs ≤ b.natAbs := by
  unfold lowB
  have g := gcd_pos (t := t) hb
  have d : (Int.gcd t b : Int) ∣ (if b < 0 then -b else b) := by
    split
    · exact (Int.dvd_neg).mpr (Int.gcd_dvd_right t b)
    · exact Int.gcd_dvd_right t b
  have := ediv_abs g d
  split at this <;> split <;> simp_all
theorem low_gcd {t b : Int} (hb : b ≠ 0) : Int.gcd (lowT t b) (lowB t b) = 1 := by
  have g : 0 < Int.gcd t b := Int.gcd_pos_of_ne_zero_right t hb
  have key : ∀ x y : Int, Int.gcd x y = Int.gcd t b → Int.gcd (x / (Int.gcd t b : Int)) (y / (Int.gcd t b : Int)) = 1 := by
    intro x y e
    rw [← e]
    rw [← e] at g
    exact Int.gcd_ediv_gcd_ediv_gcd g
  unfold lowT lowB
  split
  · exact key _ _ (by rw [Int.neg_gcd, Int.gcd_neg])
  · exact key _ _ rfl
theorem low_cross {t b : Int} (hb : b ≠ 0) : lowT t b * b = t * lowB t b := by
  have g := gcd_pos (t := t) hb
  obtain ⟨x, hx⟩ := Int.gcd_dvd_left t b
  obtain ⟨y, hy⟩ := Int.gcd_dvd_right t b
  have eT : ∀ s : Int, s = (Int.gcd t b : Int) * x → s / (Int.gcd t b : Int) = x := fun s e => by rw [e, Int.mul_ediv_cancel_left _ (by omega)]
  have eB : ∀ s : Int, s = (Int.gcd t b : Int) * y → s / (Int.gcd t b : Int) = y := fun s e => by rw [e, Int.mul_ediv_cancel_left _ (by omega)]
  unfold lowT lowB
  by_cases h : b < 0
  · rw [if_pos h, if_pos h]
    rw [show -t = (Int.gcd t b : Int) * (-x) by rw [Int.mul_neg, ← hx], show -b = (Int.gcd t b : Int) * (-y) by rw [Int.mul_neg, ← hy], Int.mul_ediv_cancel_left _ (by omega), Int.mul_ediv_cancel_left _ (by omega)]
    have e1 : b = (Int.gcd t b : Int) * y := hy
    have e2 : t = (Int.gcd t b : Int) * x := hx
    generalize (Int.gcd t b : Int) = q at *
    subst e1 e2
    simp only [Int.neg_mul, Int.mul_neg, Int.mul_assoc, Int.mul_comm, Int.mul_left_comm]
  · rw [if_neg h, if_neg h, eT t hx, eB b hy]
    have e1 : b = (Int.gcd t b : Int) * y := hy
    have e2 : t = (Int.gcd t b : Int) * x := hx
    generalize (Int.gcd t b : Int) = q at *
    subst e1 e2
    simp only [Int.mul_assoc, Int.mul_comm, Int.mul_left_comm]
theorem cop_dvd {u t y : Int} (g : Int.gcd t u = 1) (d : u ∣ t * y) : u ∣ y := by
  have d1 : u.natAbs ∣ t.natAbs * y.natAbs := by rw [← Int.natAbs_mul]; exact Int.natAbs_dvd_natAbs.mpr d
  have c : Nat.Coprime u.natAbs t.natAbs := by rw [Nat.coprime_comm]; exact g
  exact Int.natAbs_dvd_natAbs.mp (c.dvd_of_dvd_mul_left d1)
/-- one worth has one form in lowest terms -/
theorem frac_unique {t u x y : Int} (hu : 0 < u) (hy : 0 < y) (g1 : Int.gcd t u = 1) (g2 : Int.gcd x y = 1) (e : t * y = x * u) : t = x ∧ u = y := by
  have d1 : u ∣ y := cop_dvd g1 ⟨x, by rw [e, Int.mul_comm]⟩
  have d2 : y ∣ u := cop_dvd g2 ⟨t, by rw [← e, Int.mul_comm]⟩
  have e2 : u = y := Int.dvd_antisymm (by omega) (by omega) d1 d2
  subst e2
  exact ⟨Int.eq_of_mul_eq_mul_right (by omega) e, rfl⟩
theorem low_eq {a b t u : Int} (hb : b ≠ 0) (hu : 0 < u) (g : Int.gcd t u = 1) (e : a * u = t * b) : lowT a b = t ∧ lowB a b = u := by
  refine frac_unique (lowB_pos hb) hu (low_gcd hb) g ?_
  have c := low_cross (t := a) hb
  apply Int.eq_of_mul_eq_mul_right hb
  calc lowT a b * u * b = lowT a b * b * u := by simp only [Int.mul_assoc, Int.mul_comm, Int.mul_left_comm]
    _ = a * lowB a b * u := by rw [c]
    _ = a * u * lowB a b := by simp only [Int.mul_assoc, Int.mul_comm, Int.mul_left_comm]
    _ = t * b * lowB a b := by rw [e]
    _ = t * lowB a b * b := by simp only [Int.mul_assoc, Int.mul_comm, Int.mul_left_comm]
theorem fdiv_exact {x g : Int} (d : g ∣ x) (c : Bool) : x.fdiv (if c then -g else g) = (if c then -x else x) / g := by
  cases c with
  | false => exact Int.fdiv_eq_ediv_of_dvd d
  | true =>
    show x.fdiv (-g) = -x / g
    rw [Int.fdiv_eq_ediv_of_dvd (Int.neg_dvd.mpr d), Int.ediv_neg, Int.neg_ediv_of_dvd d]
theorem gcd_step {x y : Int} (hx : 0 ≤ x) (hy : 0 < y) : Int.gcd y (x % y) = Int.gcd x y := by
  have e : ∃ m n : Nat, x = m ∧ y = n := ⟨x.toNat, y.toNat, by omega, by omega⟩
  obtain ⟨m, n, rfl, rfl⟩ := e
  have c : ((m : Int) % (n : Int)) = ((m % n : Nat) : Int) := by norm_cast
  rw [c, Int.gcd_natCast_natCast, Int.gcd_natCast_natCast, Nat.gcd_comm n, ← Nat.gcd_rec, Nat.gcd_comm]
theorem gcd_sm {t b : Int} {n : Nat} (hb : b ≠ 0) (sb : Sm n b) : Sm n (Int.gcd t b : Int) := sb.le (by
  have : (Int.gcd t b : Int) ∣ b := Int.gcd_dvd_right t b
  have := Int.le_of_dvd (show 0 < (b.natAbs : Int) by omega) (Int.dvd_natAbs.mpr this)
  omega)
end Mb
namespace Mb
open PySem L2
/-! ### promises of the law's own drawing -/
/-- a pool of draws at p: three numbers, the second from 0 to b -/
def Pl (H : Hp) (p : Addr) (b : Int) : Prop := ∃ x y z : Int, H p = some (.lst [.int x, .int y, .int z]) ∧ 0 ≤ y ∧ y ≤ b
theorem Pl.mono {H : Hp} {p : Addr} {b c : Int} (h : Pl H p b) (l : b ≤ c) : Pl H p c := by
  obtain ⟨x, y, z, h1, h2, h3⟩ := h
  exact ⟨x, y, z, h1, h2, by omega⟩
theorem Pl.same {H H' : Hp} {p : Addr} {b : Int} (h : Pl H p b) (s : Same H H') : Pl H' p b := by
  obtain ⟨x, y, z, h1, h2, h3⟩ := h
  exact ⟨x, y, z, s _ _ h1, h2, h3⟩
theorem Pl.but {H H' : Hp} {p q : Addr} {b : Int} (h : Pl H p b) (n : p ≠ q) (s : But q H H') : Pl H' p b := by
  obtain ⟨x, y, z, h1, h2, h3⟩ := h
  exact ⟨x, y, z, s _ _ n h1, h2, h3⟩
theorem Pl.tup {K : PySem.W.Frag} {H H' : Hp} {a p : Addr} {b : Int} {xs : List V} (h : Pl H p b) (s : But p H H') (t : SqT K H a xs) : SqT K H' a xs := by
  obtain ⟨x, y, z, h1, _⟩ := h
  exact s.tup h1 t
def spPool (K : PySem.W.Frag) : Sp := fun vs H Q _ => ∃ (a : Addr) (ns : List Int) (i : Int), vs = [.ref a, .int i] ∧ SqL K H a (ns.map V.int) ∧ ns.length ≤ 63 ∧ 0 ≤ i ∧ i ≤ 1000 ∧
  ∀ (p : Addr) (H' : Hp), Same H H' → H p = none → Pl H' p 1000000 → Q (.ref p) H'
def spTake : Sp := fun vs H Q _ => ∃ (p : Addr) (k b : Int), vs = [.ref p, .int k] ∧ Pl H p b ∧ b ≤ 2000000 ∧ 1 ≤ k ∧ k ≤ 1000000 ∧
  ∀ (r : Int) (H' : Hp), But p H H' → Pl H' p (b + 1) → 0 ≤ r → r < k → Q (.int r) H'
def spGcd : Sp := fun vs H Q _ => ∃ a b : Int, vs = [.int a, .int b] ∧ Q (.int (Int.gcd a b)) H
def spLow : Sp := fun vs H Q _ => ∃ t b : Int, vs = [.int t, .int b] ∧ b ≠ 0 ∧ Sm 8000 b ∧
  ∀ (p : Addr) (H' : Hp), Same H H' → H p = none → H' p = some (.tup [.int (lowT t b), .int (lowB t b)]) → Q (.ref p) H'
/-- a number of the pool, from 0 on, below 2 ^ 210 -/
def spNumber : Sp := fun vs H Q _ => ∃ (p : Addr) (b : Int), vs = [.ref p] ∧ Pl H p b ∧ b ≤ 1900000 ∧
  ∀ (r : Int) (H' : Hp), But p H H' → Pl H' p (b + 100) → 0 ≤ r → Sm 210 r → Q (.int r) H'
/-- a fraction: its two numbers, in lowest terms -/
structure Fr (t u : Int) : Prop where
  pos : 0 < u
  one : Int.gcd t u = 1
  st : Sm 211 t
  su : Sm 211 u
def spWide : Sp := fun vs H Q _ => ∃ (p : Addr) (b : Int), vs = [.ref p] ∧ Pl H p b ∧ b ≤ 1800000 ∧
  ∀ (q : Addr) (t u : Int) (H' : Hp), But p H H' → Pl H' p (b + 300) → H' q = some (.tup [.int t, .int u]) → Fr t u → Q (.ref q) H'
def spPair (K : PySem.W.Frag) : Sp := fun vs H Q _ => ∃ (a : Addr) (ns : List Int) (i : Int), vs = [.ref a, .int i] ∧ SqL K H a (ns.map V.int) ∧ ns.length ≤ 63 ∧ 0 ≤ i ∧ i ≤ 900 ∧
  ∀ (r p q : Addr) (t u x y : Int) (H' : Hp), Same H H' → H' r = some (.tup [.ref p, .ref q]) → SqT K H' p [.int t, .int u] → SqT K H' q [.int x, .int y] → Fr t u → Fr x y → Q (.ref r) H'
def spAsked (K : PySem.W.Frag) : Sp := fun vs H Q _ => ∃ (a : Addr) (ns : List Int) (i : Int), vs = [.ref a, .int i] ∧ SqL K H a (ns.map V.int) ∧ ns.length ≤ 63 ∧ 0 ≤ i ∧ i ≤ 900 ∧ ∀ H', Same H H' → Q (.bl true) H'
def spLaw (K : PySem.W.Frag) : Sp := fun vs H Q _ => ∃ (a : Addr) (ns : List Int), vs = [.ref a] ∧ SqL K H a (ns.map V.int) ∧ ns.length ≤ 63 ∧ ∀ H', Q (.bl true) H'
end Mb
namespace Mb
open PySem L2
/-! ### promises of what reckons with fractions -/
def spArith (K : PySem.W.Frag) (T B : Int → Int → Int → Int → Int) : Sp := fun vs H Q _ => ∃ (a b : Addr) (x y u v : Int), vs = [.ref a, .ref b] ∧ SqT K H a [.int x, .int y] ∧ SqT K H b [.int u, .int v] ∧ Sm 2000 x ∧ Sm 2000 y ∧ Sm 2000 u ∧ Sm 2000 v ∧ B x y u v ≠ 0 ∧
  ∀ (p : Addr) (H' : Hp), Same H H' → H p = none → H' p = some (.tup [.int (lowT (T x y u v) (B x y u v)), .int (lowB (T x y u v) (B x y u v))]) → Q (.ref p) H'
def spRaw (K : PySem.W.Frag) (T B : Int → Int → Int → Int → Int) : Sp := fun vs H Q _ => ∃ (a b : Addr) (x y u v : Int), vs = [.ref a, .ref b] ∧ SqT K H a [.int x, .int y] ∧ SqT K H b [.int u, .int v] ∧ Sm 2000 x ∧ Sm 2000 y ∧ Sm 2000 u ∧ Sm 2000 v ∧
  ∀ (p : Addr) (H' : Hp), Same H H' → H p = none → H' p = some (.tup [.int (T x y u v), .int (B x y u v)]) → Q (.ref p) H'
def spEven (K : PySem.W.Frag) : Sp := fun vs H Q _ => ∃ (a b : Addr) (x y u v : Int), vs = [.ref a, .ref b] ∧ SqT K H a [.int x, .int y] ∧ SqT K H b [.int u, .int v] ∧ Sm 5000 x ∧ Sm 5000 y ∧ Sm 5000 u ∧ Sm 5000 v ∧ Q (.bl (decide (x * v = u * y))) H
def spWhole : Sp := fun vs H Q _ => ∃ i : Int, vs = [.int i] ∧ Q (.bl true) H
def spIsFrac : Sp := fun vs H Q _ => ∃ (p : Addr) (t u : Int), vs = [.ref p] ∧ H p = some (.tup [.int t, .int u]) ∧ 0 < u ∧ Int.gcd t u = 1 ∧ Q (.bl true) H
end Mb
namespace Mb
open PySem L2
/-! ### defs that may raise -/
structure KnX (P : Program) (w : World) (K : PySem.W.Frag) (mg : Str → Option Value) (base : Heap) (k : Nat) (x : Str) (ps : List Str) (sp : Sp) : Prop where
  ex : ∃ f fd, FnOk P w K mg base (L2.CX P w) k f fd ps sp ∧ mg x = some (.ref f) ∧ PySem.W.keepIn K (.ref f) = true ∧ Binds K fd ps []
section
variable {X : Cx} {k : Nat} {x : Str} {ps : List Str} {sp : Sp} {e : Expr} {es : List Expr} {p pos : Pos} {t : TA}
/-- a call that is known not to raise -/
theorem pe_knX (G : KnX X.prog X.w X.K X.mg X.base k x ps sp) (hr : Room k X.A) (hg : Gl X x)
    (ha : PA X (e :: es) t) (hdb : (x == ("__debug__" : Str)) = false := by decide) (he : starEach (e :: es) X.env = (false, eval e X.env) :: starEach es X.env := by rfl) (hpl : (backTo pos (starEach es X.env)).any (·.1) = false := by rfl) :
    PE X (.Call (.Name x p) (e :: es) [] pos) (tCall sp [] E0 t) := by
  obtain ⟨f, fd, F, m, kp, b⟩ := G.ex
  exact pe_call F hr hg m kp b .nil passL ha hdb he hpl
/-- a call in a def that lets out what it raises -/
theorem pe_knXX {E : XK} (tk : Takes X (fun cls d _ H => E cls d H)) (G : KnX X.prog X.w X.K X.mg X.base k x ps sp) (hr : Room k X.A) (hg : Gl X x)
    (ha : PA X (e :: es) t) (hdb : (x == ("__debug__" : Str)) = false := by decide) (he : starEach (e :: es) X.env = (false, eval e X.env) :: starEach es X.env := by rfl) (hpl : (backTo pos (starEach es X.env)).any (·.1) = false := by rfl) :
    PE X (.Call (.Name x p) (e :: es) [] pos) (tCall sp [] E t) := by
  obtain ⟨f, fd, F, m, kp, b⟩ := G.ex
  exact pe_call F hr hg m kp b .nil (passes_call tk fun _ _ _ _ h => h) ha hdb he hpl
/-- a call in a try's body -/
theorem pe_knS {W : WX} (tk : Takes X W) (G : KnX X.prog X.w X.K X.mg X.base k x ps sp) (hr : Room k X.A) (hg : Gl X x)
    (ha : PA X (e :: es) t) (hdb : (x == ("__debug__" : Str)) = false := by decide) (he : starEach (e :: es) X.env = (false, eval e X.env) :: starEach es X.env := by rfl) (hpl : (backTo pos (starEach es X.env)).any (·.1) = false := by rfl) :
    PE X (.Call (.Name x p) (e :: es) [] pos) (tCallS sp (WE W) t) := by
  obtain ⟨f, fd, F, m, kp, b⟩ := G.ex
  exact pe_callS F hr hg m kp b (fun σ => passAt tk σ) ha hdb he hpl
end
theorem Fn.knX {P : Program} {w : World} {K : PySem.W.Frag} {mg : Str → Option Value} {base : Heap} {k : Nat} {x : Str} {st : Stmt} {N ps : List Str} {sp : Sp} (F : Fn K mg x st) (S : FnScope N ps (defScope st)) (len : ∀ vs H Q E, sp vs H Q E → vs.length = ps.length)
    (hbody : ∀ (f : Addr) (cdv : Value) (A : Around) (outer : List Env) (s : Shared) (H : Hp) (vs : List V) (Q : VK) (E : XK), Room k (A.deeper (PyProof.Rows.envOfC x (defScope st) s.heap.objs.size f cdv)) → sp vs H Q E →
      ∃ t, PSs (cxOf (L2.CX P w) P w K mg base N x (defScope st) f cdv A outer s H E) (defBody st) t ∧ t { nx := fun _ H' => Q .non H', rt := Q } (start N vs) H)
    (hb : ∀ (kV doc pm : Value) (an : Option Addr) (cdv ct : Value) (us : List Value), us.length = ps.length → bindArgs (PySem.W.fnOf x x (defArgs st) (defBody st) (defScope st) .none kV doc pm an cdv ct) ⟨us, []⟩ = pure (ps.zip us)) :
    KnX P w K mg base (k + 1) x ps sp := by
  obtain ⟨f, fd, F, m⟩ := F.ex
  exact ⟨f, fd, F.ok S len fun cdv A outer s H vs Q E hr h => hbody f cdv A outer s H vs Q E hr h, m, F.kp, F.bindsN hb⟩
/-! ### an own error class without arguments -/
structure XCls (K : PySem.W.Frag) (mg : Str → Option Value) (x : Str) (C : Addr) : Prop where
  g : mg x = some (.ref C)
  q : PySem.W.excIn K C He.veBase "ValueError.__new__" = true
  k : PySem.W.keepIn K (.ref C) = true
  b : PySem.W.subIn K (.ref C) (.type "BaseException") = some true
  t : PySem.W.typeIn K (.ref C) = some (.type "type")
theorem pmk_own0 {X : Cx} {x : Str} {C : Addr} {p pos : Pos} (T : XCls X.K X.mg x C) (hg : Gl X x) (hdb : (x == ("__debug__" : Str)) = false := by decide) :
    PMk X (.Call (.Name x p) [] [] pos) (fun _ H Q => Q (.ref C) none H) := by
  intro pins s σ H Q I h
  refine wpAny_Call_Name_kw (ld_glob I hg T.g ?_ hdb)
  obtain ⟨bm, N, nm, qn, bs, hdct, sn, sub, ab, col, dd, k0, k1, k2, k3, k5, mN, hC, hN, hni, TT⟩ := exc_obj I.kIn T.q
  obtain ⟨hp1, g1, d1, tk1, os1⟩ := s
  exact PySem.W.callWith_K0 I.kIn T.k (wpAny_call_exc_subT PySem.F.excBase_ValueError TT hC hN hni (fun h1 a mk => mk_of I mk (raises_own T.b T.t) h (I.hok.gone mk.new)) (Nat.zero_le _))
/-! ### a reading that holds under a condition -/
theorem pss_when {X : Cx} {sts : List Stmt} {p : Prop} {t : TS} (h : p → PSs X sts t) : PSs X sts (fun D σ H => p ∧ t D σ H) := ⟨fun pins s σ H D I q => (h q.1).run pins s σ H D I q.2⟩
/-! ### except clauses, with and without a name, one after the other -/
inductive Hds (X : Cx) (Wout : WX) : List ExceptHandler → (Ends → WX) → Prop
  | nil : Hds X Wout [] (fun _ => Wout)
  | plain {x : Str} {c : Value} {ts : Addr → Value → Option Addr → TS} {b0 : Stmt} {su : List Stmt} {np pq : Pos} {hds : List ExceptHandler} {w : Ends → WX} (hc : Names X x c)
      (hsu : ∀ (a : Addr) (oe : Obj) (cls : Value) (d : Option Addr) (pn : List (Addr × Obj)), Zc cls d oe → (∃ vs, oe.data = .fields vs) → PSs (X.suite a ((a, oe) :: pn)) (b0 :: su) (ts a cls d)) (r : Hds X Wout hds w) :
      Hds X Wout (.ExceptHandler (some (.Name x np)) none (b0 :: su) pq :: hds) (fun D cls d σ H => ∃ b, PySem.W.exmOne X.K cls c = some b ∧ (b = true → ∀ a, H a = none → ts a cls d D σ H) ∧ (b = false → w D cls d σ H))
  | named {x n : Str} {i : Nat} {c : Value} {ts : Addr → Value → Option Addr → TS} {b0 : Stmt} {su : List Stmt} {np pq : Pos} {hds : List ExceptHandler} {w : Ends → WX} (hN : X.N.Nodup) (hi : X.N[i]? = some n) (hln : X.env.kindOf n = some .local) (hc : Names X x c)
      (hsu : ∀ (a : Addr) (oe : Obj) (cls : Value) (d : Option Addr) (pn : List (Addr × Obj)), Zc cls d oe → (∃ vs, oe.data = .fields vs) → PSs (X.suite a ((a, oe) :: pn)) (b0 :: su) (ts a cls d)) (r : Hds X Wout hds w) :
      Hds X Wout (.ExceptHandler (some (.Name x np)) (some n) (b0 :: su) pq :: hds)
        (fun D cls d σ H => ∃ b, PySem.W.exmOne X.K cls c = some b ∧ (b = true → ∀ a, H a = none → ts a cls d { nx := fun σ1 H1 => D.nx (σ1.set i none) H1, rt := D.rt, bk := fun σ1 H1 => D.bk (σ1.set i none) H1, ct := fun σ1 H1 => D.ct (σ1.set i none) H1 } (σ.set i (some (.ref a))) H) ∧ (b = false → w D cls d σ H))
section
variable {X : Cx} {body : List Stmt} {h0 : ExceptHandler} {hds : List ExceptHandler} {w : Ends → WX} {pos : Pos} {tb : WX → TS} {Wout : WX}
theorem ps_try_hs (hs : X.stack = X.env :: X.outer) (hf : X.env.frame = some X.env.locals) (tk : Takes X Wout)
    (hb : ∀ (W : WX) (pn : List (Addr × Obj)) (xe : Value → Shared → Prop), Takes (X.tr pn xe) W → PSs (X.tr pn xe) body (tb W)) (hh : Hds X Wout (h0 :: hds) w) : PS X (.Try body (h0 :: hds) [] [] pos) (fun D σ H => tb (w D) D σ H) := by
  constructor
  intro pins s σ H D I q
  have ok := I.ok
  have hfr : X.A.frames = some (X.env :: X.outer) := hs ▸ ok.frames
  refine wpAny_Try_except (wpAny_mono ((hb (w D) (X.pn ++ pins) _ ?caught).run [] s σ H D (I.toTry _) q) ?back fun _ _ z => z)
  case back =>
    intro fl s1 z
    cases fl with
    | ret u => obtain ⟨v, σ1, H1, J, r, z⟩ := z; exact ⟨v, σ1, H1, J.ofTry ok, r, z⟩
    | cont => obtain ⟨σ1, H1, J, z⟩ := z; exact ⟨σ1, H1, J.ofTry ok, z⟩
    | brk => obtain ⟨σ1, H1, J, z⟩ := z; exact ⟨σ1, H1, J.ofTry ok, z⟩
    | next => obtain ⟨σ1, H1, J, z⟩ := z; exact wpAny_execs_nil ⟨σ1, H1, J.ofTry ok, z⟩
  case caught =>
    rintro u sx ⟨a, B, sI, pins1, σ1, H1, cls, d, rfl, J0, nb, up, sky, na, os, ag, wish⟩
    have J : Inv X pins σ1 H1 sI := J0.ofTry ok
    have skyX : Sky B (X.env :: X.outer) a (Zc cls d) X.env.locals sx.heap := hs ▸ sky
    show wpAny (model X.prog X.w) X.A (noteFrame (.ref a) X.env) _ _ _
    refine Sky.land Zc.steady hfr hf skyX fun hp fly upp => ?_
    have Jl : Inv X pins σ1 H1 { sx with heap := hp } := J.landed nb fly.1 (up.trans upp) os ag
    obtain ⟨ob, vs, hob, hz, hdat⟩ := fly.there
    have nfr : a ∉ frs (X.env :: X.outer) := fun hm => by
      obtain ⟨_, o1, e1, hnf⟩ := fly.2.2.1.mem hm
      rw [hob] at e1
      cases e1
      exact hnf _ hdat
    have nL : a ≠ X.env.locals := fun z => nfr (List.mem_filterMap.mpr ⟨X.env, List.mem_cons_self, by rw [hf, z]⟩)
    have nF : a ∉ X.fs := fun hm => by
      obtain ⟨en, hen, z⟩ := List.mem_filterMap.mp hm
      exact nfr (List.mem_filterMap.mpr ⟨en, List.mem_cons_of_mem _ hen, z⟩)
    have Su := Jl.suite hob hdat na nL nF
    have ask : ∀ {x : Str} {c : Value} {np : Pos} {Q : Value → Shared → Prop} {E : Value → Shared → Prop}, Names X x c → Q c { sx with heap := hp } → wpAny (model X.prog X.w) (X.A.mark (some (.ref a))) (eval (.Name x np) X.env) Q E { sx with heap := hp } := fun hc z => by
      obtain ⟨hg, hdbg, hm | ⟨hm, hv, hnn⟩⟩ := hc
      · exact ld_glob (X := X.suite a ((a, ob) :: (X.pn ++ pins))) Su hg hm z hdbg
      · exact ld_blt (X := X.suite a ((a, ob) :: (X.pn ++ pins))) Su hg hm hv z hnn hdbg
    have LT : PySem.W.Looks (model X.prog X.w) hp (typeOf (.ref a)) cls := fun _ _ _ _ kp z => wpAny_typeOf_ref (kp _ _ hob) (by rw [hz.1]; exact z)
    have go : ∀ {hs1 : List ExceptHandler} {w1 : Ends → WX}, Hds X Wout hs1 w1 → w1 D cls d σ1 H1 → wpAny (model X.prog X.w) X.A (handleBy (.ref a) X.env hs1) (SP X pins D) X.xe { sx with heap := hp } := by
      intro hs1 w1 hk
      induction hk with
      | nil =>
        intro z
        refine wpAny_handleBy_nil ?_
        obtain ⟨f1, f2, f3, oe, vs1, T, oT, tr, e1, e2, e3, e4, e5⟩ := id fly
        unfold PySem.passOn
        refine wpAny_bind (wpAny_field e1 e3 e4 ?_)
        rw [if_neg (by simp : ¬ ((Value.ref T == Value.none) = true))]
        have out : wpAny (model X.prog X.w) X.A (setFlight (.ref a) X.env.frame) (fun _ s4 => wpAny (model X.prog X.w) X.A (throw (.ref a) : Sem Flow) (SP X pins D) X.xe s4) X.xe { sx with heap := hp } := by
          rw [hf]
          exact HandSPX.setFlight_upZ fly fun h4 held up4 => wpAny_throw (tk _ _ ⟨a, B, sI, pins, σ1, H1, cls, d, rfl, J, nb, (up.trans upp).trans up4, .inr (.inr (hs ▸ held)), na, os, ag, z⟩)
        first
          | exact wpAny_bind out
          | exact wpAny_bind (wpAny_pure (wpAny_bind out))
      | @plain x c ts b0 su np pq hd2 w2 hc hsu r ih =>
        rintro ⟨b, hb1, yes, no⟩
        refine wpAny_handleBy_cons (codeAny_handlers_test (ask hc ((PySem.W.exm_one (M := model X.prog X.w) Jl.kIn LT hb1).here ?_))) (by intro z; cases z)
        cases b with
        | false => exact ih (no rfl)
        | true =>
          refine codeAny_handlers_suite (HandSPX.lands_againZ fly fun h4 fly4 up4 => ?_)
          have J4 : Inv X pins σ1 H1 { sx with heap := h4 } := J.landed nb fly4.1 ((up.trans upp).trans up4) os ag
          obtain ⟨o4, vs4, e4, z4, d4⟩ := fly4.there
          refine wpAny_mono ((hsu a o4 cls d (X.pn ++ pins) z4 ⟨_, d4⟩).run [] _ _ H1 _ (J4.suite e4 d4 na nL nF) (yes rfl a na)) ?_ fun _ _ z => False.elim z
          intro fl s6 z
          cases fl with
          | ret u => obtain ⟨v, σ6, H6, S6, r6, z⟩ := z; exact ⟨_, _, _, S6.unsuite ok, r6, z⟩
          | cont => obtain ⟨σ6, H6, S6, z⟩ := z; exact ⟨_, _, S6.unsuite ok, z⟩
          | brk => obtain ⟨σ6, H6, S6, z⟩ := z; exact ⟨_, _, S6.unsuite ok, z⟩
          | next => obtain ⟨σ6, H6, S6, z⟩ := z; exact ⟨_, _, S6.unsuite ok, z⟩
      | @named x n i c ts b0 su np pq hd2 w2 hN hi hln hc hsu r ih =>
        rintro ⟨b, hb1, yes, no⟩
        refine wpAny_handleBy_cons (codeAny_handlers_test (ask hc ((PySem.W.exm_one (M := model X.prog X.w) Jl.kIn LT hb1).here ?_))) (by intro z; cases z)
        cases b with
        | false => exact ih (no rfl)
        | true =>
          refine codeAny_handlers_suite_as (HandSPX.lands_againZ fly fun h4 fly4 up4 => ?_)
          have J4 : Inv X pins σ1 H1 { sx with heap := h4 } := J.landed nb fly4.1 ((up.trans upp).trans up4) os ag
          obtain ⟨o4, vs4, e4, z4, d4⟩ := fly4.there
          have S4 := J4.suite e4 d4 na nL nF
          refine store_ok (X := X.suite a ((a, o4) :: (X.pn ++ pins))) (v := .ref a) S4 hN hi (.inl hln) rfl (fun s5 S5 => ?_) (.inr hln)
          refine wpAny_mono ((hsu a o4 cls d (X.pn ++ pins) z4 ⟨_, d4⟩).run [] s5 _ H1 _ S5 (yes rfl a na)) ?_ fun _ _ z => False.elim z
          intro fl s6 z
          cases fl with
          | ret u => obtain ⟨v, σ6, H6, S6, r6, z⟩ := z; exact gone_ok (S6.unsuite ok) hN hi hln fun _ J7 => ⟨_, _, _, J7, r6, z⟩
          | cont => obtain ⟨σ6, H6, S6, z⟩ := z; exact gone_ok (S6.unsuite ok) hN hi hln fun _ J7 => ⟨_, _, J7, z⟩
          | brk => obtain ⟨σ6, H6, S6, z⟩ := z; exact gone_ok (S6.unsuite ok) hN hi hln fun _ J7 => ⟨_, _, J7, z⟩
          | next => obtain ⟨σ6, H6, S6, z⟩ := z; exact gone_ok (S6.unsuite ok) hN hi hln fun _ J7 => ⟨_, _, J7, z⟩
    exact go hh wish
end
theorem r_callS {σ : St} {H : Hp} {Q : VK} {sp : Sp} {E : St → XK} {t : TA} (q : t σ H fun vs H1 => sp vs H1 Q (E σ)) : tCallS sp E t σ H Q := q
/-! ### promises of defs that may raise: C is the class of the error -/
def spFracX (C : Addr) : Sp := fun vs H Q E => ∃ t b : Int, vs = [.int t, .int b] ∧ Sm 8000 b ∧ (b = 0 → E (.ref C) none H) ∧
  (b ≠ 0 → ∀ (p : Addr) (H' : Hp), Same H H' → H p = none → H' p = some (.tup [.int (lowT t b), .int (lowB t b)]) → Q (.ref p) H')
def spOverX (K : PySem.W.Frag) (C : Addr) : Sp := fun vs H Q E => ∃ (a b : Addr) (x y u v : Int), vs = [.ref a, .ref b] ∧ SqT K H a [.int x, .int y] ∧ SqT K H b [.int u, .int v] ∧ Sm 2000 x ∧ Sm 2000 y ∧ Sm 2000 u ∧ Sm 2000 v ∧
  (y * u = 0 → E (.ref C) none H) ∧ (y * u ≠ 0 → ∀ (p : Addr) (H' : Hp), Same H H' → H p = none → H' p = some (.tup [.int (lowT (x * v) (y * u)), .int (lowB (x * v) (y * u))]) → Q (.ref p) H')
/-! ### facts of the written part -/
def eqV (a b : Option Bool) : Bool := decide (a = b)
/-- what isinstance asks of an own error's class -/
def excCB (K : PySem.W.Frag) (x : Str) : Bool :=
  He.eqO (PySem.W.findIn K (.ref (He.ga K x)) "__getattribute__") (some (some (.builtin "BaseException.__getattribute__"))) && (He.eqO (PySem.W.findIn K (.ref (He.ga K x)) "__getattr__") (some none) &&
  (eqV (PySem.W.subIn K (.ref (He.ga K x)) (.type "BaseException")) (some true) && (PySem.W.hasDictIn K (He.ga K x) && (He.eqO (PySem.W.findIn K (.ref (He.ga K x)) "__class__") (some (some (.builtin "object.__class__"))) &&
  (He.eqO (PySem.W.specialIn K (.builtin "object.__class__") "__get__") (some (some (.builtin "getset_descriptor.__get__"))) && (eqV (PySem.W.takesIn K (.builtin "object.__class__")) (some true) && eqV (PySem.W.mroIn K (He.ga K x) (.type "object")) (some true)))))))
theorem excCB_ok {K : PySem.W.Frag} {x : Str} (h : excCB K x = true) : ExcC K (He.ga K x) := by
  obtain ⟨h1, h⟩ := He.ba h
  obtain ⟨h2, h⟩ := He.ba h
  obtain ⟨h3, h⟩ := He.ba h
  obtain ⟨h4, h⟩ := He.ba h
  obtain ⟨h5, h⟩ := He.ba h
  obtain ⟨h6, h⟩ := He.ba h
  obtain ⟨h7, h8⟩ := He.ba h
  exact ⟨He.eqO_ok h1, He.eqO_ok h2, of_decide_eq_true h3, h4, He.eqO_ok h5, He.eqO_ok h6, of_decide_eq_true h7, of_decide_eq_true h8⟩
/-- whether an error of the class x is one of the class y -/
def kitIs (K : PySem.W.Frag) (x y : Str) (b : Bool) : Bool := eqV (PySem.W.kitOne K (.ref (He.ga K x)) (.ref (He.ga K y))) (some b)
theorem kitIs_ok {K : PySem.W.Frag} {x y : Str} {b : Bool} (h : kitIs K x y b = true) : PySem.W.kitOne K (.ref (He.ga K x)) (.ref (He.ga K y)) = some b := of_decide_eq_true h
theorem xcls_of {K : PySem.W.Frag} {h : Heap} {mg : Str → Option Value} (X : K.In h) (G : h.Ns mainGlobals mg) {x : Str} (c : (He.Fa.exc x).ok K = true) (g : (He.Fa.glo x).ok K = true) : XCls K mg x (He.ga K x) := by
  obtain ⟨h1, h2, h3, h4⟩ := He.exc_ok c
  exact ⟨He.glo_ok X G g, h1, h2, h3, h4⟩
/-- the head's facts with some of one's own -/
def obsXG (n : Nat) (fa : List He.Fa) (fn : List He.DefD) (xb : PySem.W.Frag → Bool) (g : Addr → Option Obj) : He.AlD × Bool := (He.obsD fa fn (He.frG g (He.asD g n ++ [cStatics])), xb (He.frG g (He.asD g n ++ [cStatics])))
def hookX (n : Nat) (fa : List He.Fa) (fn : List He.DefD) (xb : PySem.W.Frag → Bool) : PySem.W.Hook where
  α := He.AlD × Bool
  obs := fun s => obsXG n fa fn xb s.heap.get?
  val := fun _ => (He.valD fn, true)
  says := fun _ h => ∃ K : PySem.W.Frag, K.In h ∧ He.SaysD fa fn K ∧ xb K = true
  of := fun _ _ e => ⟨_, He.frG_in, congrArg Prod.fst e, congrArg Prod.snd e⟩
  keeps := fun _ _ _ ⟨K, hK, c⟩ k => ⟨K, PySem.W.Frag.In.keeps hK k, c⟩
theorem obsXG_eq {n : Nat} {fa : List He.Fa} {fn : List He.DefD} {xb : PySem.W.Frag → Bool} {g : Addr → Option Obj} {s : Shared} (h : ∀ a, g a = s.heap.get? a) : obsXG n fa fn xb g = (hookX n fa fn xb).obs s := by
  have e : g = s.heap.get? := funext h
  subst e
  rfl
end Mb
namespace Mb
open PySem L2
/-! ### errors made and held as values -/
/-- what the written part says of an own class over ValueError whose __init__ is asked by the class's name -/
structure BeI (K : PySem.W.Frag) (B : Addr) : Prop where
  ga : PySem.W.specialIn K (.ref B) "__getattribute__" = some (some (.builtin "type.__getattribute__"))
  rd : PySem.W.readsIn K B (.type "type") = true
  fc : PySem.W.findCls K (.ref B) (.type "type") "__init__" = some (.val (.builtin "ValueError.__init__"))
/-- C(e, ..) as a value, C's own __init__ keeping sp -/
def tMkV (C : Addr) (sp : Sp) (ta : TA) : TE := fun σ H Q => ta σ H fun vs H1 => vs.length ≤ 1000 ∧ ∀ a, H1 a = none → sp (.ref a :: vs) (upd H1 a (exo a C none)) (fun v H2 => v = .non ∧ Q (.ref a) H2) (fun _ _ _ => False)
section
variable {X : Cx} {e : Expr} {es : List Expr} {te : TE} {ta : TA} {x : Str} {p p1 p2 pos : Pos} {B C : Addr}
theorem pe_beinit {pl : Sem Bool} (hg : Gl X x) (hm : X.mg x = some (.ref B)) (T : BeI X.K B) (ha : PA X (e :: es) ta) (hdb : (x == ("__debug__" : Str)) = false := by decide)
    (hc : eval (.Call (.Attribute (.Name x p1) "__init__" p2) (e :: es) [] pos) X.env = (do
        let ov ← eval (.Name x p1) X.env
        standAt p2.atName
        let (f, first) ← holding [ov] (getMethod ov "__init__" pl)
        callWith pos f first (backTo pos (starEach (e :: es) X.env)) (backToKw pos (keywordEach [] X.env))) := by rfl)
    (he : starEach (e :: es) X.env = (false, eval e X.env) :: starEach es X.env := by rfl) (hpl : (backTo pos (starEach es X.env)).any (·.1) = false := by rfl) :
    PE X (.Call (.Attribute (.Name x p1) "__init__" p2) (e :: es) [] pos) (tVeI X.K ta) := by
  constructor
  intro pins s σ H Q I h
  refine PySem.W.methodCall_KW (ld_glob I hg hm ?_ hdb) hc
  refine PySem.W.method_cls I.kIn T.ga (PySem.W.cls_value I.kIn T.rd T.fc (by decide +kernel) ?_)
  show wpAny _ _ (callWith pos (Value.builtin "ValueError.__init__") [] (backTo pos (starEach (e :: es) X.env)) []) _ _ _
  refine PyProof.Rows.callWith_method1 (thn (ha.run pos pins _ σ H _ (I.tok _) h) ?_) he hpl
  rintro us s1 ⟨vs, H1, I1, r1, a, C, ws, ev, hl, T, ea, q⟩
  subst ev
  cases r1 with
  | @cons _ u0 _ ur ra rr =>
    obtain rfl : u0 = Value.ref a := ra
    have hlen : ur.length ≤ sizeLine := Nat.le_of_lt (small1000 (by rw [← Paired.length rr]; exact hl))
    exact oinit_ok T I1 ea hlen fun s2 J => ⟨.non, H1, J, rfl, q⟩
theorem pe_mkO {fI : Addr} {k : Nat} {fd : FuncData} {ps : List Str} {sp : Sp} (T : OexC X.K C) (iC : PySem.W.findIn X.K (.ref C) "__init__" = some (some (.ref fI))) (tI : PySem.W.typeIn X.K (.ref fI) = some (.type "function"))
    (F1 : FnOk X.prog X.w X.K X.mg X.base CX0 k fI fd ps sp) (hr : Room (k + 1) X.A) (hb : Binds X.K fd ps []) (hg : Gl X x) (hm : X.mg x = some (.ref C)) (ha : PA X (e :: es) ta)
    (hdb : (x == ("__debug__" : Str)) = false := by decide) (he : starEach (e :: es) X.env = (false, eval e X.env) :: starEach es X.env := by rfl) (hpl : (backTo pos (starEach es X.env)).any (·.1) = false := by rfl) :
    PE X (.Call (.Name x p) (e :: es) [] pos) (tMkV C sp ta) := by
  constructor
  intro pins s σ H Q I h
  obtain ⟨nm, q, N, bs, bm, sn, sub, ab, col, dd, k0, k1, k2, k3, k5, hC, hbm⟩ := T.cls
  refine wpAny_Call_Name_kw (ld_glob I hg hm ?_ hdb)
  refine PySem.W.callWith_K (h₀ := X.base) I.ok.mod.kin T.kC (thn (ha.run pos pins s σ H _ I h) ?_) he hpl
  rintro us s1 ⟨vs, H1, I1, r1, hz, q1⟩
  refine ⟨I1.kIn, ?_⟩
  show wpAny _ _ (call (.ref C) us) _ _ _
  obtain ⟨hp, g, dr, tk, os⟩ := s1
  have hn : H1 (hp.objs.size + 1) = none := I1.hok.fresh (Nat.le_succ _)
  have hq := q1 (hp.objs.size + 1) hn
  generalize hh : (hp.push (PySem.W.kdv_tup us)).push (PySem.HandSPX.excO C hp.objs.size) = h2
  have kk : ∀ b o, hp.get? b = some o → h2.get? b = some o := fun b o z => by
    subst hh
    exact Heap.get?_push_of_some _ (Heap.get?_push_of_some _ z)
  have hget : h2.get? (hp.objs.size + 1) = some (PySem.HandSPX.excO C hp.objs.size) := by
    subst hh
    heap_get
  have I2 : Inv X pins σ (upd H1 (hp.objs.size + 1) (exo (hp.objs.size + 1) C none)) ⟨h2, g, dr, tk, os⟩ := I1.laid (t' := tk) (a := hp.objs.size + 1) (h' := h2) kk (Nat.le_succ _) (exo_ok hget)
  have r2 : Vals (V.ref (hp.objs.size + 1) :: vs) (Value.ref (hp.objs.size + 1) :: us) := .cons rfl r1
  have hl : (Value.ref (hp.objs.size + 1) :: us).length = ps.length := by
    rw [← r2.length]
    exact F1.len _ _ _ _ hq
  have hus : us.length ≤ sizeLine := Nat.le_of_lt (small1000 (by rw [← Paired.length r1]; exact hz))
  have bt := hb ⟨h2, g, dr, tk, os⟩ (Value.ref (hp.objs.size + 1) :: us) I2.kIn (by rw [List.append_nil]; exact hl)
  rw [List.append_nil] at bt
  have run := F1.run (X.A.under (.builtin "type.__call__" ⟨.ref C :: us, []⟩)) X.stack ⟨h2, g, dr, tk, os⟩ _ ⟨Value.ref (hp.objs.size + 1) :: us, []⟩ _ _ _ _ (hr.make C us []) (I2.env0.make C us []) bt r2 hq
  rw [← hh] at run
  refine wpAny_call (PySem.HandSPX.call_own F.excBase_ValueError (fun Y => PySem.HandSPX.refsVE_contains Y bm hbm) (I1.kIn _ _ hC) (PySem.W.looks_findIn I1.kIn iC) (fun self => PySem.W.bind_fn I1.kIn self tI) hus (codeAny_mono run ?_))
  intro r s2 z
  cases r with
  | error er => exact False.elim z
  | ok fl =>
    cases fl with
    | ret u =>
      obtain ⟨v, H2, os2, bare2, un2, hok2, rv, ev, q2⟩ := z
      subst ev
      rw [hh] at un2
      exact ⟨rv, .ref (hp.objs.size + 1), H2, I2.call' (ch := []) os2 un2 hok2 bare2 (fun b y => absurd y (by simp)), rfl, q2⟩
    | next => exact False.elim z
    | brk => exact False.elim z
    | cont => exact False.elim z
/-- C() as a value, C without own __init__ -/
theorem pe_exc0 (T : XCls X.K X.mg x C) (hg : Gl X x) (hdb : (x == ("__debug__" : Str)) = false := by decide) :
    PE X (.Call (.Name x p) [] [] pos) (fun _ H Q => ∀ a, H a = none → Q (.ref a) (upd H a (exo a C none))) := by
  constructor
  intro pins s σ H Q I h
  refine wpAny_Call_Name_kw (ld_glob I hg T.g ?_ hdb)
  obtain ⟨bm, N, nm, qn, bs, hdct, sn, sub, ab, col, dd, k0, k1, k2, k3, k5, mN, hC, hN, hni, TT⟩ := exc_obj I.kIn T.q
  obtain ⟨hp1, g1, d1, tk1, os1⟩ := s
  refine PySem.W.callWith_K0 I.kIn T.k (wpAny_call_exc_subT PySem.F.excBase_ValueError TT hC hN hni (fun h1 a mk => ?_) (Nat.zero_le _))
  have hn : H a = none := I.hok.gone mk.new
  obtain ⟨t, ht, _, _⟩ := mk.there
  exact ⟨.ref a, upd H a (exo a C none), I.laidN (t' := tk1) mk.keeps mk.new hn (exo_ok ht), rfl, h a hn⟩
end
/-- an error at a of the class at C, with its fields -/
def Er (H : Hp) (a C : Addr) (fs : List (Str × V)) : Prop := (fs = [] ∧ H a = some (exo a C none)) ∨ ∃ dx, H a = some (exo a C (some dx)) ∧ H dx = some (exd dx fs)
theorem Er.same {H H1 : Hp} {a C : Addr} {fs : List (Str × V)} (h : Er H a C fs) (s : Same H H1) : Er H1 a C fs := by
  rcases h with ⟨e, h⟩ | ⟨dx, h1, h2⟩
  · exact .inl ⟨e, s _ _ h⟩
  · exact .inr ⟨dx, s _ _ h1, s _ _ h2⟩
theorem Er.inst {X : Cx} {pins : List (Addr × Obj)} {σ : St} {H : Hp} {s : Shared} {a C : Addr} {fs : List (Str × V)} (I : Inv X pins σ H s) (h : Er H a C fs) :
    ∃ ox od, PySem.W.InstAt s.heap a ox C od ∧ ∀ (n : Str) (v : V), fs.lookup n = some v → ∃ o u, od = some o ∧ PySem.W.lookIn n o = some (some u) ∧ RelV v u := by
  rcases h with ⟨rfl, h⟩ | ⟨dx, h1, h2⟩
  · obtain ⟨t1, ho⟩ := exo_at I.hok h
    exact ⟨_, none, ⟨ho, rfl, rfl, trivial⟩, fun n v z => by cases z⟩
  · obtain ⟨t1, ho⟩ := exo_at I.hok h1
    obtain ⟨mA, hns, hr⟩ := exd_at I.hok h2
    obtain ⟨od, hod, hl⟩ := lookIn_ns hns
    refine ⟨_, some od, ⟨ho, rfl, rfl, hod⟩, fun n v z => ?_⟩
    obtain ⟨u, hu, ru⟩ := RelO.some_of (v := v) (o := mA n) (by rw [← z]; exact hr n)
    exact ⟨od, u, rfl, by rw [hl, hu], ru⟩
def rIsX (K : PySem.W.Frag) : List V → Hp → VK → Prop := fun xs H Q => ∃ (a C : Addr) (fs : List (Str × V)) (c : V) (cv : Value) (b : Bool), xs = [.ref a, c] ∧ Er H a C fs ∧ ExcC K C ∧ (∀ u, RelV c u → u = cv) ∧ PySem.W.kitOne K (.ref C) cv = some b ∧ Q (.bl b) H
theorem call_isX {X : Cx} : CallR X (.builtin "isinstance") (rIsX X.K) := by
  intro pins s σ H xs us Q I r h
  obtain ⟨a, C, fs, c, cv, b, rfl, er, T, hcv, e, q⟩ := h
  obtain ⟨u1, u2, rfl, rx, rt⟩ := vals2 r
  obtain rfl : u1 = Value.ref a := rx
  obtain rfl := hcv _ rt
  obtain ⟨ox, od, J, _⟩ := er.inst I
  have hcl : (PySem.W.clsIn X.K C).isSome = true := by
    obtain ⟨cd, hc, _⟩ := PySem.W.any_some T.hd
    rw [hc]
    rfl
  exact PySem.W.kia_one (PySem.W.kitx_exc hcl T.hg T.hk T.hs T.ha T.hn T.ht T.hm) I.kIn J e (fun z => nomatch z) fun tk => ⟨.bl b, H, I.tok tk, rfl, q⟩
def tXv (K : PySem.W.Frag) (n : Str) (te : TE) : TE := fun σ H Q => te σ H fun x H1 => ∃ (a C : Addr) (fs : List (Str × V)) (v : V), x = .ref a ∧ Er H1 a C fs ∧ ExcC K C ∧ PySem.W.findIn K (.ref C) n = some none ∧ fs.lookup n = some v ∧ Q v H1
theorem pe_xv {X : Cx} {e : Expr} {te : TE} {pos : Pos} {n : Str} (he : PE X e te) (hb : attributeBase e n X.env (eval e X.env) = eval e X.env := by rfl) : PE X (.Attribute e n pos) (tXv X.K n te) := by
  constructor
  intro pins s σ H Q I h
  refine attr_of hb (thn (he.run pins s σ H _ I h) ?_)
  rintro u s1 ⟨y, H1, I1, ry, a, C, fs, v, rfl, er, T, hno, l, q⟩
  obtain rfl : u = Value.ref a := ry
  obtain ⟨ox, od, J, fl⟩ := er.inst I1
  obtain ⟨o, w, rfl, ho, rw'⟩ := fl n v l
  exact HandSPX.exc_get I1.kIn J T.hg T.hk T.hs (PySem.W.findObj_own T.hd hno rfl ho) (handed_of rw') ⟨v, H1, I1.tok _, rw', q⟩
end Mb
namespace Mb
open PySem L2
/-! ### a class with its own __init__, as its callers take it -/
structure MkC (P : Program) (w : World) (K : PySem.W.Frag) (mg : Str → Option Value) (base : Heap) (k : Nat) (x : Str) (C : Addr) (sp : Sp) : Prop where
  ex : ∃ fI fd ps, OexC K C ∧ PySem.W.findIn K (.ref C) "__init__" = some (some (.ref fI)) ∧ PySem.W.typeIn K (.ref fI) = some (.type "function") ∧ FnOk P w K mg base CX0 k fI fd ps sp ∧ Binds K fd ps [] ∧ mg x = some (.ref C)
theorem pe_mkv {X : Cx} {k : Nat} {x : Str} {C : Addr} {sp : Sp} {e : Expr} {es : List Expr} {ta : TA} {p pos : Pos} (M : MkC X.prog X.w X.K X.mg X.base k x C sp) (hr : Room (k + 1) X.A) (hg : Gl X x) (ha : PA X (e :: es) ta)
    (hdb : (x == ("__debug__" : Str)) = false := by decide) (he : starEach (e :: es) X.env = (false, eval e X.env) :: starEach es X.env := by rfl) (hpl : (backTo pos (starEach es X.env)).any (·.1) = false := by rfl) :
    PE X (.Call (.Name x p) (e :: es) [] pos) (tMkV C sp ta) := by
  obtain ⟨fI, fd, ps, T, iC, tI, F, b, m⟩ := M.ex
  exact pe_mkO T iC tI F hr b hg m ha hdb he hpl
/-- the __init__ of a class, as it stands -/
structure FnI (K : PySem.W.Frag) (mg : Str → Option Value) (x qual : Str) (C : Addr) (st : Stmt) : Prop where
  ex : ∃ fI fd, FunD K "__init__" qual (defArgs st) (defBody st) (defScope st) [] [] fI fd ∧ OexC K C ∧ PySem.W.findIn K (.ref C) "__init__" = some (some (.ref fI)) ∧ PySem.W.typeIn K (.ref fI) = some (.type "function") ∧ mg x = some (.ref C)
theorem FnI.made {P : Program} {w : World} {K : PySem.W.Frag} {mg : Str → Option Value} {base : Heap} {k : Nat} {x qual : Str} {C : Addr} {st : Stmt} {N ps : List Str} {sp : Sp} (F : FnI K mg x qual C st) (S : FnScope N ps (defScope st)) (len : ∀ vs H Q E, sp vs H Q E → vs.length = ps.length)
    (hbody : ∀ (f : Addr) (cdv : Value) (A : Around) (outer : List Env) (s : Shared) (H : Hp) (vs : List V) (Q : VK) (E : XK), Room k (A.deeper (PyProof.Rows.envOfC qual (defScope st) s.heap.objs.size f cdv)) → sp vs H Q E → OexC K C →
      ∃ t, PSs (cxOf CX0 P w K mg base N qual (defScope st) f cdv A outer s H E).nox (defBody st) t ∧ t { nx := fun _ H' => Q .non H', rt := Q } (start N vs) H)
    (hb : ∀ (kV doc pm : Value) (an : Option Addr) (cdv ct : Value) (us : List Value), us.length = ps.length → bindArgs (PySem.W.fnOf "__init__" qual (defArgs st) (defBody st) (defScope st) .none kV doc pm an cdv ct) ⟨us, []⟩ = pure (ps.zip us)) :
    MkC P w K mg base (k + 1) x C sp := by
  obtain ⟨fI, fd, F, T, iC, tI, m⟩ := F.ex
  refine ⟨fI, fd, ps, T, iC, tI, F.ok S len fun cdv A outer s H vs Q E hr h => ?_, F.bindsN hb, m⟩
  obtain ⟨t, p, q⟩ := hbody fI cdv A outer s H vs Q E hr h T
  exact ⟨t, p.nox, q⟩
/-- __init__(self, v) keeps v as the field f -/
def spInit (C : Addr) (f : Str) (ok : V → Prop) : Sp := fun vs H Q _ => ∃ (a : Addr) (v : V), vs = [.ref a, v] ∧ ok v ∧ H a = some (exo a C none) ∧ ∀ H', But a H H' → Er H' a C [(f, v)] → Q .non H'
/-- __init__(self, l) keeps a new list with the items of l -/
def spInitL (K : PySem.W.Frag) (C : Addr) (f : Str) : Sp := fun vs H Q _ => ∃ (a h : Addr) (zs : List V), vs = [.ref a, .ref h] ∧ SqL K H h zs ∧ H a = some (exo a C none) ∧ ∀ (l : Addr) (H' : Hp), But a H H' → H l = none → l ≠ a → H' l = some (.lst zs) → Er H' a C [(f, .ref l)] → Q .non H'
def okStr (v : V) : Prop := ∃ z : Str, v = .str z ∧ z.length ≤ 1000
def okInt (v : V) : Prop := ∃ i : Int, v = .int i
theorem er_new {H : Hp} {a C dx : Addr} {f : Str} {v : V} (n : H dx = none) (ne : dx ≠ a) : Er (upd (upd H dx (exd dx [(f, v)])) a (exo a C (some dx))) a C [(f, v)] := .inr ⟨dx, upd_same, by rw [upd_ne ne, upd_same]⟩
theorem but_new {H : Hp} {a C dx : Addr} {fs : List (Str × V)} (n : H dx = none) : But a H (upd (upd H dx (exd dx fs)) a (exo a C (some dx))) := fun b o nb h => by
  rw [upd_ne nb, upd_ne (ne_of_none h n)]
  exact h
theorem but_made {H H' : Hp} {a : Addr} {o : HO} (b : But a (upd H a o) H') (n : H a = none) : Same H H' := fun c u h => b c u (ne_of_none h n) (by rw [upd_ne (ne_of_none h n)]; exact h)
/-! ### the nineteen refusals, by number -/
def nms : List Str := ["BadName", "Taken", "NoThing", "WrongSort", "NotFree", "Far", "TooHeavy", "Ring", "Locked", "NoGroup", "NoWatcher", "NoMark", "Rooted", "TooWide", "Hung", "BadText", "Nought", "NoNumber", "NoStep"]
def nm (i : Nat) : Str := nms.getD i ""
structure Cs (K : PySem.W.Frag) (mg : Str → Option Value) (c : Nat → Addr) (B : Addr) : Prop where
  g : ∀ i, i < 19 → mg (nm i) = some (.ref (c i))
  gB : mg "BookError" = some (.ref B)
  ex : ∀ i, i < 19 → ExcC K (c i)
  ki : ∀ i j, i < 19 → j < 19 → PySem.W.kitOne K (.ref (c i)) (.ref (c j)) = some (decide (((j : Nat) : Int) = ((i : Nat) : Int)))
  kB : ∀ i, i < 19 → PySem.W.kitOne K (.ref (c i)) (.ref B) = some true
  kV : ∀ i, i < 19 → PySem.W.kitOne K (.ref (c i)) (.type "ValueError") = some true
def bls (l : List Bool) : List V := l.map V.bl
theorem paired_flat {K : PySem.W.Frag} {H : Hp} : ∀ {xs : List V}, (∀ x ∈ xs, flatB x = true) → Paired (EqV K H 1) xs xs
  | [], _ => .nil
  | x :: xs, h => .cons (.inl ⟨rfl, h x List.mem_cons_self⟩) (paired_flat fun y hy => h y (List.mem_cons_of_mem _ hy))
theorem r_eqFlat {K : PySem.W.Frag} {H : Hp} {Q : VK} {a b : Addr} {xs : List V} (h1 : SqL K H a xs) (h2 : SqL K H b xs) (hf : ∀ x ∈ xs, flatB x = true) (q : Q (.bl true) H) : rEqV K (.ref a) (.ref b) H Q :=
  ⟨1, by decide, .inl ⟨a, b, xs, xs, rfl, rfl, h1, h2, paired_flat hf⟩, q⟩
section
variable {σ : St} {H : Hp} {Q : VK} {D : Ends} {K : PySem.W.Frag}
theorem r_vei {ta : TA} (q : ta σ H fun vs H1 => ∃ (a C : Addr) (ws : List V), vs = .ref a :: ws ∧ ws.length ≤ 1000 ∧ OexC K C ∧ H1 a = some (exo a C none) ∧ Q .non H1) : tVeI K ta σ H Q := q
theorem r_ost {f : Str} {to te : TE} (q : te σ H fun y H1 => to σ H1 fun x H2 => ∃ a C : Addr, x = .ref a ∧ OexC K C ∧ PySem.W.findIn K (.ref C) f = some none ∧
    ((H2 a = some (exo a C none) ∧ ∀ dx, H2 dx = none → dx ≠ a → D.nx σ (upd (upd H2 dx (exd dx [(f, y)])) a (exo a C (some dx)))) ∨ ∃ (dx : Addr) (fs : List (Str × V)), H2 a = some (exo a C (some dx)) ∧ H2 dx = some (exd dx fs) ∧ fs.length ≤ 900 ∧ D.nx σ (upd H2 dx (exd dx ((f, y) :: fs))))) : tOst K f to te D σ H := q
theorem r_js1 {t : TE} {ts : List TE} {acc : Str} {R : Str → Hp → Prop} (q : t σ H fun x H1 => ∃ y : Str, x = .str y ∧ (acc ++ y).length ≤ sizeLine ∧ tJs ts (acc ++ y) σ H1 R) : tJs (t :: ts) acc σ H R := q
theorem r_yes {R : Bool → Hp → Prop} (q : R true H) : tYes σ H R := q
theorem r_bm {T : String} {r : V → List V → Hp → VK → Prop} {to : TE} {t : TA} (q : to σ H fun x H1 => tyV K T x H1 ∧ t σ H1 fun xs H2 => r x xs H2 Q) : tBM K T r to t σ H Q := q
theorem r_forR {ta : TA} {g : TG} {tb : TS} (q : ta σ H fun vs H1 => ∃ j : Int, vs = [.int j] ∧ -(2 ^ 62) ≤ j ∧ j < 2 ^ 62 ∧ ∃ W : Nat → Nat → St → Hp → Prop, (∃ m, W 0 m σ H1) ∧ ∀ i m σ H, W i m σ H →
    ((Itr 0 j.toNat).stop i H ∧ D.nx σ H) ∨ ((Itr 0 j.toNat).go i H ∧ ∃ N : St → Hp → Prop, (∀ σ1 H1, N σ1 H1 → ∃ m1, m1 < m ∧ W (i + 1) m1 σ1 H1) ∧ ∀ x H1, (Itr 0 j.toNat).yld i H x H1 → g x σ H1 fun σ2 H2 => tb { D with nx := N, ct := N, bk := D.nx } σ2 H2)) : tFor (iRng1 ta) g tb D σ H := q
theorem r_js0 {acc : Str} {R : Str → Hp → Prop} (q : R acc H) : tJs [] acc σ H R := q
theorem r_fmt {te : TE} (q : te σ H fun x H1 => (∃ y : Str, x = .str y ∧ y.length ≤ sizeLine ∧ Q (.str y) H1) ∨ ∃ i : Int, x = .int i ∧ i.natAbs.log2 < 1920 ∧ Q (.str (toString i)) H1) : tFmt te σ H Q := q
theorem r_xv {n : Str} {te : TE} (q : te σ H fun x H1 => ∃ (a C : Addr) (fs : List (Str × V)) (v : V), x = .ref a ∧ Er H1 a C fs ∧ ExcC K C ∧ PySem.W.findIn K (.ref C) n = some none ∧ fs.lookup n = some v ∧ Q v H1) : tXv K n te σ H Q := q
theorem r_mkv {C : Addr} {sp : Sp} {ta : TA} (q : ta σ H fun vs H1 => vs.length ≤ 1000 ∧ ∀ a, H1 a = none → sp (.ref a :: vs) (upd H1 a (exo a C none)) (fun v H2 => v = .non ∧ Q (.ref a) H2) (fun _ _ _ => False)) : tMkV C sp ta σ H Q := q
end
theorem cat_len (a b : Str) : (a ++ b).length = a.length + b.length := by
  show (a.cps ++ b.cps).size = a.cps.size + b.cps.size
  exact Array.size_append
theorem at_strK {z : Str} {r : Int} {n : Nat} (hn : z.cps.toList.length = n) (r0 : 0 ≤ r) (r1 : r < n) : ∃ c, atI z.cps.toList r = some c := by
  have hk : r.toNat < z.cps.toList.length := by omega
  refine ⟨z.cps.toList[r.toNat], ?_⟩
  have e : r = ((r.toNat : Nat) : Int) := by omega
  have q : atI z.cps.toList ((r.toNat : Nat) : Int) = some z.cps.toList[r.toNat] := atI_nat (List.getElem?_eq_getElem hk)
  rw [← e] at q
  exact q
/-- a name drawn from the pool, unlike those had -/
def spName (K : PySem.W.Frag) : Sp := fun vs H Q _ => ∃ (p h : Addr) (b : Int) (zs : List Str), vs = [.ref p, .ref h] ∧ Pl H p b ∧ b ≤ 1900000 ∧ SqL K H h (zs.map V.str) ∧ h ≠ p ∧ zs.length ≤ 8 ∧ ∀ (z : Str) (H' : Hp), But p H H' → Pl H' p (b + 30) → z.length ≤ 40 → Q (.str z) H'
/-- an error of the class number w, with a name -/
def spMade (c : Nat → Addr) : Sp := fun vs H Q _ => ∃ (w : Nat) (z : Str), vs = [.int w, .str z] ∧ w < 14 ∧ z.length ≤ 1000 ∧ ∀ (a : Addr) (H' : Hp), Same H H' → Er H' a (c w) [("name", .str z)] → Q (.ref a) H'
/-- it is of its own class, of the base and of ValueError, and of none of the others -/
def spIs (c : Nat → Addr) : Sp := fun vs H Q _ => ∃ (w : Nat) (a : Addr) (fs : List (Str × V)), vs = [.int w, .ref a] ∧ w < 19 ∧ Er H a (c w) fs ∧ ∀ H', Same H H' → Q (.bl true) H'
theorem Er.set {H : Hp} {a C l : Addr} {fs : List (Str × V)} {xs ys : List V} (h : Er H a C fs) (hl : H l = some (.lst xs)) : Er (L2.upd H l (.lst ys)) a C fs := by
  have ne : ∀ {b : Addr} {φ : Heap → Prop}, H b = some (HO.ext φ) → b ≠ l := fun hb z => by
    rw [z, hl] at hb
    cases hb
  rcases h with ⟨e, h⟩ | ⟨dx, h1, h2⟩
  · exact .inl ⟨e, by rw [upd_ne (ne h)]; exact h⟩
  · exact .inr ⟨dx, by rw [upd_ne (ne h1)]; exact h1, by rw [upd_ne (ne h2)]; exact h2⟩
end Mb
namespace Mb
open PySem PySem.Spec PyProof.Rows L2
/-! ### Base.__init__(self, ..) where Base has a def of its own -/
structure BoI (K : PySem.W.Frag) (B fB : Addr) : Prop where
  ga : PySem.W.specialIn K (.ref B) "__getattribute__" = some (some (.builtin "type.__getattribute__"))
  rd : PySem.W.readsIn K B (.type "type") = true
  fc : PySem.W.findCls K (.ref B) (.type "type") "__init__" = some (.val (.ref fB))
  ty : PySem.W.typeIn K (.ref fB) = some (.type "function")
  kp : PySem.W.keepIn K (.ref fB) = true
/-- Base.__init__ as its callers take it -/
structure KnB (P : Program) (w : World) (K : PySem.W.Frag) (mg : Str → Option Value) (base : Heap) (k : Nat) (x : Str) (ps : List Str) (sp : Sp) : Prop where
  ex : ∃ B fB fd, FnOk P w K mg base CX0 k fB fd ps sp ∧ BoI K B fB ∧ mg x = some (.ref B) ∧ Binds K fd ps []
section
variable {X : Cx} {e : Expr} {es : List Expr} {ta : TA} {x : Str} {p p1 p2 pos : Pos} {k : Nat} {ps : List Str} {sp : Sp}
theorem pe_own {pl : Sem Bool} (G : KnB X.prog X.w X.K X.mg X.base k x ps sp) (hr : Room k X.A) (hg : Gl X x) (ha : PA X (e :: es) ta) (hdb : (x == ("__debug__" : Str)) = false := by decide)
    (hc : eval (.Call (.Attribute (.Name x p1) "__init__" p2) (e :: es) [] pos) X.env = (do
        let ov ← eval (.Name x p1) X.env
        standAt p2.atName
        let (f, first) ← holding [ov] (getMethod ov "__init__" pl)
        callWith pos f first (backTo pos (starEach (e :: es) X.env)) (backToKw pos (keywordEach [] X.env))) := by rfl)
    (he : starEach (e :: es) X.env = (false, eval e X.env) :: starEach es X.env := by rfl) (hpl : (backTo pos (starEach es X.env)).any (·.1) = false := by rfl) :
    PE X (.Call (.Attribute (.Name x p1) "__init__" p2) (e :: es) [] pos) (tCall sp [] E0 ta) := by
  obtain ⟨B, fB, fd, F, T, hm, hb⟩ := G.ex
  constructor
  intro pins s σ H Q I h
  refine PySem.W.methodCall_KW (ld_glob I hg hm ?_ hdb) hc
  refine PySem.W.method_cls I.kIn T.ga (PySem.W.cls_value I.kIn T.rd T.fc rfl ?_)
  show wpAny _ _ (callWith pos (Value.ref fB) [] (backTo pos (starEach (e :: es) X.env)) []) _ _ _
  refine PySem.W.callWith_K (h₀ := X.base) I.ok.mod.kin T.kp (thn (ha.run pos pins _ σ H _ (I.tok _) h) fun us s1 ⟨vs, H1, I1, r, q⟩ => ⟨I1.kIn, ?_⟩) he hpl
  exact run_fn F hr hb .nil pass0 I1 r q
/-- C() raised, C's own __init__ keeping sp -/
theorem pmk_mk0 {C : Addr} (M : MkC X.prog X.w X.K X.mg X.base k x C sp) (hr : Room (k + 1) X.A) (hg : Gl X x) (hdb : (x == ("__debug__" : Str)) = false := by decide) :
    PMk X (.Call (.Name x p) [] [] pos) (tMkO C sp [] tNil) := by
  obtain ⟨fI, fd, ps, T, iC, tI, F1, hb, hm⟩ := M.ex
  intro pins s σ H Q I h
  obtain ⟨nm, q, N, bs, bm, sn, sub, ab, col, dd, k0, k1, k2, k3, k5, hC, hbm⟩ := T.cls
  refine wpAny_Call_Name_kw (ld_glob I hg hm ?_ hdb)
  refine PySem.W.callWith_K0 I.kIn T.kC ?_
  obtain ⟨hz, q1⟩ := h
  have I1 := I
  obtain ⟨hp, g, dr, tk, os⟩ := s
  have hsz : hp.objs.size ≤ hp.objs.size + 1 := Nat.le_succ _
  have hn : H (hp.objs.size + 1) = none := I1.hok.fresh hsz
  have hq := q1 (hp.objs.size + 1) hn
  have kk : ∀ b o, hp.get? b = some o → ((hp.push (PySem.W.kdv_tup [])).push (PySem.HandSPX.excO C hp.objs.size)).get? b = some o := fun b o e => Heap.get?_push_of_some _ (Heap.get?_push_of_some _ e)
  have hget : ((hp.push (PySem.W.kdv_tup [])).push (PySem.HandSPX.excO C hp.objs.size)).get? (hp.objs.size + 1) = some (PySem.HandSPX.excO C hp.objs.size) := by heap_get
  have I2 : Inv X pins σ (upd H (hp.objs.size + 1) (exo (hp.objs.size + 1) C none)) ⟨(hp.push (PySem.W.kdv_tup [])).push (PySem.HandSPX.excO C hp.objs.size), g, dr, tk, os⟩ :=
    I1.laid (t' := tk) (a := hp.objs.size + 1) (o := exo (hp.objs.size + 1) C none) (h' := (hp.push (PySem.W.kdv_tup [])).push (PySem.HandSPX.excO C hp.objs.size)) kk hsz (exo_ok hget)
  have r2 : Vals [V.ref (hp.objs.size + 1)] [Value.ref (hp.objs.size + 1)] := .cons rfl .nil
  have hl : ([Value.ref (hp.objs.size + 1)] ++ ([] : List Value)).length = ps.length := F1.len _ _ _ _ hq
  refine wpAny_call (PySem.HandSPX.call_own F.excBase_ValueError (fun Y => PySem.HandSPX.refsVE_contains Y bm hbm) (I1.kIn _ _ hC) (PySem.W.looks_findIn I1.kIn iC) (fun self => PySem.W.bind_fn I1.kIn self tI) (Nat.zero_le _)
    (codeAny_mono (F1.run _ X.stack _ _ ⟨[Value.ref (hp.objs.size + 1)], []⟩ [Value.ref (hp.objs.size + 1)] _ _ (fun _ _ _ => False) (hr.make C [] []) (I2.env0.make C [] []) (hb _ [Value.ref (hp.objs.size + 1)] I2.kIn hl) r2 hq) fun r s' hq' => ?_))
  cases r with
  | error er => exact False.elim hq'
  | ok fl =>
    cases fl with
    | ret u =>
      obtain ⟨v, H2, os2, bare2, un2, hok2, rv, ev, d, fs, ea, ed, hd1, q2⟩ := hq'
      subst ev
      obtain ⟨h2, g2, d2, t2, os'⟩ := s'
      exact ⟨rv, mk_end (raises_own T.exC T.tyC) I1 hsz kk un2 hok2 os2 bare2 ea ed hd1 q2⟩
    | next => exact False.elim hq'
    | brk => exact False.elim hq'
    | cont => exact False.elim hq'
theorem pmk_mk {C : Addr} (M : MkC X.prog X.w X.K X.mg X.base k x C sp) (hr : Room (k + 1) X.A) (hg : Gl X x) (ha : PA X (e :: es) ta)
    (hdb : (x == ("__debug__" : Str)) = false := by decide) (he : starEach (e :: es) X.env = (false, eval e X.env) :: starEach es X.env := by rfl) (hpl : (backTo pos (starEach es X.env)).any (·.1) = false := by rfl) :
    PMk X (.Call (.Name x p) (e :: es) [] pos) (tMkO C sp [] ta) := by
  obtain ⟨fI, fd, ps, T, iC, tI, F1, hb, hm⟩ := M.ex
  exact pmk_oex T iC tI F1 hr hb .nil pass0 hg hm ha hdb he hpl
end
/-- isinstance(e, c) of a caught error with fields -/
def rIsED (K : PySem.W.Frag) (D a : Addr) (d : Option Addr) : List V → Hp → VK → Prop := fun xs H Q => ∃ (c : V) (cv : Value) (b : Bool) (dd : Addr) (fs : List (Str × V)), xs = [.ref a, c] ∧ (∀ u, RelV c u → u = cv) ∧ PySem.W.kitOne K (.ref D) cv = some b ∧ d = some dd ∧ H dd = some (.xd fs) ∧ Q (.bl b) H
theorem call_isED {X : Cx} {a D : Addr} {d : Option Addr} {oe : Obj} {pn : List (Addr × Obj)} (C : ExcC X.K D) (hz : Zc (.ref D) d oe) (hf : ∃ vs, oe.data = .fields vs) : CallR (X.suite a ((a, oe) :: pn)) (.builtin "isinstance") (rIsED X.K D a d) := by
  intro pins s σ H xs us Q I r h
  obtain ⟨c, cv, b, dd, fs, rfl, hcv, e, rfl, ea, q⟩ := h
  cases r with
  | cons rx rr =>
    cases rr with
    | cons rt rr =>
      cases rr
      cases rx
      have ec := hcv _ rt
      subst ec
      obtain ⟨hget, _⟩ := I.pin (a, oe) (List.mem_append.mpr (.inl List.mem_cons_self))
      obtain ⟨vs, hv⟩ := hf
      have hx : ObjOk X.prog X.w H s.heap dd (.xd fs) := I.hok dd _ ea
      obtain ⟨mA, hns, hr⟩ := hx
      obtain ⟨od, ho, hl⟩ := lookIn_ns hns
      have J : PySem.W.InstAt s.heap a oe D (some od) := ⟨hget, hz.1, by unfold PySem.W.notCls; rw [hv] <;> rfl, by rw [hz.2]; exact ho⟩
      have hcl : (PySem.W.clsIn X.K D).isSome = true := by
        obtain ⟨cd, hc, _⟩ := PySem.W.any_some C.hd
        rw [hc]
        rfl
      exact PySem.W.kia_one (PySem.W.kitx_exc hcl C.hg C.hk C.hs C.ha C.hn C.ht C.hm) I.kIn J e (fun z => nomatch z) fun tk => ⟨.bl b, H, I.kept (t' := tk) fun _ _ z => z, rfl, q⟩
theorem call_isEC {X : Cx} {a D : Addr} {cls : Value} {d : Option Addr} {oe : Obj} {pn : List (Addr × Obj)} (C : ExcC X.K D) (hp : cls = .ref D) (hz : Zc cls d oe) (hf : ∃ vs, oe.data = .fields vs) : CallR (X.suite a ((a, oe) :: pn)) (.builtin "isinstance") (rIsED X.K D a d) := by
  subst hp
  exact call_isED C hz hf
/-! ### the base's __init__(self, message, words) -/
structure FnB (K : PySem.W.Frag) (mg : Str → Option Value) (x qual : Str) (st : Stmt) : Prop where
  ex : ∃ B fB fd u v, FunD K "__init__" qual (defArgs st) (defBody st) (defScope st) [u, v] [] fB fd ∧ BoI K B fB ∧ mg x = some (.ref B)
theorem FnB.made {P : Program} {w : World} {K : PySem.W.Frag} {mg : Str → Option Value} {base : Heap} {k : Nat} {x qual : Str} {st : Stmt} {N ps : List Str} {sp : Sp} (F : FnB K mg x qual st) (S : FnScope N ps (defScope st)) (len : ∀ vs H Q E, sp vs H Q E → vs.length = ps.length)
    (hbody : ∀ (f : Addr) (cdv : Value) (A : Around) (outer : List PySem.Env) (s : Shared) (H : Hp) (vs : List V) (Q : VK) (E : XK), Room k (A.deeper (PyProof.Rows.envOfC qual (defScope st) s.heap.objs.size f cdv)) → sp vs H Q E →
      ∃ t, PSs (cxOf CX0 P w K mg base N qual (defScope st) f cdv A outer s H E).nox (defBody st) t ∧ t { nx := fun _ H' => Q .non H', rt := Q } (start N vs) H)
    (h3 : ps.length = 3) (hb : ∀ (T : Addr) (kV doc pm : Value) (an : Option Addr) (cdv ct : Value) (us its : List Value), us.length = 3 → its.length = 2 →
      ∃ k, bindArgs (PySem.W.fnOf "__init__" qual (defArgs st) (defBody st) (defScope st) (.ref T) kV doc pm an cdv ct) ⟨us, []⟩ = seqItems? (.ref T) >>= k ∧ k (some its.toArray) = pure (ps.zip (us ++ its.drop 2))) :
    KnB P w K mg base (k + 1) x ps sp := by
  obtain ⟨B, fB, fd, u, v, F, T, m⟩ := F.ex
  obtain ⟨ds, r, b⟩ := F.binds1 (ps := ps) 3 2 (by simp) (by simp [h3]) hb
  have : ds = [] := by
    have := r.length
    simp at this
    exact List.eq_nil_of_length_eq_zero this.symm
  subst this
  refine ⟨B, fB, fd, F.ok S len fun cdv A outer s H vs Q E hr h => ?_, T, m, b⟩
  obtain ⟨t, p, q⟩ := hbody fB cdv A outer s H vs Q E hr h
  exact ⟨t, p.nox, q⟩
def spBook (K : PySem.W.Frag) : Sp := fun vs H Q _ => ∃ (a C wd : Addr) (m : Str), vs = [.ref a, .str m, .ref wd] ∧ H a = some (exo a C none) ∧ OexC K C ∧ PySem.W.findIn K (.ref C) "words" = some none ∧
  ∀ (dx : Addr) (H' : Hp), H dx = none → dx ≠ a → But a H H' → H' a = some (exo a C (some dx)) → H' dx = some (exd dx [("words", .ref wd)]) → Q .non H'
/-- an __init__(self) without a value of its own -/
def spInit0 (C : Addr) : Sp := fun vs H Q _ => ∃ a : Addr, vs = [.ref a] ∧ H a = some (exo a C none) ∧ ∀ (dx : Addr) (fs : List (Str × V)) (H' : Hp), H dx = none → dx ≠ a → But a H H' → H' a = some (exo a C (some dx)) → H' dx = some (exd dx fs) → Q .non H'
/-- the facts of the base in the head -/
def boB (K : PySem.W.Frag) (x : Str) : Bool := He.eqO (PySem.W.specialIn K (.ref (He.ga K x)) "__getattribute__") (some (some (.builtin "type.__getattribute__"))) && (PySem.W.readsIn K (He.ga K x) (.type "type") && (match PySem.W.findCls K (.ref (He.ga K x)) (.type "type") "__init__" with
    | some (.val a) => decide (a = .ref (He.ma K (He.ga K x) "__init__")) && (decide (PySem.W.typeIn K (.ref (He.ma K (He.ga K x) "__init__")) = some (.type "function")) && PySem.W.keepIn K (.ref (He.ma K (He.ga K x) "__init__")))
    | _ => false))
theorem boB_ok {K : PySem.W.Frag} {x : Str} (h : boB K x = true) : BoI K (He.ga K x) (He.ma K (He.ga K x) "__init__") := by
  obtain ⟨h1, h⟩ := He.ba h
  obtain ⟨h2, h3⟩ := He.ba h
  split at h3
  · rename_i a e
    obtain ⟨a1, h3⟩ := He.ba h3
    obtain ⟨a5, a6⟩ := He.ba h3
    rw [of_decide_eq_true a1] at e
    exact ⟨He.eqO_ok h1, h2, e, of_decide_eq_true a5, a6⟩
  · cases h3
def veB (K : PySem.W.Frag) : Bool := match PySem.W.findCls K (.type "ValueError") (.type "type") "__init__" with
    | some (.val v) => decide (v = .builtin "ValueError.__init__")
    | _ => false
theorem veB_ok {K : PySem.W.Frag} (h : veB K = true) : PySem.W.findCls K (.type "ValueError") (.type "type") "__init__" = some (.val (.builtin "ValueError.__init__")) := by
  unfold veB at h
  split at h
  · rename_i v e
    rw [e, of_decide_eq_true h]
  · cases h
/-! ### promises of defs that may raise an error with fields: C is its class -/
def spFracD (C : Addr) : Sp := fun vs H Q E => ∃ t b : Int, vs = [.int t, .int b] ∧ Sm 8000 b ∧ (b = 0 → ∀ (d : Addr) (fs : List (Str × V)) (H' : Hp), Same H H' → H' d = some (.xd fs) → E (.ref C) (some d) H') ∧
  (b ≠ 0 → ∀ (p : Addr) (H' : Hp), Same H H' → H p = none → H' p = some (.tup [.int (lowT t b), .int (lowB t b)]) → Q (.ref p) H')
def spOverD (K : PySem.W.Frag) (C : Addr) : Sp := fun vs H Q E => ∃ (a b : Addr) (x y u v : Int), vs = [.ref a, .ref b] ∧ SqT K H a [.int x, .int y] ∧ SqT K H b [.int u, .int v] ∧ Sm 2000 x ∧ Sm 2000 y ∧ Sm 2000 u ∧ Sm 2000 v ∧
  (y * u = 0 → ∀ (d : Addr) (fs : List (Str × V)) (H' : Hp), Same H H' → H' d = some (.xd fs) → E (.ref C) (some d) H') ∧ (y * u ≠ 0 → ∀ (p : Addr) (H' : Hp), Same H H' → H p = none → H' p = some (.tup [.int (lowT (x * v) (y * u)), .int (lowB (x * v) (y * u))]) → Q (.ref p) H')
/-- what a raised error leaves: the heap as it was, and its fields -/
theorem same_raised {H H' : Hp} {a dx : Addr} {o : HO} {fs : List (Str × V)} (na : H a = none) (nd : H dx = none) (b : But a (upd H a o) H') : Same H (upd (del H' a) dx (.xd fs)) := fun x u hx => by
  have n1 : x ≠ a := ne_of_none hx na
  have n2 : x ≠ dx := ne_of_none hx nd
  rw [upd_ne n2, del_ne n1]
  exact b x u n1 (by rw [upd_ne n1]; exact hx)
theorem r_mk0 {C : Addr} {σ : L2.St} {H : Hp} {Q : XK} (q : ∀ (d : Addr) (fs : List (Str × V)) (H' : Hp), Same H H' → H' d = some (.xd fs) → Q (.ref C) (some d) H') : tMkO C (spInit0 C) [] tNil σ H Q := by
  refine ⟨by simp, fun a na => ⟨a, rfl, upd_same, fun dx fs H' nd ne bt e1 e2 => ?_⟩⟩
  have nd' : H dx = none := by rw [upd_ne ne] at nd; exact nd
  exact ⟨rfl, dx, fs, e1, e2, nd', q dx fs _ (same_raised na nd' bt) upd_same⟩
def ownOexB (K : PySem.W.Frag) (C : Addr) : Bool := (match K.lookup C with
    | some ⟨.type "type", _, .cls cd, sl⟩ => (match cd.mro, sl.toList with
        | .ref D :: bm, [_, _, _, _, some (.builtin n), _] => decide (D = C) && (decide (n = "ValueError.__new__") && ((!cd.hasDel) && (cd.hasDict && PySem.HandSPX.refsVE bm)))
        | _, _ => false)
    | _ => false) && (He.eqO (PySem.W.findIn K (.ref C) "__setattr__") (some (some (.builtin "object.__setattr__"))) && (eqV (PySem.W.subIn K (.ref C) (.type "BaseException")) (some true) && (decide (PySem.W.typeIn K (.ref C) = some (.type "type")) && PySem.W.keepIn K (.ref C))))
theorem ownOexB_ok {K : PySem.W.Frag} {C : Addr} (h : ownOexB K C = true) : OexC K C := by
  obtain ⟨h0, h⟩ := He.ba h
  obtain ⟨h1, h⟩ := He.ba h
  obtain ⟨h2, h⟩ := He.ba h
  obtain ⟨h3, h4⟩ := He.ba h
  refine ⟨?_, He.eqO_ok h1, of_decide_eq_true h2, of_decide_eq_true h3, h4⟩
  split at h0
  · rename_i dd cd sl ho
    split at h0
    · rename_i D bm k0 k1 k2 k3 n k5 hm hs
      obtain ⟨a1, a⟩ := He.ba h0
      obtain ⟨a2, a⟩ := He.ba a
      obtain ⟨a3, a⟩ := He.ba a
      obtain ⟨a4, a5⟩ := He.ba a
      have e1 := of_decide_eq_true a1
      have e2 := of_decide_eq_true a2
      have e3 : cd.hasDel = false := by simpa using a3
      obtain ⟨x1, x2, x3, x4, x5, x6, x7, x8, x9, x10, x11⟩ := cd
      obtain ⟨l⟩ := sl
      dsimp only at hm hs e3 a4
      subst e1 e2 e3 a4 hm hs
      exact ⟨_, _, _, _, _, _, _, _, _, _, _, _, _, _, _, ho, a5⟩
    · cases h0
  · cases h0
/-! ### refusals as values -/
def spInitD (C : Addr) (f : Str) (ok : V → Prop) : Sp := fun vs H Q _ => ∃ (a : Addr) (v : V), vs = [.ref a, v] ∧ ok v ∧ H a = some (exo a C none) ∧ ∀ (wd : Addr) (H' : Hp), But a H H' → Er H' a C [(f, v), ("words", .ref wd)] → Q .non H'
def spInitLD (K : PySem.W.Frag) (C : Addr) (f : Str) : Sp := fun vs H Q _ => ∃ (a h : Addr) (zs : List V), vs = [.ref a, .ref h] ∧ SqL K H h zs ∧ zs.length ≤ 100 ∧ H a = some (exo a C none) ∧ ∀ (wd l : Addr) (H' : Hp), But a H H' → H l = none → l ≠ a → H' l = some (.lst zs) → Er H' a C [(f, .ref l), ("words", .ref wd)] → Q .non H'
def spMadeD (c : Nat → Addr) : Sp := fun vs H Q _ => ∃ (w : Nat) (z : Str), vs = [.int w, .str z] ∧ w < 14 ∧ z.length ≤ 1000 ∧ ∀ (a wd : Addr) (H' : Hp), Same H H' → Er H' a (c w) [("name", .str z), ("words", .ref wd)] → Q (.ref a) H'
theorem exo_lst {a C : Addr} {d : Option Addr} {xs : List V} : ¬ (exo a C d = .lst xs) := fun z => by unfold exo at z; cases z
theorem exo_frz {a C : Addr} {d : Option Addr} {o : Obj} {u : HO} : ¬ (exo a C d = .frz o u) := fun z => by unfold exo at z; cases z
theorem but_updR' {p D : Addr} {H H' : Hp} {o : HO} (h : But p H H') (n : H D = none) : But p H (upd H' D o) := fun b o' ne hb => by
  have : b ≠ D := fun z => by rw [z, n] at hb; cases hb
  rw [upd_ne this]
  exact h b o' ne hb
section
variable {X : Cx} {x : Str} {p pos : Pos} {k : Nat} {sp : Sp}
/-- C() as a value, C's own __init__ keeping sp -/
theorem pe_mkv0 {C : Addr} (M : MkC X.prog X.w X.K X.mg X.base k x C sp) (hr : Room (k + 1) X.A) (hg : Gl X x) (hdb : (x == ("__debug__" : Str)) = false := by decide) :
    PE X (.Call (.Name x p) [] [] pos) (tMkV C sp tNil) := by
  obtain ⟨fI, fd, ps, T, iC, tI, F1, hb, hm⟩ := M.ex
  constructor
  intro pins s σ H Q I h
  obtain ⟨nm, q, N, bs, bm, sn, sub, ab, col, dd, k0, k1, k2, k3, k5, hC, hbm⟩ := T.cls
  refine wpAny_Call_Name_kw (ld_glob I hg hm ?_ hdb)
  refine PySem.W.callWith_K0 I.kIn T.kC ?_
  obtain ⟨hz, q1⟩ := h
  have I1 := I
  obtain ⟨hp, g, dr, tk, os⟩ := s
  have hn : H (hp.objs.size + 1) = none := I1.hok.fresh (Nat.le_succ _)
  have hq := q1 (hp.objs.size + 1) hn
  generalize hh : (hp.push (PySem.W.kdv_tup [])).push (PySem.HandSPX.excO C hp.objs.size) = h2
  have kk : ∀ b o, hp.get? b = some o → h2.get? b = some o := fun b o z => by
    subst hh
    exact Heap.get?_push_of_some _ (Heap.get?_push_of_some _ z)
  have hget : h2.get? (hp.objs.size + 1) = some (PySem.HandSPX.excO C hp.objs.size) := by
    subst hh
    heap_get
  have I2 : Inv X pins σ (upd H (hp.objs.size + 1) (exo (hp.objs.size + 1) C none)) ⟨h2, g, dr, tk, os⟩ := I1.laid (t' := tk) (a := hp.objs.size + 1) (h' := h2) kk (Nat.le_succ _) (exo_ok hget)
  have r2 : Vals [V.ref (hp.objs.size + 1)] [Value.ref (hp.objs.size + 1)] := .cons rfl .nil
  have hl : ([Value.ref (hp.objs.size + 1)] ++ ([] : List Value)).length = ps.length := F1.len _ _ _ _ hq
  have bt := hb ⟨h2, g, dr, tk, os⟩ [Value.ref (hp.objs.size + 1)] I2.kIn hl
  have run := F1.run (X.A.under (.builtin "type.__call__" ⟨.ref C :: [], []⟩)) X.stack ⟨h2, g, dr, tk, os⟩ _ ⟨[Value.ref (hp.objs.size + 1)], []⟩ _ _ _ _ (hr.make C [] []) (I2.env0.make C [] []) bt r2 hq
  rw [← hh] at run
  refine wpAny_call (PySem.HandSPX.call_own F.excBase_ValueError (fun Y => PySem.HandSPX.refsVE_contains Y bm hbm) (I1.kIn _ _ hC) (PySem.W.looks_findIn I1.kIn iC) (fun self => PySem.W.bind_fn I1.kIn self tI) (Nat.zero_le _) (codeAny_mono run ?_))
  intro r s2 z
  cases r with
  | error er => exact False.elim z
  | ok fl =>
    cases fl with
    | ret u =>
      obtain ⟨v, H2, os2, bare2, un2, hok2, rv, ev, q2⟩ := z
      subst ev
      rw [hh] at un2
      exact ⟨rv, .ref (hp.objs.size + 1), H2, I2.call' (ch := []) os2 un2 hok2 bare2 (fun b y => absurd y (by simp)), rfl, q2⟩
    | next => exact False.elim z
    | brk => exact False.elim z
    | cont => exact False.elim z
end
end Mb
namespace Mb
open PySem L2
/-! ### the drawing of rows: a fraction within the bounds, a place -/
/-- a fraction in lowest terms within the bounds of free points -/
structure Fb (t u : Int) : Prop where
  pos : 0 < u
  one : Int.gcd t u = 1
  tb : t.natAbs < 1000000000
  ub : u < 1000000000
def spFracB : Sp := fun vs H Q _ => ∃ (p : Addr) (b : Int), vs = [.ref p] ∧ Pl H p b ∧ b ≤ 1900000 ∧
  ∀ (o : Addr) (t u : Int) (H' : Hp), But p H H' → Pl H' p (b + 10) → H' o = some (.tup [.int t, .int u]) → Fb t u → Q (.ref o) H'
def spPlaceB (K : PySem.W.Frag) : Sp := fun vs H Q _ => ∃ (p : Addr) (b : Int), vs = [.ref p] ∧ Pl H p b ∧ b ≤ 1800000 ∧
  ∀ (o f g : Addr) (t u r s : Int) (H' : Hp), But p H H' → Pl H' p (b + 20) → H' o = some (.tup [.ref f, .ref g]) → SqT K H' f [.int t, .int u] → SqT K H' g [.int r, .int s] → Fb t u → Fb r s → Q (.ref o) H'
theorem fb_low {t b : Int} (hb : 0 < b) (h1 : t.natAbs < 1000000000) (h2 : b < 1000000000) : Fb (lowT t b) (lowB t b) := by
  have hb' : b ≠ 0 := by omega
  have a1 := lowT_le (t := t) hb'
  have a2 := lowB_le (t := t) hb'
  have a3 := lowB_pos (t := t) hb'
  exact ⟨a3, low_gcd hb', by omega, by omega⟩
theorem fb_int {t : Int} (h : t.natAbs < 1000000000) : Fb t 1 := ⟨by decide, by rw [Int.gcd_one], h, by decide⟩
/-! ### the table of the words -/
def wordsTab : List (Str × Str × List Str) := [("free", "point", []), ("middle", "point", ["point", "point"]), ("next", "point", ["point", "point"]), ("turn", "point", ["point", "point"]), ("share", "point", ["point", "point"]), ("foot", "point", ["point", "line"]), ("mirror", "point", ["point", "line"]), ("meet", "point", ["line", "line"]), ("cut", "point", ["curve", "circle"]), ("line", "line", ["point", "point"]), ("along", "line", ["point", "line"]), ("upright", "line", ["point", "line"]), ("circle", "circle", ["point", "point"]), ("inline", "claim", ["point", "point", "point"]), ("round", "claim", ["point", "point", "point", "point"]), ("alike", "claim", ["point", "point", "point", "point"]), ("beside", "claim", ["line", "line"]), ("square", "claim", ["line", "line"])]
/-- what the table at a tells -/
def Wt (K : PySem.W.Frag) (w : World) (a : Addr) : Prop := ∀ (x s : Str) (g : List Str), (x, s, g) ∈ wordsTab → ∃ t u : Addr, KDct K w a x (.ref t) ∧ (∀ H, SqT K H t [.str s, .ref u]) ∧ ∀ H, SqT K H u (g.map V.str)
theorem r_ixT0 {K : PySem.W.Frag} {H : Hp} {Q : VK} {a : Addr} {v : V} {r : List V} (h : SqT K H a (v :: r)) (k : Q v H) : rIxT K (.ref a) (.int 0) H Q := ⟨a, _, 0, _, rfl, rfl, h, by unfold atI ixN; rw [if_pos (by decide), if_pos (by simp only [List.length_cons]; omega)]; rfl, k⟩
def spSort (K : PySem.W.Frag) : Sp := fun vs H Q _ => ∃ (a : Addr) (x s : Str) (g : List Str) (r : List V), vs = [.ref a] ∧ SqT K H a (.str x :: r) ∧ (x, s, g) ∈ wordsTab ∧ Q (.str s) H
def spWanted (K : PySem.W.Frag) : Sp := fun vs H Q _ => ∃ (a : Addr) (x s : Str) (g : List Str) (r : List V), vs = [.ref a] ∧ SqT K H a (.str x :: r) ∧ (x, s, g) ∈ wordsTab ∧ ∀ u : Addr, SqT K H u (g.map V.str) → Q (.ref u) H
/-- the grounds of a making: names behind the word, as many as the table tells, and what follows them -/
def spGrounds (K : PySem.W.Frag) : Sp := fun vs H Q _ => ∃ (a : Addr) (x s : Str) (g ns : List Str) (r : List V), vs = [.ref a] ∧ SqT K H a (.str x :: (ns.map V.str ++ r)) ∧ (x, s, g) ∈ wordsTab ∧ ns.length = g.length ∧ ∀ (l : Addr) (H' : Hp), Same H H' → H l = none → H' l = some (.lst (ns.map V.str)) → Q (.ref l) H'
theorem r_slR {r : V → Option Int → Option Int → Hp → VK → Prop} {te : TE} {tl th : TO} {σ : St} {H : Hp} {Q : VK} (q : te σ H fun x H1 => tl σ H1 fun l H2 => th σ H2 fun u H3 => r x l u H3 Q) : L2.tSl r te tl th σ H Q := q
theorem r_partR {t : TE} {σ : St} {H : Hp} {Q : Option Int → Hp → Prop} (q : t σ H fun x H1 => ∃ i, x = .int i ∧ Q (some i) H1) : L2.tPart t σ H Q := q
theorem cut_names {x : V} {ns r : List V} {n : Int} (h : n = 1 + (ns.length : Int)) : cutV (x :: (ns ++ r)) (some 1) (some n) = ns := by
  subst h
  unfold cutV
  have e1 : HT.sIx (x :: (ns ++ r)).length 0 (some 1) = 1 := by
    have := HT.sIx_nat (x :: (ns ++ r)).length 0 1
    simp only [List.length_cons] at this ⊢
    rw [show (some (1 : Int)) = some (((1 : Nat) : Int)) from rfl, this]
    omega
  have e2 : HT.sIx (x :: (ns ++ r)).length (x :: (ns ++ r)).length (some (1 + (ns.length : Int))) = 1 + ns.length := by
    have := HT.sIx_nat (x :: (ns ++ r)).length (x :: (ns ++ r)).length (1 + ns.length)
    rw [show (some (1 + (ns.length : Int))) = some (((1 + ns.length : Nat) : Int)) by rw [Int.natCast_add]; rfl, this]
    simp only [List.length_cons, List.length_append]
    omega
  rw [e1, e2]
  simp
theorem cut_part {x : V} {ns : List V} {n : Option Int} : ¬ (HT.sIx (x :: ns).length 0 (some 1) = 0 ∧ HT.sIx (x :: ns).length (x :: ns).length n = (x :: ns).length) := by
  rintro ⟨h, _⟩
  have := HT.sIx_nat (x :: ns).length 0 1
  rw [show (some (1 : Int)) = some (((1 : Nat) : Int)) from rfl, this] at h
  simp only [List.length_cons] at h
  omega
/-! ### names -/
def isLw (c : Nat) : Bool := decide (97 ≤ c) && decide (c ≤ 122)
def isLf (c : Nat) : Bool := isLw c || (decide (48 ≤ c) && decide (c ≤ 57))
def gdL : List Nat → Bool
  | [] => false
  | c :: r => isLw c && r.all isLf
/-- a text of small letters and figures, the first a letter -/
def Gd (z : Str) : Prop := gdL z.cps.toList = true
def Sok (z : Str) : Prop := (z.length ≤ 12 ∧ Gd z) ∧ PyData.strOk z = true
theorem gdL_app : ∀ {a b : List Nat}, gdL a = true → b.all isLf = true → gdL (a ++ b) = true
  | c :: r, b, h, hb => by
    obtain ⟨h1, h2⟩ := Bool.and_eq_true_iff.mp (show (isLw c && r.all isLf) = true from h)
    show (isLw c && (r ++ b).all isLf) = true
    rw [List.all_append, h1, h2, hb]
    rfl
theorem gdL_take : ∀ {a : List Nat} {n : Nat}, 0 < n → gdL a = true → gdL (a.take n) = true
  | c :: r, n + 1, _, h => by
    obtain ⟨h1, h2⟩ := Bool.and_eq_true_iff.mp (show (isLw c && r.all isLf) = true from h)
    show (isLw c && (r.take n).all isLf) = true
    rw [h1, Bool.true_and]
    exact List.all_eq_true.mpr fun x hx => List.all_eq_true.mp h2 x (List.mem_of_mem_take hx)
theorem cps_cat (a b : Str) : (a ++ b).cps.toList = a.cps.toList ++ b.cps.toList := by
  show (a.cps ++ b.cps).toList = _
  exact Array.toList_append
theorem Gd.cat {a b : Str} (h : Gd a) (hb : b.cps.toList.all isLf = true) : Gd (a ++ b) := by
  unfold Gd
  rw [cps_cat]
  exact gdL_app h hb
theorem cut9 {z : Str} : (cutS z none (some 9)).cps.toList = z.cps.toList.take 9 := by
  unfold cutS
  have e := HT.sIx_nat z.length z.length 9
  rw [show (some (9 : Int)) = some (((9 : Nat) : Int)) from rfl, e]
  show ((z.cps.toList.drop 0).take (min 9 z.length - 0)) = _
  have e2 : z.length = z.cps.toList.length := Array.length_toList.symm
  rw [List.drop_zero, Nat.sub_zero, ← List.take_take, e2, List.take_length]
theorem Gd.cut9 {z : Str} (h : Gd z) : Gd (cutS z none (some 9)) := by
  unfold Gd
  rw [Mb.cut9]
  exact gdL_take (by decide) h
theorem cut9_len {z : Str} : (cutS z none (some 9)).length ≤ 9 := by
  have h : (cutS z none (some 9)).cps.toList.length ≤ 9 := by
    rw [cut9, List.length_take]
    exact Nat.min_le_left _ _
  rw [Array.length_toList] at h
  exact h
theorem all_one {z : Str} {r : Int} {c : Nat} {f : Nat → Bool} (h : z.cps.toList.all f = true) (hc : atI z.cps.toList r = some c) : f c = true := by
  unfold atI at hc
  obtain ⟨j, _, e⟩ := Option.bind_eq_some_iff.mp hc
  exact List.all_eq_true.mp h c (List.mem_of_getElem? e)
theorem gd1 {r : Int} {c : Nat} (hc : atI ("abcdefghijklmnopqrstuvwxyz" : Str).cps.toList r = some c) : Gd ⟨#[c]⟩ := by
  show (isLw c && true) = true
  rw [all_one (f := isLw) (by decide +kernel) hc]
  rfl
theorem not_Q {z : Str} (h : Gd z) : z ≠ "Q" := fun e => by
  rw [e] at h
  exact absurd (show gdL ("Q" : Str).cps.toList = true from h) (by decide +kernel)
theorem strOk_iff {z : Str} : PyData.strOk z = true ↔ ∀ c ∈ z.cps.toList, c < 0x110000 := by
  unfold PyData.strOk
  rw [Array.all_eq_true']
  constructor
  · intro h c hc
    exact of_decide_eq_true (h c (Array.mem_toList_iff.mp hc))
  · intro h c hc
    exact decide_eq_true (h c (Array.mem_toList_iff.mpr hc))
theorem strOk_cat {a b : Str} (ha : PyData.strOk a = true) (hb : PyData.strOk b = true) : PyData.strOk (a ++ b) = true := by
  rw [strOk_iff] at *
  intro c hc
  have e : (a ++ b).cps.toList = a.cps.toList ++ b.cps.toList := by
    show (a.cps ++ b.cps).toList = _
    exact Array.toList_append
  rw [e] at hc
  exact (List.mem_append.mp hc).elim (ha c) (hb c)
theorem strOk_cut {z : Str} {lo hi : Option Int} (h : PyData.strOk z = true) : PyData.strOk (cutS z lo hi) = true := by
  rw [strOk_iff] at *
  intro c hc
  unfold cutS at hc
  exact h c (List.mem_of_mem_drop (List.mem_of_mem_take hc))
theorem strOk_one {z : Str} {r : Int} {c : Nat} (h : PyData.strOk z = true) (hc : atI z.cps.toList r = some c) : PyData.strOk ⟨#[c]⟩ = true := by
  rw [strOk_iff] at *
  intro d hd
  have : d = c := by simpa using hd
  subst this
  refine h d ?_
  unfold atI at hc
  obtain ⟨j, _, e⟩ := Option.bind_eq_some_iff.mp hc
  exact List.mem_of_getElem? e
theorem inV_str {z : Str} {zs : List Str} : inV (.str z) (zs.map V.str) = decide (z ∈ zs) := by
  unfold inV
  rw [List.any_map]
  induction zs with
  | nil => rfl
  | cons a r ih =>
    rw [List.any_cons, ih]
    show ((a == z) || _) = _
    by_cases h : a = z
    · subst h; simp
    · have : ¬ z = a := fun e => h e.symm
      simp [h, this]
theorem pigeon {f : Nat → Str} : ∀ (n : Nat) (zs : List Str), (∀ i j, i < n → j < n → f i = f j → i = j) → (∀ i, i < n → f i ∈ zs) → n ≤ zs.length
  | 0, _, _, _ => Nat.zero_le _
  | n + 1, zs, inj, h => by
    have h1 := h n (Nat.lt_succ_self n)
    have h2 := pigeon n (zs.erase (f n)) (fun i j hi hj e => inj i j (by omega) (by omega) e) fun i hi => (List.mem_erase_of_ne (fun e => by have := inj i n (by omega) (by omega) e; omega)).mpr (h i (by omega))
    rw [List.length_erase_of_mem h1] at h2
    have := List.length_pos_of_mem h1
    omega
theorem num_figs : ∀ i : Nat, i < 70 → (Str.ofString (toString (0 + (i : Int)))).cps.toList.all isLf = true := by decide +kernel
theorem num_short : ∀ i : Nat, i < 70 → (Str.ofString (toString (0 + (i : Int)))).length ≤ 2 ∧ PyData.strOk (Str.ofString (toString (0 + (i : Int)))) = true ∧ (0 + (i : Int)).natAbs.log2 < 1920 := by decide +kernel
theorem num_apart : ∀ i : Nat, i < 70 → ∀ j : Nat, j < 70 → Str.ofString (toString (0 + (i : Int))) = Str.ofString (toString (0 + (j : Int))) → i = j := by decide +kernel
theorem cat_inj {a b c : Str} (h : a ++ b = a ++ c) : b = c := by
  have e : (a.cps ++ b.cps) = (a.cps ++ c.cps) := congrArg Str.cps h
  have e1 : a.cps.toList ++ b.cps.toList = a.cps.toList ++ c.cps.toList := by rw [← Array.toList_append, ← Array.toList_append, e]
  have e2 := List.append_cancel_left e1
  cases b
  cases c
  simpa using e2
def spNameR (K : PySem.W.Frag) : Sp := fun vs H Q _ => ∃ (p h : Addr) (b : Int) (zs : List Str), vs = [.ref p, .ref h] ∧ Pl H p b ∧ b ≤ 1900000 ∧ SqL K H h (zs.map V.str) ∧ h ≠ p ∧ zs.length ≤ 60 ∧ ∀ (z : Str) (H' : Hp), But p H H' → Pl H' p (b + 30) → Sok z → z ∉ zs → Q (.str z) H'
/-! ### any making -/
def wordsL : List Str := ["free", "middle", "share", "next", "turn", "foot", "mirror", "meet", "cut", "line", "along", "upright", "circle", "inline", "round", "alike", "beside", "square"]
def spAny (K : PySem.W.Frag) : Sp := fun vs H Q _ => ∃ (p : Addr) (b : Int), vs = [.ref p] ∧ Pl H p b ∧ b ≤ 1000000 ∧
  ∀ (o mk l : Addr) (way : Nat) (x s : Str) (g ns : List Str) (r : List V) (H' : Hp), But p H H' → SqT K H' o [.ref mk, .ref l, .int way] → SqT K H' mk (.str x :: (ns.map V.str ++ r)) → H' l = some (.lst (ns.map V.str)) → H l = none → wordsL[way]? = some x → (x, s, g) ∈ wordsTab → ns.length = g.length → (∀ z ∈ ns, Sok z) → Q (.ref o) H'
def rLenK (K : PySem.W.Frag) : List V → Hp → VK → Prop := fun xs H Q => ∃ p ys, xs = [.ref p] ∧ (SqL K H p ys ∨ SqT K H p ys) ∧ Q (.int (ys.length : Int)) H
theorem but_updR {p D : Addr} {H H' : Hp} {o : HO} (h : But p H H') (n : H D = none) : But p H (upd H' D o) := fun b o' ne hb => by
  have : b ≠ D := fun z => by rw [z, n] at hb; cases hb
  rw [upd_ne this]
  exact h b o' ne hb
theorem Pl.ne2 {H : Hp} {p q : Addr} {b : Int} (h : Pl H p b) (n : H q = none) : p ≠ q := fun z => by
  obtain ⟨_, _, _, h1, _⟩ := h
  rw [z, n] at h1
  cases h1
theorem Pl.updR {H : Hp} {p D : Addr} {b : Int} {o : HO} (h : Pl H p b) (n : p ≠ D) : Pl (L2.upd H D o) p b := h.but n (But.upd D H o)
theorem but_free {p D : Addr} {H H' : Hp} {b : Int} (h : But p H H') (hp : Pl H' p b) (n : H' D = none) : H D = none := by
  cases e : H D with
  | none => rfl
  | some o =>
    have ne : D ≠ p := fun z => hp.ne2 n z.symm
    rw [h D o ne e] at n
    cases n
theorem r_cat {K : PySem.W.Frag} {H : Hp} {Q : VK} {a b : Addr} {xs ys : List V} (ha : SqT K H a xs) (hb : SqT K H b ys) (ne : xs ≠ []) (hz : xs.length + ys.length ≤ sizeLine) (q : ∀ (p : Addr) (H' : Hp), Same H H' → SqT K H' p (xs ++ ys) → Q (.ref p) H') : rCatT K (.ref a) (.ref b) H Q := by
  refine ⟨a, b, xs, ys, rfl, rfl, ha, hb, ne, hz, fun h => ?_, fun _ p hp => ?_⟩
  · subst h
    exact q a H (Same.refl H) (by rw [List.append_nil]; exact ha)
  · exact q p _ (same_new hp _) (tupOf upd_same)
theorem r_then {ta : TE} {k : V → Hp → VK → Prop} {σ : St} {H : Hp} {Q : VK} (q : ta σ H fun x H1 => k x H1 Q) : tThen ta k σ H Q := q
theorem r_tupL {K : PySem.W.Frag} {H : Hp} {Q : VK} {a : Addr} {xs : List V} (h : SqL K H a xs) (q : ∀ (p : Addr) (H' : Hp), Same H H' → SqT K H' p xs → Q (.ref p) H') : kTup K (.ref a) H Q := .inl ⟨a, xs, rfl, h, fun p hp => q p _ (same_new hp _) (tupOf upd_same)⟩
theorem ways : ∀ way : Nat, way < 18 → ∃ (x s : Str) (g : List Str), atI (wordsL.map V.str) (way : Int) = some (.str x) ∧ wordsL[way]? = some x ∧ (x, s, g) ∈ wordsTab := by
  intro way h
  have : way = 0 ∨ way = 1 ∨ way = 2 ∨ way = 3 ∨ way = 4 ∨ way = 5 ∨ way = 6 ∨ way = 7 ∨ way = 8 ∨ way = 9 ∨ way = 10 ∨ way = 11 ∨ way = 12 ∨ way = 13 ∨ way = 14 ∨ way = 15 ∨ way = 16 ∨ way = 17 := by omega
  rcases this with rfl | rfl | rfl | rfl | rfl | rfl | rfl | rfl | rfl | rfl | rfl | rfl | rfl | rfl | rfl | rfl | rfl | rfl
  · exact ⟨"free", "point", [], rfl, rfl, by decide +kernel⟩
  · exact ⟨"middle", "point", ["point", "point"], rfl, rfl, by decide +kernel⟩
  · exact ⟨"share", "point", ["point", "point"], rfl, rfl, by decide +kernel⟩
  · exact ⟨"next", "point", ["point", "point"], rfl, rfl, by decide +kernel⟩
  · exact ⟨"turn", "point", ["point", "point"], rfl, rfl, by decide +kernel⟩
  · exact ⟨"foot", "point", ["point", "line"], rfl, rfl, by decide +kernel⟩
  · exact ⟨"mirror", "point", ["point", "line"], rfl, rfl, by decide +kernel⟩
  · exact ⟨"meet", "point", ["line", "line"], rfl, rfl, by decide +kernel⟩
  · exact ⟨"cut", "point", ["curve", "circle"], rfl, rfl, by decide +kernel⟩
  · exact ⟨"line", "line", ["point", "point"], rfl, rfl, by decide +kernel⟩
  · exact ⟨"along", "line", ["point", "line"], rfl, rfl, by decide +kernel⟩
  · exact ⟨"upright", "line", ["point", "line"], rfl, rfl, by decide +kernel⟩
  · exact ⟨"circle", "circle", ["point", "point"], rfl, rfl, by decide +kernel⟩
  · exact ⟨"inline", "claim", ["point", "point", "point"], rfl, rfl, by decide +kernel⟩
  · exact ⟨"round", "claim", ["point", "point", "point", "point"], rfl, rfl, by decide +kernel⟩
  · exact ⟨"alike", "claim", ["point", "point", "point", "point"], rfl, rfl, by decide +kernel⟩
  · exact ⟨"beside", "claim", ["line", "line"], rfl, rfl, by decide +kernel⟩
  · exact ⟨"square", "claim", ["line", "line"], rfl, rfl, by decide +kernel⟩
theorem many_of {x s : Str} {g : List Str} (h : (x, s, g) ∈ wordsTab) : (x = "free" → g.length = 0) ∧ (x = "inline" → g.length = 3) ∧ (x = "round" ∨ x = "alike" → g.length = 4) ∧ (x ≠ "free" → x ≠ "inline" → ¬ (x = "round" ∨ x = "alike") → g.length = 2) := by
  have all : ∀ q ∈ wordsTab, (q.1 = "free" → q.2.2.length = 0) ∧ (q.1 = "inline" → q.2.2.length = 3) ∧ (q.1 = "round" ∨ q.1 = "alike" → q.2.2.length = 4) ∧ (q.1 ≠ "free" → q.1 ≠ "inline" → ¬ (q.1 = "round" ∨ q.1 = "alike") → q.2.2.length = 2) := by decide +kernel
  exact all (x, s, g) h
theorem sz4 {n : Nat} (h : n ≤ 64) : n ≤ sizeLine := Nat.le_trans h (by decide)
theorem at_str {zs : List Str} {j : Nat} (hj : j < zs.length) : atI (zs.map V.str) (j : Int) = some (.str zs[j]) := by
  unfold atI ixN
  rw [if_pos (Int.natCast_nonneg j), if_pos (by rw [List.length_map]; omega), Int.toNat_natCast]
  simp [hj]
def dueOf (way : Nat) : Str := if 12 < way then "claim" else if way = 12 then "circle" else if 8 < way then "line" else "point"
theorem due_of {way : Nat} {x s : Str} {g : List Str} (h : wordsL[way]? = some x) (t : (x, s, g) ∈ wordsTab) : s = dueOf way := by
  have hw : way < 18 := by
    have := List.getElem?_eq_some_iff.mp h
    obtain ⟨h1, _⟩ := this
    exact h1
  have all : ∀ way : Nat, way < 18 → ∀ q ∈ wordsTab, wordsL[way]? = some q.1 → q.2.1 = dueOf way := by decide +kernel
  exact all way hw (x, s, g) t h
theorem same_updS {D : Addr} {H H' : Hp} {o : HO} (h : Same H H') (n : H D = none) : Same H (upd H' D o) := fun b o' hb => by
  have : b ≠ D := fun z => by rw [z, n] at hb; cases hb
  rw [upd_ne this]
  exact h b o' hb
theorem dpAll_strs {K : PySem.W.Frag} {H : Hp} : ∀ (ns : List Str), DpAll K H (ns.map V.str) (ns.map PyData.str)
  | [] => .nil
  | n :: r => .cons (.str n) (dpAll_strs r)
theorem dp_strs {K : PySem.W.Frag} {H : Hp} {a : Addr} {ns : List Str} (h : SqL K H a (ns.map V.str)) : Dp K H (.ref a) (.list (ns.map PyData.str)) := .lst h (dpAll_strs ns)
theorem lay_strs : ∀ ns : List Str, (∀ z ∈ ns, PyData.strOk z = true) → PyData.canLayAll0 (ns.map PyData.str) = true ∧ PyData.depthAll (ns.map PyData.str) ≤ 1
  | [], _ => ⟨rfl, by decide⟩
  | n :: r, h => by
    obtain ⟨h1, h2⟩ := lay_strs r fun z hz => h z (List.mem_cons_of_mem _ hz)
    have h3 := h n List.mem_cons_self
    rw [List.map_cons]
    refine ⟨?_, ?_⟩
    · unfold PyData.canLayAll0 PyData.canLay0
      rw [h3, h1]
      rfl
    · unfold PyData.depthAll PyData.depth
      omega
theorem lay_list {ns : List Str} (h : ∀ z ∈ ns, PyData.strOk z = true) : PyData.canLay0 (.list (ns.map PyData.str)) = true := by
  unfold PyData.canLay0
  exact (lay_strs ns h).1
theorem sh_strs {ns : List Str} (h : ∀ z ∈ ns, PyData.strOk z = true) : SeqAt.shaped (.list (ns.map PyData.str)) = true := by
  have h2 : PyData.depth (.list (ns.map PyData.str)) ≤ 64 := by
    unfold PyData.depth
    have := (lay_strs ns h).2
    omega
  unfold SeqAt.shaped
  rw [lay_list h, decide_eq_true h2]
  rfl
theorem r_eqSt {K : PySem.W.Frag} {H : Hp} {Q : VK} {a b : Addr} {ns : List Str} (h1 : SqL K H a (ns.map V.str)) (h2 : SqL K H b (ns.map V.str)) (ok : ∀ z ∈ ns, PyData.strOk z = true) (k : Q (.bl true) H) : rEqD K (.ref a) (.ref b) H Q := by
  refine ⟨_, _, dp_strs h1, dp_strs h2, sh_strs ok, sh_strs ok, ?_⟩
  rw [SeqAt.eqv_refl _ (lay_list ok)]
  exact k
theorem r_neSt {K : PySem.W.Frag} {H : Hp} {Q : VK} {a b : Addr} {ns : List Str} (h1 : SqL K H a (ns.map V.str)) (h2 : SqL K H b (ns.map V.str)) (ok : ∀ z ∈ ns, PyData.strOk z = true) (k : Q (.bl false) H) : rNeD K (.ref a) (.ref b) H Q := by
  refine ⟨_, _, dp_strs h1, dp_strs h2, sh_strs ok, sh_strs ok, ?_⟩
  rw [SeqAt.eqv_refl _ (lay_list ok)]
  exact k
theorem r_gT {K : PySem.W.Frag} {σ : St} {H : Hp} {Q : St → Hp → Prop} {t : TGs} {a : Addr} {xs : List V} {n : Nat} (h : SqT K H a xs) (l : xs.length = n) (q : t xs σ H Q) : gTup K n t (.ref a) σ H Q := ⟨a, xs, rfl, h, l, q⟩
theorem r_g3 {i j k : Nat} {u v w : V} {σ : St} {H : Hp} {Q : St → Hp → Prop} (q : Q (((σ.set i (some u)).set j (some v)).set k (some w)) H) : gCons (gName i) (gCons (gName j) (gCons (gName k) gNil)) [u, v, w] σ H Q := ⟨u, _, rfl, v, _, rfl, w, _, rfl, rfl, q⟩
theorem r_g2 {i j : Nat} {u v : V} {σ : St} {H : Hp} {Q : St → Hp → Prop} (q : Q ((σ.set i (some u)).set j (some v)) H) : gCons (gName i) (gCons (gName j) gNil) [u, v] σ H Q := ⟨u, _, rfl, v, _, rfl, rfl, q⟩
theorem few {x s : Str} {g : List Str} (h : (x, s, g) ∈ wordsTab) : g.length < 64 := by
  have all : ∀ q ∈ wordsTab, q.2.2.length < 64 := by decide +kernel
  exact all _ h
theorem r_neE {H : Hp} {Q : VK} {w w' : Str} (e : w = w') (k : Q (.bl false) H) : rNe (.str w) (.str w') H Q := ⟨rfl, by subst e; simpa using k⟩
theorem r_neX {H : Hp} {Q : VK} {w w' : Str} (k : Q (.bl (!decide (w = w'))) H) : rNe (.str w) (.str w') H Q := ⟨rfl, by rw [show decide (V.str w = V.str w') = decide (w = w') from by simp]; exact k⟩
end Mb
namespace Mb
open PySem L2
/-! ### the head's facts with a table of text keys -/
def obsWG (n : Nat) (fa : List He.Fa) (fn : List He.DefD) (ts : List He.Tab) (xb : PySem.W.Frag → Bool) (g : Addr → Option Obj) : He.AlT × Bool := (He.obsT fa fn ts (He.frG g (He.asD g n ++ [cStatics])), xb (He.frG g (He.asD g n ++ [cStatics])))
def hookW (n : Nat) (fa : List He.Fa) (fn : List He.DefD) (ts : List He.Tab) (xb : PySem.W.Frag → Bool) : PySem.W.Hook where
  α := He.AlT × Bool
  obs := fun s => obsWG n fa fn ts xb s.heap.get?
  val := fun w => (He.valT fn ts w, true)
  says := fun w h => ∃ K : PySem.W.Frag, K.In h ∧ He.SaysT fa fn ts w K ∧ xb K = true
  of := fun _ _ e => ⟨_, He.frG_in, congrArg Prod.fst e, congrArg Prod.snd e⟩
  keeps := fun _ _ _ ⟨K, hK, c⟩ k => ⟨K, PySem.W.Frag.In.keeps hK k, c⟩
theorem obsWG_eq {n : Nat} {fa : List He.Fa} {fn : List He.DefD} {ts : List He.Tab} {xb : PySem.W.Frag → Bool} {g : Addr → Option Obj} {s : Shared} (h : ∀ a, g a = s.heap.get? a) : obsWG n fa fn ts xb g = (hookW n fa fn ts xb).obs s := by
  have e : g = s.heap.get? := funext h
  subst e
  rfl
def tupV (K : PySem.W.Frag) (t : Addr) (vs : List V) : Bool := match K.lookup t with
  | some ⟨.type c, _, .seq its _, _⟩ => decide (c = "tuple") && (decide (its.size ≤ sizeLine) && He.relAll vs its.toList)
  | _ => false
theorem tupV_ok {K : PySem.W.Frag} {t : Addr} {vs : List V} (h : tupV K t vs = true) (H : Hp) : SqT K H t vs := by
  unfold tupV at h
  cases q : K.lookup t with
  | none =>
    rw [q] at h
    cases h
  | some o =>
    obtain ⟨oc, od, dt, osl⟩ := o
    rw [q] at h
    cases oc with
    | type c =>
      cases dt with
      | seq its n =>
        obtain ⟨h1, h2⟩ := He.ba (show (decide (c = "tuple") && (decide (its.size ≤ sizeLine) && He.relAll vs its.toList)) = true from h)
        obtain ⟨h3, h4⟩ := He.ba h2
        exact .inr ⟨_, its, n, q, congrArg Value.type (of_decide_eq_true h1), rfl, of_decide_eq_true h3, He.relAll_ok h4⟩
      | _ => cases h
    | _ => cases dt <;> cases h
def refAt (K : PySem.W.Frag) (a : Addr) (x : Str) : Addr := match PySem.W.nsIn K a x with
  | some (some (.ref t)) => t
  | _ => 0
def sndOf (K : PySem.W.Frag) (t : Addr) : Addr := match K.lookup t with
  | some ⟨_, _, .seq its _, _⟩ => (match its.getD 1 .none with
    | .ref u => u
    | _ => 0)
  | _ => 0
def wtB (K : PySem.W.Frag) (a : Addr) : Bool := wordsTab.all fun q => He.eqO (PySem.W.nsIn K a q.1) (some (some (.ref (refAt K a q.1)))) && (tupV K (refAt K a q.1) [.str q.2.1, .ref (sndOf K (refAt K a q.1))] && tupV K (sndOf K (refAt K a q.1)) (q.2.2.map V.str))
theorem wt_of {K : PySem.W.Frag} {w : World} {a : Addr} (h : wtB K a = true) (d : ∃ es n, KDict K w a es n) : Wt K w a := by
  intro x s g hx
  obtain ⟨h1, h2⟩ := He.ba (List.all_eq_true.mp h _ hx)
  obtain ⟨h3, h4⟩ := He.ba h2
  obtain ⟨es, n, D⟩ := d
  exact ⟨refAt K a x, sndOf K (refAt K a x), ⟨es, n, _, D.at_, D.lit, He.eqO_ok h1, rfl⟩, fun H => tupV_ok h3 H, fun H => tupV_ok h4 H⟩
def wordsKeys : List Str := wordsTab.map (·.1)
def wordsTs : List He.Tab := [(fun K => He.ga K "WORDS", wordsKeys)]
/-- a world with what it says of one row of the text written out -/
def wB (b : Bool) (w : World) : World := { w with params := { w.params with followText := fun s => bif s == "special-get-raises" then b else w.params.followText s } }
theorem wB_eq (w : World) : wB (w.params.followText "special-get-raises") w = w := by
  obtain ⟨d, p⟩ := w
  obtain ⟨p1, p2, p3, p4, p5, p6, p7⟩ := p
  have e : (fun s => bif s == "special-get-raises" then p6 "special-get-raises" else p6 s) = p6 := by
    funext s
    cases h : (s == "special-get-raises") with
    | true =>
      rw [beq_iff_eq.mp h]
      rfl
    | false => rfl
  unfold wB
  dsimp only
  rw [e]
end Mb
namespace Mb
open PySem PySem.Spec PyProof.Rows L2
/-! ### list(d.values()) -/
def rValsL : V → Hp → VK → Prop := fun x H Q => ∃ (d : Addr) (kvs : List (Key × V)), x = .ref d ∧ H d = some (.dK kvs) ∧ ∀ p, H p = none → Q (.ref p) (upd H p (.lst (kvs.map (·.2))))
def tListVals (te : TE) : TE := fun σ H Q => te σ H fun x H1 => rValsL x H1 Q
section
variable {X : Cx} {e : Expr} {te : TE} {p apos cpos pos : Pos}
theorem pe_listVals (hc : X.calm = true) (he : PE X e te) (hg : Gl X "list") (hm : X.mg "list" = none) (hv : bootBuiltins "list" = some (.type "list")) (hbase : attributeBase e "values" X.env (eval e X.env) = eval e X.env := by rfl) (hline : (apos.endLine == cpos.line) = true := by rfl)
    (hs : starEach [.Call (.Attribute e "values" apos) [] [] cpos] X.env = (false, eval (.Call (.Attribute e "values" apos) [] [] cpos) X.env) :: starEach [] X.env := by rfl) :
    PE X (.Call (.Name "list" p) [.Call (.Attribute e "values" apos) [] [] cpos] [] pos) (tListVals te) := by
  refine ⟨fun pins s σ H Q I hq => ?_⟩
  refine wpAny_Call_Name_kw (ld_blt I hg hm hv ?_)
  refine PyProof.Rows.callWith_type1 ?_ hs rfl
  rw [hs]
  show wpAny _ _ (spliced ((false, eval (.Call (.Attribute e "values" apos) [] [] cpos) X.env) :: backTo pos (starEach [] X.env))) _ _ s
  refine Calls.spliced_cons ?_
  refine wpAny_Call_method (T := "dict") (id := "dict.values") hbase rfl hline F.plainAttrs_dict F.slot_dict_values F.type_dict_values (thn (he.run pins s σ H _ I hq) fun u s1 ⟨x, H1, I1, rx, d, kvs, ex, hd, q⟩ => ?_)
  subst ex
  obtain rfl : u = Value.ref d := rx
  obtain ⟨hz, hs0, vs, kv, hdo⟩ := I1.hok d _ hd
  obtain ⟨ep, hat⟩ := hdo.dictAt
  have lk : kvs.length = vs.length := Paired.length kv
  have I2 : Inv X pins σ H1 { s1 with heap := s1.heap.push { cls := .type "dict_values", data := .fields #[.ref d] } } := I1.kept (t' := s1.toks) fun b ob q => Heap.get?_push_of_some _ q
  refine ⟨hdo.typeIs, hdo.mapOf.noDict, ?_⟩
  show wpAny _ _ (callWith cpos (.builtin "dict.values") [.ref d] [] []) _ X.xe s1
  refine method_meetsIn F.slot_dict_values F.entry_dict_values rfl (PySem.evalArgs_none ⟨rfl, hdo.typeIs, F.args_dict_values_1 _, _, meets_dict_values (mixKind X.prog X.w) d hs0, ⟨vs, hdo⟩, ?_⟩)
  refine Calls.spliced_nil ?_
  refine PySem.W.kdl_call (PySem.W.kdl_values (knd := mixKind X.prog X.w) (d := d) (kvs := vs) (ep := ep)) (I1.ok.hd hc) ⟨⟨_, Heap.get?_push_size _ rfl, rfl, rfl⟩, hat.push _⟩ (by rw [← lk]; exact hz) fun h' tk acc' c' hkeep hS hacc => ?_
  refine ⟨.ref _, upd H1 _ (.lst (kvs.map (·.2))), I2.laid hkeep (Nat.le_refl _) (show ObjOk X.prog X.w _ _ _ (.lst (kvs.map (·.2))) from ⟨?_, acc'.toList, c', ?_, ?_⟩), rfl, q _ (I2.hok.fresh (Nat.le_refl _))⟩
  · rw [List.length_map]; exact hz
  · have el : acc'.toList.length = acc'.size := by simp
    refine vals_of_at (by rw [List.length_map, el, hacc.1, lk]) fun j x w h1 h2 => ?_
    obtain ⟨k, hky⟩ := hacc.2 j w (by rw [← Array.getElem?_toList]; exact h2)
    obtain ⟨pk, g1, g2⟩ : ∃ pk, kvs[j]? = some pk ∧ x = pk.2 := by
      rw [List.getElem?_map] at h1
      cases hj : kvs[j]? with
      | none => rw [hj] at h1; cases h1
      | some pk =>
        rw [hj] at h1
        exact ⟨pk, rfl, (Option.some.inj h1).symm⟩
    obtain ⟨qv, f1, f2, f3⟩ := LiI.paired_get kv g1
    rw [hky] at f1
    cases f1
    rw [g2]
    exact f3
  · rw [Array.toArray_toList]; exact hS
theorem r_lv {te : TE} {σ : L2.St} {H : Hp} {Q : VK} (q : te σ H fun x H1 => rValsL x H1 Q) : tListVals te σ H Q := q
end
end Mb
namespace Mb
open PySem L2
/-! ### rows: things by name, sort, weight; dicts of them -/
theorem u1 {n : Nat} (h : n + 64 < cLine) : n + 1 < cLine := by omega
/-- what is known of the things so far: name, sort, weight -/
abbrev Env : Type := List (Str × Str × Int)
def sortsD (L : Env) : List (Key × V) := L.map fun e => (.inr e.1, .str e.2.1)
def loadsD (L : Env) : List (Key × V) := L.map fun e => (.inr e.1, .int e.2.2)
def nmsE (L : Env) : List Str := L.map (·.1)
def srtE (L : Env) (z : Str) : Str := ((L.find? fun e => decide (e.1 = z)).map (·.2.1)).getD ""
def wtE (L : Env) (z : Str) : Int := ((L.find? fun e => decide (e.1 = z)).map (·.2.2)).getD 0
theorem find_in {L : Env} {z : Str} (h : z ∈ nmsE L) : ∃ e, e ∈ L ∧ L.find? (fun e => decide (e.1 = z)) = some e := by
  induction L with
  | nil => simp [nmsE] at h
  | cons a r ih =>
    by_cases c : a.1 = z
    · exact ⟨a, List.mem_cons_self, by rw [List.find?_cons]; simp [c]⟩
    · have h2 : z ∈ nmsE r := by
        simp only [nmsE, List.map_cons, List.mem_cons] at h
        rcases h with h | h
        · exact absurd h.symm c
        · exact h
      obtain ⟨e, he, hf⟩ := ih h2
      exact ⟨e, List.mem_cons_of_mem _ he, by rw [List.find?_cons]; simp [c, hf]⟩
theorem val_map {L : Env} {z : Str} {f : Str × Str × Int → V} : valV (L.map fun e => ((.inr e.1 : Key), f e)) (.inr z) = (L.find? fun e => decide (e.1 = z)).map f := by
  unfold valV
  induction L with
  | nil => rfl
  | cons a r ih =>
    rw [List.map_cons, List.find?_cons, List.find?_cons]
    by_cases c : a.1 = z
    · simp [c]
    · have : ¬ ((.inr a.1 : Key) = .inr z) := fun h => c (Sum.inr.inj h)
      simp only [c, this, decide_false]
      exact ih
theorem get_sort {H : Hp} {S : Addr} {L : Env} {z : Str} (h : H S = some (.dK (sortsD L))) (hz : z ∈ nmsE L) : DGet H S (.str z) (some (.str (srtE L z))) := by
  obtain ⟨e, _, hf⟩ := find_in hz
  have := DGet.k (k := .inr z) h
  unfold sortsD at this
  rw [val_map (f := fun e => V.str e.2.1), hf] at this
  unfold srtE
  rw [hf]
  exact this
theorem get_load {H : Hp} {W : Addr} {L : Env} {z : Str} (h : H W = some (.dK (loadsD L))) (hz : z ∈ nmsE L) : DGet H W (.str z) (some (.int (wtE L z))) := by
  obtain ⟨e, _, hf⟩ := find_in hz
  have := DGet.k (k := .inr z) h
  unfold loadsD at this
  rw [val_map (f := fun e => V.int e.2.2), hf] at this
  unfold wtE
  rw [hf]
  exact this
theorem put_new {L : Env} {z : Str} {f : Str × Str × Int → V} {v : V} {e : Str × Str × Int} (h : z ∉ nmsE L) (he : e.1 = z) (hv : f e = v) : putK (L.map fun e => ((.inr e.1 : Key), f e)) (.inr z) v = (L ++ [e]).map fun e => ((.inr e.1 : Key), f e) := by
  unfold putK
  rw [if_neg]
  · rw [List.map_append, List.map_cons, List.map_nil, he, hv]
  · intro c
    obtain ⟨kv, hk, hd⟩ := List.any_eq_true.mp c
    obtain ⟨a, ha, rfl⟩ := List.mem_map.mp hk
    have e : a.1 = z := Sum.inr.inj (of_decide_eq_true hd)
    exact h (e ▸ List.mem_map.mpr ⟨a, ha, rfl⟩)
/-- bounds of the weights -/
def Light (L : Env) : Prop := ∀ e ∈ L, 0 ≤ e.2.2 ∧ e.2.2 ≤ 40
theorem Light.wt {L : Env} (h : Light L) (z : Str) : 0 ≤ wtE L z ∧ wtE L z ≤ 40 := by
  unfold wtE
  cases c : L.find? fun e => decide (e.1 = z) with
  | none => exact ⟨by decide, by decide⟩
  | some e => exact h e (List.mem_of_find?_eq_some c)
def wOf (x : Str) (ns : List Str) (L : Env) : Int :=
  if x = "free" then 1 else if x = "foot" ∨ x = "mirror" then wtE L (ns.getD 0 "") + 2 * wtE L (ns.getD 1 "") else
  if x = "cut" then (if srtE L (ns.getD 0 "") = "circle" then 5 * (wtE L (ns.getD 0 "") + wtE L (ns.getD 1 "")) else 2 * wtE L (ns.getD 0 "") + wtE L (ns.getD 1 "")) else
  if x = "round" ∨ x = "alike" then 2 * (ns.map (wtE L)).sum else (ns.map (wtE L)).sum
/-! ### tuples stay -/
def Kp (K : PySem.W.Frag) (H H' : Hp) : Prop := ∀ a xs, SqT K H a xs → SqT K H' a xs
theorem Kp.refl (K : PySem.W.Frag) (H : Hp) : Kp K H H := fun _ _ h => h
theorem Kp.trans {K : PySem.W.Frag} {H H1 H2 : Hp} (a : Kp K H H1) (b : Kp K H1 H2) : Kp K H H2 := fun x xs h => b x xs (a x xs h)
theorem Kp.same {K : PySem.W.Frag} {H H' : Hp} (s : Same H H') : Kp K H H' := fun _ _ h => s.tp h
theorem Kp.but {K : PySem.W.Frag} {H H' : Hp} {p : Addr} {b : Int} (s : But p H H') (h : Pl H p b) : Kp K H H' := fun _ _ t => h.tup s t
theorem kp_set {K : PySem.W.Frag} {H : Hp} {p : Addr} {o o' : HO} (h : H p = some o) (n1 : ∀ xs, o ≠ .tup xs) (n2 : ∀ u v, o ≠ .frz u v) : Kp K H (upd H p o') := fun a xs t => by
  rcases t with (t | ⟨u, t⟩) | t
  · refine .inl (.inl ?_)
    rw [upd_ne (fun z => by rw [z, h] at t; exact n1 _ (Option.some.inj t))]
    exact t
  · refine .inl (.inr ⟨u, ?_⟩)
    rw [upd_ne (fun z => by rw [z, h] at t; exact n2 _ _ (Option.some.inj t))]
    exact t
  · exact .inr t
theorem kp_list {K : PySem.W.Frag} {H : Hp} {p : Addr} {xs : List V} {o' : HO} (h : H p = some (.lst xs)) : Kp K H (upd H p o') := kp_set h (fun _ z => by cases z) (fun _ _ z => by cases z)
theorem kp_dict {K : PySem.W.Frag} {H : Hp} {p : Addr} {kvs : List (Key × V)} {o' : HO} (h : H p = some (.dK kvs)) : Kp K H (upd H p o') := kp_set h (fun _ z => by cases z) (fun _ _ z => by cases z)
/-! ### makings, things, rows -/
/-- what follows the names of a making -/
def Tl (K : PySem.W.Frag) (H : Hp) (x : Str) (r : List V) : Prop :=
  (x = "free" ∧ ∃ (f g : Addr) (t u t' u' : Int), r = [.ref f, .ref g] ∧ SqT K H f [.int t, .int u] ∧ SqT K H g [.int t', .int u']) ∨
  (x = "share" ∧ ∃ (f : Addr) (t u : Int), r = [.ref f] ∧ SqT K H f [.int t, .int u]) ∨ (x = "cut" ∧ ∃ n : Int, r = [.int n]) ∨ (x ≠ "free" ∧ x ≠ "share" ∧ x ≠ "cut" ∧ r = [])
def Mk (K : PySem.W.Frag) (H : Hp) (m : Addr) (x : Str) (ns : List Str) : Prop := ∃ r : List V, SqT K H m (.str x :: (ns.map V.str ++ r)) ∧ Tl K H x r
abbrev Thing : Type := Str × Str × List Str
def Th (K : PySem.W.Frag) (H : Hp) (v : V) (t : Thing) : Prop := ∃ a m : Addr, v = .ref a ∧ SqT K H a [.str t.1, .ref m] ∧ Mk K H m t.2.1 t.2.2
theorem Tl.kp {K : PySem.W.Frag} {H H' : Hp} {x : Str} {r : List V} (h : Tl K H x r) (k : Kp K H H') : Tl K H' x r := by
  rcases h with ⟨e, f, g, t, u, t', u', er, h1, h2⟩ | ⟨e, f, t, u, er, h1⟩ | h | h
  · exact .inl ⟨e, f, g, t, u, t', u', er, k _ _ h1, k _ _ h2⟩
  · exact .inr (.inl ⟨e, f, t, u, er, k _ _ h1⟩)
  · exact .inr (.inr (.inl h))
  · exact .inr (.inr (.inr h))
theorem Mk.kp {K : PySem.W.Frag} {H H' : Hp} {m : Addr} {x : Str} {ns : List Str} (h : Mk K H m x ns) (k : Kp K H H') : Mk K H' m x ns := by
  obtain ⟨r, h1, h2⟩ := h
  exact ⟨r, k _ _ h1, h2.kp k⟩
theorem Th.kp {K : PySem.W.Frag} {H H' : Hp} {v : V} {t : Thing} (h : Th K H v t) (k : Kp K H H') : Th K H' v t := by
  obtain ⟨a, m, e, h1, h2⟩ := h
  exact ⟨a, m, e, k _ _ h1, h2.kp k⟩
def Rws (K : PySem.W.Frag) (H : Hp) (vs : List V) (ts : List Thing) : Prop := Paired (Th K H) vs ts
theorem Rws.kp {K : PySem.W.Frag} {H H' : Hp} (k : Kp K H H') : ∀ {vs : List V} {ts : List Thing}, Rws K H vs ts → Rws K H' vs ts
  | _, _, .nil => .nil
  | _, _, .cons h t => .cons (h.kp k) (Rws.kp k t)
/-- the word is one of the table, with so many names; they are of the things so far -/
def Okm (x : Str) (ns : List Str) (L : Env) : Prop := (∃ (s : Str) (g : List Str), (x, s, g) ∈ wordsTab ∧ ns.length = g.length) ∧ ∀ z ∈ ns, z ∈ nmsE L ∧ Sok z
def sOf (x : Str) : Str := ((wordsTab.find? fun q => decide (q.1 = x)).map (·.2.1)).getD ""
theorem sOf_eq {x s : Str} {g : List Str} (h : (x, s, g) ∈ wordsTab) : sOf x = s := by
  have all : ∀ q ∈ wordsTab, sOf q.1 = q.2.1 := by decide +kernel
  exact all _ h
def envStep (L : Env) (t : Thing) : Env := L ++ [(t.1, sOf t.2.1, wOf t.2.1 t.2.2 L)]
def envOf : Env → List Thing → Env
  | L, [] => L
  | L, t :: r => envOf (envStep L t) r
def Vr : Env → List Thing → Prop
  | _, [] => True
  | L, t :: r => (t.1 ∉ nmsE L ∧ Sok t.1 ∧ Okm t.2.1 t.2.2 L ∧ 0 ≤ wOf t.2.1 t.2.2 L ∧ wOf t.2.1 t.2.2 L ≤ 40) ∧ Vr (envStep L t) r
/-- the two dicts of the things so far -/
structure Dc (H : Hp) (S W : Addr) (L : Env) : Prop where
  s : H S = some (.dK (sortsD L))
  w : H W = some (.dK (loadsD L))
  light : Light L
  few : L.length ≤ 100
  ne : S ≠ W
theorem Dc.same {H H' : Hp} {S W : Addr} {L : Env} (h : Dc H S W L) (k : Same H H') : Dc H' S W L := ⟨k _ _ h.s, k _ _ h.w, h.light, h.few, h.ne⟩
theorem Dc.but {H H' : Hp} {S W p : Addr} {L : Env} {b : Int} (h : Dc H S W L) (k : But p H H') (hp : Pl H p b) : Dc H' S W L := by
  obtain ⟨_, _, _, e, _⟩ := hp
  exact ⟨k _ _ (fun z => by have := h.s; rw [z, e] at this; cases this) h.s, k _ _ (fun z => by have := h.w; rw [z, e] at this; cases this) h.w, h.light, h.few, h.ne⟩
def spWeight (K : PySem.W.Frag) : Sp := fun vs H Q _ => ∃ (m S W : Addr) (x : Str) (ns : List Str) (L : Env), vs = [.ref m, .ref S, .ref W] ∧ Mk K H m x ns ∧ Okm x ns L ∧ Dc H S W L ∧ ∀ H', Same H H' → Q (.int (wOf x ns L)) H'
def spGroundsL (K : PySem.W.Frag) : Sp := fun vs H Q _ => ∃ (m : Addr) (x : Str) (ns : List Str) (L : Env), vs = [.ref m] ∧ Mk K H m x ns ∧ Okm x ns L ∧ ∀ (l : Addr) (H' : Hp), Same H H' → H l = none → H' l = some (.lst (ns.map V.str)) → Q (.ref l) H'
def spSortL (K : PySem.W.Frag) : Sp := fun vs H Q _ => ∃ (m : Addr) (x : Str) (ns : List Str) (L : Env), vs = [.ref m] ∧ Mk K H m x ns ∧ Okm x ns L ∧ ∀ H', Same H H' → Q (.str (sOf x)) H'
def spEnter (K : PySem.W.Frag) : Sp := fun vs H Q _ => ∃ (m S W : Addr) (z x : Str) (ns : List Str) (L : Env), vs = [.str z, .ref m, .ref S, .ref W] ∧ Mk K H m x ns ∧ Okm x ns L ∧ Dc H S W L ∧ z ∉ nmsE L ∧
  ∀ H', Kp K H H' → (∀ b o, b ≠ S → b ≠ W → H b = some o → H' b = some o) → H' S = some (.dK (sortsD (envStep L (z, x, ns)))) → H' W = some (.dK (loadsD (envStep L (z, x, ns)))) → Q .non H'
def weightsOf (L : Env) : List V := L.map fun e => .int e.2.2
def spWeights (K : PySem.W.Frag) : Sp := fun vs H Q _ => ∃ (l : Addr) (us : List V) (ts : List Thing), vs = [.ref l] ∧ SqL K H l us ∧ Rws K H us ts ∧ Vr [] ts ∧ ts.length ≤ 60 ∧ ∀ (p : Addr) (H' : Hp), Same H H' → H p = none → H' p = some (.lst (weightsOf (envOf [] ts))) → Q (.ref p) H'
/-- sums of the loads -/
theorem r_dg {td ty : TE} {σ : St} {H : Hp} {Q : VK} (q : td σ H fun x H1 => ty σ H1 fun y H2 => ∃ a v, x = .ref a ∧ DGet H2 a y (some v) ∧ Q v H2) : tDGet td ty σ H Q := q
theorem r_dput {td ty tv : TE} {σ : St} {H : Hp} {D : Ends} (q : tv σ H fun v H1 => td σ H1 fun x H2 => ty σ H2 fun y H3 => ∃ a H4, x = .ref a ∧ DPut H3 a y v H4 ∧ D.nx σ H4) : sDPut td ty tv D σ H := q
theorem r_dputS {td ty tv : TE} {σ : St} {H : Hp} {D : Ends} {u : TS} (q : tv σ H fun v H1 => td σ H1 fun x H2 => ty σ H2 fun y H3 => ∃ a H4, x = .ref a ∧ DPut H3 a y v H4 ∧ u D σ H4) : tSeq (sDPut td ty tv) u D σ H := q
theorem r_inS {K : PySem.W.Frag} {H : Hp} {Q : VK} {a : Addr} {z : Str} {zs : List Str} (h : SqT K H a (zs.map V.str)) (q : Q (.bl (decide (z ∈ zs))) H) : rIn K false (.str z) (.ref a) H Q :=
  ⟨a, _, rfl, .inr h, rfl, by rw [List.all_map]; exact List.all_eq_true.mpr (fun _ _ => rfl), by rw [inV_str]; exact q⟩
theorem r_inSL {K : PySem.W.Frag} {H : Hp} {Q : VK} {a : Addr} {z : Str} {zs : List Str} (h : SqL K H a (zs.map V.str)) (q : Q (.bl (decide (z ∈ zs))) H) : rIn K false (.str z) (.ref a) H Q :=
  ⟨a, _, rfl, .inl h, rfl, by rw [List.all_map]; exact List.all_eq_true.mpr (fun _ _ => rfl), by rw [inV_str]; exact q⟩
theorem at_1 {a b : V} {r : List V} : atI (a :: b :: r) 1 = some b := atI_nat (j := 1) rfl
theorem at_2 {a b c : V} {r : List V} : atI (a :: b :: c :: r) 2 = some c := atI_nat (j := 2) rfl
theorem at_0 {a : V} {r : List V} : atI (a :: r) 0 = some a := atI_nat (j := 0) rfl
theorem cut_tail {x : V} {ys : List V} : cutV (x :: ys) (some 1) none = ys := by
  unfold cutV
  have e1 : HT.sIx (x :: ys).length 0 (some 1) = 1 := by
    have := HT.sIx_nat (x :: ys).length 0 1
    rw [show (some (1 : Int)) = some (((1 : Nat) : Int)) from rfl, this]
    simp only [List.length_cons]
    omega
  have e2 : HT.sIx (x :: ys).length (x :: ys).length none = (x :: ys).length := rfl
  rw [e1, e2]
  simp
theorem Tl.nil {K : PySem.W.Frag} {H : Hp} {x : Str} {r : List V} (h : Tl K H x r) (h1 : x ≠ "free") (h2 : x ≠ "share") (h3 : x ≠ "cut") : r = [] := by
  rcases h with ⟨e, _⟩ | ⟨e, _⟩ | ⟨e, _⟩ | ⟨_, _, _, e⟩
  · exact absurd e h1
  · exact absurd e h2
  · exact absurd e h3
  · exact e
theorem two_of {x s : Str} {g : List Str} (h : (x, s, g) ∈ wordsTab) (c : x = "share" ∨ x = "cut" ∨ x = "foot" ∨ x = "mirror") : g.length = 2 := by
  have all : ∀ q ∈ wordsTab, (q.1 = "share" ∨ q.1 = "cut" ∨ q.1 = "foot" ∨ q.1 = "mirror") → q.2.2.length = 2 := by decide +kernel
  exact all _ h c
theorem pair_of {ns : List Str} (h : ns.length = 2) : ∃ a b, ns = [a, b] := by
  match ns, h with
  | [a, b], _ => exact ⟨a, b, rfl⟩
theorem sorts_of {x s : Str} {g : List Str} (h : (x, s, g) ∈ wordsTab) : (x ∈ (["line", "along", "upright"] : List Str) → s = "line") ∧ (x ∈ (["inline", "round", "alike", "beside", "square"] : List Str) → s = "claim") ∧ (x = "circle" → s = "circle") ∧ (x ∉ (["line", "along", "upright"] : List Str) → x ∉ (["inline", "round", "alike", "beside", "square"] : List Str) → x ≠ "circle" → s = "point") := by
  have all : ∀ q ∈ wordsTab, (q.1 ∈ (["line", "along", "upright"] : List Str) → q.2.1 = "line") ∧ (q.1 ∈ (["inline", "round", "alike", "beside", "square"] : List Str) → q.2.1 = "claim") ∧ (q.1 = "circle" → q.2.1 = "circle") ∧ (q.1 ∉ (["line", "along", "upright"] : List Str) → q.1 ∉ (["inline", "round", "alike", "beside", "square"] : List Str) → q.1 ≠ "circle" → q.2.1 = "point") := by decide +kernel
  exact all _ h
/-! ### comprehensions over a list -/
def lcL (K : PySem.W.Frag) (g : TG) (tt : TT) (te : TE) (vs : List Nat) (σ : St) (Q : VK) (x : V) (H1 : Hp) : Prop := ∃ a, x = .ref a ∧ (∃ xs, SqL K H1 a xs) ∧ ∀ D, H1 D = none → ∃ W : Nat → Nat → Hp → Prop, (∃ m, W 0 m (upd H1 D (.lst []))) ∧ ∀ i m H, W i m H →
  ((Itl K a).stop i H ∧ Q (.ref D) H) ∨ ((Itl K a).go i H ∧ ∃ Nx : Hp → Prop, (∀ H', Nx H' → ∃ m', m' < m ∧ W (i + 1) m' H') ∧ ∀ x H', (Itl K a).yld i H x H' → g x (wipe σ vs) H' fun σ2 H2 => wipe σ2 vs = wipe σ vs ∧ tt σ2 H2 fun b H3 =>
    if b = true then te σ2 H3 fun y H4 => ∃ acc, H4 D = some (.lst acc) ∧ acc.length < sizeLine ∧ Nx (upd H4 D (.lst (acc ++ [y]))) else Nx H3)
theorem r_lcM {K : PySem.W.Frag} {tl : TE} {g : TG} {tt : TT} {te : TE} {vs : List Nat} {σ : St} {H : Hp} {Q : VK} (q : tl σ H (lcL K g tt te vs σ Q)) : tLc (iList K tl) g tt te vs σ H Q := q
/-- a value of each item, nothing changed -/
theorem lc_map {K : PySem.W.Frag} {j : Nat} {te : TE} {σ : St} {Q : VK} {l : Addr} {xs : List V} {H : Hp} (F : V → V) (hl : SqL K H l xs) (few : xs.length ≤ 1000) (hσ : ∀ v, wipe ((wipe σ [j]).set j (some v)) [j] = wipe σ [j])
    (step : ∀ (i : Nat) (x : V) (H' : Hp), xs[i]? = some x → Same H H' → ∀ R : VK, (∀ H4, Same H' H4 → R (F x) H4) → te ((wipe σ [j]).set j (some x)) H' R)
    (fin : ∀ (D : Addr) (H' : Hp), Same H H' → H D = none → H' D = some (.lst (xs.map F)) → Q (.ref D) H') : lcL K (gName j) tYes te [j] σ Q (.ref l) H := by
  refine ⟨l, rfl, ⟨_, hl⟩, fun D hD => ?_⟩
  refine lc_list (xs := xs) (fun i H' => Same H H' ∧ H' D = some (.lst ((xs.take i).map F))) ⟨same_new hD _, by rw [List.take_zero]; exact upd_same⟩ (fun i H' _ h => h.1.seq hl) ?_ ?_
  · rintro i x H' hx ⟨g, d⟩
    have hi : i < xs.length := (List.getElem?_eq_some_iff.mp hx).1
    refine ⟨hσ x, ?_⟩
    refine r_yes ?_
    show te _ _ _
    refine step i x H' hx g _ fun H4 g4 => ?_
    refine ⟨_, g4 _ _ d, ?_, same_updS (g.trans g4) hD, ?_⟩
    · rw [List.length_map, List.length_take]
      exact Nat.lt_of_le_of_lt (Nat.min_le_left _ _) (Nat.lt_of_lt_of_le (show i < 1001 by omega) (by decide))
    · rw [List.take_succ, hx, Option.toList_some, List.map_append]
      exact upd_same
  · rintro H' ⟨g, d⟩
    rw [List.take_length] at d
    exact fin D H' g hD d
theorem r_lst0 {K : PySem.W.Frag} {H : Hp} {Q : VK} {p : Addr} {xs : List V} {v : V} {n : Nat} (h : SqL K H p xs) (e : xs[n]? = some v) (q : Q v H) : rIxL K (.ref p) (.int (n : Int)) H Q := r_ixL h (atI_nat e) q
theorem sm_small {i : Int} (h : i.natAbs < 1000000) : Sm 64 i := Nat.lt_of_lt_of_le h (by decide)
theorem cm_small {i j : Int} (h : i.natAbs < 1000000) (h' : j.natAbs < 1000000) : CMulW i j := Sm.cmul (sm_small h) (sm_small h')
theorem sum_small {L : Env} (hL : Light L) : ∀ ns : List Str, 0 ≤ (ns.map (wtE L)).sum ∧ (ns.map (wtE L)).sum ≤ 40 * (ns.length : Int)
  | [] => by simp
  | n :: r => by
    obtain ⟨h1, h2⟩ := sum_small hL r
    obtain ⟨h3, h4⟩ := hL.wt n
    simp only [List.map_cons, List.sum_cons, List.length_cons, Int.natCast_add]
    omega
theorem envOf_append : ∀ (a b : List Thing) (L : Env), envOf L (a ++ b) = envOf (envOf L a) b
  | [], _, _ => rfl
  | t :: a, b, L => envOf_append a b (envStep L t)
theorem envOf_len : ∀ (a : List Thing) (L : Env), (envOf L a).length = L.length + a.length
  | [], _ => rfl
  | t :: a, L => by
    show (envOf (envStep L t) a).length = _
    rw [envOf_len a]
    unfold envStep
    simp only [List.length_append, List.length_cons, List.length_nil]
    omega
theorem Vr.split : ∀ (a b : List Thing) (L : Env), Vr L (a ++ b) → Vr L a ∧ Vr (envOf L a) b
  | [], _, _, h => ⟨trivial, h⟩
  | t :: a, b, L, ⟨h1, h2⟩ => by
    obtain ⟨h3, h4⟩ := Vr.split a b _ h2
    exact ⟨⟨h1, h3⟩, h4⟩
theorem Vr.join : ∀ (a b : List Thing) (L : Env), Vr L a → Vr (envOf L a) b → Vr L (a ++ b)
  | [], _, _, _, h => h
  | t :: a, b, L, ⟨h1, h2⟩, h => ⟨h1, Vr.join a b _ h2 h⟩
theorem Vr.light : ∀ (a : List Thing) (L : Env), Light L → Vr L a → Light (envOf L a)
  | [], _, h, _ => h
  | t :: a, L, h, ⟨h1, h2⟩ => Vr.light a _ (fun e he => by
      rcases List.mem_append.mp he with h' | h'
      · exact h e h'
      · rw [List.mem_singleton.mp h']
        exact ⟨h1.2.2.2.1, h1.2.2.2.2⟩) h2
theorem light0 : Light [] := fun _ h => by cases h
/-- the i-th thing, with what was known ahead of it -/
theorem Vr.at {ts : List Thing} {i : Nat} {t : Thing} (h : Vr [] ts) (hi : ts[i]? = some t) : t.1 ∉ nmsE (envOf [] (ts.take i)) ∧ Sok t.1 ∧ Okm t.2.1 t.2.2 (envOf [] (ts.take i)) ∧ envOf [] (ts.take (i + 1)) = envStep (envOf [] (ts.take i)) t ∧ Light (envOf [] (ts.take i)) ∧ Light (envOf [] (ts.take (i + 1))) := by
  have hl := (List.getElem?_eq_some_iff.mp hi).1
  have e1 : ts.take (i + 1) = ts.take i ++ [t] := by rw [List.take_succ, hi, Option.toList_some]
  have e2 : envOf [] (ts.take (i + 1)) = envStep (envOf [] (ts.take i)) t := by rw [e1, envOf_append]; rfl
  have h1 : Vr [] (ts.take (i + 1) ++ ts.drop (i + 1)) := by rw [List.take_append_drop]; exact h
  obtain ⟨h2, _⟩ := Vr.split _ _ _ h1
  have h3 := h2
  rw [e1] at h3
  obtain ⟨h4, h5⟩ := Vr.split _ _ _ h3
  exact ⟨h5.1.1, h5.1.2.1, h5.1.2.2.1, e2, Vr.light _ _ light0 h4, Vr.light _ _ light0 h2⟩
theorem Rws.at {K : PySem.W.Frag} {H : Hp} {vs : List V} {ts : List Thing} {i : Nat} {v : V} (h : Rws K H vs ts) (hi : vs[i]? = some v) : ∃ t, ts[i]? = some t ∧ Th K H v t := LiI.paired_get h hi
theorem Rws.len {K : PySem.W.Frag} {H : Hp} {vs : List V} {ts : List Thing} (h : Rws K H vs ts) : vs.length = ts.length := Paired.length h
end Mb
namespace Mb
open PySem L2
/-! ### drawing a making: names by sort -/
structure By (H : Hp) (p B P Ln C Z : Addr) (pts lns crs cls : List Str) : Prop where
  b : H B = some (.dK [(.inr "point", .ref P), (.inr "line", .ref Ln), (.inr "circle", .ref C), (.inr "claim", .ref Z)])
  eP : H P = some (.lst (pts.map V.str))
  eL : H Ln = some (.lst (lns.map V.str))
  eC : H C = some (.lst (crs.map V.str))
  eZ : H Z = some (.lst (cls.map V.str))
  nP : P ≠ p
  nL : Ln ≠ p
  nC : C ≠ p
  nZ : Z ≠ p
  f : pts.length ≤ 100 ∧ lns.length ≤ 100 ∧ crs.length ≤ 100 ∧ cls.length ≤ 100
  nB : B ≠ p
theorem By.but {H H' : Hp} {p B P Ln C Z : Addr} {pts lns crs cls : List Str} (h : By H p B P Ln C Z pts lns crs cls) (k : But p H H') : By H' p B P Ln C Z pts lns crs cls :=
  ⟨k _ _ h.nB h.b, k _ _ h.nP h.eP, k _ _ h.nL h.eL, k _ _ h.nC h.eC, k _ _ h.nZ h.eZ, h.nP, h.nL, h.nC, h.nZ, h.f, h.nB⟩
def Fit (pts lns crs : List Str) (g z : Str) : Prop := (g = "point" ∧ z ∈ pts) ∨ (g = "line" ∧ z ∈ lns) ∨ (g = "circle" ∧ z ∈ crs) ∨ (g = "curve" ∧ (z ∈ lns ∨ z ∈ crs))
theorem fitP {pts lns crs : List Str} {z : Str} (h : z ∈ pts) : Fit pts lns crs "point" z := .inl ⟨rfl, h⟩
theorem fitL {pts lns crs : List Str} {z : Str} (h : z ∈ lns) : Fit pts lns crs "line" z := .inr (.inl ⟨rfl, h⟩)
theorem fitC {pts lns crs : List Str} {z : Str} (h : z ∈ crs) : Fit pts lns crs "circle" z := .inr (.inr (.inl ⟨rfl, h⟩))
theorem fitU {pts lns crs : List Str} {z : Str} (h : z ∈ lns ∨ z ∈ crs) : Fit pts lns crs "curve" z := .inr (.inr (.inr ⟨rfl, h⟩))
def spMaking (K : PySem.W.Frag) : Sp := fun vs H Q _ => ∃ (p B P Ln C Z : Addr) (pts lns crs cls : List Str) (b : Int), vs = [.ref p, .ref B] ∧ Pl H p b ∧ b ≤ 1700000 ∧ By H p B P Ln C Z pts lns crs cls ∧
  ∀ (m : Addr) (x s : Str) (g ns : List Str) (H' : Hp), But p H H' → Pl H' p (b + 100) → Mk K H' m x ns → (x, s, g) ∈ wordsTab → Paired (Fit pts lns crs) g ns → Q (.ref m) H'
theorem pick_str {zs : List Str} {r : Int} (l : 0 ≤ r) (u : r < (zs.length : Int)) : ∃ z, atI (zs.map V.str) r = some (.str z) ∧ z ∈ zs := by
  obtain ⟨j, rfl⟩ : ∃ n : Nat, r = (n : Int) := ⟨r.toNat, by omega⟩
  have hj : j < zs.length := by omega
  exact ⟨zs[j], at_str hj, List.getElem_mem hj⟩
theorem tl0 {K : PySem.W.Frag} {H : Hp} {x : Str} (h1 : x ≠ "free") (h2 : x ≠ "share") (h3 : x ≠ "cut") : Tl K H x [] := .inr (.inr (.inr ⟨h1, h2, h3, rfl⟩))
theorem word4 {i : Int} (h : i = 0 ∨ i = 2 ∨ i = 3) : ∃ x : Str, atI [V.str "middle", .str "share", .str "next", .str "turn"] i = some (.str x) ∧ (x, ("point" : Str), (["point", "point"] : List Str)) ∈ wordsTab ∧ x ≠ "free" ∧ x ≠ "share" ∧ x ≠ "cut" := by
  rcases h with rfl | rfl | rfl
  all_goals exact ⟨_, rfl, by decide +kernel, by decide +kernel, by decide +kernel, by decide +kernel⟩
theorem word4b {i : Int} (h : i = 0 ∨ i = 1 ∨ i = 2 ∨ i = 3) : ∃ x s : Str, atI [V.str "along", .str "upright", .str "foot", .str "mirror"] i = some (.str x) ∧ (x, s, (["point", "line"] : List Str)) ∈ wordsTab ∧ x ≠ "free" ∧ x ≠ "share" ∧ x ≠ "cut" := by
  rcases h with rfl | rfl | rfl | rfl
  · exact ⟨_, "line", rfl, by decide +kernel, by decide +kernel, by decide +kernel, by decide +kernel⟩
  · exact ⟨_, "line", rfl, by decide +kernel, by decide +kernel, by decide +kernel, by decide +kernel⟩
  · exact ⟨_, "point", rfl, by decide +kernel, by decide +kernel, by decide +kernel, by decide +kernel⟩
  · exact ⟨_, "point", rfl, by decide +kernel, by decide +kernel, by decide +kernel, by decide +kernel⟩
theorem word2 {i : Int} (h : i = 0 ∨ i = 1) : ∃ x : Str, atI [V.str "beside", .str "square"] i = some (.str x) ∧ (x, ("claim" : Str), (["line", "line"] : List Str)) ∈ wordsTab ∧ x ≠ "free" ∧ x ≠ "share" ∧ x ≠ "cut" := by
  rcases h with rfl | rfl
  all_goals exact ⟨_, rfl, by decide +kernel, by decide +kernel, by decide +kernel, by decide +kernel⟩
theorem word2b {i : Int} (h : i = 0 ∨ i = 1) : ∃ x : Str, atI [V.str "round", .str "alike"] i = some (.str x) ∧ (x, ("claim" : Str), (["point", "point", "point", "point"] : List Str)) ∈ wordsTab ∧ x ≠ "free" ∧ x ≠ "share" ∧ x ≠ "cut" := by
  rcases h with rfl | rfl
  all_goals exact ⟨_, rfl, by decide +kernel, by decide +kernel, by decide +kernel, by decide +kernel⟩
end Mb
namespace Mb
open PySem L2
/-! ### drawing a row -/
theorem fit_mem {pts lns crs : List Str} : ∀ {g ns : List Str}, Paired (Fit pts lns crs) g ns → ∀ z ∈ ns, z ∈ pts ∨ z ∈ lns ∨ z ∈ crs
  | _, _, .cons h t, z, hz => by
    rcases List.mem_cons.mp hz with rfl | hz
    · rcases h with ⟨_, h⟩ | ⟨_, h⟩ | ⟨_, h⟩ | ⟨_, h | h⟩
      · exact .inl h
      · exact .inr (.inl h)
      · exact .inr (.inr h)
      · exact .inr (.inl h)
      · exact .inr (.inr h)
    · exact fit_mem t z hz
theorem okm_of {pts lns crs : List Str} {x s : Str} {g ns : List Str} {L : Env} (tx : (x, s, g) ∈ wordsTab) (pr : Paired (Fit pts lns crs) g ns) (mem : ∀ z, (z ∈ pts ∨ z ∈ lns ∨ z ∈ crs) → z ∈ nmsE L ∧ Sok z) : Okm x ns L :=
  ⟨⟨s, g, tx, (Paired.length pr).symm⟩, fun z hz => mem z (fit_mem pr z hz)⟩
theorem okm_free {L : Env} : Okm "free" [] L := ⟨⟨"point", [], by decide +kernel, rfl⟩, fun _ h => by cases h⟩
theorem wOf_nonneg {L : Env} (h : Light L) (x : Str) (ns : List Str) : 0 ≤ wOf x ns L := by
  have w := fun z => (h.wt z).1
  have s := (sum_small h ns).1
  have w0 := w (ns.getD 0 "")
  have w1 := w (ns.getD 1 "")
  unfold wOf
  split
  · decide
  split
  · omega
  split
  · split <;> omega
  split <;> omega
theorem wOf_free {L : Env} {ns : List Str} : wOf "free" ns L = 1 := by unfold wOf; rw [if_pos rfl]
structure All (K : PySem.W.Frag) (H H' : Hp) (p R B S W P Ln C Z : Addr) (c : Int) (us : List V) (ts : List Thing) (pts lns crs cls : List Str) : Prop where
  bt : But p H H'
  pl : Pl H' p c
  eR : H' R = some (.lst us)
  rw : Rws K H' us ts
  bi : By H' p B P Ln C Z pts lns crs cls
  dc : Dc H' S W (envOf [] ts)
  vr : Vr [] ts
  mem : ∀ z, (z ∈ pts ∨ z ∈ lns ∨ z ∈ crs) → z ∈ nmsE (envOf [] ts) ∧ Sok z
  ln : pts.length ≤ ts.length ∧ lns.length ≤ ts.length ∧ crs.length ≤ ts.length ∧ cls.length ≤ ts.length
theorem All.but {K : PySem.W.Frag} {H H' H2 : Hp} {p R B S W P Ln C Z : Addr} {c c' : Int} {us : List V} {ts : List Thing} {pts lns crs cls : List Str} (h : All K H H' p R B S W P Ln C Z c us ts pts lns crs cls) (k : But p H' H2) (pl : Pl H2 p c') (nR : R ≠ p) : All K H H2 p R B S W P Ln C Z c' us ts pts lns crs cls :=
  ⟨h.bt.trans k, pl, k _ _ nR h.eR, h.rw.kp (Kp.but k h.pl), h.bi.but k, h.dc.but k h.pl, h.vr, h.mem, h.ln⟩
theorem All.same {K : PySem.W.Frag} {H H' H2 : Hp} {p R B S W P Ln C Z : Addr} {c : Int} {us : List V} {ts : List Thing} {pts lns crs cls : List Str} (h : All K H H' p R B S W P Ln C Z c us ts pts lns crs cls) (k : Same H' H2) (nR : R ≠ p) : All K H H2 p R B S W P Ln C Z c us ts pts lns crs cls := h.but (But.same k) (h.pl.same k) nR
theorem sort_keys {L : Env} : (sortsD L).map (fun kv => kV kv.1) = (nmsE L).map V.str := by
  unfold sortsD nmsE
  rw [List.map_map, List.map_map]
  rfl
theorem nms_len {L : Env} : (nmsE L).length = L.length := List.length_map _
theorem nms_step {L : Env} {t : Thing} : nmsE (envStep L t) = nmsE L ++ [t.1] := by
  unfold envStep nmsE
  rw [List.map_append]
  rfl
theorem srt_step {L : Env} {t : Thing} (h : t.1 ∉ nmsE L) : srtE (envStep L t) t.1 = sOf t.2.1 := by
  unfold srtE envStep
  rw [List.find?_append]
  have : L.find? (fun e => decide (e.1 = t.1)) = none := by
    rw [List.find?_eq_none]
    intro e he hd
    exact h (of_decide_eq_true hd ▸ List.mem_map.mpr ⟨e, he, rfl⟩)
  rw [this]
  simp
theorem sort4 {x s : Str} {g : List Str} (h : (x, s, g) ∈ wordsTab) : sOf x = "point" ∨ sOf x = "line" ∨ sOf x = "circle" ∨ sOf x = "claim" := by
  have all : ∀ q ∈ wordsTab, sOf q.1 = "point" ∨ sOf q.1 = "line" ∨ sOf q.1 = "circle" ∨ sOf q.1 = "claim" := by decide +kernel
  exact all _ h
def spRow (K : PySem.W.Frag) : Sp := fun vs H Q _ => ∃ (p : Addr) (n : Nat) (b : Int), vs = [.ref p, .int (n : Int)] ∧ n ≤ 60 ∧ Pl H p b ∧ b ≤ 1100000 ∧
  ∀ (l : Addr) (us : List V) (ts : List Thing) (H' : Hp), But p H H' → Pl H' p (b + 100000) → H l = none → H' l = some (.lst us) → Rws K H' us ts → Vr [] ts → ts.length = n → Q (.ref l) H'
theorem env_snoc {ts : List Thing} {t : Thing} : envOf [] (ts ++ [t]) = envStep (envOf [] ts) t := by rw [envOf_append]; rfl
theorem vr_snoc {ts : List Thing} {t : Thing} (h : Vr [] ts) (h1 : t.1 ∉ nmsE (envOf [] ts)) (h2 : Sok t.1) (h3 : Okm t.2.1 t.2.2 (envOf [] ts)) (h4 : 0 ≤ wOf t.2.1 t.2.2 (envOf [] ts)) (h5 : wOf t.2.1 t.2.2 (envOf [] ts) ≤ 40) : Vr [] (ts ++ [t]) := Vr.join _ _ _ h ⟨⟨h1, h2, h3, h4, h5⟩, trivial⟩
theorem rws_snoc {K : PySem.W.Frag} {H : Hp} {v : V} {t : Thing} : ∀ {us : List V} {ts : List Thing}, Rws K H us ts → Th K H v t → Rws K H (us ++ [v]) (ts ++ [t])
  | _, _, .nil, h => .cons h .nil
  | _, _, .cons a r, h => .cons a (rws_snoc r h)
theorem ne_kind {H : Hp} {a b : Addr} {xs : List V} {kvs : List (Key × V)} (h : H a = some (.lst xs)) (h' : H b = some (.dK kvs)) : a ≠ b := fun z => by rw [z, h'] at h; cases h
theorem r_prs {tk tv : TE} {r : List (TE × TE)} {σ : St} {H : Hp} {Q : List (V × V) → Hp → Prop} (q : tk σ H fun x H1 => tv σ H1 fun y H2 => tPairs r σ H2 fun ps H3 => Q ((x, y) :: ps) H3) : tPairs ((tk, tv) :: r) σ H Q := q
theorem r_prs0 {σ : St} {H : Hp} {Q : List (V × V) → Hp → Prop} (q : Q [] H) : tPairs [] σ H Q := q
theorem mmP {pts lns crs : List Str} {z : Str} : ∀ y, (y ∈ pts ++ [z] ∨ y ∈ lns ∨ y ∈ crs) → (y ∈ pts ∨ y ∈ lns ∨ y ∈ crs) ∨ y = z := by
  intro y h
  rcases h with h | h | h
  · rcases List.mem_append.mp h with h | h
    · exact .inl (.inl h)
    · exact .inr (List.mem_singleton.mp h)
  · exact .inl (.inr (.inl h))
  · exact .inl (.inr (.inr h))
theorem mmL {pts lns crs : List Str} {z : Str} : ∀ y, (y ∈ pts ∨ y ∈ lns ++ [z] ∨ y ∈ crs) → (y ∈ pts ∨ y ∈ lns ∨ y ∈ crs) ∨ y = z := by
  intro y h
  rcases h with h | h | h
  · exact .inl (.inl h)
  · rcases List.mem_append.mp h with h | h
    · exact .inl (.inr (.inl h))
    · exact .inr (List.mem_singleton.mp h)
  · exact .inl (.inr (.inr h))
theorem mmC {pts lns crs : List Str} {z : Str} : ∀ y, (y ∈ pts ∨ y ∈ lns ∨ y ∈ crs ++ [z]) → (y ∈ pts ∨ y ∈ lns ∨ y ∈ crs) ∨ y = z := by
  intro y h
  rcases h with h | h | h
  · exact .inl (.inl h)
  · exact .inl (.inr (.inl h))
  · rcases List.mem_append.mp h with h | h
    · exact .inl (.inr (.inr h))
    · exact .inr (List.mem_singleton.mp h)
end Mb
namespace Mb
open PySem L2
/-! ### rows as data; equality -/
theorem lay_app : ∀ {a b : List PyData}, PyData.canLayAll0 a = true → PyData.canLayAll0 b = true → PyData.canLayAll0 (a ++ b) = true
  | [], _, _, h => h
  | x :: a, b, h1, h2 => by
    unfold PyData.canLayAll0 at h1
    obtain ⟨h3, h4⟩ := Bool.and_eq_true_iff.mp h1
    show PyData.canLayAll0 (x :: (a ++ b)) = true
    unfold PyData.canLayAll0
    rw [h3, lay_app h4 h2]
    rfl
theorem dep_app : ∀ {a b : List PyData} {n : Nat}, PyData.depthAll a ≤ n → PyData.depthAll b ≤ n → PyData.depthAll (a ++ b) ≤ n
  | [], _, _, _, h => h
  | x :: a, b, n, h1, h2 => by
    unfold PyData.depthAll at h1
    show PyData.depthAll (x :: (a ++ b)) ≤ n
    unfold PyData.depthAll
    have := dep_app (a := a) (b := b) (n := n) (by omega) h2
    omega
theorem dpAll_app {K : PySem.W.Frag} {H : Hp} : ∀ {xs ys : List V} {ds es : List PyData}, DpAll K H xs ds → DpAll K H ys es → DpAll K H (xs ++ ys) (ds ++ es)
  | _, _, _, _, .nil, h => h
  | _, _, _, _, .cons a r, h => .cons a (dpAll_app r h)
theorem dp_two {K : PySem.W.Frag} {H : Hp} {f : Addr} {t u : Int} (h : SqT K H f [.int t, .int u]) : Dp K H (.ref f) (.tuple [.int t, .int u]) := .tup h (.cons (.int t) (.cons (.int u) .nil))
theorem Tl.dp {K : PySem.W.Frag} {H : Hp} {x : Str} {r : List V} (h : Tl K H x r) : ∃ ds, DpAll K H r ds ∧ PyData.canLayAll0 ds = true ∧ PyData.depthAll ds ≤ 10 := by
  rcases h with ⟨e, f, g, t, u, t', u', rfl, h1, h2⟩ | ⟨e, f, t, u, rfl, h1⟩ | ⟨_, n, rfl⟩ | ⟨_, _, _, rfl⟩
  · exact ⟨_, .cons (dp_two h1) (.cons (dp_two h2) .nil), rfl, by simp [PyData.depthAll, PyData.depth]⟩
  · exact ⟨_, .cons (dp_two h1) .nil, rfl, by simp [PyData.depthAll, PyData.depth]⟩
  · exact ⟨_, .cons (.int n) .nil, rfl, by simp [PyData.depthAll, PyData.depth]⟩
  · exact ⟨[], .nil, rfl, by decide⟩
theorem word_ok {x s : Str} {g : List Str} (h : (x, s, g) ∈ wordsTab) : PyData.strOk x = true := by
  have all : ∀ q ∈ wordsTab, PyData.strOk q.1 = true := by decide +kernel
  exact all _ h
theorem Th.dp {K : PySem.W.Frag} {H : Hp} {v : V} {t : Thing} {L : Env} (h : Th K H v t) (ok : Okm t.2.1 t.2.2 L) (sk : Sok t.1) : ∃ d, Dp K H v d ∧ PyData.canLay0 d = true ∧ PyData.depth d ≤ 20 := by
  obtain ⟨a, m, rfl, ta, r, tm, tl⟩ := h
  obtain ⟨⟨so, g, tx, _⟩, hz⟩ := ok
  obtain ⟨ds, d1, d2, d3⟩ := tl.dp
  obtain ⟨e1, e2⟩ := lay_strs t.2.2 fun z h => (hz z h).2.2
  have l1 := lay_app e1 d2
  have l2 : PyData.depthAll (t.2.2.map PyData.str ++ ds) ≤ 10 := dep_app (by omega) d3
  refine ⟨.tuple [.str t.1, .tuple (.str t.2.1 :: (t.2.2.map PyData.str ++ ds))], .tup ta (.cons (.str _) (.cons (.tup tm (.cons (.str _) (dpAll_app (dpAll_strs _) d1))) .nil)), ?_, ?_⟩
  · simp only [PyData.canLay0, PyData.canLayAll0, sk.2, word_ok tx, l1, Bool.and_self]
  · simp only [PyData.depth, PyData.depthAll]
    omega
theorem rows_dp {K : PySem.W.Frag} {H : Hp} : ∀ {us : List V} {ts : List Thing} {L : Env}, Rws K H us ts → Vr L ts → ∃ ds, DpAll K H us ds ∧ PyData.canLayAll0 ds = true ∧ PyData.depthAll ds ≤ 20
  | _, _, _, .nil, _ => ⟨[], .nil, rfl, by decide⟩
  | _, _, L, .cons h r, ⟨v1, v2⟩ => by
    obtain ⟨d, h1, h2, h3⟩ := h.dp v1.2.2.1 v1.2.1
    obtain ⟨ds, g1, g2, g3⟩ := rows_dp r v2
    refine ⟨d :: ds, .cons h1 g1, ?_, ?_⟩
    · unfold PyData.canLayAll0
      rw [h2, g2]
      rfl
    · unfold PyData.depthAll
      omega
theorem r_neRow {K : PySem.W.Frag} {H : Hp} {Q : VK} {a b : Addr} {us : List V} {ts : List Thing} (h1 : SqL K H a us) (h2 : SqL K H b us) (rw_ : Rws K H us ts) (vr : Vr [] ts) (k : Q (.bl false) H) : rNeD K (.ref a) (.ref b) H Q := by
  obtain ⟨ds, d1, d2, d3⟩ := rows_dp rw_ vr
  have sh : SeqAt.shaped (.list ds) = true := by
    have e1 : PyData.canLay0 (.list ds) = true := by unfold PyData.canLay0; exact d2
    have e2 : PyData.depth (.list ds) ≤ 64 := by unfold PyData.depth; omega
    unfold SeqAt.shaped
    rw [e1, decide_eq_true e2]
    rfl
  refine ⟨_, _, .lst h1 d1, .lst h2 d1, sh, sh, ?_⟩
  rw [SeqAt.eqv_refl _ (by unfold PyData.canLay0; exact d2)]
  exact k
theorem dpAll_ints {K : PySem.W.Frag} {H : Hp} : ∀ (ns : List Int), DpAll K H (ns.map V.int) (ns.map PyData.int)
  | [] => .nil
  | n :: r => .cons (.int n) (dpAll_ints r)
theorem lay_ints : ∀ ns : List Int, PyData.canLayAll0 (ns.map PyData.int) = true ∧ PyData.depthAll (ns.map PyData.int) ≤ 1
  | [] => ⟨rfl, by decide⟩
  | n :: r => by
    obtain ⟨h1, h2⟩ := lay_ints r
    rw [List.map_cons]
    refine ⟨?_, ?_⟩
    · unfold PyData.canLayAll0 PyData.canLay0
      rw [h1]
      rfl
    · unfold PyData.depthAll PyData.depth
      omega
theorem sh_ints (ns : List Int) : SeqAt.shaped (.list (ns.map PyData.int)) = true ∧ PyData.canLay0 (.list (ns.map PyData.int)) = true := by
  have e1 : PyData.canLay0 (.list (ns.map PyData.int)) = true := by unfold PyData.canLay0; exact (lay_ints ns).1
  have e2 : PyData.depth (.list (ns.map PyData.int)) ≤ 64 := by unfold PyData.depth; have := (lay_ints ns).2; omega
  refine ⟨?_, e1⟩
  unfold SeqAt.shaped
  rw [e1, decide_eq_true e2]
  rfl
theorem r_neInt {K : PySem.W.Frag} {H : Hp} {Q : VK} {a b : Addr} {ns : List Int} (h1 : SqL K H a (ns.map V.int)) (h2 : SqL K H b (ns.map V.int)) (k : Q (.bl false) H) : rNeD K (.ref a) (.ref b) H Q := by
  refine ⟨_, _, .lst h1 (dpAll_ints ns), .lst h2 (dpAll_ints ns), (sh_ints ns).1, (sh_ints ns).1, ?_⟩
  rw [SeqAt.eqv_refl _ (sh_ints ns).2]
  exact k
theorem r_eqInt {K : PySem.W.Frag} {H : Hp} {Q : VK} {a b : Addr} {ns : List Int} (h1 : SqL K H a (ns.map V.int)) (h2 : SqL K H b (ns.map V.int)) (k : Q (.bl true) H) : rEqD K (.ref a) (.ref b) H Q := by
  refine ⟨_, _, .lst h1 (dpAll_ints ns), .lst h2 (dpAll_ints ns), (sh_ints ns).1, (sh_ints ns).1, ?_⟩
  rw [SeqAt.eqv_refl _ (sh_ints ns).2]
  exact k
def wts (L : Env) : List Int := L.map (·.2.2)
theorem wts_of {L : Env} : weightsOf L = (wts L).map V.int := by
  unfold weightsOf wts
  rw [List.map_map]
  rfl
theorem wts_step {L : Env} {t : Thing} : wts (envStep L t) = wts L ++ [wOf t.2.1 t.2.2 L] := by
  unfold wts envStep
  rw [List.map_append]
  rfl
theorem at_last {xs : List V} {v : V} : atI (xs ++ [v]) (-1) = some v := by
  unfold atI ixN
  rw [if_neg (by decide), if_pos (by simp only [List.length_append, List.length_cons, List.length_nil]; omega)]
  have : ((-1 : Int) + ((xs ++ [v]).length : Int)).toNat = xs.length := by simp only [List.length_append, List.length_cons, List.length_nil]; omega
  rw [this]
  simp
theorem cut_init {xs : List V} {v : V} : cutV (xs ++ [v]) none (some (-1)) = xs := by
  unfold cutV
  have e1 : HT.sIx (xs ++ [v]).length 0 none = 0 := rfl
  have e2 : HT.sIx (xs ++ [v]).length (xs ++ [v]).length (some (-1)) = xs.length := by
    unfold HT.sIx
    dsimp only
    rw [if_pos (by decide)]
    simp only [List.length_append, List.length_cons, List.length_nil]
    omega
  rw [e1, e2]
  simp
theorem rws_split {K : PySem.W.Frag} {H : Hp} : ∀ (ts' : List Thing) {us : List V} {t : Thing}, Rws K H us (ts' ++ [t]) → ∃ us' v, us = us' ++ [v] ∧ Rws K H us' ts'
  | [], us, t, h => by
    unfold Rws at h
    cases h with
    | cons h1 h2 =>
      cases h2
      exact ⟨[], _, rfl, .nil⟩
  | a :: r, us, t, h => by
    unfold Rws at h
    cases h with
    | cons h1 h2 =>
      obtain ⟨us', v, e, q⟩ := rws_split r h2
      exact ⟨_ :: us', v, by rw [e]; rfl, .cons h1 q⟩
theorem rws_init {K : PySem.W.Frag} {H : Hp} {us : List V} {ts : List Thing} (h : Rws K H us ts) (hl : 1 ≤ ts.length) : ∃ us' v ts' t, us = us' ++ [v] ∧ ts = ts' ++ [t] ∧ Rws K H us' ts' := by
  have ne : ts ≠ [] := fun z => by rw [z] at hl; simp at hl
  have e := (List.dropLast_concat_getLast ne).symm
  rw [e] at h
  obtain ⟨us', v, e', q⟩ := rws_split _ h
  exact ⟨us', v, _, _, e', e, q⟩
theorem r_bmz {K : PySem.W.Frag} {T : String} {r : V → List V → Hp → VK → Prop} {to : TE} {σ : St} {H : Hp} {Q : VK} (q : to σ H fun x H1 => tyV K T x H1 ∧ r x [] H1 Q) : tBM0 K T r to σ H Q := q
theorem r_noPart {σ : St} {H : Hp} {Q : Option Int → Hp → Prop} (q : Q none H) : L2.tNoPart σ H Q := q
end Mb
namespace Mb
open PySem PySem.Spec PyProof.Rows L2
/-! ### sorted(d) of a dict with tuples of ints for keys, any number of them -/
def lexL : List Int → List Int → Bool
  | _, [] => false
  | [], _ :: _ => true
  | x :: xs, y :: ys => if x = y then lexL xs ys else decide (x < y)
theorem lexL_cons {x y : Int} {xs ys : List Int} : lexL (x :: xs) (y :: ys) = true ↔ x < y ∨ (x = y ∧ lexL xs ys = true) := by
  show (if x = y then lexL xs ys else decide (x < y)) = true ↔ _
  by_cases e : x = y
  · rw [if_pos e]
    constructor
    · exact fun h => .inr ⟨e, h⟩
    · rintro (h | h)
      · omega
      · exact h.2
  · rw [if_neg e, decide_eq_true_eq]
    constructor
    · exact .inl
    · rintro (h | h)
      · exact h
      · exact absurd h.1 e
theorem lexL_no {x y : Int} {xs ys : List Int} : lexL (x :: xs) (y :: ys) = false ↔ ¬ (x < y ∨ (x = y ∧ lexL xs ys = true)) := by
  rw [← lexL_cons]
  cases lexL (x :: xs) (y :: ys) <;> simp
theorem lexL_asym : ∀ xs ys : List Int, lexL xs ys = true → lexL ys xs = false
  | [], [], h => by cases h
  | [], _ :: _, _ => rfl
  | _ :: _, [], h => by cases h
  | x :: xs, y :: ys, h => by
    rw [lexL_no]
    rcases lexL_cons.mp h with h | ⟨e, h⟩
    · rintro (h' | ⟨e, _⟩)
      · omega
      · omega
    · rintro (h' | ⟨_, h'⟩)
      · omega
      · rw [lexL_asym xs ys h] at h'
        cases h'
theorem lexL_tr : ∀ xs ys zs : List Int, lexL ys xs = false → lexL zs ys = false → lexL zs xs = false
  | [], _, _, _, _ => by unfold lexL; rfl
  | _ :: _, [], _, h, _ => by cases h
  | _ :: _, _ :: _, [], _, h => by cases h
  | x :: xs, y :: ys, z :: zs, h1, h2 => by
    rw [lexL_no] at h1 h2 ⊢
    rintro (h | ⟨e, h⟩)
    · by_cases c : z < y
      · exact h2 (.inl c)
      · exact h1 (.inl (by omega))
    · by_cases c : z < y
      · exact h2 (.inl c)
      · by_cases c' : y < x
        · exact h1 (.inl c')
        · have e1 : y = x := by omega
          have e2 : z = y := by omega
          have a1 : lexL ys xs = false := by
            cases q : lexL ys xs with
            | false => rfl
            | true => exact absurd (.inr ⟨e1, q⟩) h1
          have a2 : lexL zs ys = false := by
            cases q : lexL zs ys with
            | false => rfl
            | true => exact absurd (.inr ⟨e2, q⟩) h2
          rw [lexL_tr xs ys zs a1 a2] at h
          cases h
theorem lexL_eq : ∀ xs ys : List Int, lexL xs ys = false → lexL ys xs = false → xs = ys
  | [], [], _, _ => rfl
  | [], _ :: _, h, _ => by cases h
  | _ :: _, [], _, h => by cases h
  | x :: xs, y :: ys, h1, h2 => by
    rw [lexL_no] at h1 h2
    have e : x = y := by
      rcases Int.lt_trichotomy x y with c | c | c
      · exact absurd (.inl c) h1
      · exact c
      · exact absurd (.inl c) h2
    have a1 : lexL xs ys = false := by
      cases q : lexL xs ys with
      | false => rfl
      | true => exact absurd (.inr ⟨e, q⟩) h1
    have a2 : lexL ys xs = false := by
      cases q : lexL ys xs with
      | false => rfl
      | true => exact absurd (.inr ⟨e.symm, q⟩) h2
    rw [e, lexL_eq xs ys a1 a2]
theorem swo_lexL (k : Value → List Int) : SrtO.Swo fun v u => lexL (k v) (k u) := ⟨fun x y => lexL_asym _ _, fun x y z => lexL_tr _ _ _⟩
section
variable {prog : Program} {w : World} {A : Around} {s : Shared}
theorem lex_run {b fin : Bool} {xs : List Value} {ns : List Int} (hx : IntsAre xs ns) : ∀ {ys : List Value} {ms : List Int} (i : Nat), IntsAre ys ms → fin = decide (xs.length < ys.length) → PySem.W.KatLex prog w A b fin (fun r s' => s' = s ∧ r = lexL ns ms) (xs.zip ys) i s := by
  induction hx with
  | nil =>
    intro ys ms i hy hf
    refine PySem.W.kat_nil ⟨rfl, ?_⟩
    rw [hf]
    cases hy with
    | nil => rfl
    | cons q u hy => simp [lexL]
  | @cons p t xs ns hx ih =>
    intro ys ms i hy hf
    cases hy with
    | nil =>
      refine PySem.W.kat_nil ⟨rfl, ?_⟩
      rw [hf]
      simp [lexL]
    | @cons q u ys ms hy =>
      show PySem.W.KatLex prog w A b fin _ ((Value.int p t, Value.int q u) :: xs.zip ys) i s
      refine PySem.W.kat_cons (wpAny_eqBool_int ?_)
      by_cases e : p = q
      · subst e
        rw [beq_self_eq_true]
        refine PySem.W.kat_yes ?_
        have := ih (i + 1) hy (by rw [hf]; simp)
        rw [show lexL (p :: ns) (p :: ms) = lexL ns ms from if_pos rfl]
        exact this
      · rw [show (p == q) = false from beq_eq_false_iff_ne.mpr e]
        refine PySem.W.kat_no (TS.oneLt_ints _ ⟨rfl, ?_⟩)
        exact (if_neg e : lexL (p :: ns) (q :: ms) = _).symm
theorem lex_cmp {vs : List Value} {k : Value → List Int} (hp : ∀ v ∈ vs, TS.TupInts s.heap v (k v)) : SrtO.Cmp prog w A s (tuples' true) (fun p => p.1 ∈ vs) (SrtO.lt2 fun v u => lexL (k v) (k u)) := by
  intro p q hm hm'
  obtain ⟨a, xs, e, ⟨o, ho, hc, n, hd⟩, i1⟩ := hp _ hm
  obtain ⟨a', xs', e', ⟨o', ho', hc', n', hd'⟩, i2⟩ := hp _ hm'
  show wpAny (model prog w) A (keyLt' (tuples' true) p.1 q.1) (fun r s' => s' = s ∧ r = lexL (k p.1) (k q.1)) (fun _ _ => False) s
  generalize k p.1 = K1 at *
  generalize k q.1 = K2 at *
  rw [e, e']
  refine PySem.W.kat_lt ho hd ho' hd' ?_
  exact lex_run i1 0 i2 (by simp)
theorem lex_firsts {h : Heap} {k : Value → List Int} : ∀ vs : List Value, (∀ v ∈ vs, TS.TupInts h v (k v) ∧ k v ≠ []) → ∃ fs, PySem.W.KatTups h vs fs ∧ fs.length = vs.length ∧ ∀ f ∈ fs, ∃ n t, f = Value.int n t
  | [], _ => ⟨[], PySem.W.KatTups.nil, rfl, fun f hf => by simp at hf⟩
  | v :: vs, x => by
    obtain ⟨fs, kt, hl, hi⟩ := lex_firsts vs fun u hu => x u (List.mem_cons_of_mem _ hu)
    obtain ⟨⟨a, xs, e0, ⟨o, ho, hc, n, hdt⟩, i⟩, hn⟩ := x v List.mem_cons_self
    obtain ⟨y, ys, e⟩ : ∃ y ys, xs.toList = y :: ys := by
      cases q : xs.toList with
      | nil =>
        rw [q] at i
        have l := i.length
        rw [List.length_nil] at l
        exact absurd (List.eq_nil_of_length_eq_zero (by omega)) hn
      | cons y ys => exact ⟨y, ys, rfl⟩
    obtain ⟨m, t, hy⟩ := i.all y (by rw [e]; exact List.mem_cons_self ..)
    rw [e0]
    refine ⟨y :: fs, PySem.W.KatTups.cons ho hc hdt ?_ kt, by simp [hl], ?_⟩
    · have z := congrArg (fun l : List Value => l[0]?) e
      simpa using z
    · intro f hf
      rcases List.mem_cons.mp hf with rfl | hf
      · exact ⟨m, t, hy⟩
      · exact hi f hf
theorem lex_sortable {a : Addr} {vs : List Value} {k : Value → List Int} (h0 : 0 < vs.length) (hp : ∀ v ∈ vs, TS.TupInts s.heap v (k v) ∧ k v ≠ []) (ha : ∀ o, s.heap.get? a = some o → o.cls ≠ .type "tuple") : SrtO.SortableO prog w A s a vs fun v u => lexL (k v) (k u) := by
  intro h' keep
  have hp' : ∀ v ∈ vs, TS.TupInts h' v (k v) ∧ k v ≠ [] := fun v hm => ⟨(hp v hm).1.keeps fun b o e c => keep b o (fun z => by subst z; exact ha o e c) e, (hp v hm).2⟩
  obtain ⟨fs, h1, h2, h3⟩ := lex_firsts vs hp'
  refine ⟨tuples' true, fun Q E hq => ?_, lex_cmp fun v hv => (hp' v hv).1⟩
  refine PySem.W.kat_kind (T := .type "int") h1 (by omega) (fun f hm => ?_) (by rfl) ?_
  · obtain ⟨x, t, rfl⟩ := h3 f hm
    exact PySem.W.Looks.of_pure rfl
  · have e : (Value.type "int" != Value.type "tuple") = true := by decide +kernel
    rw [e]
    exact hq
end
def rSortedDT (K : PySem.W.Frag) : List V → Hp → VK → Prop := fun vs H Q => ∃ (a : Addr) (kvs : List (List Key × V)) (ks : List (List Int)), vs = [.ref a] ∧ H a = some (.dT kvs) ∧ kvs.map (·.1) = ks.map (List.map Sum.inl) ∧ (2 ≤ ks.length → ∀ k ∈ ks, k ≠ []) ∧
  ∀ (ls : List (List Int)) (qs : List Addr) (p : Addr), ls.Perm ks → ls.Pairwise (fun x y => lexL y x = false) → H p = none → Paired (fun q k => H q = some (.tup (k.map V.int))) qs ls → Q (.ref p) (upd H p (.lst (qs.map V.ref)))
theorem ints_vals {xs : List Int} {its : List Value} (h : Vals (xs.map V.int) its) : IntsAre its xs := by
  induction xs generalizing its with
  | nil => cases h; exact .nil
  | cons x xs ih =>
    cases h with
    | cons r t =>
      obtain ⟨t', rfl⟩ := r
      exact .cons _ _ (ih t)
theorem paired_map {α β γ : Type} {R : α → β → Prop} {f : γ → α} {g : γ → β} : ∀ l : List γ, (∀ x ∈ l, R (f x) (g x)) → Paired R (l.map f) (l.map g)
  | [], _ => .nil
  | x :: r, h => .cons (h x List.mem_cons_self) (paired_map r fun y hy => h y (List.mem_cons_of_mem _ hy))
theorem cr_sortedDT {X : Cx} (hcalm : X.calm = true) : CallR X (.builtin "sorted") (rSortedDT X.K) := by
  intro pins s σ H xs us Q I r q
  obtain ⟨a, kvs, ks, ex, hd, hks, hne, q⟩ := q
  subst ex
  obtain ⟨u, eu, rx⟩ := vals1 r
  subst eu
  cases rx
  obtain ⟨z, lo, xs, pr, o, es, ep, ho, hx, hdt, he, nd⟩ := (show ObjOk X.prog X.w H s.heap a (.dT kvs) from I.hok a _ hd)
  have l1 : es.size = xs.length := size_of_entries he
  have l2 : kvs.length = xs.length := Paired.length pr
  have l3 : kvs.length = ks.length := by
    have e := congrArg List.length hks
    rw [List.length_map, List.length_map] at e
    exact e
  refine Calls.call_function_entry PyProof.Rows.kind_sorted PyProof.Rows.plain_sorted PyProof.Rows.entry_sorted (PyProof.Rows.args_sorted1 _) ?_
  unfold Builtin.«sorted»
  refine wpAny_bind (m := checkCount "sorted" 1 1 _) (wpAny_pure ?_)
  refine wpAny_bind (PySem.W.kdu_collect (A := X.A.in1) (kdl_raw lo hx hdt) (I.ok.hd hcalm) ho (by omega) fun h' tk acc hk hacc => ?_)
  have I1 : Inv X pins σ H { s with heap := h', toks := tk } := I.kept hk
  have hal : acc.toList.length = ks.length := by rw [Array.length_toList, hacc.1]; omega
  have each : ∀ (j : Nat) (v : Value), acc.toList[j]? = some v → ∃ (b : Addr) (k : List Int), v = .ref b ∧ ks[j]? = some k ∧ H b = some (.tup (k.map V.int)) := by
    intro j v e
    obtain ⟨en, he1, e2⟩ := hacc.2 j v (by rw [← Array.getElem?_toList]; exact e)
    have hj : j < kvs.length := by
      have := (Array.getElem?_eq_some_iff.mp he1).1
      omega
    have e3 : kvs[j]? = some kvs[j] := List.getElem?_eq_getElem hj
    obtain ⟨b, hb, f1, f2, _⟩ := L2.paired_get pr e3
    have g := entry_at he j
    rw [hb] at g
    have g' : es[j]? = some (entryOfKey (tupleKind (mixKind X.prog X.w)) b) := g
    rw [he1] at g'
    have hv : v = .ref b.2.1 := by rw [e2, Option.some.inj g']; rfl
    have e4 : (kvs.map (·.1))[j]? = some (kvs[j]).1 := by rw [List.getElem?_map, e3]; rfl
    rw [hks, List.getElem?_map] at e4
    obtain ⟨k, hk1, hk2⟩ := Option.map_eq_some_iff.mp e4
    refine ⟨b.2.1, k, hv, hk1, ?_⟩
    rw [f2, ← hk2, List.map_map]
    rfl
  have ti : ∀ (b : Addr) (k : List Int), H b = some (.tup (k.map V.int)) → TS.TupInts h' (.ref b) k := fun b k hb => by
    obtain ⟨_, its, rv, it⟩ := (show ObjOk X.prog X.w H h' b (.tup (k.map V.int)) from I1.hok b _ hb)
    exact ⟨b, its.toArray, rfl, it, by simpa using ints_vals rv⟩
  have key : ∀ v ∈ acc.toList, ∃ b, v = Value.ref b ∧ TS.intsOf h' v ∈ ks ∧ H b = some (.tup ((TS.intsOf h' v).map V.int)) ∧ TS.TupInts h' v (TS.intsOf h' v) := by
    intro v hv
    obtain ⟨j, hj⟩ := List.getElem?_of_mem hv
    obtain ⟨b, k, rfl, hk1, hb⟩ := each j v hj
    have t := ti b k hb
    rw [t.ints]
    exact ⟨b, rfl, List.mem_of_getElem? hk1, hb, t⟩
  have keys : acc.toList.map (TS.intsOf h') = ks := by
    refine List.ext_getElem? fun j => ?_
    rw [List.getElem?_map]
    cases e : acc.toList[j]? with
    | none =>
      have : ks.length ≤ j := by
        have := List.getElem?_eq_none_iff.mp e
        omega
      rw [List.getElem?_eq_none this]
      rfl
    | some v =>
      obtain ⟨b, k, rfl, hk1, hb⟩ := each j v e
      rw [hk1]
      show some (TS.intsOf h' (.ref b)) = _
      rw [(ti b k hb).ints]
  refine wpAny_bind (wpAny_newList ?_ (by rw [hal]; omega))
  have hoL : (h'.push (seqObj "list" acc.toList.toArray 0)).get? h'.objs.size = some (seqObj "list" acc.toList.toArray 0) := Heap.get?_push_size _ rfl
  show wpAny _ _ _ _ _ { s with heap := h'.push (seqObj "list" acc.toList.toArray 0), toks := tk }
  refine wpAny_bind (wpAny_holding (wpAny_call_entry PyProof.Rows.slot_list_sort ⟨_, hoL, rfl⟩ PyProof.Rows.entry_list_sort
    (SrtO.list_sort_ord (s := { s with heap := h'.push (seqObj "list" acc.toList.toArray 0), toks := tk }) (ltv := fun v u => lexL (TS.intsOf h' v) (TS.intsOf h' u)) (swo_lexL _) hoL (by rw [hal]; omega) (fun h2 => ?_) fun out g1 g2 => ⟨_, rfl, ?_⟩) (PyProof.Rows.args_list_sort _)))
  · refine lex_sortable (by omega) (fun v hv => ?_) (fun o e => ?_)
    · obtain ⟨b, e, hm, hb, t⟩ := key v hv
      exact ⟨t.keeps fun c u e _ => Heap.get?_push_of_some _ e, hne (by rw [← hal]; exact h2) _ hm⟩
    · have e' : some o = some (seqObj "list" acc.toList.toArray 0) := e.symm.trans hoL
      cases e'
      intro c
      exact absurd (Value.type.inj c) (by decide)
  · obtain ⟨e', he'⟩ := PyProof.Rows.sortedHeap_at (vs := acc.toList) (out := out.toArray) hoL
    have mem : ∀ v ∈ out, ∃ b, v = Value.ref b ∧ TS.intsOf h' v ∈ ks ∧ H b = some (.tup ((TS.intsOf h' v).map V.int)) ∧ TS.TupInts h' v (TS.intsOf h' v) := fun v hv => key v (g2.perm.mem_iff.mp hv)
    have hre : ∀ v ∈ out, ∃ b, v = Value.ref b := fun v hv => by
      obtain ⟨b, e, _⟩ := mem v hv
      exact ⟨b, e⟩
    have eb : out.map bkV = (out.map fun v => match v with | .ref b => b | _ => 0).map V.ref := by
      rw [List.map_map]
      refine List.map_congr_left fun v hv => ?_
      obtain ⟨b, rfl⟩ := hre v hv
      rfl
    have hlen : (out.map bkV).length ≤ sizeLine := by
      rw [List.length_map, g2.perm.length_eq, hal]
      omega
    refine wpAny_pure ⟨_, rfl, .ref h'.objs.size, upd H h'.objs.size (.lst (out.map bkV)), I1.laid (t' := tk) (fun b u e => ?_) (Nat.le_refl _)
      (show ObjOk X.prog X.w _ _ _ (.lst (out.map bkV)) from ⟨hlen, out, e', bkV_vals hre, he'⟩), rfl, ?_⟩
    · have hb : b < h'.objs.size := Heap.lt_size e
      rw [PyProof.Rows.sortedHeap_old (Nat.ne_of_lt hb) (by rw [size_push']; exact Nat.lt_succ_of_lt hb)]
      exact Heap.get?_push_of_some _ e
    · rw [eb]
      refine q (out.map (TS.intsOf h')) _ _ ?_ ?_ (I1.hok.fresh (Nat.le_refl _)) (paired_map out fun v hv => ?_)
      · rw [← keys]
        exact g2.perm.map _
      · exact List.pairwise_map.mpr g1
      · obtain ⟨b, rfl, _, hb, _⟩ := mem v hv
        exact hb
end Mb
namespace Mb
open PySem L2
def spTakeW : Sp := fun vs H Q _ => ∃ (p : Addr) (k b : Int), vs = [.ref p, .int k] ∧ Pl H p b ∧ b ≤ 2000000 ∧ 1 ≤ k ∧ k ≤ 1000000000 ∧
  ∀ (r : Int) (H' : Hp), But p H H' → Pl H' p (b + 1) → 0 ≤ r → r < k → Q (.int r) H'
theorem pw_le {k n : Nat} (h : k ≤ n) : (100000 : Int) ^ k ≤ 100000 ^ n := by
  have h1 : (100000 : Nat) ^ k ≤ 100000 ^ n := Nat.pow_le_pow_right (by decide) h
  have e : ∀ j : Nat, (100000 : Int) ^ j = ((100000 ^ j : Nat) : Int) := fun j => by rw [Int.natCast_pow]; rfl
  rw [e, e]
  exact Int.ofNat_le.mpr h1
end Mb
namespace Mb
open PySem L2
/-! ### forms: terms, sums by their powers -/
abbrev Trm : Type := List Int × Int
def sumK (ts : List Trm) (k : List Int) : Int := ((ts.filter fun t => decide (t.1 = k)).map (·.2)).sum
theorem sumK_nil {k : List Int} : sumK [] k = 0 := rfl
theorem sumK_app {a b : List Trm} {k : List Int} : sumK (a ++ b) k = sumK a k + sumK b k := by
  unfold sumK
  rw [List.filter_append, List.map_append, List.sum_append]
theorem sumK_one {t : Trm} {k : List Int} : sumK [t] k = if t.1 = k then t.2 else 0 := by
  unfold sumK
  by_cases h : t.1 = k
  · rw [if_pos h, List.filter_cons, decide_eq_true h]
    simp
  · rw [if_neg h, List.filter_cons, decide_eq_false h]
    simp
theorem sumK_cons {t : Trm} {b : List Trm} {k : List Int} : sumK (t :: b) k = (if t.1 = k then t.2 else 0) + sumK b k := by
  rw [show t :: b = [t] ++ b from rfl, sumK_app, sumK_one]
theorem sumK_none {ts : List Trm} {k : List Int} (h : k ∉ ts.map (·.1)) : sumK ts k = 0 := by
  unfold sumK
  rw [List.filter_eq_nil_iff.mpr]
  · rfl
  · intro t ht hd
    exact h (of_decide_eq_true hd ▸ List.mem_map.mpr ⟨t, ht, rfl⟩)
def keysD (M : List Trm) : List (List Key × V) := M.map fun m => (m.1.map Sum.inl, .int m.2)
def accM (M : List Trm) (t : Trm) : List Trm := if t.1 ∈ M.map (·.1) then M.map (fun m => if m.1 = t.1 then (m.1, m.2 + t.2) else m) else M ++ [t]
def accOf (ts : List Trm) : List Trm := ts.foldl accM []
theorem acc_snoc {ts : List Trm} {t : Trm} : accOf (ts ++ [t]) = accM (accOf ts) t := by
  unfold accOf
  rw [List.foldl_append]
  rfl
theorem acc_keys {M : List Trm} {t : Trm} : (accM M t).map (·.1) = if t.1 ∈ M.map (·.1) then M.map (·.1) else M.map (·.1) ++ [t.1] := by
  unfold accM
  split
  · rw [List.map_map]
    refine List.map_congr_left fun m _ => ?_
    show (if m.1 = t.1 then (m.1, m.2 + t.2) else m).1 = m.1
    split <;> rfl
  · rw [List.map_append]
    rfl
theorem acc_len {M : List Trm} {t : Trm} : (accM M t).length ≤ M.length + 1 := by
  unfold accM
  split
  · rw [List.length_map]; omega
  · simp
theorem accs_len : ∀ (ts M : List Trm), (ts.foldl accM M).length ≤ M.length + ts.length
  | [], _ => Nat.le_refl _
  | t :: r, M => by
    have h1 := accs_len r (accM M t)
    have h2 := acc_len (M := M) (t := t)
    simp only [List.foldl_cons, List.length_cons]
    omega
structure AccOk (M ts : List Trm) : Prop where
  nd : (M.map (·.1)).Nodup
  ks : ∀ k, k ∈ M.map (·.1) ↔ k ∈ ts.map (·.1)
  sm : ∀ m ∈ M, m.2 = sumK ts m.1
theorem acc_ok1 {M ts : List Trm} {t : Trm} (h : AccOk M ts) : AccOk (accM M t) (ts ++ [t]) := by
  refine ⟨?_, fun k => ?_, fun m hm => ?_⟩
  · rw [acc_keys]
    split
    · exact h.nd
    · rename_i c
      refine List.nodup_append.mpr ⟨h.nd, List.nodup_cons.mpr ⟨List.not_mem_nil, List.nodup_nil⟩, fun a ha b hb e => ?_⟩
      rw [List.mem_singleton.mp hb] at e
      exact c (by rw [← e]; exact ha)
  · rw [acc_keys, List.map_append, List.mem_append]
    show _ ↔ _ ∨ k ∈ [t.1]
    rw [List.mem_singleton]
    split
    · rename_i c
      rw [h.ks]
      constructor
      · exact .inl
      · rintro (x | rfl)
        · exact x
        · exact (h.ks _).mp c
    · rw [List.mem_append, h.ks, List.mem_singleton]
  · rw [sumK_app, sumK_one]
    unfold accM at hm
    split at hm
    · obtain ⟨m', hm', rfl⟩ := List.mem_map.mp hm
      by_cases e : m'.1 = t.1
      · rw [if_pos e]
        show m'.2 + t.2 = sumK ts m'.1 + if t.1 = m'.1 then t.2 else 0
        rw [if_pos e.symm, h.sm m' hm']
      · rw [if_neg e, if_neg (fun x => e x.symm), h.sm m' hm', Int.add_zero]
    · rename_i c
      rcases List.mem_append.mp hm with hm | hm
      · rw [if_neg (fun x => c (by rw [x]; exact List.mem_map.mpr ⟨m, hm, rfl⟩)), h.sm m hm, Int.add_zero]
      · rw [List.mem_singleton.mp hm, if_pos rfl, sumK_none (fun x => c ((h.ks _).mpr x)), Int.zero_add]
theorem acc_okS : ∀ (b a M : List Trm), AccOk M a → AccOk (b.foldl accM M) (a ++ b)
  | [], a, M, h => by rw [List.append_nil]; exact h
  | t :: b, a, M, h => by
    have := acc_okS b (a ++ [t]) _ (acc_ok1 (t := t) h)
    rw [List.append_assoc] at this
    exact this
theorem acc_ok (ts : List Trm) : AccOk (accOf ts) ts := acc_okS ts [] [] ⟨List.nodup_nil, fun k => Iff.rfl, fun m hm => by cases hm⟩
/-- the form of terms -/
structure Fm (ts F : List Trm) : Prop where
  up : F.Pairwise fun x y => lexL x.1 y.1 = true
  mem : ∀ x : Trm, x ∈ F ↔ x.2 ≠ 0 ∧ x.2 = sumK ts x.1
theorem lexL_irr : ∀ xs : List Int, lexL xs xs = false
  | [] => rfl
  | x :: r => by
    show (if x = x then lexL r r else _) = false
    rw [if_pos rfl]
    exact lexL_irr r
theorem fm_of {ts : List Trm} {ls : List (List Int)} (hp : ls.Perm ((accOf ts).map (·.1))) (hs : ls.Pairwise fun x y => lexL y x = false) : Fm ts ((ls.map fun k => (k, sumK ts k)).filter fun t => !decide (t.2 = 0)) := by
  have ok := acc_ok ts
  have nd : ls.Nodup := hp.nodup_iff.mpr ok.nd
  have st : ls.Pairwise fun x y => lexL x y = true := by
    refine (List.Pairwise.and hs nd).imp fun {x y} h => ?_
    cases q : lexL x y with
    | true => rfl
    | false => exact absurd (lexL_eq x y q h.1) h.2
  refine ⟨List.Pairwise.filter _ (List.pairwise_map.mpr st), fun x => ?_⟩
  rw [List.mem_filter, List.mem_map]
  constructor
  · rintro ⟨⟨k, hk, rfl⟩, h⟩
    exact ⟨by simpa using h, rfl⟩
  · rintro ⟨h1, h2⟩
    refine ⟨⟨x.1, ?_, by rw [← h2]⟩, by simpa using h1⟩
    rw [hp.mem_iff, ok.ks]
    by_cases c : x.1 ∈ ts.map (·.1)
    · exact c
    · rw [sumK_none c] at h2
      exact absurd h2 h1
theorem up_uniq : ∀ {F G : List Trm}, F.Pairwise (fun x y => lexL x.1 y.1 = true) → G.Pairwise (fun x y => lexL x.1 y.1 = true) → (∀ x, x ∈ F ↔ x ∈ G) → F = G
  | [], G, _, _, h => by
    cases G with
    | nil => rfl
    | cons y G => exact absurd ((h y).mpr List.mem_cons_self) List.not_mem_nil
  | x :: F, [], _, _, h => absurd ((h x).mp List.mem_cons_self) List.not_mem_nil
  | x :: F, y :: G, h1, h2, h => by
    obtain ⟨a1, a2⟩ := List.pairwise_cons.mp h1
    obtain ⟨b1, b2⟩ := List.pairwise_cons.mp h2
    have e : x = y := by
      rcases List.mem_cons.mp ((h x).mp List.mem_cons_self) with e | hx
      · exact e
      · rcases List.mem_cons.mp ((h y).mpr List.mem_cons_self) with e | hy
        · exact e.symm
        · have := lexL_asym _ _ (b1 x hx)
          rw [a1 y hy] at this
          cases this
    subst e
    congr 1
    refine up_uniq a2 b2 fun z => ?_
    have no : ∀ {L : List Trm}, (∀ y ∈ L, lexL x.1 y.1 = true) → x ∉ L := fun hl hx => by
      have := hl x hx
      rw [lexL_irr] at this
      cases this
    constructor
    · intro hz
      rcases List.mem_cons.mp ((h z).mp (List.mem_cons_of_mem _ hz)) with e | hz'
      · rw [e] at hz
        exact absurd hz (no a1)
      · exact hz'
    · intro hz
      rcases List.mem_cons.mp ((h z).mpr (List.mem_cons_of_mem _ hz)) with e | hz'
      · rw [e] at hz
        exact absurd hz (no b1)
      · exact hz'
theorem Fm.uniq {ts us F G : List Trm} (h1 : Fm ts F) (h2 : Fm us G) (h : ∀ k, sumK ts k = sumK us k) : F = G :=
  up_uniq h1.up h2.up fun x => by rw [h1.mem, h2.mem, h]
/-- powers in m unknowns, from 0 to c -/
def OkT (m : Nat) (c : Int) (ts : List Trm) : Prop := ∀ t ∈ ts, t.1.length = m ∧ ∀ p ∈ t.1, 0 ≤ p ∧ p ≤ c
theorem Fm.ok {ts F : List Trm} {m : Nat} {c : Int} (h : Fm ts F) (k : OkT m c ts) : OkT m c F := fun x hx => by
  obtain ⟨h1, h2⟩ := (h.mem x).mp hx
  by_cases e : x.1 ∈ ts.map (·.1)
  · obtain ⟨t, ht, e⟩ := List.mem_map.mp e
    rw [← e]
    exact k t ht
  · rw [sumK_none e] at h2
    exact absurd h2 h1
theorem Fm.len {ts F : List Trm} (h : Fm ts F) : F.length ≤ ts.length := by
  have nd : (F.map (·.1)).Nodup := List.pairwise_map.mpr (h.up.imp fun {x y} q e => by
    rw [e, lexL_irr] at q
    cases q)
  have sub : ∀ k ∈ F.map (·.1), k ∈ (accOf ts).map (·.1) := fun k hk => by
    obtain ⟨x, hx, rfl⟩ := List.mem_map.mp hk
    obtain ⟨h1, h2⟩ := (h.mem x).mp hx
    rw [(acc_ok ts).ks]
    by_cases e : x.1 ∈ ts.map (·.1)
    · exact e
    · rw [sumK_none e] at h2
      exact absurd h2 h1
  have le : ∀ {A B : List (List Int)}, A.Nodup → (∀ x ∈ A, x ∈ B) → A.length ≤ B.length := by
    intro A
    induction A with
    | nil => intro B _ _; exact Nat.zero_le _
    | cons a r ih =>
      intro B nd h
      obtain ⟨h1, h2⟩ := List.nodup_cons.mp nd
      have ha := h a List.mem_cons_self
      have := ih (B := B.erase a) h2 fun x hx => (List.mem_erase_of_ne (fun e => h1 (by rw [← e]; exact hx))).mpr (h x (List.mem_cons_of_mem _ hx))
      rw [List.length_erase_of_mem ha] at this
      have := List.length_pos_of_mem ha
      rw [List.length_cons]
      omega
  have l1 := le nd sub
  rw [List.length_map, List.length_map] at l1
  have l2 := accs_len ts []
  have : accOf ts = ts.foldl accM [] := rfl
  rw [← this] at l2
  simp only [List.length_nil] at l2
  omega
/-! ### in the heap -/
def Pw (H : Hp) (q : Addr) (k : List Int) : Prop := H q = some (.tup (k.map V.int))
def Tm (H : Hp) (v : V) (t : Trm) : Prop := ∃ a q, v = .ref a ∧ H a = some (.tup [.ref q, .int t.2]) ∧ Pw H q t.1
abbrev Tms (H : Hp) (us : List V) (ts : List Trm) : Prop := Paired (Tm H) us ts
def Kt (H H' : Hp) : Prop := ∀ q xs, H q = some (.tup xs) → H' q = some (.tup xs)
theorem Kt.refl (H : Hp) : Kt H H := fun _ _ h => h
theorem Kt.trans {H H1 H2 : Hp} (a : Kt H H1) (b : Kt H1 H2) : Kt H H2 := fun q xs h => b q xs (a q xs h)
theorem Kt.same {H H' : Hp} (s : Same H H') : Kt H H' := fun q xs h => s _ _ h
theorem Kt.but {H H' : Hp} {p : Addr} {b : Int} (k : But p H H') (h : Pl H p b) : Kt H H' := fun q xs hq => by
  obtain ⟨x, y, z, e, _⟩ := h
  exact k _ _ (fun z => by rw [z, e] at hq; cases hq) hq
theorem Kt.lst {H : Hp} {p : Addr} {xs : List V} {o : HO} (h : H p = some (.lst xs)) : Kt H (upd H p o) := fun q ys hq => by
  rw [upd_ne (fun z => by rw [z, h] at hq; cases hq)]
  exact hq
theorem Kt.dT {H : Hp} {p : Addr} {kvs : List (List Key × V)} {o : HO} (h : H p = some (.dT kvs)) : Kt H (upd H p o) := fun q ys hq => by
  rw [upd_ne (fun z => by rw [z, h] at hq; cases hq)]
  exact hq
theorem Tm.kt {H H' : Hp} (s : Kt H H') {v : V} {t : Trm} (h : Tm H v t) : Tm H' v t := by
  obtain ⟨a, q, e, h1, h2⟩ := h
  exact ⟨a, q, e, s _ _ h1, s _ _ h2⟩
theorem _root_.PySem.Paired.tmk {H H' : Hp} (s : Kt H H') {us : List V} {ts : List Trm} (h : Tms H us ts) : Tms H' us ts := Paired.mapP h fun _ _ h => Tm.kt s h
theorem Tms.at {H : Hp} {us : List V} {ts : List Trm} {i : Nat} {v : V} (h : Tms H us ts) (hi : us[i]? = some v) : ∃ t, ts[i]? = some t ∧ Tm H v t := LiI.paired_get h hi
theorem tms_snoc {H : Hp} {v : V} {t : Trm} : ∀ {us : List V} {ts : List Trm}, Tms H us ts → Tm H v t → Tms H (us ++ [v]) (ts ++ [t])
  | _, _, .nil, h => .cons h .nil
  | _, _, .cons a r, h => .cons a (tms_snoc r h)
def FmAt (H : Hp) (f : Addr) (F : List Trm) : Prop := ∃ us, H f = some (.tup us) ∧ Tms H us F
theorem FmAt.kt {H H' : Hp} {f : Addr} {F : List Trm} (s : Kt H H') (h : FmAt H f F) : FmAt H' f F := by
  obtain ⟨us, h1, h2⟩ := h
  exact ⟨us, s _ _ h1, h2.tmk s⟩
theorem inl_inj {a b : List Int} (h : a.map (Sum.inl : Int → Key) = b.map Sum.inl) : a = b := by
  induction a generalizing b with
  | nil => cases b with
    | nil => rfl
    | cons y b => cases h
  | cons x a ih => cases b with
    | nil => cases h
    | cons y b =>
      rw [List.map_cons, List.map_cons] at h
      obtain ⟨h1, h2⟩ := List.cons.inj h
      rw [Sum.inl.inj h1, ih h2]
theorem keysD_any {M : List Trm} {k : List Int} : ((keysD M).any fun kv => decide (kv.1 = k.map Sum.inl)) = decide (k ∈ M.map (·.1)) := by
  unfold keysD
  rw [List.any_map]
  induction M with
  | nil => rfl
  | cons m r ih =>
    rw [List.any_cons, ih]
    by_cases h : m.1 = k
    · subst h; simp
    · have h1 : ¬ (m.1.map (Sum.inl : Int → Key) = k.map Sum.inl) := fun e => h (inl_inj e)
      have h2 : ¬ k = m.1 := fun e => h e.symm
      simp [h1, h2]
theorem keysD_get {M : List Trm} {k : List Int} (nd : (M.map (·.1)).Nodup) (z : Int) : ((valV (keysD M) (k.map Sum.inl)).getD (.int z)) = .int (match M.find? (fun m => decide (m.1 = k)) with | some m => m.2 | none => z) := by
  unfold valV keysD
  induction M with
  | nil => rfl
  | cons m r ih =>
    rw [List.map_cons, List.find?_cons, List.find?_cons]
    by_cases h : m.1 = k
    · subst h; simp
    · have h1 : ¬ (m.1.map (Sum.inl : Int → Key) = k.map Sum.inl) := fun e => h (inl_inj e)
      simp only [h, h1, decide_false]
      exact ih (List.nodup_cons.mp nd).2
theorem find_none {M : List Trm} {k : List Int} (h : k ∉ M.map (·.1)) : M.find? (fun m => decide (m.1 = k)) = none := by
  rw [List.find?_eq_none]
  intro m hm hd
  exact h (of_decide_eq_true hd ▸ List.mem_map.mpr ⟨m, hm, rfl⟩)
theorem find_some {M : List Trm} {m : Trm} (nd : (M.map (·.1)).Nodup) (hm : m ∈ M) : M.find? (fun x => decide (x.1 = m.1)) = some m := by
  induction M with
  | nil => cases hm
  | cons a r ih =>
    rw [List.find?_cons]
    obtain ⟨h1, h2⟩ := List.nodup_cons.mp nd
    rcases List.mem_cons.mp hm with rfl | hm
    · rw [decide_eq_true rfl]
    · rw [decide_eq_false (fun e => h1 (List.mem_map.mpr ⟨m, hm, e.symm⟩))]
      exact ih h2 hm
/-- one term more in the dict -/
theorem keysD_put {M : List Trm} {t : Trm} (nd : (M.map (·.1)).Nodup) : putK (keysD M) (t.1.map Sum.inl) (.int ((match M.find? (fun m => decide (m.1 = t.1)) with | some m => m.2 | none => 0) + t.2)) = keysD (accM M t) := by
  unfold putK accM
  rw [keysD_any]
  by_cases h : t.1 ∈ M.map (·.1)
  · rw [if_pos (by simpa using h), if_pos h]
    obtain ⟨m0, hm0, e0⟩ := List.mem_map.mp h
    have hf := find_some nd hm0
    rw [e0] at hf
    rw [hf]
    unfold keysD
    rw [List.map_map, List.map_map]
    refine List.map_congr_left fun m hm => ?_
    show (if m.1.map (Sum.inl : Int → Key) = t.1.map Sum.inl then (m.1.map (Sum.inl : Int → Key), V.int (m0.2 + t.2)) else (m.1.map Sum.inl, .int m.2)) = _
    by_cases c : m.1 = t.1
    · rw [if_pos (by rw [c])]
      have : m = m0 := by
        have h1 := find_some nd hm
        rw [c, hf] at h1
        exact (Option.some.inj h1).symm
      show _ = ((if m.1 = t.1 then (m.1, m.2 + t.2) else m).1.map (Sum.inl : Int → Key), V.int (if m.1 = t.1 then (m.1, m.2 + t.2) else m).2)
      rw [if_pos c, this]
    · rw [if_neg (fun e => c (inl_inj e))]
      show _ = ((if m.1 = t.1 then (m.1, m.2 + t.2) else m).1.map (Sum.inl : Int → Key), V.int (if m.1 = t.1 then (m.1, m.2 + t.2) else m).2)
      rw [if_neg c]
  · rw [if_neg (by simpa using h), if_neg h, find_none h]
    unfold keysD
    rw [List.map_append, List.map_cons, List.map_nil, Int.zero_add]
theorem keysD_keys {M : List Trm} : (keysD M).map (·.1) = (M.map (·.1)).map (List.map Sum.inl) := by
  unfold keysD
  rw [List.map_map, List.map_map]
  rfl
def spSummed (K : PySem.W.Frag) : Sp := fun vs H Q _ => ∃ (l : Addr) (us : List V) (ts : List Trm) (m : Nat) (c : Int), vs = [.ref l] ∧ SqL K H l us ∧ Tms H us ts ∧ OkT m c ts ∧ ts.length ≤ 4000 ∧
  ∀ (f : Addr) (F : List Trm) (H' : Hp), Same H H' → H f = none → FmAt H' f F → Fm ts F → Q (.ref f) H'
theorem intV {a b : List Int} (h : a.map V.int = b.map V.int) : a = b := by
  induction a generalizing b with
  | nil => cases b with
    | nil => rfl
    | cons y b => cases h
  | cons x a ih => cases b with
    | nil => cases h
    | cons y b =>
      rw [List.map_cons, List.map_cons] at h
      obtain ⟨h1, h2⟩ := List.cons.inj h
      rw [V.int.inj h1, ih h2]
theorem pw_key {H : Hp} {q : Addr} {k : List Int} (h : Pw H q k) : H q = some (.tup ((k.map (Sum.inl : Int → Key)).map kV)) := by
  rw [h, List.map_map]
  rfl
theorem few_keys {ts : List Trm} {m : Nat} {c : Int} (ok : OkT m c ts) : 2 ≤ ((accOf ts).map (·.1)).length → ∀ k ∈ (accOf ts).map (·.1), k ≠ [] := by
  intro h2 k hk e
  have a := acc_ok ts
  have len : ∀ k ∈ (accOf ts).map (·.1), k.length = m := fun k hk => by
    obtain ⟨t, ht, e⟩ := List.mem_map.mp ((a.ks k).mp hk)
    rw [← e]
    exact (ok t ht).1
  have m0 : m = 0 := by rw [← len k hk, e]; rfl
  have all : ∀ k ∈ (accOf ts).map (·.1), k = [] := fun k hk => List.eq_nil_of_length_eq_zero (by rw [len k hk, m0])
  have nd := a.nd
  generalize (accOf ts).map (·.1) = L at *
  match L, h2, nd with
  | x :: y :: r, _, nd =>
    refine (List.nodup_cons.mp nd).1 ?_
    rw [all x List.mem_cons_self, all y (List.mem_cons_of_mem _ List.mem_cons_self)]
    exact List.mem_cons_self
end Mb
namespace Mb
open PySem L2
theorem u0 {n : Nat} (h : n + 64 < cLine) : n < cLine := by omega
theorem r_dget2 {td ty tx : TE} {σ : St} {H : Hp} {Q : VK} (q : td σ H fun x H1 => ∃ a, x = .ref a ∧ IsD H1 a ∧ ty σ H1 fun y H2 => tx σ H2 fun z H3 => ∃ o, DGet H3 a y o ∧ Q (o.getD z) H3) : tDGet2 td ty tx σ H Q := q
theorem keysD_val {ts : List Trm} {k : List Int} (h : k ∈ (accOf ts).map (·.1)) : valV (keysD (accOf ts)) (k.map Sum.inl) = some (.int (sumK ts k)) := by
  have a := acc_ok ts
  obtain ⟨m, hm, e⟩ := List.mem_map.mp h
  have e' : m.1 = k := e
  subst e'
  have g := keysD_get (M := accOf ts) (k := m.1) a.nd 0
  rw [find_some a.nd hm, show (match some m with | some m => m.2 | none => 0) = m.2 from rfl, a.sm m hm] at g
  cases v : valV (keysD (accOf ts)) (m.1.map Sum.inl) with
  | none =>
    unfold valV at v
    have hn : (keysD (accOf ts)).find? (fun kv => decide (kv.1 = m.1.map Sum.inl)) = none := by
      cases q : (keysD (accOf ts)).find? (fun kv => decide (kv.1 = m.1.map Sum.inl)) with
      | none => rfl
      | some x => rw [q] at v; cases v
    have := List.find?_eq_none.mp hn (m.1.map Sum.inl, .int m.2) (List.mem_map.mpr ⟨m, hm, rfl⟩)
    simp at this
  | some x =>
    rw [v] at g
    exact congrArg some g
theorem lc_form {K : PySem.W.Frag} {j : Nat} {tt : TT} {te : TE} {σ : St} {Q : VK} {l : Addr} {qs : List Addr} {ls : List (List Int)} {H : Hp} (val : List Int → Int) (hl : SqL K H l (qs.map V.ref)) (few : ls.length ≤ 10000) (hσ : ∀ v, wipe ((wipe σ [j]).set j (some v)) [j] = wipe σ [j])
    (hq : Paired (fun q k => Pw H q k) qs ls)
    (stT : ∀ (q : Addr) (k : List Int) (H' : Hp), k ∈ ls → Pw H' q k → Same H H' → ∀ R : Bool → Hp → Prop, (∀ H4, Same H' H4 → R (!decide (val k = 0)) H4) → tt ((wipe σ [j]).set j (some (.ref q))) H' R)
    (stE : ∀ (q : Addr) (k : List Int) (H' : Hp), k ∈ ls → Pw H' q k → Same H H' → ∀ R : VK, (∀ (a : Addr) (H4 : Hp), Same H' H4 → H4 a = some (.tup [.ref q, .int (val k)]) → R (.ref a) H4) → te ((wipe σ [j]).set j (some (.ref q))) H' R)
    (fin : ∀ (D : Addr) (us : List V) (H' : Hp), Same H H' → H D = none → H' D = some (.lst us) → Tms H' us ((ls.map fun k => (k, val k)).filter fun t => !decide (t.2 = 0)) → Q (.ref D) H') : lcL K (gName j) tt te [j] σ Q (.ref l) H := by
  refine ⟨l, rfl, ⟨_, hl⟩, fun D hD => ?_⟩
  have lq : qs.length = ls.length := Paired.length hq
  refine lc_list (xs := qs.map V.ref) (fun i H' => ∃ us : List V, Same H H' ∧ H' D = some (.lst us) ∧ us.length ≤ i ∧ Tms H' us (((ls.take i).map fun k => (k, val k)).filter fun t => !decide (t.2 = 0))) ⟨[], same_new hD _, upd_same, Nat.le_refl _, by rw [List.take_zero]; exact .nil⟩ (fun i H' _ h => by obtain ⟨_, h, _⟩ := h; exact h.seq hl) ?_ ?_
  · rintro i x H' hx ⟨us, g, d, lu, tm⟩
    rw [List.getElem?_map] at hx
    obtain ⟨q, hqi, rfl⟩ := Option.map_eq_some_iff.mp hx
    obtain ⟨k, hk, pw⟩ := LiI.paired_get hq hqi
    have hi : i < ls.length := (List.getElem?_eq_some_iff.mp hk).1
    have hm := List.mem_of_getElem? hk
    have e1 : ls.take (i + 1) = ls.take i ++ [k] := by rw [List.take_succ, hk, Option.toList_some]
    have pw' : Pw H' q k := g _ _ pw
    refine ⟨hσ _, ?_⟩
    refine stT q k H' hm pw' g _ fun H3 g3 => ?_
    rw [e1, List.map_append, List.filter_append, List.map_cons, List.map_nil, List.filter_cons]
    cases hk0 : decide (val k = 0) with
    | true =>
      simp only [Bool.not_true, Bool.false_eq_true, if_false, List.filter_nil, List.append_nil]
      exact ⟨us, g.trans g3, g3 _ _ d, by omega, tm.tmk (Kt.same g3)⟩
    | false =>
      simp only [Bool.not_false, if_true, List.filter_nil]
      refine stE q k H3 hm (g3 _ _ pw') (g.trans g3) _ fun a H4 g4 ta => ?_
      have d4 := g4 _ _ (g3 _ _ d)
      have kt : Kt H4 (upd H4 D (.lst (us ++ [.ref a]))) := Kt.lst d4
      refine ⟨_, d4, Nat.lt_of_le_of_lt (show us.length ≤ 10000 by omega) (by decide), us ++ [.ref a], same_updS ((g.trans g3).trans g4) hD, upd_same, by simp; omega, ?_⟩
      exact tms_snoc (((tm.tmk (Kt.same g3)).tmk (Kt.same g4)).tmk kt) ⟨a, q, rfl, kt _ _ ta, kt _ _ (g4 _ _ (g3 _ _ pw'))⟩
  · rintro H' ⟨us, g, d, _, tm⟩
    rw [List.length_map, lq, List.take_length] at tm
    exact fin D us H' g hD d tm
end Mb
namespace Mb
open PySem L2
def spGathered (K : PySem.W.Frag) : Sp := fun vs H Q _ => ∃ (i : Int) (l : Addr) (us : List V) (ts : List Trm) (m : Nat) (c : Int), vs = [.int i, .ref l] ∧ SqL K H l us ∧ Tms H us ts ∧ OkT m c ts ∧ ts.length ≤ 4000 ∧
  ∀ (f : Addr) (F : List Trm) (H' : Hp), Same H H' → H f = none → FmAt H' f F → Fm ts F → Q (.ref f) H'
def spNum : Sp := fun vs H Q _ => ∃ (p : Addr) (b : Int), vs = [.ref p] ∧ Pl H p b ∧ b ≤ 1900000 ∧
  ∀ (n : Int) (H' : Hp), But p H H' → Pl H' p (b + 14) → n.natAbs < 10 ^ 60 → Q (.int n) H'
def spTerms (K : PySem.W.Frag) : Sp := fun vs H Q _ => ∃ (p : Addr) (m most : Nat) (b : Int), vs = [.ref p, .int (m : Int), .int (most : Int)] ∧ Pl H p b ∧ b ≤ 1800000 ∧ m ≤ 7 ∧ most ≤ 60 ∧
  ∀ (l : Addr) (us : List V) (ts : List Trm) (H' : Hp), But p H H' → Pl H' p (b + 3000) → H l = none → H' l = some (.lst us) → Tms H' us ts → OkT m 12 ts → ts.length ≤ most → (∀ t ∈ ts, t.2.natAbs < 10 ^ 60) → Q (.ref l) H'
theorem pw_step {n : Int} {k : Nat} {r : Int} (h0 : 0 ≤ n) (h1 : n < 100000 ^ k) (r0 : 0 ≤ r) (r1 : r < 100000) : 0 ≤ n * 100000 + r ∧ n * 100000 + r < 100000 ^ (k + 1) := by
  rw [Int.pow_succ]
  constructor <;> omega
theorem lexLt_eq : ∀ xs ys : List Int, HT.lexLt xs ys = lexL xs ys
  | [], [] => rfl
  | [], _ :: _ => rfl
  | _ :: _, [] => rfl
  | x :: xs, y :: ys => by
    show (if x = y then HT.lexLt xs ys else decide (x < y)) = (if x = y then lexL xs ys else decide (x < y))
    rw [lexLt_eq xs ys]
/-- what the law asks of a form -/
structure Good (m : Nat) (F : List Trm) : Prop where
  up : F.Pairwise fun x y => lexL x.1 y.1 = true
  nz : ∀ x ∈ F, x.2 ≠ 0
  len : ∀ x ∈ F, x.1.length = m
  pos : ∀ x ∈ F, ∀ p ∈ x.1, 0 ≤ p
theorem Fm.good {ts F : List Trm} {m : Nat} {c : Int} (h : Fm ts F) (k : OkT m c ts) : Good m F :=
  ⟨h.up, fun x hx => ((h.mem x).mp hx).1, fun x hx => (h.ok k x hx).1, fun x hx p hp => ((h.ok k x hx).2 p hp).1⟩
def spFormG (K : PySem.W.Frag) : Sp := fun vs H Q _ => ∃ (f : Addr) (m : Nat) (F : List Trm), vs = [.ref f, .int (m : Int)] ∧ FmAt H f F ∧ Good m F ∧ F.length ≤ 4000 ∧ m ≤ 60 ∧ Q (.bl true) H
def spAlikeF (K : PySem.W.Frag) : Sp := fun vs H Q _ => ∃ (f g : Addr) (m : Nat) (F : List Trm), vs = [.ref f, .int (m : Int), .ref g] ∧ FmAt H f F ∧ FmAt H g F ∧ Good m F ∧ F.length ≤ 4000 ∧ m ≤ 60 ∧ Q (.bl true) H
theorem Tm.dp {K : PySem.W.Frag} {H : Hp} {v : V} {t : Trm} (h : Tm H v t) : Dp K H v (.tuple [.tuple (t.1.map PyData.int), .int t.2]) := by
  obtain ⟨a, q, rfl, h1, h2⟩ := h
  exact .tup (tupOf h1) (.cons (.tup (tupOf h2) (dpAll_ints _)) (.cons (.int _) .nil))
theorem _root_.PySem.Paired.tdp {K : PySem.W.Frag} {H : Hp} : ∀ {us : List V} {ts : List Trm}, Tms H us ts → DpAll K H us (ts.map fun t => .tuple [.tuple (t.1.map PyData.int), .int t.2])
  | _, _, .nil => .nil
  | _, _, .cons h r => .cons (Tm.dp h) (PySem.Paired.tdp r)
theorem tms_lay : ∀ ts : List Trm, PyData.canLayAll0 (ts.map fun t => .tuple [.tuple (t.1.map PyData.int), .int t.2]) = true ∧ PyData.depthAll (ts.map fun t => .tuple [.tuple (t.1.map PyData.int), .int t.2]) ≤ 10
  | [] => ⟨rfl, by decide⟩
  | t :: r => by
    obtain ⟨h1, h2⟩ := tms_lay r
    obtain ⟨g1, g2⟩ := lay_ints t.1
    rw [List.map_cons]
    refine ⟨?_, ?_⟩
    · unfold PyData.canLayAll0
      simp only [PyData.canLay0, PyData.canLayAll0, g1, h1, Bool.and_self]
    · unfold PyData.depthAll
      simp only [PyData.depth, PyData.depthAll]
      omega
theorem tms_sh (ts : List Trm) : (SeqAt.shaped (.list (ts.map fun t => .tuple [.tuple (t.1.map PyData.int), .int t.2])) = true ∧ SeqAt.shaped (.tuple (ts.map fun t => .tuple [.tuple (t.1.map PyData.int), .int t.2])) = true) ∧ PyData.canLay0 (.list (ts.map fun t => .tuple [.tuple (t.1.map PyData.int), .int t.2])) = true ∧ PyData.canLay0 (.tuple (ts.map fun t => .tuple [.tuple (t.1.map PyData.int), .int t.2])) = true := by
  obtain ⟨h1, h2⟩ := tms_lay ts
  have e1 : PyData.canLay0 (.list (ts.map fun t => .tuple [.tuple (t.1.map PyData.int), .int t.2])) = true := by unfold PyData.canLay0; exact h1
  have e2 : PyData.canLay0 (.tuple (ts.map fun t => .tuple [.tuple (t.1.map PyData.int), .int t.2])) = true := by unfold PyData.canLay0; exact h1
  have d1 : PyData.depth (.list (ts.map fun t => .tuple [.tuple (t.1.map PyData.int), .int t.2])) ≤ 64 := by unfold PyData.depth; omega
  have d2 : PyData.depth (.tuple (ts.map fun t => .tuple [.tuple (t.1.map PyData.int), .int t.2])) ≤ 64 := by unfold PyData.depth; omega
  refine ⟨⟨?_, ?_⟩, e1, e2⟩
  · unfold SeqAt.shaped
    rw [e1, decide_eq_true d1]
    rfl
  · unfold SeqAt.shaped
    rw [e2, decide_eq_true d2]
    rfl
theorem r_eqForm {K : PySem.W.Frag} {H : Hp} {Q : VK} {f g : Addr} {F : List Trm} (h1 : FmAt H f F) (h2 : FmAt H g F) (k : Q (.bl true) H) : rEqD K (.ref f) (.ref g) H Q := by
  obtain ⟨us, a1, a2⟩ := h1
  obtain ⟨vs, b1, b2⟩ := h2
  obtain ⟨⟨_, s⟩, _, c⟩ := tms_sh F
  refine ⟨_, _, .tup (tupOf a1) a2.tdp, .tup (tupOf b1) b2.tdp, s, s, ?_⟩
  rw [SeqAt.eqv_refl _ c]
  exact k
theorem r_neForm {K : PySem.W.Frag} {H : Hp} {Q : VK} {f g : Addr} {F : List Trm} (h1 : FmAt H f F) (h2 : FmAt H g F) (k : Q (.bl false) H) : rNeD K (.ref f) (.ref g) H Q := by
  obtain ⟨us, a1, a2⟩ := h1
  obtain ⟨vs, b1, b2⟩ := h2
  obtain ⟨⟨_, s⟩, _, c⟩ := tms_sh F
  refine ⟨_, _, .tup (tupOf a1) a2.tdp, .tup (tupOf b1) b2.tdp, s, s, ?_⟩
  rw [SeqAt.eqv_refl _ c]
  exact k
theorem r_neTms {K : PySem.W.Frag} {H : Hp} {Q : VK} {a b : Addr} {us : List V} {ts : List Trm} (h1 : SqL K H a us) (h2 : SqL K H b us) (tm : Tms H us ts) (k : Q (.bl false) H) : rNeD K (.ref a) (.ref b) H Q := by
  obtain ⟨⟨s, _⟩, c, _⟩ := tms_sh ts
  refine ⟨_, _, .lst h1 tm.tdp, .lst h2 tm.tdp, s, s, ?_⟩
  rw [SeqAt.eqv_refl _ c]
  exact k
end Mb
namespace Mb
open PySem PySem.Spec PyProof.Rows L2
/-! ### max(ints, default=d) -/
def maxOf (ns : List Int) (d : Int) : Int := match ns with
  | [] => d
  | y :: ys => ys.foldl max y
def rMaxDf (K : PySem.W.Frag) : List V → List V → Hp → VK → Prop := fun xs zs H Q => ∃ (a : Addr) (ns : List Int) (d : Int), xs = [.ref a] ∧ zs = [.int d] ∧ (SqL K H a (ns.map V.int) ∨ SqT K H a (ns.map V.int)) ∧ Q (.int (maxOf ns d)) H
theorem reads_ints {h : Heap} {vs : List Value} {ns : List Int} (x : IntsAre vs ns) : ∃ as, ReadsAll h vs (ns.map PyData.int) as := by
  induction x with
  | nil => exact ⟨[], .nil⟩
  | cons n t _ ih =>
    obtain ⟨as, r⟩ := ih
    exact ⟨[] ++ as, .cons (.int n t) r⟩
theorem alike_ints (ns : List Int) : PySem.W.AlikeAll (ns.map PyData.int) := by
  refine ⟨fun x hx y hy => ?_, fun x hx => ?_⟩
  · obtain ⟨i, _, rfl⟩ := List.mem_map.mp hx
    obtain ⟨j, _, rfl⟩ := List.mem_map.mp hy
    rfl
  · obtain ⟨i, _, rfl⟩ := List.mem_map.mp hx
    exact fun e => nomatch e
theorem ints_data {y : PyData} {ys : List PyData} {ns : List Int} (e : ns.map PyData.int = y :: ys) : ∃ n ms, ns = n :: ms ∧ y = .int n ∧ ys = ms.map PyData.int := by
  cases ns with
  | nil => cases e
  | cons n ms =>
    obtain ⟨h1, h2⟩ := List.cons.inj e
    exact ⟨n, ms, rfl, h1.symm, h2.symm⟩
theorem cr_maxDf {X : Cx} (hc : X.calm = true) (hu : X.A.units + 64 < cLine) : CallRK X (.builtin "max") ["default"] (rMaxDf X.K) := by
  intro pins s σ H xs zs us ws Q I r1 r2 h
  obtain ⟨a, ns, d, rfl, rfl, hs, q⟩ := h
  obtain ⟨u, rfl, ru⟩ := vals1 r1
  obtain ⟨w', rfl, rw'⟩ := vals1 r2
  obtain rfl : u = Value.ref a := ru
  obtain ⟨t, rfl⟩ := rw'
  have dd : X.A.units + 1 + PyData.depthAll (ns.map PyData.int) < cLine := by
    have := (lay_ints ns).2
    omega
  have hh := I.ok.hd hc
  have nil : ns.map PyData.int = [] → ∀ (h' : Heap) (tk : Nat), (∀ b o, s.heap.get? b = some o → h'.get? b = some o) → EP X pins σ Q (.int d t) { s with heap := h', toks := tk } := fun e h' tk hk => by
    have e0 : ns = [] := by
      cases ns with
      | nil => rfl
      | cons _ _ => cases e
    subst e0
    exact ⟨.int d, H, I.kept hk, ⟨_, rfl⟩, q⟩
  have some_ : ∀ (y : PyData) (ys : List PyData) (v : Value) (h' : Heap) (tk : Nat) (bs : List Addr), ns.map PyData.int = y :: ys → Reads h' v (PySem.W.maxD y ys) bs → (∀ b o, s.heap.get? b = some o → h'.get? b = some o) → EP X pins σ Q v { s with heap := h', toks := tk } := fun y ys v h' tk bs e r hk => by
    obtain ⟨n, ms, rfl, rfl, rfl⟩ := ints_data e
    rw [PySem.W.maxD_ints] at r
    cases r with
    | int i t' => exact ⟨.int _, H, I.kept hk, ⟨_, rfl⟩, q⟩
  rcases hs with hs | hs
  · obtain ⟨its, rv, hl, _⟩ := I.list hs
    obtain ⟨as, ra⟩ := reads_ints (h := s.heap) rv.ints
    exact PySem.W.max_list_default hh hl.isList ra (alike_ints ns) dd (fun e h' tk hk => nil e h' tk hk) fun y ys i v h' tk bs e _ r hk => some_ y ys v h' tk bs e r hk
  · obtain ⟨its, rv, hl, _⟩ := I.tuple hs
    obtain ⟨as, ra⟩ := reads_ints (h := s.heap) rv.ints
    exact PySem.W.max_tuple_default hh (show s.heap.IsTuple a its.toArray from hl) ra (alike_ints ns) dd (fun e h' tk hk => nil e h' tk hk) fun y ys i v h' tk bs e _ r hk => some_ y ys v h' tk bs e r hk
end Mb
namespace Mb
open PySem L2
/-! ### a number put in -/
/-- what the terms weigh by a measure of their powers -/
def wsum (φ : List Int → Int) (ts : List Trm) : Int := (ts.map fun t => t.2 * φ t.1).sum
theorem wsum_cons {φ : List Int → Int} {t : Trm} {ts : List Trm} : wsum φ (t :: ts) = t.2 * φ t.1 + wsum φ ts := rfl
theorem wsum_app {φ : List Int → Int} : ∀ (a b : List Trm), wsum φ (a ++ b) = wsum φ a + wsum φ b
  | [], b => by show wsum φ b = 0 + wsum φ b; omega
  | t :: a, b => by
    rw [List.cons_append, wsum_cons, wsum_cons, wsum_app a b]
    omega
theorem wsum_split {φ : List Int → Int} (k : List Int) : ∀ ts : List Trm, wsum φ ts = sumK ts k * φ k + wsum φ (ts.filter fun t => !decide (t.1 = k))
  | [] => by show (0 : Int) = 0 * φ k + 0; omega
  | t :: r => by
    rw [wsum_cons, wsum_split k r, sumK_cons, List.filter_cons]
    by_cases h : t.1 = k
    · rw [if_pos h, if_neg (by simp [h]), h, Int.add_mul]
      omega
    · rw [if_neg h, if_pos (by simp [h]), wsum_cons, Int.zero_add]
      omega
theorem sumK_filter {ts : List Trm} {k j : List Int} : sumK (ts.filter fun t => !decide (t.1 = k)) j = if j = k then 0 else sumK ts j := by
  by_cases h : j = k
  · rw [if_pos h]
    refine sumK_none fun hm => ?_
    obtain ⟨t, ht, e⟩ := List.mem_map.mp hm
    have := (List.mem_filter.mp ht).2
    have e' : t.1 = j := e
    rw [e', h] at this
    simp at this
  · rw [if_neg h]
    unfold sumK
    rw [List.filter_filter]
    congr 2
    refine List.filter_congr fun t _ => ?_
    by_cases c : t.1 = j
    · simp [c, h]
    · simp [c]
theorem wsum_zero (φ : List Int → Int) : ∀ (n : Nat) (ts : List Trm), ts.length ≤ n → (∀ k, sumK ts k = 0) → wsum φ ts = 0
  | _, [], _, _ => rfl
  | n + 1, t :: r, hn, h => by
    rw [wsum_split t.1, h t.1, Int.zero_mul, Int.zero_add]
    refine wsum_zero φ n _ ?_ fun k => by
      rw [sumK_filter]
      split
      · rfl
      · exact h k
    rw [List.filter_cons, if_neg (by simp)]
    have := List.length_filter_le (fun u : Trm => !decide (u.1 = t.1)) r
    simp only [List.length_cons] at hn
    omega
def negT (ts : List Trm) : List Trm := ts.map fun t => (t.1, -t.2)
theorem sumK_neg {ts : List Trm} {k : List Int} : sumK (negT ts) k = -sumK ts k := by
  induction ts with
  | nil => rfl
  | cons t r ih =>
    show sumK ((t.1, -t.2) :: negT r) k = _
    rw [sumK_cons, sumK_cons, ih]
    show (if t.1 = k then -t.2 else 0) + -sumK r k = _
    split <;> omega
theorem wsum_neg {φ : List Int → Int} {ts : List Trm} : wsum φ (negT ts) = -wsum φ ts := by
  induction ts with
  | nil => rfl
  | cons t r ih =>
    show wsum φ ((t.1, -t.2) :: negT r) = _
    rw [wsum_cons, wsum_cons, ih]
    show -t.2 * φ t.1 + _ = _
    rw [Int.neg_mul]
    omega
/-- it hangs on the sums alone -/
theorem wsum_same {φ : List Int → Int} {a b : List Trm} (h : ∀ k, sumK a k = sumK b k) : wsum φ a = wsum φ b := by
  have := wsum_zero φ _ (a ++ negT b) (Nat.le_refl _) fun k => by
    rw [sumK_app, sumK_neg, h k]
    omega
  rw [wsum_app, wsum_neg] at this
  omega
def putT (a : Nat) (n : Int) (ts : List Trm) : List Trm := ts.map fun t => (t.1.set a 0, t.2 * n ^ (t.1.getD a 0).toNat)
theorem sumK_put {a : Nat} {n : Int} {ts : List Trm} {k : List Int} : sumK (putT a n ts) k = wsum (fun p => if p.set a 0 = k then n ^ (p.getD a 0).toNat else 0) ts := by
  induction ts with
  | nil => rfl
  | cons t r ih =>
    show sumK ((t.1.set a 0, t.2 * n ^ (t.1.getD a 0).toNat) :: putT a n r) k = _
    rw [sumK_cons, wsum_cons, ih]
    show (if t.1.set a 0 = k then t.2 * n ^ (t.1.getD a 0).toNat else 0) + _ = t.2 * (if t.1.set a 0 = k then n ^ (t.1.getD a 0).toNat else 0) + _
    split
    · rfl
    · rw [Int.mul_zero]
theorem put_same {a : Nat} {n : Int} {A B : List Trm} (h : ∀ k, sumK A k = sumK B k) (k : List Int) : sumK (putT a n A) k = sumK (putT a n B) k := by
  rw [sumK_put, sumK_put, wsum_same h]
theorem uniq_sum {F : List Trm} (nd : (F.map (·.1)).Nodup) : ∀ x ∈ F, sumK F x.1 = x.2 := by
  induction F with
  | nil => intro x hx; cases hx
  | cons t r ih =>
    intro x hx
    obtain ⟨h1, h2⟩ := List.nodup_cons.mp nd
    rw [sumK_cons]
    rcases List.mem_cons.mp hx with rfl | hx
    · rw [if_pos rfl, sumK_none h1, Int.add_zero]
    · rw [if_neg (fun e => h1 (List.mem_map.mpr ⟨x, hx, e.symm⟩)), ih h2 x hx, Int.zero_add]
theorem up_nd {F : List Trm} (h : F.Pairwise fun x y => lexL x.1 y.1 = true) : (F.map (·.1)).Nodup := List.pairwise_map.mpr (h.imp fun {x y} q e => by
  rw [e, lexL_irr] at q
  cases q)
theorem Fm.sum {ts F : List Trm} (h : Fm ts F) (k : List Int) : sumK F k = sumK ts k := by
  by_cases c : k ∈ F.map (·.1)
  · obtain ⟨x, hx, e⟩ := List.mem_map.mp c
    have e' : x.1 = k := e
    rw [← e', uniq_sum (up_nd h.up) x hx]
    exact ((h.mem x).mp hx).2
  · rw [sumK_none c]
    by_cases z : sumK ts k = 0
    · exact z.symm
    · exact absurd (List.mem_map.mpr ⟨(k, sumK ts k), (h.mem _).mpr ⟨z, rfl⟩, rfl⟩) c
theorem fm_self {F : List Trm} (up : F.Pairwise fun x y => lexL x.1 y.1 = true) (nz : ∀ x ∈ F, x.2 ≠ 0) : Fm F F :=
  ⟨up, fun x => ⟨fun hx => ⟨nz x hx, (uniq_sum (up_nd up) x hx).symm⟩, fun ⟨h1, h2⟩ => by
    by_cases c : x.1 ∈ F.map (·.1)
    · obtain ⟨y, hy, e⟩ := List.mem_map.mp c
      have e' : y.1 = x.1 := e
      have := uniq_sum (up_nd up) y hy
      rw [e', ← h2] at this
      have : x = y := Prod.ext e'.symm this
      rw [this]
      exact hy
    · rw [sumK_none c] at h2
      exact absurd h2 h1⟩⟩
theorem put_put {a b : Nat} {n m : Int} {ts : List Trm} (ne : a ≠ b) : putT a n (putT b m ts) = putT b m (putT a n ts) := by
  unfold putT
  rw [List.map_map, List.map_map]
  refine List.map_congr_left fun t _ => ?_
  show ((t.1.set b 0).set a 0, t.2 * m ^ (t.1.getD b 0).toNat * n ^ ((t.1.set b 0).getD a 0).toNat) = ((t.1.set a 0).set b 0, t.2 * n ^ (t.1.getD a 0).toNat * m ^ ((t.1.set a 0).getD b 0).toNat)
  have e1 : (t.1.set b 0).getD a 0 = t.1.getD a 0 := by
    rw [List.getD_eq_getElem?_getD, List.getD_eq_getElem?_getD, List.getElem?_set_ne (Ne.symm ne)]
  have e2 : (t.1.set a 0).getD b 0 = t.1.getD b 0 := by
    rw [List.getD_eq_getElem?_getD, List.getD_eq_getElem?_getD, List.getElem?_set_ne ne]
  rw [e1, e2, List.set_comm _ _ ne, Int.mul_assoc, Int.mul_assoc, Int.mul_comm (m ^ _)]
theorem put_ok {a m : Nat} {c n : Int} {ts : List Trm} (hc : 0 ≤ c) (h : OkT m c ts) : OkT m c (putT a n ts) := fun x hx => by
  obtain ⟨t, ht, rfl⟩ := List.mem_map.mp hx
  obtain ⟨h1, h2⟩ := h t ht
  refine ⟨by rw [List.length_set]; exact h1, fun p hp => ?_⟩
  rcases List.mem_or_eq_of_mem_set hp with hp | hp
  · exact h2 p hp
  · rw [hp]
    omega
/-! sizes -/
theorem sum_sm {B : Nat} {ts : List Trm} (h : ∀ t ∈ ts, Sm B t.2) (k : List Int) : (sumK ts k).natAbs ≤ ts.length * 2 ^ B := by
  induction ts with
  | nil => exact Nat.zero_le _
  | cons t r ih =>
    have h1 := ih fun u hu => h u (List.mem_cons_of_mem _ hu)
    have h2 : t.2.natAbs < 2 ^ B := h t List.mem_cons_self
    rw [sumK_cons, List.length_cons, Nat.add_mul]
    generalize r.length * 2 ^ B = X at *
    generalize 2 ^ B = Y at *
    split <;> omega
theorem Fm.sm {B : Nat} {ts F : List Trm} (f : Fm ts F) (h : ∀ t ∈ ts, Sm B t.2) (l : ts.length ≤ 1000) : ∀ x ∈ F, Sm (B + 10) x.2 := fun x hx => by
  have h1 := sum_sm h x.1
  rw [← ((f.mem x).mp hx).2] at h1
  have h2 : ts.length * 2 ^ B ≤ 1000 * 2 ^ B := Nat.mul_le_mul_right _ l
  have h3 : 1000 * 2 ^ B < 2 ^ 10 * 2 ^ B := Nat.mul_lt_mul_of_pos_right (by decide) (Nat.pow_pos (by decide))
  show x.2.natAbs < 2 ^ (B + 10)
  rw [Nat.pow_add, Nat.mul_comm (2 ^ B)]
  omega
theorem Sm.pow {B : Nat} {n : Int} (h : Sm B n) : ∀ j : Nat, Sm (B * j + 1) (n ^ j)
  | 0 => by unfold Sm; simp
  | j + 1 => by
    rw [Int.pow_succ]
    have := (Sm.pow h j).mul h
    exact this.mono (by rw [Nat.mul_add]; omega)
theorem sm60 {n : Int} (h : n.natAbs < 10 ^ 60) : Sm 200 n := Nat.lt_trans h (by decide)
/-! promises -/
def spPows (K : PySem.W.Frag) : Sp := fun vs H Q _ => ∃ (n : Int) (k B : Nat), vs = [.int n, .int (k : Int)] ∧ Sm B n ∧ B ≤ 10000 ∧ 1 ≤ B ∧ k ≤ 50 ∧
  ∀ (l : Addr) (H' : Hp), Same H H' → H l = none → H' l = some (.lst (((List.range (k + 1)).map fun j => n ^ j).map V.int)) → Q (.ref l) H'
def spPow : Sp := fun vs H Q _ => ∃ (n : Int) (k B : Nat), vs = [.int n, .int (k : Int)] ∧ Sm B n ∧ B ≤ 10000 ∧ 1 ≤ B ∧ k ≤ 50 ∧ Q (.int (n ^ k)) H
def spGreatest (K : PySem.W.Frag) : Sp := fun vs H Q _ => ∃ (f : Addr) (F : List Trm) (m : Nat) (c : Int), vs = [.ref f] ∧ FmAt H f F ∧ OkT m c F ∧ 0 ≤ c ∧ F.length ≤ 4000 ∧
  ∀ (g : Int) (H' : Hp), Same H H' → 0 ≤ g → g ≤ c → (∀ t ∈ F, ∀ p ∈ t.1, p ≤ g) → Q (.int g) H'
def spPutIn (K : PySem.W.Frag) : Sp := fun vs H Q _ => ∃ (f : Addr) (F : List Trm) (a m B C : Nat) (c n : Int), vs = [.ref f, .int (a : Int), .int n] ∧ FmAt H f F ∧ OkT m c F ∧ 0 ≤ c ∧ c ≤ 40 ∧ a < m ∧ m ≤ 60 ∧ F.length ≤ 1000 ∧ Sm B n ∧ 1 ≤ B ∧ B ≤ 10000 ∧ (∀ t ∈ F, Sm C t.2) ∧ 1 ≤ C ∧ C ≤ 100000 ∧
  ∀ (g : Addr) (G : List Trm) (H' : Hp), Same H H' → H g = none → FmAt H' g G → Fm (putT a n F) G → Q (.ref g) H'
def spDrawn (K : PySem.W.Frag) : Sp := fun vs H Q _ => ∃ (p : Addr) (m most : Nat) (b : Int), vs = [.ref p, .int (m : Int), .int (most : Int)] ∧ Pl H p b ∧ b ≤ 1800000 ∧ m ≤ 7 ∧ most ≤ 60 ∧
  ∀ (f : Addr) (F : List Trm) (H' : Hp), But p H H' → Pl H' p (b + 3000) → H f = none → FmAt H' f F → Fm F F → OkT m 12 F → F.length ≤ most → (∀ t ∈ F, t.2.natAbs < 10 ^ 60) → Q (.ref f) H'
/-! ### comprehensions over a form's terms -/
def lcT (K : PySem.W.Frag) (g : TG) (tt : TT) (te : TE) (vs : List Nat) (σ : St) (Q : VK) (x : V) (H1 : Hp) : Prop := ∃ a, x = .ref a ∧ (∃ xs, SqT K H1 a xs) ∧ ∀ D, H1 D = none → ∃ W : Nat → Nat → Hp → Prop, (∃ m, W 0 m (upd H1 D (.lst []))) ∧ ∀ i m H, W i m H →
  ((Itt K a).stop i H ∧ Q (.ref D) H) ∨ ((Itt K a).go i H ∧ ∃ Nx : Hp → Prop, (∀ H', Nx H' → ∃ m', m' < m ∧ W (i + 1) m' H') ∧ ∀ x H', (Itt K a).yld i H x H' → g x (wipe σ vs) H' fun σ2 H2 => wipe σ2 vs = wipe σ vs ∧ tt σ2 H2 fun b H3 =>
    if b = true then te σ2 H3 fun y H4 => ∃ acc, H4 D = some (.lst acc) ∧ acc.length < sizeLine ∧ Nx (upd H4 D (.lst (acc ++ [y]))) else Nx H3)
theorem r_lcT {K : PySem.W.Frag} {tl : TE} {g : TG} {tt : TT} {te : TE} {vs : List Nat} {σ : St} {H : Hp} {Q : VK} (q : tl σ H (lcT K g tt te vs σ Q)) : tLc (iTup K tl) g tt te vs σ H Q := q
theorem paired_snoc' {α β : Type} {R : α → β → Prop} {a : α} {b : β} (h : R a b) : ∀ {xs : List α} {ys : List β}, Paired R xs ys → Paired R (xs ++ [a]) (ys ++ [b])
  | _, _, .nil => .cons h .nil
  | _, _, .cons k r => .cons k (paired_snoc' h r)
theorem lc_terms {K : PySem.W.Frag} {i j : Nat} {te : TE} {σ : St} {Q : VK} {f : Addr} {us : List V} {F : List Trm} {H : Hp} (R : Hp → V → Trm → Prop) (mono : ∀ {H H' : Hp} {v : V} {t : Trm}, Kt H H' → R H v t → R H' v t) (hf : H f = some (.tup us)) (tm : Tms H us F) (few : F.length ≤ 10000)
    (hσ : ∀ u v, wipe (((wipe σ [i, j]).set i (some u)).set j (some v)) [i, j] = wipe σ [i, j])
    (stE : ∀ (t : Trm) (q : Addr) (H' : Hp), t ∈ F → Same H H' → Pw H' q t.1 → ∀ S : VK, (∀ (v : V) (H4 : Hp), Same H' H4 → R H4 v t → S v H4) → te (((wipe σ [i, j]).set i (some (.ref q))).set j (some (.int t.2))) H' S)
    (fin : ∀ (D : Addr) (vs : List V) (H' : Hp), Same H H' → H D = none → H' D = some (.lst vs) → Paired (R H') vs F → Q (.ref D) H') : lcT K (gTup K 2 (gCons (gName i) (gCons (gName j) gNil))) tYes te [i, j] σ Q (.ref f) H := by
  refine ⟨f, rfl, ⟨_, tupOf hf⟩, fun D hD => ?_⟩
  have ln : us.length = F.length := Paired.length tm
  refine lc_it (walk_tup (K := K) (a := f) (xs := us)) (fun n H' => ∃ vs : List V, Same H H' ∧ H' D = some (.lst vs) ∧ vs.length = n ∧ Paired (R H') vs (F.take n)) ⟨[], same_new hD _, upd_same, rfl, by rw [List.take_zero]; exact .nil⟩ (fun n H' _ h => by obtain ⟨_, h, _⟩ := h; exact tupOf (h _ _ hf)) ?_ ?_
  · rintro n x H' H'' hn ⟨vs, g, d, lv, pr⟩ ⟨rfl, hx⟩
    obtain ⟨t, ht, a, q, rfl, ta, pw⟩ := tm.at hx
    have hm := List.mem_of_getElem? ht
    have e1 : F.take (n + 1) = F.take n ++ [t] := by rw [List.take_succ, ht, Option.toList_some]
    refine r_gT (tupOf (g _ _ ta)) rfl ?_
    refine r_g2 ?_
    refine ⟨hσ _ _, ?_⟩
    refine r_yes ?_
    rw [if_pos rfl]
    refine stE t q H'' hm g (g _ _ pw) _ fun v H4 g4 rv => ?_
    have d4 := g4 _ _ d
    have kt : Kt H4 (upd H4 D (.lst (vs ++ [v]))) := Kt.lst d4
    refine ⟨_, d4, Nat.lt_of_le_of_lt (show vs.length ≤ 10000 by omega) (by decide), vs ++ [v], same_updS (g.trans g4) hD, upd_same, by simp [lv], ?_⟩
    rw [e1]
    exact paired_snoc' (mono kt rv) (Paired.mapP pr fun _ _ h => mono kt (mono (Kt.same g4) h))
  · rintro H' ⟨vs, g, d, lv, pr⟩
    rw [ln, List.take_length] at pr
    exact fin D vs H' g hD d pr
end Mb
namespace Mb
open PySem L2
theorem r_ckw {r : List V → List V → Hp → VK → Prop} {t tk : TA} {σ : St} {H : Hp} {Q : VK} (q : t σ H fun vs H1 => tk σ H1 fun zs H2 => r vs zs H2 Q) : tCKw r t tk σ H Q := q
theorem fold_max : ∀ (ns : List Int) (m : Int), m ≤ ns.foldl max m ∧ (∀ x ∈ ns, x ≤ ns.foldl max m) ∧ (ns.foldl max m = m ∨ ns.foldl max m ∈ ns)
  | [], m => ⟨Int.le_refl _, (fun x hx => by cases hx), .inl rfl⟩
  | n :: r, m => by
    obtain ⟨h1, h2, h3⟩ := fold_max r (max m n)
    rw [List.foldl_cons]
    refine ⟨by omega, fun x hx => ?_, ?_⟩
    · rcases List.mem_cons.mp hx with rfl | hx
      · omega
      · exact h2 x hx
    · rcases h3 with h3 | h3
      · rw [h3]
        rcases Int.le_total m n with c | c
        · exact .inr (by rw [Int.max_eq_right c]; exact List.mem_cons_self)
        · exact .inl (Int.max_eq_left c)
      · exact .inr (List.mem_cons_of_mem _ h3)
theorem maxOf_le {ns : List Int} : ∀ x ∈ ns, x ≤ maxOf ns 0 := fun x hx => by
  cases ns with
  | nil => cases hx
  | cons n r =>
    obtain ⟨h1, h2, _⟩ := fold_max r n
    rcases List.mem_cons.mp hx with rfl | hx
    · exact h1
    · exact h2 x hx
theorem maxOf_in {ns : List Int} {c : Int} (h : ∀ p ∈ ns, 0 ≤ p ∧ p ≤ c) (hc : 0 ≤ c) : 0 ≤ maxOf ns 0 ∧ maxOf ns 0 ≤ c := by
  cases ns with
  | nil => exact ⟨Int.le_refl _, hc⟩
  | cons n r =>
    obtain ⟨_, _, h3⟩ := fold_max r n
    rcases h3 with h3 | h3
    · show 0 ≤ r.foldl max n ∧ r.foldl max n ≤ c
      rw [h3]
      exact h n List.mem_cons_self
    · exact h _ (List.mem_cons_of_mem _ h3)
/-- the powers with 0 at their a-th -/
theorem set_cut {k : List Int} {a : Nat} (h : a < k.length) : cutV (k.map V.int) none (some (a : Int)) ++ ([V.int 0] ++ cutV (k.map V.int) (some ((a : Int) + 1)) none) = (k.set a 0).map V.int := by
  unfold cutV
  have l : (k.map V.int).length = k.length := List.length_map _
  have e0 : HT.sIx (k.map V.int).length 0 none = 0 := rfl
  have e1 : HT.sIx (k.map V.int).length (k.map V.int).length none = (k.map V.int).length := rfl
  have e2 : HT.sIx (k.map V.int).length (k.map V.int).length (some (a : Int)) = a := by
    rw [HT.sIx_nat, l]
    omega
  have e3 : HT.sIx (k.map V.int).length 0 (some ((a : Int) + 1)) = a + 1 := by
    rw [show ((a : Int) + 1) = (((a + 1 : Nat)) : Int) by omega, HT.sIx_nat, l]
    omega
  rw [e0, e1, e2, e3, List.drop_zero, Nat.sub_zero, ← List.map_drop, ← List.map_take, l, ← List.map_take]
  rw [List.take_of_length_le (show (k.drop (a + 1)).length ≤ k.length - (a + 1) by rw [List.length_drop]; omega)]
  rw [List.set_eq_take_append_cons_drop, if_pos h, List.map_append, List.map_cons]
  rfl
theorem cutA {k : List Int} {a : Nat} (h : a < k.length) : ¬ (HT.sIx (k.map V.int).length 0 none = 0 ∧ HT.sIx (k.map V.int).length (k.map V.int).length (some (a : Int)) = (k.map V.int).length) := by
  rintro ⟨_, e⟩
  rw [HT.sIx_nat, List.length_map] at e
  omega
theorem cutB {k : List Int} {a : Nat} (h : a < k.length) : ¬ (HT.sIx (k.map V.int).length 0 (some ((a : Int) + 1)) = 0 ∧ HT.sIx (k.map V.int).length (k.map V.int).length none = (k.map V.int).length) := by
  rintro ⟨e, e2⟩
  rw [show ((a : Int) + 1) = (((a + 1 : Nat)) : Int) by omega, HT.sIx_nat, List.length_map] at e
  omega
theorem r_star {K : PySem.W.Frag} {te : TE} {t : TA} {σ : St} {H : Hp} {Q : List V → Hp → Prop} (q : te σ H fun x H1 => ∃ p xs, x = V.ref p ∧ (SqT K H1 p xs ∨ SqL K H1 p xs) ∧ t σ H1 fun ys H2 => Q (xs ++ ys) H2) : StX.tStar K te t σ H Q := q
theorem tmput {H : Hp} {a : Nat} {n : Int} : ∀ {vs : List V} {F : List Trm}, Paired (fun v t => Tm H v (t.1.set a 0, t.2 * n ^ (t.1.getD a 0).toNat)) vs F → Tms H vs (putT a n F)
  | _, _, .nil => .nil
  | _, _, .cons h r => .cons h (tmput r)
theorem getD_at {k : List Int} {a : Nat} (h : a < k.length) : k.getD a 0 ∈ k ∧ atI (k.map V.int) (a : Int) = some (.int (k.getD a 0)) := by
  have e : k[a]? = some k[a] := List.getElem?_eq_getElem h
  have g : k.getD a 0 = k[a] := by rw [List.getD_eq_getElem?_getD, e]; rfl
  rw [g]
  exact ⟨List.getElem_mem h, atI_nat (by rw [List.getElem?_map, e]; rfl)⟩
theorem pows_at {n : Int} {k j : Nat} (h : j ≤ k) : atI (((List.range (k + 1)).map fun j => n ^ j).map V.int) (j : Int) = some (.int (n ^ j)) :=
  atI_nat (by rw [List.getElem?_map, List.getElem?_map, List.getElem?_range (by omega)]; rfl)
end Mb
namespace Mb
open PySem L2
def clampI (M n : Int) : Int := if (if M < n then M else n) > -M then (if M < n then M else n) else -M
theorem clamp_nz {M n : Int} (hM : 0 < M) (h : n ≠ 0) : clampI M n ≠ 0 := by
  unfold clampI
  split
  · split <;> omega
  · omega
theorem clamp_le {M n : Int} (hM : 0 < M) : (clampI M n).natAbs ≤ M.natAbs := by
  unfold clampI
  split
  · split <;> omega
  · omega
def clampT (M : Int) (F : List Trm) : List Trm := F.map fun t => (t.1, clampI M t.2)
theorem tmclamp {H : Hp} {M : Int} : ∀ {vs : List V} {F : List Trm}, Paired (fun v t => Tm H v (t.1, clampI M t.2)) vs F → Tms H vs (clampT M F)
  | _, _, .nil => .nil
  | _, _, .cons h r => .cons h (tmclamp r)
def spLaid (K : PySem.W.Frag) : Sp := fun vs H Q _ => ∃ (f : Addr) (F : List Trm) (a m B C : Nat) (c n : Int), vs = [.ref f, .int (a : Int), .int n] ∧ FmAt H f F ∧ OkT m c F ∧ 0 ≤ c ∧ c ≤ 40 ∧ a < m ∧ m ≤ 60 ∧ F.length ≤ 1000 ∧ Sm B n ∧ 1 ≤ B ∧ B ≤ 10000 ∧ (∀ t ∈ F, Sm C t.2) ∧ 1 ≤ C ∧ C ≤ 100000 ∧
  ∀ (g : Addr) (G : List Trm) (H' : Hp), Same H H' → H g = none → FmAt H' g G → Fm (putT a n F) G → Q (.ref g) H'
theorem putT_snoc {a : Nat} {n : Int} {ts : List Trm} {t : Trm} : putT a n (ts ++ [t]) = putT a n ts ++ [(t.1.set a 0, t.2 * n ^ (t.1.getD a 0).toNat)] := by
  unfold putT
  rw [List.map_append]
  rfl
end Mb
namespace Mb
open PySem L2
theorem r_catA {K : PySem.W.Frag} {H : Hp} {Q : VK} {a b : Addr} {xs ys : List V} (ha : H a = some (.tup xs)) (hb : H b = some (.tup ys)) (hz : xs.length + ys.length ≤ sizeLine) (q : ∀ (p : Addr) (H' : Hp), Same H H' → H' p = some (.tup (xs ++ ys)) → Q (.ref p) H') : rCatA K (.ref a) (.ref b) H Q := by
  refine ⟨a, b, xs, ys, rfl, rfl, tupOf ha, tupOf hb, hz, fun h => ?_, fun _ h => ?_, fun _ _ p hp => ?_⟩
  · subst h
    exact q b H (Same.refl H) hb
  · subst h
    exact q a H (Same.refl H) (by rw [List.append_nil]; exact ha)
  · exact q p _ (same_new hp _) upd_same
end Mb
namespace Mb
open PySem PySem.Spec PyProof.Rows L2
/-! ### sorted(d) of a dict with whole numbers for keys, any number of them -/
def rSortedDIb (K : PySem.W.Frag) : List V → Hp → VK → Prop := fun vs H Q => ∃ (a : Addr) (kvs : List (Key × V)) (ks : List Int), vs = [.ref a] ∧ H a = some (.dK kvs) ∧ kvs.map (·.1) = ks.map Sum.inl ∧
  ∀ (ys : List Int) (p : Addr), ys.Perm ks → ys.Pairwise (· ≤ ·) → H p = none → Q (.ref p) (upd H p (.lst (ys.map V.int)))
theorem cr_sortedDIb {X : Cx} (hcalm : X.calm = true) : CallR X (.builtin "sorted") (rSortedDIb X.K) := by
  intro pins s σ H xs us Q I r q
  obtain ⟨a, kvs, ks, ex, hd, hks, q⟩ := q
  subst ex
  obtain ⟨u, eu, rx⟩ := vals1 r
  subst eu
  cases rx
  obtain ⟨z, lo, vs, rel, dd⟩ := (show ObjOk X.prog X.w H s.heap a (.dK kvs) from I.hok a _ hd)
  obtain ⟨ep, hat⟩ := dd.dictAt
  have hkeys : vs.map (·.1) = ks.map Sum.inl := rel.keys.symm.trans hks
  have hl : vs.length = ks.length := by
    have e := congrArg List.length hkeys
    rw [List.length_map, List.length_map] at e
    exact e
  have h16 : vs.length ≤ sizeLine := by
    rw [← Paired.length rel]
    exact z
  refine Calls.call_function_entry PyProof.Rows.kind_sorted PyProof.Rows.plain_sorted PyProof.Rows.entry_sorted (PyProof.Rows.args_sorted1 _) ?_
  unfold Builtin.«sorted»
  refine wpAny_bind (m := checkCount "sorted" 1 1 _) (wpAny_pure ?_)
  refine wpAny_bind (PySem.W.kdu_collect (A := X.A.in1) (PySem.W.kdl_dict (knd := mixKind X.prog X.w) (kvs := vs) (ep := ep) lo) (I.ok.hd hcalm) hat h16 fun h' tk acc hk hacc => ?_)
  have hal : acc.toList.length = ks.length := by rw [Array.length_toList, hacc.1, hl]
  have hS : IntsAre acc.toList ks := ints_each hal fun j v e => by
    obtain ⟨k, x, e1, e2⟩ := hacc.2 j v (by rw [← Array.getElem?_toList]; exact e)
    have e3 : (vs.map (·.1))[j]? = some k := by rw [List.getElem?_map, e1]; rfl
    rw [hkeys, List.getElem?_map] at e3
    cases e4 : ks[j]? with
    | none => rw [e4] at e3; cases e3
    | some y =>
      rw [e4] at e3
      have e5 : Sum.inl y = k := Option.some.inj e3
      subst e5
      rcases keyIs_shape (show keyIs (Sum.inl y) v = true from e2) with ⟨i, t, ek, ev⟩ | ⟨z, t, ek, ev⟩
      · cases ek
        exact ⟨y, t, rfl, ev⟩
      · cases ek
  have I1 : Inv X pins σ H { s with heap := h', toks := tk } := I.kept hk
  refine wpAny_bind (wpAny_newList ?_ (by rw [hal, ← hl]; exact h16))
  have hoL : (h'.push (seqObj "list" acc.toList.toArray 0)).get? h'.objs.size = some (seqObj "list" acc.toList.toArray 0) := Heap.get?_push_size _ rfl
  show wpAny _ _ _ _ _ { s with heap := h'.push (seqObj "list" acc.toList.toArray 0), toks := tk }
  refine wpAny_bind (wpAny_holding (wpAny_call_entry PyProof.Rows.slot_list_sort ⟨_, hoL, rfl⟩ PyProof.Rows.entry_list_sort
    (SrtO.list_sort_ord (s := { s with heap := h'.push (seqObj "list" acc.toList.toArray 0), toks := tk }) SrtO.swo_int hoL (by rw [hal, ← hl]; exact h16) (fun h2 => SrtO.ints_sortable hS h2) fun out g1 g2 => ⟨_, rfl, ?_⟩) (PyProof.Rows.args_list_sort _)))
  obtain ⟨k1, k2, k3⟩ := SrtO.ints_out hS g1 g2
  obtain ⟨e', he'⟩ := PyProof.Rows.sortedHeap_at (vs := acc.toList) (out := out.toArray) hoL
  have hlen : ((out.map SrtO.iv).map V.int).length ≤ sizeLine := by
    rw [List.length_map, k2.length_eq, ← hl]
    exact h16
  refine wpAny_pure ⟨_, rfl, .ref h'.objs.size, upd H h'.objs.size (.lst ((out.map SrtO.iv).map V.int)), I1.laid (t' := tk) (fun b u e => ?_) (Nat.le_refl _)
    (show ObjOk X.prog X.w _ _ _ (.lst ((out.map SrtO.iv).map V.int)) from ⟨hlen, out, e', vals_of_ints k1, he'⟩), rfl, q _ _ k2 k3 (I1.hok.fresh (Nat.le_refl _))⟩
  have hb : b < h'.objs.size := Heap.lt_size e
  rw [PyProof.Rows.sortedHeap_old (Nat.ne_of_lt hb) (by rw [size_push']; exact Nat.lt_succ_of_lt hb)]
  exact Heap.get?_push_of_some _ e
end Mb
namespace Mb
open PySem L2
/-! ### powers as the figures of one number -/
def joinL (b : Int) (acc : Int) : List Int → Int
  | [] => acc
  | p :: r => joinL b (acc * b + p) r
def unp (b : Int) : Nat → Int → List Int
  | 0, _ => []
  | n + 1, k => unp b n (k / b) ++ [k % b]
theorem joinL_snoc {b : Int} {p : Int} : ∀ (ps : List Int) (acc : Int), joinL b acc (ps ++ [p]) = joinL b acc ps * b + p
  | [], _ => rfl
  | q :: r, acc => joinL_snoc r (acc * b + q)
def Dg (b : Int) (ps : List Int) : Prop := ∀ p ∈ ps, 0 ≤ p ∧ p < b
theorem join_acc {b : Int} : ∀ (ps : List Int) (acc : Int), joinL b acc ps = acc * b ^ ps.length + joinL b 0 ps
  | [], acc => by show acc = acc * b ^ 0 + 0; rw [Int.pow_zero]; omega
  | q :: r, acc => by
    show joinL b (acc * b + q) r = acc * b ^ (r.length + 1) + joinL b (0 * b + q) r
    rw [join_acc r (acc * b + q), join_acc r (0 * b + q), Int.pow_succ, Int.add_mul, Int.add_mul, Int.mul_assoc, Int.mul_comm b]
    simp only [Int.zero_mul, Int.zero_add]
    omega
theorem join_cons {b q : Int} {r : List Int} : joinL b 0 (q :: r) = q * b ^ r.length + joinL b 0 r := by
  show joinL b (0 * b + q) r = _
  rw [Int.zero_mul, Int.zero_add, join_acc]
theorem join_bd {b : Int} (hb : 1 ≤ b) : ∀ ps : List Int, Dg b ps → 0 ≤ joinL b 0 ps ∧ joinL b 0 ps < b ^ ps.length
  | [], _ => by show (0 : Int) ≤ 0 ∧ (0 : Int) < b ^ 0; rw [Int.pow_zero]; omega
  | q :: r, h => by
    obtain ⟨h1, h2⟩ := join_bd hb r fun p hp => h p (List.mem_cons_of_mem _ hp)
    obtain ⟨q0, q1⟩ := h q List.mem_cons_self
    rw [join_cons, List.length_cons, Int.pow_succ]
    have := TS.num1 h1 h2 q0 q1
    exact this
theorem join_lt {b : Int} (hb : 1 ≤ b) : ∀ (xs ys : List Int), xs.length = ys.length → Dg b xs → Dg b ys → (lexL xs ys = true ↔ joinL b 0 xs < joinL b 0 ys)
  | [], [], _, _, _ => by
    show (false = true) ↔ (0 : Int) < 0
    constructor
    · intro h; cases h
    · intro h; omega
  | x :: xs, y :: ys, hl, hx, hy => by
    have hl' : xs.length = ys.length := by simpa using hl
    have dx : Dg b xs := fun p hp => hx p (List.mem_cons_of_mem _ hp)
    have dy : Dg b ys := fun p hp => hy p (List.mem_cons_of_mem _ hp)
    obtain ⟨a1, a2⟩ := join_bd hb xs dx
    obtain ⟨b1, b2⟩ := join_bd hb ys dy
    rw [lexL_cons, join_lt hb xs ys hl' dx dy, join_cons, join_cons, hl']
    rw [hl'] at a2
    rcases Int.lt_trichotomy x y with c | c | c
    · have := TS.num2 a1 a2 b1 c
      exact ⟨fun _ => this, fun _ => .inl c⟩
    · subst c
      constructor
      · rintro (h | h)
        · omega
        · omega
      · intro h
        exact .inr ⟨rfl, by omega⟩
    · have := TS.num2 b1 b2 a1 c
      constructor
      · rintro (h | h)
        · omega
        · omega
      · intro h
        omega
theorem join_inj {b : Int} (hb : 1 ≤ b) {xs ys : List Int} (hl : xs.length = ys.length) (hx : Dg b xs) (hy : Dg b ys) (e : joinL b 0 xs = joinL b 0 ys) : xs = ys := by
  refine lexL_eq _ _ ?_ ?_
  · cases q : lexL xs ys with
    | false => rfl
    | true => have := (join_lt hb xs ys hl hx hy).mp q; omega
  · cases q : lexL ys xs with
    | false => rfl
    | true => have := (join_lt hb ys xs hl.symm hy hx).mp q; omega
theorem unp_join {b : Int} (hb : 1 ≤ b) : ∀ (n : Nat) (ps : List Int), ps.length = n → Dg b ps → unp b n (joinL b 0 ps) = ps
  | 0, ps, hl, _ => by rw [List.eq_nil_of_length_eq_zero hl]; rfl
  | n + 1, ps, hl, h => by
    have ne : ps ≠ [] := fun e => by rw [e] at hl; cases hl
    have e := List.dropLast_concat_getLast ne
    generalize ps.dropLast = a at e
    generalize ps.getLast ne = q at e
    subst e
    have hq := h q (by simp)
    have ha : a.length = n := by simpa using hl
    rw [joinL_snoc]
    show unp b n ((joinL b 0 a * b + q) / b) ++ [(joinL b 0 a * b + q) % b] = a ++ [q]
    have e1 : (joinL b 0 a * b + q) / b = joinL b 0 a := by
      rw [Int.add_comm, Int.add_mul_ediv_right _ _ (by omega), Int.ediv_eq_zero_of_lt hq.1 hq.2, Int.zero_add]
    have e2 : (joinL b 0 a * b + q) % b = q := by
      rw [Int.add_comm, Int.add_mul_emod_self_right, Int.emod_eq_of_lt hq.1 hq.2]
    rw [e1, e2, unp_join hb n a ha fun p hp => h p (List.mem_append_left _ hp)]
theorem unp_len {b : Int} : ∀ (n : Nat) (k : Int), (unp b n k).length = n
  | 0, _ => rfl
  | n + 1, k => by
    show (unp b n (k / b) ++ [k % b]).length = n + 1
    rw [List.length_append, unp_len n]
    rfl
def addL (xs ys : List Int) : List Int := List.zipWith (· + ·) xs ys
theorem join_add {b : Int} : ∀ (xs ys : List Int), xs.length = ys.length → joinL b 0 (addL xs ys) = joinL b 0 xs + joinL b 0 ys
  | [], [], _ => rfl
  | x :: xs, y :: ys, hl => by
    have hl' : xs.length = ys.length := by simpa using hl
    show joinL b 0 ((x + y) :: addL xs ys) = _
    rw [join_cons, join_cons, join_cons, join_add xs ys hl', ← hl']
    have : (addL xs ys).length = xs.length := by
      unfold addL
      rw [List.length_zipWith, hl']
      omega
    rw [this, Int.add_mul]
    omega
/-- the product's terms -/
def mulT (F G : List Trm) : List Trm := F.flatMap fun t => G.map fun u => (addL t.1 u.1, t.2 * u.2)
theorem addL_len {xs ys : List Int} {m : Nat} (hx : xs.length = m) (hy : ys.length = m) : (addL xs ys).length = m := by
  unfold addL
  rw [List.length_zipWith, hx, hy]
  omega
theorem addL_in {c d : Int} : ∀ {xs ys : List Int}, (∀ p ∈ xs, 0 ≤ p ∧ p ≤ c) → (∀ p ∈ ys, 0 ≤ p ∧ p ≤ d) → ∀ p ∈ addL xs ys, 0 ≤ p ∧ p ≤ c + d
  | [], _, _, _, p, hp => by simp [addL] at hp
  | _ :: _, [], _, _, p, hp => by simp [addL] at hp
  | x :: xs, y :: ys, h1, h2, p, hp => by
    have a := h1 x List.mem_cons_self
    have b := h2 y List.mem_cons_self
    rcases List.mem_cons.mp (show p ∈ (x + y) :: addL xs ys from hp) with rfl | hp
    · omega
    · exact addL_in (fun q hq => h1 q (List.mem_cons_of_mem _ hq)) (fun q hq => h2 q (List.mem_cons_of_mem _ hq)) p hp
theorem mul_ok {m : Nat} {c d : Int} {F G : List Trm} (h1 : OkT m c F) (h2 : OkT m d G) : OkT m (c + d) (mulT F G) := fun x hx => by
  obtain ⟨t, ht, hx⟩ := List.mem_flatMap.mp hx
  obtain ⟨u, hu, rfl⟩ := List.mem_map.mp hx
  obtain ⟨a1, a2⟩ := h1 t ht
  obtain ⟨b1, b2⟩ := h2 u hu
  exact ⟨addL_len a1 b1, addL_in a2 b2⟩
theorem mul_len {F G : List Trm} : (mulT F G).length = F.length * G.length := by
  unfold mulT
  induction F with
  | nil => simp
  | cons t r ih =>
    rw [List.flatMap_cons, List.length_append, ih, List.length_map, List.length_cons, Nat.succ_mul]
    omega
/-- the same with packed powers -/
def packT (b : Int) (ts : List Trm) : List Trm := ts.map fun t => ([joinL b 0 t.1], t.2)
theorem sum_pack {b : Int} {m : Nat} {ts : List Trm} (hb : 1 ≤ b) (h : ∀ t ∈ ts, t.1.length = m ∧ Dg b t.1) {k : List Int} (hk : k.length = m) (dk : Dg b k) : sumK (packT b ts) [joinL b 0 k] = sumK ts k := by
  induction ts with
  | nil => rfl
  | cons t r ih =>
    show sumK (([joinL b 0 t.1], t.2) :: packT b r) _ = _
    rw [sumK_cons, sumK_cons, ih fun u hu => h u (List.mem_cons_of_mem _ hu)]
    obtain ⟨h1, h2⟩ := h t List.mem_cons_self
    congr 1
    by_cases c : t.1 = k
    · rw [if_pos c, if_pos (by rw [c])]
    · rw [if_neg c, if_neg fun e => c (join_inj hb (h1.trans hk.symm) h2 dk (List.cons.inj e).1)]
def keysI (M : List Trm) : List (Key × V) := M.map fun m => (.inl (m.1.headD 0), .int m.2)
/-- the form of packed sums -/
theorem fm_pack {b : Int} {m : Nat} {ts : List Trm} (hb : 1 ≤ b) (h : ∀ t ∈ ts, t.1.length = m ∧ Dg b t.1) {ks : List Int} (hp : (ks.map fun k => [k]).Perm ((accOf (packT b ts)).map (·.1))) (hs : ks.Pairwise (· ≤ ·)) :
    Fm ts ((ks.map fun k => (unp b m k, sumK (packT b ts) [k])).filter fun t => !decide (t.2 = 0)) := by
  have ok := acc_ok (packT b ts)
  have nd0 : (ks.map fun k => [k]).Nodup := hp.nodup_iff.mpr ok.nd
  have nd : ks.Nodup := by
    refine List.pairwise_map.mp nd0 |>.imp fun {x y} h e => h (by rw [e])
  have key : ∀ k ∈ ks, ∃ t ∈ ts, k = joinL b 0 t.1 := fun k hk => by
    have : [k] ∈ (accOf (packT b ts)).map (·.1) := hp.mem_iff.mp (List.mem_map.mpr ⟨k, hk, rfl⟩)
    obtain ⟨x, hx, e⟩ := List.mem_map.mp ((ok.ks _).mp this)
    obtain ⟨t, ht, rfl⟩ := List.mem_map.mp hx
    exact ⟨t, ht, ((List.cons.inj e).1).symm⟩
  have st : ks.Pairwise (· < ·) := (List.Pairwise.and hs nd).imp fun {x y} h => by
    have h1 := h.1
    have h2 : x ≠ y := h.2
    omega
  refine ⟨List.Pairwise.filter _ (List.pairwise_map.mpr ?_), fun x => ?_⟩
  · refine List.Pairwise.imp_of_mem (fun {x y} hx hy hlt => ?_) st
    obtain ⟨t, ht, rfl⟩ := key x hx
    obtain ⟨u, hu, rfl⟩ := key y hy
    obtain ⟨a1, a2⟩ := h t ht
    obtain ⟨b1, b2⟩ := h u hu
    show lexL (unp b m _) (unp b m _) = true
    rw [unp_join hb m _ a1 a2, unp_join hb m _ b1 b2]
    exact (join_lt hb _ _ (a1.trans b1.symm) a2 b2).mpr hlt
  · rw [List.mem_filter, List.mem_map]
    constructor
    · rintro ⟨⟨k, hk, rfl⟩, hz⟩
      obtain ⟨t, ht, rfl⟩ := key k hk
      obtain ⟨a1, a2⟩ := h t ht
      refine ⟨by simpa using hz, ?_⟩
      show sumK (packT b ts) [joinL b 0 t.1] = sumK ts (unp b m (joinL b 0 t.1))
      rw [unp_join hb m _ a1 a2, sum_pack hb h a1 a2]
    · rintro ⟨h1, h2⟩
      by_cases c : x.1 ∈ ts.map (·.1)
      · obtain ⟨t, ht, e⟩ := List.mem_map.mp c
        have e' : t.1 = x.1 := e
        obtain ⟨a1, a2⟩ := h t ht
        refine ⟨⟨joinL b 0 t.1, ?_, ?_⟩, by simpa using h1⟩
        · have : [joinL b 0 t.1] ∈ (ks.map fun k => [k]) := hp.mem_iff.mpr ((ok.ks _).mpr (List.mem_map.mpr ⟨([joinL b 0 t.1], t.2), List.mem_map.mpr ⟨t, ht, rfl⟩, rfl⟩))
          obtain ⟨k, hk, e⟩ := List.mem_map.mp this
          rw [← (List.cons.inj e).1]
          exact hk
        · rw [unp_join hb m _ a1 a2, sum_pack hb h a1 a2, e', ← h2]
      · rw [sumK_none c] at h2
        exact absurd h2 h1
end Mb
namespace Mb
open PySem L2
theorem small_join {b v : Int} {n : Nat} (b1 : 1 ≤ b) (b2 : b ≤ 400) (hn : n ≤ 7) (h : 0 ≤ v ∧ v < b ^ n) : Sm 64 v := by
  have h1 : b ^ n ≤ 400 ^ 7 := by
    obtain ⟨c, rfl⟩ : ∃ c : Nat, b = (c : Int) := ⟨b.toNat, by omega⟩
    have e1 : (c : Int) ^ n = ((c ^ n : Nat) : Int) := (Int.natCast_pow c n).symm
    rw [e1]
    have h2 : c ^ n ≤ 400 ^ n := Nat.pow_le_pow_left (by omega) n
    have h3 : 400 ^ n ≤ 400 ^ 7 := Nat.pow_le_pow_right (by decide) hn
    have h4 : ((400 : Int) ^ 7) = ((400 ^ 7 : Nat) : Int) := by decide
    rw [h4]
    exact Int.ofNat_le.mpr (Nat.le_trans h2 h3)
  have h5 : (400 : Int) ^ 7 < 2 ^ 64 := by decide
  unfold Sm
  omega
theorem unp_succ {b : Int} (hb : 1 ≤ b) : ∀ {n : Nat} {k : Int}, unp b (n + 1) k = [k / b ^ n % b] ++ unp b n k
  | 0, k => by
    show ([] : List Int) ++ [k % b] = [k / b ^ 0 % b] ++ []
    rw [Int.pow_zero, Int.ediv_one]
    rfl
  | n + 1, k => by
    show unp b (n + 1) (k / b) ++ [k % b] = [k / b ^ (n + 1) % b] ++ (unp b n (k / b) ++ [k % b])
    rw [unp_succ hb (n := n), Int.ediv_ediv_of_nonneg (by omega), Int.pow_succ, Int.mul_comm b, List.append_assoc]
def spJoined (K : PySem.W.Frag) : Sp := fun vs H Q _ => ∃ (q0 : Addr) (b : Int) (k : List Int), vs = [.ref q0, .int b] ∧ Pw H q0 k ∧ 1 ≤ b ∧ b ≤ 400 ∧ k.length ≤ 7 ∧ Dg b k ∧ Q (.int (joinL b 0 k)) H
def spUnpacked (K : PySem.W.Frag) : Sp := fun vs H Q _ => ∃ (k b : Int) (m : Nat), vs = [.int k, .int b, .int (m : Int)] ∧ 1 ≤ b ∧ b ≤ 400 ∧ m ≤ 7 ∧ ∀ (p : Addr) (H' : Hp), Same H H' → H p = none → Pw H' p (unp b m k) → Q (.ref p) H'
def Pk (b : Int) (H : Hp) (v : V) (t : Trm) : Prop := ∃ a, v = .ref a ∧ H a = some (.tup [.int (joinL b 0 t.1), .int t.2])
theorem Pk.kt {b : Int} {H H' : Hp} {v : V} {t : Trm} (k : Kt H H') (h : Pk b H v t) : Pk b H' v t := by
  obtain ⟨a, e, h⟩ := h
  exact ⟨a, e, k _ _ h⟩
def spPacked (K : PySem.W.Frag) : Sp := fun vs H Q _ => ∃ (f : Addr) (b : Int) (F : List Trm) (m : Nat), vs = [.ref f, .int b] ∧ FmAt H f F ∧ 1 ≤ b ∧ b ≤ 400 ∧ m ≤ 7 ∧ (∀ t ∈ F, t.1.length = m ∧ Dg b t.1) ∧ F.length ≤ 4000 ∧
  ∀ (l : Addr) (us : List V) (H' : Hp), Same H H' → H l = none → H' l = some (.lst us) → Paired (Pk b H') us F → Q (.ref l) H'
theorem r_rev2 {K : PySem.W.Frag} {te : TE} {σ : St} {H : Hp} {Q : VK} (q : te σ H fun x H1 => ∃ a xs, x = .ref a ∧ SqL K H1 a xs ∧ ∀ p, H1 p = none → Q (.ref p) (upd H1 p (.lst xs.reverse))) : tRevL K te σ H Q := q
/-! the int keys of the dict -/
def One (M : List Trm) : Prop := ∀ m ∈ M, ∃ x, m.1 = [x]
theorem one_acc {ts : List Trm} (h : One ts) : One (accOf ts) := fun m hm => by
  have : m.1 ∈ (accOf ts).map (·.1) := List.mem_map.mpr ⟨m, hm, rfl⟩
  obtain ⟨t, ht, e⟩ := List.mem_map.mp (((acc_ok ts).ks _).mp this)
  obtain ⟨x, hx⟩ := h t ht
  exact ⟨x, by rw [← e]; exact hx⟩
theorem keysI_any {M : List Trm} (h : One M) {k : Int} : ((keysI M).any fun kv => decide (kv.1 = (.inl k : Key))) = decide ([k] ∈ M.map (·.1)) := by
  unfold keysI
  rw [List.any_map]
  induction M with
  | nil => rfl
  | cons m r ih =>
    rw [List.any_cons, ih fun u hu => h u (List.mem_cons_of_mem _ hu)]
    obtain ⟨x, hx⟩ := h m List.mem_cons_self
    by_cases c : x = k
    · subst c
      simp [hx]
    · have h1 : ¬ ((.inl x : Key) = .inl k) := fun e => c (Sum.inl.inj e)
      have h2 : ¬ k = x := fun e => c e.symm
      simp [hx, h1, h2]
theorem keysI_find {M : List Trm} (h : One M) {k : Int} : valV (keysI M) (.inl k : Key) = (M.find? fun m => decide (m.1 = [k])).map fun m => .int m.2 := by
  unfold valV keysI
  induction M with
  | nil => rfl
  | cons m r ih =>
    rw [List.map_cons, List.find?_cons, List.find?_cons]
    obtain ⟨x, hx⟩ := h m List.mem_cons_self
    by_cases c : x = k
    · subst c
      simp [hx]
    · have h1 : ¬ ((.inl x : Key) = .inl k) := fun e => c (Sum.inl.inj e)
      simp only [hx, List.headD_cons, h1, decide_false, List.cons.injEq, c, false_and]
      exact ih fun u hu => h u (List.mem_cons_of_mem _ hu)
theorem keysI_put {M : List Trm} (h : One M) (nd : (M.map (·.1)).Nodup) {k n : Int} : putK (keysI M) (.inl k : Key) (.int ((match M.find? (fun m => decide (m.1 = [k])) with | some m => m.2 | none => 0) + n)) = keysI (accM M ([k], n)) := by
  unfold putK accM
  rw [keysI_any h]
  by_cases c : [k] ∈ M.map (·.1)
  · rw [if_pos (by simpa using c), if_pos c]
    obtain ⟨m0, hm0, e0⟩ := List.mem_map.mp c
    have hf := find_some nd hm0
    rw [e0] at hf
    rw [hf]
    unfold keysI
    rw [List.map_map, List.map_map]
    refine List.map_congr_left fun m hm => ?_
    obtain ⟨x, hx⟩ := h m hm
    show (if (.inl (m.1.headD 0) : Key) = .inl k then ((.inl (m.1.headD 0) : Key), V.int (m0.2 + n)) else (.inl (m.1.headD 0), .int m.2)) = ((.inl ((if m.1 = [k] then (m.1, m.2 + n) else m).1.headD 0) : Key), V.int (if m.1 = [k] then (m.1, m.2 + n) else m).2)
    by_cases e : x = k
    · have e1 : m.1 = [k] := by rw [hx, e]
      have : m = m0 := by
        have h1 := find_some nd hm
        rw [e1, hf] at h1
        exact (Option.some.inj h1).symm
      rw [if_pos e1, e1]
      simp [this]
    · have e1 : ¬ m.1 = [k] := by rw [hx]; simp [e]
      rw [if_neg e1, if_neg (by rw [hx]; simp [e])]
  · rw [if_neg (by simpa using c), if_neg c, find_none c]
    unfold keysI
    rw [List.map_append, List.map_cons, List.map_nil, Int.zero_add]
    rfl
theorem keysI_keys {M : List Trm} (h : One M) : ∃ ks : List Int, (keysI M).map (·.1) = ks.map Sum.inl ∧ M.map (·.1) = ks.map fun k => [k] := by
  refine ⟨M.map fun m => m.1.headD 0, ?_, ?_⟩
  · unfold keysI
    rw [List.map_map, List.map_map]
    rfl
  · rw [List.map_map]
    refine List.map_congr_left fun m hm => ?_
    obtain ⟨x, hx⟩ := h m hm
    show m.1 = [m.1.headD 0]
    rw [hx]
    rfl
theorem keysI_val {ts : List Trm} (h : One ts) {k : Int} (hk : [k] ∈ (accOf ts).map (·.1)) : valV (keysI (accOf ts)) (.inl k : Key) = some (.int (sumK ts [k])) := by
  rw [keysI_find (one_acc h)]
  obtain ⟨m, hm, e⟩ := List.mem_map.mp hk
  have e' : m.1 = [k] := e
  have := find_some (acc_ok ts).nd hm
  rw [e'] at this
  rw [this, Option.map_some, (acc_ok ts).sm m hm, e']
def scaleT (n : Int) (ts : List Trm) : List Trm := ts.map fun t => (t.1, n * t.2)
theorem sumK_scale {n : Int} {ts : List Trm} {k : List Int} : sumK (scaleT n ts) k = n * sumK ts k := by
  induction ts with
  | nil => show (0 : Int) = n * 0; omega
  | cons t r ih =>
    show sumK ((t.1, n * t.2) :: scaleT n r) k = _
    rw [sumK_cons, sumK_cons, ih, Int.mul_add]
    show (if t.1 = k then n * t.2 else 0) + _ = n * (if t.1 = k then t.2 else 0) + _
    split
    · rfl
    · rw [Int.mul_zero]
theorem scale_ok {m : Nat} {c n : Int} {ts : List Trm} (h : OkT m c ts) : OkT m c (scaleT n ts) := fun x hx => by
  obtain ⟨t, ht, rfl⟩ := List.mem_map.mp hx
  exact h t ht
theorem neg_ok {m : Nat} {c : Int} {ts : List Trm} (h : OkT m c ts) : OkT m c (negT ts) := fun x hx => by
  obtain ⟨t, ht, rfl⟩ := List.mem_map.mp hx
  exact h t ht
theorem app_ok {m : Nat} {c : Int} {a b : List Trm} (h : OkT m c a) (k : OkT m c b) : OkT m c (a ++ b) := fun x hx => (List.mem_append.mp hx).elim (h x) (k x)
theorem tms_app {H : Hp} : ∀ {us vs : List V} {F G : List Trm}, Tms H us F → Tms H vs G → Tms H (us ++ vs) (F ++ G)
  | _, _, _, _, .nil, h => h
  | _, _, _, _, .cons a r, h => .cons a (tms_app r h)
theorem tmscale {H : Hp} {n : Int} : ∀ {vs : List V} {F : List Trm}, Paired (fun v t => Tm H v (t.1, n * t.2)) vs F → Tms H vs (scaleT n F)
  | _, _, .nil => .nil
  | _, _, .cons h r => .cons h (tmscale r)
theorem tmneg {H : Hp} : ∀ {vs : List V} {F : List Trm}, Paired (fun v t => Tm H v (t.1, -t.2)) vs F → Tms H vs (negT F)
  | _, _, .nil => .nil
  | _, _, .cons h r => .cons h (tmneg r)
def spAdded (K : PySem.W.Frag) : Sp := fun vs H Q _ => ∃ (f g : Addr) (F G : List Trm) (m : Nat) (c : Int), vs = [.ref f, .ref g] ∧ FmAt H f F ∧ FmAt H g G ∧ OkT m c F ∧ OkT m c G ∧ F.length ≤ 2000 ∧ G.length ≤ 2000 ∧
  ∀ (r : Addr) (R : List Trm) (H' : Hp), Same H H' → H r = none → FmAt H' r R → Fm (F ++ G) R → Q (.ref r) H'
def spScaled (K : PySem.W.Frag) : Sp := fun vs H Q _ => ∃ (f : Addr) (n : Int) (F : List Trm) (m : Nat) (c : Int), vs = [.ref f, .int n] ∧ FmAt H f F ∧ OkT m c F ∧ F.length ≤ 2000 ∧ Sm 64 n ∧ (∀ t ∈ F, Sm 100000 t.2) ∧
  ∀ (r : Addr) (R : List Trm) (H' : Hp), Same H H' → H r = none → FmAt H' r R → Fm (scaleT n F) R → Q (.ref r) H'
def spTaken (K : PySem.W.Frag) : Sp := fun vs H Q _ => ∃ (f g : Addr) (F G : List Trm) (m : Nat) (c : Int), vs = [.ref f, .ref g] ∧ FmAt H f F ∧ FmAt H g G ∧ OkT m c F ∧ OkT m c G ∧ F.length ≤ 2000 ∧ G.length ≤ 2000 ∧ (∀ t ∈ G, Sm 100000 t.2) ∧
  ∀ (r : Addr) (R : List Trm) (H' : Hp), Same H H' → H r = none → FmAt H' r R → Fm (F ++ negT G) R → Q (.ref r) H'
/-- the product of two forms -/
def spMul (K : PySem.W.Frag) : Sp := fun vs H Q _ => ∃ (f g : Addr) (F G : List Trm) (m : Nat) (c : Int), vs = [.ref f, .ref g] ∧ FmAt H f F ∧ FmAt H g G ∧ OkT m c F ∧ OkT m c G ∧ 0 ≤ c ∧ c ≤ 150 ∧ m ≤ 7 ∧ F.length * G.length ≤ 4000 ∧ F.length ≤ 4000 ∧ G.length ≤ 4000 ∧ (∀ t ∈ F, Sm 100000 t.2) ∧ (∀ t ∈ G, Sm 100000 t.2) ∧
  ∀ (r : Addr) (R : List Trm) (H' : Hp), Same H H' → H r = none → FmAt H' r R → Fm (mulT F G) R → Q (.ref r) H'
theorem Fm.congr {a b F : List Trm} (h : Fm a F) (e : ∀ k, sumK a k = sumK b k) : Fm b F := ⟨h.up, fun x => by rw [h.mem, e]⟩
theorem one_pack {b : Int} {ts : List Trm} : One (packT b ts) := fun x hx => by
  obtain ⟨t, _, rfl⟩ := List.mem_map.mp hx
  exact ⟨_, rfl⟩
theorem pack_app {b : Int} {x y : List Trm} : packT b (x ++ y) = packT b x ++ packT b y := by unfold packT; rw [List.map_append]
theorem keysI_getD {M : List Trm} (h : One M) {k z : Int} : (valV (keysI M) (.inl k : Key)).getD (.int z) = .int (match M.find? (fun m => decide (m.1 = [k])) with | some m => m.2 | none => z) := by
  rw [keysI_find h]
  cases M.find? (fun m => decide (m.1 = [k])) <;> rfl
def pr1 (t : Trm) (G : List Trm) : List Trm := G.map fun u => (addL t.1 u.1, t.2 * u.2)
theorem mul_take {F G : List Trm} {i : Nat} {t : Trm} (h : F[i]? = some t) : mulT (F.take (i + 1)) G = mulT (F.take i) G ++ pr1 t G := by
  unfold mulT
  rw [List.take_succ, h, Option.toList_some, List.flatMap_append, List.flatMap_cons, List.flatMap_nil, List.append_nil]
  rfl
theorem pr1_take {t : Trm} {G : List Trm} {j : Nat} {u : Trm} (h : G[j]? = some u) : pr1 t (G.take (j + 1)) = pr1 t (G.take j) ++ [(addL t.1 u.1, t.2 * u.2)] := by
  unfold pr1
  rw [List.take_succ, h, Option.toList_some, List.map_append]
  rfl
theorem fm_nil {F : List Trm} (h : Fm [] F) : F = [] := List.eq_nil_of_length_eq_zero (by have := h.len; simpa using this)
theorem nil_fm : Fm [] [] := ⟨.nil, fun x => ⟨fun h => (by cases h), fun ⟨h1, h2⟩ => absurd h2 h1⟩⟩
theorem lc_ints {K : PySem.W.Frag} {j : Nat} {tt : TT} {te : TE} {σ : St} {Q : VK} {l : Addr} {ns : List Int} {H : Hp} (R : Hp → V → Int → Prop) (mono : ∀ {H H' : Hp} {v : V} {t : Int}, Kt H H' → R H v t → R H' v t) (keep : Int → Bool) (hl : SqL K H l (ns.map V.int)) (few : ns.length ≤ 10000) (hσ : ∀ v, wipe ((wipe σ [j]).set j (some v)) [j] = wipe σ [j])
    (stT : ∀ (n : Int) (H' : Hp), n ∈ ns → Same H H' → ∀ S : Bool → Hp → Prop, (∀ H4, Same H' H4 → S (keep n) H4) → tt ((wipe σ [j]).set j (some (.int n))) H' S)
    (stE : ∀ (n : Int) (H' : Hp), n ∈ ns → Same H H' → ∀ S : VK, (∀ (v : V) (H4 : Hp), Same H' H4 → R H4 v n → S v H4) → te ((wipe σ [j]).set j (some (.int n))) H' S)
    (fin : ∀ (D : Addr) (vs : List V) (H' : Hp), Same H H' → H D = none → H' D = some (.lst vs) → Paired (R H') vs (ns.filter keep) → Q (.ref D) H') : lcL K (gName j) tt te [j] σ Q (.ref l) H := by
  refine ⟨l, rfl, ⟨_, hl⟩, fun D hD => ?_⟩
  refine lc_list (xs := ns.map V.int) (fun i H' => ∃ vs : List V, Same H H' ∧ H' D = some (.lst vs) ∧ vs.length ≤ i ∧ Paired (R H') vs ((ns.take i).filter keep)) ⟨[], same_new hD _, upd_same, Nat.le_refl _, by rw [List.take_zero]; exact .nil⟩ (fun i H' _ h => by obtain ⟨_, h, _⟩ := h; exact h.seq hl) ?_ ?_
  · rintro i x H' hx ⟨vs, g, d, lv, pr⟩
    rw [List.getElem?_map] at hx
    obtain ⟨n, hn, rfl⟩ := Option.map_eq_some_iff.mp hx
    have hi : i < ns.length := (List.getElem?_eq_some_iff.mp hn).1
    have hm := List.mem_of_getElem? hn
    have e1 : ns.take (i + 1) = ns.take i ++ [n] := by rw [List.take_succ, hn, Option.toList_some]
    refine ⟨hσ _, ?_⟩
    refine stT n H' hm g _ fun H3 g3 => ?_
    rw [e1, List.filter_append, List.filter_cons]
    cases hk : keep n with
    | false =>
      simp only [Bool.false_eq_true, if_false, List.filter_nil, List.append_nil]
      exact ⟨vs, g.trans g3, g3 _ _ d, by omega, Paired.mapP pr fun _ _ h => mono (Kt.same g3) h⟩
    | true =>
      simp only [if_true, List.filter_nil]
      refine stE n H3 hm (g.trans g3) _ fun v H4 g4 rv => ?_
      have d4 := g4 _ _ (g3 _ _ d)
      have kt : Kt H4 (upd H4 D (.lst (vs ++ [v]))) := Kt.lst d4
      exact ⟨_, d4, Nat.lt_of_le_of_lt (show vs.length ≤ 10000 by omega) (by decide), vs ++ [v], same_updS ((g.trans g3).trans g4) hD, upd_same, by simp; omega, paired_snoc' (mono kt rv) (Paired.mapP pr fun _ _ h => mono kt (mono (Kt.same (g3.trans g4)) h))⟩
  · rintro H' ⟨vs, g, d, _, pr⟩
    rw [List.length_map, List.take_length] at pr
    exact fin D vs H' g hD d pr
theorem tms_of {α : Type} {H : Hp} {f : α → Trm} : ∀ {vs : List V} {l : List α}, Paired (fun v k => Tm H v (f k)) vs l → Tms H vs (l.map f)
  | _, _, .nil => .nil
  | _, _, .cons h r => .cons h (tms_of r)
theorem r_lcR {ta : TA} {g : TG} {tt : TT} {te : TE} {vs : List Nat} {σ : St} {H : Hp} {Q : VK} (q : ta σ H fun xs H1 => ∃ j : Int, xs = [.int j] ∧ -(2 ^ 62) ≤ j ∧ j < 2 ^ 62 ∧ ∀ D, H1 D = none → ∃ W : Nat → Nat → Hp → Prop, (∃ m, W 0 m (upd H1 D (.lst []))) ∧ ∀ i m H, W i m H →
  ((Itr 0 j.toNat).stop i H ∧ Q (.ref D) H) ∨ ((Itr 0 j.toNat).go i H ∧ ∃ Nx : Hp → Prop, (∀ H', Nx H' → ∃ m', m' < m ∧ W (i + 1) m' H') ∧ ∀ x H', (Itr 0 j.toNat).yld i H x H' → g x (wipe σ vs) H' fun σ2 H2 => wipe σ2 vs = wipe σ vs ∧ tt σ2 H2 fun b H3 =>
    if b = true then te σ2 H3 fun y H4 => ∃ acc, H4 D = some (.lst acc) ∧ acc.length < sizeLine ∧ Nx (upd H4 D (.lst (acc ++ [y]))) else Nx H3)) : tLc (iRng1 ta) g tt te vs σ H Q := q
theorem r_forL {K : PySem.W.Frag} {tl : TE} {g : TG} {tb : TS} {D : Ends} {σ : St} {H : Hp} (q : tl σ H fun x H1 => ∃ a, x = .ref a ∧ (∃ xs, SqL K H1 a xs) ∧ ∃ W : Nat → Nat → St → Hp → Prop, (∃ m, W 0 m σ H1) ∧ ∀ i m σ H, W i m σ H →
    ((Itl K a).stop i H ∧ D.nx σ H) ∨ ((Itl K a).go i H ∧ ∃ N : St → Hp → Prop, (∀ σ' H', N σ' H' → ∃ m', m' < m ∧ W (i + 1) m' σ' H') ∧ ∀ x H', (Itl K a).yld i H x H' → g x σ H' fun σ2 H2 => tb { D with nx := N, ct := N, bk := D.nx } σ2 H2)) : tFor (iList K tl) g tb D σ H := q
theorem lc_termsL {K : PySem.W.Frag} {i j : Nat} {te : TE} {σ : St} {Q : VK} {f : Addr} {us : List V} {F : List Trm} {H : Hp} (R : Hp → V → Trm → Prop) (mono : ∀ {H H' : Hp} {v : V} {t : Trm}, Kt H H' → R H v t → R H' v t) (hf : SqL K H f us) (tm : Tms H us F) (few : F.length ≤ 10000)
    (hσ : ∀ u v, wipe (((wipe σ [i, j]).set i (some u)).set j (some v)) [i, j] = wipe σ [i, j])
    (stE : ∀ (t : Trm) (q : Addr) (H' : Hp), t ∈ F → Same H H' → Pw H' q t.1 → ∀ S : VK, (∀ (v : V) (H4 : Hp), Same H' H4 → R H4 v t → S v H4) → te (((wipe σ [i, j]).set i (some (.ref q))).set j (some (.int t.2))) H' S)
    (fin : ∀ (D : Addr) (vs : List V) (H' : Hp), Same H H' → H D = none → H' D = some (.lst vs) → Paired (R H') vs F → Q (.ref D) H') : lcL K (gTup K 2 (gCons (gName i) (gCons (gName j) gNil))) tYes te [i, j] σ Q (.ref f) H := by
  refine ⟨f, rfl, ⟨_, hf⟩, fun D hD => ?_⟩
  have ln : us.length = F.length := Paired.length tm
  refine lc_list (xs := us) (fun n H' => ∃ vs : List V, Same H H' ∧ H' D = some (.lst vs) ∧ vs.length = n ∧ Paired (R H') vs (F.take n)) ⟨[], same_new hD _, upd_same, rfl, by rw [List.take_zero]; exact .nil⟩ (fun n H' _ h => by obtain ⟨_, h, _⟩ := h; exact h.seq hf) ?_ ?_
  · rintro n x H' hx ⟨vs, g, d, lv, pr⟩
    obtain ⟨t, ht, a, q, rfl, ta, pw⟩ := tm.at hx
    have hm := List.mem_of_getElem? ht
    have hn : n < F.length := (List.getElem?_eq_some_iff.mp ht).1
    have e1 : F.take (n + 1) = F.take n ++ [t] := by rw [List.take_succ, ht, Option.toList_some]
    refine r_gT (tupOf (g _ _ ta)) rfl ?_
    refine r_g2 ?_
    refine ⟨hσ _ _, ?_⟩
    refine r_yes ?_
    rw [if_pos rfl]
    refine stE t q H' hm g (g _ _ pw) _ fun v H4 g4 rv => ?_
    have d4 := g4 _ _ d
    have kt : Kt H4 (upd H4 D (.lst (vs ++ [v]))) := Kt.lst d4
    refine ⟨_, d4, Nat.lt_of_le_of_lt (show vs.length ≤ 10000 by omega) (by decide), vs ++ [v], same_updS (g.trans g4) hD, upd_same, by simp [lv], ?_⟩
    rw [e1]
    exact paired_snoc' (mono kt rv) (Paired.mapP pr fun _ _ h => mono kt (mono (Kt.same g4) h))
  · rintro H' ⟨vs, g, d, lv, pr⟩
    rw [ln, List.take_length] at pr
    exact fin D vs H' g hD d pr
theorem paired_take {α β : Type} {R : α → β → Prop} : ∀ {xs : List α} {ys : List β} (n : Nat), Paired R xs ys → Paired R (xs.take n) (ys.take n)
  | _, _, 0, _ => by rw [List.take_zero, List.take_zero]; exact .nil
  | _, _, _ + 1, .nil => .nil
  | _, _, n + 1, .cons h r => .cons h (paired_take n r)
theorem paired_drop {α β : Type} {R : α → β → Prop} : ∀ {xs : List α} {ys : List β} (n : Nat), Paired R xs ys → Paired R (xs.drop n) (ys.drop n)
  | _, _, 0, h => h
  | _, _, _ + 1, .nil => .nil
  | _, _, n + 1, .cons _ r => paired_drop n r
/-- a part of the terms -/
theorem tms_cut {H : Hp} {us : List V} {F : List Trm} (h : Tms H us F) (lo hi : Option Int) : ∃ G, Tms H (cutV us lo hi) G ∧ (∀ x ∈ G, x ∈ F) ∧ G.length ≤ F.length := by
  refine ⟨(F.drop _).take _, paired_take _ (paired_drop _ h), fun x hx => List.mem_of_mem_drop (List.mem_of_mem_take hx), ?_⟩
  rw [List.length_take, List.length_drop]
  omega
theorem addL_comm : ∀ xs ys : List Int, addL xs ys = addL ys xs
  | [], [] => rfl
  | [], _ :: _ => rfl
  | _ :: _, [] => rfl
  | x :: xs, y :: ys => by
    show (x + y) :: addL xs ys = (y + x) :: addL ys xs
    rw [addL_comm xs ys, Int.add_comm]
theorem mul_cons {t : Trm} {F G : List Trm} : mulT (t :: F) G = pr1 t G ++ mulT F G := rfl
theorem sum_mulR {t : Trm} {F : List Trm} {k : List Int} : ∀ G : List Trm, sumK (mulT G (t :: F)) k = sumK (pr1 t G) k + sumK (mulT G F) k
  | [] => rfl
  | u :: G => by
    rw [mul_cons, mul_cons, sumK_app, sumK_app, sum_mulR G]
    show sumK ((addL u.1 t.1, u.2 * t.2) :: pr1 u F) k + _ = sumK ((addL t.1 u.1, t.2 * u.2) :: pr1 t G) k + _
    rw [sumK_cons, sumK_cons, addL_comm u.1, Int.mul_comm u.2]
    omega
theorem mul_comm {k : List Int} : ∀ F G : List Trm, sumK (mulT F G) k = sumK (mulT G F) k
  | [], G => by
    have : mulT G [] = [] := List.eq_nil_of_length_eq_zero (by rw [mul_len]; rfl)
    rw [this]
    rfl
  | t :: F, G => by
    rw [mul_cons, sumK_app, sum_mulR, mul_comm F G]
theorem fm_zero {ts R : List Trm} (h : Fm ts R) (z : ∀ k, sumK ts k = 0) : R = [] := by
  cases R with
  | nil => rfl
  | cons x r =>
    obtain ⟨h1, h2⟩ := (h.mem x).mp List.mem_cons_self
    rw [z] at h2
    exact absurd h2 h1
def spOther70 (K : PySem.W.Frag) : Sp := fun vs H Q _ => ∃ (p f : Addr) (m : Nat) (F : List Trm) (b : Int), vs = [.ref p, .int (m : Int), .ref f] ∧ Pl H p b ∧ b ≤ 1700000 ∧ m ≤ 7 ∧ FmAt H f F ∧ Fm F F ∧ OkT m 12 F ∧ F.length ≤ 60 ∧ (∀ t ∈ F, Sm 200 t.2) ∧
  ∀ (g : Addr) (G : List Trm) (H' : Hp), But p H H' → FmAt H' g G → Fm G G → OkT m 12 G → G.length ≤ 61 → (∀ t ∈ G, Sm 210 t.2) → Q (.ref g) H'
theorem fm_fm {ts F : List Trm} (h : Fm ts F) : Fm F F := fm_self h.up fun x hx => ((h.mem x).mp hx).1
end Mb
namespace Mb
open PySem L2
/-! ### names out of a row -/
theorem lc_things {K : PySem.W.Frag} {i j : Nat} {tt : TT} {te : TE} {σ : St} {Q : VK} {l : Addr} {us : List V} {ts : List Thing} {H : Hp} (keep : Thing → Bool) (val : Thing → V) (hl : SqL K H l us) (rw_ : Rws K H us ts) (few : us.length ≤ 1000)
    (hσ : ∀ u v, wipe (((wipe σ [i, j]).set i (some u)).set j (some v)) [i, j] = wipe σ [i, j])
    (stT : ∀ (n : Nat) (t : Thing) (m : Addr) (H' : Hp), ts[n]? = some t → Same H H' → Mk K H' m t.2.1 t.2.2 → ∀ R : Bool → Hp → Prop, (∀ H4, Same H' H4 → R (keep t) H4) → tt (((wipe σ [i, j]).set i (some (.str t.1))).set j (some (.ref m))) H' R)
    (stE : ∀ (n : Nat) (t : Thing) (m : Addr) (H' : Hp), ts[n]? = some t → Same H H' → Mk K H' m t.2.1 t.2.2 → ∀ R : VK, (∀ H4, Same H' H4 → R (val t) H4) → te (((wipe σ [i, j]).set i (some (.str t.1))).set j (some (.ref m))) H' R)
    (fin : ∀ (D : Addr) (H' : Hp), Same H H' → H D = none → H' D = some (.lst ((ts.filter keep).map val)) → Q (.ref D) H') : lcL K (gTup K 2 (gCons (gName i) (gCons (gName j) gNil))) tt te [i, j] σ Q (.ref l) H := by
  refine ⟨l, rfl, ⟨_, hl⟩, fun D hD => ?_⟩
  have ln := rw_.len
  refine lc_list (xs := us) (fun n H' => Same H H' ∧ H' D = some (.lst (((ts.take n).filter keep).map val))) ⟨same_new hD _, by rw [List.take_zero]; exact upd_same⟩ (fun n H' _ h => h.1.seq hl) ?_ ?_
  · rintro n v H' hv ⟨g, d⟩
    obtain ⟨t, ht, a, m, rfl, ta, mk⟩ := rw_.at hv
    have hi : n < ts.length := (List.getElem?_eq_some_iff.mp ht).1
    have e1 : ts.take (n + 1) = ts.take n ++ [t] := by rw [List.take_succ, ht, Option.toList_some]
    refine r_gT (g.tp ta) rfl ?_
    refine r_g2 ?_
    refine ⟨hσ _ _, ?_⟩
    refine stT n t m H' ht g (mk.kp (Kp.same g)) _ fun H3 g3 => ?_
    cases hk : keep t with
    | false =>
      rw [if_neg (by simp)]
      refine ⟨g.trans g3, ?_⟩
      rw [e1, List.filter_append, List.filter_cons, hk]
      simpa using g3 _ _ d
    | true =>
      rw [if_pos rfl]
      refine stE n t m H3 ht (g.trans g3) ((mk.kp (Kp.same g)).kp (Kp.same g3)) _ fun H4 g4 => ?_
      refine ⟨_, g4 _ _ (g3 _ _ d), ?_, same_updS ((g.trans g3).trans g4) hD, ?_⟩
      · rw [List.length_map]
        have := List.length_filter_le keep (ts.take n)
        rw [List.length_take] at this
        exact Nat.lt_of_le_of_lt this (Nat.lt_of_lt_of_le (show min n ts.length < 1001 by omega) (by decide))
      · rw [e1, List.filter_append, List.map_append, List.filter_cons, hk]
        simp only [if_true, List.filter_nil, List.map_cons, List.map_nil]
        exact upd_same
  · rintro H' ⟨g, d⟩
    rw [ln, List.take_length] at d
    exact fin D H' g hD d
def nmsT (ts : List Thing) : List Str := ts.map (·.1)
/-- a name that the row has: nothing; else NoThing with it -/
def spMissing (K : PySem.W.Frag) (C : Addr) : Sp := fun vs H Q E => ∃ (l : Addr) (z : Str) (us : List V) (ts : List Thing), vs = [.ref l, .str z] ∧ SqL K H l us ∧ Rws K H us ts ∧ ts.length ≤ 60 ∧ z.length ≤ 1000 ∧
  (z ∈ nmsT ts → ∀ H', Same H H' → Q .non H') ∧ (z ∉ nmsT ts → ∀ (d : Addr) (fs : List (Str × V)) (H' : Hp), Same H H' → H' d = some (.xd fs) → fs.lookup ("name" : Str) = some (V.str z) → E (.ref C) (some d) H')
/-- __init__(self, v) as a raiser takes it -/
def spInitR (C : Addr) (f : Str) (ok : V → Prop) : Sp := fun vs H Q _ => ∃ (a : Addr) (v : V), vs = [.ref a, v] ∧ ok v ∧ H a = some (exo a C none) ∧ ∀ (wd dx : Addr) (H' : Hp), H dx = none → dx ≠ a → But a H H' → H' a = some (exo a C (some dx)) → H' dx = some (exd dx [(f, v), ("words", .ref wd)]) → Q .non H'
theorem r_notIn {K : PySem.W.Frag} {H : Hp} {Q : VK} {a : Addr} {z : Str} {zs : List Str} (h : SqL K H a (zs.map V.str)) (q : Q (.bl (!decide (z ∈ zs))) H) : rIn K true (.str z) (.ref a) H Q :=
  ⟨a, _, rfl, .inl h, rfl, by rw [List.all_map]; exact List.all_eq_true.mpr (fun _ _ => rfl), by rw [inV_str]; exact q⟩
theorem r_mkO {C : Addr} {sp : Sp} {ta : TA} {σ : St} {H : Hp} {Q : XK} (q : ta σ H fun vs H1 => vs.length ≤ 1000 ∧ ∀ a, H1 a = none → sp (.ref a :: (vs ++ [])) (upd H1 a (exo a C none)) (fun v H2 => v = .non ∧ ∃ (d : Addr) (fs : List (Str × V)), H2 a = some (exo a C (some d)) ∧ H2 d = some (exd d fs) ∧ H1 d = none ∧ Q (.ref C) (some d) (upd (del H2 a) d (.xd fs))) (fun _ _ _ => False)) : tMkO C sp [] ta σ H Q := q
/-! ### a dict as a set of names -/
def setD (F : List Str) : List (Key × V) := F.map fun k => (.inr k, .bl true)
def addF (F : List Str) (g : Str) : List Str := if g ∈ F then F else F ++ [g]
theorem any_set {F : List Str} {g : Str} : ((setD F).any fun kv => decide (kv.1 = (.inr g : Key))) = decide (g ∈ F) := by
  unfold setD
  rw [List.any_map]
  induction F with
  | nil => rfl
  | cons a r ih =>
    rw [List.any_cons, ih]
    by_cases h : a = g
    · subst h; simp
    · have h1 : ¬ ((.inr a : Key) = .inr g) := fun e => h (Sum.inr.inj e)
      have h2 : ¬ g = a := fun e => h e.symm
      simp [h1, h2]
theorem put_set {F : List Str} {g : Str} : putK (setD F) (.inr g) (.bl true) = setD (addF F g) := by
  unfold putK addF
  rw [any_set]
  by_cases h : g ∈ F
  · rw [if_pos (by simpa using h), if_pos h]
    unfold setD
    rw [List.map_map]
    refine List.map_congr_left fun k _ => ?_
    show (if (.inr k : Key) = .inr g then ((.inr k : Key), V.bl true) else (.inr k, .bl true)) = _
    split <;> rfl
  · rw [if_neg (by simpa using h), if_neg h]
    unfold setD
    rw [List.map_append]
    rfl
theorem get_set {H : Hp} {D : Addr} {F : List Str} {z : Str} (h : H D = some (.dK (setD F))) : ∃ o, DGet H D (.str z) o ∧ o.isSome = decide (z ∈ F) := by
  refine ⟨_, DGet.k (k := .inr z) h, ?_⟩
  rw [← valV_any, any_set]
theorem addF_len {F : List Str} {g : Str} : (addF F g).length ≤ F.length + 1 := by
  unfold addF
  split
  · omega
  · simp
theorem addsF_len : ∀ (ns F : List Str), (ns.foldl addF F).length ≤ F.length + ns.length
  | [], _ => Nat.le_refl _
  | n :: r, F => by
    have h1 := addsF_len r (addF F n)
    have h2 := addF_len (F := F) (g := n)
    simp only [List.foldl_cons, List.length_cons]
    omega
def stepF (F : List Str) (t : Thing) : List Str := if t.1 ∈ F then t.2.2.foldl addF F else F
/-- the name and all that it hangs on, found from the row's end -/
def closeF (z : Str) (ts : List Thing) : List Str := ts.reverse.foldl stepF [z]
def keepB (z : Str) (F : List Str) (t : Thing) : Bool := decide (t.1 ∈ F) && !decide (t.1 = z)
def benOf (z : Str) (ts : List Thing) : List Str := (ts.filter (keepB z (closeF z ts))).map (·.1)
def spBeneath (K : PySem.W.Frag) (C : Addr) : Sp := fun vs H Q E => ∃ (l : Addr) (z : Str) (us : List V) (ts : List Thing), vs = [.ref l, .str z] ∧ SqL K H l us ∧ Rws K H us ts ∧ Vr [] ts ∧ ts.length ≤ 60 ∧ z.length ≤ 1000 ∧
  (z ∈ nmsT ts → ∀ (D : Addr) (H' : Hp), Same H H' → H D = none → H' D = some (.lst ((benOf z ts).map V.str)) → Q (.ref D) H') ∧ (z ∉ nmsT ts → ∀ (d : Addr) (fs : List (Str × V)) (H' : Hp), Same H H' → H' d = some (.xd fs) → fs.lookup ("name" : Str) = some (V.str z) → E (.ref C) (some d) H')
theorem Vr.okm {ts : List Thing} {i : Nat} {t : Thing} (h : Vr [] ts) (hi : ts[i]? = some t) : ∃ (s : Str) (g : List Str), (t.2.1, s, g) ∈ wordsTab ∧ t.2.2.length = g.length := (h.at hi).2.2.1.1
theorem four {x s : Str} {g : List Str} (h : (x, s, g) ∈ wordsTab) : g.length ≤ 4 := by
  have all : ∀ q ∈ wordsTab, q.2.2.length ≤ 4 := by decide +kernel
  exact all _ h
theorem r_din {ty td : TE} {σ : St} {H : Hp} {Q : VK} (q : ty σ H fun y H1 => td σ H1 fun x H2 => ∃ a o, x = .ref a ∧ DGet H2 a y o ∧ Q (.bl o.isSome) H2) : tDIn ty td σ H Q := q
theorem step_in {F : List Str} {t : Thing} (h : t.1 ∈ F) : stepF F t = t.2.2.foldl addF F := if_pos h
theorem step_out {F : List Str} {t : Thing} (h : t.1 ∉ F) : stepF F t = F := if_neg h
/-- things made anew as pairs -/
theorem lc_made {K : PySem.W.Frag} {i j : Nat} {tt : TT} {te : TE} {σ : St} {Q : VK} {l : Addr} {us : List V} {ts : List Thing} {H : Hp} (keep : Thing → Bool) (hl : SqL K H l us) (rw_ : Rws K H us ts) (few : us.length ≤ 1000)
    (hσ : ∀ u v, wipe (((wipe σ [i, j]).set i (some u)).set j (some v)) [i, j] = wipe σ [i, j])
    (stT : ∀ (n : Nat) (t : Thing) (m : Addr) (H' : Hp), ts[n]? = some t → Same H H' → Mk K H' m t.2.1 t.2.2 → ∀ R : Bool → Hp → Prop, (∀ H4, Same H' H4 → R (keep t) H4) → tt (((wipe σ [i, j]).set i (some (.str t.1))).set j (some (.ref m))) H' R)
    (stE : ∀ (n : Nat) (t : Thing) (m : Addr) (H' : Hp), ts[n]? = some t → Same H H' → Mk K H' m t.2.1 t.2.2 → ∀ R : VK, (∀ a H4, Same H' H4 → SqT K H4 a [.str t.1, .ref m] → R (.ref a) H4) → te (((wipe σ [i, j]).set i (some (.str t.1))).set j (some (.ref m))) H' R)
    (fin : ∀ (D : Addr) (vs : List V) (H' : Hp), Same H H' → H D = none → H' D = some (.lst vs) → Rws K H' vs (ts.filter keep) → Q (.ref D) H') : lcL K (gTup K 2 (gCons (gName i) (gCons (gName j) gNil))) tt te [i, j] σ Q (.ref l) H := by
  refine ⟨l, rfl, ⟨_, hl⟩, fun D hD => ?_⟩
  have ln := rw_.len
  refine lc_list (xs := us) (fun n H' => ∃ vs : List V, Same H H' ∧ H' D = some (.lst vs) ∧ Rws K H' vs ((ts.take n).filter keep)) ⟨[], same_new hD _, upd_same, by rw [List.take_zero]; exact .nil⟩ (fun n H' _ h => by obtain ⟨_, h, _⟩ := h; exact h.seq hl) ?_ ?_
  · rintro n v H' hv ⟨vs, g, d, rv⟩
    obtain ⟨t, ht, a, m, rfl, ta, mk⟩ := rw_.at hv
    have hi : n < ts.length := (List.getElem?_eq_some_iff.mp ht).1
    have e1 : ts.take (n + 1) = ts.take n ++ [t] := by rw [List.take_succ, ht, Option.toList_some]
    have lv := rv.len
    refine r_gT (g.tp ta) rfl ?_
    refine r_g2 ?_
    refine ⟨hσ _ _, ?_⟩
    replace mk := mk.kp (Kp.same g)
    refine stT n t m H' ht g mk _ fun H3 g3 => ?_
    cases hk : keep t with
    | false =>
      rw [if_neg (by simp)]
      refine ⟨vs, g.trans g3, g3 _ _ d, ?_⟩
      rw [e1, List.filter_append, List.filter_cons, hk]
      simpa using rv.kp (Kp.same g3)
    | true =>
      rw [if_pos rfl]
      replace mk := mk.kp (Kp.same g3)
      refine stE n t m H3 ht (g.trans g3) mk _ fun b H4 g4 tb => ?_
      have d4 := g4 _ _ (g3 _ _ d)
      have kp : Kp K H4 (upd H4 D (.lst (vs ++ [.ref b]))) := kp_list d4
      refine ⟨_, d4, ?_, vs ++ [.ref b], same_updS ((g.trans g3).trans g4) hD, upd_same, ?_⟩
      · have := List.length_filter_le keep (ts.take n)
        rw [List.length_take] at this
        exact Nat.lt_of_le_of_lt (show vs.length ≤ 1000 by omega) (by decide)
      · rw [e1, List.filter_append, List.filter_cons, hk]
        simp only [if_true, List.filter_nil]
        exact rws_snoc (((rv.kp (Kp.same g3)).kp (Kp.same g4)).kp kp) ⟨b, m, rfl, kp _ _ tb, (mk.kp (Kp.same g4)).kp kp⟩
  · rintro H' ⟨vs, g, d, rv⟩
    rw [ln, List.take_length] at rv
    exact fin D vs H' g hD d rv
def freeB (t : Thing) : Bool := decide (t.2.1 = "free")
def spFrees (K : PySem.W.Frag) : Sp := fun vs H Q _ => ∃ (l : Addr) (us : List V) (ts : List Thing), vs = [.ref l] ∧ SqL K H l us ∧ Rws K H us ts ∧ us.length ≤ 1000 ∧ ∀ (D : Addr) (H' : Hp), Same H H' → H D = none → H' D = some (.lst (((ts.filter freeB).map (·.1)).map V.str)) → Q (.ref D) H'
/-- the name and what it hangs on, as a row -/
def rootB (z : Str) (ts : List Thing) (t : Thing) : Bool := decide (t.1 ∈ benOf z ts ++ [z])
def spRooted (K : PySem.W.Frag) (C : Addr) : Sp := fun vs H Q E => ∃ (l : Addr) (z : Str) (us : List V) (ts : List Thing), vs = [.ref l, .str z] ∧ SqL K H l us ∧ Rws K H us ts ∧ Vr [] ts ∧ ts.length ≤ 60 ∧ z.length ≤ 1000 ∧
  (z ∈ nmsT ts → ∀ (D : Addr) (vs : List V) (H' : Hp), Same H H' → H D = none → H' D = some (.lst vs) → Rws K H' vs (ts.filter (rootB z ts)) → Q (.ref D) H') ∧ (z ∉ nmsT ts → ∀ (d : Addr) (fs : List (Str × V)) (H' : Hp), Same H H' → H' d = some (.xd fs) → fs.lookup ("name" : Str) = some (V.str z) → E (.ref C) (some d) H')
def freeOf (z : Str) (ts : List Thing) : List Str := ((ts.filter (rootB z ts)).filter freeB).map (·.1)
def spFreePoints (K : PySem.W.Frag) (C : Addr) : Sp := fun vs H Q E => ∃ (l : Addr) (z : Str) (us : List V) (ts : List Thing), vs = [.ref l, .str z] ∧ SqL K H l us ∧ Rws K H us ts ∧ Vr [] ts ∧ ts.length ≤ 60 ∧ z.length ≤ 1000 ∧
  (z ∈ nmsT ts → ∀ (D : Addr) (H' : Hp), Same H H' → H D = none → H' D = some (.lst ((freeOf z ts).map V.str)) → Q (.ref D) H') ∧ (z ∉ nmsT ts → ∀ (d : Addr) (fs : List (Str × V)) (H' : Hp), Same H H' → H' d = some (.xd fs) → fs.lookup ("name" : Str) = some (V.str z) → E (.ref C) (some d) H')
theorem r_in2 {K : PySem.W.Frag} {H : Hp} {Q : VK} {a : Addr} {z : Str} {zs : List Str} (h : SqL K H a (zs.map V.str)) (q : Q (.bl (decide (z ∈ zs))) H) : rIn K false (.str z) (.ref a) H Q := r_inSL h q
/-! ### the law's own part of a row: taken at its time, from the row's end -/
def takeF : List Str → List Thing → List Thing
  | _, [] => []
  | F, t :: r => if t.1 ∈ F then t :: takeF (t.2.2.foldl addF F) r else takeF F r
theorem takeF_snoc : ∀ (a : List Thing) (F : List Str) (t : Thing), takeF F (a ++ [t]) = takeF F a ++ (if t.1 ∈ a.foldl stepF F then [t] else [])
  | [], F, t => by
    show takeF F [t] = [] ++ _
    unfold takeF
    by_cases h : t.1 ∈ F
    · rw [if_pos h, if_pos (show t.1 ∈ [].foldl stepF F from h)]
      rfl
    · rw [if_neg h, if_neg (show ¬ t.1 ∈ [].foldl stepF F from h)]
      rfl
  | u :: r, F, t => by
    rw [List.cons_append]
    unfold takeF
    rw [List.foldl_cons]
    by_cases h : u.1 ∈ F
    · rw [if_pos h, if_pos h, takeF_snoc r, step_in h]
      rfl
    · rw [if_neg h, if_neg h, takeF_snoc r, step_out h]
theorem takeF_len : ∀ (a : List Thing) (F : List Str), (takeF F a).length ≤ a.length
  | [], _ => by simp [takeF]
  | u :: r, F => by
    unfold takeF
    have h1 := takeF_len r (u.2.2.foldl addF F)
    have h2 := takeF_len r F
    split
    · simp only [List.length_cons]; omega
    · simp only [List.length_cons]; omega
theorem rws_rev {K : PySem.W.Frag} {H : Hp} : ∀ {us : List V} {ts : List Thing}, Rws K H us ts → Rws K H us.reverse ts.reverse
  | _, _, .nil => .nil
  | _, _, .cons h r => by
    rw [List.reverse_cons, List.reverse_cons]
    exact rws_snoc (rws_rev r) h
def partOf (z : Str) (ts : List Thing) : List Thing := (takeF [z] ts.reverse).reverse
def spPart (K : PySem.W.Frag) : Sp := fun vs H Q _ => ∃ (l : Addr) (z : Str) (us : List V) (ts : List Thing), vs = [.ref l, .str z] ∧ SqL K H l us ∧ Rws K H us ts ∧ Vr [] ts ∧ ts.length ≤ 60 ∧ ∀ (D : Addr) (vs : List V) (H' : Hp), Same H H' → H D = none → H' D = some (.lst vs) → Rws K H' vs (partOf z ts) → Q (.ref D) H'
theorem r_revL {K : PySem.W.Frag} {te : TE} {σ : St} {H : Hp} {Q : VK} (q : te σ H fun x H1 => ∃ a xs, x = .ref a ∧ SqL K H1 a xs ∧ ∀ p, H1 p = none → Q (.ref p) (upd H1 p (.lst xs.reverse))) : tRevL K te σ H Q := q
end Mb
namespace Mb
open PySem PySem.Spec PyProof.Rows L2
/-! ### list(d.values()), d.setdefault(k, x) of a dict with tuple keys -/
section
variable {prog : Program} {w : World} {d r : Addr} {es : Array DictEntry} {ep : Nat}
theorem kdl_valuesRaw : PySem.W.KdlSrc prog w "dict_values" r d es.size (fun i v => ∃ hi : i < es.size, v = es[i].val) (fun h => h.IsValuesView r d ∧ h.DictRaw d es ep) where
  type := fun _ hm => hm.1.typeIs
  there := fun _ hm => ⟨let ⟨_, ho, _⟩ := hm.1; Heap.lt_size ho, let ⟨_, ho, _⟩ := hm.2; Heap.lt_size ho⟩
  keep := fun _ _ hm hk => ⟨let ⟨o, ho, x⟩ := hm.1; ⟨o, hk r (.inl rfl) o ho, x⟩, hm.2.at fun o e => hk d (.inr rfl) o e⟩
  notList := by decide
  notTuple := by decide
  hint := fun _ _ _ _ hm hq => PySem.W.kdl_hint_values hm.1.typeIs hq
  iter := fun _ s hh hm => ⟨_, _, (fun _ _ hq => wpAny_pyIter_values_raw hm.1 hm.2 hq), Walks.rawValues hh s.heap.objs.size d (Nat.ne_of_lt (let ⟨_, ho, _⟩ := hm.2; Heap.lt_size ho)) es ep, ⟨⟨_, Heap.get?_push_size _ rfl, rfl, rfl⟩, hm.2.at fun o e => Heap.get?_push_of_some _ e⟩⟩
end
def rValsT : V → Hp → VK → Prop := fun x H Q => ∃ (d : Addr) (kvs : List (List Key × V)), x = .ref d ∧ H d = some (.dT kvs) ∧ ∀ p, H p = none → Q (.ref p) (upd H p (.lst (kvs.map (·.2))))
def tListValsT (te : TE) : TE := fun σ H Q => te σ H fun x H1 => rValsT x H1 Q
section
variable {X : Cx} {e : Expr} {te : TE} {p apos cpos pos : Pos}
theorem pe_listValsT (hc : X.calm = true) (he : PE X e te) (hg : Gl X "list") (hm : X.mg "list" = none) (hv : bootBuiltins "list" = some (.type "list")) (hbase : attributeBase e "values" X.env (eval e X.env) = eval e X.env := by rfl) (hline : (apos.endLine == cpos.line) = true := by rfl)
    (hs : starEach [.Call (.Attribute e "values" apos) [] [] cpos] X.env = (false, eval (.Call (.Attribute e "values" apos) [] [] cpos) X.env) :: starEach [] X.env := by rfl) :
    PE X (.Call (.Name "list" p) [.Call (.Attribute e "values" apos) [] [] cpos] [] pos) (tListValsT te) := by
  refine ⟨fun pins s σ H Q I hq => ?_⟩
  refine wpAny_Call_Name_kw (ld_blt I hg hm hv ?_)
  refine PyProof.Rows.callWith_type1 ?_ hs rfl
  rw [hs]
  show wpAny _ _ (spliced ((false, eval (.Call (.Attribute e "values" apos) [] [] cpos) X.env) :: backTo pos (starEach [] X.env))) _ _ s
  refine Calls.spliced_cons ?_
  refine wpAny_Call_method (T := "dict") (id := "dict.values") hbase rfl hline F.plainAttrs_dict F.slot_dict_values F.type_dict_values (thn (he.run pins s σ H _ I hq) fun u s1 ⟨x, H1, I1, rx, d, kvs, ex, hd, q⟩ => ?_)
  subst ex
  obtain rfl : u = Value.ref d := rx
  obtain ⟨hz, hs0, vs, kv, hdo⟩ := dt_of I1.hok hd
  obtain ⟨es, ep, hraw, hsz, hes⟩ := hdo.raw
  have lk : kvs.length = vs.length := Paired.length kv
  have I2 : Inv X pins σ H1 { s1 with heap := s1.heap.push { cls := .type "dict_values", data := .fields #[.ref d] } } := I1.kept (t' := s1.toks) fun b ob q => Heap.get?_push_of_some _ q
  refine ⟨hraw.typeIs, fun b q => ?_, ?_⟩
  · cases q
    obtain ⟨ob, h1, h2, _⟩ := hraw
    exact ⟨ob, h1, h2.2.1⟩
  show wpAny _ _ (callWith cpos (.builtin "dict.values") [.ref d] [] []) _ X.xe s1
  refine method_meetsIn F.slot_dict_values F.entry_dict_values rfl (PySem.evalArgs_none ⟨rfl, hraw.typeIs, F.args_dict_values_1 _, _, meets_dict_values_raw d hs0, ⟨es, ep, hraw⟩, ?_⟩)
  refine Calls.spliced_nil ?_
  refine PySem.W.kdl_call (kdl_valuesRaw (d := d) (es := es) (ep := ep)) (I1.ok.hd hc) ⟨⟨_, Heap.get?_push_size _ rfl, rfl, rfl⟩, hraw.at fun o e => Heap.get?_push_of_some _ e⟩ (by rw [hsz, ← lk]; exact hz) fun h' tk acc' c' hkeep hS hacc => ?_
  refine ⟨.ref _, upd H1 _ (.lst (kvs.map (·.2))), I2.laid hkeep (Nat.le_refl _) (show ObjOk X.prog X.w _ _ _ (.lst (kvs.map (·.2))) from ⟨?_, acc'.toList, c', ?_, ?_⟩), rfl, q _ (I2.hok.fresh (Nat.le_refl _))⟩
  · rw [List.length_map]; exact hz
  · have el : acc'.toList.length = acc'.size := by simp
    refine vals_of_at (by rw [List.length_map, el, hacc.1, hsz, lk]) fun j x w h1 h2 => ?_
    obtain ⟨hi, hky⟩ := hacc.2 j w (by rw [← Array.getElem?_toList]; exact h2)
    obtain ⟨y, y1, _, y3, _⟩ := hes j hi
    obtain ⟨pk, g1, g2⟩ : ∃ pk, kvs[j]? = some pk ∧ x = pk.2 := by
      rw [List.getElem?_map] at h1
      cases hj : kvs[j]? with
      | none => rw [hj] at h1; cases h1
      | some pk =>
        rw [hj] at h1
        exact ⟨pk, rfl, (Option.some.inj h1).symm⟩
    obtain ⟨qv, f1, f2, f3, f4⟩ := LiI.paired_get kv g1
    rw [y1] at f1
    cases f1
    rw [g2, hky, y3]
    exact f4
  · rw [Array.toArray_toList]; exact hS
theorem r_lvT {te : TE} {σ : L2.St} {H : Hp} {Q : VK} (q : te σ H fun x H1 => rValsT x H1 Q) : tListValsT te σ H Q := q
end
/-- d.setdefault(y, z) -/
def tDSetdT (td ty tx : TE) : TE := fun σ H Q => td σ H fun x H1 => ∃ a, x = .ref a ∧ IsD H1 a ∧ ty σ H1 fun y H2 => tx σ H2 fun z H3 => ∃ (kvs : List (List Key × V)) (k : List Key) (b : Addr), H3 a = some (.dT kvs) ∧ y = .ref b ∧ H3 b = some (.tup (k.map kV)) ∧ kvs.length < sizeLine ∧
  (∀ v, valV kvs k = some v → Q v H3) ∧ (valV kvs k = none → Q z (upd H3 a (.dT (putK kvs k z))))
section
variable {X : Cx} {pins : List (Addr × Obj)} {σ : L2.St} {H : Hp} {s : Shared} {a b : Addr} {r : Value} {d : V} {k : List Key} {A : Around} {E : Value → Shared → Prop}
theorem d_setdT {kvs : List (List Key × V)} {Q : Value → Shared → Prop} (hu : A.units + 1 < cLine) (I : Inv X pins σ H s) (e : H a = some (.dT kvs)) (eb : H b = some (.tup (k.map kV))) (rd : RelV d r) (hl : kvs.length < sizeLine)
    (h1 : ∀ v, valV kvs k = some v → ∀ (w' : Value) (s' : Shared), Inv X pins σ H s' → RelV v w' → Q w' s') (h2 : valV kvs k = none → ∀ (w' : Value) (s' : Shared), Inv X pins σ (upd H a (.dT (putK kvs k d))) s' → RelV d w' → Q w' s') :
    wpAny (model X.prog X.w) A (call (.builtin "dict.setdefault") [.ref a, .ref b, r]) Q E s := by
  obtain ⟨z, hd, xs, rel, dd⟩ := dt_of I.hok e
  have hz : xs.length ≤ sizeLine := by
    rw [← Paired.length rel]
    exact z
  refine call_setdefault_heap (hsz := hz) (tupleKind_room_in1 hu) (key_of I.hok eb) hd dd (fun p hp => ?_) fun hn h' dd' hs => ?_
  · have q := rel.val k
    rw [hp] at q
    cases q0 : valV kvs k with
    | none =>
      rw [q0] at q
      exact (show False from q).elim
    | some v0 =>
      rw [q0] at q
      exact h1 v0 q0 _ _ (I.tok _) q
  · have q := rel.val k
    rw [hn] at q
    cases q0 : valV kvs k with
    | some v0 =>
      rw [q0] at q
      exact (show False from q).elim
    | none =>
      have hl2 : (putK kvs k d).length ≤ sizeLine := by
        have := length_putK kvs k d
        omega
      obtain ⟨q, es, ep, hq, g2, g3, g4, _, g5⟩ := dd'
      refine h2 q0 _ _ (d_write I (by rw [e]; exact True.intro) hs ⟨q, hq⟩ ⟨hl2, hd, _, (rel.put k eb rd).keeps fun c ys ec => ?_, q, es, ep, hq, g2, g3, g4, g5⟩) rd
      rw [upd_ne (ne_of ec e (fun z => nomatch z))]
      exact ec
end
section
variable {X : Cx} {o e f : Expr} {td ty tx : TE} {apos cpos : Pos}
theorem pe_dsetdT (hu : X.A.units + 1 < cLine) (ho : PE X o td) (he : PE X e ty) (hf : PE X f tx) (m : M2 X o "setdefault" apos e f cpos) : PE X (.Call (.Attribute o "setdefault" apos) [e, f] [] cpos) (tDSetdT td ty tx) := by
  refine ⟨fun pins s σ H Q I h => ?_⟩
  refine wpAny_Call_method m.base m.few m.line PySem.F.plainAttrs_dict PySem.F.slot_dict_setdefault PySem.F.type_dict_setdefault (thn (ho.run pins s σ H _ I h) fun u s1 ⟨x, H1, I1, rx, a, ex, d, q1⟩ => ?_)
  subst ex
  obtain rfl : u = Value.ref a := rx
  obtain ⟨t1, t2, _⟩ := isD_at I1 d
  refine ⟨t1, t2, ?_⟩
  rw [m.trees]
  refine Calls.callWith_builtin rfl (Calls.evalArgs_plain (Calls.spliced_cons (thn (he.run pins s1 σ H1 _ I1 q1) fun iv s2 ⟨y, H2, I2, ry, q2⟩ =>
    Calls.spliced_cons (thn (hf.run pins s2 σ H2 _ I2 q2) fun fv s3 ⟨z, H3, I3, rz, kvs, k, b, ea, ey, eb, hl, q3, q4⟩ => Calls.spliced_nil ?_))))
  subst ey
  obtain rfl : iv = Value.ref b := ry
  exact d_setdT hu I3 ea eb rz hl (fun v hv w' s4 I4 rw' => ⟨v, _, I4, rw', q3 v hv⟩) fun hn w' s4 I4 rw' => ⟨z, _, I4, rw', q4 hn⟩
theorem r_dsetd {td ty tx : TE} {σ : L2.St} {H : Hp} {Q : VK} (q : td σ H fun x H1 => ∃ a, x = .ref a ∧ IsD H1 a ∧ ty σ H1 fun y H2 => tx σ H2 fun z H3 => ∃ (kvs : List (List Key × V)) (k : List Key) (b : Addr), H3 a = some (.dT kvs) ∧ y = .ref b ∧ H3 b = some (.tup (k.map kV)) ∧ kvs.length < sizeLine ∧
  (∀ v, valV kvs k = some v → Q v H3) ∧ (valV kvs k = none → Q z (upd H3 a (.dT (putK kvs k z))))) : tDSetdT td ty tx σ H Q := q
end
end Mb
namespace Mb
open PySem L2
/-! ### numbers that bring a polynomial to 0 -/
def PgD : Nat → (Int → Int) → Prop
  | 0, f => ∀ x, f x = 0
  | n + 1, f => ∃ (c : Int) (g : Int → Int), PgD n g ∧ ∀ x, f x = c + x * g x
theorem PgD.congr : ∀ {n : Nat} {f g : Int → Int}, PgD n f → (∀ x, g x = f x) → PgD n g
  | 0, _, _, h, e => fun x => by rw [e]; exact h x
  | n + 1, _, _, ⟨c, k, hk, h⟩, e => ⟨c, k, hk, fun x => by rw [e, h]⟩
theorem PgD.zero : ∀ n : Nat, PgD n fun _ => 0
  | 0 => fun _ => rfl
  | n + 1 => ⟨0, _, PgD.zero n, fun x => by rw [Int.mul_zero, Int.add_zero]⟩
theorem PgD.add : ∀ {n : Nat} {f g : Int → Int}, PgD n f → PgD n g → PgD n fun x => f x + g x
  | 0, _, _, h, k => fun x => by show _ + _ = _; rw [h x, k x, Int.add_zero]
  | n + 1, _, _, ⟨c, f', hf, h⟩, ⟨d, g', hg, k⟩ => ⟨c + d, _, hf.add hg, fun x => by show _ + _ = _; rw [h x, k x]; grind⟩
theorem PgD.scale (r : Int) : ∀ {n : Nat} {f : Int → Int}, PgD n f → PgD n fun x => r * f x
  | 0, _, h => fun x => by show r * _ = _; rw [h x, Int.mul_zero]
  | n + 1, _, ⟨c, f', hf, h⟩ => ⟨r * c, _, hf.scale r, fun x => by show r * _ = _; rw [h x]; grind⟩
theorem PgD.up : ∀ {n : Nat} {f : Int → Int}, PgD n f → PgD (n + 1) f
  | 0, _, h => ⟨0, _, PgD.zero 0, fun x => by rw [h x, Int.mul_zero, Int.add_zero]⟩
  | n + 1, _, ⟨c, f', hf, h⟩ => ⟨c, f', hf.up, h⟩
theorem PgD.le {n m : Nat} {f : Int → Int} (h : PgD n f) (l : n ≤ m) : PgD m f := by
  induction m with
  | zero => rw [show (0 : Nat) = n by omega]; exact h
  | succ m ih =>
    by_cases e : n = m + 1
    · rw [← e]; exact h
    · exact (ih (by omega)).up
theorem PgD.mon (c : Int) : ∀ p : Nat, PgD (p + 1) fun x => c * x ^ p
  | 0 => ⟨c, _, PgD.zero 0, fun x => by show c * x ^ 0 = c + x * 0; rw [Int.pow_zero, Int.mul_one, Int.mul_zero, Int.add_zero]⟩
  | p + 1 => ⟨0, _, PgD.mon c p, fun x => by show c * x ^ (p + 1) = 0 + x * (c * x ^ p); rw [Int.pow_succ]; grind⟩
theorem PgD.div (r : Int) : ∀ {n : Nat} {f : Int → Int}, PgD (n + 1) f → ∃ g, PgD n g ∧ ∀ x, f x - f r = (x - r) * g x
  | 0, f, ⟨c, g, hg, h⟩ => ⟨g, hg, fun x => by rw [h x, h r, hg x, hg r]; grind⟩
  | n + 1, f, ⟨c, g, hg, h⟩ => by
    obtain ⟨k, hk, e⟩ := hg.div r
    refine ⟨fun x => g x + r * k x, hg.add (hk.scale r).up, fun x => ?_⟩
    have := e x
    rw [h x, h r]
    grind
theorem PgD.root : ∀ {n : Nat} {f : Int → Int} (rs : List Int), PgD n f → rs.Nodup → n ≤ rs.length → (∀ r ∈ rs, f r = 0) → ∀ x, f x = 0
  | 0, _, _, h, _, _, _ => h
  | n + 1, f, [], _, _, l, _ => by simp at l
  | n + 1, f, r :: rs, h, nd, l, z => fun x => by
    obtain ⟨g, hg, e⟩ := h.div r
    have fr := z r List.mem_cons_self
    obtain ⟨n1, n2⟩ := List.nodup_cons.mp nd
    have gz := PgD.root rs hg n2 (by simpa using l) fun s hs => by
      have := e s
      rw [fr, z s (List.mem_cons_of_mem _ hs)] at this
      have ne : s - r ≠ 0 := fun q => n1 (by rw [show r = s by omega]; exact hs)
      have : (s - r) * g s = 0 := by omega
      exact (Int.mul_eq_zero.mp this).resolve_left ne
    have := e x
    rw [fr, gz x] at this
    omega
/-- terms of one unknown -/
def pvl (ps : List (Nat × Int)) (x : Int) : Int := (ps.map fun t => t.2 * x ^ t.1).sum
theorem pvl_cons {t : Nat × Int} {ps : List (Nat × Int)} {x : Int} : pvl (t :: ps) x = t.2 * x ^ t.1 + pvl ps x := rfl
theorem pvl_dg {B : Nat} : ∀ {ps : List (Nat × Int)}, (∀ t ∈ ps, t.1 < B) → PgD B (pvl ps)
  | [], _ => PgD.zero B
  | t :: ps, h => ((PgD.mon t.2 t.1).le (h t List.mem_cons_self)).add (pvl_dg fun u hu => h u (List.mem_cons_of_mem _ hu))
def cfl (ps : List (Nat × Int)) (k : Nat) : Int := ((ps.filter fun t => decide (t.1 = k)).map (·.2)).sum
theorem cfl_cons {t : Nat × Int} {ps : List (Nat × Int)} {k : Nat} : cfl (t :: ps) k = (if t.1 = k then t.2 else 0) + cfl ps k := by
  unfold cfl
  rw [List.filter_cons]
  by_cases h : t.1 = k
  · rw [if_pos (by simpa using h), if_pos h, List.map_cons, List.sum_cons]
  · rw [if_neg (by simpa using h), if_neg h, Int.zero_add]
def shl (ps : List (Nat × Int)) : List (Nat × Int) := (ps.filter fun t => decide (t.1 ≠ 0)).map fun t => (t.1 - 1, t.2)
theorem shl_cons {t : Nat × Int} {ps : List (Nat × Int)} : shl (t :: ps) = if t.1 = 0 then shl ps else (t.1 - 1, t.2) :: shl ps := by
  unfold shl
  rw [List.filter_cons]
  by_cases h : t.1 = 0
  · rw [if_neg (by simp [h]), if_pos h]
  · rw [if_pos (by simp [h]), if_neg h, List.map_cons]
theorem pvl_sh (x : Int) : ∀ ps : List (Nat × Int), pvl ps x = cfl ps 0 + x * pvl (shl ps) x
  | [] => by show (0 : Int) = 0 + x * 0; omega
  | (p, n) :: ps => by
    rw [pvl_cons, cfl_cons, shl_cons, pvl_sh x ps]
    cases p with
    | zero => rw [if_pos rfl, if_pos rfl]; show n * x ^ 0 + _ = _; rw [Int.pow_zero]; grind
    | succ p =>
      rw [if_neg (by simp), if_neg (by simp), pvl_cons]
      show n * x ^ (p + 1) + _ = _ + x * (n * x ^ (p + 1 - 1) + _)
      rw [Nat.add_sub_cancel, Int.pow_succ]
      grind
theorem cfl_sh (k : Nat) : ∀ ps : List (Nat × Int), cfl (shl ps) k = cfl ps (k + 1)
  | [] => rfl
  | (p, n) :: ps => by
    rw [cfl_cons, shl_cons]
    cases p with
    | zero => rw [if_pos rfl, if_neg (by simp), Int.zero_add, cfl_sh k ps]
    | succ p =>
      rw [if_neg (by simp), cfl_cons, cfl_sh k ps]
      show (if p + 1 - 1 = k then n else 0) + _ = (if p + 1 = k + 1 then n else 0) + _
      by_cases h : p = k
      · rw [if_pos (by omega), if_pos (by omega)]
      · rw [if_neg (by omega), if_neg (by omega)]
theorem upto_nodup (n : Nat) : ((List.range n).map fun i : Nat => (i : Int) + 1).Nodup :=
  List.pairwise_map.mpr (List.nodup_range.imp fun {a b} h e => h (by omega))
theorem pvl_zero : ∀ (B : Nat) (ps : List (Nat × Int)), (∀ t ∈ ps, t.1 < B) → (∀ x, pvl ps x = 0) → ∀ k, cfl ps k = 0
  | 0, ps, hb, _, k => by
    cases ps with
    | nil => rfl
    | cons t ps => exact absurd (hb t List.mem_cons_self) (Nat.not_lt_zero _)
  | B + 1, ps, hb, h, k => by
    have c0 : cfl ps 0 = 0 := by
      have := h 0
      rw [pvl_sh, Int.zero_mul, Int.add_zero] at this
      exact this
    have hb' : ∀ t ∈ shl ps, t.1 < B := fun t ht => by
      obtain ⟨u, hu, rfl⟩ := List.mem_map.mp ht
      have h1 := hb u (List.mem_filter.mp hu).1
      have h2 := (List.mem_filter.mp hu).2
      have h3 : u.1 ≠ 0 := by simpa using h2
      show u.1 - 1 < B
      omega
    have z : ∀ x, pvl (shl ps) x = 0 := PgD.root ((List.range B).map fun i : Nat => (i : Int) + 1) (pvl_dg hb') (upto_nodup B) (by simp) fun r hr => by
      obtain ⟨i, _, rfl⟩ := List.mem_map.mp hr
      have := h ((i : Int) + 1)
      rw [pvl_sh, c0, Int.zero_add] at this
      exact (Int.mul_eq_zero.mp this).resolve_left (by omega)
    cases k with
    | zero => exact c0
    | succ k => rw [← cfl_sh]; exact pvl_zero B _ hb' z k
/-! ### columns of a form -/
def cutK (a : Nat) (k : List Int) : List Int := k.take a ++ k.drop (a + 1)
def colOf (a : Nat) (e : List Int) (F : List Trm) : List (Nat × Int) := (F.filter fun t => decide (cutK a t.1 = e)).map fun t => ((t.1.getD a 0).toNat, t.2)
/-- x brings the form to 0, put in for its a-th -/
def Ns (a : Nat) (F : List Trm) (x : Int) : Prop := ∀ t ∈ F, pvl (colOf a (cutK a t.1) F) x = 0
instance {a : Nat} {F : List Trm} {x : Int} : Decidable (Ns a F x) := by unfold Ns; infer_instance
theorem cut_inj {a : Nat} {k l : List Int} (hk : a < k.length) (h : k.length = l.length) (e : cutK a k = cutK a l) (g : k.getD a 0 = l.getD a 0) : k = l := by
  have e1 : ∀ {m : List Int}, a < m.length → m = m.take a ++ m.getD a 0 :: m.drop (a + 1) := fun {m} hm => by
    have g : m.getD a 0 = m[a] := by rw [List.getD_eq_getElem?_getD, List.getElem?_eq_getElem hm]; rfl
    rw [g]
    conv => lhs; rw [← List.take_append_drop a m, List.drop_eq_getElem_cons hm]
  obtain ⟨h1, h2⟩ := List.append_inj e (by rw [List.length_take, List.length_take]; omega)
  have q1 := e1 hk
  have q2 := e1 (h ▸ hk : a < l.length)
  rw [h1, h2, g] at q1
  exact q1.trans q2.symm
theorem cut_set {a : Nat} {k l : List Int} (hk : a < k.length) (h : k.length = l.length) : k.set a 0 = l.set a 0 ↔ cutK a k = cutK a l := by
  have s : ∀ {m : List Int}, a < m.length → m.set a 0 = m.take a ++ 0 :: m.drop (a + 1) := fun {m} hm => by
    rw [List.set_eq_take_append_cons_drop, if_pos hm]
  rw [s hk, s (h ▸ hk)]
  constructor
  · intro e
    obtain ⟨h1, h2⟩ := List.append_inj e (by rw [List.length_take, List.length_take]; omega)
    unfold cutK
    rw [h1, (List.cons.inj h2).2]
  · intro e
    obtain ⟨h1, h2⟩ := List.append_inj e (by rw [List.length_take, List.length_take]; omega)
    rw [h1, h2]
theorem sum_map_eq {α : Type} {f g : α → Int} : ∀ {l : List α}, (∀ t ∈ l, f t = g t) → (l.map f).sum = (l.map g).sum
  | [], _ => rfl
  | t :: l, h => by rw [List.map_cons, List.map_cons, List.sum_cons, List.sum_cons, h t List.mem_cons_self, sum_map_eq fun u hu => h u (List.mem_cons_of_mem _ hu)]
theorem put_col {a m : Nat} {x : Int} {F : List Trm} {t0 : Trm} (hl : ∀ t ∈ F, t.1.length = m) (ha : a < m) (h0 : t0 ∈ F) : sumK (putT a x F) (t0.1.set a 0) = pvl (colOf a (cutK a t0.1) F) x := by
  unfold sumK putT pvl colOf
  rw [List.filter_map, List.map_map, List.map_map]
  have e : F.filter ((fun t => decide (t.1 = t0.1.set a 0)) ∘ fun t : Trm => (t.1.set a 0, t.2 * x ^ (t.1.getD a 0).toNat)) = F.filter fun t => decide (cutK a t.1 = cutK a t0.1) :=
    List.filter_congr fun t ht => by
      show decide (t.1.set a 0 = t0.1.set a 0) = _
      have := cut_set (a := a) (k := t.1) (l := t0.1) (by rw [hl t ht]; exact ha) (by rw [hl t ht, hl t0 h0])
      by_cases c : cutK a t.1 = cutK a t0.1
      · rw [decide_eq_true c, decide_eq_true (this.mpr c)]
      · rw [decide_eq_false c, decide_eq_false fun z => c (this.mp z)]
  rw [e]
  rfl
theorem col_cf {a m : Nat} {F : List Trm} {t0 : Trm} (hl : ∀ t ∈ F, t.1.length = m) (hp : ∀ t ∈ F, ∀ p ∈ t.1, 0 ≤ p) (ha : a < m) (h0 : t0 ∈ F) : cfl (colOf a (cutK a t0.1) F) (t0.1.getD a 0).toNat = sumK F t0.1 := by
  unfold cfl colOf sumK
  rw [List.filter_map, List.map_map, List.filter_filter]
  have nn : ∀ t ∈ F, 0 ≤ t.1.getD a 0 := fun t ht => by
    have la : a < t.1.length := by rw [hl t ht]; exact ha
    have : t.1.getD a 0 = t.1[a] := by rw [List.getD_eq_getElem?_getD, List.getElem?_eq_getElem la]; rfl
    rw [this]
    exact hp t ht _ (List.getElem_mem la)
  have e : F.filter (fun t => ((fun u : Nat × Int => decide (u.1 = (t0.1.getD a 0).toNat)) ∘ fun t : Trm => ((t.1.getD a 0).toNat, t.2)) t && decide (cutK a t.1 = cutK a t0.1)) = F.filter fun t => decide (t.1 = t0.1) :=
    List.filter_congr fun t ht => by
      show (decide ((t.1.getD a 0).toNat = (t0.1.getD a 0).toNat) && decide (cutK a t.1 = cutK a t0.1)) = _
      by_cases c : t.1 = t0.1
      · rw [c]; simp
      · rw [decide_eq_false c]
        by_cases d : cutK a t.1 = cutK a t0.1
        · have : ¬ (t.1.getD a 0).toNat = (t0.1.getD a 0).toNat := fun q => c (cut_inj (by rw [hl t ht]; exact ha) (by rw [hl t ht, hl t0 h0]) d (by have := nn t ht; have := nn t0 h0; omega))
          rw [decide_eq_false this, Bool.false_and]
        · rw [decide_eq_false d, Bool.and_false]
  rw [e]
  rfl
/-- at most as many numbers bring it to 0 as its greatest power -/
theorem few_ns {a m g : Nat} {F : List Trm} (nd : (F.map (·.1)).Nodup) (nz : ∀ t ∈ F, t.2 ≠ 0) (hl : ∀ t ∈ F, t.1.length = m) (hp : ∀ t ∈ F, ∀ p ∈ t.1, 0 ≤ p ∧ p ≤ (g : Int)) (ha : a < m) (ne : F ≠ []) {xs : List Int} (nx : xs.Nodup) (h : ∀ x ∈ xs, Ns a F x) : xs.length ≤ g := by
  cases Nat.lt_or_ge g xs.length with
  | inr h => exact h
  | inl lt =>
    obtain ⟨t0, h0⟩ := List.exists_mem_of_ne_nil F ne
    have bd : ∀ t ∈ colOf a (cutK a t0.1) F, t.1 < g + 1 := fun t ht => by
      obtain ⟨u, hu, rfl⟩ := List.mem_map.mp ht
      have hu := (List.mem_filter.mp hu).1
      have la : a < u.1.length := by rw [hl u hu]; exact ha
      have e : u.1.getD a 0 = u.1[a] := by rw [List.getD_eq_getElem?_getD, List.getElem?_eq_getElem la]; rfl
      have := hp u hu _ (List.getElem_mem la)
      show (u.1.getD a 0).toNat < g + 1
      rw [e]
      omega
    have z := PgD.root xs (pvl_dg bd) nx lt fun x hx => h x hx t0 h0
    have := pvl_zero _ _ bd z (t0.1.getD a 0).toNat
    rw [col_cf hl (fun t ht p hp' => (hp t ht p hp').1) ha h0, uniq_sum nd t0 h0] at this
    exact absurd this (nz t0 h0)
structure FitG (a m : Nat) (F : List Trm) (g : Int) : Prop where
  nd : (F.map (·.1)).Nodup
  nz : ∀ t ∈ F, t.2 ≠ 0
  len : ∀ t ∈ F, t.1.length = m
  pw : ∀ t ∈ F, ∀ p ∈ t.1, 0 ≤ p ∧ p ≤ g
  ne : F ≠ []
theorem len_filters {α : Type} (p : α → Bool) : ∀ l : List α, l.length = (l.filter p).length + (l.filter fun x => !p x).length
  | [] => rfl
  | x :: l => by
    rw [List.filter_cons, List.filter_cons, List.length_cons, len_filters p l]
    cases p x <;> simp <;> omega
theorem passed {a m : Nat} (ha : a < m) : ∀ (Fg : List (List Trm × Int)) (xs : List Int), (∀ f ∈ Fg, FitG a m f.1 f.2) → (∀ f ∈ Fg, 0 ≤ f.2) → xs.Nodup → (∀ x ∈ xs, ∃ f ∈ Fg, Ns a f.1 x) → (xs.length : Int) ≤ (Fg.map (·.2)).sum
  | [], xs, _, _, _, h => by
    cases xs with
    | nil => exact Int.le_refl _
    | cons x xs =>
      obtain ⟨f, hf, _⟩ := h x List.mem_cons_self
      cases hf
  | f :: Fg, xs, hF, h0, nx, h => by
    have l := len_filters (fun x => decide (Ns a f.1 x)) xs
    have f1 := hF f List.mem_cons_self
    have g0 := h0 f List.mem_cons_self
    have h1 : ((xs.filter fun x => decide (Ns a f.1 x)).length : Int) ≤ f.2 := by
      have := few_ns (g := f.2.toNat) f1.nd f1.nz f1.len (fun t ht p hp => by have := f1.pw t ht p hp; omega) ha f1.ne (nx.filter (fun x => decide (Ns a f.1 x))) fun x hx => of_decide_eq_true (List.mem_filter.mp hx).2
      omega
    have h2 := passed ha Fg (xs.filter fun x => !decide (Ns a f.1 x)) (fun g hg => hF g (List.mem_cons_of_mem _ hg)) (fun g hg => h0 g (List.mem_cons_of_mem _ hg)) (nx.filter _) fun x hx => by
      obtain ⟨hx1, hx2⟩ := List.mem_filter.mp hx
      obtain ⟨g, hg, hn⟩ := h x hx1
      rcases List.mem_cons.mp hg with rfl | hg
      · rw [decide_eq_true hn] at hx2; cases hx2
      · exact ⟨g, hg, hn⟩
    rw [List.map_cons, List.sum_cons]
    omega
end Mb
namespace Mb
open PySem L2
def rListK (K : PySem.W.Frag) : List V → Hp → VK → Prop := fun xs H Q => ∃ p ys, xs = [.ref p] ∧ (SqL K H p ys ∨ SqT K H p ys) ∧ ∀ l, H l = none → Q (.ref l) (upd H l (.lst ys))
/-! ### lists of forms -/
def Fv (H : Hp) (v : V) (F : List Trm) : Prop := ∃ f, v = .ref f ∧ FmAt H f F
theorem Fv.kt {H H' : Hp} {v : V} {F : List Trm} (s : Kt H H') (h : Fv H v F) : Fv H' v F := by
  obtain ⟨f, e, h⟩ := h
  exact ⟨f, e, h.kt s⟩
abbrev Fvs (H : Hp) (us : List V) (Fs : List (List Trm)) : Prop := Paired (Fv H) us Fs
theorem _root_.PySem.Paired.fkt {H H' : Hp} (s : Kt H H') {us : List V} {Fs : List (List Trm)} (h : Fvs H us Fs) : Fvs H' us Fs := Paired.mapP h fun _ _ h => Fv.kt s h
structure Gf (m : Nat) (S : Nat) (F : List Trm) : Prop where
  up : F.Pairwise fun x y => lexL x.1 y.1 = true
  nz : ∀ x ∈ F, x.2 ≠ 0
  ok : OkT m 12 F
  sz : ∀ t ∈ F, Sm S t.2
  len : F.length ≤ 400
theorem Gf.mono {m S T : Nat} {F : List Trm} (h : Gf m S F) (l : S ≤ T) : Gf m T F := ⟨h.up, h.nz, h.ok, fun t ht => (h.sz t ht).mono l, h.len⟩
def Bds (Fs : List (List Trm)) (gs : List Int) : Prop := Paired (fun F g => 0 ≤ g ∧ ∀ t ∈ F, ∀ p ∈ t.1, p ≤ g) Fs gs
/-- the number is at most what bounds of the forms' powers sum up to -/
def Low (Fs : List (List Trm)) (n : Int) : Prop := ∀ gs, Bds Fs gs → n ≤ gs.sum
/-! ### columns in the heap -/
def PrA (H : Hp) (v : V) (t : Nat × Int) : Prop := ∃ b, v = .ref b ∧ H b = some (.tup [.int (t.1 : Int), .int t.2])
theorem PrA.kt {H H' : Hp} {v : V} {t : Nat × Int} (s : Kt H H') (h : PrA H v t) : PrA H' v t := by
  obtain ⟨b, e, h⟩ := h
  exact ⟨b, e, s _ _ h⟩
def ColA (N : Addr → Prop) (H : Hp) (v : V) (c : List (Nat × Int)) : Prop := ∃ l us, v = .ref l ∧ N l ∧ H l = some (.lst us) ∧ Paired (PrA H) us c
def ColsA (N : Addr → Prop) (a : Nat) (F : List Trm) (H : Hp) (v : V) : Prop := ∃ l vs es, v = .ref l ∧ N l ∧ H l = some (.lst vs) ∧ Paired (fun v e => ColA N H v (colOf a e F)) vs es ∧ (∀ t ∈ F, cutK a t.1 ∈ es) ∧ es.length ≤ F.length
theorem ColA.up {N M : Addr → Prop} {H H' : Hp} {v : V} {c : List (Nat × Int)} (h : ColA N H v c) (nm : ∀ l, N l → H l ≠ none → M l) (s : ∀ b o, M b → H b = some o → H' b = some o) (kt : Kt H H') : ColA M H' v c := by
  obtain ⟨l, us, e, n, h, p⟩ := h
  have ml := nm l n (by rw [h]; exact fun z => nomatch z)
  exact ⟨l, us, e, ml, s _ _ ml h, Paired.mapP p fun _ _ h => PrA.kt kt h⟩
theorem ColsA.up {N M : Addr → Prop} {a : Nat} {F : List Trm} {H H' : Hp} {v : V} (h : ColsA N a F H v) (nm : ∀ l, N l → H l ≠ none → M l) (s : ∀ b o, M b → H b = some o → H' b = some o) (kt : Kt H H') : ColsA M a F H' v := by
  obtain ⟨l, vs, es, e, n, h, p, q, r⟩ := h
  have ml := nm l n (by rw [h]; exact fun z => nomatch z)
  exact ⟨l, vs, es, e, ml, s _ _ ml h, Paired.mapP p fun _ _ h => h.up nm s kt, q, r⟩
theorem ColsA.same {N : Addr → Prop} {a : Nat} {F : List Trm} {H H' : Hp} {v : V} (h : ColsA N a F H v) (s : Same H H') : ColsA N a F H' v := h.up (fun _ n _ => n) (fun _ _ _ h => s _ _ h) (Kt.same s)
/-! ### the columns' own dict -/
def colD (es : List (List Int × Addr)) : List (List Key × V) := es.map fun e => (e.1.map Sum.inl, V.ref e.2)
theorem colD_none {es : List (List Int × Addr)} {k : List Int} (h : k ∉ es.map (·.1)) : valV (colD es) (k.map Sum.inl) = none := by
  unfold valV colD
  rw [Option.map_eq_none_iff, List.find?_eq_none]
  intro x hx
  obtain ⟨e, he, rfl⟩ := List.mem_map.mp hx
  intro hd
  exact h (inl_inj (of_decide_eq_true hd) ▸ List.mem_map.mpr ⟨e, he, rfl⟩)
theorem colD_some {es : List (List Int × Addr)} (nd : (es.map (·.1)).Nodup) {e : List Int × Addr} (he : e ∈ es) : valV (colD es) (e.1.map Sum.inl) = some (.ref e.2) := by
  unfold valV colD
  induction es with
  | nil => cases he
  | cons x r ih =>
    obtain ⟨n1, n2⟩ := List.nodup_cons.mp nd
    rw [List.map_cons, List.find?_cons]
    rcases List.mem_cons.mp he with rfl | he
    · rw [show decide ((e.1.map (Sum.inl : Int → Key), V.ref e.2).1 = e.1.map Sum.inl) = true from decide_eq_true rfl]
      rfl
    · have : ¬ (x.1.map (Sum.inl : Int → Key)) = e.1.map Sum.inl := fun z => n1 (List.mem_map.mpr ⟨e, he, (inl_inj z).symm⟩)
      rw [show decide ((x.1.map (Sum.inl : Int → Key), V.ref x.2).1 = e.1.map Sum.inl) = false from decide_eq_false this]
      exact ih n2 he
theorem colD_put {es : List (List Int × Addr)} {k : List Int} {L : Addr} (h : k ∉ es.map (·.1)) : putK (colD es) (k.map Sum.inl) (.ref L) = colD (es ++ [(k, L)]) := by
  unfold putK colD
  have e : ((es.map fun e => (e.1.map (Sum.inl : Int → Key), V.ref e.2)).any fun kv => decide (kv.1 = k.map Sum.inl)) = false := by
    rw [List.any_eq_false]
    intro x hx
    obtain ⟨e, he, rfl⟩ := List.mem_map.mp hx
    intro hd
    exact h (inl_inj (of_decide_eq_true hd) ▸ List.mem_map.mpr ⟨e, he, rfl⟩)
  rw [if_neg (by rw [e]; exact Bool.false_ne_true), List.map_append]
  rfl
theorem col_snoc {a : Nat} {e : List Int} {F : List Trm} {t : Trm} : colOf a e (F ++ [t]) = colOf a e F ++ (if cutK a t.1 = e then [((t.1.getD a 0).toNat, t.2)] else []) := by
  unfold colOf
  rw [List.filter_append, List.map_append, List.filter_cons]
  by_cases c : cutK a t.1 = e
  · rw [if_pos (by simpa using c), if_pos c]; rfl
  · rw [if_neg (by simpa using c), if_neg c]; rfl
theorem cut_rest {k : List Int} {a : Nat} (h : a < k.length) : cutV (k.map V.int) none (some (a : Int)) ++ cutV (k.map V.int) (some ((a : Int) + 1)) none = (cutK a k).map V.int := by
  have e := set_cut h
  unfold cutV at e ⊢
  have l : (k.map V.int).length = k.length := List.length_map _
  have e0 : HT.sIx (k.map V.int).length 0 none = 0 := rfl
  have e1 : HT.sIx (k.map V.int).length (k.map V.int).length none = (k.map V.int).length := rfl
  have e2 : HT.sIx (k.map V.int).length (k.map V.int).length (some (a : Int)) = a := by
    rw [HT.sIx_nat, l]
    omega
  have e3 : HT.sIx (k.map V.int).length 0 (some ((a : Int) + 1)) = a + 1 := by
    rw [show ((a : Int) + 1) = (((a + 1 : Nat)) : Int) by omega, HT.sIx_nat, l]
    omega
  rw [e0, e1, e2, e3, List.drop_zero, Nat.sub_zero, ← List.map_drop, ← List.map_take, l, ← List.map_take]
  rw [List.take_of_length_le (show (k.drop (a + 1)).length ≤ k.length - (a + 1) by rw [List.length_drop]; omega)]
  unfold cutK
  rw [List.map_append]
theorem cutK_len {k : List Int} {a : Nat} : (cutK a k).length ≤ k.length := by
  unfold cutK
  rw [List.length_append, List.length_take, List.length_drop]
  omega
/-! ### promises -/
def spColumns (K : PySem.W.Frag) : Sp := fun vs H Q _ => ∃ (f : Addr) (F : List Trm) (a m : Nat) (c : Int), vs = [.ref f, .int (a : Int)] ∧ FmAt H f F ∧ OkT m c F ∧ a < m ∧ m ≤ 60 ∧ F.length ≤ 1000 ∧
  ∀ (v : V) (H' : Hp), Same H H' → ColsA (fun q => H q = none) a F H' v → Q v H'
def Pows (K : PySem.W.Frag) (H : Hp) (g : Addr) (x : Int) (k : Nat) : Prop := SqL K H g (((List.range (k + 1)).map fun j => x ^ j).map V.int)
def Fits (a m S k : Nat) (F : List Trm) : Prop := (∀ t ∈ F, Sm S t.2 ∧ t.1.length = m ∧ ∀ p ∈ t.1, 0 ≤ p ∧ p ≤ (k : Int)) ∧ F.length ≤ 1000
def spAllN (K : PySem.W.Frag) : Sp := fun vs H Q _ => ∃ (v : V) (g : Addr) (F : List Trm) (a m S k : Nat) (x : Int), vs = [v, .ref g] ∧ ColsA (fun _ => True) a F H v ∧ Fits a m S k F ∧ a < m ∧ Pows K H g x k ∧ Sm 20 x ∧ k ≤ 50 ∧ 1 ≤ S ∧ S ≤ 100000 ∧
  ∀ H', Same H H' → Q (.bl (decide (Ns a F x))) H'
def spBrings (K : PySem.W.Frag) : Sp := fun vs H Q _ => ∃ (l g : Addr) (ws : List V) (Fs : List (List Trm)) (a m S k : Nat) (x : Int), vs = [.ref l, .ref g] ∧ SqL K H l ws ∧ Paired (fun v F => ColsA (fun _ => True) a F H v) ws Fs ∧ (∀ F ∈ Fs, Fits a m S k F) ∧ a < m ∧ Pows K H g x k ∧ Sm 20 x ∧ k ≤ 50 ∧ 1 ≤ S ∧ S ≤ 100000 ∧
  ∀ H', Same H H' → Q (.bl (Fs.any fun F => decide (Ns a F x))) H'
def spLeast (K : PySem.W.Frag) : Sp := fun vs H Q _ => ∃ (l : Addr) (us : List V) (Fs : List (List Trm)) (a m S : Nat), vs = [.ref l, .int (a : Int)] ∧ SqL K H l us ∧ Fvs H us Fs ∧ (∀ F ∈ Fs, Gf m S F ∧ F ≠ []) ∧ a < m ∧ m ≤ 60 ∧ 1 ≤ S ∧ S ≤ 100000 ∧ Fs.length ≤ 64 ∧
  ∀ (n : Nat) (H' : Hp), Same H H' → (∀ F ∈ Fs, ¬ Ns a F (n : Int)) → Low Fs (n : Int) → n ≤ 800 → Q (.int (n : Int)) H'
/-! ### the worth at whole numbers -/
def pmon : List Int → List Int → Int
  | x :: xs, k :: ks => x ^ k.toNat * pmon xs ks
  | _, _ => 1
abbrev evI (ns : List Int) (F : List Trm) : Int := wsum (pmon ns) F
theorem pmon_set {n : Int} : ∀ {rs : List Int} {a : Nat} {ks : List Int}, ks.length = rs.length → rs[a]? = some n → pmon rs ks = n ^ (ks.getD a 0).toNat * pmon rs (ks.set a 0)
  | r :: rs, 0, k :: ks, _, h => by
    have : r = n := by simpa using h
    subst this
    show r ^ k.toNat * pmon rs ks = r ^ k.toNat * (r ^ (0 : Int).toNat * pmon rs ks)
    rw [show (0 : Int).toNat = 0 from rfl, Int.pow_zero, Int.one_mul]
  | r :: rs, a + 1, k :: ks, hl, h => by
    show r ^ k.toNat * pmon rs ks = n ^ (ks.getD a 0).toNat * (r ^ k.toNat * pmon rs (ks.set a 0))
    rw [pmon_set (by simpa using hl) (by simpa using h)]
    grind
theorem ev_put {rs : List Int} {a : Nat} {n : Int} (h : rs[a]? = some n) : ∀ {F : List Trm}, (∀ u ∈ F, u.1.length = rs.length) → evI rs (putT a n F) = evI rs F
  | [], _ => rfl
  | t :: F, hl => by
    show evI rs ((t.1.set a 0, t.2 * n ^ (t.1.getD a 0).toNat) :: putT a n F) = _
    unfold evI
    rw [wsum_cons, wsum_cons, show wsum (pmon rs) (putT a n F) = wsum (pmon rs) F from ev_put h fun u hu => hl u (List.mem_cons_of_mem _ hu), pmon_set (hl t List.mem_cons_self) h]
    show t.2 * n ^ (t.1.getD a 0).toNat * pmon rs (t.1.set a 0) + _ = _
    rw [Int.mul_assoc]
/-- the first j of the powers are 0 -/
def Z0 (j : Nat) (F : List Trm) : Prop := ∀ t ∈ F, ∀ i, i < j → t.1.getD i 0 = 0
theorem fm_key {ts F : List Trm} (h : Fm ts F) {x : Trm} (hx : x ∈ F) : ∃ t ∈ ts, t.1 = x.1 := by
  obtain ⟨h1, h2⟩ := (h.mem x).mp hx
  by_cases e : x.1 ∈ ts.map (·.1)
  · obtain ⟨t, ht, e⟩ := List.mem_map.mp e
    exact ⟨t, ht, e⟩
  · rw [sumK_none e] at h2
    exact absurd h2 h1
theorem Z0.put {a m : Nat} {n : Int} {c : Int} {F G : List Trm} (h : Z0 a F) (ok : OkT m c F) (fm : Fm (putT a n F) G) : Z0 (a + 1) G := fun x hx i hi => by
  obtain ⟨t, ht, e⟩ := fm_key fm hx
  obtain ⟨u, hu, rfl⟩ := List.mem_map.mp ht
  rw [← e]
  show (u.1.set a 0).getD i 0 = 0
  rw [List.getD_eq_getElem?_getD]
  by_cases c : i = a
  · subst c
    rw [List.getElem?_set]
    split
    · split <;> rfl
    · rename_i h; exact absurd rfl h
  · rw [List.getElem?_set_ne (fun z => c z.symm), ← List.getD_eq_getElem?_getD]
    exact h u hu i (by omega)
theorem zero_of {k : List Int} {m : Nat} (hl : k.length = m) (h : ∀ i, i < m → k.getD i 0 = 0) : k = List.replicate m 0 := by
  refine List.ext_getElem (by rw [hl, List.length_replicate]) fun i h1 h2 => ?_
  rw [List.getElem_replicate]
  have := h i (by omega)
  rw [List.getD_eq_getElem?_getD, List.getElem?_eq_getElem h1] at this
  exact this
theorem pmon_zero : ∀ (ns : List Int) (m : Nat), pmon ns (List.replicate m 0) = 1
  | [], m => by cases m <;> rfl
  | n :: ns, 0 => rfl
  | n :: ns, m + 1 => by
    rw [List.replicate_succ]
    show n ^ (0 : Int).toNat * pmon ns (List.replicate m 0) = 1
    rw [pmon_zero ns m, show (0 : Int).toNat = 0 from rfl, Int.pow_zero]
    rfl
theorem const_ev {m : Nat} {c : Int} {ns : List Int} {F : List Trm} (up : F.Pairwise fun x y => lexL x.1 y.1 = true) (nz : ∀ x ∈ F, x.2 ≠ 0) (ok : OkT m c F) (z : Z0 m F) (ne : F ≠ []) : evI ns F ≠ 0 := by
  have all : ∀ t ∈ F, t.1 = List.replicate m 0 := fun t ht => zero_of (ok t ht).1 (z t ht)
  match F, ne, up, nz, all with
  | [t], _, _, nz, all =>
    show wsum (pmon ns) [t] ≠ 0
    rw [wsum_cons, all t List.mem_cons_self, pmon_zero, Int.mul_one]
    show t.2 + 0 ≠ 0
    have := nz t List.mem_cons_self
    omega
  | t :: u :: r, _, up, _, all =>
    have := (List.pairwise_cons.mp up).1 u List.mem_cons_self
    rw [all t List.mem_cons_self, all u (List.mem_cons_of_mem _ List.mem_cons_self), lexL_irr] at this
    cases this
/-- what a form becomes, and that it is not nought -/
theorem put_ne {a m : Nat} {c x : Int} {F G : List Trm} (ok : OkT m c F) (ha : a < m) (h : ¬ Ns a F x) (fm : Fm (putT a x F) G) : G ≠ [] := fun e => by
  subst e
  refine h fun t ht => ?_
  rw [← put_col (fun t ht => (ok t ht).1) ha ht, ← fm.sum]
  rfl
theorem bds_put {a : Nat} {x : Int} : ∀ {Fs Gs : List (List Trm)} {gs : List Int} {m : Nat}, Paired (fun F G => Fm (putT a x F) G) Fs Gs → (∀ F ∈ Fs, OkT m 12 F) → Bds Fs gs → Bds Gs gs
  | _, _, _, _, .nil, _, .nil => .nil
  | _, _, _, m, .cons (a := F) (b := G) fm r, ok, .cons (b := g) h s => by
    refine .cons ⟨h.1, ?_⟩ (bds_put r (fun F hF => ok F (List.mem_cons_of_mem _ hF)) s)
    have o : OkT m g F := fun t ht => ⟨(ok F List.mem_cons_self t ht).1, fun p hp => ⟨((ok F List.mem_cons_self t ht).2 p hp).1, h.2 t ht p hp⟩⟩
    exact fun t ht p hp => ((fm.ok (put_ok h.1 o) t ht).2 p hp).2
def spOff (K : PySem.W.Frag) (C : Addr) : Sp := fun vs H Q E => ∃ (l : Addr) (us : List V) (Fs : List (List Trm)) (m S : Nat), vs = [.int (m : Int), .ref l] ∧ SqL K H l us ∧ Fvs H us Fs ∧ (∀ F ∈ Fs, Gf m S F) ∧ m ≤ 7 ∧ 1 ≤ S ∧ S ≤ 2000 ∧ Fs.length ≤ 64 ∧
  (∀ j : Nat, Fs[j]? = some [] → (∀ i, i < j → Fs[i]? ≠ some []) → ∀ (d : Addr) (fs : List (Str × V)) (H' : Hp), Same H H' → H' d = some (.xd fs) → fs.lookup ("number" : Str) = some (V.int (j : Int)) → E (.ref C) (some d) H') ∧
  ((∀ F ∈ Fs, F ≠ []) → ∀ (ns : List Int) (r : Addr) (H' : Hp), Same H H' → H r = none → H' r = some (.lst (ns.map V.int)) → ns.length = m → (∀ n ∈ ns, 0 ≤ n ∧ n ≤ 800 ∧ Low Fs n) → (∀ F ∈ Fs, evI ns F ≠ 0) → Q (.ref r) H')
end Mb
namespace Mb
open PySem L2
/-! ### a comprehension over a list whose items stand for xs -/
theorem lc_fms {α : Type} {K : PySem.W.Frag} {j : Nat} {te : TE} {σ : St} {Q : VK} {l : Addr} {ws : List V} {xs : List α} {H : Hp} (P : Hp → V → α → Prop) (R : Addr → Hp → V → α → Prop) (pm : ∀ {H H' : Hp} {v : V} {x : α}, Same H H' → P H v x → P H' v x) (mono : ∀ {D : Addr} {H H' : Hp} {v : V} {x : α} {vs : List V}, H D = some (.lst vs) → But D H H' → R D H v x → R D H' v x) (hl : SqL K H l ws) (pr : Paired (P H) ws xs) (few : xs.length ≤ 10000) (hσ : ∀ v, wipe ((wipe σ [j]).set j (some v)) [j] = wipe σ [j])
    (stE : ∀ (v : V) (x : α) (H' : Hp) (D : Addr) (vs : List V), x ∈ xs → P H' v x → Same H H' → H' D = some (.lst vs) → ∀ S : VK, (∀ (u : V) (H4 : Hp), Same H' H4 → R D H4 u x → S u H4) → te ((wipe σ [j]).set j (some v)) H' S)
    (fin : ∀ (D : Addr) (vs : List V) (H' : Hp), Same H H' → H D = none → H' D = some (.lst vs) → Paired (R D H') vs xs → Q (.ref D) H') : lcL K (gName j) tYes te [j] σ Q (.ref l) H := by
  refine ⟨l, rfl, ⟨_, hl⟩, fun D hD => ?_⟩
  have ln : ws.length = xs.length := Paired.length pr
  refine lc_list (xs := ws) (fun n H' => ∃ vs : List V, Same H H' ∧ H' D = some (.lst vs) ∧ vs.length = n ∧ Paired (R D H') vs (xs.take n)) ⟨[], same_new hD _, upd_same, rfl, by rw [List.take_zero]; exact .nil⟩ (fun n H' _ h => by obtain ⟨_, h, _⟩ := h; exact h.seq hl) ?_ ?_
  · rintro n v H' hx ⟨vs, g, d, lv, pr'⟩
    obtain ⟨x, ht, px⟩ := LiI.paired_get pr hx
    have hm := List.mem_of_getElem? ht
    have hn : n < xs.length := (List.getElem?_eq_some_iff.mp ht).1
    have e1 : xs.take (n + 1) = xs.take n ++ [x] := by rw [List.take_succ, ht, Option.toList_some]
    refine ⟨hσ _, ?_⟩
    refine r_yes ?_
    rw [if_pos rfl]
    refine stE v x H' D vs hm (pm g px) g d _ fun u H4 g4 ru => ?_
    have d4 := g4 _ _ d
    have bt : But D H4 (upd H4 D (.lst (vs ++ [u]))) := But.upd _ _ _
    refine ⟨_, d4, Nat.lt_of_le_of_lt (show vs.length ≤ 10000 by omega) (by decide), vs ++ [u], same_updS (g.trans g4) hD, upd_same, by simp [lv], ?_⟩
    rw [e1]
    exact paired_snoc' (mono d4 bt ru) (Paired.mapP pr' fun _ _ h => mono d4 bt (mono d (But.same g4) h))
  · rintro H' ⟨vs, g, d, lv, pr'⟩
    rw [ln, List.take_length] at pr'
    exact fin D vs H' g hD d pr'
theorem ktB {D : Addr} {H H' : Hp} {vs : List V} (d : H D = some (.lst vs)) (b : But D H H') : Kt H H' := fun q xs h => b _ _ (fun z => by rw [z, d] at h; cases h) h
theorem paired_at {α β : Type} {R : α → β → Prop} {l : List α} {m : List β} {i : Nat} {b : β} : ∀ (h : Paired R l m) (hi : m[i]? = some b), ∃ a, l[i]? = some a ∧ R a b := by
  intro h
  induction h generalizing i with
  | nil => intro hi; simp at hi
  | cons r t ih =>
    intro hi
    cases i with
    | zero =>
      rw [List.getElem?_cons_zero] at hi
      rw [List.getElem?_cons_zero]
      exact ⟨_, rfl, Option.some.inj hi ▸ r⟩
    | succ i =>
      rw [List.getElem?_cons_succ] at hi
      rw [List.getElem?_cons_succ]
      exact ih hi
theorem paired_mem {α β : Type} {R : α → β → Prop} : ∀ {l : List α} {m : List β}, Paired R l m → ∀ b ∈ m, ∃ a ∈ l, R a b
  | _, _, .nil, _, h => by cases h
  | _, _, .cons (a := a) r t, b, h => by
    rcases List.mem_cons.mp h with rfl | h
    · exact ⟨a, List.mem_cons_self, r⟩
    · obtain ⟨x, hx, q⟩ := paired_mem t b h
      exact ⟨x, List.mem_cons_of_mem _ hx, q⟩
theorem paired_zip {α β : Type} {R : α → β → Prop} : ∀ {l : List α} {m : List β}, Paired R l m → ∀ p ∈ l.zip m, R p.1 p.2
  | _, _, .nil, p, h => by cases h
  | _, _, .cons r t, p, h => by
    rw [List.zip_cons_cons] at h
    rcases List.mem_cons.mp h with rfl | h
    · exact r
    · exact paired_zip t p h
theorem nodup_inj {α β : Type} {f : α → β} : ∀ {l : List α}, (l.map f).Nodup → ∀ x ∈ l, ∀ y ∈ l, f x = f y → x = y
  | [], _, x, hx, _, _, _ => by cases hx
  | a :: l, nd, x, hx, y, hy, e => by
    obtain ⟨n1, n2⟩ := List.nodup_cons.mp nd
    rcases List.mem_cons.mp hx with h1 | h1
    · rcases List.mem_cons.mp hy with h2 | h2
      · rw [h1, h2]
      · exact (n1 (List.mem_map.mpr ⟨y, h2, by rw [← e, h1]⟩)).elim
    · rcases List.mem_cons.mp hy with h2 | h2
      · exact (n1 (List.mem_map.mpr ⟨x, h1, by rw [e, h2]⟩)).elim
      · exact nodup_inj n2 x h1 y h2 e
end Mb
namespace Mb
open PySem L2
theorem low_of {a m S n : Nat} {Fs : List (List Trm)} (gf : ∀ F ∈ Fs, Gf m S F ∧ F ≠ []) (ha : a < m) (h : ∀ x : Nat, x < n → ∃ F ∈ Fs, Ns a F (x : Int)) : Low Fs (n : Int) := fun gs b => by
  have ll : Fs.length = gs.length := Paired.length b
  have lz : (Fs.zip gs).map (·.2) = gs := List.map_snd_zip (by omega)
  have mf : ∀ f ∈ Fs.zip gs, f.1 ∈ Fs := fun f hf => (List.of_mem_zip hf).1
  have := passed ha (Fs.zip gs) ((List.range n).map fun i : Nat => (i : Int)) (fun f hf => by
      obtain ⟨g1, g2⟩ := gf f.1 (mf f hf)
      exact ⟨up_nd g1.up, g1.nz, fun t ht => (g1.ok t ht).1, fun t ht p hp => ⟨((g1.ok t ht).2 p hp).1, (paired_zip b f hf).2 t ht p hp⟩, g2⟩) (fun f hf => (paired_zip b f hf).1)
    (List.pairwise_map.mpr (List.nodup_range.imp fun {a b} h e => h (by omega))) fun x hx => by
      obtain ⟨i, hi, rfl⟩ := List.mem_map.mp hx
      obtain ⟨F, hF, hN⟩ := h i (List.mem_range.mp hi)
      obtain ⟨j, hj⟩ := List.getElem?_of_mem hF
      have hj' : j < Fs.length := (List.getElem?_eq_some_iff.mp hj).1
      have : (Fs.zip gs)[j]? = some (F, gs[j]'(by omega)) := by rw [List.getElem?_zip_eq_some]; exact ⟨hj, List.getElem?_eq_getElem (by omega)⟩
      exact ⟨_, List.mem_of_getElem? this, hN⟩
  rw [lz, List.length_map, List.length_range] at this
  exact this
theorem bds12 {m : Nat} : ∀ {Fs : List (List Trm)}, (∀ F ∈ Fs, OkT m 12 F) → Bds Fs (Fs.map fun _ => 12) ∧ (Fs.map fun _ => (12 : Int)).sum = 12 * Fs.length
  | [], _ => ⟨.nil, rfl⟩
  | F :: Fs, h => by
    obtain ⟨h1, h2⟩ := bds12 fun G hG => h G (List.mem_cons_of_mem _ hG)
    refine ⟨.cons ⟨(show (0 : Int) ≤ 12 by decide), fun t ht p hp => ((h F List.mem_cons_self t ht).2 p hp).2⟩ h1, ?_⟩
    rw [List.map_cons, List.sum_cons, h2, List.length_cons]
    omega
theorem low_le {m : Nat} {Fs : List (List Trm)} {n : Int} (ok : ∀ F ∈ Fs, OkT m 12 F) (l : Low Fs n) : n ≤ 12 * Fs.length := by
  obtain ⟨h1, h2⟩ := bds12 ok
  rw [← h2]
  exact l _ h1
theorem sm20 {n : Nat} (h : n ≤ 1000) : Sm 20 (n : Int) := Nat.lt_of_le_of_lt (show (n : Int).natAbs ≤ 1000 by omega) (by decide)
end Mb
namespace Mb
open PySem L2
theorem paired_ex {α β γ : Type} {P : α → γ → Prop} {R : β → γ → Prop} : ∀ {l : List α} {m : List β}, Paired (fun a b => ∃ c, P a c ∧ R b c) l m → ∃ cs, Paired P l cs ∧ Paired R m cs
  | _, _, .nil => ⟨[], .nil, .nil⟩
  | _, _, .cons ⟨c, p, r⟩ t => by
    obtain ⟨cs, h1, h2⟩ := paired_ex t
    exact ⟨c :: cs, .cons p h1, .cons r h2⟩
theorem paired_comp {α β γ : Type} {R : α → β → Prop} {S : α → γ → Prop} {T : γ → β → Prop} : ∀ {l : List α} {m : List β} {n : List γ}, Paired R l m → Paired S l n → (∀ a ∈ l, ∀ b c, R a b → S a c → T c b) → Paired T n m
  | _, _, _, .nil, .nil, _ => .nil
  | _, _, _, .cons r t, .cons s u, h => .cons (h _ List.mem_cons_self _ _ r s) (paired_comp t u fun a ha => h a (List.mem_cons_of_mem _ ha))
theorem len_put {a : Nat} {n : Int} {F : List Trm} : (putT a n F).length = F.length := by unfold putT; rw [List.length_map]
theorem sm_put {a m S : Nat} {n : Int} {F : List Trm} (ok : OkT m 12 F) (sz : ∀ t ∈ F, Sm S t.2) (sn : Sm 20 n) : ∀ t ∈ putT a n F, Sm (S + 241) t.2 := fun x hx => by
  obtain ⟨t, ht, rfl⟩ := List.mem_map.mp hx
  have hp : (t.1.getD a 0).toNat ≤ 12 := by
    by_cases c : a < t.1.length
    · have := (ok t ht).2 _ (getD_at c).1
      omega
    · rw [List.getD_eq_getElem?_getD, List.getElem?_eq_none (by omega)]
      decide
  exact ((sz t ht).mul (sn.pow _)).mono (by omega)
theorem gf_put {a m S : Nat} {n : Int} {F G : List Trm} (g : Gf m S F) (sn : Sm 20 n) (fm : Fm (putT a n F) G) : Gf m (S + 300) G :=
  ⟨fm.up, fun x hx => ((fm.mem x).mp hx).1, fm.ok (put_ok (by decide) g.ok), fun t ht => (fm.sm (sm_put g.ok g.sz sn) (by rw [len_put]; have := g.len; omega) t ht).mono (by omega), by have := fm.len; rw [len_put] at this; have := g.len; omega⟩
theorem low_put {Fs Gs : List (List Trm)} {n : Int} (b : ∀ gs, Bds Fs gs → Bds Gs gs) (l : Low Gs n) : Low Fs n := fun gs h => l gs (b gs h)
end Mb
namespace Mb
open PySem L2
/-! ### the forms that the law draws -/
def pk (m a p : Nat) : List Int := (List.range m).map fun k => if k = a then (p : Int) else 0
theorem pk_len {m a p : Nat} : (pk m a p).length = m := by unfold pk; rw [List.length_map, List.length_range]
theorem pk_ok {m a p : Nat} : ∀ x ∈ pk m a p, 0 ≤ x ∧ x ≤ (p : Int) := fun x hx => by
  obtain ⟨k, _, rfl⟩ := List.mem_map.mp hx
  split <;> omega
theorem pk_out (m a : Nat) : pk m m 1 = pk m a 0 := List.map_congr_left fun k hk => by
  have := List.mem_range.mp hk
  rw [if_neg (by omega)]
  split <;> rfl
theorem pk_add {m a p q : Nat} : addL (pk m a p) (pk m a q) = pk m a (p + q) := by
  refine List.ext_getElem (by rw [addL_len pk_len pk_len, pk_len]) fun i h1 h2 => ?_
  simp only [addL, pk, List.getElem_zipWith, List.getElem_map, List.getElem_range]
  split <;> omega
theorem okT_pk {m a : Nat} {n : Int} {c : Int} (hc : 1 ≤ c) : OkT m c [(pk m a 1, n)] := fun t ht => by
  rw [List.mem_singleton.mp ht]
  exact ⟨pk_len, fun x hx => by have := pk_ok x hx; omega⟩
theorem okT_app {m : Nat} {c : Int} {a b : List Trm} (h1 : OkT m c a) (h2 : OkT m c b) : OkT m c (a ++ b) := fun t ht => (List.mem_append.mp ht).elim (h1 t) (h2 t)
structure Gx (m : Nat) (c : Int) (L S : Nat) (F : List Trm) : Prop where
  up : F.Pairwise fun x y => lexL x.1 y.1 = true
  nz : ∀ x ∈ F, x.2 ≠ 0
  ok : OkT m c F
  len : F.length ≤ L
  sz : ∀ t ∈ F, Sm S t.2
theorem Fm.gx {m L S : Nat} {c : Int} {ts F : List Trm} (fm : Fm ts F) (ok : OkT m c ts) (l : ts.length ≤ L) (hL : L ≤ 1000) (sz : ∀ t ∈ ts, Sm S t.2) : Gx m c L (S + 10) F :=
  ⟨fm.up, fun x hx => ((fm.mem x).mp hx).1, fm.ok ok, Nat.le_trans fm.len l, fm.sm sz (by omega)⟩
theorem okT_mono {m : Nat} {c d : Int} {F : List Trm} (h : OkT m c F) (l : c ≤ d) : OkT m d F := fun t ht => ⟨(h t ht).1, fun p hp => by have := (h t ht).2 p hp; omega⟩
theorem Gx.gf {m L S T : Nat} {c : Int} {F : List Trm} (g : Gx m c L S F) (hc : c ≤ 12) (hL : L ≤ 400) (hS : S ≤ T) : Gf m T F :=
  ⟨g.up, g.nz, okT_mono g.ok hc, fun t ht => (g.sz t ht).mono hS, Nat.le_trans g.len hL⟩
theorem gx_mul {m L M S T : Nat} {c d : Int} {F G R : List Trm} (f : Gx m c L S F) (g : Gx m d M T G) (fm : Fm (mulT F G) R) (hL : L * M ≤ 1000) : Gx m (c + d) (L * M) (S + T + 10) R := by
  have ll : (mulT F G).length ≤ L * M := by rw [mul_len]; exact Nat.mul_le_mul f.len g.len
  refine fm.gx (mul_ok f.ok g.ok) ll hL fun x hx => ?_
  obtain ⟨t, ht, hx⟩ := List.mem_flatMap.mp hx
  obtain ⟨u, hu, rfl⟩ := List.mem_map.mp hx
  exact (f.sz t ht).mul (g.sz u hu)
/-- powers of the a-th unknown alone, up to k -/
def Lad (m a k : Nat) (F : List Trm) : Prop := ∀ t ∈ F, ∃ p : Nat, p ≤ k ∧ t.1 = pk m a p
theorem nodup_le {α : Type} [BEq α] [LawfulBEq α] : ∀ {A B : List α}, A.Nodup → (∀ x ∈ A, x ∈ B) → A.length ≤ B.length
  | [], _, _, _ => Nat.zero_le _
  | a :: r, B, nd, h => by
    obtain ⟨h1, h2⟩ := List.nodup_cons.mp nd
    have ha := h a List.mem_cons_self
    have := nodup_le (B := B.erase a) h2 fun x hx => (List.mem_erase_of_ne (fun e => h1 (by rw [← e]; exact hx))).mpr (h x (List.mem_cons_of_mem _ hx))
    rw [List.length_erase_of_mem ha] at this
    have := List.length_pos_of_mem ha
    rw [List.length_cons]
    omega
theorem Lad.few {m a k : Nat} {F : List Trm} (h : Lad m a k F) (up : F.Pairwise fun x y => lexL x.1 y.1 = true) : F.length ≤ k + 1 := by
  have := nodup_le (up_nd up) (B := (List.range (k + 1)).map (pk m a)) fun x hx => by
    obtain ⟨t, ht, rfl⟩ := List.mem_map.mp hx
    obtain ⟨p, hp, e⟩ := h t ht
    exact List.mem_map.mpr ⟨p, List.mem_range.mpr (by omega), e.symm⟩
  rw [List.length_map, List.length_map, List.length_range] at this
  exact this
theorem Lad.mul {m a k : Nat} {F G R : List Trm} (f : Lad m a k F) (g : Lad m a 1 G) (fm : Fm (mulT F G) R) : Lad m a (k + 1) R := fun x hx => by
  obtain ⟨t, ht, e⟩ := fm_key fm hx
  obtain ⟨u, hu, ht⟩ := List.mem_flatMap.mp ht
  obtain ⟨v, hv, rfl⟩ := List.mem_map.mp ht
  obtain ⟨p, hp, e1⟩ := f u hu
  obtain ⟨q, hq, e2⟩ := g v hv
  refine ⟨p + q, by omega, ?_⟩
  rw [← e]
  show addL u.1 v.1 = _
  rw [e1, e2, pk_add]
theorem gx_step {m a k S : Nat} {F G R : List Trm} (f : Gx m (k : Int) (k + 1) S F) (lf : Lad m a k F) (g : Gx m 1 2 16 G) (lg : Lad m a 1 G) (fm : Fm (mulT F G) R) (hk : k ≤ 20) : Gx m ((k + 1 : Nat) : Int) (k + 2) (S + 26) R ∧ Lad m a (k + 1) R := by
  have h1 := gx_mul f g fm (by omega)
  have h2 := lf.mul lg fm
  refine ⟨⟨h1.up, h1.nz, okT_mono h1.ok (by omega), h2.few h1.up, h1.sz⟩, h2⟩
def spUnit (K : PySem.W.Frag) : Sp := fun vs H Q _ => ∃ (m a : Nat) (n : Int), vs = [.int (m : Int), .int (a : Int), .int n] ∧ m ≤ 7 ∧ ∀ (v : V) (H' : Hp), Same H H' → Tm H' v (pk m a 1, n) → Q v H'
def spFactor (K : PySem.W.Frag) : Sp := fun vs H Q _ => ∃ (p : Addr) (m : Nat) (b : Int), vs = [.ref p, .int (m : Int)] ∧ Pl H p b ∧ b ≤ 1900000 ∧ m ≤ 7 ∧
  ∀ (f : Addr) (F : List Trm) (H' : Hp), But p H H' → Pl H' p (b + 5) → H f = none → FmAt H' f F → Gx m 1 3 15 F → Q (.ref f) H'
def spLadder (K : PySem.W.Frag) : Sp := fun vs H Q _ => ∃ (m a lo c : Nat), vs = [.int (m : Int), .int (a : Int), .int (lo : Int), .int (c : Int)] ∧ m ≤ 7 ∧ a < m ∧ lo ≤ 12 ∧ c ≤ 12 ∧
  ∀ (f : Addr) (F : List Trm) (H' : Hp), Same H H' → H f = none → FmAt H' f F → Gf m 1000 F → Q (.ref f) H'
def spForms (K : PySem.W.Frag) : Sp := fun vs H Q _ => ∃ (p : Addr) (m : Nat) (b : Int), vs = [.ref p, .int (m : Int)] ∧ Pl H p b ∧ b ≤ 1000000 ∧ m ≤ 7 ∧
  ∀ (l : Addr) (us : List V) (Fs : List (List Trm)) (H' : Hp), But p H H' → H l = none → H' l = some (.lst us) → Fvs H' us Fs → (∀ F ∈ Fs, Gf m 1000 F) → Fs.length ≤ 64 → Q (.ref l) H'
def spRungs (K : PySem.W.Frag) : Sp := fun vs H Q _ => ∃ (p : Addr) (m : Nat) (b : Int), vs = [.ref p, .int (m : Int)] ∧ Pl H p b ∧ b ≤ 1100000 ∧ 1 ≤ m ∧ m ≤ 7 ∧
  ∀ (l : Addr) (us : List V) (Fs : List (List Trm)) (H' : Hp), But p H H' → H l = none → H' l = some (.lst us) → Fvs H' us Fs → (∀ F ∈ Fs, Gf m 1000 F) → Fs.length ≤ 64 → Q (.ref l) H'
def spThere (K : PySem.W.Frag) : Sp := fun vs H Q _ => ∃ (f l : Addr) (F : List Trm) (m : Nat) (ns : List Int), vs = [.ref f, .ref l] ∧ FmAt H f F ∧ Gf m 1000 F ∧ SqL K H l (ns.map V.int) ∧ ns.length = m ∧ m ≤ 7 ∧ (∀ n ∈ ns, Sm 20 n) ∧ Q (.int (evI ns F)) H
def spEnds (K : PySem.W.Frag) : Sp := fun vs H Q _ => ∃ (l r : Addr) (us : List V) (Fs : List (List Trm)) (m : Nat) (ns : List Int), vs = [.ref l, .int (m : Int), .ref r] ∧ H l = some (.lst (ns.map V.int)) ∧ ns.length = m ∧ SqL K H r us ∧ Fvs H us Fs ∧ (∀ F ∈ Fs, Gf m 1000 F) ∧ m ≤ 7 ∧ Fs.length ≤ 64 ∧ (∀ n ∈ ns, 0 ≤ n ∧ n ≤ 800 ∧ Low Fs n) ∧ (∀ F ∈ Fs, evI ns F ≠ 0) ∧ ∀ H', Same H H' → Q (.bl true) H'
end Mb
namespace Mb
open PySem L2
theorem r_forR1 {ta : TA} {g : TG} {tb : TS} {D : Ends} {σ : St} {H : Hp} (q : ta σ H fun vs H1 => ∃ j : Int, vs = [.int j] ∧ -(2 ^ 62) ≤ j ∧ j < 2 ^ 62 ∧ ∃ W : Nat → Nat → St → Hp → Prop, (∃ m, W 0 m σ H1) ∧ ∀ i m σ H, W i m σ H →
    ((Itr 0 j.toNat).stop i H ∧ D.nx σ H) ∨ ((Itr 0 j.toNat).go i H ∧ ∃ N : St → Hp → Prop, (∀ σ' H', N σ' H' → ∃ m', m' < m ∧ W (i + 1) m' σ' H') ∧ ∀ x H', (Itr 0 j.toNat).yld i H x H' → g x σ H' fun σ2 H2 => tb { D with nx := N, ct := N, bk := D.nx } σ2 H2)) : tFor (iRng1 ta) g tb D σ H := q
theorem paired_takeN {α β : Type} {R : α → β → Prop} : ∀ {l : List α} {m : List β} (k : Nat), Paired R l m → Paired R (l.take k) (m.take k)
  | _, _, _, .nil => by rw [List.take_nil, List.take_nil]; exact .nil
  | _, _, 0, .cons _ _ => .nil
  | _, _, k + 1, .cons r t => .cons r (paired_takeN k t)
theorem paired_dropN {α β : Type} {R : α → β → Prop} : ∀ {l : List α} {m : List β} (k : Nat), Paired R l m → Paired R (l.drop k) (m.drop k)
  | _, _, _, .nil => by rw [List.drop_nil, List.drop_nil]; exact .nil
  | _, _, 0, .cons r t => .cons r t
  | _, _, k + 1, .cons _ t => paired_dropN k t
theorem paired_appN {α β : Type} {R : α → β → Prop} {c : List α} {d : List β} (h : Paired R c d) : ∀ {l : List α} {m : List β}, Paired R l m → Paired R (l ++ c) (m ++ d)
  | _, _, .nil => h
  | _, _, .cons r t => .cons r (paired_appN h t)
theorem paired_setN {α β : Type} {R : α → β → Prop} {a : α} {b : β} (h : R a b) : ∀ {l : List α} {m : List β} (k : Nat), Paired R l m → Paired R (l.set k a) (m.set k b)
  | _, _, _, .nil => .nil
  | _, _, 0, .cons _ t => .cons h t
  | _, _, k + 1, .cons r t => .cons r (paired_setN h k t)
theorem gf_nil {m S : Nat} : Gf m S [] := ⟨.nil, (fun x hx => by cases hx), (fun x hx => by cases hx), (fun x hx => by cases hx), Nat.zero_le _⟩
end Mb
namespace Mb
open PySem L2
theorem pmon_take {ns ks : List Int} {i : Nat} {n k : Int} (hn : ns[i]? = some n) (hk : ks[i]? = some k) : pmon (ns.take (i + 1)) (ks.take (i + 1)) = pmon (ns.take i) (ks.take i) * n ^ k.toNat := by
  induction i generalizing ns ks with
  | zero =>
    match ns, ks, hn, hk with
    | n' :: ns, k' :: ks, hn, hk =>
      simp only [List.getElem?_cons_zero, Option.some.injEq] at hn hk
      subst hn hk
      show n' ^ k'.toNat * pmon (ns.take 0) (ks.take 0) = 1 * n' ^ k'.toNat
      rw [show pmon (ns.take 0) (ks.take 0) = 1 by rw [List.take_zero]; rfl, Int.mul_one, Int.one_mul]
  | succ i ih =>
    match ns, ks, hn, hk with
    | n' :: ns, k' :: ks, hn, hk =>
      have e := ih (ns := ns) (ks := ks) (by simpa using hn) (by simpa using hk)
      show n' ^ k'.toNat * pmon (ns.take (i + 1)) (ks.take (i + 1)) = n' ^ k'.toNat * pmon (ns.take i) (ks.take i) * _
      rw [e]
      exact (Int.mul_assoc _ _ _).symm
theorem inV_int {z : Int} {zs : List Int} : inV (.int z) (zs.map V.int) = decide (z ∈ zs) := by
  unfold inV
  rw [List.any_map]
  induction zs with
  | nil => rfl
  | cons a r ih =>
    rw [List.any_cons, ih]
    show ((a == z) || _) = _
    by_cases h : a = z
    · subst h; simp
    · have : ¬ z = a := fun e => h e.symm
      simp [h, this]
theorem r_notInI {K : PySem.W.Frag} {H : Hp} {Q : VK} {a : Addr} {z : Int} {zs : List Int} (h : SqL K H a (zs.map V.int)) (n : z ∉ zs) (q : Q (.bl true) H) : rIn K true (.int z) (.ref a) H Q :=
  ⟨a, _, rfl, .inl h, rfl, by rw [List.all_map]; exact List.all_eq_true.mpr (fun _ _ => rfl), by rw [inV_int, decide_eq_false n]; exact q⟩
theorem r_catN {H : Hp} {Q : VK} {l b : Addr} {xs zs : List V} (h1 : H l = some (.lst xs)) (h2 : H b = some (.lst zs)) (s : xs.length + zs.length ≤ sizeLine) (k : ∀ (p : Addr) (H' : Hp), Same H H' → H' p = some (.lst (xs ++ zs)) → Q (.ref p) H') : rCat (.ref l) (.ref b) H Q := ⟨l, b, xs, zs, rfl, rfl, h1, h2, s, fun p hp => k p _ (same_new hp _) upd_same⟩
/-! ### forms told as data -/
def dF (F : List Trm) : PyData := .tuple (F.map fun t => .tuple [.tuple (t.1.map PyData.int), .int t.2])
theorem Fv.dp {K : PySem.W.Frag} {H : Hp} {v : V} {F : List Trm} (h : Fv H v F) : Dp K H v (dF F) := by
  obtain ⟨f, rfl, us, h1, h2⟩ := h
  exact .tup (tupOf h1) h2.tdp
theorem fvs_dp {K : PySem.W.Frag} {H : Hp} : ∀ {us : List V} {Fs : List (List Trm)}, Fvs H us Fs → DpAll K H us (Fs.map dF)
  | _, _, .nil => .nil
  | _, _, .cons h r => .cons h.dp (fvs_dp r)
theorem fs_lay : ∀ Fs : List (List Trm), PyData.canLayAll0 (Fs.map dF) = true ∧ PyData.depthAll (Fs.map dF) ≤ 11
  | [] => ⟨rfl, by decide⟩
  | F :: r => by
    obtain ⟨h1, h2⟩ := fs_lay r
    obtain ⟨g1, g2⟩ := tms_lay F
    rw [List.map_cons]
    refine ⟨?_, ?_⟩
    · unfold PyData.canLayAll0
      simp only [dF, PyData.canLay0, g1, Bool.true_and]
      exact h1
    · unfold PyData.depthAll
      simp only [dF, PyData.depth]
      have : PyData.depthAll (r.map dF) ≤ 11 := h2
      omega
theorem fs_sh (Fs : List (List Trm)) : SeqAt.shaped (.list (Fs.map dF)) = true ∧ PyData.canLay0 (.list (Fs.map dF)) = true := by
  obtain ⟨h1, h2⟩ := fs_lay Fs
  have e1 : PyData.canLay0 (.list (Fs.map dF)) = true := by unfold PyData.canLay0; exact h1
  have d1 : PyData.depth (.list (Fs.map dF)) ≤ 64 := by unfold PyData.depth; omega
  refine ⟨?_, e1⟩
  unfold SeqAt.shaped
  rw [e1, decide_eq_true d1]
  rfl
theorem r_neFs {K : PySem.W.Frag} {H : Hp} {Q : VK} {a b : Addr} {us vs : List V} {Fs : List (List Trm)} (h1 : SqL K H a us) (h2 : SqL K H b vs) (t1 : Fvs H us Fs) (t2 : Fvs H vs Fs) (k : Q (.bl false) H) : rNeD K (.ref a) (.ref b) H Q := by
  obtain ⟨s, c⟩ := fs_sh Fs
  refine ⟨_, _, .lst h1 (fvs_dp t1), .lst h2 (fvs_dp t2), s, s, ?_⟩
  rw [SeqAt.eqv_refl _ c]
  exact k
theorem eqv_empty (F : List Trm) : PyData.eqv (dF F) (.tuple []) = decide (F = []) := by
  cases F with
  | nil => rfl
  | cons t r => simp [dF, PyData.eqv, PyData.eqvAll]
theorem dp_empty {K : PySem.W.Frag} {H : Hp} {a : Addr} (h : H a = some (.tup [])) : Dp K H (.ref a) (.tuple []) := .tup (tupOf h) .nil
theorem any_empty (Fs : List (List Trm)) : ((Fs.map dF).any fun z => PyData.eqv z (.tuple [])) = decide ([] ∈ Fs) := by
  rw [List.any_map]
  induction Fs with
  | nil => rfl
  | cons F r ih =>
    rw [List.any_cons, ih]
    show (PyData.eqv (dF F) (.tuple []) || _) = _
    rw [eqv_empty]
    by_cases h : F = []
    · subst h; simp
    · have : ¬ [] = F := fun e => h e.symm
      simp [h, this]
theorem r_inEmpty {K : PySem.W.Frag} {H : Hp} {Q : VK} {a b : Addr} {us : List V} {Fs : List (List Trm)} (ha : H a = some (.tup [])) (hb : SqL K H b us) (t : Fvs H us Fs) (q : Q (.bl (decide ([] ∈ Fs))) H) : rInD K (.ref a) (.ref b) H Q := by
  refine ⟨_, _, dp_empty ha, .lst hb (fvs_dp t), by decide +kernel, (fs_sh Fs).1, ?_⟩
  rw [any_empty]
  exact q
/-- the first nought form -/
theorem first_empty : ∀ {Fs : List (List Trm)}, [] ∈ Fs → ∃ j : Nat, Fs[j]? = some [] ∧ ∀ i, i < j → Fs[i]? ≠ some []
  | F :: Fs, h => by
    by_cases e : F = []
    · subst e
      exact ⟨0, rfl, fun i hi => absurd hi (Nat.not_lt_zero _)⟩
    · have h' : [] ∈ Fs := by
        rcases List.mem_cons.mp h with z | z
        · exact absurd z.symm e
        · exact z
      obtain ⟨j, h1, h2⟩ := first_empty h'
      refine ⟨j + 1, by rw [List.getElem?_cons_succ]; exact h1, fun i hi z => ?_⟩
      cases i with
      | zero =>
        rw [List.getElem?_cons_zero] at z
        exact e (Option.some.inj z)
      | succ i =>
        rw [List.getElem?_cons_succ] at z
        exact h2 i (by omega) z
end Mb
namespace Mb
open PySem L2
theorem u65 {k : Nat} {A : Around} (r : Room k A) : A.units + 65 < cLine := by have := r.un; omega
def rNotNo : R2 := fun x y H Q => y = .non ∧ Q (.bl (!decide (x = .non))) H
theorem op_notNo {X : Cx} : OpR X (compareOp .IsNot) rNotNo := op_notN
theorem r_notNN {H : Hp} {Q : VK} (k : Q (.bl false) H) : rNotNo .non .non H Q := ⟨rfl, k⟩
theorem r_xf {a : Addr} {cls : Value} {d : Option Addr} {C : Addr} {f : Str} {te : TE} {σ : St} {H : Hp} {Q : VK} (q : te σ H fun x H1 => x = .ref a ∧ cls = .ref C ∧ ∃ (dd : Addr) (fs : List (Str × V)) (v : V), d = some dd ∧ H1 dd = some (.xd fs) ∧ fs.lookup f = some v ∧ Q v H1) : tXf a cls d C f te σ H Q := q
end Mb
namespace Mb
open PySem L2
def top (i : Nat) : Stmt := PySem.Challenge.pw_movebook_k73_off_nought.main.body.getD i (.Pass ⟨0, 0, 0, 0⟩)
abbrev s_put_in : Stmt := top 4
theorem sc_put_in : FnScope ["form", "at", "number", "grown", "powers", "one"] ["form", "at", "number"] (defScope s_put_in) := ⟨rfl, rfl, rfl, by decide +kernel, rfl, by decide +kernel, by decide +kernel⟩
abbrev s_off_nought : Stmt := top 5
theorem sc_off_nought : FnScope ["many", "forms", "place", "form", "left", "numbers", "at", "number"] ["many", "forms"] (defScope s_off_nought) := ⟨rfl, rfl, rfl, by decide +kernel, rfl, by decide +kernel, by decide +kernel⟩
abbrev s_summed : Stmt := top 6
theorem sc_summed : FnScope ["terms", "numbers", "powers", "number"] ["terms"] (defScope s_summed) := ⟨rfl, rfl, rfl, by decide +kernel, rfl, by decide +kernel, by decide +kernel⟩
abbrev s_greatest_power : Stmt := top 7
theorem sc_greatest_power : FnScope ["form", "powers", "number"] ["form"] (defScope s_greatest_power) := ⟨rfl, rfl, rfl, by decide +kernel, rfl, by decide +kernel, by decide +kernel⟩
abbrev s_powers_of : Stmt := top 8
theorem sc_powers_of : FnScope ["number", "most", "grown", "power"] ["number", "most"] (defScope s_powers_of) := ⟨rfl, rfl, rfl, by decide +kernel, rfl, by decide +kernel, by decide +kernel⟩
abbrev s_least_off : Stmt := top 9
theorem sc_least_off : FnScope ["forms", "at", "split", "form", "most", "number"] ["forms", "at"] (defScope s_least_off) := ⟨rfl, rfl, rfl, by decide +kernel, rfl, by decide +kernel, by decide +kernel⟩
abbrev s_columns : Stmt := top 10
theorem sc_columns : FnScope ["form", "at", "found", "powers", "number", "rest"] ["form", "at"] (defScope s_columns) := ⟨rfl, rfl, rfl, by decide +kernel, rfl, by decide +kernel, by decide +kernel⟩
abbrev s_brings_nought : Stmt := top 11
theorem sc_brings_nought : FnScope ["split", "grown", "parts"] ["split", "grown"] (defScope s_brings_nought) := ⟨rfl, rfl, rfl, by decide +kernel, rfl, by decide +kernel, by decide +kernel⟩
abbrev s_all_nought : Stmt := top 12
theorem sc_all_nought : FnScope ["parts", "grown", "column", "power", "number"] ["parts", "grown"] (defScope s_all_nought) := ⟨rfl, rfl, rfl, by decide +kernel, rfl, by decide +kernel, by decide +kernel⟩
abbrev s_pool : Stmt := top 14
theorem sc_pool : FnScope ["_law_script", "_law_at", "_law_cell", "_law_digits"] ["_law_script", "_law_at"] (defScope s_pool) := ⟨rfl, rfl, rfl, by decide +kernel, rfl, by decide +kernel, by decide +kernel⟩
abbrev s_take : Stmt := top 15
theorem sc_take : FnScope ["_law_pool_here", "_law_wide", "_law_found", "_law_seed"] ["_law_pool_here", "_law_wide"] (defScope s_take) := ⟨rfl, rfl, rfl, by decide +kernel, rfl, by decide +kernel, by decide +kernel⟩
abbrev s_whole : Stmt := top 16
theorem sc_whole : FnScope ["_law_found"] ["_law_found"] (defScope s_whole) := ⟨rfl, rfl, rfl, by decide +kernel, rfl, by decide +kernel, by decide +kernel⟩
abbrev s_gather : Stmt := top 17
theorem sc_gather : FnScope ["_law_terms", "_law_kept", "_law_powers", "_law_number"] ["_law_terms"] (defScope s_gather) := ⟨rfl, rfl, rfl, by decide +kernel, rfl, by decide +kernel, by decide +kernel⟩
abbrev s_product : Stmt := top 18
theorem sc_product : FnScope ["_law_one", "_law_other", "_law_terms", "_law_powers", "_law_number", "_law_others", "_law_count", "_law_k"] ["_law_one", "_law_other"] (defScope s_product) := ⟨rfl, rfl, rfl, by decide +kernel, rfl, by decide +kernel, by decide +kernel⟩
abbrev s_power : Stmt := top 19
theorem sc_power : FnScope ["_law_number", "_law_count", "_law_total", "_law_k"] ["_law_number", "_law_count"] (defScope s_power) := ⟨rfl, rfl, rfl, by decide +kernel, rfl, by decide +kernel, by decide +kernel⟩
abbrev s_unit : Stmt := top 20
theorem sc_unit : FnScope ["_law_many", "_law_at", "_law_number", "_law_k"] ["_law_many", "_law_at", "_law_number"] (defScope s_unit) := ⟨rfl, rfl, rfl, by decide +kernel, rfl, by decide +kernel, by decide +kernel⟩
abbrev s_factor : Stmt := top 21
theorem sc_factor : FnScope ["_law_pool_here", "_law_many", "_law_way", "_law_flat", "_law_at", "_law_other"] ["_law_pool_here", "_law_many"] (defScope s_factor) := ⟨rfl, rfl, rfl, by decide +kernel, rfl, by decide +kernel, by decide +kernel⟩
abbrev s_ladder : Stmt := top 22
theorem sc_ladder : FnScope ["_law_many", "_law_at", "_law_low", "_law_count", "_law_form", "_law_k"] ["_law_many", "_law_at", "_law_low", "_law_count"] (defScope s_ladder) := ⟨rfl, rfl, rfl, by decide +kernel, rfl, by decide +kernel, by decide +kernel⟩
abbrev s_rungs : Stmt := top 23
theorem sc_rungs : FnScope ["_law_pool_here", "_law_many", "_law_at", "_law_count", "_law_begin", "_law_forms_here", "_law_k", "_law_number"] ["_law_pool_here", "_law_many"] (defScope s_rungs) := ⟨rfl, rfl, rfl, by decide +kernel, rfl, by decide +kernel, by decide +kernel⟩
abbrev s_forms : Stmt := top 24
theorem sc_forms : FnScope ["_law_pool_here", "_law_many", "_law_ladders", "_law_holes", "_law_forms_here", "_law_k", "_law_form", "_law_j", "_law_low", "_law_at", "_law_count"] ["_law_pool_here", "_law_many"] (defScope s_forms) := ⟨rfl, rfl, rfl, by decide +kernel, rfl, by decide +kernel, by decide +kernel⟩
abbrev s_there : Stmt := top 25
theorem sc_there : FnScope ["_law_form", "_law_numbers", "_law_total", "_law_powers", "_law_number", "_law_k"] ["_law_form", "_law_numbers"] (defScope s_there) := ⟨rfl, rfl, rfl, by decide +kernel, rfl, by decide +kernel, by decide +kernel⟩
abbrev s_ends : Stmt := top 26
theorem sc_ends : FnScope ["_law_found", "_law_many", "_law_forms_here", "_law_most", "_law_powers", "_law_number", "_law_form"] ["_law_found", "_law_many", "_law_forms_here"] (defScope s_ends) := ⟨rfl, rfl, rfl, by decide +kernel, rfl, by decide +kernel, by decide +kernel⟩
abbrev s_law : Stmt := top 27
theorem sc_law : FnScope ["_law_script", "_law_pool_here", "_law_many", "_law_forms_here", "_law_handed", "_law_found", "_law_place", "_law_kind", "e", "_law_again", "_law_k"] ["_law_script"] (defScope s_law) := ⟨rfl, rfl, rfl, by decide +kernel, rfl, by decide +kernel, by decide +kernel⟩
/-! ### the steps of a reading, taken by a word of one's own -/
local macro_rules | `(tactic| walk_at "sm") => `(tactic| first
  | assumption
  | ((with_reducible refine Mb.Sm.mul (m := ?mm) (n := ?nn) ?ga ?gb); (case ga => walk_at "sm"); (case gb => walk_at "sm"))
  | ((with_reducible refine Mb.Sm.addm (m := ?mm) (n := ?nn) ?ga ?gb); (case ga => walk_at "sm"); (case gb => walk_at "sm"))
  | ((with_reducible refine Mb.Sm.subm (m := ?mm) (n := ?nn) ?ga ?gb); (case ga => walk_at "sm"); (case gb => walk_at "sm"))
  | ((with_reducible refine Mb.Sm.neg (n := ?nn) ?ga); (case ga => walk_at "sm"))
  | exact Mb.Sm.lit (by decide)
  | exact Mb.Sm.lit2 (by decide +kernel))
local macro_rules | `(tactic| walk_at "c") => `(tactic| first
  | assumption
  | exact ⟨by decide, by decide, by decide⟩
  | (show (0 : Int) < _; omega)
  | exact Mb.Sm.cdiv (n := 64) (by decide) (by decide)
  | exact Mb.Sm.cmul (by walk_at "sm") (by walk_at "sm"))
local macro_rules | `(tactic| walk_at "st") => `(tactic| first
  | ((with_reducible refine Mb.r_var (v := ?vv) ?hv ?_); (case hv => rfl))
  | with_reducible refine Mb.r_c ?_
  | with_reducible refine Mb.r_op ?_
  | with_reducible refine Mb.r_un ?_
  | with_reducible refine Mb.r_i0 ?_
  | with_reducible refine Mb.r_u ?_
  | with_reducible refine Mb.r_eqI ?_
  | with_reducible refine Mb.r_neI ?_
  | with_reducible refine Mb.r_eqB ?_
  | with_reducible refine Mb.r_eqS ?_
  | with_reducible refine Mb.r_cb ?_
  | with_reducible refine Mb.r_bits ?_
  | with_reducible refine Mb.r_int ?_
  | with_reducible refine Mb.r_nil ?_
  | with_reducible refine Mb.r_cons ?_
  | with_reducible refine Mb.r_tup ?_
  | with_reducible refine Mb.r_lst ?_
  | with_reducible refine Mb.r_call ?_
  | with_reducible refine Mb.r_seqA ?_
  | with_reducible refine Mb.r_seqD ?_
  | with_reducible refine Mb.r_seqP ?_
  | with_reducible refine Mb.r_next ?_
  | with_reducible refine Mb.r_nx ?_
  | with_reducible refine Mb.r_asg ?_
  | ((with_reducible refine Mb.r_gname ?_); dsimp only [List.set])
  | with_reducible refine Mb.r_gsub ?_
  | with_reducible refine Mb.r_ret ?_
  | with_reducible refine Mb.r_drop ?_
  | with_reducible refine Mb.r_ifs ?_
  | with_reducible refine Mb.r_test ?_
  | with_reducible refine Mb.r_tB ?_
  | with_reducible refine Mb.r_bl ?_
  | (dsimp only; (with_reducible refine Mb.r_bl ?_))
  | with_reducible refine Mb.r_and ?_
  | with_reducible refine Mb.r_or ?_
  | with_reducible refine Mb.r_not ?_
  | with_reducible refine Mb.r_andV ?_
  | with_reducible refine Mb.r_orV ?_
  | with_reducible refine Mb.r_notV ?_
  | with_reducible refine Mb.r_par ?_
  | ((with_reducible refine Mb.r_two ?_); dsimp only [List.set])
  | ((with_reducible refine Mb.r_ixL (xs := ?xx) (v := ?vv) ?h1 ?h2 ?_); (case h1 => first | assumption | exact Mb.lstOf (by assumption)); (case h2 => rfl))
  | ((with_reducible refine Mb.r_ixT (xs := ?xx) (v := ?vv) ?h1 ?h2 ?_); (case h1 => first | assumption | exact Mb.tupOf (by assumption)); (case h2 => rfl))
  | ((with_reducible refine Mb.r_i ?c ?_); (case c => walk_at "c"))
  | with_reducible refine Mb.r_T ?_
  | with_reducible refine Mb.r_F ?_
  | with_reducible refine Mb.r_nT ?_
  | with_reducible refine Mb.r_nF ?_)
section
variable {P : Program} {w : World} {K : PySem.W.Frag} {mg : Str → Option Value} {base : Heap}
abbrev s_init_BookError : Stmt := inClass (top 1) 0
theorem sc_init_BookError : FnScope ["self", "message", "words"] ["self", "message", "words"] (defScope s_init_BookError) := ⟨rfl, rfl, rfl, by decide +kernel, rfl, by decide +kernel, by decide +kernel⟩
theorem ok_init_BookError (F : FnB K mg "BookError" "BookError.__init__" s_init_BookError) (z_ValueError : mg "ValueError" = none) (VI : PySem.W.findCls K (.type "ValueError") (.type "type") "__init__" = some (.val (.builtin "ValueError.__init__"))) : KnB P w K mg base 1 "BookError" ["self", "message", "words"] (spBook K) := by
  refine F.made sc_init_BookError (fun vs H Q E h => ?_) (fun f cdv A outer s H vs Q E hr h => ?_) rfl (fun _ _ _ _ _ _ _ us its h1 h2 => match us, h1, its, h2 with | [_, _, _], _, [_, _], _ => ⟨_, rfl, rfl⟩)
  · obtain ⟨a, C, wd, m, rfl, _⟩ := h
    rfl
  obtain ⟨a, C, wd, m, rfl, ha, T, hno, q⟩ := h
  refine ⟨_, (pss_cons (ps_expr (pe_veinit (by rfl) z_ValueError VI (pa_cons (pv 0) (pa_cons (pv 1) pa_nil))))
    (pss_one (ps_ost (pv 0) (pv 2)))), ?_⟩
  show (_ : TS) _ [some (.ref a), some (.str m), some (.ref wd)] _
  repeat walk_at "st"
  refine r_vei ?_
  repeat walk_at "st"
  refine ⟨a, C, _, rfl, (by show 1 ≤ 1000; decide), T, ha, ?_⟩
  refine r_ost ?_
  repeat walk_at "st"
  refine ⟨a, C, rfl, T, hno, .inl ⟨ha, fun dx nd ne => ?_⟩⟩
  exact q dx _ nd ne (but_new nd) upd_same (by rw [upd_ne ne]; exact upd_same)
abbrev s_init_Nought : Stmt := inClass (top 2) 0
theorem sc_init_Nought : FnScope ["self", "number"] ["self", "number"] (defScope s_init_Nought) := ⟨rfl, rfl, rfl, by decide +kernel, rfl, by decide +kernel, by decide +kernel⟩
theorem ok_init_Nought {C : Addr} (F : FnI K mg "Nought" "Nought.__init__" C s_init_Nought) (G_init_BookError : KnB P w K mg base 1 "BookError" ["self", "message", "words"] (spBook K)) (hnoW : PySem.W.findIn K (.ref C) "words" = some none) (hno : PySem.W.findIn K (.ref C) "number" = some none) : MkC P w K mg base 2 "Nought" C (spInitR C "number" okInt) := by
  refine F.made sc_init_Nought (fun vs H Q E h => ?_) (fun f cdv A outer s H vs Q E hr h T => ?_) (fun _ _ _ _ _ _ us hl => match us, hl with | [_, _], _ => rfl)
  · obtain ⟨a, v, rfl, _⟩ := h
    rfl
  obtain ⟨a, v, rfl, ⟨z, rfl⟩, ha, q⟩ := h
  refine ⟨_, (pss_cons (ps_expr (pe_own G_init_BookError (hr.mono (by decide)) (by rfl) (pa_cons (pv 0) (pa_cons pe_str (pa_cons (pe_tup (pa_cons pe_str pa_nil)) pa_nil)))))
    (pss_one (ps_ost (pv 0) (pv 1)))), ?_⟩
  show (_ : TS) _ [some (.ref a), some (.int z)] _
  repeat walk_at "st"
  refine ⟨sz rfl, fun wd nwd => ?_⟩
  have s1 := same_new nwd (.tup [V.str "Nought"])
  repeat walk_at "st"
  refine ⟨a, C, wd, _, rfl, s1 _ _ ha, T, hnoW, fun dx H2 nd ne b2 e1 e2 => ?_⟩
  refine r_ost ?_
  repeat walk_at "st"
  refine ⟨a, C, rfl, T, hno, .inr ⟨dx, _, e1, e2, by simp, ?_⟩⟩
  exact q wd dx _ (s1.free nd) ne (but_updR' (fun c o nc hc => b2 c o nc (s1 _ _ hc)) (s1.free nd)) (by rw [upd_ne (Ne.symm ne)]; exact e1) upd_same
theorem ok_summed (F : Fn K mg "summed" s_summed) (z_sorted : mg "sorted" = none) (z_tuple : mg "tuple" = none) : Kn P w K mg base 1 "summed" ["terms"] (spSummed K) := by
  refine F.kn sc_summed (fun vs H Q E h => ?_) (fun f cdv A outer s H vs Q E hr h => ?_) (fun _ _ _ _ _ _ us hl => match us, hl with | [_], _ => rfl)
  · obtain ⟨l, us, ts, m, c, rfl, _⟩ := h
    rfl
  obtain ⟨l, us, ts, m, c, rfl, hl, tm, ok, h4, q⟩ := h
  have ln : us.length = ts.length := Paired.length tm
  refine ⟨_, (pss_cons (ps_set (i := 1) sc_summed.nd rfl (.inr rfl) pe_dnewT)
    (pss_cons (ps_for PassesOwn.never rfl (pi_list (pv 0)) (pg_tup (by rfl) (pgs_cons (pg_name (i := 2) sc_summed.nd rfl (.inl rfl)) (pgs_cons (pg_name (i := 3) sc_summed.nd rfl (.inl rfl)) pgs_nil)))
    (pss_one (ps_dput (u1 hr.units) (pv 1) (pv 2) (pe_op op_add (pe_dget2 (u1 hr.units) (pv 1) (pv 2) pe_int ⟨by rfl, by rfl, by rfl, by rfl⟩) (pv 3)) (by rfl))))
    (pss_one (ps_ret (pe_tupleOf (by rfl) z_tuple (pe_lc (own := [("powers", 2)]) (g := gName 2) (by rfl) sc_summed.nd (pi_list (pe_callB (cr_sortedDT (by rfl)) (by rfl) z_sorted (by decide +kernel) (pa_cons (pv 1) pa_nil))) (blkOk_by (own := [("powers", 2)]) (N := ["terms", "numbers", "powers", "number"]) (sc := (defScope s_summed)) (by decide +kernel)) (fun _ _ _ _ _ => pg_name (i := 2) sc_summed.nd rfl (.inl rfl)) (fun _ _ _ _ _ => pts_one (pt_cmpR op_ne (pe_dget (u1 hr.units) (pv 1) (pv 2) (fun _ _ => rfl)) pe_int (nomark _))) (fun _ _ _ _ _ => (pe_tup (pa_cons (pv 2) (pa_cons (pe_dget (u1 hr.units) (pv 1) (pv 2) (fun _ _ => rfl)) pa_nil)))))))))), ?_⟩
  show (_ : TS) _ [some (.ref l), none, none, none] _
  repeat walk_at "st"
  refine fun D nD => ?_
  have sD := same_new nD (.dT [])
  have eD : upd H D (.dT []) D = some (.dT (keysD (accOf []))) := upd_same
  generalize upd H D (.dT []) = H1 at *
  repeat walk_at "st"
  with_reducible refine r_cut (fun σ H' => ∃ y2 y3 : Option V, σ = [some (.ref l), some (.ref D), y2, y3] ∧ Same H H' ∧ H' D = some (.dT (keysD (accOf ts)))) ?U1 ?V1
  case V1 =>
    intro N J
    refine ⟨.ref l, rfl, l, rfl, ⟨us, sD.seq hl⟩, ?_⟩
    refine for_list (xs := us) (fun i σ H' => ∃ y2 y3 : Option V, σ = [some (.ref l), some (.ref D), y2, y3] ∧ Same H H' ∧ H' D = some (.dT (keysD (accOf (ts.take i))))) ?_ ?_ ?_ ?_
    · exact ⟨_, _, rfl, sD, by rw [List.take_zero]; exact eD⟩
    · rintro i σ H' _ ⟨_, _, _, g', _⟩
      exact g'.seq hl
    · rintro i v σ H3 hv ⟨y2, y3, rfl, g3, k3⟩
      obtain ⟨t, ht, a, p, rfl, ta, pw⟩ := tm.at hv
      have hi : i < ts.length := (List.getElem?_eq_some_iff.mp ht).1
      have e1 : ts.take (i + 1) = ts.take i ++ [t] := by rw [List.take_succ, ht, Option.toList_some]
      rw [e1, acc_snoc]
      have lM : (accOf (ts.take i)).length ≤ _ := accs_len (ts.take i) []
      rw [List.length_take] at lM
      simp only [List.length_nil] at lM
      have nd := (acc_ok (ts.take i)).nd
      generalize accOf (ts.take i) = M at *
      have pw3 := pw_key (show Pw H3 p t.1 from g3 _ _ pw)
      refine r_gT (tupOf (g3 _ _ ta)) rfl ?_
      refine r_g2 ?_
      repeat walk_at "st"
      refine r_dput ?_
      repeat walk_at "st"
      refine r_dget2 ?_
      repeat walk_at "st"
      refine ⟨D, rfl, .inr ⟨_, .inl k3⟩, ?_⟩
      repeat walk_at "st"
      refine ⟨_, .inr ⟨_, t.1.map Sum.inl, p, .inl k3, rfl, pw3, rfl⟩, ?_⟩
      rw [keysD_get nd 0]
      repeat walk_at "st"
      refine ⟨D, _, rfl, .inr ⟨_, t.1.map Sum.inl, p, k3, rfl, pw3, by unfold keysD; rw [List.length_map]; exact Nat.lt_of_le_of_lt (show M.length ≤ 4000 by omega) (by decide), rfl⟩, ?_⟩
      rw [keysD_put nd]
      exact ⟨_, _, rfl, same_updS g3 nD, upd_same⟩
    · rintro σ H3 ⟨y2, y3, rfl, g3, k3⟩
      rw [ln, List.take_length] at k3
      exact J _ _ ⟨_, _, rfl, g3, k3⟩
  rintro σ H3 ⟨y2, y3, rfl, g3, k3⟩
  repeat walk_at "st"
  refine r_then ?_
  refine r_lcM ?_
  repeat walk_at "st"
  refine ⟨D, _, (accOf ts).map (·.1), rfl, k3, keysD_keys, few_keys ok, fun ls qs p hp hs np hq => ?_⟩
  obtain ⟨H4, e4, s4, k4⟩ := nw np (.lst (qs.map V.ref))
  rw [← e4]
  clear e4
  have l4 : (accOf ts).length ≤ _ := accs_len ts []
  simp only [List.length_nil] at l4
  have l5 : ls.length ≤ 10000 := by
    rw [hp.length_eq, List.length_map]
    omega
  refine lc_form (sumK ts) (lstOf k4) l5 (fun _ => rfl) (Paired.mapP hq fun q k h => s4 _ _ h) (fun q k H' hk pw g R kk => ?_) (fun q k H' hk pw g R kk => ?_) fun D2 us2 H5 s5 n5 e5 tm5 => ?_
  · have dg : DGet H' D (.ref q) (some (.int (sumK ts k))) := by
      have := keysD_val (ts := ts) (k := k) (hp.mem_iff.mp hk)
      exact .inr ⟨_, k.map Sum.inl, q, .inl (g _ _ (s4 _ _ k3)), rfl, pw_key pw, this.symm⟩
    show tTest _ [some (.ref l), some (.ref D), some (.ref q), y3] H' R
    repeat walk_at "st"
    refine r_dg ?_
    repeat walk_at "st"
    refine ⟨D, _, rfl, dg, ?_⟩
    repeat walk_at "st"
    exact kk H' (Same.refl _)
  · have dg : DGet H' D (.ref q) (some (.int (sumK ts k))) := by
      have := keysD_val (ts := ts) (k := k) (hp.mem_iff.mp hk)
      exact .inr ⟨_, k.map Sum.inl, q, .inl (g _ _ (s4 _ _ k3)), rfl, pw_key pw, this.symm⟩
    show tTup _ [some (.ref l), some (.ref D), some (.ref q), y3] H' R
    repeat walk_at "st"
    refine r_dg ?_
    repeat walk_at "st"
    refine ⟨D, _, rfl, dg, ?_⟩
    repeat walk_at "st"
    refine ⟨sz rfl, fun a na => ?_⟩
    exact kk a _ (same_new na _) upd_same
  refine .inl ⟨D2, us2, rfl, lstOf e5, fun f nf => ?_⟩
  have s6 := same_new nf (.tup us2)
  exact q f _ _ (g3.trans (s4.trans (s5.trans s6))) (((g3.trans s4).trans s5).free nf) ⟨us2, upd_same, tm5.tmk (Kt.same s6)⟩ (fm_of hp hs)
theorem ok_powers_of (F : Fn K mg "powers_of" s_powers_of) (z_range : mg "range" = none) : Kn P w K mg base 1 "powers_of" ["number", "most"] (spPows K) := by
  refine F.kn sc_powers_of (fun vs H Q E h => ?_) (fun f cdv A outer s H vs Q E hr h => ?_) (fun _ _ _ _ _ _ us hl => match us, hl with | [_, _], _ => rfl)
  · obtain ⟨n, k, B, rfl, _⟩ := h
    rfl
  obtain ⟨n, k, B, rfl, sn, hB, hB1, hk, q⟩ := h
  refine ⟨_, (pss_cons (ps_set (i := 2) sc_powers_of.nd rfl (.inl rfl) (pe_lst (pa_cons pe_int pa_nil)))
    (pss_cons (ps_for PassesOwn.never rfl (pi_range1 (by rfl) z_range (pa_cons (pv 1) pa_nil)) (pg_name (i := 3) sc_powers_of.nd rfl (.inl rfl))
    (pss_one (ps_expr (pe_bm PySem.F.plainAttrs_list PySem.F.slot_list_append PySem.F.type_list_append mt_append (pv 2) (pa_cons (pe_op op_mulW (pe_ix ix_list (pv 2) (pe_un un_neg pe_int) (fun _ _ => rfl)) (pv 0)) pa_nil)))))
    (pss_one (ps_ret (pv 2))))), ?_⟩
  show (_ : TS) _ [some (.int n), some (.int (k : Int)), none, none] _
  repeat walk_at "st"
  refine ⟨sz rfl, fun L nL => ?_⟩
  have sL := same_new nL (.lst [V.int 1])
  have eL : upd H L (.lst [V.int 1]) L = some (.lst (((List.range 1).map fun j => n ^ j).map V.int)) := by
    rw [upd_same]
    show some (HO.lst [V.int 1]) = some (HO.lst [V.int (n ^ 0)])
    rw [Int.pow_zero]
  generalize upd H L (.lst [V.int 1]) = H1 at *
  repeat walk_at "st"
  with_reducible refine r_cut (fun σ H' => ∃ y : Option V, σ = [some (.int n), some (.int (k : Int)), some (.ref L), y] ∧ Same H H' ∧ H' L = some (.lst (((List.range (k + 1)).map fun j => n ^ j).map V.int))) ?U1 ?V1
  case V1 =>
    intro N J
    refine ⟨.int (k : Int), rfl, (k : Int), rfl, by omega, by omega, ?_⟩
    rw [show ((k : Int)).toNat = k from by omega]
    refine for_range (n := k) (fun i σ H' => ∃ y : Option V, σ = [some (.int n), some (.int (k : Int)), some (.ref L), y] ∧ Same H H' ∧ H' L = some (.lst (((List.range (i + 1)).map fun j => n ^ j).map V.int))) ⟨_, rfl, sL, eL⟩ ?_ ?_
    · rintro i σ H' hi ⟨y, rfl, g, e⟩
      have e1 : ((List.range (i + 1)).map fun j => n ^ j).map V.int = ((List.range i).map fun j => n ^ j).map V.int ++ [V.int (n ^ i)] := by
        rw [List.range_succ, List.map_append, List.map_append]
        rfl
      repeat walk_at "st"
      refine r_bm ?_
      repeat walk_at "st"
      refine ⟨.inl ⟨rfl, _, lstOf e⟩, ?_⟩
      repeat walk_at "st"
      refine r_ixL (v := .int (n ^ i)) (lstOf e) (by rw [e1]; exact at_last) ?_
      repeat walk_at "st"
      refine ⟨_, _, rfl, rfl, Sm.cmul (m := B * i + 1) (n := B) (sn.pow i) sn (by omega) (by omega) (by have : B * i ≤ 10000 * 50 := Nat.mul_le_mul hB (by omega); omega), ?_⟩
      repeat walk_at "st"
      refine ⟨L, _, .int (n ^ i * n), rfl, rfl, e, by rw [List.length_map, List.length_map, List.length_range]; exact Nat.lt_of_le_of_lt (show i + 1 ≤ 1000 by omega) (by decide), ?_⟩
      refine ⟨_, rfl, same_updS g nL, ?_⟩
      rw [upd_same, List.range_succ (n := i + 1), List.map_append, List.map_append, ← Int.pow_succ]
      rfl
    · rintro σ H' ⟨y, rfl, g, e⟩
      exact J _ _ ⟨_, rfl, g, e⟩
  rintro σ H' ⟨y, rfl, g, e⟩
  repeat walk_at "st"
  exact q L H' g nL e
theorem ok_greatest_power (F : Fn K mg "greatest_power" s_greatest_power) (z_max : mg "max" = none) : Kn P w K mg base 1 "greatest_power" ["form"] (spGreatest K) := by
  refine F.kn sc_greatest_power (fun vs H Q E h => ?_) (fun f cdv A outer s H vs Q E hr h => ?_) (fun _ _ _ _ _ _ us hl => match us, hl with | [_], _ => rfl)
  · obtain ⟨f, Fo, m, c, rfl, _⟩ := h
    rfl
  obtain ⟨f, Fo, m, c, rfl, ⟨us, hf, tm⟩, ok, hc, hl, q⟩ := h
  refine ⟨_, (pss_one (ps_ret (pe_callBK (cr_maxDf (by rfl) hr.units) (by rfl) z_max (by decide +kernel) (pa_cons (pe_lc (own := [("powers", 1), ("number", 2)]) (g := gTup K 2 (gCons (gName 1) (gCons (gName 2) gNil))) (by rfl) sc_greatest_power.nd (pi_tup (pv 0)) (blkOk_by (own := [("powers", 1), ("number", 2)]) (N := ["form", "powers", "number"]) (sc := (defScope s_greatest_power)) (by decide +kernel)) (fun _ _ _ _ _ => pg_tup (by rfl) (pgs_cons (pg_name (i := 1) sc_greatest_power.nd rfl (.inl rfl)) (pgs_cons (pg_name (i := 2) sc_greatest_power.nd rfl (.inl rfl)) pgs_nil))) (fun _ _ _ _ _ => pts_nil) (fun _ _ _ _ _ => (pe_callBK (show CallRK _ (.builtin "max") ["default"] (rMaxDf K) from cr_maxDf (by rfl) hr.units) (by rfl) z_max (by decide +kernel) (pa_cons (pv 1) pa_nil) (pk_cons pe_int pk_nil)))) pa_nil) (pk_cons pe_int pk_nil)))), ?_⟩
  show (_ : TS) _ [some (.ref f), none, none] _
  repeat walk_at "st"
  refine r_ckw ?_
  repeat walk_at "st"
  refine r_lcT ?_
  repeat walk_at "st"
  refine lc_terms (fun _ v t => v = .int (maxOf t.1 0)) (fun _ h => h) hf tm (by omega) (fun _ _ => rfl) (fun t q' H' ht g pw S k => ?_) fun D vs H1 s1 n1 e1 pr => ?_
  · refine r_ckw ?_
    repeat walk_at "st"
    refine ⟨q', t.1, 0, rfl, rfl, .inr (tupOf pw), ?_⟩
    exact k _ H' (Same.refl _) rfl
  · repeat walk_at "st"
    have ev : vs = (Fo.map fun t => maxOf t.1 0).map V.int := by
      clear e1 n1 s1 q hl ok tm hf
      induction pr with
      | nil => rfl
      | cons h _ ih => rw [h, ih]; rfl
    rw [ev] at e1
    refine ⟨D, _, 0, rfl, rfl, .inl (lstOf e1), ?_⟩
    have zero : ∀ t ∈ Fo, ∀ p ∈ t.1, 0 ≤ p ∧ p ≤ c := fun t ht => (ok t ht).2
    have hin : ∀ t ∈ Fo, 0 ≤ maxOf t.1 0 ∧ maxOf t.1 0 ≤ c := fun t ht => maxOf_in (zero t ht) hc
    have out := maxOf_in (ns := Fo.map fun t => maxOf t.1 0) (c := c) (fun p hp => by
      obtain ⟨t, ht, rfl⟩ := List.mem_map.mp hp
      exact hin t ht) hc
    refine q _ H1 s1 out.1 out.2 fun t ht p hp => ?_
    exact Int.le_trans (maxOf_le p hp) (maxOf_le _ (List.mem_map.mpr ⟨t, ht, rfl⟩))
theorem ok_put_in (F : Fn K mg "put_in" s_put_in) (G_powers_of : Kn P w K mg base 1 "powers_of" ["number", "most"] (spPows K)) (G_greatest_power : Kn P w K mg base 1 "greatest_power" ["form"] (spGreatest K)) (G_summed : Kn P w K mg base 1 "summed" ["terms"] (spSummed K)) : Kn P w K mg base 2 "put_in" ["form", "at", "number"] (spPutIn K) := by
  refine F.kn sc_put_in (fun vs H Q E h => ?_) (fun f cdv A outer s H vs Q E hr h => ?_) (fun _ _ _ _ _ _ us hl => match us, hl with | [_, _, _], _ => rfl)
  · obtain ⟨f, Fo, a, m, B, C, c, n, rfl, _⟩ := h
    rfl
  obtain ⟨f, Fo, a, m, B, C, c, n, rfl, hf, ok, hc, hc2, ha, hm, hl, sn, hB, hB2, sC, hC, hC2, q⟩ := h
  refine ⟨_, (pss_cons (ps_set (i := 3) sc_put_in.nd rfl (.inr rfl) (pe_kn G_powers_of (hr.mono (by decide)) (by rfl) (pa_cons (pv 2) (pa_cons (pe_kn G_greatest_power (hr.mono (by decide)) (by rfl) (pa_cons (pv 0) pa_nil)) pa_nil))))
    (pss_one (ps_ret (pe_kn G_summed (hr.mono (by decide)) (by rfl) (pa_cons (pe_lc (own := [("powers", 4), ("one", 5)]) (g := gTup K 2 (gCons (gName 4) (gCons (gName 5) gNil))) (by rfl) sc_put_in.nd (pi_tup (pv 0)) (blkOk_by (own := [("powers", 4), ("one", 5)]) (N := ["form", "at", "number", "grown", "powers", "one"]) (sc := (defScope s_put_in)) (by decide +kernel)) (fun _ _ _ _ _ => pg_tup (by rfl) (pgs_cons (pg_name (i := 4) sc_put_in.nd rfl (.inl rfl)) (pgs_cons (pg_name (i := 5) sc_put_in.nd rfl (.inl rfl)) pgs_nil))) (fun _ _ _ _ _ => pts_nil) (fun _ _ _ _ _ => (pe_tup (pa_cons (pe_tup (show PA _ _ (StX.tStar K _ _) from StX.pa_star (pe_slice (show SlR _ (rSlT K) from sl_tup) (pv 4) po_none (po_some (pv 1))) (pa_cons pe_int (show PA _ _ (StX.tStar K _ _) from StX.pa_star (pe_slice (show SlR _ (rSlT K) from sl_tup) (pv 4) (po_some (pe_op op_add (pv 1) pe_int)) po_none) pa_nil)))) (pa_cons (pe_op op_mulW (pv 5) (pe_ix (show IxR _ (rIxL K) from ix_list) (pv 3) (pe_ix (show IxR _ (rIxT K) from ix_tup) (pv 4) (pv 1) (fun _ _ => rfl)) (fun _ _ => rfl))) pa_nil))))) pa_nil))))), ?_⟩
  show (_ : TS) _ [some (.ref f), some (.int (a : Int)), some (.int n), none, none, none] _
  repeat walk_at "st"
  refine ⟨f, Fo, m, c, rfl, hf, ok, hc, by omega, fun g H1 s1 g0 g1 gle => ?_⟩
  obtain ⟨gn, rfl⟩ : ∃ gn : Nat, g = (gn : Int) := ⟨g.toNat, by omega⟩
  repeat walk_at "st"
  refine ⟨n, gn, B, rfl, sn, hB2, hB, by omega, fun L H2 s2 n2 e2 => ?_⟩
  have g2 := s1.trans s2
  obtain ⟨us, hf2, tm2⟩ := hf.kt (Kt.same g2)
  repeat walk_at "st"
  refine r_lcT ?_
  repeat walk_at "st"
  refine lc_terms (fun H v t => Tm H v (t.1.set a 0, t.2 * n ^ (t.1.getD a 0).toNat)) (fun k h => Tm.kt k h) hf2 tm2 (by omega) (fun _ _ => rfl) (fun t q' H' ht g' pw S k => ?_) fun D vs H3 s3 n3 e3 pr => ?_
  · have la : a < t.1.length := by rw [(ok t ht).1]; exact ha
    obtain ⟨gm, ga⟩ := getD_at la
    have gp := (ok t ht).2 _ gm
    have gl := gle t ht _ gm
    obtain ⟨j, hj⟩ : ∃ j : Nat, t.1.getD a 0 = (j : Int) := ⟨(t.1.getD a 0).toNat, by omega⟩
    show tTup _ [some (.ref f), some (.int (a : Int)), some (.int n), some (.ref L), some (.ref q'), some (.int t.2)] H' S
    repeat walk_at "st"
    refine r_star ?_
    refine r_slR ?_
    repeat walk_at "st"
    refine r_noPart ?_
    refine r_partR ?_
    repeat walk_at "st"
    refine ⟨q', _, rfl, tupOf pw, cutA la, fun p1 np1 => ?_⟩
    obtain ⟨J1, e1, t1, k1⟩ := nw np1 (.tup (cutV (t.1.map V.int) none (some (a : Int))))
    rw [← e1]
    clear e1
    refine ⟨p1, _, rfl, .inl (tupOf k1), ?_⟩
    repeat walk_at "st"
    refine r_star ?_
    refine r_slR ?_
    repeat walk_at "st"
    refine r_partR ?_
    repeat walk_at "st"
    refine r_noPart ?_
    refine ⟨q', _, rfl, tupOf (t1 _ _ pw), cutB la, fun p2 np2 => ?_⟩
    obtain ⟨J2, e4, t2, k2⟩ := nw np2 (.tup (cutV (t.1.map V.int) (some ((a : Int) + 1)) none))
    rw [← e4]
    clear e4
    refine ⟨p2, _, rfl, .inl (tupOf k2), ?_⟩
    repeat walk_at "st"
    refine ⟨?_, fun p3 np3 => ?_⟩
    · have := congrArg List.length (set_cut la)
      simp only [List.length_append, List.length_map, List.length_set, List.length_cons, List.length_nil, List.append_nil] at this ⊢
      exact Nat.le_trans (show _ ≤ 1000 by have := (ok t ht).1; omega) (by decide)
    have e5 : cutV (t.1.map V.int) none (some (a : Int)) ++ V.int 0 :: (cutV (t.1.map V.int) (some ((a : Int) + 1)) none ++ []) = (t.1.set a 0).map V.int := by
      rw [List.append_nil]
      exact set_cut la
    rw [e5]
    obtain ⟨J3, e6, t3, k3⟩ := nw np3 (.tup ((t.1.set a 0).map V.int))
    rw [← e6]
    clear e6
    have t13 := t1.trans (t2.trans t3)
    repeat walk_at "st"
    refine r_ixT (v := .int (j : Int)) (tupOf (t13 _ _ pw)) (by rw [ga, hj]) ?_
    repeat walk_at "st"
    refine r_ixL (v := .int (n ^ j)) (lstOf (t13 _ _ (g' _ _ e2))) (pows_at (by omega)) ?_
    repeat walk_at "st"
    have hj40 : j ≤ 40 := by omega
    refine ⟨_, _, rfl, rfl, Sm.cmul (m := C) (n := B * j + 1) (sC t ht) (sn.pow j) (by omega) (by omega) (by have : B * j ≤ 10000 * 40 := Nat.mul_le_mul hB2 hj40; omega), ?_⟩
    repeat walk_at "st"
    refine ⟨sz rfl, fun p4 np4 => ?_⟩
    refine k _ _ (t13.trans (same_new np4 _)) ⟨p4, p3, rfl, ?_, ?_⟩
    · rw [upd_same]
      show _ = some (HO.tup [V.ref p3, V.int (t.2 * n ^ (t.1.getD a 0).toNat)])
      rw [hj, Int.toNat_natCast]
    · exact same_new np4 _ _ _ k3
  have lp := Paired.length pr
  repeat walk_at "st"
  refine ⟨D, vs, putT a n Fo, m, c, rfl, lstOf e3, tmput pr, put_ok hc ok, by unfold putT; rw [List.length_map]; omega, fun gg G H4 s4 n4 f4 fm => ?_⟩
  exact q gg G H4 (g2.trans (s3.trans s4)) ((g2.trans s3).free n4) f4 fm
theorem ok_columns (F : Fn K mg "columns" s_columns) (z_list : mg "list" = none) : Kn P w K mg base 1 "columns" ["form", "at"] (spColumns K) := by
  refine F.kn sc_columns (fun vs H Q E h => ?_) (fun f cdv A outer s H vs Q E hr h => ?_) (fun _ _ _ _ _ _ us hl => match us, hl with | [_, _], _ => rfl)
  · obtain ⟨f, Fo, a, m, c, rfl, _⟩ := h
    rfl
  obtain ⟨f, Fo, a, m, c, rfl, ⟨us, hf, tm⟩, ok, ha, hm, hl, q⟩ := h
  have ln : us.length = Fo.length := Paired.length tm
  refine ⟨_, (pss_cons (ps_set (i := 2) sc_columns.nd rfl (.inl rfl) pe_dnewT)
    (pss_cons (ps_for PassesOwn.never rfl (pi_tup (pv 0)) (pg_tup (by rfl) (pgs_cons (pg_name (i := 3) sc_columns.nd rfl (.inl rfl)) (pgs_cons (pg_name (i := 4) sc_columns.nd rfl (.inl rfl)) pgs_nil)))
    (pss_cons (ps_set (i := 5) sc_columns.nd rfl (.inl rfl) (pe_tup (StX.pa_star (pe_slice sl_tup (pv 3) po_none (po_some (pv 1))) (StX.pa_star (pe_slice sl_tup (pv 3) (po_some (pe_op op_add (pv 1) pe_int)) po_none) pa_nil))))
    (pss_one (ps_expr (pe_bm PySem.F.plainAttrs_list PySem.F.slot_list_append PySem.F.type_list_append mt_append (pe_dsetdT (u1 hr.units) (pv 2) (pv 5) (pe_lst pa_nil) ⟨by rfl, by rfl, by rfl, by rfl⟩) (pa_cons (pe_tup (pa_cons (pe_ix ix_tup (pv 3) (pv 1) (fun _ _ => rfl)) (pa_cons (pv 4) pa_nil))) pa_nil))))))
    (pss_one (ps_ret (pe_listValsT (by rfl) (pv 2) (by rfl) z_list (by decide +kernel)))))), ?_⟩
  show (_ : TS) _ [some (.ref f), some (.int (a : Int)), none, none, none, none] _
  repeat walk_at "st"
  refine fun D nD => ?_
  have sD := same_new nD (.dT [])
  have eD : upd H D (.dT []) D = some (.dT (colD [])) := upd_same
  generalize upd H D (.dT []) = H1 at *
  repeat walk_at "st"
  let Pv : Nat → St → Hp → Prop := fun i σ H' => ∃ (y3 y4 y5 : Option V) (es : List (List Int × Addr)), σ = [some (.ref f), some (.int (a : Int)), some (.ref D), y3, y4, y5] ∧ Same H H' ∧ H' D = some (.dT (colD es)) ∧ (es.map (·.1)).Nodup ∧ (es.map (·.2)).Nodup ∧ es.length ≤ i ∧ (∀ t ∈ Fo.take i, cutK a t.1 ∈ es.map (·.1)) ∧ ∀ e ∈ es, H e.2 = none ∧ ∃ ws, H' e.2 = some (.lst ws) ∧ Paired (PrA H') ws (colOf a e.1 (Fo.take i))
  with_reducible refine r_cut (Pv Fo.length) ?U1 ?V1
  case V1 =>
    intro N J
    refine ⟨.ref f, rfl, f, rfl, ⟨us, tupOf (sD _ _ hf)⟩, ?_⟩
    refine for_tup (xs := us) Pv ?_ ?_ ?_ ?_
    · exact ⟨_, _, _, [], rfl, sD, eD, List.nodup_nil, List.nodup_nil, Nat.le_refl _, (fun t ht => by rw [List.take_zero] at ht; cases ht), fun e he => by cases he⟩
    · rintro i σ H' _ ⟨_, _, _, _, _, g', _⟩
      exact tupOf (g' _ _ hf)
    · rintro i v σ H3 hv ⟨y3, y4, y5, es, rfl, g3, d3, n1, n2, le, kin, col⟩
      obtain ⟨t, ht, qa, p, rfl, ta, pw⟩ := tm.at hv
      have htm := List.mem_of_getElem? ht
      have hi : i < Fo.length := (List.getElem?_eq_some_iff.mp ht).1
      have e1 : Fo.take (i + 1) = Fo.take i ++ [t] := by rw [List.take_succ, ht, Option.toList_some]
      have la : a < t.1.length := by rw [(ok t htm).1]; exact ha
      obtain ⟨gm, ga⟩ := getD_at la
      have gp := ((ok t htm).2 _ gm).1
      have pw3 : H3 p = some (.tup (t.1.map V.int)) := g3 _ _ pw
      refine r_gT (tupOf (g3 _ _ ta)) rfl ?_
      refine r_g2 ?_
      repeat walk_at "st"
      refine r_star ?_
      refine r_slR ?_
      repeat walk_at "st"
      refine r_noPart ?_
      refine r_partR ?_
      repeat walk_at "st"
      refine ⟨p, _, rfl, tupOf pw3, cutA la, fun p1 np1 => ?_⟩
      obtain ⟨J1, x1, t1, k1⟩ := nw np1 (.tup (cutV (t.1.map V.int) none (some (a : Int))))
      rw [← x1]
      clear x1
      refine ⟨p1, _, rfl, .inl (tupOf k1), ?_⟩
      refine r_star ?_
      refine r_slR ?_
      repeat walk_at "st"
      refine r_partR ?_
      repeat walk_at "st"
      refine r_noPart ?_
      refine ⟨p, _, rfl, tupOf (t1 _ _ pw3), cutB la, fun p2 np2 => ?_⟩
      obtain ⟨J2, x4, t2, k2⟩ := nw np2 (.tup (cutV (t.1.map V.int) (some ((a : Int) + 1)) none))
      rw [← x4]
      clear x4
      refine ⟨p2, _, rfl, .inl (tupOf k2), ?_⟩
      repeat walk_at "st"
      have er : cutV (t.1.map V.int) none (some (a : Int)) ++ (cutV (t.1.map V.int) (some ((a : Int) + 1)) none ++ []) = (cutK a t.1).map V.int := by
        rw [List.append_nil]
        exact cut_rest la
      refine ⟨?_, fun p3 np3 => ?_⟩
      · rw [er, List.length_map]
        exact Nat.le_trans (Nat.le_trans cutK_len (show t.1.length ≤ 60 by rw [(ok t htm).1]; exact hm)) (by decide)
      rw [er]
      obtain ⟨J3, x6, t3, k3⟩ := nw np3 (.tup ((cutK a t.1).map V.int))
      rw [← x6]
      clear x6
      have t13 := t1.trans (t2.trans t3)
      repeat walk_at "st"
      refine r_bm ?_
      refine r_dsetd ?_
      repeat walk_at "st"
      refine ⟨D, rfl, .inr ⟨_, .inl (t13 _ _ d3)⟩, ?_⟩
      repeat walk_at "st"
      refine ⟨sz rfl, fun L nL => ?_⟩
      obtain ⟨J4, x7, t4, k4⟩ := nw nL (.lst [])
      rw [← x7]
      clear x7
      have t14 := t13.trans t4
      have nLD : L ≠ D := fun z => by rw [z] at nL; rw [t13 _ _ d3] at nL; cases nL
      have k3' : J4 p3 = some (.tup (((cutK a t.1).map (Sum.inl : Int → Key)).map kV)) := pw_key (show Pw J4 p3 (cutK a t.1) from t4 _ _ k3)
      have hlD : (colD es).length < sizeLine := by
        unfold colD
        rw [List.length_map]
        exact Nat.lt_of_le_of_lt (show es.length ≤ 1000 by omega) (by decide)
      have lcol : ∀ e : List Int, (colOf a e (Fo.take i)).length ≤ 1000 := fun e => by
        unfold colOf
        rw [List.length_map]
        have := List.length_filter_le (fun t : Trm => decide (cutK a t.1 = e)) (Fo.take i)
        rw [List.length_take] at this
        omega
      refine ⟨colD es, (cutK a t.1).map Sum.inl, p3, t14 _ _ d3, rfl, k3', hlD, fun v hv => ?_, fun hn => ?_⟩
      · by_cases cin : cutK a t.1 ∈ es.map (·.1)
        · obtain ⟨e, he, ek⟩ := List.mem_map.mp cin
          have ek' : e.1 = cutK a t.1 := ek
          have := colD_some n1 he
          rw [ek', hv] at this
          obtain rfl : v = .ref e.2 := Option.some.inj this
          obtain ⟨fr, ws, hw, pr⟩ := col e he
          have hw4 := t14 _ _ hw
          refine ⟨.inl ⟨rfl, _, lstOf hw4⟩, ?_⟩
          repeat walk_at "st"
          refine r_ixT (tupOf (t14 _ _ pw3)) ga ?_
          repeat walk_at "st"
          refine ⟨sz rfl, fun T nT => ?_⟩
          obtain ⟨J5, x8, t5, k5⟩ := nw nT (.tup [V.int (t.1.getD a 0), .int t.2])
          rw [← x8]
          clear x8
          have t15 := t14.trans t5
          have hw5 := t15 _ _ hw
          refine ⟨e.2, ws, .ref T, rfl, rfl, hw5, by rw [Paired.length pr]; exact Nat.lt_of_le_of_lt (lcol _) (by decide), ?_⟩
          have kt : Kt J5 (upd J5 e.2 (.lst (ws ++ [.ref T]))) := Kt.lst hw5
          refine ⟨_, _, _, es, rfl, same_updS (g3.trans t15) fr, ?_, n1, n2, by omega, fun u hu => ?_, fun e' he' => ?_⟩
          · rw [upd_ne (fun z => by rw [← z, t15 _ _ d3] at hw5; cases hw5)]
            exact t15 _ _ d3
          · rw [e1] at hu
            rcases List.mem_append.mp hu with hu | hu
            · exact kin u hu
            · rw [List.mem_singleton.mp hu]; exact cin
          · obtain ⟨fr', ws', hw', pr'⟩ := col e' he'
            refine ⟨fr', ?_⟩
            by_cases cc : e' = e
            · subst cc
              rw [hw] at hw'
              obtain rfl : ws = ws' := by injection hw' with z; injection z
              refine ⟨_, upd_same, ?_⟩
              rw [e1, col_snoc, if_pos ek'.symm]
              refine paired_snoc' ⟨T, rfl, ?_⟩ (Paired.mapP pr fun _ _ h => PrA.kt kt (PrA.kt (Kt.same t15) h))
              rw [kt _ _ k5]
              show some (HO.tup [V.int (t.1.getD a 0), .int t.2]) = some (HO.tup [V.int ((t.1.getD a 0).toNat : Int), .int t.2])
              rw [Int.toNat_of_nonneg gp]
            · have nk : e'.1 ≠ cutK a t.1 := fun z => cc (by
                have h1 := colD_some n1 he'
                have h2 := colD_some n1 he
                rw [z] at h1
                rw [ek'] at h2
                rw [h1] at h2
                injection h2 with h2
                injection h2 with h2
                exact Prod.ext (z.trans ek'.symm) h2)
              have ne : e'.2 ≠ e.2 := fun z => cc (nodup_inj n2 _ he' _ he z)
              refine ⟨ws', by rw [upd_ne ne]; exact t15 _ _ hw', ?_⟩
              rw [e1, col_snoc, if_neg (fun z => nk z.symm), List.append_nil]
              exact Paired.mapP pr' fun _ _ h => PrA.kt kt (PrA.kt (Kt.same t15) h)
        · rw [colD_none cin] at hv
          cases hv
      · have cin : cutK a t.1 ∉ es.map (·.1) := fun cin => by
          obtain ⟨e, he, ek⟩ := List.mem_map.mp cin
          have ek' : e.1 = cutK a t.1 := ek
          have := colD_some n1 he
          rw [ek', hn] at this
          cases this
        rw [colD_put cin]
        have d4 := t14 _ _ d3
        have kt4 : Kt J4 (upd J4 D (.dT (colD (es ++ [(cutK a t.1, L)])))) := Kt.dT d4
        obtain ⟨J5, x8⟩ : ∃ J5, J5 = upd J4 D (.dT (colD (es ++ [(cutK a t.1, L)]))) := ⟨_, rfl⟩
        have d5 : J5 D = some (.dT (colD (es ++ [(cutK a t.1, L)]))) := by rw [x8]; exact upd_same
        have b5 : ∀ b o, b ≠ D → J4 b = some o → J5 b = some o := fun b o nb h => by rw [x8, upd_ne nb]; exact h
        have k5 := b5 _ _ nLD k4
        rw [← x8] at kt4 ⊢
        have g5 : Same H J5 := by rw [x8]; exact same_updS (g3.trans t14) nD
        clear x8
        refine ⟨.inl ⟨rfl, _, lstOf k5⟩, ?_⟩
        repeat walk_at "st"
        refine r_ixT (tupOf (kt4 _ _ (t14 _ _ pw3))) ga ?_
        repeat walk_at "st"
        refine ⟨sz rfl, fun T nT => ?_⟩
        obtain ⟨J6, x9, t6, k6⟩ := nw nT (.tup [V.int (t.1.getD a 0), .int t.2])
        rw [← x9]
        clear x9
        have hw6 := t6 _ _ k5
        refine ⟨L, [], .ref T, rfl, rfl, hw6, by decide, ?_⟩
        have kt : Kt J6 (upd J6 L (.lst ([] ++ [.ref T]))) := Kt.lst hw6
        have nH : H L = none := (g3.trans t13).free nL
        refine ⟨_, _, _, es ++ [(cutK a t.1, L)], rfl, same_updS (g5.trans t6) nH, ?_, ?_, ?_, ?_, fun u hu => ?_, fun e' he' => ?_⟩
        · rw [upd_ne (Ne.symm nLD)]
          exact t6 _ _ d5
        · rw [List.map_append]
          refine List.nodup_append.mpr ⟨n1, List.nodup_cons.mpr ⟨List.not_mem_nil, List.nodup_nil⟩, fun x hx y hy z => ?_⟩
          have hy' : y = cutK a t.1 := List.mem_singleton.mp hy
          exact cin (by rw [← hy', ← z]; exact hx)
        · rw [List.map_append]
          refine List.nodup_append.mpr ⟨n2, List.nodup_cons.mpr ⟨List.not_mem_nil, List.nodup_nil⟩, fun x hx y hy z => ?_⟩
          have hy' : y = L := List.mem_singleton.mp hy
          obtain ⟨e, he, ee⟩ := List.mem_map.mp hx
          obtain ⟨_, ws, hw, _⟩ := col e he
          have ee' : e.2 = L := (show e.2 = x from ee).trans (z.trans hy')
          rw [ee', t13.free nL] at hw
          cases hw
        · rw [List.length_append]
          exact Nat.add_le_add_right le 1
        · rw [e1] at hu
          rw [List.map_append]
          rcases List.mem_append.mp hu with hu | hu
          · exact List.mem_append_left _ (kin u hu)
          · rw [List.mem_singleton.mp hu]
            exact List.mem_append_right _ List.mem_cons_self
        · rcases List.mem_append.mp he' with he' | he'
          · obtain ⟨fr', ws', hw', pr'⟩ := col e' he'
            have nk : e'.1 ≠ cutK a t.1 := fun z => cin (by rw [← z]; exact List.mem_map.mpr ⟨e', he', rfl⟩)
            have nD' : e'.2 ≠ D := fun z => by rw [z, d3] at hw'; cases hw'
            have nL' : e'.2 ≠ L := fun z => by rw [z, t13.free nL] at hw'; cases hw'
            refine ⟨fr', ws', by rw [upd_ne nL']; exact t6 _ _ (b5 _ _ nD' (t14 _ _ hw')), ?_⟩
            rw [e1, col_snoc, if_neg (fun z => nk z.symm), List.append_nil]
            exact Paired.mapP pr' fun _ _ h => PrA.kt kt (PrA.kt (Kt.same t6) (PrA.kt kt4 (PrA.kt (Kt.same t14) h)))
          · rw [List.mem_singleton.mp he']
            refine ⟨nH, _, upd_same, ?_⟩
            have e0 : colOf a (cutK a t.1) (Fo.take i) = [] := by
              unfold colOf
              rw [List.map_eq_nil_iff, List.filter_eq_nil_iff]
              intro u hu hd
              exact cin (by rw [← of_decide_eq_true hd]; exact kin u hu)
            rw [e1, col_snoc, if_pos rfl, e0]
            refine .cons ⟨T, rfl, ?_⟩ .nil
            rw [kt _ _ k6]
            show some (HO.tup [V.int (t.1.getD a 0), .int t.2]) = some (HO.tup [V.int ((t.1.getD a 0).toNat : Int), .int t.2])
            rw [Int.toNat_of_nonneg gp]
    · rintro σ H3 h3
      rw [ln] at h3
      exact J _ _ h3
  rintro σ H3 ⟨y3, y4, y5, es, rfl, g3, d3, n1, n2, le, kin, col⟩
  rw [List.take_length] at kin col
  repeat walk_at "st"
  refine r_lvT ?_
  repeat walk_at "st"
  refine ⟨D, colD es, rfl, d3, fun R nR => ?_⟩
  obtain ⟨H4, x4, s4, k4⟩ := nw nR (.lst ((colD es).map (·.2)))
  rw [← x4]
  clear x4
  refine q (.ref R) H4 (g3.trans s4) ⟨R, _, es.map (·.1), rfl, g3.free nR, k4, ?_, kin, by rw [List.length_map]; exact le⟩
  unfold colD
  rw [List.map_map]
  clear d3 n1 n2 le kin k4
  have main : ∀ l : List (List Int × Addr), (∀ e ∈ l, e ∈ es) → Paired (fun v e => ColA (fun q => H q = none) H4 v (colOf a e Fo)) (l.map ((fun x : List Key × V => x.2) ∘ fun e => (e.1.map Sum.inl, V.ref e.2))) (l.map (·.1)) := by
    intro l
    induction l with
    | nil => intro _; exact .nil
    | cons e l ih =>
      intro h
      obtain ⟨fr, ws, hw, pr⟩ := col e (h e List.mem_cons_self)
      exact .cons ⟨e.2, ws, rfl, fr, s4 _ _ hw, Paired.mapP pr fun _ _ h => PrA.kt (Kt.same s4) h⟩ (ih fun x hx => h x (List.mem_cons_of_mem _ hx))
  exact main es fun _ h => h
theorem ok_all_nought (F : Fn K mg "all_nought" s_all_nought) (z_sum : mg "sum" = none) : Kn P w K mg base 1 "all_nought" ["parts", "grown"] (spAllN K) := by
  refine F.kn sc_all_nought (fun vs H Q E h => ?_) (fun f cdv A outer s H vs Q E hr h => ?_) (fun _ _ _ _ _ _ us hl => match us, hl with | [_, _], _ => rfl)
  · obtain ⟨v, g, Fo, a, m, S, k, x, rfl, _⟩ := h
    rfl
  obtain ⟨v, g, Fo, a, m, S, k, x, rfl, ⟨l, vs, es, rfl, _, hl, pr, kin, le⟩, ⟨fit, lF⟩, ha, hg, sx, hk, hS, hS2, q⟩ := h
  have ln : vs.length = es.length := Paired.length pr
  have cb : ∀ (e : List Int) (t : Nat × Int), t ∈ colOf a e Fo → Sm S t.2 ∧ t.1 ≤ k := fun e t ht => by
    obtain ⟨u, hu, rfl⟩ := List.mem_map.mp ht
    obtain ⟨s1, s2, s3⟩ := fit u (List.mem_filter.mp hu).1
    have := s3 _ (getD_at (k := u.1) (a := a) (by rw [s2]; exact ha)).1
    exact ⟨s1, by show (u.1.getD a 0).toNat ≤ k; omega⟩
  refine ⟨_, (pss_cons (ps_for PassesOwn.never rfl (pi_list (pv 0)) (pg_name (i := 2) sc_all_nought.nd rfl (.inl rfl))
    (pss_one (ps_if (pt_cmpR op_ne (pe_callB (cr_sum (by rfl)) (by rfl) z_sum (by decide +kernel) (pa_cons (pe_lc (own := [("power", 3), ("number", 4)]) (g := gTup K 2 (gCons (gName 3) (gCons (gName 4) gNil))) (by rfl) sc_all_nought.nd (pi_list (pv 2)) (blkOk_by (own := [("power", 3), ("number", 4)]) (N := ["parts", "grown", "column", "power", "number"]) (sc := (defScope s_all_nought)) (by decide +kernel)) (fun _ _ _ _ _ => pg_tup (by rfl) (pgs_cons (pg_name (i := 3) sc_all_nought.nd rfl (.inl rfl)) (pgs_cons (pg_name (i := 4) sc_all_nought.nd rfl (.inl rfl)) pgs_nil))) (fun _ _ _ _ _ => pts_nil) (fun _ _ _ _ _ => (pe_op op_mulW (pv 4) (pe_ix (show IxR _ (rIxL K) from ix_list) (pv 1) (pv 3) (fun _ _ => rfl))))) pa_nil)) pe_int (nomark _))
    (pss_one (ps_ret pe_bl))
    pss_nil)))
    (pss_one (ps_ret pe_bl))), ?_⟩
  show (_ : TS) _ [some (.ref l), some (.ref g), none, none, none] _
  repeat walk_at "st"
  with_reducible refine r_cut (fun σ H' => ∃ y2 : Option V, σ = [some (.ref l), some (.ref g), y2, none, none] ∧ Same H H' ∧ ∀ e ∈ es, pvl (colOf a e Fo) x = 0) ?U1 ?V1
  case V1 =>
    intro N J
    refine ⟨.ref l, rfl, l, rfl, ⟨vs, lstOf hl⟩, ?_⟩
    refine for_list (xs := vs) (fun i σ H' => ∃ y2 : Option V, σ = [some (.ref l), some (.ref g), y2, none, none] ∧ Same H H' ∧ ∀ e ∈ es.take i, pvl (colOf a e Fo) x = 0) ?_ ?_ ?_ ?_
    · exact ⟨_, rfl, Same.refl _, fun e he => by rw [List.take_zero] at he; cases he⟩
    · rintro i σ H' _ ⟨_, _, g', _⟩
      exact lstOf (g' _ _ hl)
    · rintro i v σ H1 hv ⟨y2, rfl, g1, z1⟩
      obtain ⟨e, he, c, us, rfl, _, hc, pc⟩ := LiI.paired_get pr hv
      have hem := List.mem_of_getElem? he
      have e1 : es.take (i + 1) = es.take i ++ [e] := by rw [List.take_succ, he, Option.toList_some]
      have lc : us.length = (colOf a e Fo).length := Paired.length pc
      have lc2 : (colOf a e Fo).length ≤ 1000 := by
        unfold colOf
        rw [List.length_map]
        have := List.length_filter_le (fun t : Trm => decide (cutK a t.1 = e)) Fo
        omega
      repeat walk_at "st"
      refine r_lcM ?_
      repeat walk_at "st"
      refine ⟨c, rfl, ⟨us, lstOf (g1 _ _ hc)⟩, fun D hD => ?_⟩
      refine lc_list (xs := us) (fun n H' => Same H1 H' ∧ H' D = some (.lst ((((colOf a e Fo).take n).map fun t => t.2 * x ^ t.1).map V.int))) ⟨same_new hD _, by rw [List.take_zero]; exact upd_same⟩ (fun n H' _ h => by obtain ⟨h, _⟩ := h; exact lstOf (h _ _ (g1 _ _ hc))) ?_ ?_
      · rintro n v H' hx ⟨g', d'⟩
        obtain ⟨t, ht, b, rfl, hb⟩ := LiI.paired_get pc hx
        have e2 : (colOf a e Fo).take (n + 1) = (colOf a e Fo).take n ++ [t] := by rw [List.take_succ, ht, Option.toList_some]
        obtain ⟨st, pk⟩ := cb e t (List.mem_of_getElem? ht)
        have hn : n < (colOf a e Fo).length := (List.getElem?_eq_some_iff.mp ht).1
        refine r_gT (tupOf (g' _ _ (g1 _ _ hb))) rfl ?_
        refine r_g2 ?_
        refine ⟨rfl, ?_⟩
        refine r_yes ?_
        rw [if_pos rfl]
        show tOp _ _ _ [some (.ref l), some (.ref g), some (.ref c), some (.int (t.1 : Int)), some (.int t.2)] H' _
        repeat walk_at "st"
        refine r_ixL (v := .int (x ^ t.1)) (g'.seq (g1.seq hg)) (pows_at pk) ?_
        repeat walk_at "st"
        refine ⟨_, _, rfl, rfl, Sm.cmul (m := S) (n := 20 * t.1 + 1) st (sx.pow _) (by omega) (by omega) (by omega), ?_⟩
        refine ⟨_, d', by rw [List.length_map, List.length_map, List.length_take]; exact Nat.lt_of_le_of_lt (show _ ≤ 1000 by omega) (by decide), same_updS g' hD, ?_⟩
        rw [e2, List.map_append, List.map_append]
        exact upd_same
      rintro H2 ⟨g2, d2⟩
      rw [lc, List.take_length] at d2
      refine ⟨D, _, rfl, lstOf d2, ?_⟩
      repeat walk_at "st"
      refine r_iteN (fun cc => ?_) (fun cc => ?_)
      · repeat walk_at "st"
        have nn : ¬ Ns a Fo x := fun h => cc (by
          show pvl (colOf a e Fo) x = 0
          cases hc0 : Fo.filter (fun t => decide (cutK a t.1 = e)) with
          | nil =>
            unfold colOf
            rw [hc0]
            rfl
          | cons t r =>
            have hm : t ∈ Fo.filter (fun t => decide (cutK a t.1 = e)) := by rw [hc0]; exact List.mem_cons_self
            obtain ⟨h1, h2⟩ := List.mem_filter.mp hm
            rw [← of_decide_eq_true h2]
            exact h t h1)
        have := q H2 (g1.trans g2)
        rw [decide_eq_false nn] at this
        exact this
      · repeat walk_at "st"
        refine ⟨_, rfl, g1.trans g2, fun u hu => ?_⟩
        rw [e1] at hu
        rcases List.mem_append.mp hu with hu | hu
        · exact z1 u hu
        · rw [List.mem_singleton.mp hu]
          exact cc
    · rintro σ H1 ⟨y2, rfl, g1, z1⟩
      rw [ln, List.take_length] at z1
      exact J _ _ ⟨_, rfl, g1, z1⟩
  rintro σ H1 ⟨y2, rfl, g1, z1⟩
  repeat walk_at "st"
  have := q H1 g1
  rw [decide_eq_true (show Ns a Fo x from fun t ht => z1 _ (kin t ht))] at this
  exact this
theorem ok_brings_nought (F : Fn K mg "brings_nought" s_brings_nought) (G_all_nought : Kn P w K mg base 1 "all_nought" ["parts", "grown"] (spAllN K)) : Kn P w K mg base 2 "brings_nought" ["split", "grown"] (spBrings K) := by
  refine F.kn sc_brings_nought (fun vs H Q E h => ?_) (fun f cdv A outer s H vs Q E hr h => ?_) (fun _ _ _ _ _ _ us hl => match us, hl with | [_, _], _ => rfl)
  · obtain ⟨l, g, ws, Fs, a, m, S, k, x, rfl, _⟩ := h
    rfl
  obtain ⟨l, g, ws, Fs, a, m, S, k, x, rfl, hl, pr, fit, ha, hg, sx, hk, hS, hS2, q⟩ := h
  have ln : ws.length = Fs.length := Paired.length pr
  refine ⟨_, (pss_cons (ps_for PassesOwn.never rfl (pi_list (pv 0)) (pg_name (i := 2) sc_brings_nought.nd rfl (.inl rfl))
    (pss_one (ps_if (pt_val (pe_kn G_all_nought (hr.mono (by decide)) (by rfl) (pa_cons (pv 2) (pa_cons (pv 1) pa_nil))))
    (pss_one (ps_ret pe_bl))
    pss_nil)))
    (pss_one (ps_ret pe_bl))), ?_⟩
  show (_ : TS) _ [some (.ref l), some (.ref g), none] _
  repeat walk_at "st"
  with_reducible refine r_cut (fun σ H' => ∃ y2 : Option V, σ = [some (.ref l), some (.ref g), y2] ∧ Same H H' ∧ ∀ F ∈ Fs, ¬ Ns a F x) ?U1 ?V1
  case V1 =>
    intro N J
    refine ⟨.ref l, rfl, l, rfl, ⟨ws, hl⟩, ?_⟩
    refine for_list (xs := ws) (fun i σ H' => ∃ y2 : Option V, σ = [some (.ref l), some (.ref g), y2] ∧ Same H H' ∧ ∀ F ∈ Fs.take i, ¬ Ns a F x) ?_ ?_ ?_ ?_
    · exact ⟨_, rfl, Same.refl _, fun e he => by rw [List.take_zero] at he; cases he⟩
    · rintro i σ H' _ ⟨_, _, g', _⟩
      exact g'.seq hl
    · rintro i v σ H1 hv ⟨y2, rfl, g1, z1⟩
      obtain ⟨Fo, hF, col⟩ := LiI.paired_get pr hv
      have hFm := List.mem_of_getElem? hF
      have e1 : Fs.take (i + 1) = Fs.take i ++ [Fo] := by rw [List.take_succ, hF, Option.toList_some]
      repeat walk_at "st"
      refine ⟨v, g, Fo, a, m, S, k, x, rfl, col.same g1, fit Fo hFm, ha, g1.seq hg, sx, hk, hS, hS2, fun H2 g2 => ?_⟩
      repeat walk_at "st"
      refine r_ite (fun c => ?_) (fun c => ?_)
      · repeat walk_at "st"
        have := q H2 (g1.trans g2)
        rw [show (Fs.any fun F => decide (Ns a F x)) = true from List.any_eq_true.mpr ⟨Fo, hFm, decide_eq_true c⟩] at this
        exact this
      · repeat walk_at "st"
        refine ⟨_, rfl, g1.trans g2, fun u hu => ?_⟩
        rw [e1] at hu
        rcases List.mem_append.mp hu with hu | hu
        · exact z1 u hu
        · rw [List.mem_singleton.mp hu]
          exact c
    · rintro σ H1 ⟨y2, rfl, g1, z1⟩
      rw [ln, List.take_length] at z1
      exact J _ _ ⟨_, rfl, g1, z1⟩
  rintro σ H1 ⟨y2, rfl, g1, z1⟩
  repeat walk_at "st"
  have := q H1 g1
  rw [show (Fs.any fun F => decide (Ns a F x)) = false from List.any_eq_false.mpr fun F hF => by rw [decide_eq_false (z1 F hF)]; exact Bool.false_ne_true] at this
  exact this
theorem ok_least_off (F : Fn K mg "least_off" s_least_off) (G_columns : Kn P w K mg base 1 "columns" ["form", "at"] (spColumns K)) (G_greatest_power : Kn P w K mg base 1 "greatest_power" ["form"] (spGreatest K)) (G_powers_of : Kn P w K mg base 1 "powers_of" ["number", "most"] (spPows K)) (G_brings_nought : Kn P w K mg base 2 "brings_nought" ["split", "grown"] (spBrings K)) (z_max : mg "max" = none) : Kn P w K mg base 3 "least_off" ["forms", "at"] (spLeast K) := by
  refine F.kn sc_least_off (fun vs H Q E h => ?_) (fun f cdv A outer s H vs Q E hr h => ?_) (fun _ _ _ _ _ _ us hl => match us, hl with | [_, _], _ => rfl)
  · obtain ⟨l, us, Fs, a, m, S, rfl, _⟩ := h
    rfl
  obtain ⟨l, us, Fs, a, m, S, rfl, hl, fv, gf, ha, hm, hS, hS2, lFs, q⟩ := h
  refine ⟨_, (pss_cons (ps_setLc (i := 2) (own := [("form", 3)]) (g := gName 3) (by rfl) sc_least_off.nd rfl rfl (sw_true rfl rfl rfl (by decide +kernel)) (pi_list (pv 0)) (blkOk_by (own := [("form", 3)]) (N := ["forms", "at", "split", "form", "most", "number"]) (sc := (defScope s_least_off)) (by decide +kernel)) (fun _ _ _ _ _ => pg_name (i := 3) sc_least_off.nd rfl (.inl rfl)) (fun _ _ _ _ _ => pts_nil) (fun _ _ _ _ _ => (pe_kn G_columns (hr.mono (by decide)) (by rfl) (pa_cons (pv 3) (pa_cons (pv 1) pa_nil)))))
    (pss_cons (ps_set (i := 4) sc_least_off.nd rfl (.inl rfl) (pe_callBK (cr_maxDf (by rfl) hr.units) (by rfl) z_max (by decide +kernel) (pa_cons (pe_lc (own := [("form", 3)]) (g := gName 3) (by rfl) sc_least_off.nd (pi_list (pv 0)) (blkOk_by (own := [("form", 3)]) (N := ["forms", "at", "split", "form", "most", "number"]) (sc := (defScope s_least_off)) (by decide +kernel)) (fun _ _ _ _ _ => pg_name (i := 3) sc_least_off.nd rfl (.inl rfl)) (fun _ _ _ _ _ => pts_nil) (fun _ _ _ _ _ => (pe_kn G_greatest_power (hr.mono (by decide)) (by rfl) (pa_cons (pv 3) pa_nil)))) pa_nil) (pk_cons pe_int pk_nil)))
    (pss_cons (ps_set (i := 5) sc_least_off.nd rfl (.inl rfl) pe_int)
    (pss_cons (ps_while PassesOwn.never (pt_val (pe_kn G_brings_nought (hr.mono (by decide)) (by rfl) (pa_cons (pv 2) (pa_cons (pe_kn G_powers_of (hr.mono (by decide)) (by rfl) (pa_cons (pv 5) (pa_cons (pv 4) pa_nil))) pa_nil))))
    (pss_one (ps_aug (i := 5) sc_least_off.nd rfl (.inl rfl) pe_int ip_add)))
    (pss_one (ps_ret (pv 5))))))), ?_⟩
  show (_ : TS) _ [some (.ref l), some (.int (a : Int)), none, none, none, none] _
  repeat walk_at "st"
  refine r_lcM ?_
  repeat walk_at "st"
  refine lc_fms Fv (fun D H v F => ColsA (fun q => q ≠ D) a F H v) (fun s h => h.kt (Kt.same s)) (fun d b h => h.up (fun _ n _ => n) (fun x o n h => b _ _ n h) (ktB d b)) hl fv (by omega) (fun _ => rfl) (fun v Fo H' D vs hF px g' d' S' k => ?_) fun T ts H2 s2 nT eT pT => ?_
  · obtain ⟨f, rfl, hf⟩ := px
    obtain ⟨g1, g2⟩ := gf Fo hF
    repeat walk_at "st"
    refine ⟨f, Fo, a, m, 12, rfl, hf, g1.ok, ha, hm, by have := g1.len; omega, fun v H4 s4 col => ?_⟩
    exact k _ _ s4 (col.up (fun l n _ z => by rw [z, d'] at n; cases n) (fun _ _ _ h => h) (Kt.refl _))
  repeat walk_at "st"
  refine r_ckw ?_
  repeat walk_at "st"
  refine r_lcM ?_
  repeat walk_at "st"
  have hl2 := s2.seq hl
  have fv2 := fv.fkt (Kt.same s2)
  refine lc_fms Fv (fun _ _ v F => ∃ g : Int, v = .int g ∧ 0 ≤ g ∧ g ≤ 12 ∧ ∀ t ∈ F, ∀ p ∈ t.1, p ≤ g) (fun s h => h.kt (Kt.same s)) (fun _ _ h => h) hl2 fv2 (by omega) (fun _ => rfl) (fun v Fo H' D vs hF px g' d' S' k => ?_) fun M ms H3 s3 nM eM pM => ?_
  · obtain ⟨f, rfl, hf⟩ := px
    obtain ⟨g1, g2⟩ := gf Fo hF
    repeat walk_at "st"
    refine ⟨f, Fo, m, 12, rfl, hf, g1.ok, by decide, by have := g1.len; omega, fun g H4 s4 b0 b1 b2 => ?_⟩
    exact k _ _ s4 ⟨g, rfl, b0, b1, b2⟩
  have hv : ∃ gs : List Int, ms = gs.map V.int ∧ Paired (fun (F : List Trm) (g : Int) => 0 ≤ g ∧ g ≤ 12 ∧ ∀ t ∈ F, ∀ p ∈ t.1, p ≤ g) Fs gs := by
    clear eM nM s3 hl2 fv2 pT eT nT s2 q lFs gf fv hl
    induction pM with
    | nil => exact ⟨[], rfl, .nil⟩
    | cons h _ ih =>
      obtain ⟨gs, rfl, p⟩ := ih
      obtain ⟨g, rfl, h⟩ := h
      exact ⟨g :: gs, rfl, .cons h p⟩
  obtain ⟨gs, rfl, bg⟩ := hv
  repeat walk_at "st"
  refine ⟨M, gs, 0, rfl, rfl, .inl (lstOf eM), ?_⟩
  have mx : ∃ mn : Nat, maxOf gs 0 = (mn : Int) ∧ mn ≤ 12 ∧ ∀ F ∈ Fs, ∀ t ∈ F, ∀ p ∈ t.1, p ≤ (mn : Int) := by
    have out := maxOf_in (ns := gs) (c := 12) (fun p hp => by
      obtain ⟨F, _, h⟩ := paired_mem bg p hp
      exact ⟨h.1, h.2.1⟩) (by decide)
    refine ⟨(maxOf gs 0).toNat, by omega, by omega, fun F hF t ht p hp => ?_⟩
    obtain ⟨j, hj⟩ := List.getElem?_of_mem hF
    obtain ⟨g, hg, h⟩ := LiI.paired_get bg hj
    have h1 := h.2.2 t ht p hp
    have h2 := maxOf_le (ns := gs) g (List.mem_of_getElem? hg)
    omega
  obtain ⟨mn, emn, mn12, mnp⟩ := mx
  rw [emn]
  have fit : ∀ F ∈ Fs, Fits a m S mn F := fun F hF => ⟨fun t ht => ⟨(gf F hF).1.sz t ht, ((gf F hF).1.ok t ht).1, fun p hp => ⟨(((gf F hF).1.ok t ht).2 p hp).1, mnp F hF t ht p hp⟩⟩, by have := (gf F hF).1.len; omega⟩
  have g3 := s2.trans s3
  have eT3 := s3 _ _ eT
  have pT3 : Paired (fun v F => ColsA (fun _ => True) a F H3 v) ts Fs := Paired.mapP pT fun _ _ h => (h.same s3).up (fun _ _ _ => trivial) (fun _ _ _ h => h) (Kt.refl _)
  clear pM eM nM pT eT nT bg emn
  repeat walk_at "st"
  with_reducible refine r_cut (fun σ H' => ∃ n : Nat, σ = [some (.ref l), some (.int (a : Int)), some (.ref T), none, some (.int (mn : Int)), some (.int (n : Int))] ∧ Same H3 H' ∧ (∀ F ∈ Fs, ¬ Ns a F (n : Int)) ∧ ∀ x : Nat, x < n → ∃ F ∈ Fs, Ns a F (x : Int)) ?U1 ?V1
  case V1 =>
    intro N J
    refine r_while (fun σ H' => ∃ n : Nat, σ = [some (.ref l), some (.int (a : Int)), some (.ref T), none, some (.int (mn : Int)), some (.int (n : Int))] ∧ Same H3 H' ∧ ∀ x : Nat, x < n → ∃ F ∈ Fs, Ns a F (x : Int)) (fun σ _ => match σ with | [_, _, _, _, _, some (.int y)] => 900 - y.toNat | _ => 0) ⟨0, rfl, Same.refl _, fun x hx => absurd hx (Nat.not_lt_zero _)⟩ ?_
    rintro σ H' ⟨n, rfl, g', hx⟩
    have low := low_le (fun F hF => (gf F hF).1.ok) (low_of gf ha hx)
    have n800 : n ≤ 800 := by omega
    repeat walk_at "st"
    refine ⟨(n : Int), mn, 20, rfl, sm20 (by omega), by decide, by decide, by omega, fun L H4 s4 n4 e4 => ?_⟩
    repeat walk_at "st"
    have g4 := g'.trans s4
    refine ⟨T, L, ts, Fs, a, m, S, mn, (n : Int), rfl, lstOf (g4 _ _ eT3), Paired.mapP pT3 fun _ _ h => h.same g4, fit, ha, lstOf e4, sm20 (by omega), by omega, hS, hS2, fun H5 s5 => ?_⟩
    repeat walk_at "st"
    cases hb : Fs.any fun F => decide (Ns a F (n : Int)) with
    | true =>
      refine r_dT rfl ?_
      obtain ⟨Fo, hF, hN⟩ := List.any_eq_true.mp hb
      refine r_turn ?_
      repeat walk_at "st"
      refine ⟨.int (n : Int), rfl, ?_⟩
      repeat walk_at "st"
      refine ⟨(n : Int), 1, rfl, rfl, ?_⟩
      refine ⟨⟨n + 1, by rw [show ((n + 1 : Nat) : Int) = (n : Int) + 1 by omega]; rfl, g4.trans s5, fun x hx' => ?_⟩, ?_⟩
      · by_cases c : x < n
        · exact hx x c
        · rw [show x = n by omega]
          exact ⟨Fo, hF, of_decide_eq_true hN⟩
      · show 900 - ((n : Int) + 1).toNat < 900 - ((n : Int)).toNat
        omega
    | false =>
      refine r_dF rfl ?_
      repeat walk_at "st"
      exact J _ _ ⟨n, rfl, g4.trans s5, fun F hF hN => by
        have := List.any_eq_false.mp hb F hF
        rw [decide_eq_true hN] at this
        exact this rfl, hx⟩
  rintro σ H4 ⟨n, rfl, g4, no, hx⟩
  have lo := low_of gf ha hx
  have low := low_le (fun F hF => (gf F hF).1.ok) lo
  repeat walk_at "st"
  exact q n H4 (g3.trans g4) no lo (by omega)
theorem ok_off_nought {C_Nought : Addr} (M_Nought : MkC P w K mg base 2 "Nought" C_Nought (spInitR C_Nought "number" okInt)) (F : Fn K mg "off_nought" s_off_nought) (G_least_off : Kn P w K mg base 3 "least_off" ["forms", "at"] (spLeast K)) (G_put_in : Kn P w K mg base 2 "put_in" ["form", "at", "number"] (spPutIn K)) (z_enumerate : mg "enumerate" = none) (z_list : mg "list" = none) (z_range : mg "range" = none) : KnX P w K mg base 4 "off_nought" ["many", "forms"] (spOff K C_Nought) := by
  refine F.knX sc_off_nought (fun vs H Q E h => ?_) (fun f cdv A outer s H vs Q E hr h => ?_) (fun _ _ _ _ _ _ us hl => match us, hl with | [_, _], _ => rfl)
  · obtain ⟨l, us, Fs, m, S, rfl, _⟩ := h
    rfl
  obtain ⟨l, us, Fs, m, S, rfl, hl, fv, gf, hm, hS, hS2, lFs, qE, qY⟩ := h
  have ln : us.length = Fs.length := Paired.length fv
  refine ⟨_, (pss_cons (ps_for (passes_of rfl) rfl (pi_enum (by rfl) z_enumerate (pa_cons (pv 1) pa_nil)) (pg_tup (by rfl) (pgs_cons (pg_name (i := 2) sc_off_nought.nd rfl (.inl rfl)) (pgs_cons (pg_name (i := 3) sc_off_nought.nd rfl (.inl rfl)) pgs_nil)))
    (pss_one (ps_if (pt_not (pt_truth (pv 3) (by intro _; rfl)))
    (pss_one (ps_raise (by rfl) (takes_of rfl rfl rfl rfl) (pmk_mk M_Nought (hr.mono (by decide)) (by rfl) (pa_cons (pv 2) pa_nil))))
    pss_nil)))
    (pss_cons (ps_set (i := 4) sc_off_nought.nd rfl (.inl rfl) (pe_callTy call_list_of (by rfl) z_list (by decide +kernel) (pa_cons (pv 1) pa_nil)))
    (pss_cons (ps_set (i := 5) sc_off_nought.nd rfl (.inl rfl) (pe_lst pa_nil))
    (pss_cons (ps_for (passes_of rfl) rfl (pi_range1 (by rfl) z_range (pa_cons (pv 0) pa_nil)) (pg_name (i := 6) sc_off_nought.nd rfl (.inr rfl))
    (pss_cons (ps_set (i := 7) sc_off_nought.nd rfl (.inr rfl) (pe_kn G_least_off (hr.mono (by decide)) (by rfl) (pa_cons (pv 4) (pa_cons (pv 6) pa_nil))))
    (pss_cons (ps_expr (pe_bm PySem.F.plainAttrs_list PySem.F.slot_list_append PySem.F.type_list_append mt_append (pv 5) (pa_cons (pv 7) pa_nil)))
    (pss_one (ps_setLc (i := 4) (own := [("form", 3)]) (g := gName 3) (by rfl) sc_off_nought.nd rfl rfl (sw_true rfl rfl rfl (by decide +kernel)) (pi_list (pv 4)) (blkOk_by (own := [("form", 3)]) (N := ["many", "forms", "place", "form", "left", "numbers", "at", "number"]) (sc := (defScope s_off_nought)) (by decide +kernel)) (fun _ _ _ _ _ => pg_name (i := 3) sc_off_nought.nd rfl (.inl rfl)) (fun _ _ _ _ _ => pts_nil) (fun _ _ _ _ _ => (pe_kn G_put_in (hr.mono (by decide)) (by rfl) (pa_cons (pv 3) (pa_cons (pv 6) (pa_cons (pv 7) pa_nil))))))))))
    (pss_one (ps_ret (pv 5))))))), ?_⟩
  show (_ : TS) _ [some (.int (m : Int)), some (.ref l), none, none, none, none, none, none] _
  repeat walk_at "st"
  with_reducible refine r_cut (fun σ H' => ∃ y2 y3 : Option V, σ = [some (.int (m : Int)), some (.ref l), y2, y3, none, none, none, none] ∧ Same H H' ∧ ∀ F ∈ Fs, F ≠ []) ?U1 ?V1
  case V1 =>
    intro N J
    refine ⟨.ref l, rfl, l, us, rfl, hl, ?_⟩
    refine for_it (walk_enum (K := K) (a := l) (xs := us)) (fun i σ H' => ∃ y2 y3 : Option V, σ = [some (.int (m : Int)), some (.ref l), y2, y3, none, none, none, none] ∧ Same H H' ∧ ∀ F ∈ Fs.take i, F ≠ []) ⟨_, _, rfl, Same.refl _, fun F hF => by rw [List.take_zero] at hF; cases hF⟩ (fun i σ H' _ h => by obtain ⟨_, _, _, g', _⟩ := h; exact g'.seq hl) ?_ ?_
    · rintro i v σ H1 H2 hi ⟨y2, y3, rfl, g1, z1⟩ ⟨T, x, y, rfl, nT, rfl, ex, ey⟩
      obtain rfl : V.int (i : Int) = x := Option.some.inj ex
      obtain ⟨Fo, hF, fo, rfl, hf⟩ := LiI.paired_get fv ey
      have hFm := List.mem_of_getElem? hF
      have e1 : Fs.take (i + 1) = Fs.take i ++ [Fo] := by rw [List.take_succ, hF, Option.toList_some]
      have sT := same_new nT (.tup [V.int (i : Int), .ref fo])
      have kT : upd H1 T (.tup [V.int (i : Int), .ref fo]) T = some (.tup [V.int (i : Int), .ref fo]) := upd_same
      generalize upd H1 T (.tup [V.int (i : Int), .ref fo]) = H2 at *
      have g2 := g1.trans sT
      obtain ⟨fs, ef, tf⟩ := hf.kt (Kt.same g2)
      have lf := Paired.length tf
      refine r_gT (tupOf kT) rfl ?_
      refine r_g2 ?_
      repeat walk_at "st"
      refine ⟨!fs.isEmpty, .inr (.inl ⟨fs, tupOf ef, rfl⟩), ?_⟩
      cases hu : fs.isEmpty with
      | true =>
        have e0 : Fo = [] := List.eq_nil_of_length_eq_zero (by rw [← lf, List.isEmpty_iff.mp hu]; rfl)
        subst e0
        refine r_dT rfl ?_
        repeat walk_at "st"
        refine r_mkO ?_
        repeat walk_at "st"
        refine ⟨(by show 1 ≤ 1000; decide), fun a na => ⟨a, .int (i : Int), rfl, ⟨_, rfl⟩, upd_same, fun wd dx H3 nd ne bt e1' e2' => ?_⟩⟩
        have nd' : H2 dx = none := by rw [upd_ne ne] at nd; exact nd
        refine ⟨rfl, dx, _, e1', e2', nd', qE i hF (fun j hj hjF => ?_) dx _ _ (g2.trans (same_raised na nd' bt)) upd_same rfl⟩
        refine z1 [] ?_ rfl
        have : (Fs.take i)[j]? = some [] := by rw [List.getElem?_take, if_pos hj]; exact hjF
        exact List.mem_of_getElem? this
      | false =>
        refine r_dF rfl ?_
        repeat walk_at "st"
        refine ⟨_, _, rfl, g2, fun F hF' => ?_⟩
        rw [e1] at hF'
        rcases List.mem_append.mp hF' with hF' | hF'
        · exact z1 F hF'
        · rw [List.mem_singleton.mp hF']
          intro e0
          rw [e0] at lf
          rw [List.eq_nil_of_length_eq_zero lf] at hu
          cases hu
    · rintro σ H1 ⟨y2, y3, rfl, g1, z1⟩
      rw [ln, List.take_length] at z1
      exact J _ _ ⟨_, _, rfl, g1, z1⟩
  rintro σ H1 ⟨y2, y3, rfl, g1, ne⟩
  replace qY := qY ne
  clear qE
  repeat walk_at "st"
  refine ⟨l, us, rfl, .inl (g1.seq hl), fun L0 nL0 => ?_⟩
  obtain ⟨H2, x2, s2, k2⟩ := nw nL0 (.lst us)
  rw [← x2]
  clear x2
  have g2 := g1.trans s2
  repeat walk_at "st"
  refine ⟨sz rfl, fun Nn nN => ?_⟩
  obtain ⟨H3, x3, s3, k3⟩ := nw nN (.lst [])
  rw [← x3]
  clear x3
  have g3 := g2.trans s3
  have nNH := g2.free nN
  have k23 := s3 _ _ k2
  repeat walk_at "st"
  let Pv : Nat → St → Hp → Prop := fun i σ H' => ∃ (y3 y6 y7 : Option V) (Lf : Addr) (ws : List V) (ns : List Int) (Gs : List (List Trm)), σ = [some (.int (m : Int)), some (.ref l), y2, y3, some (.ref Lf), some (.ref Nn), y6, y7] ∧ Same H H' ∧ H' Lf = some (.lst ws) ∧ Lf ≠ Nn ∧ Fvs H' ws Gs ∧ (∀ G ∈ Gs, Gf m (S + 300 * i) G ∧ G ≠ [] ∧ Z0 i G) ∧ H' Nn = some (.lst (ns.map V.int)) ∧ ns.length = i ∧ (∀ n ∈ ns, 0 ≤ n ∧ n ≤ 800 ∧ Low Fs n) ∧ (∀ gs, Bds Fs gs → Bds Gs gs) ∧ ∀ rs : List Int, rs.length = m → (∀ j, j < i → rs[j]? = ns[j]?) → Paired (fun G F => evI rs F = evI rs G) Gs Fs
  with_reducible refine r_cut (Pv m) ?U2 ?V2
  case V2 =>
    intro N J
    refine ⟨.int (m : Int), rfl, (m : Int), rfl, by omega, by omega, ?_⟩
    rw [show ((m : Int)).toNat = m from by omega]
    have sl : ∀ {α : Type} {R : α → α → Prop} (l : List α), (∀ x, R x x) → Paired R l l := fun l h => by
      induction l with
      | nil => exact .nil
      | cons x l ih => exact .cons (h x) ih
    refine for_range (n := m) Pv ⟨_, _, _, L0, us, [], Fs, rfl, g3, k23, (fun e => by rw [e, nN] at k2; cases k2), fv.fkt (Kt.same g3), fun G hG => ⟨(gf G hG).mono (by omega), ne G hG, fun t ht i hi => absurd hi (Nat.not_lt_zero _)⟩, k3, rfl, (fun n hn => by cases hn), (fun gs h => h), fun rs _ _ => sl Fs fun _ => rfl⟩ ?_ ?_
    · rintro i σ H4 hi ⟨y3, y6, y7, Lf, ws, ns, Gs, rfl, g4, k4, nLN, fv4, gf4, kN4, lns, low4, bd4, ev4⟩
      have lG : Gs.length = Fs.length := by
        obtain ⟨b1, _⟩ := bds12 (m := m) fun F hF => (gf F hF).ok
        have h1 := Paired.length (bd4 _ b1)
        rw [List.length_map] at h1
        exact h1
      repeat walk_at "st"
      rw [Int.zero_add]
      refine ⟨Lf, ws, Gs, i, m, S + 300 * i, rfl, lstOf k4, fv4, fun G hG => ⟨(gf4 G hG).1, (gf4 G hG).2.1⟩, hi, by omega, by omega, by omega, by omega, fun n H5 s5 no lo n8 => ?_⟩
      have g5 := g4.trans s5
      have kN5 := s5 _ _ kN4
      have k5 := s5 _ _ k4
      repeat walk_at "st"
      refine r_bm ?_
      repeat walk_at "st"
      refine ⟨.inl ⟨rfl, _, lstOf kN5⟩, ?_⟩
      repeat walk_at "st"
      refine ⟨Nn, _, .int (n : Int), rfl, rfl, kN5, by rw [List.length_map, lns]; exact Nat.lt_of_le_of_lt (show i ≤ 1000 by omega) (by decide), ?_⟩
      obtain ⟨H6, x6⟩ : ∃ H6, H6 = upd H5 Nn (.lst (ns.map V.int ++ [.int (n : Int)])) := ⟨_, rfl⟩
      have kN6 : H6 Nn = some (.lst ((ns ++ [(n : Int)]).map V.int)) := by rw [x6, upd_same, List.map_append]; rfl
      have g6 : Same H H6 := by rw [x6]; exact same_updS g5 nNH
      have k6 : H6 Lf = some (.lst ws) := by rw [x6, upd_ne nLN]; exact k5
      have fv6 : Fvs H6 ws Gs := by rw [x6]; exact (fv4.fkt (Kt.same s5)).fkt (Kt.lst kN5)
      rw [← x6]
      clear x6
      repeat walk_at "st"
      refine r_lcM ?_
      repeat walk_at "st"
      refine lc_fms Fv (fun _ H v F => ∃ G, Fv H v G ∧ Fm (putT i (n : Int) F) G) (fun s h => h.kt (Kt.same s)) (fun d b h => by obtain ⟨G, h1, h2⟩ := h; exact ⟨G, h1.kt (ktB d b), h2⟩) (lstOf k6) fv6 (by omega) (fun _ => rfl) (fun v Fo H' D vs hF px g' d' S' k => ?_) fun T ts H7 s7 nT eT pT => ?_
      · obtain ⟨f, rfl, hf⟩ := px
        obtain ⟨q1, q2, q3⟩ := gf4 Fo hF
        show tCall _ _ _ _ [some (.int (m : Int)), some (.ref l), y2, some (.ref f), some (.ref Lf), some (.ref Nn), some (.int (i : Int)), some (.int (n : Int))] H' S'
        repeat walk_at "st"
        refine ⟨f, Fo, i, m, 20, S + 300 * i, 12, (n : Int), rfl, hf, q1.ok, by decide, by decide, hi, by omega, by have := q1.len; omega, sm20 (by omega), by decide, by decide, q1.sz, by omega, by omega, fun g G H8 s8 n8 hG fm => ?_⟩
        exact k _ _ s8 ⟨G, ⟨g, rfl, hG⟩, fm⟩
      obtain ⟨Ks, fvK, fmK⟩ := paired_ex pT
      have kN7 := s7 _ _ kN6
      have nTN : T ≠ Nn := fun e => by rw [e, kN6] at nT; cases nT
      repeat walk_at "st"
      refine ⟨_, _, _, T, ts, ns ++ [(n : Int)], Ks, rfl, g6.trans s7, eT, nTN, fvK, fun G hG => ?_, kN7, by rw [List.length_append, lns]; rfl, fun z hz => ?_, fun gs h => bds_put (m := m) fmK (fun F hF => (gf4 F hF).1.ok) (bd4 gs h), fun rs hrs hj => ?_⟩
      · obtain ⟨F0, hF0, fm⟩ := paired_mem fmK G hG
        obtain ⟨q1, q2, q3⟩ := gf4 F0 hF0
        exact ⟨(gf_put q1 (sm20 (by omega)) fm).mono (by omega), put_ne q1.ok hi (no F0 hF0) fm, q3.put (m := m) q1.ok fm⟩
      · rcases List.mem_append.mp hz with hz | hz
        · exact low4 z hz
        · rw [List.mem_singleton.mp hz]
          exact ⟨by omega, by omega, low_put bd4 lo⟩
      · have h0 := ev4 rs hrs fun j hj' => by
          rw [hj j (by omega), List.getElem?_append_left (by omega)]
        have hi' : rs[i]? = some (n : Int) := by
          rw [hj i (by omega), List.getElem?_append_right (by omega), lns, Nat.sub_self]
          rfl
        refine paired_comp h0 fmK fun F0 hF0 F1 G0 he fm => ?_
        rw [he]
        show wsum _ _ = wsum _ _
        rw [wsum_same fun k => fm.sum k]
        exact (ev_put hi' fun u hu => by rw [hrs]; exact ((gf4 F0 hF0).1.ok u hu).1).symm
    · rintro σ H4 h4
      exact J _ _ h4
  rintro σ H4 ⟨y3, y6, y7, Lf, ws, ns, Gs, rfl, g4, k4, nLN, fv4, gf4, kN4, lns, low4, bd4, ev4⟩
  repeat walk_at "st"
  have h0 := ev4 ns lns fun _ _ => rfl
  refine qY ns Nn H4 g4 nNH kN4 lns low4 fun F hF => ?_
  obtain ⟨G, hG, he⟩ := paired_mem h0 F hF
  rw [he]
  obtain ⟨q1, q2, q3⟩ := gf4 G hG
  exact const_ev q1.up q1.nz q1.ok q3 q2
theorem ok_pool (F : Fn K mg "_law_pool" s_pool) (z_len : mg "len" = none) : Kn P w K mg base 1 "_law_pool" ["_law_script", "_law_at"] (spPool K) := by
  refine F.kn sc_pool (fun vs H Q E h => ?_) (fun f cdv A outer s H vs Q E hr h => ?_) (fun _ _ _ _ _ _ us hl => match us, hl with | [_, _], _ => rfl)
  · obtain ⟨a, ns, i, rfl, _⟩ := h
    rfl
  obtain ⟨a, ns, i, rfl, hS, hl, h0, h1, q⟩ := h
  refine ⟨_, (pss_cons (ps_set (i := 2) sc_pool.nd rfl (.inl rfl) pe_int)
    (pss_cons (ps_if (pt_cmpR op_gt (pe_callB call_len_seq (by rfl) z_len (by decide +kernel) (pa_cons (pv 0) pa_nil)) pe_int (nomark _))
    (pss_one (ps_set (i := 2) sc_pool.nd rfl (.inl rfl) (pe_ix ix_list (pv 0) (pe_op op_mod (pv 1) (pe_callB call_len_seq (by rfl) z_len (by decide +kernel) (pa_cons (pv 0) pa_nil))) (fun _ _ => rfl))))
    pss_nil)
    (pss_cons (ps_set (i := 3) sc_pool.nd rfl (.inl rfl) pe_int)
    (pss_cons (ps_if (PW.pt (pw_and (pt_cmpR op_ge (pv 2) (pe_op op_pow pe_int pe_int) (nomark _)) (pw_and1 (pt_cmpR op_lt (pv 1) (pe_callB call_len_seq (by rfl) z_len (by decide +kernel) (pa_cons (pv 0) pa_nil)) (nomark _)))))
    (pss_one (ps_set (i := 3) sc_pool.nd rfl (.inl rfl) (pv 2)))
    pss_nil)
    (pss_one (ps_ret (pe_lst (pa_cons (pv 3) (pa_cons (pe_op op_mulW pe_int (pv 1)) (pa_cons (pv 2) pa_nil)))))))))), ?_⟩
  show (_ : TS) _ [some (.ref a), some (.int i), none, none] _
  have hz : (ns.map V.int).length = ns.length := List.length_map _
  have si : Sm 64 i := by unfold Sm; omega
  have e18 : ((10 : Int) ^ (18 : Int).toNat) = 1000000000000000000 := by decide
  repeat walk_at "st"
  refine r_cut (fun σ H' => ∃ z : Int, σ = [some (.ref a), some (.int i), some (.int z), none] ∧ H' = H) ?_ (fun N J => ?_)
  · rintro σ H' ⟨z, rfl, rfl⟩
    repeat walk_at "st"
    refine r_cut (fun σ H2 => ∃ x : Int, σ = [some (.ref a), some (.int i), some (.int z), some (.int x)] ∧ H2 = H') ?_ (fun N J => ?_)
    · rintro σ H2 ⟨x, rfl, rfl⟩
      repeat walk_at "st"
      refine ⟨sz rfl, fun p hp => ?_⟩
      exact q p _ (same_new hp _) hp ⟨x, 1000 * i, z, upd_same, by omega, by omega⟩
    · repeat walk_at "st"
      refine r_ite (fun c => ?_) (fun c => ?_)
      · repeat walk_at "st"
        refine ⟨a, _, rfl, .inl hS, ?_⟩
        repeat walk_at "st"
        refine r_ite (fun c => ?_) (fun c => ?_)
        · repeat walk_at "st"
          exact J _ _ ⟨_, rfl, rfl⟩
        · repeat walk_at "st"
          exact J _ _ ⟨_, rfl, rfl⟩
      · repeat walk_at "st"
        exact J _ _ ⟨_, rfl, rfl⟩
  · repeat walk_at "st"
    refine ⟨a, _, rfl, .inl hS, ?_⟩
    repeat walk_at "st"
    refine r_ite (fun c => ?_) (fun c => ?_)
    · repeat walk_at "st"
      refine ⟨a, _, rfl, .inl hS, ?_⟩
      rw [hz] at c
      refine r_i (show (0 : Int) < _ by rw [hz]; omega) ?_
      have hk : (i % ((ns.map V.int).length : Int)).toNat < ns.length := by
        rw [hz]
        have := Int.emod_lt_of_pos i (show (0 : Int) < ns.length by omega)
        omega
      have e : i % ((ns.map V.int).length : Int) = (((i % ((ns.map V.int).length : Int)).toNat : Nat) : Int) := by
        rw [hz]
        have := Int.emod_nonneg i (show (ns.length : Int) ≠ 0 by omega)
        omega
      refine r_ixL hS (at_of e (by rw [List.getElem?_map, List.getElem?_eq_getElem hk]; rfl)) ?_
      repeat walk_at "st"
      exact J _ _ ⟨_, rfl, rfl⟩
    · repeat walk_at "st"
      exact J _ _ ⟨_, rfl, rfl⟩
theorem ok_take (F : Fn K mg "_law_take" s_take) : Kn P w K mg base 1 "_law_take" ["_law_pool_here", "_law_wide"] spTakeW := by
  refine F.kn sc_take (fun vs H Q E h => ?_) (fun f cdv A outer s H vs Q E hr h => ?_) (fun _ _ _ _ _ _ us hl => match us, hl with | [_, _], _ => rfl)
  · obtain ⟨p, k, b, rfl, _⟩ := h
    rfl
  obtain ⟨p, k, b, rfl, ⟨x, y, z, hp, y0, y1⟩, hb, hk, hk2, q⟩ := h
  refine ⟨_, (pss_cons (ps_if (pt_cmpR op_gt (pe_ix ix_list (pv 0) pe_int (fun _ _ => rfl)) pe_int (nomark _))
    (pss_cons (ps_set (i := 2) sc_take.nd rfl (.inl rfl) (pe_op op_mod (pe_ix ix_list (pv 0) pe_int (fun _ _ => rfl)) (pv 1)))
    (pss_cons (ps_asg (pe_op op_fdivW (pe_ix ix_list (pv 0) pe_int (fun _ _ => rfl)) (pv 1)) (pg_sub (pv 0) pe_int set_list))
    (pss_one (ps_ret (pv 2)))))
    pss_nil)
    (pss_cons (ps_asg (pe_op op_add (pe_ix ix_list (pv 0) pe_int (fun _ _ => rfl)) pe_int) (pg_sub (pv 0) pe_int set_list))
    (pss_cons (ps_set (i := 3) sc_take.nd rfl (.inl rfl) (pe_op op_mod (pe_op op_pow (pe_op op_add (pe_op op_mod (pe_ix ix_list (pv 0) pe_int (fun _ _ => rfl)) pe_int) (pe_op op_mulW pe_int (pe_ix ix_list (pv 0) pe_int (fun _ _ => rfl)))) pe_int) pe_int))
    (pss_cons (ps_set (i := 3) sc_take.nd rfl (.inl rfl) (pe_op op_add (pe_op op_mulW (pv 3) pe_int) (pe_op op_mulW (pe_op op_mulW (pe_ix ix_list (pv 0) pe_int (fun _ _ => rfl)) (pe_ix ix_list (pv 0) pe_int (fun _ _ => rfl))) pe_int)))
    (pss_one (ps_ret (pe_op op_mod (pe_op op_fdivW (pe_op op_mod (pe_op op_add (pv 3) (pe_op op_fdivW (pe_ix ix_list (pv 0) pe_int (fun _ _ => rfl)) pe_int)) pe_int) pe_int) (pv 1)))))))), ?_⟩
  show (_ : TS) _ [some (.ref p), some (.int k), none, none] _
  have sk : Sm 64 k := by unfold Sm; omega
  have sy : Sm 64 (y + 1) := by unfold Sm; omega
  have m0 : ∀ i : Int, 0 ≤ i % k := fun i => Int.emod_nonneg i (by omega)
  have m1 : ∀ i : Int, i % k < k := fun i => Int.emod_lt_of_pos i (by omega)
  refine r_seq ?_
  repeat walk_at "st"
  refine r_ite (fun c => ?_) (fun c => ?_)
  · repeat walk_at "st"
    refine r_i (Sm.cdiv (by omega) sk) ?_
    repeat walk_at "st"
    refine r_setL hp rfl ?_
    repeat walk_at "st"
    exact q _ _ (But.upd _ _ _) ⟨_, y, z, upd_same, y0, by omega⟩ (m0 _) (m1 _)
  · repeat walk_at "st"
    refine r_setL hp rfl ?_
    dsimp only [List.set]
    have hp2 : (upd H p (.lst [.int x, .int (y + 1), .int z])) p = some (.lst [.int x, .int (y + 1), .int z]) := upd_same
    have e1 := Int.emod_nonneg z (show (2147483647 : Int) ≠ 0 by decide)
    have e2 := Int.emod_lt_of_pos z (show (0 : Int) < 2147483647 by decide)
    generalize hz : z % 2147483647 = z' at e1 e2
    repeat walk_at "st"
    rw [hz]
    refine r_i ⟨by decide, by decide, by omega⟩ ?_
    repeat walk_at "st"
    generalize hs : (z' + 40503 * (y + 1)) ^ Int.toNat 5 % 2147483647 = sd
    have e3 : 0 ≤ sd := by rw [← hs]; exact Int.emod_nonneg _ (by decide)
    have e4 : sd < 2147483647 := by rw [← hs]; exact Int.emod_lt_of_pos _ (by decide)
    have ss : Sm 64 sd := by unfold Sm; omega
    repeat walk_at "st"
    exact q _ _ (But.upd _ _ _) ⟨x, y + 1, z, upd_same, by omega, by omega⟩ (m0 _) (m1 _)
theorem ok_whole (F : Fn K mg "_law_whole" s_whole) (z_isinstance : mg "isinstance" = none) (z_int : mg "int" = none) (z_bool : mg "bool" = none) : Kn P w K mg base 1 "_law_whole" ["_law_found"] spWhole := by
  refine F.kn sc_whole (fun vs H Q E h => ?_) (fun f cdv A outer s H vs Q E hr h => ?_) (fun _ _ _ _ _ _ us hl => match us, hl with | [_], _ => rfl)
  · obtain ⟨i, rfl, _⟩ := h
    rfl
  obtain ⟨i, rfl, q⟩ := h
  refine ⟨_, (pss_one (ps_ret (pe_and (pe_callB call_isi (by rfl) z_isinstance (by decide +kernel) (pa_cons (pv 0) (pa_cons (pe_bltn (v := .ty "int") (by rfl) z_int (by decide +kernel) rfl) pa_nil))) (pe_one (pe_not (pe_callB call_isi (by rfl) z_isinstance (by decide +kernel) (pa_cons (pv 0) (pa_cons (pe_bltn (v := .ty "bool") (by rfl) z_bool (by decide +kernel) rfl) pa_nil)))))))), ?_⟩
  show (_ : TS) _ [some (.int i)] _
  repeat walk_at "st"
  refine r_isi (r := true) (.base (.int _)) (by decide +kernel) ?_
  repeat walk_at "st"
  refine r_isi (r := false) (.base (.int _)) (by decide +kernel) ?_
  repeat walk_at "st"
  exact q
theorem ok_gather (F : Fn K mg "_law_gather" s_gather) (z_sorted : mg "sorted" = none) (z_tuple : mg "tuple" = none) : Kn P w K mg base 1 "_law_gather" ["_law_terms"] (spSummed K) := by
  refine F.kn sc_gather (fun vs H Q E h => ?_) (fun f cdv A outer s H vs Q E hr h => ?_) (fun _ _ _ _ _ _ us hl => match us, hl with | [_], _ => rfl)
  · obtain ⟨l, us, ts, m, c, rfl, _⟩ := h
    rfl
  obtain ⟨l, us, ts, m, c, rfl, hl, tm, ok, h4, q⟩ := h
  have ln : us.length = ts.length := Paired.length tm
  refine ⟨_, (pss_cons (ps_set (i := 1) sc_gather.nd rfl (.inr rfl) pe_dnewT)
    (pss_cons (ps_for PassesOwn.never rfl (pi_list (pv 0)) (pg_tup (by rfl) (pgs_cons (pg_name (i := 2) sc_gather.nd rfl (.inl rfl)) (pgs_cons (pg_name (i := 3) sc_gather.nd rfl (.inl rfl)) pgs_nil)))
    (pss_one (ps_dput (u1 hr.units) (pv 1) (pv 2) (pe_op op_add (pe_dget2 (u1 hr.units) (pv 1) (pv 2) pe_int ⟨by rfl, by rfl, by rfl, by rfl⟩) (pv 3)) (by rfl))))
    (pss_one (ps_ret (pe_tupleOf (by rfl) z_tuple (pe_lc (own := [("_law_powers", 2)]) (g := gName 2) (by rfl) sc_gather.nd (pi_list (pe_callB (cr_sortedDT (by rfl)) (by rfl) z_sorted (by decide +kernel) (pa_cons (pv 1) pa_nil))) (blkOk_by (own := [("_law_powers", 2)]) (N := ["_law_terms", "_law_kept", "_law_powers", "_law_number"]) (sc := (defScope s_gather)) (by decide +kernel)) (fun _ _ _ _ _ => pg_name (i := 2) sc_gather.nd rfl (.inl rfl)) (fun _ _ _ _ _ => pts_one (pt_cmpR op_ne (pe_dget (u1 hr.units) (pv 1) (pv 2) (fun _ _ => rfl)) pe_int (nomark _))) (fun _ _ _ _ _ => (pe_tup (pa_cons (pv 2) (pa_cons (pe_dget (u1 hr.units) (pv 1) (pv 2) (fun _ _ => rfl)) pa_nil)))))))))), ?_⟩
  show (_ : TS) _ [some (.ref l), none, none, none] _
  repeat walk_at "st"
  refine fun D nD => ?_
  have sD := same_new nD (.dT [])
  have eD : upd H D (.dT []) D = some (.dT (keysD (accOf []))) := upd_same
  generalize upd H D (.dT []) = H1 at *
  repeat walk_at "st"
  with_reducible refine r_cut (fun σ H' => ∃ y2 y3 : Option V, σ = [some (.ref l), some (.ref D), y2, y3] ∧ Same H H' ∧ H' D = some (.dT (keysD (accOf ts)))) ?U1 ?V1
  case V1 =>
    intro N J
    refine ⟨.ref l, rfl, l, rfl, ⟨us, sD.seq hl⟩, ?_⟩
    refine for_list (xs := us) (fun i σ H' => ∃ y2 y3 : Option V, σ = [some (.ref l), some (.ref D), y2, y3] ∧ Same H H' ∧ H' D = some (.dT (keysD (accOf (ts.take i))))) ?_ ?_ ?_ ?_
    · exact ⟨_, _, rfl, sD, by rw [List.take_zero]; exact eD⟩
    · rintro i σ H' _ ⟨_, _, _, g', _⟩
      exact g'.seq hl
    · rintro i v σ H3 hv ⟨y2, y3, rfl, g3, k3⟩
      obtain ⟨t, ht, a, p, rfl, ta, pw⟩ := tm.at hv
      have hi : i < ts.length := (List.getElem?_eq_some_iff.mp ht).1
      have e1 : ts.take (i + 1) = ts.take i ++ [t] := by rw [List.take_succ, ht, Option.toList_some]
      rw [e1, acc_snoc]
      have lM : (accOf (ts.take i)).length ≤ _ := accs_len (ts.take i) []
      rw [List.length_take] at lM
      simp only [List.length_nil] at lM
      have nd := (acc_ok (ts.take i)).nd
      generalize accOf (ts.take i) = M at *
      have pw3 := pw_key (show Pw H3 p t.1 from g3 _ _ pw)
      refine r_gT (tupOf (g3 _ _ ta)) rfl ?_
      refine r_g2 ?_
      repeat walk_at "st"
      refine r_dput ?_
      repeat walk_at "st"
      refine r_dget2 ?_
      repeat walk_at "st"
      refine ⟨D, rfl, .inr ⟨_, .inl k3⟩, ?_⟩
      repeat walk_at "st"
      refine ⟨_, .inr ⟨_, t.1.map Sum.inl, p, .inl k3, rfl, pw3, rfl⟩, ?_⟩
      rw [keysD_get nd 0]
      repeat walk_at "st"
      refine ⟨D, _, rfl, .inr ⟨_, t.1.map Sum.inl, p, k3, rfl, pw3, by unfold keysD; rw [List.length_map]; exact Nat.lt_of_le_of_lt (show M.length ≤ 4000 by omega) (by decide), rfl⟩, ?_⟩
      rw [keysD_put nd]
      exact ⟨_, _, rfl, same_updS g3 nD, upd_same⟩
    · rintro σ H3 ⟨y2, y3, rfl, g3, k3⟩
      rw [ln, List.take_length] at k3
      exact J _ _ ⟨_, _, rfl, g3, k3⟩
  rintro σ H3 ⟨y2, y3, rfl, g3, k3⟩
  repeat walk_at "st"
  refine r_then ?_
  refine r_lcM ?_
  repeat walk_at "st"
  refine ⟨D, _, (accOf ts).map (·.1), rfl, k3, keysD_keys, few_keys ok, fun ls qs p hp hs np hq => ?_⟩
  obtain ⟨H4, e4, s4, k4⟩ := nw np (.lst (qs.map V.ref))
  rw [← e4]
  clear e4
  have l4 : (accOf ts).length ≤ _ := accs_len ts []
  simp only [List.length_nil] at l4
  have l5 : ls.length ≤ 10000 := by
    rw [hp.length_eq, List.length_map]
    omega
  refine lc_form (sumK ts) (lstOf k4) l5 (fun _ => rfl) (Paired.mapP hq fun q k h => s4 _ _ h) (fun q k H' hk pw g R kk => ?_) (fun q k H' hk pw g R kk => ?_) fun D2 us2 H5 s5 n5 e5 tm5 => ?_
  · have dg : DGet H' D (.ref q) (some (.int (sumK ts k))) := by
      have := keysD_val (ts := ts) (k := k) (hp.mem_iff.mp hk)
      exact .inr ⟨_, k.map Sum.inl, q, .inl (g _ _ (s4 _ _ k3)), rfl, pw_key pw, this.symm⟩
    show tTest _ [some (.ref l), some (.ref D), some (.ref q), y3] H' R
    repeat walk_at "st"
    refine r_dg ?_
    repeat walk_at "st"
    refine ⟨D, _, rfl, dg, ?_⟩
    repeat walk_at "st"
    exact kk H' (Same.refl _)
  · have dg : DGet H' D (.ref q) (some (.int (sumK ts k))) := by
      have := keysD_val (ts := ts) (k := k) (hp.mem_iff.mp hk)
      exact .inr ⟨_, k.map Sum.inl, q, .inl (g _ _ (s4 _ _ k3)), rfl, pw_key pw, this.symm⟩
    show tTup _ [some (.ref l), some (.ref D), some (.ref q), y3] H' R
    repeat walk_at "st"
    refine r_dg ?_
    repeat walk_at "st"
    refine ⟨D, _, rfl, dg, ?_⟩
    repeat walk_at "st"
    refine ⟨sz rfl, fun a na => ?_⟩
    exact kk a _ (same_new na _) upd_same
  refine .inl ⟨D2, us2, rfl, lstOf e5, fun f nf => ?_⟩
  have s6 := same_new nf (.tup us2)
  exact q f _ _ (g3.trans (s4.trans (s5.trans s6))) (((g3.trans s4).trans s5).free nf) ⟨us2, upd_same, tm5.tmk (Kt.same s6)⟩ (fm_of hp hs)
theorem ok_product (F : Fn K mg "_law_product" s_product) (G_gather : Kn P w K mg base 1 "_law_gather" ["_law_terms"] (spSummed K)) (z_len : mg "len" = none) (z_range : mg "range" = none) (z_tuple : mg "tuple" = none) : Kn P w K mg base 2 "_law_product" ["_law_one", "_law_other"] (spMul K) := by
  refine F.kn sc_product (fun vs H Q E h => ?_) (fun f cdv A outer s H vs Q E hr h => ?_) (fun _ _ _ _ _ _ us hl => match us, hl with | [_, _], _ => rfl)
  · obtain ⟨f, g, Fo, Go, m, c, rfl, _⟩ := h
    rfl
  obtain ⟨f, g, Fo, Go, m, c, rfl, hf, hg, okF, okG, hc, hc2, hm, lFG, lF, lG, sF, sG, q⟩ := h
  obtain ⟨us, ef, tF⟩ := id hf
  obtain ⟨vs, eg, tG⟩ := id hg
  have l1 := Paired.length tF
  have l2 := Paired.length tG
  refine ⟨_, (pss_cons (ps_set (i := 2) sc_product.nd rfl (.inl rfl) (pe_lst pa_nil))
    (pss_cons (ps_for PassesOwn.never rfl (pi_tup (pv 0)) (pg_tup (by rfl) (pgs_cons (pg_name (i := 3) sc_product.nd rfl (.inr rfl)) (pgs_cons (pg_name (i := 4) sc_product.nd rfl (.inl rfl)) pgs_nil)))
    (pss_one (ps_for PassesOwn.never rfl (pi_tup (pv 1)) (pg_tup (by rfl) (pgs_cons (pg_name (i := 5) sc_product.nd rfl (.inr rfl)) (pgs_cons (pg_name (i := 6) sc_product.nd rfl (.inl rfl)) pgs_nil)))
    (pss_one (ps_expr (pe_bm PySem.F.plainAttrs_list PySem.F.slot_list_append PySem.F.type_list_append mt_append (pv 2) (pa_cons (pe_tup (pa_cons (pe_tupleOf (by rfl) z_tuple (pe_lc (own := [("_law_k", 7)]) (g := gName 7) (by rfl) sc_product.nd (pi_range1 (by rfl) z_range (pa_cons (pe_callB call_len_seq (by rfl) z_len (by decide +kernel) (pa_cons (pv 3) pa_nil)) pa_nil)) (blkOk_by (own := [("_law_k", 7)]) (N := ["_law_one", "_law_other", "_law_terms", "_law_powers", "_law_number", "_law_others", "_law_count", "_law_k"]) (sc := (defScope s_product)) (by decide +kernel)) (fun _ _ _ _ _ => pg_name (i := 7) sc_product.nd rfl (.inl rfl)) (fun _ _ _ _ _ => pts_nil) (fun _ _ _ _ _ => (pe_op op_add (pe_ix (show IxR _ (rIxT K) from ix_tup) (pv 3) (pv 7) (fun _ _ => rfl)) (pe_ix (show IxR _ (rIxT K) from ix_tup) (pv 5) (pv 7) (fun _ _ => rfl)))))) (pa_cons (pe_op op_mulW (pv 4) (pv 6)) pa_nil))) pa_nil)))))))
    (pss_one (ps_ret (pe_kn G_gather (hr.mono (by decide)) (by rfl) (pa_cons (pv 2) pa_nil)))))), ?_⟩
  show (_ : TS) _ [some (.ref f), some (.ref g), none, none, none, none, none, none] _
  repeat walk_at "st"
  refine ⟨sz rfl, fun T nT => ?_⟩
  have sT := same_new nT (.lst [])
  have eT : upd H T (.lst []) T = some (.lst []) := upd_same
  generalize upd H T (.lst []) = H1 at *
  repeat walk_at "st"
  with_reducible refine r_cut (fun σ H' => ∃ (y3 y4 y5 y6 : Option V) (ws : List V), σ = [some (.ref f), some (.ref g), some (.ref T), y3, y4, y5, y6, none] ∧ Same H H' ∧ H' T = some (.lst ws) ∧ Tms H' ws (mulT Fo Go)) ?U1 ?V1
  case V1 =>
    intro N J
    refine ⟨.ref f, rfl, f, rfl, ⟨us, tupOf (sT _ _ ef)⟩, ?_⟩
    refine for_tup (xs := us) (fun i σ H' => ∃ (y3 y4 y5 y6 : Option V) (ws : List V), σ = [some (.ref f), some (.ref g), some (.ref T), y3, y4, y5, y6, none] ∧ Same H H' ∧ H' T = some (.lst ws) ∧ Tms H' ws (mulT (Fo.take i) Go)) ?_ ?_ ?_ ?_
    · exact ⟨_, _, _, _, [], rfl, sT, eT, .nil⟩
    · rintro i σ H' _ ⟨_, _, _, _, _, _, g', _⟩
      exact tupOf (g' _ _ ef)
    · rintro i v σ H6 hv' ⟨y3, y4, y5, y6, ws, rfl, g6, e6, tm6⟩
      obtain ⟨t, ht, a, qa, rfl, ta, pw⟩ := tF.at hv'
      have htm := List.mem_of_getElem? ht
      have hi : i < Fo.length := (List.getElem?_eq_some_iff.mp ht).1
      have lt := (okF t htm).1
      refine r_gT (tupOf (g6 _ _ ta)) rfl ?_
      refine r_g2 ?_
      repeat walk_at "st"
      refine ⟨.ref g, rfl, g, rfl, ⟨vs, tupOf (g6 _ _ eg)⟩, ?_⟩
      refine for_tup (xs := vs) (fun j σ H' => ∃ (y5 y6 : Option V) (ws : List V), σ = [some (.ref f), some (.ref g), some (.ref T), some (.ref qa), some (.int t.2), y5, y6, none] ∧ Same H H' ∧ H' T = some (.lst ws) ∧ Tms H' ws (mulT (Fo.take i) Go ++ pr1 t (Go.take j))) ?_ ?_ ?_ ?_
      · exact ⟨_, _, ws, rfl, g6, e6, by rw [List.take_zero, show pr1 t [] = [] from rfl, List.append_nil]; exact tm6⟩
      · rintro j σ H' _ ⟨_, _, _, _, g', _⟩
        exact tupOf (g' _ _ eg)
      · rintro j v σ H7 hv7 ⟨y5', y6', ws', rfl, g7, e7, tm7⟩
        obtain ⟨u, hu', a2, qb, rfl, ta2, pw2⟩ := tG.at hv7
        have hum := List.mem_of_getElem? hu'
        have hj : j < Go.length := (List.getElem?_eq_some_iff.mp hu').1
        have lu := (okG u hum).1
        have lws : ws'.length ≤ 8000 := by
          rw [Paired.length tm7, List.length_append, mul_len, List.length_take]
          unfold pr1
          rw [List.length_map, List.length_take]
          have h1 : min i Fo.length * Go.length ≤ Fo.length * Go.length := Nat.mul_le_mul_right _ (Nat.min_le_right _ _)
          omega
        rw [pr1_take hu', ← List.append_assoc]
        have cm : CMulW t.2 u.2 := (sF t htm).cmul (sG u hum) (by decide) (by decide) (by decide)
        refine r_gT (tupOf (g7 _ _ ta2)) rfl ?_
        refine r_g2 ?_
        repeat walk_at "st"
        refine r_bm ?_
        repeat walk_at "st"
        refine ⟨.inl ⟨rfl, _, lstOf e7⟩, ?_⟩
        repeat walk_at "st"
        refine r_then ?_
        refine r_lcR ?_
        repeat walk_at "st"
        refine ⟨qa, _, rfl, .inr (tupOf (g7 _ _ pw)), ?_⟩
        repeat walk_at "st"
        rw [List.length_map, lt]
        refine ⟨(m : Int), rfl, by omega, by omega, fun D hD => ?_⟩
        rw [show ((m : Int)).toNat = m from by omega]
        refine lc_range (n := m) (fun k H' => Same H7 H' ∧ H' D = some (.lst (((addL t.1 u.1).take k).map V.int))) ⟨same_new hD _, by rw [List.take_zero]; exact upd_same⟩ ?_ ?_
        · rintro k H' hk ⟨g', d'⟩
          have h1 : t.1[k]? = some (t.1[k]'(by omega)) := List.getElem?_eq_getElem (by omega)
          have h2 : u.1[k]? = some (u.1[k]'(by omega)) := List.getElem?_eq_getElem (by omega)
          have h3 : (addL t.1 u.1)[k]? = some (t.1[k]'(by omega) + u.1[k]'(by omega)) := by
            unfold addL
            rw [List.getElem?_zipWith, h1, h2]
          have e1 : (addL t.1 u.1).take (k + 1) = (addL t.1 u.1).take k ++ [t.1[k]'(by omega) + u.1[k]'(by omega)] := by rw [List.take_succ, h3, Option.toList_some]
          refine ⟨rfl, ?_⟩
          refine r_yes ?_
          refine r_T ?_
          show tOp _ _ _ [some (.ref f), some (.ref g), some (.ref T), some (.ref qa), some (.int t.2), some (.ref qb), some (.int u.2), some (.int (0 + (k : Int)))] H' _
          repeat walk_at "st"
          refine r_ixT (v := .int (t.1[k]'(by omega))) (tupOf (g' _ _ (g7 _ _ pw))) (by rw [Int.zero_add]; exact atI_nat (by rw [List.getElem?_map, h1]; rfl)) ?_
          repeat walk_at "st"
          refine r_ixT (v := .int (u.1[k]'(by omega))) (tupOf (g' _ _ (g7 _ _ pw2))) (by rw [Int.zero_add]; exact atI_nat (by rw [List.getElem?_map, h2]; rfl)) ?_
          repeat walk_at "st"
          refine ⟨_, d', by rw [List.length_map, List.length_take]; exact Nat.lt_of_le_of_lt (show _ ≤ 1000 by omega) (by decide), same_updS g' hD, ?_⟩
          rw [e1, List.map_append]
          exact upd_same
        rintro H8 ⟨g8, d8⟩
        rw [List.take_of_length_le (by rw [addL_len lt lu]; exact Nat.le_refl _)] at d8
        refine .inl ⟨D, _, rfl, lstOf d8, fun p9 np9 => ?_⟩
        obtain ⟨H9, e9, s9, k9⟩ := nw np9 (.tup ((addL t.1 u.1).map V.int))
        rw [← e9]
        clear e9
        repeat walk_at "st"
        refine ⟨sz rfl, fun p10 np10 => ?_⟩
        obtain ⟨H10, e10, s10, k10⟩ := nw np10 (.tup [V.ref p9, .int (t.2 * u.2)])
        rw [← e10]
        clear e10
        have s78 := g8.trans (s9.trans s10)
        have e7' := s78 _ _ e7
        repeat walk_at "st"
        refine ⟨T, ws', .ref p10, rfl, rfl, e7', Nat.lt_of_le_of_lt lws (by decide), ?_⟩
        have kt : Kt H10 (upd H10 T (.lst (ws' ++ [.ref p10]))) := Kt.lst e7'
        exact ⟨_, _, ws' ++ [.ref p10], rfl, same_updS (g7.trans s78) nT, upd_same, tms_snoc ((tm7.tmk (Kt.same s78)).tmk kt) ⟨p10, p9, rfl, kt _ _ k10, kt _ _ (s10 _ _ k9)⟩⟩
      · rintro σ H7 ⟨y5', y6', ws', rfl, g7, e7, tm7⟩
        rw [l2, List.take_length, ← mul_take ht] at tm7
        exact ⟨_, _, _, _, ws', rfl, g7, e7, tm7⟩
    · rintro σ H6 ⟨y3, y4, y5, y6, ws, rfl, g6, e6, tm6⟩
      rw [l1, List.take_length] at tm6
      exact J _ _ ⟨_, _, _, _, ws, rfl, g6, e6, tm6⟩
  rintro σ H6 ⟨y3, y4, y5, y6, ws, rfl, g6, e6, tm6⟩
  repeat walk_at "st"
  refine ⟨T, ws, mulT Fo Go, m, c + c, rfl, lstOf e6, tm6, mul_ok okF okG, by rw [mul_len]; exact lFG, fun r R H7 s7 n7 f7 fm => ?_⟩
  exact q r R H7 (g6.trans s7) (g6.free n7) f7 fm
theorem ok_power (F : Fn K mg "_law_power" s_power) (z_range : mg "range" = none) : Kn P w K mg base 1 "_law_power" ["_law_number", "_law_count"] spPow := by
  refine F.kn sc_power (fun vs H Q E h => ?_) (fun f cdv A outer s H vs Q E hr h => ?_) (fun _ _ _ _ _ _ us hl => match us, hl with | [_, _], _ => rfl)
  · obtain ⟨n, k, B, rfl, _⟩ := h
    rfl
  obtain ⟨n, k, B, rfl, sn, hB, hB1, hk, q⟩ := h
  refine ⟨_, (pss_cons (ps_set (i := 2) sc_power.nd rfl (.inl rfl) pe_int)
    (pss_cons (ps_for PassesOwn.never rfl (pi_range1 (by rfl) z_range (pa_cons (pv 1) pa_nil)) (pg_name (i := 3) sc_power.nd rfl (.inl rfl))
    (pss_one (ps_set (i := 2) sc_power.nd rfl (.inl rfl) (pe_op op_mulW (pv 2) (pv 0)))))
    (pss_one (ps_ret (pv 2))))), ?_⟩
  show (_ : TS) _ [some (.int n), some (.int (k : Int)), none, none] _
  repeat walk_at "st"
  with_reducible refine r_cut (fun σ H' => ∃ y : Option V, σ = [some (.int n), some (.int (k : Int)), some (.int (n ^ k)), y] ∧ H' = H) ?U1 ?V1
  case V1 =>
    intro N J
    refine ⟨.int (k : Int), rfl, (k : Int), rfl, by omega, by omega, ?_⟩
    rw [show ((k : Int)).toNat = k from by omega]
    refine for_range (n := k) (fun i σ H' => ∃ y : Option V, σ = [some (.int n), some (.int (k : Int)), some (.int (n ^ i)), y] ∧ H' = H) ⟨_, by rw [Int.pow_zero], rfl⟩ ?_ ?_
    · rintro i σ H' hi ⟨y, rfl, rfl⟩
      repeat walk_at "st"
      refine ⟨_, _, rfl, rfl, Sm.cmul (m := B * i + 1) (n := B) (sn.pow i) sn (by omega) (by omega) (by have : B * i ≤ 10000 * 50 := Nat.mul_le_mul hB (by omega); omega), ?_⟩
      repeat walk_at "st"
      exact ⟨_, by rw [Int.pow_succ], rfl⟩
    · rintro σ H' ⟨y, rfl, rfl⟩
      exact J _ _ ⟨_, rfl, rfl⟩
  rintro σ H' ⟨y, rfl, rfl⟩
  repeat walk_at "st"
  exact q
theorem ok_unit (F : Fn K mg "_law_unit" s_unit) (z_int : mg "int" = none) (z_range : mg "range" = none) (z_tuple : mg "tuple" = none) : Kn P w K mg base 1 "_law_unit" ["_law_many", "_law_at", "_law_number"] (spUnit K) := by
  refine F.kn sc_unit (fun vs H Q E h => ?_) (fun f cdv A outer s H vs Q E hr h => ?_) (fun _ _ _ _ _ _ us hl => match us, hl with | [_, _, _], _ => rfl)
  · obtain ⟨m, a, n, rfl, _⟩ := h
    rfl
  obtain ⟨m, a, n, rfl, hm, q⟩ := h
  refine ⟨_, (pss_one (ps_ret (pe_tup (pa_cons (pe_tupleOf (by rfl) z_tuple (pe_lc (own := [("_law_k", 3)]) (g := gName 3) (by rfl) sc_unit.nd (pi_range1 (by rfl) z_range (pa_cons (pv 0) pa_nil)) (blkOk_by (own := [("_law_k", 3)]) (N := ["_law_many", "_law_at", "_law_number", "_law_k"]) (sc := (defScope s_unit)) (by decide +kernel)) (fun _ _ _ _ _ => pg_name (i := 3) sc_unit.nd rfl (.inl rfl)) (fun _ _ _ _ _ => pts_nil) (fun _ _ _ _ _ => (pe_callTy call_int1 (by rfl) z_int (by decide +kernel) (pa_cons (pe_cmpR op_eq (pv 3) (pv 1) (nomark _)) pa_nil))))) (pa_cons (pv 2) pa_nil))))), ?_⟩
  show (_ : TS) _ [some (.int (m : Int)), some (.int (a : Int)), some (.int n), none] _
  repeat walk_at "st"
  refine r_then ?_
  refine ⟨.int (m : Int), rfl, (m : Int), rfl, by omega, by omega, fun D hD => ?_⟩
  rw [show ((m : Int)).toNat = m from by omega]
  refine lc_range (n := m) (fun k H' => Same H H' ∧ H' D = some (.lst (((pk m a 1).take k).map V.int))) ⟨same_new hD _, by rw [List.take_zero]; exact upd_same⟩ ?_ ?_
  · rintro k H' hk ⟨g', d'⟩
    have h3 : (pk m a 1)[k]? = some (if k = a then (1 : Int) else 0) := by
      unfold pk
      rw [List.getElem?_map, List.getElem?_range hk]
      rfl
    have e1 : (pk m a 1).take (k + 1) = (pk m a 1).take k ++ [if k = a then (1 : Int) else 0] := by rw [List.take_succ, h3, Option.toList_some]
    refine ⟨rfl, ?_⟩
    refine r_yes ?_
    refine r_T ?_
    rw [Int.zero_add]
    show tCB _ _ [some (.int (m : Int)), some (.int (a : Int)), some (.int n), some (.int (k : Int))] H' _
    repeat walk_at "st"
    refine .inr ⟨_, rfl, ?_⟩
    refine ⟨_, d', by rw [List.length_map, List.length_take]; exact Nat.lt_of_le_of_lt (show _ ≤ 1000 by omega) (by decide), same_updS g' hD, ?_⟩
    rw [e1, List.map_append, upd_same]
    by_cases c : k = a
    · rw [if_pos c, decide_eq_true (by omega)]
      rfl
    · rw [if_neg c, decide_eq_false (by omega)]
      rfl
  rintro H8 ⟨g8, d8⟩
  rw [List.take_of_length_le (by rw [pk_len]; exact Nat.le_refl _)] at d8
  refine .inl ⟨D, _, rfl, lstOf d8, fun p9 np9 => ?_⟩
  obtain ⟨H9, e9, s9, k9⟩ := nw np9 (.tup ((pk m a 1).map V.int))
  rw [← e9]
  clear e9
  repeat walk_at "st"
  refine ⟨sz rfl, fun p10 np10 => ?_⟩
  obtain ⟨H10, e10, s10, k10⟩ := nw np10 (.tup [V.ref p9, .int n])
  rw [← e10]
  clear e10
  exact q _ H10 (g8.trans (s9.trans s10)) ⟨p10, p9, rfl, k10, s10 _ _ k9⟩
theorem ok_factor (F : Fn K mg "_law_factor" s_factor) (G_take : Kn P w K mg base 1 "_law_take" ["_law_pool_here", "_law_wide"] spTakeW) (G_unit : Kn P w K mg base 1 "_law_unit" ["_law_many", "_law_at", "_law_number"] (spUnit K)) (G_gather : Kn P w K mg base 1 "_law_gather" ["_law_terms"] (spSummed K)) : Kn P w K mg base 2 "_law_factor" ["_law_pool_here", "_law_many"] (spFactor K) := by
  refine F.kn sc_factor (fun vs H Q E h => ?_) (fun f cdv A outer s H vs Q E hr h => ?_) (fun _ _ _ _ _ _ us hl => match us, hl with | [_, _], _ => rfl)
  · obtain ⟨p, m, b, rfl, _⟩ := h
    rfl
  obtain ⟨p, m, b, rfl, hp, hb, hm, q⟩ := h
  refine ⟨_, (pss_cons (ps_set (i := 2) sc_factor.nd rfl (.inl rfl) (pe_kn G_take (hr.mono (by decide)) (by rfl) (pa_cons (pv 0) (pa_cons pe_int pa_nil))))
    (pss_cons (ps_set (i := 3) sc_factor.nd rfl (.inl rfl) (pe_kn G_unit (hr.mono (by decide)) (by rfl) (pa_cons (pv 1) (pa_cons (pv 1) (pa_cons (pe_op op_add pe_int (pe_kn G_take (hr.mono (by decide)) (by rfl) (pa_cons (pv 0) (pa_cons pe_int pa_nil)))) pa_nil)))))
    (pss_cons (ps_if (PW.pt (pw_or (pt_cmpR op_eq (pv 1) pe_int (nomark _)) (pw_or1 (pt_cmpR op_eq (pv 2) pe_int (nomark _)))))
    (pss_one (ps_ret (pe_kn G_gather (hr.mono (by decide)) (by rfl) (pa_cons (pe_lst (pa_cons (pe_tup (pa_cons (pe_ix ix_tup (pv 3) pe_int (fun _ _ => rfl)) (pa_cons (pe_ix ix_list (pe_lst (pa_cons (pe_ix ix_tup (pv 3) pe_int (fun _ _ => rfl)) (pa_cons (pe_un un_neg (pe_ix ix_tup (pv 3) pe_int (fun _ _ => rfl))) pa_nil))) (pe_kn G_take (hr.mono (by decide)) (by rfl) (pa_cons (pv 0) (pa_cons pe_int pa_nil))) (fun _ _ => rfl)) pa_nil))) pa_nil)) pa_nil))))
    pss_nil)
    (pss_cons (ps_set (i := 4) sc_factor.nd rfl (.inl rfl) (pe_kn G_take (hr.mono (by decide)) (by rfl) (pa_cons (pv 0) (pa_cons (pv 1) pa_nil))))
    (pss_cons (ps_set (i := 5) sc_factor.nd rfl (.inl rfl) (pe_kn G_take (hr.mono (by decide)) (by rfl) (pa_cons (pv 0) (pa_cons (pv 1) pa_nil))))
    (pss_cons (ps_if (pt_cmpR op_lt (pv 2) pe_int (nomark _))
    (pss_one (ps_ret (pe_kn G_gather (hr.mono (by decide)) (by rfl) (pa_cons (pe_lst (pa_cons (pe_kn G_unit (hr.mono (by decide)) (by rfl) (pa_cons (pv 1) (pa_cons (pv 4) (pa_cons pe_int pa_nil)))) (pa_cons (pe_tup (pa_cons (pe_ix ix_tup (pv 3) pe_int (fun _ _ => rfl)) (pa_cons (pe_op op_sub pe_int (pe_ix ix_tup (pv 3) pe_int (fun _ _ => rfl))) pa_nil))) pa_nil))) pa_nil))))
    pss_nil)
    (pss_cons (ps_if (PW.pt (pw_and (pt_cmpR op_lt (pv 2) pe_int (nomark _)) (pw_and1 (pt_cmpR op_ne (pv 4) (pv 5) (nomark _)))))
    (pss_one (ps_ret (pe_kn G_gather (hr.mono (by decide)) (by rfl) (pa_cons (pe_lst (pa_cons (pe_kn G_unit (hr.mono (by decide)) (by rfl) (pa_cons (pv 1) (pa_cons (pv 4) (pa_cons pe_int pa_nil)))) (pa_cons (pe_kn G_unit (hr.mono (by decide)) (by rfl) (pa_cons (pv 1) (pa_cons (pv 5) (pa_cons (pe_un un_neg pe_int) pa_nil)))) pa_nil))) pa_nil))))
    pss_nil)
    (pss_one (ps_ret (pe_kn G_gather (hr.mono (by decide)) (by rfl) (pa_cons (pe_lst (pa_cons (pe_kn G_unit (hr.mono (by decide)) (by rfl) (pa_cons (pv 1) (pa_cons (pv 4) (pa_cons pe_int pa_nil)))) (pa_cons (pe_kn G_unit (hr.mono (by decide)) (by rfl) (pa_cons (pv 1) (pa_cons (pv 5) (pa_cons pe_int pa_nil)))) (pa_cons (pe_tup (pa_cons (pe_ix ix_tup (pv 3) pe_int (fun _ _ => rfl)) (pa_cons (pe_op op_sub pe_int (pe_ix ix_tup (pv 3) pe_int (fun _ _ => rfl))) pa_nil))) pa_nil)))) pa_nil))))))))))), ?_⟩
  show (_ : TS) _ [some (.ref p), some (.int (m : Int)), none, none, none, none] _
  have s5 : ∀ i : Int, -30 ≤ i → i ≤ 30 → Sm 5 i := fun i h1 h2 => Nat.lt_of_le_of_lt (show i.natAbs ≤ 30 by omega) (by decide)
  have g2 : ∀ (k l : Nat) (i j : Int), -30 ≤ i → i ≤ 30 → -30 ≤ j → j ≤ 30 → ∀ t ∈ ([(pk m k 1, i), (pk m l 1, j)] : List Trm), Sm 5 t.2 := fun k l i j h1 h2 h3 h4 t ht => by
    rcases List.mem_cons.mp ht with rfl | ht
    · exact s5 _ h1 h2
    · rw [List.mem_singleton.mp ht]; exact s5 _ h3 h4
  have o1 : ∀ (k : Nat) (i : Int), OkT m 1 [(pk m k 1, i)] := fun k i => okT_pk (by decide)
  repeat walk_at "st"
  refine ⟨p, _, _, rfl, hp, by omega, by decide, by decide, fun way H1 b1 hp1 w0 w1 => ?_⟩
  repeat walk_at "st"
  refine ⟨p, _, _, rfl, hp1, by omega, by decide, by decide, fun r H2 b2 hp2 r0 r1 => ?_⟩
  repeat walk_at "st"
  refine ⟨m, m, 1 + r, rfl, hm, fun v H3 s3 tv => ?_⟩
  obtain ⟨fa, fq, rfl, ft0, fw⟩ := tv
  have ft : H3 fa = some (.tup [.ref fq, .int (1 + r)]) := ft0
  clear ft0
  have g3 : But p H H3 := b1.trans (b2.trans (But.same s3))
  have hp3 := hp2.same s3
  clear b1 b2 s3 hp hp1 hp2
  repeat walk_at "st"
  refine r_seq ?_
  repeat walk_at "st"
  refine r_ite (fun c => ?ga) (fun c => ?gr)
  case' gr =>
    repeat walk_at "st"
    refine r_ite (fun c2 => ?gb) (fun c2 => ?gs)
  case gs =>
    have fin : ∀ (L : Addr) (us : List V) (ts : List Trm) (H' : Hp) (b' : Int), But p H3 H' → Pl H' p b' → b' ≤ b + 5 → H' L = some (.lst us) → Tms H' us ts → OkT m 1 ts → ts.length ≤ 3 → (∀ t ∈ ts, Sm 5 t.2) → spSummed K [.ref L] H' Q E := fun L us ts H' b' bb hp' lb eL tm ok l sz => by
      refine ⟨L, us, ts, m, 1, rfl, lstOf eL, tm, ok, by omega, fun f F H'' s' nf ff fm => ?_⟩
      have gb := g3.trans bb
      exact q f F H'' (gb.trans (But.same s')) ((hp'.same s').mono lb) (but_free gb hp' nf) ff (fm.gx ok l (by decide) (fun t ht => sz t ht))
    repeat walk_at "st"
    refine ⟨p, _, _, rfl, hp3, by omega, by omega, by omega, fun at_ H4 b4 hp4 a0 a1 => ?_⟩
    obtain ⟨at', rfl⟩ : ∃ j : Nat, at_ = (j : Int) := ⟨at_.toNat, by omega⟩
    repeat walk_at "st"
    refine ⟨p, _, _, rfl, hp4, by omega, by omega, by omega, fun ot_ H5 b5 hp5 o0 o1' => ?_⟩
    obtain ⟨ot, rfl⟩ : ∃ j : Nat, ot_ = (j : Int) := ⟨ot_.toNat, by omega⟩
    have g5 := b4.trans b5
    have kt5 : Kt H3 H5 := (Kt.but b4 hp3).trans (Kt.but b5 hp4)
    have ft5 := kt5 _ _ ft
    have fw5 : Pw H5 fq (pk m m 1) := kt5 _ _ fw
    clear ft fw b4 b5 hp3 hp4 kt5 g3
    repeat walk_at "st"
    refine r_seq ?_
    repeat walk_at "st"
    refine r_ite (fun c3 => ?_) (fun c3 => ?_)
    · repeat walk_at "st"
      refine ⟨m, at', 1, rfl, hm, fun v1 H6 s6 tv1 => ?_⟩
      repeat walk_at "st"
      refine r_ixT0 (tupOf (s6 _ _ ft5)) ?_
      repeat walk_at "st"
      refine r_ixT (v := .int (1 + r)) (tupOf (s6 _ _ ft5)) rfl ?_
      repeat walk_at "st"
      refine ⟨sz rfl, fun T nT => ?_⟩
      obtain ⟨H7, e7, s7, k7⟩ := nw nT (.tup [V.ref fq, .int (1 - (1 + r))])
      rw [← e7]
      clear e7
      repeat walk_at "st"
      refine ⟨sz rfl, fun L nL => ?_⟩
      obtain ⟨H8, e8, s8, k8⟩ := nw nL (.lst [v1, .ref T])
      rw [← e8]
      clear e8
      have s68 := s6.trans (s7.trans s8)
      repeat walk_at "st"
      refine fin L [v1, .ref T] [(pk m at' 1, 1), (pk m m 1, 1 - (1 + r))] H8 _ (g5.trans (But.same s68)) (hp5.same s68) (by omega) k8 (.cons (Tm.kt (Kt.same (s7.trans s8)) tv1) (.cons ⟨T, fq, rfl, s8 _ _ k7, s68 _ _ fw5⟩ .nil)) (okT_app (o1 at' 1) (o1 m _)) (by simp) (g2 _ _ _ _ (by omega) (by omega) (by omega) (by omega))
    · have fin3 : ∀ H6, Same H5 H6 → ∀ v1 v2, Tm H6 v1 (pk m at' 1, 1) → Tm H6 v2 (pk m ot 1, 1) → ∀ T, H6 T = none → ∀ L, upd H6 T (.tup [V.ref fq, .int (1 - (1 + r))]) L = none → spSummed K [.ref L] (upd (upd H6 T (.tup [V.ref fq, .int (1 - (1 + r))])) L (.lst [v1, v2, .ref T])) Q E := fun H6 s6 v1 v2 tv1 tv2 T nT L nL => by
        obtain ⟨H7, e7, s7, k7⟩ := nw nT (.tup [V.ref fq, .int (1 - (1 + r))])
        rw [← e7] at nL ⊢
        clear e7
        obtain ⟨H8, e8, s8, k8⟩ := nw nL (.lst [v1, v2, .ref T])
        rw [← e8]
        clear e8
        have s68 := s6.trans (s7.trans s8)
        have h8 : Pw H8 fq (pk m m 1) := s68 _ _ fw5
        refine fin L [v1, v2, .ref T] [(pk m at' 1, 1), (pk m ot 1, 1), (pk m m 1, 1 - (1 + r))] H8 _ (g5.trans (But.same s68)) (hp5.same s68) (by omega) k8 (.cons (Tm.kt (Kt.same (s7.trans s8)) tv1) (.cons (Tm.kt (Kt.same (s7.trans s8)) tv2) (.cons ⟨T, fq, rfl, s8 _ _ k7, h8⟩ .nil))) (okT_app (o1 at' 1) (okT_app (o1 ot 1) (o1 m _))) (by simp) fun t ht => ?_
        rcases List.mem_cons.mp ht with ht | ht
        · rw [ht]; exact s5 1 (by decide) (by decide)
        · exact g2 _ _ _ _ (by omega) (by omega) (by omega) (by omega) t ht
      repeat walk_at "st"
      refine r_seq ?_
      repeat walk_at "st"
      refine r_ite (fun c4 => ?gx) (fun c4 => ?gy)
      case' gx =>
        repeat walk_at "st"
        refine r_iteN (fun c5 => ?gn) (fun c5 => ?gz)
      case gn =>
        repeat walk_at "st"
        refine ⟨m, at', 1, rfl, hm, fun v1 H6 s6 tv1 => ?_⟩
        repeat walk_at "st"
        refine ⟨m, ot, -1, rfl, hm, fun v2 H7 s7 tv2 => ?_⟩
        repeat walk_at "st"
        refine ⟨sz rfl, fun L nL => ?_⟩
        obtain ⟨H8, e8, s8, k8⟩ := nw nL (.lst [v1, v2])
        rw [← e8]
        clear e8
        have s68 := s6.trans (s7.trans s8)
        repeat walk_at "st"
        exact fin L [v1, v2] [(pk m at' 1, 1), (pk m ot 1, -1)] H8 _ (g5.trans (But.same s68)) (hp5.same s68) (by omega) k8 (.cons (Tm.kt (Kt.same (s7.trans s8)) tv1) (.cons (Tm.kt (Kt.same s8) tv2) .nil)) (okT_app (o1 at' 1) (o1 ot _)) (by simp) (g2 _ _ _ _ (by omega) (by omega) (by omega) (by omega))
      all_goals
        repeat walk_at "st"
        refine ⟨m, at', 1, rfl, hm, fun v1 H6 s6 tv1 => ?_⟩
        repeat walk_at "st"
        refine ⟨m, ot, 1, rfl, hm, fun v2 H7 s7 tv2 => ?_⟩
        repeat walk_at "st"
        refine r_ixT0 (tupOf ((s6.trans s7) _ _ ft5)) ?_
        repeat walk_at "st"
        refine r_ixT (v := .int (1 + r)) (tupOf ((s6.trans s7) _ _ ft5)) rfl ?_
        repeat walk_at "st"
        refine ⟨sz rfl, fun T nT => ?_⟩
        repeat walk_at "st"
        refine ⟨sz rfl, fun L nL => ?_⟩
        repeat walk_at "st"
        exact fin3 H7 (s6.trans s7) v1 v2 (Tm.kt (Kt.same s7) tv1) tv2 T nT L nL
  all_goals
    try (with_reducible refine r_T ?_)
    repeat walk_at "st"
    refine ⟨sz rfl, fun D nD => ?_⟩
    have nDp := hp3.ne2 nD
    obtain ⟨H4, e4, s4, k4⟩ := nw nD (.lst [V.int (1 + r), .int (-(1 + r))])
    rw [← e4]
    clear e4
    repeat walk_at "st"
    refine ⟨p, _, _, rfl, hp3.same s4, by omega, by decide, by decide, fun r2 H5 b5 hp5 r20 r21 => ?_⟩
    obtain ⟨nu, an, n0, n1⟩ : ∃ nu : Int, atI [V.int (1 + r), .int (-(1 + r))] r2 = some (.int nu) ∧ -30 ≤ nu ∧ nu ≤ 30 := by
      have : r2 = 0 ∨ r2 = 1 := by omega
      rcases this with rfl | rfl
      all_goals exact ⟨_, rfl, by omega, by omega⟩
    refine r_ixL (lstOf (b5 _ _ (Ne.symm nDp) k4)) an ?_
    repeat walk_at "st"
    refine ⟨sz rfl, fun T nT => ?_⟩
    obtain ⟨H6, e6, s6, k6⟩ := nw nT (.tup [V.ref fq, .int nu])
    rw [← e6]
    clear e6
    repeat walk_at "st"
    refine ⟨sz rfl, fun L nL => ?_⟩
    obtain ⟨H7, e7, s7, k7⟩ := nw nL (.lst [V.ref T])
    rw [← e7]
    clear e7
    have fw7 := (s6.trans s7) _ _ (Kt.but b5 (hp3.same s4) _ _ (s4 _ _ fw))
    have gb : But p H H7 := g3.trans ((But.same s4).trans (b5.trans (But.same (s6.trans s7))))
    have hp7 := hp5.same (s6.trans s7)
    repeat walk_at "st"
    refine ⟨L, [.ref T], [(pk m m 1, nu)], m, 1, rfl, lstOf k7, .cons ⟨T, fq, rfl, s7 _ _ k6, fw7⟩ .nil, o1 m nu, by simp, fun f F H'' s' nf ff fm => ?_⟩
    exact q f F H'' (gb.trans (But.same s')) ((hp7.same s').mono (by omega)) (but_free gb hp7 nf) ff (fm.gx (o1 m nu) (by simp) (by decide) fun t ht => by rw [List.mem_singleton.mp ht]; exact s5 _ n0 n1)
theorem ok_ladder (F : Fn K mg "_law_ladder" s_ladder) (G_unit : Kn P w K mg base 1 "_law_unit" ["_law_many", "_law_at", "_law_number"] (spUnit K)) (G_gather : Kn P w K mg base 1 "_law_gather" ["_law_terms"] (spSummed K)) (G_product : Kn P w K mg base 2 "_law_product" ["_law_one", "_law_other"] (spMul K)) (z_range : mg "range" = none) : Kn P w K mg base 3 "_law_ladder" ["_law_many", "_law_at", "_law_low", "_law_count"] (spLadder K) := by
  refine F.kn sc_ladder (fun vs H Q E h => ?_) (fun f cdv A outer s H vs Q E hr h => ?_) (fun _ _ _ _ _ _ us hl => match us, hl with | [_, _, _, _], _ => rfl)
  · obtain ⟨m, a, lo, c, rfl, _⟩ := h
    rfl
  obtain ⟨m, a, lo, c, rfl, hm, ha, hlo, hc, q⟩ := h
  refine ⟨_, (pss_cons (ps_set (i := 4) sc_ladder.nd rfl (.inl rfl) (pe_kn G_gather (hr.mono (by decide)) (by rfl) (pa_cons (pe_lst (pa_cons (pe_kn G_unit (hr.mono (by decide)) (by rfl) (pa_cons (pv 0) (pa_cons (pv 0) (pa_cons pe_int pa_nil)))) pa_nil)) pa_nil)))
    (pss_cons (ps_for PassesOwn.never rfl (pi_range2 (by rfl) z_range (pa_cons (pv 2) (pa_cons (pe_op op_add (pv 2) (pv 3)) pa_nil))) (pg_name (i := 5) sc_ladder.nd rfl (.inl rfl))
    (pss_one (ps_set (i := 4) sc_ladder.nd rfl (.inl rfl) (pe_kn G_product (hr.mono (by decide)) (by rfl) (pa_cons (pv 4) (pa_cons (pe_kn G_gather (hr.mono (by decide)) (by rfl) (pa_cons (pe_lst (pa_cons (pe_kn G_unit (hr.mono (by decide)) (by rfl) (pa_cons (pv 0) (pa_cons (pv 1) (pa_cons pe_int pa_nil)))) (pa_cons (pe_kn G_unit (hr.mono (by decide)) (by rfl) (pa_cons (pv 0) (pa_cons (pv 0) (pa_cons (pe_un un_neg (pv 5)) pa_nil)))) pa_nil))) pa_nil)) pa_nil))))))
    (pss_one (ps_ret (pv 4))))), ?_⟩
  show (_ : TS) _ [some (.int (m : Int)), some (.int (a : Int)), some (.int (lo : Int)), some (.int (c : Int)), none, none] _
  have s5 : ∀ i : Int, -30 ≤ i → i ≤ 30 → Sm 5 i := fun i h1 h2 => Nat.lt_of_le_of_lt (show i.natAbs ≤ 30 by omega) (by decide)
  repeat walk_at "st"
  refine ⟨m, m, 1, rfl, hm, fun v1 H1 s1 tv1 => ?_⟩
  repeat walk_at "st"
  refine ⟨sz rfl, fun L nL => ?_⟩
  obtain ⟨H2, e2, s2, k2⟩ := nw nL (.lst [v1])
  rw [← e2]
  clear e2
  have ok0 : OkT m 0 [(pk m m 1, 1)] := fun t ht => by
    rw [List.mem_singleton.mp ht]
    refine ⟨pk_len, fun x hx => ?_⟩
    have hx' : x ∈ pk m a 0 := by rw [← pk_out]; exact hx
    have := pk_ok x hx'
    omega
  repeat walk_at "st"
  refine ⟨L, [v1], [(pk m m 1, 1)], m, 0, rfl, lstOf k2, .cons (Tm.kt (Kt.same s2) tv1) .nil, ok0, by simp, fun f0 F0 H3 s3 nf0 ff0 fm0 => ?_⟩
  have g3 := s1.trans (s2.trans s3)
  have gx0 : Gx m ((0 : Nat) : Int) (0 + 1) (15 + 26 * 0) F0 := fm0.gx ok0 (by simp) (by decide) fun t ht => by rw [List.mem_singleton.mp ht]; exact s5 1 (by decide) (by decide)
  have ld0 : Lad m a 0 F0 := fun x hx => by
    obtain ⟨t, ht, e⟩ := fm_key fm0 hx
    rw [List.mem_singleton.mp ht] at e
    exact ⟨0, Nat.le_refl _, by rw [← e, ← pk_out]⟩
  repeat walk_at "st"
  with_reducible refine r_cut (fun σ H' => ∃ (y5 : Option V) (f : Addr) (Fo : List Trm), σ = [some (.int (m : Int)), some (.int (a : Int)), some (.int (lo : Int)), some (.int (c : Int)), some (.ref f), y5] ∧ Same H H' ∧ H f = none ∧ FmAt H' f Fo ∧ Gx m (c : Int) (c + 1) (15 + 26 * c) Fo ∧ Lad m a c Fo) ?U1 ?V1
  case V1 =>
    intro N J
    unfold tFor iRng2
    repeat walk_at "st"
    refine ⟨(lo : Int), (lo : Int) + (c : Int), rfl, ⟨by omega, by omega, by omega, by omega⟩, ?_⟩
    rw [show ((lo : Int) + (c : Int) - (lo : Int)).toNat = c by omega]
    refine for_range (n := c) (fun i σ H' => ∃ (y5 : Option V) (f : Addr) (Fo : List Trm), σ = [some (.int (m : Int)), some (.int (a : Int)), some (.int (lo : Int)), some (.int (c : Int)), some (.ref f), y5] ∧ Same H H' ∧ H f = none ∧ FmAt H' f Fo ∧ Gx m (i : Int) (i + 1) (15 + 26 * i) Fo ∧ Lad m a i Fo) ⟨_, f0, F0, rfl, g3, (s1.trans s2).free nf0, ff0, gx0, ld0⟩ ?_ ?_
    · rintro i σ H4 hi ⟨y5, f, Fo, rfl, g4, nf, ff, gx, ld⟩
      repeat walk_at "st"
      refine ⟨m, a, 1, rfl, hm, fun v1 H5 s5' tv1 => ?_⟩
      repeat walk_at "st"
      refine ⟨m, m, -((lo : Int) + (i : Int)), rfl, hm, fun v2 H6 s6 tv2 => ?_⟩
      repeat walk_at "st"
      refine ⟨sz rfl, fun L nL => ?_⟩
      obtain ⟨H7, e7, s7, k7⟩ := nw nL (.lst [v1, v2])
      rw [← e7]
      clear e7
      repeat walk_at "st"
      have okG : OkT m 1 ([(pk m a 1, 1), (pk m m 1, -((lo : Int) + (i : Int)))] : List Trm) := okT_app (a := [(pk m a 1, 1)]) (okT_pk (by decide)) (okT_pk (by decide))
      refine ⟨L, [v1, v2], [(pk m a 1, 1), (pk m m 1, -((lo : Int) + (i : Int)))], m, 1, rfl, lstOf k7, .cons (Tm.kt (Kt.same (s6.trans s7)) tv1) (.cons (Tm.kt (Kt.same s7) tv2) .nil), okG, by simp, fun g G H8 s8 ng fg fm => ?_⟩
      have gG : Gx m 1 2 16 G := by
        have := fm.gx (S := 6) (L := 2) okG (by simp) (by decide) fun t ht => by
          rcases List.mem_cons.mp ht with rfl | ht
          · exact (s5 1 (by decide) (by decide)).mono (by decide)
          · rw [List.mem_singleton.mp ht]
            exact (s5 _ (by show -30 ≤ -((lo : Int) + (i : Int)); omega) (by show -((lo : Int) + (i : Int)) ≤ 30; omega)).mono (by decide)
        exact this
      have lG : Lad m a 1 G := fun x hx => by
        obtain ⟨t, ht, e⟩ := fm_key fm hx
        rcases List.mem_cons.mp ht with rfl | ht
        · exact ⟨1, Nat.le_refl _, e.symm⟩
        · rw [List.mem_singleton.mp ht] at e
          exact ⟨0, by decide, by rw [← e, ← pk_out]⟩
      have s58 := s5'.trans (s6.trans (s7.trans s8))
      repeat walk_at "st"
      have l1 := gx.len
      have l2 := gG.len
      have ll : Fo.length * G.length ≤ 13 * 2 := Nat.mul_le_mul (by omega) l2
      refine ⟨f, g, Fo, G, m, 12, rfl, ff.kt (Kt.same s58), fg, okT_mono gx.ok (by omega), okT_mono gG.ok (by decide), by decide, by decide, hm, by omega, by omega, by omega, fun t ht => (gx.sz t ht).mono (by omega), fun t ht => (gG.sz t ht).mono (by decide), fun r R H9 s9 nr fr fmR => ?_⟩
      obtain ⟨x1, x2⟩ := gx_step gx ld gG lG fmR (by omega)
      repeat walk_at "st"
      have g8 := g4.trans s58
      exact ⟨_, r, R, rfl, g8.trans s9, g8.free nr, fr, ⟨x1.up, x1.nz, x1.ok, x1.len, fun t ht => (x1.sz t ht).mono (by omega)⟩, x2⟩
    · rintro σ H4 h4
      exact J _ _ h4
  rintro σ H4 ⟨y5, f, Fo, rfl, g4, nf, ff, gx, ld⟩
  repeat walk_at "st"
  exact q f Fo H4 g4 nf ff (gx.gf (by omega) (by omega) (by omega))
theorem ok_rungs (F : Fn K mg "_law_rungs" s_rungs) (G_take : Kn P w K mg base 1 "_law_take" ["_law_pool_here", "_law_wide"] spTakeW) (G_unit : Kn P w K mg base 1 "_law_unit" ["_law_many", "_law_at", "_law_number"] (spUnit K)) (G_gather : Kn P w K mg base 1 "_law_gather" ["_law_terms"] (spSummed K)) (z_range : mg "range" = none) : Kn P w K mg base 2 "_law_rungs" ["_law_pool_here", "_law_many"] (spRungs K) := by
  refine F.kn sc_rungs (fun vs H Q E h => ?_) (fun f cdv A outer s H vs Q E hr h => ?_) (fun _ _ _ _ _ _ us hl => match us, hl with | [_, _], _ => rfl)
  · obtain ⟨p, m, b, rfl, _⟩ := h
    rfl
  obtain ⟨p, m, b, rfl, hp, hb, hm1, hm, q⟩ := h
  refine ⟨_, (pss_cons (ps_set (i := 2) sc_rungs.nd rfl (.inl rfl) (pe_kn G_take (hr.mono (by decide)) (by rfl) (pa_cons (pv 0) (pa_cons (pv 1) pa_nil))))
    (pss_cons (ps_set (i := 3) sc_rungs.nd rfl (.inl rfl) (pe_op op_add pe_int (pe_kn G_take (hr.mono (by decide)) (by rfl) (pa_cons (pv 0) (pa_cons pe_int pa_nil)))))
    (pss_cons (ps_set (i := 4) sc_rungs.nd rfl (.inl rfl) (pe_kn G_take (hr.mono (by decide)) (by rfl) (pa_cons (pv 0) (pa_cons (pv 3) pa_nil))))
    (pss_cons (ps_set (i := 5) sc_rungs.nd rfl (.inl rfl) (pe_lst pa_nil))
    (pss_cons (ps_for PassesOwn.never rfl (pi_range1 (by rfl) z_range (pa_cons (pv 3) pa_nil)) (pg_name (i := 6) sc_rungs.nd rfl (.inl rfl))
    (pss_cons (ps_set (i := 7) sc_rungs.nd rfl (.inl rfl) (pe_op op_mod (pe_op op_add (pv 4) (pe_op op_mulW (pv 6) pe_int)) (pv 3)))
    (pss_one (ps_expr (pe_bm PySem.F.plainAttrs_list PySem.F.slot_list_append PySem.F.type_list_append mt_append (pv 5) (pa_cons (pe_kn G_gather (hr.mono (by decide)) (by rfl) (pa_cons (pe_lst (pa_cons (pe_kn G_unit (hr.mono (by decide)) (by rfl) (pa_cons (pv 1) (pa_cons (pv 2) (pa_cons pe_int pa_nil)))) (pa_cons (pe_kn G_unit (hr.mono (by decide)) (by rfl) (pa_cons (pv 1) (pa_cons (pv 1) (pa_cons (pe_un un_neg (pv 7)) pa_nil)))) pa_nil))) pa_nil)) pa_nil))))))
    (pss_one (ps_ret (pv 5)))))))), ?_⟩
  show (_ : TS) _ [some (.ref p), some (.int (m : Int)), none, none, none, none, none, none] _
  have s7 : ∀ i : Int, -100 ≤ i → i ≤ 100 → Sm 7 i := fun i h1 h2 => Nat.lt_of_le_of_lt (show i.natAbs ≤ 100 by omega) (by decide)
  repeat walk_at "st"
  refine ⟨p, _, _, rfl, hp, by omega, by omega, by omega, fun at_ H1 b1 hp1 a0 a1 => ?_⟩
  obtain ⟨a, rfl⟩ : ∃ j : Nat, at_ = (j : Int) := ⟨at_.toNat, by omega⟩
  repeat walk_at "st"
  refine ⟨p, _, _, rfl, hp1, by omega, by decide, by decide, fun c_ H2 b2 hp2 c0 c1 => ?_⟩
  obtain ⟨c, hc, hc1, hc2⟩ : ∃ j : Nat, 1 + c_ = (j : Int) ∧ 1 ≤ j ∧ j ≤ 60 := ⟨(1 + c_).toNat, by omega, by omega, by omega⟩
  refine r_i0 ?_
  rw [hc]
  repeat walk_at "st"
  refine ⟨p, _, _, rfl, hp2, by omega, by omega, by omega, fun be H3 b3 hp3 e0 e1 => ?_⟩
  have g3 := b1.trans (b2.trans b3)
  clear b1 b2 b3 hp1 hp2
  repeat walk_at "st"
  refine ⟨sz rfl, fun T nT => ?_⟩
  have sT := same_new nT (.lst [])
  have eT : upd H3 T (.lst []) T = some (.lst []) := upd_same
  have nT0 := but_free g3 hp3 nT
  generalize upd H3 T (.lst []) = H4 at *
  repeat walk_at "st"
  with_reducible refine r_cut (fun σ H' => ∃ (y6 y7 : Option V) (us : List V) (Fs : List (List Trm)), σ = [some (.ref p), some (.int (m : Int)), some (.int (a : Int)), some (.int (c : Int)), some (.int be), some (.ref T), y6, y7] ∧ Same H3 H' ∧ H' T = some (.lst us) ∧ Fvs H' us Fs ∧ (∀ F ∈ Fs, Gf m 1000 F) ∧ Fs.length ≤ c) ?U1 ?V1
  case V1 =>
    intro N J
    refine ⟨.int (c : Int), rfl, (c : Int), rfl, by omega, by omega, ?_⟩
    rw [show ((c : Int)).toNat = c from by omega]
    refine for_range (n := c) (fun i σ H' => ∃ (y6 y7 : Option V) (us : List V) (Fs : List (List Trm)), σ = [some (.ref p), some (.int (m : Int)), some (.int (a : Int)), some (.int (c : Int)), some (.int be), some (.ref T), y6, y7] ∧ Same H3 H' ∧ H' T = some (.lst us) ∧ Fvs H' us Fs ∧ (∀ F ∈ Fs, Gf m 1000 F) ∧ Fs.length ≤ i) ⟨_, _, [], [], rfl, sT, eT, .nil, (fun F hF => by cases hF), Nat.le_refl _⟩ ?_ ?_
    · rintro i σ H5 hi ⟨y6, y7, us, Fs, rfl, g5, e5, fv5, gf5, l5⟩
      have lu := Paired.length fv5
      repeat walk_at "st"
      refine r_i (Sm.cmul (m := 7) (n := 4) (s7 _ (by omega) (by omega)) (by decide)) ?_
      repeat walk_at "st"
      have n0 := Int.emod_nonneg (be + (0 + (i : Int)) * 7) (show (c : Int) ≠ 0 by omega)
      have n1 := Int.emod_lt_of_pos (be + (0 + (i : Int)) * 7) (show (0 : Int) < (c : Int) by omega)
      generalize (be + (0 + (i : Int)) * 7) % (c : Int) = nu at *
      refine r_bm ?_
      repeat walk_at "st"
      refine ⟨.inl ⟨rfl, _, lstOf e5⟩, ?_⟩
      repeat walk_at "st"
      refine ⟨m, a, 1, rfl, hm, fun v1 H6 s6 tv1 => ?_⟩
      repeat walk_at "st"
      refine ⟨m, m, -nu, rfl, hm, fun v2 H7 s7' tv2 => ?_⟩
      repeat walk_at "st"
      refine ⟨sz rfl, fun L nL => ?_⟩
      obtain ⟨H8, e8, s8, k8⟩ := nw nL (.lst [v1, v2])
      rw [← e8]
      clear e8
      repeat walk_at "st"
      have okG : OkT m 1 ([(pk m a 1, 1), (pk m m 1, -nu)] : List Trm) := okT_app (a := [(pk m a 1, 1)]) (okT_pk (by decide)) (okT_pk (by decide))
      refine ⟨L, [v1, v2], [(pk m a 1, 1), (pk m m 1, -nu)], m, 1, rfl, lstOf k8, .cons (Tm.kt (Kt.same (s7'.trans s8)) tv1) (.cons (Tm.kt (Kt.same s8) tv2) .nil), okG, by simp, fun g G H9 s9 ng fg fm => ?_⟩
      have gG : Gx m 1 2 (7 + 10) G := fm.gx okG (by simp) (by decide) fun t ht => by
        rcases List.mem_cons.mp ht with rfl | ht
        · exact s7 1 (by decide) (by decide)
        · rw [List.mem_singleton.mp ht]
          exact s7 _ (by show -100 ≤ -nu; omega) (by show -nu ≤ 100; omega)
      have s69 := s6.trans (s7'.trans (s8.trans s9))
      have e9 := s69 _ _ e5
      repeat walk_at "st"
      refine ⟨T, us, .ref g, rfl, rfl, e9, by rw [lu]; exact Nat.lt_of_le_of_lt (show Fs.length ≤ 1000 by omega) (by decide), ?_⟩
      have kt : Kt H9 (upd H9 T (.lst (us ++ [.ref g]))) := Kt.lst e9
      have nT3 : H3 T = none := nT
      refine ⟨_, _, us ++ [.ref g], Fs ++ [G], rfl, same_updS (g5.trans s69) nT3, upd_same, paired_snoc' ⟨g, rfl, fg.kt kt⟩ ((fv5.fkt (Kt.same s69)).fkt kt), fun F hF => ?_, by rw [List.length_append]; exact Nat.add_le_add_right l5 1⟩
      rcases List.mem_append.mp hF with hF | hF
      · exact gf5 F hF
      · rw [List.mem_singleton.mp hF]
        exact gG.gf (by decide) (by decide) (by decide)
    · rintro σ H5 ⟨y6, y7, us, Fs, rfl, h⟩
      exact J _ _ ⟨_, _, us, Fs, rfl, h⟩
  rintro σ H5 ⟨y6, y7, us, Fs, rfl, g5, e5, fv5, gf5, l5⟩
  repeat walk_at "st"
  exact q T us Fs H5 (g3.trans (But.same g5)) nT0 e5 fv5 gf5 (by omega)
theorem ok_forms (F : Fn K mg "_law_forms" s_forms) (G_take : Kn P w K mg base 1 "_law_take" ["_law_pool_here", "_law_wide"] spTakeW) (G_rungs : Kn P w K mg base 2 "_law_rungs" ["_law_pool_here", "_law_many"] (spRungs K)) (G_factor : Kn P w K mg base 2 "_law_factor" ["_law_pool_here", "_law_many"] (spFactor K)) (G_product : Kn P w K mg base 2 "_law_product" ["_law_one", "_law_other"] (spMul K)) (G_ladder : Kn P w K mg base 3 "_law_ladder" ["_law_many", "_law_at", "_law_low", "_law_count"] (spLadder K)) (z_len : mg "len" = none) (z_max : mg "max" = none) (z_min : mg "min" = none) (z_range : mg "range" = none) : Kn P w K mg base 4 "_law_forms" ["_law_pool_here", "_law_many"] (spForms K) := by
  refine F.kn sc_forms (fun vs H Q E h => ?_) (fun f cdv A outer s H vs Q E hr h => ?_) (fun _ _ _ _ _ _ us hl => match us, hl with | [_, _], _ => rfl)
  · obtain ⟨p, m, b, rfl, _⟩ := h
    rfl
  obtain ⟨p, m, b, rfl, hp, hb, hm, q⟩ := h
  refine ⟨_, (pss_cons (ps_if (PW.pt (pw_and (pt_cmpR op_eq (pe_kn G_take (hr.mono (by decide)) (by rfl) (pa_cons (pv 0) (pa_cons pe_int pa_nil))) pe_int (nomark _)) (pw_and1 (pt_cmpR op_gt (pv 1) pe_int (nomark _)))))
    (pss_one (ps_ret (pe_kn G_rungs (hr.mono (by decide)) (by rfl) (pa_cons (pv 0) (pa_cons (pv 1) pa_nil)))))
    pss_nil)
    (pss_cons (ps_set (i := 2) sc_forms.nd rfl (.inl rfl) (pe_kn G_take (hr.mono (by decide)) (by rfl) (pa_cons (pv 0) (pa_cons pe_int pa_nil))))
    (pss_cons (ps_set (i := 3) sc_forms.nd rfl (.inl rfl) (pe_kn G_take (hr.mono (by decide)) (by rfl) (pa_cons (pv 0) (pa_cons pe_int pa_nil))))
    (pss_cons (ps_set (i := 4) sc_forms.nd rfl (.inl rfl) (pe_lst pa_nil))
    (pss_cons (ps_for PassesOwn.never rfl (pi_range1 (by rfl) z_range (pa_cons (pe_kn G_take (hr.mono (by decide)) (by rfl) (pa_cons (pv 0) (pa_cons pe_int pa_nil))) pa_nil)) (pg_name (i := 5) sc_forms.nd rfl (.inl rfl))
    (pss_cons (ps_set (i := 6) sc_forms.nd rfl (.inl rfl) (pe_kn G_factor (hr.mono (by decide)) (by rfl) (pa_cons (pv 0) (pa_cons (pv 1) pa_nil))))
    (pss_cons (ps_for PassesOwn.never rfl (pi_range1 (by rfl) z_range (pa_cons (pe_kn G_take (hr.mono (by decide)) (by rfl) (pa_cons (pv 0) (pa_cons pe_int pa_nil))) pa_nil)) (pg_name (i := 7) sc_forms.nd rfl (.inl rfl))
    (pss_one (ps_set (i := 6) sc_forms.nd rfl (.inl rfl) (pe_kn G_product (hr.mono (by decide)) (by rfl) (pa_cons (pv 6) (pa_cons (pe_kn G_factor (hr.mono (by decide)) (by rfl) (pa_cons (pv 0) (pa_cons (pv 1) pa_nil))) pa_nil))))))
    (pss_one (ps_expr (pe_bm PySem.F.plainAttrs_list PySem.F.slot_list_append PySem.F.type_list_append mt_append (pv 4) (pa_cons (pv 6) pa_nil)))))))
    (pss_cons (ps_set (i := 8) sc_forms.nd rfl (.inl rfl) pe_int)
    (pss_cons (ps_set (i := 9) sc_forms.nd rfl (.inl rfl) (pe_kn G_take (hr.mono (by decide)) (by rfl) (pa_cons (pv 0) (pa_cons (pe_callB (call_max2 (by rfl)) (by rfl) z_max (by decide +kernel) (pa_cons pe_int (pa_cons (pv 1) pa_nil))) pa_nil))))
    (pss_cons (ps_for PassesOwn.never rfl (pi_range1 (by rfl) z_range (pa_cons (pe_callB (call_min2 (by rfl)) (by rfl) z_min (by decide +kernel) (pa_cons pe_int (pa_cons (pv 2) pa_nil))) pa_nil)) (pg_name (i := 5) sc_forms.nd rfl (.inl rfl))
    (pss_cons (ps_set (i := 10) sc_forms.nd rfl (.inl rfl) (pe_op op_add pe_int (pe_kn G_take (hr.mono (by decide)) (by rfl) (pa_cons (pv 0) (pa_cons pe_int pa_nil)))))
    (pss_cons (ps_if (pt_cmpR op_gt (pv 1) pe_int (nomark _))
    (pss_one (ps_expr (pe_bm PySem.F.plainAttrs_list PySem.F.slot_list_insert PySem.F.type_list_insert mt_insert (pv 4) (pa_cons (pe_kn G_take (hr.mono (by decide)) (by rfl) (pa_cons (pv 0) (pa_cons (pe_op op_add (pe_callB call_len_seq (by rfl) z_len (by decide +kernel) (pa_cons (pv 4) pa_nil)) pe_int) pa_nil))) (pa_cons (pe_kn G_ladder (hr.mono (by decide)) (by rfl) (pa_cons (pv 1) (pa_cons (pv 9) (pa_cons (pv 8) (pa_cons (pv 10) pa_nil))))) pa_nil)))))
    pss_nil)
    (pss_one (ps_set (i := 8) sc_forms.nd rfl (.inl rfl) (pe_op op_add (pv 8) (pv 10)))))))
    (pss_cons (ps_if (PW.pt (pw_and (pt_cmpR op_eq (pv 3) pe_int (nomark _)) (pw_and1 (pt_cmpR op_gt (pe_callB call_len_seq (by rfl) z_len (by decide +kernel) (pa_cons (pv 4) pa_nil)) pe_int (nomark _)))))
    (pss_one (ps_for PassesOwn.never rfl (pi_range1 (by rfl) z_range (pa_cons (pe_op op_add pe_int (pe_kn G_take (hr.mono (by decide)) (by rfl) (pa_cons (pv 0) (pa_cons pe_int pa_nil)))) pa_nil)) (pg_name (i := 5) sc_forms.nd rfl (.inl rfl))
    (pss_one (ps_asg (pe_tup pa_nil) (pg_sub (pv 4) (pe_kn G_take (hr.mono (by decide)) (by rfl) (pa_cons (pv 0) (pa_cons (pe_callB call_len_seq (by rfl) z_len (by decide +kernel) (pa_cons (pv 4) pa_nil)) pa_nil))) set_list)))))
    pss_nil)
    (pss_one (ps_ret (pv 4)))))))))))), ?_⟩
  show (_ : TS) _ [some (.ref p), some (.int (m : Int)), none, none, none, none, none, none, none, none, none] _
  with_reducible refine r_cut (fun σ H' => σ = [some (.ref p), some (.int (m : Int)), none, none, none, none, none, none, none, none, none] ∧ But p H H' ∧ Pl H' p (b + 1)) ?U0 ?V0
  case V0 =>
    intro N J
    repeat walk_at "st"
    refine ⟨p, _, _, rfl, hp, by omega, by decide, by decide, fun r H1 b1 hp1 r0 r1 => ?_⟩
    repeat walk_at "st"
    refine r_ite (fun c => ?_) (fun c => ?_)
    · repeat walk_at "st"
      refine r_ite (fun c2 => ?_) (fun c2 => ?_)
      · repeat walk_at "st"
        refine ⟨p, m, _, rfl, hp1, by omega, by omega, hm, fun l us Fs H2 b2 nl el fv gf lF => ?_⟩
        exact q l us Fs H2 (b1.trans b2) (but_free b1 hp1 nl) el fv gf lF
      · repeat walk_at "st"
        exact J _ _ ⟨rfl, b1, hp1⟩
    · repeat walk_at "st"
      exact J _ _ ⟨rfl, b1, hp1⟩
  rintro σ H1 ⟨rfl, b1, hp1⟩
  repeat walk_at "st"
  refine ⟨p, _, _, rfl, hp1, by omega, by decide, by decide, fun la H2 b2 hp2 la0 la1 => ?_⟩
  repeat walk_at "st"
  refine ⟨p, _, _, rfl, hp2, by omega, by decide, by decide, fun ho H3 b3 hp3 ho0 ho1 => ?_⟩
  have g3 := b1.trans (b2.trans b3)
  clear b1 b2 b3 hp1 hp2 hp
  repeat walk_at "st"
  refine ⟨sz rfl, fun L nL => ?_⟩
  have sL := same_new nL (.lst [])
  have eL : upd H3 L (.lst []) L = some (.lst []) := upd_same
  have nLp : L ≠ p := Ne.symm (hp3.ne2 nL)
  have nL0 := but_free g3 hp3 nL
  have g4 : But p H (upd H3 L (.lst [])) := but_updR g3 nL0
  have hp4 := hp3.same sL
  generalize upd H3 L (.lst []) = H4 at *
  clear sL nL g3 hp3
  repeat walk_at "st"
  with_reducible refine r_cut (fun σ H' => ∃ (y5 y6 y7 : Option V) (us : List V) (Fs : List (List Trm)), σ = [some (.ref p), some (.int (m : Int)), some (.int la), some (.int ho), some (.ref L), y5, y6, y7, none, none, none] ∧ But p H H' ∧ Pl H' p (b + 200) ∧ H' L = some (.lst us) ∧ Fvs H' us Fs ∧ (∀ F ∈ Fs, Gf m 1000 F) ∧ Fs.length ≤ 4) ?U1 ?V1
  case V1 =>
    intro N J
    refine r_forR1 ?_
    repeat walk_at "st"
    refine ⟨p, _, _, rfl, hp4, by omega, by decide, by decide, fun k H5 b5 hp5 k0 k1 => ?_⟩
    refine ⟨k, rfl, by omega, by omega, ?_⟩
    refine for_range (n := k.toNat) (fun i σ H' => ∃ (y5 y6 y7 : Option V) (us : List V) (Fs : List (List Trm)), σ = [some (.ref p), some (.int (m : Int)), some (.int la), some (.int ho), some (.ref L), y5, y6, y7, none, none, none] ∧ But p H H' ∧ Pl H' p (b + 4 + 30 * i) ∧ H' L = some (.lst us) ∧ Fvs H' us Fs ∧ (∀ F ∈ Fs, Gf m 1000 F) ∧ Fs.length ≤ i) ⟨_, _, _, [], [], rfl, g4.trans b5, hp5.mono (by omega), b5 _ _ nLp eL, .nil, (fun F hF => by cases hF), Nat.le_refl _⟩ ?_ ?_
    · rintro i σ H6 hi ⟨y5, y6, y7, us, Fs, rfl, g6, hp6, e6, fv6, gf6, l6⟩
      have lu := Paired.length fv6
      repeat walk_at "st"
      refine ⟨p, m, _, rfl, hp6, by omega, hm, fun f0 F0 H7 b7 hp7 nf0 ff0 gx0 => ?_⟩
      have e7 := b7 _ _ nLp e6
      have fv7 := fv6.fkt (Kt.but b7 hp6)
      have g7 := g6.trans b7
      clear b7 e6 fv6 g6
      repeat walk_at "st"
      with_reducible refine r_cut (fun σ H' => ∃ (y7 : Option V) (f : Addr) (Fo : List Trm), σ = [some (.ref p), some (.int (m : Int)), some (.int la), some (.int ho), some (.ref L), some (.int (0 + (i : Int))), some (.ref f), y7, none, none, none] ∧ But p H H' ∧ Pl H' p (b + 4 + 30 * i + 25) ∧ H' L = some (.lst us) ∧ Fvs H' us Fs ∧ FmAt H' f Fo ∧ Gf m 1000 Fo) ?U2 ?V2
      case V2 =>
        intro N' J'
        refine r_forR1 ?_
        repeat walk_at "st"
        refine ⟨p, _, _, rfl, hp7, by omega, by decide, by decide, fun k2 H8 b8 hp8 k20 k21 => ?_⟩
        refine ⟨k2, rfl, by omega, by omega, ?_⟩
        refine for_range (n := k2.toNat) (fun j σ H' => ∃ (y7 : Option V) (f : Addr) (Fo : List Trm), σ = [some (.ref p), some (.int (m : Int)), some (.int la), some (.int ho), some (.ref L), some (.int (0 + (i : Int))), some (.ref f), y7, none, none, none] ∧ But p H H' ∧ Pl H' p (b + 4 + 30 * i + 6 + 6 * j) ∧ H' L = some (.lst us) ∧ Fvs H' us Fs ∧ FmAt H' f Fo ∧ Gx m ((j : Int) + 1) (3 ^ (j + 1)) (15 + 25 * j) Fo) ⟨_, f0, F0, rfl, g7.trans b8, hp8.mono (by omega), b8 _ _ nLp e7, fv7.fkt (Kt.but b8 hp7), ff0.kt (Kt.but b8 hp7), gx0⟩ ?_ ?_
        · rintro j σ H9 hj ⟨y7, f, Fo, rfl, g9, hp9, e9, fv9, ff9, gx9⟩
          repeat walk_at "st"
          refine ⟨p, m, _, rfl, hp9, by omega, hm, fun f1 F1 H10 b10 hp10 nf1 ff1 gx1 => ?_⟩
          have kt10 := Kt.but b10 hp9
          have j1 : j = 0 ∨ j = 1 := by omega
          have l9 := gx9.len
          have l1 := gx1.len
          have p3 : 3 ^ (j + 1) * 3 ≤ 81 := by rcases j1 with rfl | rfl <;> decide
          have ll : Fo.length * F1.length ≤ 3 ^ (j + 1) * 3 := Nat.mul_le_mul l9 l1
          have p4 : 3 ^ (j + 1) ≤ 81 := by rcases j1 with rfl | rfl <;> decide
          repeat walk_at "st"
          refine ⟨f, f1, Fo, F1, m, 12, rfl, ff9.kt kt10, ff1, okT_mono gx9.ok (by omega), okT_mono gx1.ok (by decide), by decide, by decide, hm, by omega, by omega, by omega, fun t ht => (gx9.sz t ht).mono (by omega), fun t ht => (gx1.sz t ht).mono (by decide), fun r R H11 s11 nr fr fm => ?_⟩
          repeat walk_at "st"
          have gm := gx_mul gx9 gx1 fm (by omega)
          refine ⟨_, r, R, rfl, (g9.trans b10).trans (But.same s11), (hp10.same s11).mono (by omega), s11 _ _ (b10 _ _ nLp e9), (fv9.fkt kt10).fkt (Kt.same s11), fr, ⟨gm.up, gm.nz, okT_mono gm.ok (by omega), Nat.le_trans gm.len (by rw [Nat.pow_succ 3 (j + 1)]; exact Nat.le_refl _), fun t ht => (gm.sz t ht).mono (by omega)⟩⟩
        · rintro σ H9 ⟨y7, f, Fo, rfl, g9, hp9, e9, fv9, ff9, gx9⟩
          have j2 : k2.toNat = 0 ∨ k2.toNat = 1 ∨ k2.toNat = 2 := by omega
          exact J' _ _ ⟨_, f, Fo, rfl, g9, hp9.mono (by omega), e9, fv9, ff9, gx9.gf (by omega) (by rcases j2 with h | h | h <;> rw [h] <;> decide) (by omega)⟩
      rintro σ H9 ⟨y7, f, Fo, rfl, g9, hp9, e9, fv9, ff9, gf9⟩
      repeat walk_at "st"
      refine r_bm ?_
      repeat walk_at "st"
      refine ⟨.inl ⟨rfl, _, lstOf e9⟩, ?_⟩
      repeat walk_at "st"
      refine ⟨L, us, .ref f, rfl, rfl, e9, by rw [lu]; exact Nat.lt_of_le_of_lt (show Fs.length ≤ 1000 by omega) (by decide), ?_⟩
      have kt : Kt H9 (upd H9 L (.lst (us ++ [.ref f]))) := Kt.lst e9
      refine ⟨_, _, _, us ++ [.ref f], Fs ++ [Fo], rfl, but_updR g9 nL0, (hp9.updR (Ne.symm nLp)).mono (by omega), upd_same, paired_snoc' ⟨f, rfl, ff9.kt kt⟩ (fv9.fkt kt), fun F hF => ?_, by rw [List.length_append]; exact Nat.add_le_add_right l6 1⟩
      rcases List.mem_append.mp hF with hF | hF
      · exact gf6 F hF
      · rw [List.mem_singleton.mp hF]
        exact gf9
    · rintro σ H6 ⟨y5, y6, y7, us, Fs, rfl, g6, hp6, e6, fv6, gf6, l6⟩
      exact J _ _ ⟨_, _, _, us, Fs, rfl, g6, hp6.mono (by omega), e6, fv6, gf6, by omega⟩
  rintro σ H5 ⟨y5, y6, y7, us, Fs, rfl, g5, hp5, e5, fv5, gf5, l5⟩
  clear g4 hp4 eL
  repeat walk_at "st"
  refine ⟨1, (m : Int), rfl, ?_⟩
  have hmx : ∃ M : Int, (if (m : Int) > 1 then (m : Int) else 1) = M ∧ 1 ≤ M ∧ M ≤ 7 ∧ (0 < m → M ≤ (m : Int)) := by
    refine ⟨_, rfl, ?_, ?_, fun h => ?_⟩ <;> split <;> omega
  obtain ⟨M, eM, M1, M7, Mm⟩ := hmx
  rw [eM]
  repeat walk_at "st"
  refine ⟨p, _, _, rfl, hp5, by omega, by omega, by omega, fun at_ H6 b6 hp6 a0 a1 => ?_⟩
  obtain ⟨a, rfl⟩ : ∃ j : Nat, at_ = (j : Int) := ⟨at_.toNat, by omega⟩
  have g6 := g5.trans b6
  have e6 := b6 _ _ nLp e5
  have fv6 := fv5.fkt (Kt.but b6 hp5)
  clear g5 e5 fv5 b6 hp5 eM
  repeat walk_at "st"
  with_reducible refine r_cut (fun σ H' => ∃ (y5 y6 y7 y8 y10 : Option V) (us : List V) (Fs : List (List Trm)), σ = [some (.ref p), some (.int (m : Int)), some (.int la), some (.int ho), some (.ref L), y5, y6, y7, y8, some (.int (a : Int)), y10] ∧ But p H H' ∧ Pl H' p (b + 300) ∧ H' L = some (.lst us) ∧ Fvs H' us Fs ∧ (∀ F ∈ Fs, Gf m 1000 F) ∧ Fs.length ≤ 6) ?U3 ?V3
  case V3 =>
    intro N J
    refine r_forR1 ?_
    repeat walk_at "st"
    refine ⟨2, la, rfl, ?_⟩
    obtain ⟨k, ek, k2⟩ : ∃ k : Nat, (if la < 2 then la else 2) = (k : Int) ∧ k ≤ 2 := ⟨(if la < 2 then la else 2).toNat, by split <;> omega, by split <;> omega⟩
    rw [ek]
    refine ⟨(k : Int), rfl, by omega, by omega, ?_⟩
    rw [show ((k : Int)).toNat = k from by omega]
    refine for_range (n := k) (fun i σ H' => ∃ (y5 y6 y7 y10 : Option V) (lo : Nat) (us : List V) (Fs : List (List Trm)), σ = [some (.ref p), some (.int (m : Int)), some (.int la), some (.int ho), some (.ref L), y5, y6, y7, some (.int (lo : Int)), some (.int (a : Int)), y10] ∧ lo ≤ 12 * i ∧ But p H H' ∧ Pl H' p (b + 201 + 5 * i) ∧ H' L = some (.lst us) ∧ Fvs H' us Fs ∧ (∀ F ∈ Fs, Gf m 1000 F) ∧ Fs.length ≤ 4 + i) ⟨_, _, _, _, 0, us, Fs, rfl, by omega, g6, hp6.mono (by omega), e6, fv6, gf5, l5⟩ ?_ ?_
    · rintro i σ H7 hi ⟨y5, y6, y7, y10, lo, us, Fs, rfl, hlo, g7, hp7, e7, fv7, gf7, l7⟩
      have lu := Paired.length fv7
      repeat walk_at "st"
      refine ⟨p, _, _, rfl, hp7, by omega, by decide, by decide, fun c_ H8 b8 hp8 c0 c1 => ?_⟩
      refine r_i0 ?_
      obtain ⟨c, hc, hc1, hc2⟩ : ∃ j : Nat, 1 + c_ = (j : Int) ∧ 1 ≤ j ∧ j ≤ 12 := ⟨(1 + c_).toNat, by omega, by omega, by omega⟩
      rw [hc]
      have e8 := b8 _ _ nLp e7
      have fv8 := fv7.fkt (Kt.but b8 hp7)
      have g8 := g7.trans b8
      clear e7 fv7 b8 g7
      repeat walk_at "st"
      with_reducible refine r_cut (fun σ H' => ∃ (us : List V) (Fs : List (List Trm)), σ = [some (.ref p), some (.int (m : Int)), some (.int la), some (.int ho), some (.ref L), some (.int (0 + (i : Int))), y6, y7, some (.int (lo : Int)), some (.int (a : Int)), some (.int (c : Int))] ∧ But p H H' ∧ Pl H' p (b + 201 + 5 * i + 4) ∧ H' L = some (.lst us) ∧ Fvs H' us Fs ∧ (∀ F ∈ Fs, Gf m 1000 F) ∧ Fs.length ≤ 4 + i + 1) ?U4 ?V4
      case V4 =>
        intro N' J'
        repeat walk_at "st"
        refine r_ite (fun c3 => ?_) (fun c3 => ?_)
        · repeat walk_at "st"
          refine r_bm ?_
          repeat walk_at "st"
          refine ⟨.inl ⟨rfl, _, lstOf e8⟩, ?_⟩
          repeat walk_at "st"
          refine ⟨L, us, rfl, .inl (lstOf e8), ?_⟩
          repeat walk_at "st"
          refine ⟨p, _, _, rfl, hp8, by omega, by omega, by omega, fun ix H9 b9 hp9 i0 i1 => ?_⟩
          repeat walk_at "st"
          have hm0 : 0 < m := by omega
          have := Mm hm0
          refine ⟨m, a, lo, c, rfl, hm, by omega, by omega, by omega, fun g G H10 s10 ng fg gg => ?_⟩
          have e10 := s10 _ _ (b9 _ _ nLp e8)
          have fv10 := (fv8.fkt (Kt.but b9 hp8)).fkt (Kt.same s10)
          repeat walk_at "st"
          refine ⟨L, us, ix, .ref g, rfl, rfl, e10, by rw [lu]; exact Nat.lt_of_le_of_lt (show Fs.length ≤ 1000 by omega) (by decide), i0, by omega, ?_⟩
          have kt : Kt H10 (upd H10 L (.lst (us.take ix.toNat ++ [.ref g] ++ us.drop ix.toNat))) := Kt.lst e10
          have fvk := fv10.fkt kt
          refine J' _ _ ⟨us.take ix.toNat ++ [.ref g] ++ us.drop ix.toNat, Fs.take ix.toNat ++ [G] ++ Fs.drop ix.toNat, rfl, but_updR ((g8.trans b9).trans (But.same s10)) nL0, ((hp9.same s10).updR (Ne.symm nLp)).mono (by omega), upd_same, paired_appN (paired_dropN _ fvk) (paired_appN (.cons ⟨g, rfl, fg.kt kt⟩ .nil) (paired_takeN _ fvk)), fun F hF => ?_, ?_⟩
          · rcases List.mem_append.mp hF with hF | hF
            · rcases List.mem_append.mp hF with hF | hF
              · exact gf7 F (List.mem_of_mem_take hF)
              · rw [List.mem_singleton.mp hF]; exact gg
            · exact gf7 F (List.mem_of_mem_drop hF)
          · simp only [List.length_append, List.length_take, List.length_drop, List.length_cons, List.length_nil]
            omega
        · repeat walk_at "st"
          exact J' _ _ ⟨us, Fs, rfl, g8, hp8.mono (by omega), e8, fv8, gf7, by omega⟩
      rintro σ H9 ⟨us', Fs', rfl, g9, hp9, e9, fv9, gf9, l9⟩
      repeat walk_at "st"
      exact ⟨_, _, _, _, lo + c, us', Fs', by rw [show ((lo + c : Nat) : Int) = (lo : Int) + (c : Int) by omega], by omega, g9, hp9.mono (by omega), e9, fv9, gf9, by omega⟩
    · rintro σ H7 ⟨y5, y6, y7, y10, lo, us, Fs, rfl, hlo, g7, hp7, e7, fv7, gf7, l7⟩
      exact J _ _ ⟨_, _, _, _, _, us, Fs, rfl, g7, hp7.mono (by omega), e7, fv7, gf7, by omega⟩
  clear g6 hp6 e6 fv6 gf5 l5
  clear us Fs
  rintro σ H7 ⟨y5, y6, y7, y8, y10, us, Fs, rfl, g7, hp7, e7, fv7, gf7, l7⟩
  have lu := Paired.length fv7
  with_reducible refine r_cut (fun σ H' => ∃ (y5 y6 y7 y8 y10 : Option V) (us : List V) (Fs : List (List Trm)), σ = [some (.ref p), some (.int (m : Int)), some (.int la), some (.int ho), some (.ref L), y5, y6, y7, y8, some (.int (a : Int)), y10] ∧ But p H H' ∧ H' L = some (.lst us) ∧ Fvs H' us Fs ∧ (∀ F ∈ Fs, Gf m 1000 F) ∧ Fs.length ≤ 6) ?U5 ?V5
  case V5 =>
    intro N J
    have same : N [some (.ref p), some (.int (m : Int)), some (.int la), some (.int ho), some (.ref L), y5, y6, y7, y8, some (.int (a : Int)), y10] H7 := J _ _ ⟨_, _, _, _, _, us, Fs, rfl, g7, e7, fv7, gf7, l7⟩
    repeat walk_at "st"
    refine r_ite (fun c => ?_) (fun c => ?_)
    · repeat walk_at "st"
      refine ⟨L, us, rfl, .inl (lstOf e7), ?_⟩
      repeat walk_at "st"
      refine r_ite (fun c2 => ?_) (fun c2 => ?_)
      · refine r_forR1 ?_
        repeat walk_at "st"
        refine ⟨p, _, _, rfl, hp7, by omega, by decide, by decide, fun k_ H8 b8 hp8 k0 k1 => ?_⟩
        repeat walk_at "st"
        obtain ⟨k, hk, hk2⟩ : ∃ j : Nat, 1 + k_ = (j : Int) ∧ j ≤ 2 := ⟨(1 + k_).toNat, by omega, by omega⟩
        rw [hk]
        refine ⟨(k : Int), rfl, by omega, by omega, ?_⟩
        rw [show ((k : Int)).toNat = k from by omega]
        refine for_range (n := k) (fun i σ H' => ∃ (y5 : Option V) (us : List V) (Fs : List (List Trm)), σ = [some (.ref p), some (.int (m : Int)), some (.int la), some (.int ho), some (.ref L), y5, y6, y7, y8, some (.int (a : Int)), y10] ∧ But p H H' ∧ Pl H' p (b + 301 + 5 * i) ∧ H' L = some (.lst us) ∧ Fvs H' us Fs ∧ (∀ F ∈ Fs, Gf m 1000 F) ∧ Fs.length ≤ 6 ∧ 1 ≤ Fs.length) ⟨_, us, Fs, rfl, g7.trans b8, hp8.mono (by omega), b8 _ _ nLp e7, fv7.fkt (Kt.but b8 hp7), gf7, l7, by omega⟩ ?_ ?_
        · rintro i σ H9 hi ⟨y5, us, Fs, rfl, g9, hp9, e9, fv9, gf9, l9, l1⟩
          have lu := Paired.length fv9
          repeat walk_at "st"
          refine ⟨sz rfl, fun T nT => ?_⟩
          obtain ⟨H10, e10, s10, k10⟩ := nw nT (.tup [])
          rw [← e10]
          clear e10
          have hp10 := hp9.same s10
          have kL := s10 _ _ e9
          repeat walk_at "st"
          refine ⟨L, us, rfl, .inl (lstOf kL), ?_⟩
          repeat walk_at "st"
          refine ⟨p, _, _, rfl, hp10, by omega, by omega, by omega, fun ix H11 b11 hp11 i0 i1 => ?_⟩
          obtain ⟨j, rfl⟩ : ∃ j : Nat, ix = (j : Int) := ⟨ix.toNat, by omega⟩
          have e11 := b11 _ _ nLp kL
          have kt11 := Kt.but b11 hp10
          have k11 := kt11 _ _ k10
          refine r_setL (j := j) e11 (by unfold ixN; rw [if_pos (by omega), if_pos (by omega)]; rfl) ?_
          have kt : Kt H11 (upd H11 L (.lst (us.set j (.ref T)))) := Kt.lst e11
          refine ⟨_, us.set j (.ref T), Fs.set j [], rfl, but_updR ((g9.trans (But.same s10)).trans b11) nL0, (hp11.updR (Ne.symm nLp)).mono (by omega), upd_same, paired_setN ⟨T, rfl, [], kt _ _ k11, .nil⟩ j (((fv9.fkt (Kt.same s10)).fkt kt11).fkt kt), fun F hF => ?_, by rw [List.length_set]; exact l9, by rw [List.length_set]; exact l1⟩
          rcases List.mem_or_eq_of_mem_set hF with hF | hF
          · exact gf9 F hF
          · rw [hF]; exact gf_nil
        · rintro σ H9 ⟨y5, us, Fs, rfl, g9, hp9, e9, fv9, gf9, l9, l1⟩
          exact J _ _ ⟨_, _, _, _, _, us, Fs, rfl, g9, e9, fv9, gf9, l9⟩
      · repeat walk_at "st"
        exact same
    · repeat walk_at "st"
      exact same
  clear g7 hp7 e7 fv7 gf7 l7 lu
  rintro σ H8 ⟨y5, y6, y7, y8, y10, us, Fs, rfl, g8, e8, fv8, gf8, l8⟩
  repeat walk_at "st"
  exact q L us Fs H8 g8 nL0 e8 fv8 gf8 (by omega)
theorem ok_there (F : Fn K mg "_law_there" s_there) (G_power : Kn P w K mg base 1 "_law_power" ["_law_number", "_law_count"] spPow) (z_len : mg "len" = none) (z_range : mg "range" = none) : Kn P w K mg base 2 "_law_there" ["_law_form", "_law_numbers"] (spThere K) := by
  refine F.kn sc_there (fun vs H Q E h => ?_) (fun f cdv A outer s H vs Q E hr h => ?_) (fun _ _ _ _ _ _ us hl => match us, hl with | [_, _], _ => rfl)
  · obtain ⟨f, l, Fo, m, ns, rfl, _⟩ := h
    rfl
  obtain ⟨f, l, Fo, m, ns, rfl, ⟨us, ef, tF⟩, gf, hl, lns, hm, sn, q⟩ := h
  have l1 := Paired.length tF
  refine ⟨_, (pss_cons (ps_set (i := 2) sc_there.nd rfl (.inl rfl) pe_int)
    (pss_cons (ps_for PassesOwn.never rfl (pi_tup (pv 0)) (pg_tup (by rfl) (pgs_cons (pg_name (i := 3) sc_there.nd rfl (.inl rfl)) (pgs_cons (pg_name (i := 4) sc_there.nd rfl (.inl rfl)) pgs_nil)))
    (pss_cons (ps_for PassesOwn.never rfl (pi_range1 (by rfl) z_range (pa_cons (pe_callB call_len_seq (by rfl) z_len (by decide +kernel) (pa_cons (pv 1) pa_nil)) pa_nil)) (pg_name (i := 5) sc_there.nd rfl (.inl rfl))
    (pss_one (ps_set (i := 4) sc_there.nd rfl (.inl rfl) (pe_op op_mulW (pv 4) (pe_kn G_power (hr.mono (by decide)) (by rfl) (pa_cons (pe_ix ix_list (pv 1) (pv 5) (fun _ _ => rfl)) (pa_cons (pe_ix ix_tup (pv 3) (pv 5) (fun _ _ => rfl)) pa_nil)))))))
    (pss_one (ps_set (i := 2) sc_there.nd rfl (.inl rfl) (pe_op op_add (pv 2) (pv 4))))))
    (pss_one (ps_ret (pv 2))))), ?_⟩
  show (_ : TS) _ [some (.ref f), some (.ref l), none, none, none, none] _
  repeat walk_at "st"
  with_reducible refine r_cut (fun σ H' => ∃ (y3 y4 y5 : Option V), σ = [some (.ref f), some (.ref l), some (.int (evI ns Fo)), y3, y4, y5] ∧ H' = H) ?U1 ?V1
  case V1 =>
    intro N J
    refine ⟨.ref f, rfl, f, rfl, ⟨us, tupOf ef⟩, ?_⟩
    refine for_tup (xs := us) (fun i σ H' => ∃ (y3 y4 y5 : Option V), σ = [some (.ref f), some (.ref l), some (.int (wsum (pmon ns) (Fo.take i))), y3, y4, y5] ∧ H' = H) ?_ ?_ ?_ ?_
    · exact ⟨_, _, _, rfl, rfl⟩
    · rintro i σ H' _ ⟨_, _, _, _, rfl⟩
      exact tupOf ef
    · rintro i v σ H4 hv ⟨y3, y4, y5, rfl, rfl⟩
      obtain ⟨t, ht, a, qa, rfl, ta, pw⟩ := tF.at hv
      have htm := List.mem_of_getElem? ht
      have e1 : Fo.take (i + 1) = Fo.take i ++ [t] := by rw [List.take_succ, ht, Option.toList_some]
      have lt := (gf.ok t htm).1
      refine r_gT (tupOf ta) rfl ?_
      refine r_g2 ?_
      repeat walk_at "st"
      with_reducible refine r_cut (fun σ H' => ∃ (y5 : Option V), σ = [some (.ref f), some (.ref l), some (.int (wsum (pmon ns) (Fo.take i))), some (.ref qa), some (.int (t.2 * pmon ns t.1)), y5] ∧ H' = H4) ?U2 ?V2
      case V2 =>
        intro N J
        refine ⟨.ref l, rfl, l, _, rfl, .inl hl, ((ns.map V.int).length : Int), rfl, by rw [List.length_map]; omega, by rw [List.length_map]; omega, ?_⟩
        rw [show (((ns.map V.int).length : Int)).toNat = m from by rw [List.length_map]; omega]
        refine for_range (n := m) (fun j σ H' => ∃ (y5 : Option V) (z : Int), σ = [some (.ref f), some (.ref l), some (.int (wsum (pmon ns) (Fo.take i))), some (.ref qa), some (.int z), y5] ∧ z = t.2 * pmon (ns.take j) (t.1.take j) ∧ Sm (1000 + 241 * j) z ∧ H' = H4) ?_ ?_ ?_
        · refine ⟨y5, t.2, rfl, ?_, gf.sz t htm, rfl⟩
          rw [List.take_zero, List.take_zero, show pmon [] [] = 1 from rfl, Int.mul_one]
        · rintro j σ H5 hj ⟨y5, z, rfl, hz, sz, rfl⟩
          have hn : ns[j]? = some (ns[j]'(by omega)) := List.getElem?_eq_getElem (by omega)
          have hk : t.1[j]? = some (t.1[j]'(by omega)) := List.getElem?_eq_getElem (by omega)
          have pk := (gf.ok t htm).2 _ (List.getElem_mem (l := t.1) (n := j) (by omega))
          have sN := sn _ (List.getElem_mem (l := ns) (n := j) (by omega))
          have pt := pmon_take hn hk
          generalize ns[j]'(by omega) = nj at *
          generalize t.1[j]'(by omega) = kj at *
          obtain ⟨kn, rfl⟩ : ∃ kn : Nat, kj = (kn : Int) := ⟨kj.toNat, by omega⟩
          have kn12 : kn ≤ 12 := by omega
          repeat walk_at "st"
          refine r_ixL (v := .int nj) hl (by rw [Int.zero_add]; exact atI_nat (by rw [List.getElem?_map, hn]; rfl)) ?_
          repeat walk_at "st"
          refine r_ixT (v := .int (kn : Int)) (tupOf pw) (by rw [Int.zero_add]; exact atI_nat (by rw [List.getElem?_map, hk]; rfl)) ?_
          repeat walk_at "st"
          refine ⟨nj, kn, 20, rfl, sN, by decide, by decide, by omega, ?_⟩
          have sp : Sm 241 (nj ^ kn) := (sN.pow kn).mono (by omega)
          refine ⟨_, _, rfl, rfl, Sm.cmul (m := 1000 + 241 * j) (n := 241) sz sp (by omega) (by decide) (by omega), ?_⟩
          repeat walk_at "st"
          refine ⟨_, z * nj ^ kn, rfl, ?_, (sz.mul sp).mono (by omega), rfl⟩
          rw [pt, hz, Int.toNat_natCast, Int.mul_assoc]
        · rintro σ H5 ⟨y5, z, rfl, hz, _, rfl⟩
          refine J _ _ ⟨y5, ?_, rfl⟩
          have e : pmon (ns.take m) (t.1.take m) = pmon ns t.1 := by rw [List.take_of_length_le (by omega), List.take_of_length_le (by omega)]
          rw [hz, e]
      rintro σ H5 ⟨y5, rfl, rfl⟩
      repeat walk_at "st"
      refine ⟨some (.ref qa), some (.int (t.2 * pmon ns t.1)), y5, ?_, rfl⟩
      rw [e1, wsum_app, wsum_cons, show wsum (pmon ns) [] = 0 from rfl, Int.add_zero]
    · rintro σ H4 ⟨y3, y4, y5, rfl, rfl⟩
      rw [l1, List.take_length]
      exact J _ _ ⟨_, _, _, rfl, rfl⟩
  rintro σ H4 ⟨y3, y4, y5, rfl, rfl⟩
  repeat walk_at "st"
  exact q
theorem ok_ends (F : Fn K mg "_law_ends" s_ends) (G_whole : Kn P w K mg base 1 "_law_whole" ["_law_found"] spWhole) (G_there : Kn P w K mg base 2 "_law_there" ["_law_form", "_law_numbers"] (spThere K)) (z_isinstance : mg "isinstance" = none) (z_len : mg "len" = none) (z_list : mg "list" = none) (z_max : mg "max" = none) (z_sum : mg "sum" = none) : Kn P w K mg base 3 "_law_ends" ["_law_found", "_law_many", "_law_forms_here"] (spEnds K) := by
  refine F.kn sc_ends (fun vs H Q E h => ?_) (fun f cdv A outer s H vs Q E hr h => ?_) (fun _ _ _ _ _ _ us hl => match us, hl with | [_, _, _], _ => rfl)
  · obtain ⟨l, r, us, Fs, m, ns, rfl, _⟩ := h
    rfl
  obtain ⟨l, r, us, Fs, m, ns, rfl, hl, lns, hr', fv, gf, hm, lFs, low, nz, q⟩ := h
  refine ⟨_, (pss_cons (ps_set (i := 3) sc_ends.nd rfl (.inl rfl) (pe_callB (cr_sum (by rfl)) (by rfl) z_sum (by decide +kernel) (pa_cons (pe_lc (own := [("_law_form", 6)]) (g := gName 6) (by rfl) sc_ends.nd (pi_list (pv 2)) (blkOk_by (own := [("_law_form", 6)]) (N := ["_law_found", "_law_many", "_law_forms_here", "_law_most", "_law_powers", "_law_number", "_law_form"]) (sc := (defScope s_ends)) (by decide +kernel)) (fun _ _ _ _ _ => pg_name (i := 6) sc_ends.nd rfl (.inl rfl)) (fun _ _ _ _ _ => pts_nil) (fun _ _ _ _ _ => (pe_callB (show CallR _ (.builtin "max") (rMax K) from cr_max (by rfl)) (by rfl) z_max (by decide +kernel) (pa_cons (pe_op op_cat (pe_lst (pa_cons pe_int pa_nil)) (pe_lc (own := [("_law_powers", 4), ("_law_number", 5)]) (g := gTup K 2 (gCons (gName 4) (gCons (gName 5) gNil))) (by rfl) sc_ends.nd (show PI _ _ _ (iTup K _) from pi_tup (pv 6)) (blkOk_by (own := [("_law_powers", 4), ("_law_number", 5)]) (N := ["_law_found", "_law_many", "_law_forms_here", "_law_most", "_law_powers", "_law_number", "_law_form"]) (sc := ({ kind := .function, names := [(".0", .local), ("_law_form", .local), ("max", .globalImplicit)], isGenerator := false, isCoroutine := false } : Scope)) (by decide +kernel)) (fun _ _ _ _ _ => pg_tup (by rfl) (pgs_cons (pg_name (i := 4) sc_ends.nd rfl (.inl rfl)) (pgs_cons (pg_name (i := 5) sc_ends.nd rfl (.inl rfl)) pgs_nil))) (fun _ _ _ _ _ => pts_nil) (fun _ _ _ _ _ => (pe_callB (show CallR _ (.builtin "max") (rMax K) from cr_max (by rfl)) (by rfl) z_max (by decide +kernel) (pa_cons (pe_op op_cat (pe_lst (pa_cons pe_int pa_nil)) (pe_callTy (show CallR _ (.type "list") (rListK K) from call_list_of) (by rfl) z_list (by decide +kernel) (pa_cons (pv 4) pa_nil))) pa_nil))))) pa_nil)))) pa_nil)))
    (pss_cons (ps_if (PW.pt (pw_or (pt_not (pt_val (pe_callB call_isi (by rfl) z_isinstance (by decide +kernel) (pa_cons (pv 0) (pa_cons (pe_bltn (v := .ty "list") (by rfl) z_list (by decide +kernel) rfl) pa_nil))))) (pw_or1 (pt_cmpR op_ne (pe_callB call_len_seq (by rfl) z_len (by decide +kernel) (pa_cons (pv 0) pa_nil)) (pv 1) (nomark _)))))
    (pss_one (ps_ret pe_bl))
    pss_nil)
    (pss_cons (ps_for PassesOwn.never rfl (pi_list (pv 0)) (pg_name (i := 5) sc_ends.nd rfl (.inl rfl))
    (pss_one (ps_if (PW.pt (pw_or (pt_not (pt_val (pe_kn G_whole (hr.mono (by decide)) (by rfl) (pa_cons (pv 5) pa_nil)))) (pw_or (pt_cmpR op_lt (pv 5) pe_int (nomark _)) (pw_or1 (pt_cmpR op_gt (pv 5) (pv 3) (nomark _))))))
    (pss_one (ps_ret pe_bl))
    pss_nil)))
    (pss_one (ps_ret (pe_cmpR op_notIn_seq pe_int (pe_lc (own := [("_law_form", 6)]) (g := gName 6) (by rfl) sc_ends.nd (pi_list (pv 2)) (blkOk_by (own := [("_law_form", 6)]) (N := ["_law_found", "_law_many", "_law_forms_here", "_law_most", "_law_powers", "_law_number", "_law_form"]) (sc := (defScope s_ends)) (by decide +kernel)) (fun _ _ _ _ _ => pg_name (i := 6) sc_ends.nd rfl (.inl rfl)) (fun _ _ _ _ _ => pts_nil) (fun _ _ _ _ _ => (pe_kn G_there (hr.mono (by decide)) (by rfl) (pa_cons (pv 6) (pa_cons (pv 0) pa_nil))))) (by rfl))))))), ?_⟩
  show (_ : TS) _ [some (.ref l), some (.int (m : Int)), some (.ref r), none, none, none, none] _
  repeat walk_at "st"
  refine r_lcM ?_
  repeat walk_at "st"
  refine lc_fms Fv (fun _ _ v F => ∃ g : Int, v = .int g ∧ 0 ≤ g ∧ ∀ t ∈ F, ∀ p ∈ t.1, p ≤ g) (fun s h => h.kt (Kt.same s)) (fun _ _ h => h) hr' fv (by omega) (fun _ => rfl) (fun v Fo H' D vs hF px g' d' S' k => ?_) fun M ms H1 s1 nM eM pM => ?_
  · obtain ⟨fo, rfl, us2, ef2, tF2⟩ := px
    have gF := gf Fo hF
    have lF := gF.len
    repeat walk_at "st"
    refine ⟨sz rfl, fun Z nZ => ?_⟩
    obtain ⟨H2, e2, s2, k2⟩ := nw nZ (.lst [V.int 0])
    rw [← e2]
    clear e2
    repeat walk_at "st"
    refine r_lcT ?_
    repeat walk_at "st"
    refine lc_terms (fun _ v t => ∃ g : Int, v = .int g ∧ 0 ≤ g ∧ ∀ p ∈ t.1, p ≤ g) (fun _ h => h) (s2 _ _ ef2) (tF2.tmk (Kt.same s2)) (by omega) (fun _ _ => rfl) (fun t q' H3 ht g pw S2 kk => ?_) fun D2 vs2 H3 s3 n3 e3 pr => ?_
    · repeat walk_at "st"
      refine ⟨sz rfl, fun Z2 nZ2 => ?_⟩
      obtain ⟨H4, e4, s4, k4⟩ := nw nZ2 (.lst [V.int 0])
      rw [← e4]
      clear e4
      repeat walk_at "st"
      refine ⟨q', _, rfl, .inr (tupOf (s4 _ _ pw)), fun l2 nl2 => ?_⟩
      obtain ⟨H5, e5, s5, k5⟩ := nw nl2 (.lst (t.1.map V.int))
      rw [← e5]
      clear e5
      have lt := (gF.ok t ht).1
      refine r_catN (s5 _ _ k4) k5 (by rw [List.length_map]; exact Nat.le_of_lt (Nat.lt_of_le_of_lt (show 1 + t.1.length ≤ 1000 by omega) (by decide))) fun p6 H6 s6 e6 => ?_
      have e6' : H6 p6 = some (.lst (((0 : Int) :: t.1).map V.int)) := e6
      repeat walk_at "st"
      refine ⟨p6, _, rfl, lstOf e6', by simp, fun mx hmx hle => ?_⟩
      exact kk _ H6 (s4.trans (s5.trans s6)) ⟨mx, rfl, hle 0 List.mem_cons_self, fun p hp => hle p (List.mem_cons_of_mem _ hp)⟩
    have hv : ∃ gs : List Int, vs2 = gs.map V.int ∧ Paired (fun (g : Int) (t : Trm) => 0 ≤ g ∧ ∀ p ∈ t.1, p ≤ g) gs Fo := by
      clear e3 n3 s3 tF2 ef2 lF gF hF k
      induction pr with
      | nil => exact ⟨[], rfl, .nil⟩
      | cons h _ ih =>
        obtain ⟨gs, rfl, p⟩ := ih
        obtain ⟨g, rfl, h⟩ := h
        exact ⟨g :: gs, rfl, .cons h p⟩
    obtain ⟨gs, rfl, pg⟩ := hv
    have lg := Paired.length pg
    refine r_catN (s3 _ _ k2) e3 (by rw [List.length_map]; exact Nat.le_of_lt (Nat.lt_of_le_of_lt (show 1 + gs.length ≤ 1000 by omega) (by decide))) fun p4 H4 s4 e4 => ?_
    have e4' : H4 p4 = some (.lst (((0 : Int) :: gs).map V.int)) := e4
    repeat walk_at "st"
    refine ⟨p4, _, rfl, lstOf e4', by simp, fun mx hmx hle => ?_⟩
    refine k _ H4 (s2.trans (s3.trans s4)) ⟨mx, rfl, hle 0 List.mem_cons_self, fun t ht p hp => ?_⟩
    obtain ⟨g, hg, h⟩ := paired_mem pg t ht
    exact Int.le_trans (h.2 p hp) (hle g (List.mem_cons_of_mem _ hg))
  have hv : ∃ gs : List Int, ms = gs.map V.int ∧ Bds Fs gs := by
    clear eM nM s1 q nz low lFs gf fv hr'
    induction pM with
    | nil => exact ⟨[], rfl, .nil⟩
    | cons h _ ih =>
      obtain ⟨gs, rfl, p⟩ := ih
      obtain ⟨g, rfl, h⟩ := h
      exact ⟨g :: gs, rfl, .cons h p⟩
  obtain ⟨gs, rfl, bd⟩ := hv
  repeat walk_at "st"
  refine ⟨M, gs, rfl, lstOf eM, ?_⟩
  repeat walk_at "st"
  have hl1 := s1 _ _ hl
  refine r_seq ?_
  repeat walk_at "st"
  refine r_isi (a := "list") (b := "list") (r := true) (.base (.lst hl1)) (by decide +kernel) ?_
  repeat walk_at "st"
  refine ⟨l, _, rfl, .inl (lstOf hl1), ?_⟩
  repeat walk_at "st"
  refine r_iteN (fun c => ?_) (fun c => ?_)
  · exact absurd (by rw [List.length_map, lns]) c
  repeat walk_at "st"
  with_reducible refine r_cut (fun σ H' => ∃ (y5 : Option V), σ = [some (.ref l), some (.int (m : Int)), some (.ref r), some (.int gs.sum), none, y5, none] ∧ H' = H1) ?U1 ?V1
  case V1 =>
    intro N J
    refine ⟨.ref l, rfl, l, rfl, ⟨_, lstOf hl1⟩, ?_⟩
    refine for_list (xs := ns.map V.int) (fun i σ H' => ∃ (y5 : Option V), σ = [some (.ref l), some (.int (m : Int)), some (.ref r), some (.int gs.sum), none, y5, none] ∧ H' = H1) ⟨_, rfl, rfl⟩ ?_ ?_ ?_
    · rintro i σ H' _ ⟨_, _, rfl⟩
      exact lstOf hl1
    · rintro i v σ H' hv ⟨y5, rfl, rfl⟩
      rw [List.getElem?_map] at hv
      obtain ⟨n, hn, rfl⟩ := Option.map_eq_some_iff.mp hv
      obtain ⟨n0, _, nl⟩ := low n (List.mem_of_getElem? hn)
      have nl' := nl gs bd
      repeat walk_at "st"
      refine ⟨n, rfl, ?_⟩
      repeat walk_at "st"
      refine r_ite (fun c => ?_) (fun c => ?_)
      · omega
      repeat walk_at "st"
      refine r_ite (fun c => ?_) (fun c => ?_)
      · omega
      repeat walk_at "st"
      exact ⟨_, rfl, rfl⟩
    · rintro σ H' ⟨y5, rfl, rfl⟩
      exact J _ _ ⟨_, rfl, rfl⟩
  rintro σ H' ⟨y5, rfl, rfl⟩
  repeat walk_at "st"
  refine r_lcM ?_
  repeat walk_at "st"
  refine lc_fms Fv (fun _ _ v F => v = .int (evI ns F)) (fun s h => h.kt (Kt.same s)) (fun _ _ h => h) (s1.seq hr') (fv.fkt (Kt.same s1)) (by omega) (fun _ => rfl) (fun v Fo H2 D vs hF px g' d' S' k => ?_) fun Z zs H2 s2 nZ eZ pZ => ?_
  · obtain ⟨fo, rfl, hf⟩ := px
    repeat walk_at "st"
    exact ⟨fo, l, Fo, m, ns, rfl, hf, gf Fo hF, lstOf (g' _ _ hl1), lns, hm, fun n hn => by have := low n hn; exact Nat.lt_of_le_of_lt (show n.natAbs ≤ 1000 by omega) (by decide), k _ H2 (Same.refl _) rfl⟩
  have ev : zs = (Fs.map fun F => evI ns F).map V.int := by
    clear eZ nZ s2 q nz low lFs gf fv hr' bd pM
    induction pZ with
    | nil => rfl
    | cons h _ ih => rw [h, ih]; rfl
  rw [ev] at eZ
  refine r_notInI (lstOf eZ) (fun h => ?_) (q H2 (s1.trans s2))
  obtain ⟨F, hF, e⟩ := List.mem_map.mp h
  exact nz F hF e
theorem ok_law {C_Nought C_BookError : Addr} {f : Addr} {fd : FuncData} (g_Nought : mg "Nought" = some (.ref C_Nought)) (g_BookError : mg "BookError" = some (.ref C_BookError)) (XC_Nought : ExcC K C_Nought) (XF_Nought : XfC K C_Nought) (Nnumber_Nought : PySem.W.findIn K (.ref C_Nought) "number" = some none) (ki_Nought : PySem.W.kitOne K (.ref C_Nought) (.ref C_BookError) = some true) (ex_Nought_Nought : PySem.W.exmOne K (.ref C_Nought) (.ref C_Nought) = some true)
    (F : FnP K "law" s_law f fd) (G_pool : Kn P w K mg base 1 "_law_pool" ["_law_script", "_law_at"] (spPool K)) (G_take : Kn P w K mg base 1 "_law_take" ["_law_pool_here", "_law_wide"] spTakeW) (G_forms : Kn P w K mg base 4 "_law_forms" ["_law_pool_here", "_law_many"] (spForms K)) (G_off_nought : KnX P w K mg base 4 "off_nought" ["many", "forms"] (spOff K C_Nought)) (G_whole : Kn P w K mg base 1 "_law_whole" ["_law_found"] spWhole) (G_ends : Kn P w K mg base 3 "_law_ends" ["_law_found", "_law_many", "_law_forms_here"] (spEnds K)) (z_isinstance : mg "isinstance" = none) (z_list : mg "list" = none) (z_range : mg "range" = none) : FnOk P w K mg base CX0 (4 + 1) f fd ["_law_script"] (spLaw K) := by
  refine fnp_ok F sc_law (fun vs H Q E h => ?_) (fun cdv A outer s H vs Q E hr h => ?_)
  · obtain ⟨a, ns, rfl, _⟩ := h
    rfl
  obtain ⟨a, ns, rfl, hS, hl, q⟩ := h
  refine ⟨_, (pss_cons (ps_set (i := 1) sc_law.nd rfl (.inl rfl) (pe_kn G_pool (hr.mono (by decide)) (by rfl) (pa_cons (pv 0) (pa_cons pe_int pa_nil))))
    (pss_cons (ps_set (i := 2) sc_law.nd rfl (.inl rfl) (pe_kn G_take (hr.mono (by decide)) (by rfl) (pa_cons (pv 1) (pa_cons pe_int pa_nil))))
    (pss_cons (ps_set (i := 3) sc_law.nd rfl (.inl rfl) (pe_kn G_forms (hr.mono (by decide)) (by rfl) (pa_cons (pe_kn G_pool (hr.mono (by decide)) (by rfl) (pa_cons (pv 0) (pa_cons pe_int pa_nil))) (pa_cons (pv 2) pa_nil))))
    (pss_cons (ps_set (i := 4) sc_law.nd rfl (.inl rfl) (pe_callTy call_list_of (by rfl) z_list (by decide +kernel) (pa_cons (pv 3) pa_nil)))
    (pss_cons (ps_set (i := 5) sc_law.nd rfl (.inl rfl) pe_non)
    (pss_cons (ps_set (i := 6) sc_law.nd rfl (.inl rfl) pe_non)
    (pss_cons (ps_set (i := 7) sc_law.nd rfl (.inl rfl) pe_bl)
    (pss_cons (ps_try_hs rfl rfl takes0 (fun W pn xe tk => (pss_one (ps_set (i := 5) sc_law.nd rfl (.inl rfl) (pe_knS tk G_off_nought (hr.mono (by decide)) (by rfl) (pa_cons (pv 2) (pa_cons (pv 4) pa_nil))))))
    (.named (i := 8) sc_law.nd rfl rfl ⟨by rfl, by decide, .inl g_Nought⟩ (fun a oe cls d pn hz hf => (pss_when (p := cls = .ref C_Nought) (fun hp => (pss_cons (ps_set (i := 6) sc_law.nd rfl (.inl rfl) (pe_xf XF_Nought Nnumber_Nought hz hf (pv 8)))
    (pss_one (ps_set (i := 7) sc_law.nd rfl (.inl rfl) (pe_callB (call_isEC XC_Nought hp hz hf) (by rfl) z_isinstance (by decide +kernel) (pa_cons (pv 8) (pa_cons (pe_glob (v := .ref C_BookError) (by rfl) g_BookError rfl) pa_nil))))))))) .nil))
    (pss_cons (ps_if (pt_cmpR (op_neD hr.units) (pv 4) (pv 3) (nomark _))
    (pss_one (ps_ret pe_bl))
    pss_nil)
    (pss_cons (ps_if (pt_cmpR (op_inD (u65 hr)) (pe_tup pa_nil) (pv 3) (by rfl))
    (pss_one (ps_ret (pe_and (pv 7) (pe_and (pe_kn G_whole (hr.mono (by decide)) (by rfl) (pa_cons (pv 6) pa_nil)) (pe_one (pe_cmpR op_eq (pv 6) (pe_bm PySem.F.plainAttrs_list PySem.F.slot_list_index PySem.F.type_list_index (mt_indexD (u65 hr)) (pv 3) (pa_cons (pe_tup pa_nil) pa_nil)) (nomark _)))))))
    pss_nil)
    (pss_cons (ps_if (PW.pt (pw_or (pt_cmpR op_notNo (pv 6) pe_non (nomark _)) (pw_or1 (pt_not (pt_val (pe_kn G_ends (hr.mono (by decide)) (by rfl) (pa_cons (pv 5) (pa_cons (pv 2) (pa_cons (pv 3) pa_nil)))))))))
    (pss_one (ps_ret pe_bl))
    pss_nil)
    (pss_cons (ps_expr (pe_bm PySem.F.plainAttrs_list PySem.F.slot_list_append PySem.F.type_list_append mt_append (pv 5) (pa_cons pe_int pa_nil)))
    (pss_cons (ps_asg pe_int (pg_sub (pv 5) pe_int set_list))
    (pss_cons (ps_expr (pe_bm0 PySem.F.plainAttrs_list PySem.F.slot_list_clear PySem.F.type_list_clear mt_clear (pv 4)))
    (pss_cons (ps_set (i := 9) sc_law.nd rfl (.inl rfl) (pe_knX G_off_nought (hr.mono (by decide)) (by rfl) (pa_cons (pv 2) (pa_cons (pe_callTy call_list_of (by rfl) z_list (by decide +kernel) (pa_cons (pv 3) pa_nil)) pa_nil))))
    (pss_one (ps_ret (pe_and (pe_kn G_ends (hr.mono (by decide)) (by rfl) (pa_cons (pv 9) (pa_cons (pv 2) (pa_cons (pv 3) pa_nil)))) (pe_one (pe_cmpR (op_eqD hr.units) (pe_knX G_off_nought (hr.mono (by decide)) (by rfl) (pa_cons (pv 2) (pa_cons (pe_lst pa_nil) pa_nil))) (pe_lc (own := [("_law_k", 10)]) (g := gName 10) (by rfl) sc_law.nd (pi_range1 (by rfl) z_range (pa_cons (pv 2) pa_nil)) (blkOk_by (own := [("_law_k", 10)]) (N := ["_law_script", "_law_pool_here", "_law_many", "_law_forms_here", "_law_handed", "_law_found", "_law_place", "_law_kind", "e", "_law_again", "_law_k"]) (sc := (defScope s_law)) (by decide +kernel)) (fun _ _ _ _ _ => pg_name (i := 10) sc_law.nd rfl (.inl rfl)) (fun _ _ _ _ _ => pts_nil) (fun _ _ _ _ _ => pe_int)) (nomark _))))))))))))))))))))), ?_⟩
  show (_ : TS) _ [some (.ref a), none, none, none, none, none, none, none, none, none, none] _
  repeat walk_at "st"
  refine ⟨a, ns, _, rfl, hS, hl, by decide, by decide, fun p H1 g1 np hp1 => ?_⟩
  repeat walk_at "st"
  refine ⟨p, _, _, rfl, hp1, by omega, by decide, by decide, fun r H2 b2 hp2 r0 r1 => ?_⟩
  obtain ⟨m, rfl⟩ : ∃ m : Nat, r = (m : Int) := ⟨r.toNat, by omega⟩
  have g2 : Same H H2 := Same.but g1 np b2
  repeat walk_at "st"
  refine ⟨a, ns, _, rfl, g2.seq hS, hl, by decide, by decide, fun p2 H3 g3 np2 hp3 => ?_⟩
  repeat walk_at "st"
  refine ⟨p2, m, _, rfl, hp3, by omega, by omega, fun L us Fs B b4 nL eL fv gf lF => ?_⟩
  clear hS g1 hp1 b2 hp2 g2 g3 np np2 hp3 b4
  have lu := Paired.length fv
  repeat walk_at "st"
  refine ⟨L, us, rfl, .inl (lstOf eL), fun Hd nHd => ?_⟩
  have nLH : Hd ≠ L := fun e => by rw [e, eL] at nHd; cases nHd
  obtain ⟨H5, e5, s5, k5⟩ := nw nHd (.lst us)
  rw [← e5]
  clear e5
  repeat walk_at "st"
  with_reducible refine r_cut (fun σ H' => ∃ fnd plc knd : V, σ = [some (.ref a), some (.ref p), some (.int (m : Int)), some (.ref L), some (.ref Hd), some fnd, some plc, some knd, none, none, none] ∧ Same H5 H' ∧ ((∃ j : Nat, Fs[j]? = some [] ∧ (∀ i, i < j → Fs[i]? ≠ some []) ∧ plc = .int (j : Int) ∧ knd = .bl true) ∨ ((∀ F ∈ Fs, F ≠ []) ∧ plc = .non ∧ ∃ (rs : List Int) (R : Addr), fnd = .ref R ∧ H5 R = none ∧ H' R = some (.lst (rs.map V.int)) ∧ rs.length = m ∧ (∀ n ∈ rs, 0 ≤ n ∧ n ≤ 800 ∧ Low Fs n) ∧ (∀ F ∈ Fs, evI rs F ≠ 0)))) ?U1 ?V1
  case V1 =>
    intro N J
    refine r_callS ?_
    repeat walk_at "st"
    refine ⟨Hd, us, Fs, m, 1000, rfl, lstOf k5, fv.fkt (Kt.same s5), gf, by omega, by decide, by decide, lF, fun j hj hlt d fs H6 s6 e6 lk => ?_, fun ne rs R H6 s6 nR eR lrs low nz => ?_⟩
    · refine ⟨true, ex_Nought_Nought, fun _ b hb => ⟨rfl, ?_⟩, (fun z => nomatch z)⟩
      repeat walk_at "st"
      refine r_xf ?_
      repeat walk_at "st"
      refine ⟨rfl, rfl, d, fs, _, rfl, e6, lk, ?_⟩
      repeat walk_at "st"
      refine ⟨.ref C_BookError, .ref C_BookError, true, d, fs, rfl, fun u h => h, ki_Nought, rfl, e6, ?_⟩
      repeat walk_at "st"
      exact J _ _ ⟨_, _, _, rfl, s6, .inl ⟨j, hj, hlt, rfl, rfl⟩⟩
    · repeat walk_at "st"
      exact J _ _ ⟨_, _, _, rfl, s6, .inr ⟨ne, rfl, rs, R, rfl, nR, eR, lrs, low, nz⟩⟩
  rintro σ H6 ⟨fnd, plc, knd, rfl, s6, cases_⟩
  have k6 := s6 _ _ k5
  have s56 := s5.trans s6
  have eL6 := s56 _ _ eL
  have fv6 := fv.fkt (Kt.same s56)
  repeat walk_at "st"
  refine r_seq ?_
  repeat walk_at "st"
  refine r_neFs (lstOf k6) (lstOf eL6) fv6 fv6 ?_
  repeat walk_at "st"
  refine ⟨sz rfl, fun T nT => ?_⟩
  obtain ⟨H7, e7, s7, k7⟩ := nw nT (.tup [])
  rw [← e7]
  clear e7
  have s57 := s56.trans s7
  have eL7 := s57 _ _ eL
  have fv7 := fv.fkt (Kt.same s57)
  repeat walk_at "st"
  refine r_inEmpty k7 (lstOf eL7) fv7 ?_
  repeat walk_at "st"
  rcases cases_ with ⟨j, hj, hlt, rfl, rfl⟩ | ⟨ne, rfl, rs, R, rfl, nR, eR, lrs, low, nz⟩
  · refine r_dT (decide_eq_true (List.mem_of_getElem? hj)) ?_
    repeat walk_at "st"
    refine ⟨(j : Int), rfl, ?_⟩
    repeat walk_at "st"
    refine r_bm ?_
    repeat walk_at "st"
    refine ⟨.inl ⟨rfl, _, lstOf eL7⟩, ?_⟩
    repeat walk_at "st"
    refine ⟨sz rfl, fun T2 nT2 => ?_⟩
    obtain ⟨H8, e8, s8, k8⟩ := nw nT2 (.tup [])
    rw [← e8]
    clear e8
    repeat walk_at "st"
    have hz : (Fs.map dF)[j]? = some (dF []) := by rw [List.getElem?_map, hj]; rfl
    refine ⟨L, .ref T2, .tuple [], Fs.map dF, j, dF [], rfl, rfl, .lst (lstOf (s8 _ _ eL7)) (fvs_dp (fv7.fkt (Kt.same s8))), dp_empty k8, (fs_sh Fs).1, by decide +kernel, hz, by rw [eqv_empty]; rfl, fun i z hi hz' => ?_, ?_⟩
    · rw [List.getElem?_map] at hz'
      obtain ⟨F0, hF0, rfl⟩ := Option.map_eq_some_iff.mp hz'
      rw [eqv_empty]
      exact decide_eq_false fun e => hlt i hi (by rw [hF0, e])
    repeat walk_at "st"
    rw [decide_eq_true rfl]
    exact q _
  · have nin : [] ∉ Fs := fun h => ne [] h rfl
    have nR0 : B R = none := s5.free nR
    have nRH : R ≠ Hd := fun e => by rw [e, k5] at nR; cases nR
    refine r_dF (decide_eq_false nin) ?_
    repeat walk_at "st"
    refine r_seq ?_
    repeat walk_at "st"
    refine r_notNN ?_
    repeat walk_at "st"
    refine ⟨R, L, us, Fs, m, rs, rfl, s7 _ _ eR, lrs, lstOf eL7, fv7, gf, by omega, lF, low, nz, fun H8 s8 => ?_⟩
    have s58 := s57.trans s8
    have eR8 := s8 _ _ (s7 _ _ eR)
    have k8 := s8 _ _ (s7 _ _ k6)
    repeat walk_at "st"
    refine r_bm ?_
    repeat walk_at "st"
    refine ⟨.inl ⟨rfl, _, lstOf eR8⟩, ?_⟩
    repeat walk_at "st"
    refine ⟨R, _, .int 3, rfl, rfl, eR8, by rw [List.length_map, lrs]; exact Nat.lt_of_le_of_lt (show m ≤ 1000 by omega) (by decide), ?_⟩
    obtain ⟨H9, e9, k9⟩ : ∃ H9, H9 = upd H8 R (.lst (rs.map V.int ++ [V.int 3])) ∧ H9 R = some (.lst (rs.map V.int ++ [V.int 3])) := ⟨_, rfl, upd_same⟩
    have g9 : Same B H9 := by rw [e9]; exact same_updS s58 nR0
    have kH9 : H9 Hd = some (.lst us) := by rw [e9, upd_ne (Ne.symm nRH)]; exact k8
    rw [← e9]
    clear e9
    repeat walk_at "st"
    refine ⟨R, _, 0, 0, rfl, rfl, k9, by unfold ixN; rw [if_pos (by decide), if_pos (by simp only [List.length_append, List.length_cons, List.length_nil]; omega)]; rfl, ?_⟩
    obtain ⟨H10, e10⟩ : ∃ H10, H10 = upd H9 R (.lst ((rs.map V.int ++ [V.int 3]).set 0 (.int 100000))) := ⟨_, rfl⟩
    have g10 : Same B H10 := by rw [e10]; exact same_updS g9 nR0
    have kH10 : H10 Hd = some (.lst us) := by rw [e10, upd_ne (Ne.symm nRH)]; exact kH9
    rw [← e10]
    clear e10
    repeat walk_at "st"
    refine r_bmz ?_
    repeat walk_at "st"
    refine ⟨.inl ⟨rfl, _, lstOf kH10⟩, ?_⟩
    refine ⟨Hd, us, rfl, rfl, kH10, ?_⟩
    obtain ⟨H11, e11⟩ : ∃ H11, H11 = upd H10 Hd (.lst []) := ⟨_, rfl⟩
    have g11 : Same B H11 := by rw [e11]; exact same_updS g10 nHd
    rw [← e11]
    clear e11 k9 kH9 kH10
    repeat walk_at "st"
    refine ⟨L, us, rfl, .inl (lstOf (g11 _ _ eL)), fun L2 nL2 => ?_⟩
    obtain ⟨H12, e12, s12, k12⟩ := nw nL2 (.lst us)
    rw [← e12]
    clear e12
    have g12 := g11.trans s12
    repeat walk_at "st"
    refine ⟨L2, us, Fs, m, 1000, rfl, lstOf k12, fv.fkt (Kt.same g12), gf, by omega, by decide, by decide, lF, fun j hj _ => absurd (List.mem_of_getElem? hj) nin, fun _ rs2 R2 H13 s13 nR2 eR2 lrs2 low2 nz2 => ?_⟩
    have g13 := g12.trans s13
    repeat walk_at "st"
    refine ⟨R2, L, us, Fs, m, rs2, rfl, eR2, lrs2, lstOf (g13 _ _ eL), fv.fkt (Kt.same g13), gf, by omega, lF, low2, nz2, fun H14 s14 => ?_⟩
    repeat walk_at "st"
    refine ⟨sz rfl, fun L3 nL3 => ?_⟩
    obtain ⟨H15, e15, s15, k15⟩ := nw nL3 (.lst [])
    rw [← e15]
    clear e15
    repeat walk_at "st"
    refine ⟨L3, [], [], m, 1000, rfl, lstOf k15, .nil, (fun F hF => by cases hF), by omega, by decide, by decide, by decide, fun j hj _ => by simp at hj, fun _ rs3 R3 H16 s16 nR3 eR3 lrs3 low3 nz3 => ?_⟩
    have z3 : rs3 = List.replicate m 0 := List.eq_replicate_iff.mpr ⟨lrs3, fun n hn => by
      obtain ⟨h1, _, h2⟩ := low3 n hn
      have h3 := h2 [] .nil
      have h4 : n ≤ 0 := h3
      omega⟩
    subst z3
    repeat walk_at "st"
    refine ⟨.int (m : Int), rfl, (m : Int), rfl, by omega, by omega, fun D hD => ?_⟩
    rw [show ((m : Int)).toNat = m from by omega]
    refine lc_range (n := m) (fun j H' => Same H16 H' ∧ H' D = some (.lst ((List.replicate j (0 : Int)).map V.int))) ⟨same_new hD _, upd_same⟩ ?_ ?_
    · rintro j H' hj ⟨g', d'⟩
      refine ⟨rfl, ?_⟩
      refine r_yes ?_
      refine r_T ?_
      repeat walk_at "st"
      refine ⟨_, d', by rw [List.length_map, List.length_replicate]; exact Nat.lt_of_le_of_lt (show j ≤ 1000 by omega) (by decide), same_updS g' hD, ?_⟩
      rw [upd_same, List.replicate_succ', List.map_append]
      rfl
    rintro H17 ⟨g17, d17⟩
    refine r_eqInt (lstOf (g17 _ _ eR3)) (lstOf d17) ?_
    exact q _
end
end Mb
namespace Mb
open PySem PySem.Spec PyProof.Rows L2
def d_put_in : He.DefD := ⟨("put_in", none), "put_in", "put_in", defArgs s_put_in, defBody s_put_in, defScope s_put_in, [], []⟩
def d_off_nought : He.DefD := ⟨("off_nought", none), "off_nought", "off_nought", defArgs s_off_nought, defBody s_off_nought, defScope s_off_nought, [], []⟩
def d_summed : He.DefD := ⟨("summed", none), "summed", "summed", defArgs s_summed, defBody s_summed, defScope s_summed, [], []⟩
def d_greatest_power : He.DefD := ⟨("greatest_power", none), "greatest_power", "greatest_power", defArgs s_greatest_power, defBody s_greatest_power, defScope s_greatest_power, [], []⟩
def d_powers_of : He.DefD := ⟨("powers_of", none), "powers_of", "powers_of", defArgs s_powers_of, defBody s_powers_of, defScope s_powers_of, [], []⟩
def d_least_off : He.DefD := ⟨("least_off", none), "least_off", "least_off", defArgs s_least_off, defBody s_least_off, defScope s_least_off, [], []⟩
def d_columns : He.DefD := ⟨("columns", none), "columns", "columns", defArgs s_columns, defBody s_columns, defScope s_columns, [], []⟩
def d_brings_nought : He.DefD := ⟨("brings_nought", none), "brings_nought", "brings_nought", defArgs s_brings_nought, defBody s_brings_nought, defScope s_brings_nought, [], []⟩
def d_all_nought : He.DefD := ⟨("all_nought", none), "all_nought", "all_nought", defArgs s_all_nought, defBody s_all_nought, defScope s_all_nought, [], []⟩
def d_pool : He.DefD := ⟨("_law_pool", none), "_law_pool", "_law_pool", defArgs s_pool, defBody s_pool, defScope s_pool, [], []⟩
def d_take : He.DefD := ⟨("_law_take", none), "_law_take", "_law_take", defArgs s_take, defBody s_take, defScope s_take, [], []⟩
def d_whole : He.DefD := ⟨("_law_whole", none), "_law_whole", "_law_whole", defArgs s_whole, defBody s_whole, defScope s_whole, [], []⟩
def d_gather : He.DefD := ⟨("_law_gather", none), "_law_gather", "_law_gather", defArgs s_gather, defBody s_gather, defScope s_gather, [], []⟩
def d_product : He.DefD := ⟨("_law_product", none), "_law_product", "_law_product", defArgs s_product, defBody s_product, defScope s_product, [], []⟩
def d_power : He.DefD := ⟨("_law_power", none), "_law_power", "_law_power", defArgs s_power, defBody s_power, defScope s_power, [], []⟩
def d_unit : He.DefD := ⟨("_law_unit", none), "_law_unit", "_law_unit", defArgs s_unit, defBody s_unit, defScope s_unit, [], []⟩
def d_factor : He.DefD := ⟨("_law_factor", none), "_law_factor", "_law_factor", defArgs s_factor, defBody s_factor, defScope s_factor, [], []⟩
def d_ladder : He.DefD := ⟨("_law_ladder", none), "_law_ladder", "_law_ladder", defArgs s_ladder, defBody s_ladder, defScope s_ladder, [], []⟩
def d_rungs : He.DefD := ⟨("_law_rungs", none), "_law_rungs", "_law_rungs", defArgs s_rungs, defBody s_rungs, defScope s_rungs, [], []⟩
def d_forms : He.DefD := ⟨("_law_forms", none), "_law_forms", "_law_forms", defArgs s_forms, defBody s_forms, defScope s_forms, [], []⟩
def d_there : He.DefD := ⟨("_law_there", none), "_law_there", "_law_there", defArgs s_there, defBody s_there, defScope s_there, [], []⟩
def d_ends : He.DefD := ⟨("_law_ends", none), "_law_ends", "_law_ends", defArgs s_ends, defBody s_ends, defScope s_ends, [], []⟩
def d_law : He.DefD := ⟨("law", none), "law", "law", defArgs s_law, defBody s_law, defScope s_law, [], []⟩
def d_init_BookError : He.DefD := ⟨("BookError", some "__init__"), "__init__", "BookError.__init__", defArgs s_init_BookError, defBody s_init_BookError, defScope s_init_BookError, [.str "", .adr (He.dflAt ("BookError", some "__init__") 1)], []⟩
def d_init_Nought : He.DefD := ⟨("Nought", some "__init__"), "__init__", "Nought.__init__", defArgs s_init_Nought, defBody s_init_Nought, defScope s_init_Nought, [], []⟩
def fn : List He.DefD := [d_put_in, d_off_nought, d_summed, d_greatest_power, d_powers_of, d_least_off, d_columns, d_brings_nought, d_all_nought, d_pool, d_take, d_whole, d_gather, d_product, d_power, d_unit, d_factor, d_ladder, d_rungs, d_forms, d_there, d_ends, d_law, d_init_BookError, d_init_Nought]
def fa : List He.Fa := [.glo "put_in", .glo "off_nought", .glo "summed", .glo "greatest_power", .glo "powers_of", .glo "least_off", .glo "columns", .glo "brings_nought", .glo "all_nought", .glo "_law_pool", .glo "_law_take", .glo "_law_whole", .glo "_law_gather", .glo "_law_product", .glo "_law_power", .glo "_law_unit", .glo "_law_factor", .glo "_law_ladder", .glo "_law_rungs", .glo "_law_forms", .glo "_law_there", .glo "_law_ends", .glo "law", .free "ValueError", .free "bool", .free "enumerate", .free "int", .free "isinstance", .free "len", .free "list", .free "max", .free "min", .free "range", .free "sorted", .free "sum", .free "tuple", .glo "Nought", .glo "BookError", .exm "Nought" "Nought" true, .meth "Nought" "__init__"]
abbrev R : PySem.W.OpenRow := PySem.W.OpenLaw.row PySem.Challenge.rw_movebook_k73_off_nought
def xb (K : PySem.W.Frag) : Bool := boB K "BookError" && (veB K && (excCB K "Nought" && (kitIs K "Nought" "BookError" true && (ownOexB K (He.ga K "Nought") && (He.eqO (PySem.W.findIn K (.ref (He.ga K "Nought")) "words") (some none) && (xfB K (He.ga K "Nought") && (He.eqO (PySem.W.findIn K (.ref (He.ga K "Nought")) "number") (some none))))))))
abbrev hk : PySem.W.Hook := hookX 5 fa fn xb
def ob (s : PySem.W.SharedT) : He.AlD × Bool := obsXG 5 fa fn xb (HandSHeadRun.getT s)
theorem ob_eq (s : PySem.W.SharedT) : ob s = hk.obs s.abs := obsXG_eq (HandSHeadRun.getT_eq s)
def names : List PySem.Str := [("BookError" : PySem.Str), ("Nought" : PySem.Str), ("put_in" : PySem.Str), ("off_nought" : PySem.Str), ("summed" : PySem.Str), ("greatest_power" : PySem.Str), ("powers_of" : PySem.Str), ("least_off" : PySem.Str), ("columns" : PySem.Str), ("brings_nought" : PySem.Str), ("all_nought" : PySem.Str), ("_law_pool" : PySem.Str), ("_law_take" : PySem.Str), ("_law_whole" : PySem.Str), ("_law_gather" : PySem.Str), ("_law_product" : PySem.Str), ("_law_power" : PySem.Str), ("_law_unit" : PySem.Str), ("_law_factor" : PySem.Str), ("_law_ladder" : PySem.Str), ("_law_rungs" : PySem.Str), ("_law_forms" : PySem.Str), ("_law_there" : PySem.Str), ("_law_ends" : PySem.Str)]
theorem run (w : World) : HandSHeadRun.RunEq R (PySem.W.view R.prog [27]) hk ob 12000 names w := by
  intro os
  kernel_rfl
theorem facts {P : Program} {w : World} {K : PySem.W.Frag} {h : Heap} {mg : Str → Option Value} {f : Addr} (X : K.In h) (G : h.Ns mainGlobals mg) (hfa : mg ("law" : Str) = some (.ref f)) (c : He.SaysD fa fn K) (cx : xb K = true) :
    ∃ fd : FuncData, (∀ (s : Shared) (v : Value), BindsTo s fd ⟨[v], []⟩ [("_law_script", v)]) ∧ ∀ base : Heap, K.In base → base.Ns mainGlobals mg → FnOk P w K mg base CX0 5 f fd ["_law_script"] (spLaw K) := by
  have F_put_in : Fn K mg "put_in" s_put_in := by
    obtain ⟨fd, F⟩ := c.def_ 0 (d := d_put_in) rfl
    exact ⟨_, fd, F, He.glo_ok X G (c.fact 0 (f := .glo "put_in") rfl)⟩
  have F_off_nought : Fn K mg "off_nought" s_off_nought := by
    obtain ⟨fd, F⟩ := c.def_ 1 (d := d_off_nought) rfl
    exact ⟨_, fd, F, He.glo_ok X G (c.fact 1 (f := .glo "off_nought") rfl)⟩
  have F_summed : Fn K mg "summed" s_summed := by
    obtain ⟨fd, F⟩ := c.def_ 2 (d := d_summed) rfl
    exact ⟨_, fd, F, He.glo_ok X G (c.fact 2 (f := .glo "summed") rfl)⟩
  have F_greatest_power : Fn K mg "greatest_power" s_greatest_power := by
    obtain ⟨fd, F⟩ := c.def_ 3 (d := d_greatest_power) rfl
    exact ⟨_, fd, F, He.glo_ok X G (c.fact 3 (f := .glo "greatest_power") rfl)⟩
  have F_powers_of : Fn K mg "powers_of" s_powers_of := by
    obtain ⟨fd, F⟩ := c.def_ 4 (d := d_powers_of) rfl
    exact ⟨_, fd, F, He.glo_ok X G (c.fact 4 (f := .glo "powers_of") rfl)⟩
  have F_least_off : Fn K mg "least_off" s_least_off := by
    obtain ⟨fd, F⟩ := c.def_ 5 (d := d_least_off) rfl
    exact ⟨_, fd, F, He.glo_ok X G (c.fact 5 (f := .glo "least_off") rfl)⟩
  have F_columns : Fn K mg "columns" s_columns := by
    obtain ⟨fd, F⟩ := c.def_ 6 (d := d_columns) rfl
    exact ⟨_, fd, F, He.glo_ok X G (c.fact 6 (f := .glo "columns") rfl)⟩
  have F_brings_nought : Fn K mg "brings_nought" s_brings_nought := by
    obtain ⟨fd, F⟩ := c.def_ 7 (d := d_brings_nought) rfl
    exact ⟨_, fd, F, He.glo_ok X G (c.fact 7 (f := .glo "brings_nought") rfl)⟩
  have F_all_nought : Fn K mg "all_nought" s_all_nought := by
    obtain ⟨fd, F⟩ := c.def_ 8 (d := d_all_nought) rfl
    exact ⟨_, fd, F, He.glo_ok X G (c.fact 8 (f := .glo "all_nought") rfl)⟩
  have F_pool : Fn K mg "_law_pool" s_pool := by
    obtain ⟨fd, F⟩ := c.def_ 9 (d := d_pool) rfl
    exact ⟨_, fd, F, He.glo_ok X G (c.fact 9 (f := .glo "_law_pool") rfl)⟩
  have F_take : Fn K mg "_law_take" s_take := by
    obtain ⟨fd, F⟩ := c.def_ 10 (d := d_take) rfl
    exact ⟨_, fd, F, He.glo_ok X G (c.fact 10 (f := .glo "_law_take") rfl)⟩
  have F_whole : Fn K mg "_law_whole" s_whole := by
    obtain ⟨fd, F⟩ := c.def_ 11 (d := d_whole) rfl
    exact ⟨_, fd, F, He.glo_ok X G (c.fact 11 (f := .glo "_law_whole") rfl)⟩
  have F_gather : Fn K mg "_law_gather" s_gather := by
    obtain ⟨fd, F⟩ := c.def_ 12 (d := d_gather) rfl
    exact ⟨_, fd, F, He.glo_ok X G (c.fact 12 (f := .glo "_law_gather") rfl)⟩
  have F_product : Fn K mg "_law_product" s_product := by
    obtain ⟨fd, F⟩ := c.def_ 13 (d := d_product) rfl
    exact ⟨_, fd, F, He.glo_ok X G (c.fact 13 (f := .glo "_law_product") rfl)⟩
  have F_power : Fn K mg "_law_power" s_power := by
    obtain ⟨fd, F⟩ := c.def_ 14 (d := d_power) rfl
    exact ⟨_, fd, F, He.glo_ok X G (c.fact 14 (f := .glo "_law_power") rfl)⟩
  have F_unit : Fn K mg "_law_unit" s_unit := by
    obtain ⟨fd, F⟩ := c.def_ 15 (d := d_unit) rfl
    exact ⟨_, fd, F, He.glo_ok X G (c.fact 15 (f := .glo "_law_unit") rfl)⟩
  have F_factor : Fn K mg "_law_factor" s_factor := by
    obtain ⟨fd, F⟩ := c.def_ 16 (d := d_factor) rfl
    exact ⟨_, fd, F, He.glo_ok X G (c.fact 16 (f := .glo "_law_factor") rfl)⟩
  have F_ladder : Fn K mg "_law_ladder" s_ladder := by
    obtain ⟨fd, F⟩ := c.def_ 17 (d := d_ladder) rfl
    exact ⟨_, fd, F, He.glo_ok X G (c.fact 17 (f := .glo "_law_ladder") rfl)⟩
  have F_rungs : Fn K mg "_law_rungs" s_rungs := by
    obtain ⟨fd, F⟩ := c.def_ 18 (d := d_rungs) rfl
    exact ⟨_, fd, F, He.glo_ok X G (c.fact 18 (f := .glo "_law_rungs") rfl)⟩
  have F_forms : Fn K mg "_law_forms" s_forms := by
    obtain ⟨fd, F⟩ := c.def_ 19 (d := d_forms) rfl
    exact ⟨_, fd, F, He.glo_ok X G (c.fact 19 (f := .glo "_law_forms") rfl)⟩
  have F_there : Fn K mg "_law_there" s_there := by
    obtain ⟨fd, F⟩ := c.def_ 20 (d := d_there) rfl
    exact ⟨_, fd, F, He.glo_ok X G (c.fact 20 (f := .glo "_law_there") rfl)⟩
  have F_ends : Fn K mg "_law_ends" s_ends := by
    obtain ⟨fd, F⟩ := c.def_ 21 (d := d_ends) rfl
    exact ⟨_, fd, F, He.glo_ok X G (c.fact 21 (f := .glo "_law_ends") rfl)⟩
  have F_law : Fn K mg "law" s_law := by
    obtain ⟨fd, F⟩ := c.def_ 22 (d := d_law) rfl
    exact ⟨_, fd, F, He.glo_ok X G (c.fact 22 (f := .glo "law") rfl)⟩
  have z_ValueError : mg "ValueError" = none := He.free_ok X G (c.fact 23 (f := .free "ValueError") rfl)
  have z_bool : mg "bool" = none := He.free_ok X G (c.fact 24 (f := .free "bool") rfl)
  have z_enumerate : mg "enumerate" = none := He.free_ok X G (c.fact 25 (f := .free "enumerate") rfl)
  have z_int : mg "int" = none := He.free_ok X G (c.fact 26 (f := .free "int") rfl)
  have z_isinstance : mg "isinstance" = none := He.free_ok X G (c.fact 27 (f := .free "isinstance") rfl)
  have z_len : mg "len" = none := He.free_ok X G (c.fact 28 (f := .free "len") rfl)
  have z_list : mg "list" = none := He.free_ok X G (c.fact 29 (f := .free "list") rfl)
  have z_max : mg "max" = none := He.free_ok X G (c.fact 30 (f := .free "max") rfl)
  have z_min : mg "min" = none := He.free_ok X G (c.fact 31 (f := .free "min") rfl)
  have z_range : mg "range" = none := He.free_ok X G (c.fact 32 (f := .free "range") rfl)
  have z_sorted : mg "sorted" = none := He.free_ok X G (c.fact 33 (f := .free "sorted") rfl)
  have z_sum : mg "sum" = none := He.free_ok X G (c.fact 34 (f := .free "sum") rfl)
  have z_tuple : mg "tuple" = none := He.free_ok X G (c.fact 35 (f := .free "tuple") rfl)
  have g_Nought := He.glo_ok X G (c.fact 36 (f := .glo "Nought") rfl)
  have g_BookError := He.glo_ok X G (c.fact 37 (f := .glo "BookError") rfl)
  have ME_Nought := He.meth_ok (c.fact 39 (f := .meth "Nought" "__init__") rfl)
  have ex_Nought_Nought := He.exm_ok (c.fact 38 (f := .exm "Nought" "Nought" true) rfl)
  obtain ⟨cx0, cx⟩ := He.ba cx
  have BI_BookError := boB_ok cx0
  obtain ⟨cx1, cx⟩ := He.ba cx
  have VI := veB_ok cx1
  obtain ⟨cx2, cx⟩ := He.ba cx
  have XC_Nought := excCB_ok cx2
  obtain ⟨cx3, cx⟩ := He.ba cx
  have ki_Nought := kitIs_ok cx3
  obtain ⟨cx4, cx⟩ := He.ba cx
  have OX_Nought := ownOexB_ok cx4
  obtain ⟨cx5, cx⟩ := He.ba cx
  have NW_Nought := He.eqO_ok cx5
  obtain ⟨cx6, cx⟩ := He.ba cx
  have XF_Nought := xfB_ok cx6
  have Nnumber_Nought := He.eqO_ok cx
  obtain ⟨fi_BookError, FI_BookError⟩ := c.def_ 23 (d := d_init_BookError) rfl
  obtain ⟨fi_Nought, FI_Nought⟩ := c.def_ 24 (d := d_init_Nought) rfl
  have FX_BookError : FnB K mg "BookError" "BookError.__init__" s_init_BookError := ⟨_, _, fi_BookError, _, _, FI_BookError, BI_BookError, g_BookError⟩
  have FX_Nought : FnI K mg "Nought" "Nought.__init__" (He.ga K "Nought") s_init_Nought := ⟨_, fi_Nought, FI_Nought, OX_Nought, ME_Nought.at_, beq_iff_eq.mp ME_Nought.fn, g_Nought⟩
  obtain ⟨fd, FL⟩ := c.def_ 22 (d := d_law) rfl
  have e := hfa.symm.trans (He.glo_ok X G (c.fact 22 (f := .glo "law") rfl))
  cases e
  have b := FunD.bindsA (ps := ["_law_script"]) FL fun _ _ _ _ _ _ us hl => match us, hl with | [_], _ => rfl
  refine ⟨fd, fun s v => b s [v] rfl, fun base _ _ => ?_⟩
  have G_init_BookError := ok_init_BookError (P := P) (w := w) (base := base) FX_BookError z_ValueError VI
  have G_init_Nought := ok_init_Nought (P := P) (w := w) (base := base) FX_Nought G_init_BookError NW_Nought Nnumber_Nought
  have G_summed := ok_summed (P := P) (w := w) (base := base) F_summed z_sorted z_tuple
  have G_powers_of := ok_powers_of (P := P) (w := w) (base := base) F_powers_of z_range
  have G_greatest_power := ok_greatest_power (P := P) (w := w) (base := base) F_greatest_power z_max
  have G_put_in := ok_put_in (P := P) (w := w) (base := base) F_put_in G_powers_of G_greatest_power G_summed
  have G_columns := ok_columns (P := P) (w := w) (base := base) F_columns z_list
  have G_all_nought := ok_all_nought (P := P) (w := w) (base := base) F_all_nought z_sum
  have G_brings_nought := ok_brings_nought (P := P) (w := w) (base := base) F_brings_nought G_all_nought
  have G_least_off := ok_least_off (P := P) (w := w) (base := base) F_least_off G_columns G_greatest_power G_powers_of G_brings_nought z_max
  have G_off_nought := ok_off_nought (P := P) (w := w) (base := base) G_init_Nought F_off_nought G_least_off G_put_in z_enumerate z_list z_range
  have G_pool := ok_pool (P := P) (w := w) (base := base) F_pool z_len
  have G_take := ok_take (P := P) (w := w) (base := base) F_take
  have G_whole := ok_whole (P := P) (w := w) (base := base) F_whole z_isinstance z_int z_bool
  have G_gather := ok_gather (P := P) (w := w) (base := base) F_gather z_sorted z_tuple
  have G_product := ok_product (P := P) (w := w) (base := base) F_product G_gather z_len z_range z_tuple
  have G_power := ok_power (P := P) (w := w) (base := base) F_power z_range
  have G_unit := ok_unit (P := P) (w := w) (base := base) F_unit z_int z_range z_tuple
  have G_factor := ok_factor (P := P) (w := w) (base := base) F_factor G_take G_unit G_gather
  have G_ladder := ok_ladder (P := P) (w := w) (base := base) F_ladder G_unit G_gather G_product z_range
  have G_rungs := ok_rungs (P := P) (w := w) (base := base) F_rungs G_take G_unit G_gather z_range
  have G_forms := ok_forms (P := P) (w := w) (base := base) F_forms G_take G_rungs G_factor G_product G_ladder z_len z_max z_min z_range
  have G_there := ok_there (P := P) (w := w) (base := base) F_there G_power z_len z_range
  have G_ends := ok_ends (P := P) (w := w) (base := base) F_ends G_whole G_there z_isinstance z_len z_list z_max z_sum
  have G_law := ok_law (P := P) (w := w) (base := base) g_Nought g_BookError XC_Nought XF_Nought Nnumber_Nought ki_Nought ex_Nought_Nought FL G_pool G_take G_forms G_off_nought G_whole G_ends z_isinstance z_list z_range
  exact G_law
end Mb
open PySem PySem.W PySem.Calls PyProof.Rows
set_option maxRecDepth 100000 in
set_option maxHeartbeats 0 in
theorem PySem.Challenge.cw_movebook_k73_off_nought_holds : PySem.Challenge.rw_movebook_k73_off_nought.Holds := by
  w_on; o_law
  refine HandSHeadRun.head_any (r := OpenLaw.row PySem.Challenge.rw_movebook_k73_off_nought) (q := view (OpenLaw.row PySem.Challenge.rw_movebook_k73_off_nought).prog [27]) (H := Mb.hk) (ob := Mb.ob) (M := 12000) (loose := Mb.names) (d := HandSHeadRun.topDef (OpenLaw.row PySem.Challenge.rw_movebook_k73_off_nought).prog 27) (kwd := []) Mb.ob_eq
    (by kernel_rfl) (fun s => by kernel_rfl) Mb.run (by kernel_rfl) (by kernel_rfl) (by kernel_rfl) (by rfl) (by first | assumption | decide +kernel) (by decide +kernel) ⟨rfl, rfl, rfl, rfl, rfl, by decide +kernel⟩ ?hw ?hc
  case hw => w_witness2
  case hc =>
    refine L2.walk_ofE (l := PySem.Challenge.rw_movebook_k73_off_nought) (n := 63) (k := 5) (x := "_law_script") (CX := L2.CX0) rfl (by decide) (by kernel_rfl) ⟨rfl, by decide, by decide⟩ ?F (fun _ _ _ _ z => z)
    intro w mg fa h Y G hmg0
    obtain ⟨K, KX, c, cx⟩ := Y
    have hmg : mg ("law" : PySem.Str) = some (.ref fa) := by
      have e : (HandSHeadRun.topDef (OpenLaw.row PySem.Challenge.rw_movebook_k73_off_nought).prog 27).name = ("law" : PySem.Str) := by kernel_rfl
      rw [← e]
      exact hmg0
    obtain ⟨fd, hb, hF⟩ := Mb.facts (P := (PySem.Challenge.rw_movebook_k73_off_nought).prog) (w := w) KX G hmg c cx
    exact ⟨K, fd, Mb.spLaw K, KX, hb, fun H a ns hl _ hS => ⟨a, ns, rfl, hS, hl, fun _ => rfl⟩, hF⟩
