import PyProof.Rows.All
import Wide.All
import OpenK.AllK
import Wide.FinOn
import KE.KStateDown
import Lean
import HandS.ForMost
import HandS.More
import HandS.WordsExc
import HandS.ExcIs
import HandS.ExcOwn
import HandS.TryOnly
import HandS.Exc
import HandS.Defaults
import HandS.Wide
import HandS.WideBits
import HandS.IsInst
import HandS.Head0
import HandS.Head1
import HandS.Head2
import HandS.HeadEnd
import HandS.HeadHook1
import HandS.HeadHook2
import PySem.Challenge.RW_movebook_k02_sums
set_option Elab.async false
set_option linter.all false
set_option maxRecDepth 100000
set_option maxHeartbeats 4000000
namespace Mb
open PySem L2
/-! ### a def that keeps its promise, as its callers take it -/
structure Kn (P : Program) (w : World) (K : PySem.W.Frag) (mg : Str → Option Value) (base : Heap) (k : Nat) (x : Str) (ps : List Str) (sp : Sp) : Prop where
  ex : ∃ f fd, FnOk P w K mg base CX0 k f fd ps sp ∧ mg x = some (.ref f) ∧ PySem.W.keepIn K (.ref f) = true ∧ Binds K fd ps []
theorem pe_kn {X : Cx} {k : Nat} {x : Str} {ps : List Str} {sp : Sp} {e : Expr} {es : List Expr} {p pos : Pos} {t : TA} (G : Kn X.prog X.w X.K X.mg X.base k x ps sp) (hr : Room k X.A) (hg : Gl X x)
    (ha : PA X (e :: es) t) (hdb : (x == ("__debug__" : Str)) = false := by decide) (he : starEach (e :: es) X.env = (false, eval e X.env) :: starEach es X.env := by rfl) (hpl : (backTo pos (starEach es X.env)).any (·.1) = false := by rfl) :
    PE X (.Call (.Name x p) (e :: es) [] pos) (tCall sp [] E0 t) := by
  obtain ⟨f, fd, F, m, kp, b⟩ := G.ex
  exact pe_call F hr hg m kp b .nil pass0 ha hdb he hpl
/-- a def of the text: where it stands -/
abbrev FnP (K : PySem.W.Frag) (x : Str) (st : Stmt) (f : Addr) (fd : FuncData) : Prop := FunD K x x (defArgs st) (defBody st) (defScope st) [] [] f fd
structure Fn (K : PySem.W.Frag) (mg : Str → Option Value) (x : Str) (st : Stmt) : Prop where
  ex : ∃ f fd, FnP K x st f fd ∧ mg x = some (.ref f)
/-- from the walk of its body to its promise -/
theorem Fn.kn {P : Program} {w : World} {K : PySem.W.Frag} {mg : Str → Option Value} {base : Heap} {k : Nat} {x : Str} {st : Stmt} {N ps : List Str} {sp : Sp} (F : Fn K mg x st) (S : FnScope N ps (defScope st)) (len : ∀ vs H Q E, sp vs H Q E → vs.length = ps.length)
    (hbody : ∀ (f : Addr) (cdv : Value) (A : Around) (outer : List Env) (s : Shared) (H : Hp) (vs : List V) (Q : VK) (E : XK), Room k (A.deeper (PyProof.Rows.envOfC x (defScope st) s.heap.objs.size f cdv)) → sp vs H Q E →
      ∃ t, PSs (cxOf CX0 P w K mg base N x (defScope st) f cdv A outer s H E).nox (defBody st) t ∧ t { nx := fun _ H' => Q .non H', rt := Q } (start N vs) H)
    (hb : ∀ (kV doc pm : Value) (an : Option Addr) (cdv ct : Value) (us : List Value), us.length = ps.length → bindArgs (PySem.W.fnOf x x (defArgs st) (defBody st) (defScope st) .none kV doc pm an cdv ct) ⟨us, []⟩ = pure (ps.zip us)) :
    Kn P w K mg base (k + 1) x ps sp := by
  obtain ⟨f, fd, F, m⟩ := F.ex
  refine ⟨f, fd, F.ok S len fun cdv A outer s H vs Q E hr h => ?_, m, F.kp, F.bindsN hb⟩
  obtain ⟨t, p, q⟩ := hbody f cdv A outer s H vs Q E hr h
  exact ⟨t, p.nox, q⟩
/-- the same for the law itself, whose function object is known -/
theorem fnp_ok {P : Program} {w : World} {K : PySem.W.Frag} {mg : Str → Option Value} {base : Heap} {k : Nat} {x : Str} {st : Stmt} {N ps : List Str} {sp : Sp} {f : Addr} {fd : FuncData} (F : FnP K x st f fd) (S : FnScope N ps (defScope st)) (len : ∀ vs H Q E, sp vs H Q E → vs.length = ps.length)
    (hbody : ∀ (cdv : Value) (A : Around) (outer : List Env) (s : Shared) (H : Hp) (vs : List V) (Q : VK) (E : XK), Room k (A.deeper (PyProof.Rows.envOfC x (defScope st) s.heap.objs.size f cdv)) → sp vs H Q E →
      ∃ t, PSs (cxOf CX0 P w K mg base N x (defScope st) f cdv A outer s H E).nox (defBody st) t ∧ t { nx := fun _ H' => Q .non H', rt := Q } (start N vs) H) : FnOk P w K mg base CX0 (k + 1) f fd ps sp := by
  refine F.ok S len fun cdv A outer s H vs Q E hr h => ?_
  obtain ⟨t, p, q⟩ := hbody cdv A outer s H vs Q E hr h
  exact ⟨t, p.nox, q⟩
/-! ### x is True, x is False -/
theorem op_isB {X : Cx} : OpR X (compareOp .Is) (fun x y H Q => ∃ a b, x = .bl a ∧ y = .bl b ∧ Q (.bl (a == b)) H) := by
  intro pins s σ H x y v u Q I rx ry h
  obtain ⟨a, b, rfl, rfl, q⟩ := h
  cases (show v = Value.bool a from rx)
  cases (show u = Value.bool b from ry)
  exact PyProof.Rows.is_bool ⟨.bl (a == b), H, I, rfl, q⟩
/-! ### // by any great divisor but 0 -/
def CDivZ (_ j : Int) : Prop := j ≠ 0 ∧ j.natAbs.log2 < 9000
theorem op_fdivZ {X : Cx} : OpR X (binaryOp .FloorDiv) (rI CDivZ fun i j => .int (i.fdiv j)) := opI fun _ _ _ _ _ _ _ hc q => PyProof.Rows.floordiv_int hc.1 q (.inl (PyProof.noPylong_of_log2 hc.2))
theorem cdivZ {i j : Int} {b : Nat} (h : j ≠ 0) (hb : j.natAbs < 2 ^ b) (h0 : 0 < b) (h9 : b ≤ 9000) : CDivZ i j := ⟨h, Nat.lt_of_lt_of_le (PySem.Flt.log2_lt_of h0 hb) h9⟩
/-! ### readings, step by step -/
section
variable {σ : St} {H : Hp} {Q : VK} {D : Ends} {K : PySem.W.Frag}
theorem r_var {i : Nat} {v : V} (h : σ[i]? = some (some v)) (q : Q v H) : tVar i σ H Q := ⟨v, h, q⟩
theorem r_c {v : V} (q : Q v H) : tC v σ H Q := q
theorem r_op {r : R2} {ta tb : TE} (q : ta σ H fun x H1 => tb σ H1 fun y H2 => r x y H2 Q) : tOp r ta tb σ H Q := q
theorem r_un {r : V → Hp → VK → Prop} {ta : TE} (q : ta σ H fun x H1 => r x H1 Q) : tUn r ta σ H Q := q
theorem r_i {C : Int → Int → Prop} {g : Int → Int → V} {i j : Int} (c : C i j) (q : Q (g i j) H) : rI C g (.int i) (.int j) H Q := ⟨i, j, rfl, rfl, c, q⟩
theorem r_i0 {g : Int → Int → V} {i j : Int} (q : Q (g i j) H) : rI0 g (.int i) (.int j) H Q := ⟨i, j, rfl, rfl, q⟩
theorem r_u {g : Int → V} {i : Int} (q : Q (g i) H) : rU g (.int i) H Q := ⟨i, rfl, q⟩
theorem r_eqI {i j : Int} (q : Q (.bl (decide (i = j))) H) : rEq (.int i) (.int j) H Q := ⟨rfl, by
  rw [show decide (V.int i = V.int j) = decide (i = j) from by simp]; exact q⟩
theorem r_neI {i j : Int} (q : Q (.bl (!decide (i = j))) H) : rNe (.int i) (.int j) H Q := ⟨rfl, by
  rw [show decide (V.int i = V.int j) = decide (i = j) from by simp]; exact q⟩
theorem r_eqB {i j : Bool} (q : Q (.bl (i == j)) H) : rEq (.bl i) (.bl j) H Q := ⟨rfl, by
  rw [show decide (V.bl i = V.bl j) = (i == j) from by cases i <;> cases j <;> rfl]; exact q⟩
theorem r_eqS {i j : Str} (q : Q (.bl (decide (i = j))) H) : rEq (.str i) (.str j) H Q := ⟨rfl, by
  rw [show decide (V.str i = V.str j) = decide (i = j) from by simp]; exact q⟩
theorem r_bits {to : TE} (q : to σ H fun x H1 => ∃ i, x = .int i ∧ Q (.int (Builtin.Int.intBits i : Nat)) H1) : tBits to σ H Q := q
theorem r_int {i : Int} {Q : Int → Prop} (q : Q i) : ∃ k, V.int i = .int k ∧ Q k := ⟨i, rfl, q⟩
theorem r_cb {r : List V → Hp → VK → Prop} {t : TA} (q : t σ H fun vs H1 => r vs H1 Q) : tCB r t σ H Q := q
theorem r_nil {Q : List V → Hp → Prop} (q : Q [] H) : tNil σ H Q := q
theorem r_cons {ta : TE} {tr : TA} {Q : List V → Hp → Prop} (q : ta σ H fun x H1 => tr σ H1 fun xs H2 => Q (x :: xs) H2) : tCons ta tr σ H Q := q
theorem r_tup {t : TA} (q : t σ H fun xs H1 => xs.length ≤ sizeLine ∧ ∀ p, H1 p = none → Q (.ref p) (upd H1 p (.tup xs))) : tTup t σ H Q := q
theorem r_lst {t : TA} (q : t σ H fun xs H1 => xs.length ≤ sizeLine ∧ ∀ p, H1 p = none → Q (.ref p) (upd H1 p (.lst xs))) : tLst t σ H Q := q
theorem r_call {sp : Sp} {E : XK} {t : TA} (q : t σ H fun vs H1 => sp (vs ++ []) H1 Q E) : tCall sp [] E t σ H Q := q
theorem r_seq {t u : TS} (q : t { D with nx := u D } σ H) : tSeq t u D σ H := q
theorem r_seqA {te : TE} {g : TG} {u : TS} (q : te σ H fun x H1 => g x σ H1 (u D)) : tSeq (tAsg te g) u D σ H := q
theorem r_seqD {te : TE} {u : TS} (q : te σ H fun _ H1 => u D σ H1) : tSeq (tDrop te) u D σ H := q
theorem r_seqP {i j : Nat} {ta : TA} {u : TS} (q : ta σ H fun vs H1 => ∃ v w, vs = [v, w] ∧ u D ((σ.set i (some v)).set j (some w)) H1) : tSeq (tPar i j ta) u D σ H := q
theorem r_cut {t u : TS} (R : St → Hp → Prop) (k : ∀ σ1 H1, R σ1 H1 → u D σ1 H1) (h : ∀ N : St → Hp → Prop, (∀ σ1 H1, R σ1 H1 → N σ1 H1) → t { D with nx := N } σ H) : tSeq t u D σ H := h _ k
theorem r_next (q : D.nx σ H) : tNext D σ H := q
theorem r_nx {a c d : St → Hp → Prop} {b : VK} (q : a σ H) : (Ends.mk a b c d).nx σ H := q
theorem r_asg {te : TE} {g : TG} (q : te σ H fun x H1 => g x σ H1 D.nx) : tAsg te g D σ H := q
theorem r_gname {i : Nat} {v : V} {Q : St → Hp → Prop} (q : Q (σ.set i (some v)) H) : gName i v σ H Q := q
theorem r_gsub {to ti : TE} {t : TSet} {v : V} {Q : St → Hp → Prop} (q : to σ H fun o H1 => ti σ H1 fun i H2 => t o i v H2 fun H3 => Q σ H3) : gSub to ti t v σ H Q := q
theorem r_ret {te : TE} (q : te σ H D.rt) : tRet te D σ H := q
theorem r_drop {te : TE} (q : te σ H fun _ H1 => D.nx σ H1) : tDrop te D σ H := q
theorem r_ifs {c : TT} {t u : TS} (q : c σ H fun b H1 => if b = true then t D σ H1 else u D σ H1) : tIfS c t u D σ H := q
theorem r_test {t : TE} {Q : Bool → Hp → Prop} (q : t σ H fun x H' => ∃ k, x = .bl k ∧ Q k H') : tTest t σ H Q := q
theorem r_tB {t : TE} {Q : Bool → Hp → Prop} (q : t σ H fun x H' => ∃ k, x = .bl k ∧ Q k H') : tB t σ H Q := q
theorem r_bl {b : Bool} {Q : Bool → Prop} (q : Q b) : ∃ k, V.bl b = .bl k ∧ Q k := ⟨b, rfl, q⟩
theorem r_and {t u : TT} {Q : Bool → Hp → Prop} (q : t σ H fun c H1 => if c = true then u σ H1 Q else Q false H1) : tAnd t u σ H Q := q
theorem r_or {t u : TT} {Q : Bool → Hp → Prop} (q : t σ H fun c H1 => if c = true then Q true H1 else u σ H1 Q) : tOr t u σ H Q := q
theorem r_not {t : TT} {Q : Bool → Hp → Prop} (q : t σ H fun c H1 => Q (!c) H1) : tNot t σ H Q := q
theorem r_andV {ta tb : TE} (q : ta σ H fun x H1 => ∃ c, x = .bl c ∧ if c = true then tb σ H1 Q else Q (.bl false) H1) : tAndV ta tb σ H Q := q
theorem r_orV {ta tb : TE} (q : ta σ H fun x H1 => ∃ c, x = .bl c ∧ if c = true then Q (.bl true) H1 else tb σ H1 Q) : tOrV ta tb σ H Q := q
theorem r_notV {ta : TE} (q : ta σ H fun x H1 => ∃ c, x = .bl c ∧ Q (.bl (!c)) H1) : tNotV ta σ H Q := q
theorem r_par {i j : Nat} {ta : TA} (q : ta σ H fun vs H1 => ∃ v w, vs = [v, w] ∧ D.nx ((σ.set i (some v)).set j (some w)) H1) : tPar i j ta D σ H := q
theorem r_two {v w : V} {Q : V → V → Prop} (q : Q v w) : ∃ a b, [v, w] = [a, b] ∧ Q a b := ⟨v, w, rfl, q⟩
theorem r_ixL {p : Addr} {xs : List V} {i : Int} {v : V} (h : SqL K H p xs) (a : atI xs i = some v) (q : Q v H) : rIxL K (.ref p) (.int i) H Q := ⟨p, xs, i, v, rfl, rfl, h, a, q⟩
theorem r_ixT {p : Addr} {xs : List V} {i : Int} {v : V} (h : SqT K H p xs) (a : atI xs i = some v) (q : Q v H) : rIxT K (.ref p) (.int i) H Q := ⟨p, xs, i, v, rfl, rfl, h, a, q⟩
theorem r_setL {p : Addr} {xs : List V} {k : Int} {j : Nat} {v : V} {Q : Hp → Prop} (h : H p = some (.lst xs)) (a : ixN xs.length k = some j) (q : Q (upd H p (.lst (xs.set j v)))) : rSetL (.ref p) (.int k) v H Q := ⟨p, xs, k, j, rfl, rfl, h, a, q⟩
theorem r_isi {x : V} {a b : String} {r : Bool} (ty : TyX K H x (.type a)) (h : kitB a b = some r) (q : Q (.bl r) H) : rIsi K [x, .ty b] H Q := ⟨x, .ty b, .type a, .type b, r, rfl, .ty b, ty, kit_ty h, q⟩
theorem r_eqFr {p q : Addr} {a b c d : Int} (h1 : SqT K H p [.int a, .int b]) (h2 : SqT K H q [.int c, .int d]) (e : a = c ∧ b = d) (k : Q (.bl true) H) : rEqD K (.ref p) (.ref q) H Q := by
  obtain ⟨rfl, rfl⟩ := e
  refine ⟨.tuple [.int a, .int b], .tuple [.int a, .int b], .tup h1 (.cons (.int a) (.cons (.int b) .nil)), .tup h2 (.cons (.int a) (.cons (.int b) .nil)), rfl, rfl, ?_⟩
  rw [SeqAt.eqv_refl _ rfl]
  exact k
/-- a test that is open -/
theorem r_ite {c : Prop} [Decidable c] {A B : Prop} (h1 : c → A) (h2 : ¬ c → B) : if decide c = true then A else B := by
  by_cases h : c
  · rw [decide_eq_true h]; exact h1 h
  · rw [decide_eq_false h]; exact h2 h
theorem r_iteN {c : Prop} [Decidable c] {A B : Prop} (h1 : ¬ c → A) (h2 : c → B) : if (!decide c) = true then A else B := by
  by_cases h : c
  · rw [decide_eq_true h]; exact h2 h
  · rw [decide_eq_false h]; exact h1 h
theorem r_T {A B : Prop} (h : A) : if true = true then A else B := iteT h
theorem r_dT {c : Bool} {A B : Prop} (hc : c = true) (h : A) : if c = true then A else B := by rw [hc]; exact iteT h
theorem r_dF {c : Bool} {A B : Prop} (hc : c = false) (h : B) : if c = true then A else B := by rw [hc]; exact iteF h
theorem r_nT {A B : Prop} (h : B) : if (!true) = true then A else B := iteF h
theorem r_nF {A B : Prop} (h : A) : if (!false) = true then A else B := iteT h
theorem r_F {A B : Prop} (h : B) : if false = true then A else B := iteF h
end
/-- a while by a word and a measure -/
theorem r_while {σ : St} {H : Hp} {D : Ends} {c : TT} {tb : TS} (Pv : St → Hp → Prop) (μ : St → Hp → Nat) (h0 : Pv σ H)
    (hs : ∀ σ1 H1, Pv σ1 H1 → c σ1 H1 fun b H2 => if b = true then ∃ N : St → Hp → Prop, (∀ σ2 H2, N σ2 H2 → ∃ m, m < μ σ1 H1 ∧ m = μ σ2 H2 ∧ Pv σ2 H2) ∧ tb { D with nx := N, ct := N, bk := D.nx } σ1 H2 else D.nx σ1 H2) : tWhile c tb D σ H := by
  refine ⟨fun m σ H => m = μ σ H ∧ Pv σ H, ⟨_, rfl, h0⟩, ?_⟩
  rintro m σ H ⟨rfl, p⟩
  exact hs σ H p
theorem r_turn {σ : St} {H : Hp} {D : Ends} {tb : TS} {Pv : St → Hp → Prop} {μ : St → Hp → Nat} {n : Nat} (q : tb { D with nx := fun σ2 H2 => Pv σ2 H2 ∧ μ σ2 H2 < n, ct := fun σ2 H2 => Pv σ2 H2 ∧ μ σ2 H2 < n, bk := D.nx } σ H) :
    ∃ N : St → Hp → Prop, (∀ σ2 H2, N σ2 H2 → ∃ m, m < n ∧ m = μ σ2 H2 ∧ Pv σ2 H2) ∧ tb { D with nx := N, ct := N, bk := D.nx } σ H :=
  ⟨_, fun _ _ h => ⟨_, h.2, rfl, h.1⟩, q⟩
theorem sz {n : Nat} (h : Nat.ble n 1000 = true) : n ≤ sizeLine := Nat.le_of_lt (small1000 (Nat.le_of_ble_eq_true h))
/-! ### heaps -/
/-- all but p is as it was -/
def But (p : Addr) (H H' : Hp) : Prop := ∀ b o, b ≠ p → H b = some o → H' b = some o
theorem But.refl (p : Addr) (H : Hp) : But p H H := fun _ _ _ h => h
theorem But.trans {p : Addr} {H H1 H2 : Hp} (a : But p H H1) (b : But p H1 H2) : But p H H2 := fun c o n h => b c o n (a c o n h)
theorem But.upd (p : Addr) (H : Hp) (o : HO) : But p H (upd H p o) := fun b o' n h => by rw [upd_ne n]; exact h
theorem But.same {p : Addr} {H H' : Hp} (s : Same H H') : But p H H' := fun b o _ h => s b o h
/-- what stood ahead of p's making stands -/
theorem Same.but {H0 H H' : Hp} {p : Addr} (s : Same H0 H) (n : H0 p = none) (b : But p H H') : Same H0 H' := fun c o h => b c o (ne_of_none h n) (s c o h)
theorem same_new {H : Hp} {p : Addr} (h : H p = none) (o : HO) : Same H (upd H p o) := fun b u q => by rw [upd_ne (ne_of_none q h)]; exact q
theorem nw {H : Hp} {p : Addr} (n : H p = none) (o : HO) : ∃ H1, H1 = upd H p o ∧ Same H H1 ∧ H1 p = some o := ⟨_, rfl, same_new n o, upd_same⟩
theorem _root_.L2.Same.tp {K : PySem.W.Frag} {H H' : Hp} {a : Addr} {xs : List V} (e : Same H H') (h : SqT K H a xs) : SqT K H' a xs := by
  rcases h with (h | ⟨o, h⟩) | h
  · exact .inl (.inl (e _ _ h))
  · exact .inl (.inr ⟨o, e _ _ h⟩)
  · exact .inr h
theorem But.tup {K : PySem.W.Frag} {H H' : Hp} {a p : Addr} {xs ys : List V} (e : But p H H') (hp : H p = some (.lst ys)) (h : SqT K H a xs) : SqT K H' a xs := by
  rcases h with (h | ⟨o, h⟩) | h
  · exact .inl (.inl (e _ _ (fun z => by rw [z, hp] at h; cases h) h))
  · exact .inl (.inr ⟨o, e _ _ (fun z => by rw [z, hp] at h; cases h) h⟩)
  · exact .inr h
theorem tupOf {K : PySem.W.Frag} {H : Hp} {a : Addr} {xs : List V} (h : H a = some (.tup xs)) : SqT K H a xs := .inl (.inl h)
theorem lstOf {K : PySem.W.Frag} {H : Hp} {a : Addr} {xs : List V} (h : H a = some (.lst xs)) : SqL K H a xs := .inl (.inl h)
/-! ### sizes -/
abbrev Sm (n : Nat) (i : Int) : Prop := i.natAbs < 2 ^ n
theorem Sm.mono {m n : Nat} {i : Int} (h : Sm m i) (l : m ≤ n) : Sm n i := Nat.lt_of_lt_of_le h (Nat.pow_le_pow_right (by decide) l)
theorem Sm.le {n : Nat} {i j : Int} (h : Sm n j) (l : i.natAbs ≤ j.natAbs) : Sm n i := Nat.lt_of_le_of_lt l h
theorem Sm.mul {m n : Nat} {i j : Int} (h : Sm m i) (l : Sm n j) : Sm (m + n) (i * j) := wide_lt h l
theorem Sm.neg {n : Nat} {i : Int} (h : Sm n i) : Sm n (-i) := by rw [Sm, Int.natAbs_neg]; exact h
theorem Sm.add {n : Nat} {i j : Int} (h : Sm n i) (l : Sm n j) : Sm (n + 1) (i + j) := by
  have := Int.natAbs_add_le i j
  unfold Sm at *
  rw [Nat.pow_succ]
  omega
theorem Sm.sub {n : Nat} {i j : Int} (h : Sm n i) (l : Sm n j) : Sm (n + 1) (i - j) := by
  rw [Int.sub_eq_add_neg]; exact h.add l.neg
theorem Sm.cmul {m n : Nat} {i j : Int} (h : Sm m i) (l : Sm n j) (h0 : 0 < m := by decide) (h1 : 0 < n := by decide) (s : m + n ≤ 1000000 := by decide) : CMulW i j := wide_mul h l h0 h1 s
theorem Sm.cdiv {n : Nat} {i j : Int} (p : 0 < j) (l : Sm n j) (h1 : 0 < n := by decide) (s : n ≤ 9000 := by decide) : CDivW i j := wide_div p l h1 s
theorem Sm.of_lt {n : Nat} {i j : Int} (h0 : 0 ≤ i) (h : i < j) (s : j.natAbs ≤ 2 ^ n) : Sm n i := by unfold Sm; omega
end Mb
namespace Mb
open PySem L2
theorem Sm.addm {m n : Nat} {i j : Int} (h : Sm m i) (l : Sm n j) : Sm (max m n + 1) (i + j) := (h.mono (Nat.le_max_left _ _)).add (l.mono (Nat.le_max_right _ _))
theorem Sm.subm {m n : Nat} {i j : Int} (h : Sm m i) (l : Sm n j) : Sm (max m n + 1) (i - j) := (h.mono (Nat.le_max_left _ _)).sub (l.mono (Nat.le_max_right _ _))
theorem Sm.lit {i : Int} (h : i.natAbs < 2 ^ 64) : Sm 64 i := h
theorem Sm.lit2 {i : Int} (h : i.natAbs < 2 ^ 512) : Sm 512 i := h
/-! ### lowest terms -/
def lowT (t b : Int) : Int := (if b < 0 then -t else t) / (Int.gcd t b : Int)
def lowB (t b : Int) : Int := (if b < 0 then -b else b) / (Int.gcd t b : Int)
theorem gcd_pos {t b : Int} (hb : b ≠ 0) : 0 < (Int.gcd t b : Int) := by
  have := Int.gcd_pos_of_ne_zero_right t hb
  omega
theorem lowB_pos {t b : Int} (hb : b ≠ 0) : 0 < lowB t b := by
  unfold lowB
  have g := gcd_pos (t := t) hb
  have d : (Int.gcd t b : Int) ∣ (if b < 0 then -b else b) := by
    split
    · exact (Int.dvd_neg).mpr (Int.gcd_dvd_right t b)
    · exact Int.gcd_dvd_right t b
  have p : 0 < (if b < 0 then -b else b) := by split <;> omega
  exact Int.ediv_pos_of_pos_of_dvd p (by omega) d
theorem ediv_abs {x g : Int} (hg : 0 < g) (d : g ∣ x) : (x / g).natAbs ≤ x.natAbs := by
  obtain ⟨k, rfl⟩ := d
  rw [Int.mul_ediv_cancel_left k (by omega), Int.natAbs_mul]
  have : 1 ≤ g.natAbs := by omega
  calc k.natAbs = 1 * k.natAbs := by rw [Nat.one_mul]
    _ ≤ g.natAbs * k.natAbs := Nat.mul_le_mul_right _ this
theorem lowT_le {t b : Int} (hb : b ≠ 0) : (lowT t b).natAbs ≤ t.natAbs := by
  unfold lowT
  have g := gcd_pos (t := t) hb
  have d : (Int.gcd t b : Int) ∣ (if b < 0 then -t else t) := by
    split
    · exact (Int.dvd_neg).mpr (Int.gcd_dvd_left t b)
    · exact Int.gcd_dvd_left t b
  have := ediv_abs g d
  split at this <;> split <;> simp_all
theorem lowB_le {t b : Int} (hb : b ≠ 0) : (lowB t b).natAbs ≤ b.natAbs := by
  unfold lowB
  have g := gcd_pos (t := t) hb
  have d : (Int.gcd t b : Int) ∣ (if b < 0 then -b else b) := by
    split
    · exact (Int.dvd_neg).mpr (Int.gcd_dvd_right t b)
    · exact Int.gcd_dvd_right t b
  have := ediv_abs g d
  split at this <;> split <;> simp_all
theorem low_gcd {t b : Int} (hb : b ≠ 0) : Int.gcd (lowT t b) (lowB t b) = 1 := by
  have g : 0 < Int.gcd t b := Int.gcd_pos_of_ne_zero_right t hb
  have key : ∀ x y : Int, Int.gcd x y = Int.gcd t b → Int.gcd (x / (Int.gcd t b : Int)) (y / (Int.gcd t b : Int)) = 1 := by
    intro x y e
    rw [← e]
    rw [← e] at g
    exact Int.gcd_ediv_gcd_ediv_gcd g
  unfold lowT lowB
  split
  · exact key _ _ (by rw [Int.neg_gcd, Int.gcd_neg])
  · exact key _ _ rfl
theorem low_cross {t b : Int} (hb : b ≠ 0) : lowT t b * b = t * lowB t b := by
  have g := gcd_pos (t := t) hb
  obtain ⟨x, hx⟩ := Int.gcd_dvd_left t b
  obtain ⟨y, hy⟩ := Int.gcd_dvd_right t b
  have eT : ∀ s : Int, s = (Int.gcd t b : Int) * x → s / (Int.gcd t b : Int) = x := fun s e => by rw [e, Int.mul_ediv_cancel_left _ (by omega)]
  have eB : ∀ s : Int, s = (Int.gcd t b : Int) * y → s / (Int.gcd t b : Int) = y := fun s e => by rw [e, Int.mul_ediv_cancel_left _ (by omega)]
  unfold lowT lowB
  by_cases h : b < 0
  · rw [if_pos h, if_pos h]
    rw [show -t = (Int.gcd t b : Int) * (-x) by rw [Int.mul_neg, ← hx], show -b = (Int.gcd t b : Int) * (-y) by rw [Int.mul_neg, ← hy], Int.mul_ediv_cancel_left _ (by omega), Int.mul_ediv_cancel_left _ (by omega)]
    have e1 : b = (Int.gcd t b : Int) * y := hy
    have e2 : t = (Int.gcd t b : Int) * x := hx
    generalize (Int.gcd t b : Int) = q at *
    subst e1 e2
    simp only [Int.neg_mul, Int.mul_neg, Int.mul_assoc, Int.mul_comm, Int.mul_left_comm]
  · rw [if_neg h, if_neg h, eT t hx, eB b hy]
    have e1 : b = (Int.gcd t b : Int) * y := hy
    have e2 : t = (Int.gcd t b : Int) * x := hx
    generalize (Int.gcd t b : Int) = q at *
    subst e1 e2
    simp only [Int.mul_assoc, Int.mul_comm, Int.mul_left_comm]
theorem cop_dvd {u t y : Int} (g : Int.gcd t u = 1) (d : u ∣ t * y) : u ∣ y := by
  have d1 : u.natAbs ∣ t.natAbs * y.natAbs := by rw [← Int.natAbs_mul]; exact Int.natAbs_dvd_natAbs.mpr d
  have c : Nat.Coprime u.natAbs t.natAbs := by rw [Nat.coprime_comm]; exact g
  exact Int.natAbs_dvd_natAbs.mp (c.dvd_of_dvd_mul_left d1)
/-- one worth has one form in lowest terms -/
theorem frac_unique {t u x y : Int} (hu : 0 < u) (hy : 0 < y) (g1 : Int.gcd t u = 1) (g2 : Int.gcd x y = 1) (e : t * y = x * u) : t = x ∧ u = y := by
  have d1 : u ∣ y := cop_dvd g1 ⟨x, by rw [e, Int.mul_comm]⟩
  have d2 : y ∣ u := cop_dvd g2 ⟨t, by rw [← e, Int.mul_comm]⟩
  have e2 : u = y := Int.dvd_antisymm (by omega) (by omega) d1 d2
  subst e2
  exact ⟨Int.eq_of_mul_eq_mul_right (by omega) e, rfl⟩
theorem low_eq {a b t u : Int} (hb : b ≠ 0) (hu : 0 < u) (g : Int.gcd t u = 1) (e : a * u = t * b) : lowT a b = t ∧ lowB a b = u := by
  refine frac_unique (lowB_pos hb) hu (low_gcd hb) g ?_
  have c := low_cross (t := a) hb
  apply Int.eq_of_mul_eq_mul_right hb
  calc lowT a b * u * b = lowT a b * b * u := by simp only [Int.mul_assoc, Int.mul_comm, Int.mul_left_comm]
    _ = a * lowB a b * u := by rw [c]
    _ = a * u * lowB a b := by simp only [Int.mul_assoc, Int.mul_comm, Int.mul_left_comm]
    _ = t * b * lowB a b := by rw [e]
    _ = t * lowB a b * b := by simp only [Int.mul_assoc, Int.mul_comm, Int.mul_left_comm]
theorem fdiv_exact {x g : Int} (d : g ∣ x) (c : Bool) : x.fdiv (if c then -g else g) = (if c then -x else x) / g := by
  cases c with
  | false => exact Int.fdiv_eq_ediv_of_dvd d
  | true =>
    show x.fdiv (-g) = -x / g
    rw [Int.fdiv_eq_ediv_of_dvd (Int.neg_dvd.mpr d), Int.ediv_neg, Int.neg_ediv_of_dvd d]
theorem gcd_step {x y : Int} (hx : 0 ≤ x) (hy : 0 < y) : Int.gcd y (x % y) = Int.gcd x y := by
  have e : ∃ m n : Nat, x = m ∧ y = n := ⟨x.toNat, y.toNat, by omega, by omega⟩
  obtain ⟨m, n, rfl, rfl⟩ := e
  have c : ((m : Int) % (n : Int)) = ((m % n : Nat) : Int) := by norm_cast
  rw [c, Int.gcd_natCast_natCast, Int.gcd_natCast_natCast, Nat.gcd_comm n, ← Nat.gcd_rec, Nat.gcd_comm]
theorem gcd_sm {t b : Int} {n : Nat} (hb : b ≠ 0) (sb : Sm n b) : Sm n (Int.gcd t b : Int) := sb.le (by
  have : (Int.gcd t b : Int) ∣ b := Int.gcd_dvd_right t b
  have := Int.le_of_dvd (show 0 < (b.natAbs : Int) by omega) (Int.dvd_natAbs.mpr this)
  omega)
end Mb
namespace Mb
open PySem L2
/-! ### promises of the law's own drawing -/
/-- a pool of draws at p: three numbers, the second from 0 to b -/
def Pl (H : Hp) (p : Addr) (b : Int) : Prop := ∃ x y z : Int, H p = some (.lst [.int x, .int y, .int z]) ∧ 0 ≤ y ∧ y ≤ b
theorem Pl.mono {H : Hp} {p : Addr} {b c : Int} (h : Pl H p b) (l : b ≤ c) : Pl H p c := by
  obtain ⟨x, y, z, h1, h2, h3⟩ := h
  exact ⟨x, y, z, h1, h2, by omega⟩
theorem Pl.same {H H' : Hp} {p : Addr} {b : Int} (h : Pl H p b) (s : Same H H') : Pl H' p b := by
  obtain ⟨x, y, z, h1, h2, h3⟩ := h
  exact ⟨x, y, z, s _ _ h1, h2, h3⟩
theorem Pl.but {H H' : Hp} {p q : Addr} {b : Int} (h : Pl H p b) (n : p ≠ q) (s : But q H H') : Pl H' p b := by
  obtain ⟨x, y, z, h1, h2, h3⟩ := h
  exact ⟨x, y, z, s _ _ n h1, h2, h3⟩
theorem Pl.tup {K : PySem.W.Frag} {H H' : Hp} {a p : Addr} {b : Int} {xs : List V} (h : Pl H p b) (s : But p H H') (t : SqT K H a xs) : SqT K H' a xs := by
  obtain ⟨x, y, z, h1, _⟩ := h
  exact s.tup h1 t
def spPool (K : PySem.W.Frag) : Sp := fun vs H Q _ => ∃ (a : Addr) (ns : List Int) (i : Int), vs = [.ref a, .int i] ∧ SqL K H a (ns.map V.int) ∧ ns.length ≤ 63 ∧ 0 ≤ i ∧ i ≤ 1000 ∧
  ∀ (p : Addr) (H' : Hp), Same H H' → H p = none → Pl H' p 1000000 → Q (.ref p) H'
def spTake : Sp := fun vs H Q _ => ∃ (p : Addr) (k b : Int), vs = [.ref p, .int k] ∧ Pl H p b ∧ b ≤ 2000000 ∧ 1 ≤ k ∧ k ≤ 1000000 ∧
  ∀ (r : Int) (H' : Hp), But p H H' → Pl H' p (b + 1) → 0 ≤ r → r < k → Q (.int r) H'
def spGcd : Sp := fun vs H Q _ => ∃ a b : Int, vs = [.int a, .int b] ∧ Q (.int (Int.gcd a b)) H
def spLow : Sp := fun vs H Q _ => ∃ t b : Int, vs = [.int t, .int b] ∧ b ≠ 0 ∧ Sm 8000 b ∧
  ∀ (p : Addr) (H' : Hp), Same H H' → H p = none → H' p = some (.tup [.int (lowT t b), .int (lowB t b)]) → Q (.ref p) H'
/-- a number of the pool, from 0 on, below 2 ^ 210 -/
def spNumber : Sp := fun vs H Q _ => ∃ (p : Addr) (b : Int), vs = [.ref p] ∧ Pl H p b ∧ b ≤ 1900000 ∧
  ∀ (r : Int) (H' : Hp), But p H H' → Pl H' p (b + 100) → 0 ≤ r → Sm 210 r → Q (.int r) H'
/-- a fraction: its two numbers, in lowest terms -/
structure Fr (t u : Int) : Prop where
  pos : 0 < u
  one : Int.gcd t u = 1
  st : Sm 211 t
  su : Sm 211 u
def spWide : Sp := fun vs H Q _ => ∃ (p : Addr) (b : Int), vs = [.ref p] ∧ Pl H p b ∧ b ≤ 1800000 ∧
  ∀ (q : Addr) (t u : Int) (H' : Hp), But p H H' → Pl H' p (b + 300) → H' q = some (.tup [.int t, .int u]) → Fr t u → Q (.ref q) H'
def spPair (K : PySem.W.Frag) : Sp := fun vs H Q _ => ∃ (a : Addr) (ns : List Int) (i : Int), vs = [.ref a, .int i] ∧ SqL K H a (ns.map V.int) ∧ ns.length ≤ 63 ∧ 0 ≤ i ∧ i ≤ 900 ∧
  ∀ (r p q : Addr) (t u x y : Int) (H' : Hp), Same H H' → H' r = some (.tup [.ref p, .ref q]) → SqT K H' p [.int t, .int u] → SqT K H' q [.int x, .int y] → Fr t u → Fr x y → Q (.ref r) H'
def spAsked (K : PySem.W.Frag) : Sp := fun vs H Q _ => ∃ (a : Addr) (ns : List Int) (i : Int), vs = [.ref a, .int i] ∧ SqL K H a (ns.map V.int) ∧ ns.length ≤ 63 ∧ 0 ≤ i ∧ i ≤ 900 ∧ ∀ H', Same H H' → Q (.bl true) H'
def spLaw (K : PySem.W.Frag) : Sp := fun vs H Q _ => ∃ (a : Addr) (ns : List Int), vs = [.ref a] ∧ SqL K H a (ns.map V.int) ∧ ns.length ≤ 63 ∧ ∀ H', Q (.bl true) H'
end Mb
namespace Mb
open PySem L2
/-! ### promises of what reckons with fractions -/
def spArith (K : PySem.W.Frag) (T B : Int → Int → Int → Int → Int) : Sp := fun vs H Q _ => ∃ (a b : Addr) (x y u v : Int), vs = [.ref a, .ref b] ∧ SqT K H a [.int x, .int y] ∧ SqT K H b [.int u, .int v] ∧ Sm 2000 x ∧ Sm 2000 y ∧ Sm 2000 u ∧ Sm 2000 v ∧ B x y u v ≠ 0 ∧
  ∀ (p : Addr) (H' : Hp), Same H H' → H p = none → H' p = some (.tup [.int (lowT (T x y u v) (B x y u v)), .int (lowB (T x y u v) (B x y u v))]) → Q (.ref p) H'
def spRaw (K : PySem.W.Frag) (T B : Int → Int → Int → Int → Int) : Sp := fun vs H Q _ => ∃ (a b : Addr) (x y u v : Int), vs = [.ref a, .ref b] ∧ SqT K H a [.int x, .int y] ∧ SqT K H b [.int u, .int v] ∧ Sm 2000 x ∧ Sm 2000 y ∧ Sm 2000 u ∧ Sm 2000 v ∧
  ∀ (p : Addr) (H' : Hp), Same H H' → H p = none → H' p = some (.tup [.int (T x y u v), .int (B x y u v)]) → Q (.ref p) H'
def spEven (K : PySem.W.Frag) : Sp := fun vs H Q _ => ∃ (a b : Addr) (x y u v : Int), vs = [.ref a, .ref b] ∧ SqT K H a [.int x, .int y] ∧ SqT K H b [.int u, .int v] ∧ Sm 5000 x ∧ Sm 5000 y ∧ Sm 5000 u ∧ Sm 5000 v ∧ Q (.bl (decide (x * v = u * y))) H
def spWhole : Sp := fun vs H Q _ => ∃ i : Int, vs = [.int i] ∧ Q (.bl true) H
def spIsFrac : Sp := fun vs H Q _ => ∃ (p : Addr) (t u : Int), vs = [.ref p] ∧ H p = some (.tup [.int t, .int u]) ∧ 0 < u ∧ Int.gcd t u = 1 ∧ Q (.bl true) H
end Mb
namespace Mb
open PySem L2
def top (i : Nat) : Stmt := PySem.Challenge.pw_movebook_k02_sums.main.body.getD i (.Pass ⟨0, 0, 0, 0⟩)
abbrev s_common_divisor : Stmt := top 4
theorem sc_common_divisor : FnScope ["one", "other"] ["one", "other"] (defScope s_common_divisor) := ⟨rfl, rfl, rfl, by decide +kernel, rfl, by decide +kernel, by decide +kernel⟩
abbrev s_fraction : Stmt := top 6
theorem sc_fraction : FnScope ["top", "bottom", "divisor"] ["top", "bottom"] (defScope s_fraction) := ⟨rfl, rfl, rfl, by decide +kernel, rfl, by decide +kernel, by decide +kernel⟩
abbrev s_plus : Stmt := top 7
theorem sc_plus : FnScope ["one", "other"] ["one", "other"] (defScope s_plus) := ⟨rfl, rfl, rfl, by decide +kernel, rfl, by decide +kernel, by decide +kernel⟩
abbrev s_minus : Stmt := top 8
theorem sc_minus : FnScope ["one", "other"] ["one", "other"] (defScope s_minus) := ⟨rfl, rfl, rfl, by decide +kernel, rfl, by decide +kernel, by decide +kernel⟩
abbrev s_pool : Stmt := top 10
theorem sc_pool : FnScope ["_law_script", "_law_at", "_law_cell", "_law_digits"] ["_law_script", "_law_at"] (defScope s_pool) := ⟨rfl, rfl, rfl, by decide +kernel, rfl, by decide +kernel, by decide +kernel⟩
abbrev s_take : Stmt := top 11
theorem sc_take : FnScope ["_law_pool_here", "_law_wide_here", "_law_found", "_law_seed"] ["_law_pool_here", "_law_wide_here"] (defScope s_take) := ⟨rfl, rfl, rfl, by decide +kernel, rfl, by decide +kernel, by decide +kernel⟩
abbrev s_gcd : Stmt := top 12
theorem sc_gcd : FnScope ["_law_one", "_law_other"] ["_law_one", "_law_other"] (defScope s_gcd) := ⟨rfl, rfl, rfl, by decide +kernel, rfl, by decide +kernel, by decide +kernel⟩
abbrev s_low : Stmt := top 13
theorem sc_low : FnScope ["_law_top", "_law_bottom", "_law_most"] ["_law_top", "_law_bottom"] (defScope s_low) := ⟨rfl, rfl, rfl, by decide +kernel, rfl, by decide +kernel, by decide +kernel⟩
abbrev s_l_plus : Stmt := top 14
theorem sc_l_plus : FnScope ["_law_one", "_law_other"] ["_law_one", "_law_other"] (defScope s_l_plus) := ⟨rfl, rfl, rfl, by decide +kernel, rfl, by decide +kernel, by decide +kernel⟩
abbrev s_l_less : Stmt := top 15
theorem sc_l_less : FnScope ["_law_one", "_law_other"] ["_law_one", "_law_other"] (defScope s_l_less) := ⟨rfl, rfl, rfl, by decide +kernel, rfl, by decide +kernel, by decide +kernel⟩
abbrev s_even : Stmt := top 16
theorem sc_even : FnScope ["_law_one", "_law_other"] ["_law_one", "_law_other"] (defScope s_even) := ⟨rfl, rfl, rfl, by decide +kernel, rfl, by decide +kernel, by decide +kernel⟩
abbrev s_whole : Stmt := top 17
theorem sc_whole : FnScope ["_law_found"] ["_law_found"] (defScope s_whole) := ⟨rfl, rfl, rfl, by decide +kernel, rfl, by decide +kernel, by decide +kernel⟩
abbrev s_is_frac : Stmt := top 18
theorem sc_is_frac : FnScope ["_law_found"] ["_law_found"] (defScope s_is_frac) := ⟨rfl, rfl, rfl, by decide +kernel, rfl, by decide +kernel, by decide +kernel⟩
abbrev s_number : Stmt := top 19
theorem sc_number : FnScope ["_law_pool_here", "_law_most", "_law_found", "_law_k"] ["_law_pool_here"] (defScope s_number) := ⟨rfl, rfl, rfl, by decide +kernel, rfl, by decide +kernel, by decide +kernel⟩
abbrev s_wide : Stmt := top 20
theorem sc_wide : FnScope ["_law_pool_here", "_law_sign", "_law_top"] ["_law_pool_here"] (defScope s_wide) := ⟨rfl, rfl, rfl, by decide +kernel, rfl, by decide +kernel, by decide +kernel⟩
abbrev s_pair : Stmt := top 21
theorem sc_pair : FnScope ["_law_script", "_law_at", "_law_pool_here", "_law_way", "_law_one", "_law_other", "_law_more"] ["_law_script", "_law_at"] (defScope s_pair) := ⟨rfl, rfl, rfl, by decide +kernel, rfl, by decide +kernel, by decide +kernel⟩
abbrev s_asked : Stmt := top 22
theorem sc_asked : FnScope ["_law_script", "_law_at", "_law_one", "_law_other", "_law_found", "_law_less_found"] ["_law_script", "_law_at"] (defScope s_asked) := ⟨rfl, rfl, rfl, by decide +kernel, rfl, by decide +kernel, by decide +kernel⟩
abbrev s_law : Stmt := top 23
theorem sc_law : FnScope ["_law_script"] ["_law_script"] (defScope s_law) := ⟨rfl, rfl, rfl, by decide +kernel, rfl, by decide +kernel, by decide +kernel⟩
/-! ### the steps of a reading, taken by a word of one's own -/
local macro_rules | `(tactic| walk_at "sm") => `(tactic| first
  | assumption
  | ((with_reducible refine Mb.Sm.mul (m := ?mm) (n := ?nn) ?ga ?gb); (case ga => walk_at "sm"); (case gb => walk_at "sm"))
  | ((with_reducible refine Mb.Sm.addm (m := ?mm) (n := ?nn) ?ga ?gb); (case ga => walk_at "sm"); (case gb => walk_at "sm"))
  | ((with_reducible refine Mb.Sm.subm (m := ?mm) (n := ?nn) ?ga ?gb); (case ga => walk_at "sm"); (case gb => walk_at "sm"))
  | ((with_reducible refine Mb.Sm.neg (n := ?nn) ?ga); (case ga => walk_at "sm"))
  | exact Mb.Sm.lit (by decide)
  | exact Mb.Sm.lit2 (by decide +kernel))
local macro_rules | `(tactic| walk_at "c") => `(tactic| first
  | assumption
  | exact ⟨by decide, by decide, by decide⟩
  | (show (0 : Int) < _; omega)
  | exact Mb.Sm.cdiv (n := 64) (by decide) (by decide)
  | exact Mb.Sm.cmul (by walk_at "sm") (by walk_at "sm"))
local macro_rules | `(tactic| walk_at "st") => `(tactic| first
  | ((with_reducible refine Mb.r_var (v := ?vv) ?hv ?_); (case hv => rfl))
  | with_reducible refine Mb.r_c ?_
  | with_reducible refine Mb.r_op ?_
  | with_reducible refine Mb.r_un ?_
  | with_reducible refine Mb.r_i0 ?_
  | with_reducible refine Mb.r_u ?_
  | with_reducible refine Mb.r_eqI ?_
  | with_reducible refine Mb.r_neI ?_
  | with_reducible refine Mb.r_eqB ?_
  | with_reducible refine Mb.r_eqS ?_
  | with_reducible refine Mb.r_cb ?_
  | with_reducible refine Mb.r_bits ?_
  | with_reducible refine Mb.r_int ?_
  | with_reducible refine Mb.r_nil ?_
  | with_reducible refine Mb.r_cons ?_
  | with_reducible refine Mb.r_tup ?_
  | with_reducible refine Mb.r_lst ?_
  | with_reducible refine Mb.r_call ?_
  | with_reducible refine Mb.r_seqA ?_
  | with_reducible refine Mb.r_seqD ?_
  | with_reducible refine Mb.r_seqP ?_
  | with_reducible refine Mb.r_next ?_
  | with_reducible refine Mb.r_nx ?_
  | with_reducible refine Mb.r_asg ?_
  | ((with_reducible refine Mb.r_gname ?_); dsimp only [List.set])
  | with_reducible refine Mb.r_gsub ?_
  | with_reducible refine Mb.r_ret ?_
  | with_reducible refine Mb.r_drop ?_
  | with_reducible refine Mb.r_ifs ?_
  | with_reducible refine Mb.r_test ?_
  | with_reducible refine Mb.r_tB ?_
  | with_reducible refine Mb.r_bl ?_
  | (dsimp only; (with_reducible refine Mb.r_bl ?_))
  | with_reducible refine Mb.r_and ?_
  | with_reducible refine Mb.r_or ?_
  | with_reducible refine Mb.r_not ?_
  | with_reducible refine Mb.r_andV ?_
  | with_reducible refine Mb.r_orV ?_
  | with_reducible refine Mb.r_notV ?_
  | with_reducible refine Mb.r_par ?_
  | ((with_reducible refine Mb.r_two ?_); dsimp only [List.set])
  | ((with_reducible refine Mb.r_ixL (xs := ?xx) (v := ?vv) ?h1 ?h2 ?_); (case h1 => first | assumption | exact Mb.lstOf (by assumption)); (case h2 => rfl))
  | ((with_reducible refine Mb.r_ixT (xs := ?xx) (v := ?vv) ?h1 ?h2 ?_); (case h1 => first | assumption | exact Mb.tupOf (by assumption)); (case h2 => rfl))
  | ((with_reducible refine Mb.r_i ?c ?_); (case c => walk_at "c"))
  | with_reducible refine Mb.r_T ?_
  | with_reducible refine Mb.r_F ?_
  | with_reducible refine Mb.r_nT ?_
  | with_reducible refine Mb.r_nF ?_)
section
variable {P : Program} {w : World} {K : PySem.W.Frag} {mg : Str → Option Value} {base : Heap}
theorem ok_common_divisor (F : Fn K mg "common_divisor" s_common_divisor) (z_abs : mg "abs" = none) : Kn P w K mg base 1 "common_divisor" ["one", "other"] spGcd := by
  refine F.kn sc_common_divisor (fun vs H Q E h => ?_) (fun f cdv A outer s H vs Q E hr h => ?_) (fun _ _ _ _ _ _ us hl => match us, hl with | [_, _], _ => rfl)
  · obtain ⟨a, b, rfl, _⟩ := h
    rfl
  obtain ⟨a, b, rfl, q⟩ := h
  refine ⟨_, (pss_cons (ps_par (by rfl) sc_common_divisor.nd (i := 0) (j := 1) rfl rfl (by decide) rfl rfl (pa_cons (pe_callB call_abs (by rfl) z_abs (by decide +kernel) (pa_cons (pv 0) pa_nil)) (pa_cons (pe_callB call_abs (by rfl) z_abs (by decide +kernel) (pa_cons (pv 1) pa_nil)) pa_nil)) (by rfl))
    (pss_cons (ps_while PassesOwn.never (pt_cmpR op_ne (pv 1) pe_int (nomark _))
    (pss_one (ps_par (by rfl) sc_common_divisor.nd (i := 0) (j := 1) rfl rfl (by decide) rfl rfl (pa_cons (pv 1) (pa_cons (pe_op op_mod (pv 0) (pv 1)) pa_nil)) (by rfl))))
    (pss_one (ps_ret (pv 0))))), ?_⟩
  show (_ : TS) _ [some (.int a), some (.int b)] _
  repeat walk_at "st"
  refine ⟨a, rfl, ?_⟩
  repeat walk_at "st"
  refine ⟨b, rfl, ?_⟩
  repeat walk_at "st"
  refine r_seq ?_
  refine r_while (fun σ H' => H' = H ∧ ∃ x y : Int, σ = [some (.int x), some (.int y)] ∧ 0 ≤ x ∧ 0 ≤ y ∧ Int.gcd x y = Int.gcd a b) (fun σ _ => match σ with | [_, some (.int y)] => y.toNat | _ => 0) ?_ ?_
  · refine ⟨rfl, _, _, rfl, ?_, ?_, ?_⟩
    · split <;> omega
    · split <;> omega
    · split <;> split <;> simp only [Int.neg_gcd, Int.gcd_neg]
  · rintro σ H' ⟨rfl, x, y, rfl, hx, hy, hg⟩
    repeat walk_at "st"
    refine r_iteN (fun c => ?_) (fun c => ?_)
    · refine r_turn ?_
      repeat walk_at "st"
      have e1 := Int.emod_nonneg x (show y ≠ 0 by omega)
      have e2 := Int.emod_lt_of_pos x (show 0 < y by omega)
      refine ⟨⟨rfl, y, x % y, rfl, hy, e1, by rw [gcd_step hx (by omega), hg]⟩, ?_⟩
      show (x % y).toNat < y.toNat
      omega
    · subst c
      repeat walk_at "st"
      have g : (Int.gcd x 0 : Int) = x := by rw [Int.gcd_zero]; omega
      rw [hg] at g
      show Q (.int x) _
      rw [← g]
      exact q
theorem ok_fraction (F : Fn K mg "fraction" s_fraction) (G_common_divisor : Kn P w K mg base 1 "common_divisor" ["one", "other"] spGcd) : Kn P w K mg base 2 "fraction" ["top", "bottom"] spLow := by
  refine F.kn sc_fraction (fun vs H Q E h => ?_) (fun f cdv A outer s H vs Q E hr h => ?_) (fun _ _ _ _ _ _ us hl => match us, hl with | [_, _], _ => rfl)
  · obtain ⟨t, b, rfl, _⟩ := h
    rfl
  obtain ⟨t, b, rfl, hb, sb, q⟩ := h
  refine ⟨_, (pss_cons (ps_if (pt_cmpR op_eq (pv 1) pe_int (nomark _))
    (pss_one ps_never)
    pss_nil)
    (pss_cons (ps_set (i := 2) sc_fraction.nd rfl (.inl rfl) (pe_kn G_common_divisor (hr.mono (by decide)) (by rfl) (pa_cons (pv 0) (pa_cons (pv 1) pa_nil))))
    (pss_cons (ps_if (pt_cmpR op_lt (pv 1) pe_int (nomark _))
    (pss_one (ps_set (i := 2) sc_fraction.nd rfl (.inl rfl) (pe_un un_neg (pv 2))))
    pss_nil)
    (pss_one (ps_ret (pe_tup (pa_cons (pe_op op_fdivZ (pv 0) (pv 2)) (pa_cons (pe_op op_fdivZ (pv 1) (pv 2)) pa_nil)))))))), ?_⟩
  show (_ : TS) _ [some (.int t), some (.int b), none] _
  have g0 := gcd_pos (t := t) hb
  have gs : Sm 8000 (Int.gcd t b : Int) := gcd_sm hb sb
  refine r_seq ?_
  repeat walk_at "st"
  refine r_ite (fun c => absurd c hb) (fun c => ?_)
  repeat walk_at "st"
  refine ⟨_, _, rfl, ?_⟩
  repeat walk_at "st"
  refine r_cut (fun σ H' => σ = [some (.int t), some (.int b), some (.int (if decide (b < 0) then -(Int.gcd t b : Int) else (Int.gcd t b : Int)))] ∧ H' = H) ?_ (fun N J => ?_)
  · rintro σ H' ⟨rfl, rfl⟩
    have cd : ∀ i : Int, CDivZ i (if decide (b < 0) then -(Int.gcd t b : Int) else (Int.gcd t b : Int)) := fun i => by
      split
      · exact cdivZ (by omega) gs.neg (by decide) (by decide)
      · exact cdivZ (by omega) gs (by decide) (by decide)
    repeat walk_at "st"
    refine r_i (cd _) ?_
    repeat walk_at "st"
    refine r_i (cd _) ?_
    repeat walk_at "st"
    refine ⟨sz rfl, fun p hp => ?_⟩
    refine q p _ (same_new hp _) hp ?_
    rw [upd_same, fdiv_exact (Int.gcd_dvd_left t b), fdiv_exact (Int.gcd_dvd_right t b)]
    unfold lowT lowB
    simp only [decide_eq_true_eq]
  · repeat walk_at "st"
    refine r_ite (fun c => ?_) (fun c => ?_)
    · repeat walk_at "st"
      exact J _ _ ⟨by simp [c], rfl⟩
    · repeat walk_at "st"
      exact J _ _ ⟨by simp [c], rfl⟩
theorem ok_plus (F : Fn K mg "plus" s_plus) (G_fraction : Kn P w K mg base 2 "fraction" ["top", "bottom"] spLow) : Kn P w K mg base 3 "plus" ["one", "other"] (spArith K (fun x y u v => x * v + u * y) (fun x y u v => y * v)) := by
  refine F.kn sc_plus (fun vs H Q E h => ?_) (fun f cdv A outer s H vs Q E hr h => ?_) (fun _ _ _ _ _ _ us hl => match us, hl with | [_, _], _ => rfl)
  · obtain ⟨a, b, x, y, u, v, rfl, _⟩ := h
    rfl
  obtain ⟨a, b, x, y, u, v, rfl, h1, h2, s1, s2, s3, s4, nb, q⟩ := h
  refine ⟨_, (pss_one (ps_ret (pe_kn G_fraction (hr.mono (by decide)) (by rfl) (pa_cons (pe_op op_add (pe_op op_mulW (pe_ix ix_tup (pv 0) pe_int (fun _ _ => rfl)) (pe_ix ix_tup (pv 1) pe_int (fun _ _ => rfl))) (pe_op op_mulW (pe_ix ix_tup (pv 1) pe_int (fun _ _ => rfl)) (pe_ix ix_tup (pv 0) pe_int (fun _ _ => rfl)))) (pa_cons (pe_op op_mulW (pe_ix ix_tup (pv 0) pe_int (fun _ _ => rfl)) (pe_ix ix_tup (pv 1) pe_int (fun _ _ => rfl))) pa_nil))))), ?_⟩
  show (_ : TS) _ [some (.ref a), some (.ref b)] _
  repeat walk_at "st"
  exact ⟨_, _, rfl, nb, (Sm.mul s2 s4).mono (by decide), q⟩
theorem ok_minus (F : Fn K mg "minus" s_minus) (G_fraction : Kn P w K mg base 2 "fraction" ["top", "bottom"] spLow) : Kn P w K mg base 3 "minus" ["one", "other"] (spArith K (fun x y u v => x * v - u * y) (fun x y u v => y * v)) := by
  refine F.kn sc_minus (fun vs H Q E h => ?_) (fun f cdv A outer s H vs Q E hr h => ?_) (fun _ _ _ _ _ _ us hl => match us, hl with | [_, _], _ => rfl)
  · obtain ⟨a, b, x, y, u, v, rfl, _⟩ := h
    rfl
  obtain ⟨a, b, x, y, u, v, rfl, h1, h2, s1, s2, s3, s4, nb, q⟩ := h
  refine ⟨_, (pss_one (ps_ret (pe_kn G_fraction (hr.mono (by decide)) (by rfl) (pa_cons (pe_op op_sub (pe_op op_mulW (pe_ix ix_tup (pv 0) pe_int (fun _ _ => rfl)) (pe_ix ix_tup (pv 1) pe_int (fun _ _ => rfl))) (pe_op op_mulW (pe_ix ix_tup (pv 1) pe_int (fun _ _ => rfl)) (pe_ix ix_tup (pv 0) pe_int (fun _ _ => rfl)))) (pa_cons (pe_op op_mulW (pe_ix ix_tup (pv 0) pe_int (fun _ _ => rfl)) (pe_ix ix_tup (pv 1) pe_int (fun _ _ => rfl))) pa_nil))))), ?_⟩
  show (_ : TS) _ [some (.ref a), some (.ref b)] _
  repeat walk_at "st"
  exact ⟨_, _, rfl, nb, (Sm.mul s2 s4).mono (by decide), q⟩
theorem ok_pool (F : Fn K mg "_law_pool" s_pool) (z_len : mg "len" = none) : Kn P w K mg base 1 "_law_pool" ["_law_script", "_law_at"] (spPool K) := by
  refine F.kn sc_pool (fun vs H Q E h => ?_) (fun f cdv A outer s H vs Q E hr h => ?_) (fun _ _ _ _ _ _ us hl => match us, hl with | [_, _], _ => rfl)
  · obtain ⟨a, ns, i, rfl, _⟩ := h
    rfl
  obtain ⟨a, ns, i, rfl, hS, hl, h0, h1, q⟩ := h
  refine ⟨_, (pss_cons (ps_set (i := 2) sc_pool.nd rfl (.inl rfl) pe_int)
    (pss_cons (ps_if (pt_cmpR op_gt (pe_callB call_len_seq (by rfl) z_len (by decide +kernel) (pa_cons (pv 0) pa_nil)) pe_int (nomark _))
    (pss_one (ps_set (i := 2) sc_pool.nd rfl (.inl rfl) (pe_ix ix_list (pv 0) (pe_op op_mod (pv 1) (pe_callB call_len_seq (by rfl) z_len (by decide +kernel) (pa_cons (pv 0) pa_nil))) (fun _ _ => rfl))))
    pss_nil)
    (pss_cons (ps_set (i := 3) sc_pool.nd rfl (.inl rfl) pe_int)
    (pss_cons (ps_if (PW.pt (pw_and (pt_cmpR op_ge (pv 2) (pe_op op_pow pe_int pe_int) (nomark _)) (pw_and1 (pt_cmpR op_lt (pv 1) (pe_callB call_len_seq (by rfl) z_len (by decide +kernel) (pa_cons (pv 0) pa_nil)) (nomark _)))))
    (pss_one (ps_set (i := 3) sc_pool.nd rfl (.inl rfl) (pv 2)))
    pss_nil)
    (pss_one (ps_ret (pe_lst (pa_cons (pv 3) (pa_cons (pe_op op_mulW pe_int (pv 1)) (pa_cons (pv 2) pa_nil)))))))))), ?_⟩
  show (_ : TS) _ [some (.ref a), some (.int i), none, none] _
  have hz : (ns.map V.int).length = ns.length := List.length_map _
  have si : Sm 64 i := by unfold Sm; omega
  have e18 : ((10 : Int) ^ (18 : Int).toNat) = 1000000000000000000 := by decide
  repeat walk_at "st"
  refine r_cut (fun σ H' => ∃ z : Int, σ = [some (.ref a), some (.int i), some (.int z), none] ∧ H' = H) ?_ (fun N J => ?_)
  · rintro σ H' ⟨z, rfl, rfl⟩
    repeat walk_at "st"
    refine r_cut (fun σ H2 => ∃ x : Int, σ = [some (.ref a), some (.int i), some (.int z), some (.int x)] ∧ H2 = H') ?_ (fun N J => ?_)
    · rintro σ H2 ⟨x, rfl, rfl⟩
      repeat walk_at "st"
      refine ⟨sz rfl, fun p hp => ?_⟩
      exact q p _ (same_new hp _) hp ⟨x, 1000 * i, z, upd_same, by omega, by omega⟩
    · repeat walk_at "st"
      refine r_ite (fun c => ?_) (fun c => ?_)
      · repeat walk_at "st"
        refine ⟨a, _, rfl, .inl hS, ?_⟩
        repeat walk_at "st"
        refine r_ite (fun c => ?_) (fun c => ?_)
        · repeat walk_at "st"
          exact J _ _ ⟨_, rfl, rfl⟩
        · repeat walk_at "st"
          exact J _ _ ⟨_, rfl, rfl⟩
      · repeat walk_at "st"
        exact J _ _ ⟨_, rfl, rfl⟩
  · repeat walk_at "st"
    refine ⟨a, _, rfl, .inl hS, ?_⟩
    repeat walk_at "st"
    refine r_ite (fun c => ?_) (fun c => ?_)
    · repeat walk_at "st"
      refine ⟨a, _, rfl, .inl hS, ?_⟩
      rw [hz] at c
      refine r_i (show (0 : Int) < _ by rw [hz]; omega) ?_
      have hk : (i % ((ns.map V.int).length : Int)).toNat < ns.length := by
        rw [hz]
        have := Int.emod_lt_of_pos i (show (0 : Int) < ns.length by omega)
        omega
      have e : i % ((ns.map V.int).length : Int) = (((i % ((ns.map V.int).length : Int)).toNat : Nat) : Int) := by
        rw [hz]
        have := Int.emod_nonneg i (show (ns.length : Int) ≠ 0 by omega)
        omega
      refine r_ixL hS (at_of e (by rw [List.getElem?_map, List.getElem?_eq_getElem hk]; rfl)) ?_
      repeat walk_at "st"
      exact J _ _ ⟨_, rfl, rfl⟩
    · repeat walk_at "st"
      exact J _ _ ⟨_, rfl, rfl⟩
theorem ok_take (F : Fn K mg "_law_take" s_take) : Kn P w K mg base 1 "_law_take" ["_law_pool_here", "_law_wide_here"] spTake := by
  refine F.kn sc_take (fun vs H Q E h => ?_) (fun f cdv A outer s H vs Q E hr h => ?_) (fun _ _ _ _ _ _ us hl => match us, hl with | [_, _], _ => rfl)
  · obtain ⟨p, k, b, rfl, _⟩ := h
    rfl
  obtain ⟨p, k, b, rfl, ⟨x, y, z, hp, y0, y1⟩, hb, hk, hk2, q⟩ := h
  refine ⟨_, (pss_cons (ps_if (pt_cmpR op_gt (pe_ix ix_list (pv 0) pe_int (fun _ _ => rfl)) pe_int (nomark _))
    (pss_cons (ps_set (i := 2) sc_take.nd rfl (.inl rfl) (pe_op op_mod (pe_ix ix_list (pv 0) pe_int (fun _ _ => rfl)) (pv 1)))
    (pss_cons (ps_asg (pe_op op_fdivW (pe_ix ix_list (pv 0) pe_int (fun _ _ => rfl)) (pv 1)) (pg_sub (pv 0) pe_int set_list))
    (pss_one (ps_ret (pv 2)))))
    pss_nil)
    (pss_cons (ps_asg (pe_op op_add (pe_ix ix_list (pv 0) pe_int (fun _ _ => rfl)) pe_int) (pg_sub (pv 0) pe_int set_list))
    (pss_cons (ps_set (i := 3) sc_take.nd rfl (.inl rfl) (pe_op op_mod (pe_op op_pow (pe_op op_add (pe_op op_mod (pe_ix ix_list (pv 0) pe_int (fun _ _ => rfl)) pe_int) (pe_op op_mulW pe_int (pe_ix ix_list (pv 0) pe_int (fun _ _ => rfl)))) pe_int) pe_int))
    (pss_cons (ps_set (i := 3) sc_take.nd rfl (.inl rfl) (pe_op op_add (pe_op op_mulW (pv 3) pe_int) (pe_op op_mulW (pe_op op_mulW (pe_ix ix_list (pv 0) pe_int (fun _ _ => rfl)) (pe_ix ix_list (pv 0) pe_int (fun _ _ => rfl))) pe_int)))
    (pss_one (ps_ret (pe_op op_mod (pe_op op_fdivW (pe_op op_mod (pe_op op_add (pv 3) (pe_op op_fdivW (pe_ix ix_list (pv 0) pe_int (fun _ _ => rfl)) pe_int)) pe_int) pe_int) (pv 1)))))))), ?_⟩
  show (_ : TS) _ [some (.ref p), some (.int k), none, none] _
  have sk : Sm 64 k := by unfold Sm; omega
  have sy : Sm 64 (y + 1) := by unfold Sm; omega
  have m0 : ∀ i : Int, 0 ≤ i % k := fun i => Int.emod_nonneg i (by omega)
  have m1 : ∀ i : Int, i % k < k := fun i => Int.emod_lt_of_pos i (by omega)
  refine r_seq ?_
  repeat walk_at "st"
  refine r_ite (fun c => ?_) (fun c => ?_)
  · repeat walk_at "st"
    refine r_i (Sm.cdiv (by omega) sk) ?_
    repeat walk_at "st"
    refine r_setL hp rfl ?_
    repeat walk_at "st"
    exact q _ _ (But.upd _ _ _) ⟨_, y, z, upd_same, y0, by omega⟩ (m0 _) (m1 _)
  · repeat walk_at "st"
    refine r_setL hp rfl ?_
    dsimp only [List.set]
    have hp2 : (upd H p (.lst [.int x, .int (y + 1), .int z])) p = some (.lst [.int x, .int (y + 1), .int z]) := upd_same
    have e1 := Int.emod_nonneg z (show (2147483647 : Int) ≠ 0 by decide)
    have e2 := Int.emod_lt_of_pos z (show (0 : Int) < 2147483647 by decide)
    generalize hz : z % 2147483647 = z' at e1 e2
    repeat walk_at "st"
    rw [hz]
    refine r_i ⟨by decide, by decide, by omega⟩ ?_
    repeat walk_at "st"
    generalize hs : (z' + 40503 * (y + 1)) ^ Int.toNat 5 % 2147483647 = sd
    have e3 : 0 ≤ sd := by rw [← hs]; exact Int.emod_nonneg _ (by decide)
    have e4 : sd < 2147483647 := by rw [← hs]; exact Int.emod_lt_of_pos _ (by decide)
    have ss : Sm 64 sd := by unfold Sm; omega
    repeat walk_at "st"
    exact q _ _ (But.upd _ _ _) ⟨x, y + 1, z, upd_same, by omega, by omega⟩ (m0 _) (m1 _)
theorem ok_gcd (F : Fn K mg "_law_gcd" s_gcd) (z_abs : mg "abs" = none) : Kn P w K mg base 1 "_law_gcd" ["_law_one", "_law_other"] spGcd := by
  refine F.kn sc_gcd (fun vs H Q E h => ?_) (fun f cdv A outer s H vs Q E hr h => ?_) (fun _ _ _ _ _ _ us hl => match us, hl with | [_, _], _ => rfl)
  · obtain ⟨a, b, rfl, _⟩ := h
    rfl
  obtain ⟨a, b, rfl, q⟩ := h
  refine ⟨_, (pss_cons (ps_set (i := 0) sc_gcd.nd rfl (.inl rfl) (pe_callB call_abs (by rfl) z_abs (by decide +kernel) (pa_cons (pv 0) pa_nil)))
    (pss_cons (ps_set (i := 1) sc_gcd.nd rfl (.inl rfl) (pe_callB call_abs (by rfl) z_abs (by decide +kernel) (pa_cons (pv 1) pa_nil)))
    (pss_cons (ps_while PassesOwn.never (pt_cmpR op_gt (pv 1) pe_int (nomark _))
    (pss_one (ps_par (by rfl) sc_gcd.nd (i := 0) (j := 1) rfl rfl (by decide) rfl rfl (pa_cons (pv 1) (pa_cons (pe_op op_mod (pv 0) (pv 1)) pa_nil)) (by rfl))))
    (pss_one (ps_ret (pv 0)))))), ?_⟩
  show (_ : TS) _ [some (.int a), some (.int b)] _
  repeat walk_at "st"
  refine ⟨a, rfl, ?_⟩
  repeat walk_at "st"
  refine ⟨b, rfl, ?_⟩
  repeat walk_at "st"
  refine r_seq ?_
  refine r_while (fun σ H' => H' = H ∧ ∃ x y : Int, σ = [some (.int x), some (.int y)] ∧ 0 ≤ x ∧ 0 ≤ y ∧ Int.gcd x y = Int.gcd a b) (fun σ _ => match σ with | [_, some (.int y)] => y.toNat | _ => 0) ?_ ?_
  · refine ⟨rfl, _, _, rfl, ?_, ?_, ?_⟩
    · split <;> omega
    · split <;> omega
    · split <;> split <;> simp only [Int.neg_gcd, Int.gcd_neg]
  · rintro σ H' ⟨rfl, x, y, rfl, hx, hy, hg⟩
    repeat walk_at "st"
    refine r_ite (fun c => ?_) (fun c => ?_)
    · refine r_turn ?_
      repeat walk_at "st"
      have e1 := Int.emod_nonneg x (show y ≠ 0 by omega)
      have e2 := Int.emod_lt_of_pos x (show 0 < y by omega)
      refine ⟨⟨rfl, y, x % y, rfl, hy, e1, by rw [gcd_step hx c, hg]⟩, ?_⟩
      show (x % y).toNat < y.toNat
      omega
    · have e : y = 0 := by omega
      subst e
      repeat walk_at "st"
      have g : (Int.gcd x 0 : Int) = x := by rw [Int.gcd_zero]; omega
      rw [hg] at g
      show Q (.int x) _
      rw [← g]
      exact q
theorem ok_low (F : Fn K mg "_law_low" s_low) (G_gcd : Kn P w K mg base 1 "_law_gcd" ["_law_one", "_law_other"] spGcd) : Kn P w K mg base 2 "_law_low" ["_law_top", "_law_bottom"] spLow := by
  refine F.kn sc_low (fun vs H Q E h => ?_) (fun f cdv A outer s H vs Q E hr h => ?_) (fun _ _ _ _ _ _ us hl => match us, hl with | [_, _], _ => rfl)
  · obtain ⟨t, b, rfl, _⟩ := h
    rfl
  obtain ⟨t, b, rfl, hb, sb, q⟩ := h
  refine ⟨_, (pss_cons (ps_if (pt_cmpR op_lt (pv 1) pe_int (nomark _))
    (pss_one (ps_par (by rfl) sc_low.nd (i := 0) (j := 1) rfl rfl (by decide) rfl rfl (pa_cons (pe_un un_neg (pv 0)) (pa_cons (pe_un un_neg (pv 1)) pa_nil)) (by rfl)))
    pss_nil)
    (pss_cons (ps_set (i := 2) sc_low.nd rfl (.inl rfl) (pe_kn G_gcd (hr.mono (by decide)) (by rfl) (pa_cons (pv 0) (pa_cons (pv 1) pa_nil))))
    (pss_one (ps_ret (pe_tup (pa_cons (pe_op op_fdivW (pv 0) (pv 2)) (pa_cons (pe_op op_fdivW (pv 1) (pv 2)) pa_nil))))))), ?_⟩
  show (_ : TS) _ [some (.int t), some (.int b), none] _
  have g0 := gcd_pos (t := t) hb
  have gs : Sm 8000 (Int.gcd t b : Int) := sb.le (by
    have : (Int.gcd t b : Int) ∣ b := Int.gcd_dvd_right t b
    have := Int.le_of_dvd (show 0 < (b.natAbs : Int) by omega) (Int.dvd_natAbs.mpr this)
    omega)
  refine r_cut (fun σ H' => σ = [some (.int (if b < 0 then -t else t)), some (.int (if b < 0 then -b else b)), none] ∧ H' = H) ?_ (fun N J => ?_)
  · rintro σ H' ⟨rfl, rfl⟩
    repeat walk_at "st"
    refine ⟨_, _, rfl, ?_⟩
    have e : Int.gcd (if b < 0 then -t else t) (if b < 0 then -b else b) = Int.gcd t b := by
      split
      · rw [Int.neg_gcd, Int.gcd_neg]
      · rfl
    rw [e]
    repeat walk_at "st"
    refine r_i (Sm.cdiv g0 gs) ?_
    repeat walk_at "st"
    refine r_i (Sm.cdiv g0 gs) ?_
    repeat walk_at "st"
    refine ⟨sz rfl, fun p hp => ?_⟩
    exact q p _ (same_new hp _) hp upd_same
  · repeat walk_at "st"
    refine r_ite (fun c => ?_) (fun c => ?_)
    · repeat walk_at "st"
      exact J _ _ ⟨by rw [if_pos c, if_pos c], rfl⟩
    · repeat walk_at "st"
      exact J _ _ ⟨by rw [if_neg c, if_neg c], rfl⟩
theorem ok_l_plus (F : Fn K mg "_law_plus" s_l_plus) : Kn P w K mg base 1 "_law_plus" ["_law_one", "_law_other"] (spRaw K (fun x y u v => x * v + u * y) (fun x y u v => y * v)) := by
  refine F.kn sc_l_plus (fun vs H Q E h => ?_) (fun f cdv A outer s H vs Q E hr h => ?_) (fun _ _ _ _ _ _ us hl => match us, hl with | [_, _], _ => rfl)
  · obtain ⟨a, b, x, y, u, v, rfl, _⟩ := h
    rfl
  obtain ⟨a, b, x, y, u, v, rfl, h1, h2, s1, s2, s3, s4, q⟩ := h
  refine ⟨_, (pss_one (ps_ret (pe_tup (pa_cons (pe_op op_add (pe_op op_mulW (pe_ix ix_tup (pv 0) pe_int (fun _ _ => rfl)) (pe_ix ix_tup (pv 1) pe_int (fun _ _ => rfl))) (pe_op op_mulW (pe_ix ix_tup (pv 1) pe_int (fun _ _ => rfl)) (pe_ix ix_tup (pv 0) pe_int (fun _ _ => rfl)))) (pa_cons (pe_op op_mulW (pe_ix ix_tup (pv 0) pe_int (fun _ _ => rfl)) (pe_ix ix_tup (pv 1) pe_int (fun _ _ => rfl))) pa_nil))))), ?_⟩
  show (_ : TS) _ [some (.ref a), some (.ref b)] _
  repeat walk_at "st"
  refine ⟨sz rfl, fun p hp => ?_⟩
  exact q p _ (same_new hp _) hp upd_same
theorem ok_l_less (F : Fn K mg "_law_less" s_l_less) : Kn P w K mg base 1 "_law_less" ["_law_one", "_law_other"] (spRaw K (fun x y u v => x * v - u * y) (fun x y u v => y * v)) := by
  refine F.kn sc_l_less (fun vs H Q E h => ?_) (fun f cdv A outer s H vs Q E hr h => ?_) (fun _ _ _ _ _ _ us hl => match us, hl with | [_, _], _ => rfl)
  · obtain ⟨a, b, x, y, u, v, rfl, _⟩ := h
    rfl
  obtain ⟨a, b, x, y, u, v, rfl, h1, h2, s1, s2, s3, s4, q⟩ := h
  refine ⟨_, (pss_one (ps_ret (pe_tup (pa_cons (pe_op op_sub (pe_op op_mulW (pe_ix ix_tup (pv 0) pe_int (fun _ _ => rfl)) (pe_ix ix_tup (pv 1) pe_int (fun _ _ => rfl))) (pe_op op_mulW (pe_ix ix_tup (pv 1) pe_int (fun _ _ => rfl)) (pe_ix ix_tup (pv 0) pe_int (fun _ _ => rfl)))) (pa_cons (pe_op op_mulW (pe_ix ix_tup (pv 0) pe_int (fun _ _ => rfl)) (pe_ix ix_tup (pv 1) pe_int (fun _ _ => rfl))) pa_nil))))), ?_⟩
  show (_ : TS) _ [some (.ref a), some (.ref b)] _
  repeat walk_at "st"
  refine ⟨sz rfl, fun p hp => ?_⟩
  exact q p _ (same_new hp _) hp upd_same
theorem ok_even (F : Fn K mg "_law_even" s_even) : Kn P w K mg base 1 "_law_even" ["_law_one", "_law_other"] (spEven K) := by
  refine F.kn sc_even (fun vs H Q E h => ?_) (fun f cdv A outer s H vs Q E hr h => ?_) (fun _ _ _ _ _ _ us hl => match us, hl with | [_, _], _ => rfl)
  · obtain ⟨a, b, x, y, u, v, rfl, _⟩ := h
    rfl
  obtain ⟨a, b, x, y, u, v, rfl, h1, h2, s1, s2, s3, s4, q⟩ := h
  refine ⟨_, (pss_one (ps_ret (pe_cmpR op_eq (pe_op op_mulW (pe_ix ix_tup (pv 0) pe_int (fun _ _ => rfl)) (pe_ix ix_tup (pv 1) pe_int (fun _ _ => rfl))) (pe_op op_mulW (pe_ix ix_tup (pv 1) pe_int (fun _ _ => rfl)) (pe_ix ix_tup (pv 0) pe_int (fun _ _ => rfl))) (nomark _)))), ?_⟩
  show (_ : TS) _ [some (.ref a), some (.ref b)] _
  repeat walk_at "st"
  exact q
theorem ok_whole (F : Fn K mg "_law_whole" s_whole) (z_isinstance : mg "isinstance" = none) (z_int : mg "int" = none) (z_bool : mg "bool" = none) : Kn P w K mg base 1 "_law_whole" ["_law_found"] spWhole := by
  refine F.kn sc_whole (fun vs H Q E h => ?_) (fun f cdv A outer s H vs Q E hr h => ?_) (fun _ _ _ _ _ _ us hl => match us, hl with | [_], _ => rfl)
  · obtain ⟨i, rfl, _⟩ := h
    rfl
  obtain ⟨i, rfl, q⟩ := h
  refine ⟨_, (pss_one (ps_ret (pe_and (pe_callB call_isi (by rfl) z_isinstance (by decide +kernel) (pa_cons (pv 0) (pa_cons (pe_bltn (v := .ty "int") (by rfl) z_int (by decide +kernel) rfl) pa_nil))) (pe_one (pe_not (pe_callB call_isi (by rfl) z_isinstance (by decide +kernel) (pa_cons (pv 0) (pa_cons (pe_bltn (v := .ty "bool") (by rfl) z_bool (by decide +kernel) rfl) pa_nil)))))))), ?_⟩
  show (_ : TS) _ [some (.int i)] _
  repeat walk_at "st"
  refine r_isi (r := true) (.base (.int _)) (by decide +kernel) ?_
  repeat walk_at "st"
  refine r_isi (r := false) (.base (.int _)) (by decide +kernel) ?_
  repeat walk_at "st"
  exact q
theorem ok_is_frac (F : Fn K mg "_law_is_frac" s_is_frac) (G_whole : Kn P w K mg base 1 "_law_whole" ["_law_found"] spWhole) (G_gcd : Kn P w K mg base 1 "_law_gcd" ["_law_one", "_law_other"] spGcd) (z_isinstance : mg "isinstance" = none) (z_tuple : mg "tuple" = none) (z_len : mg "len" = none) : Kn P w K mg base 2 "_law_is_frac" ["_law_found"] spIsFrac := by
  refine F.kn sc_is_frac (fun vs H Q E h => ?_) (fun f cdv A outer s H vs Q E hr h => ?_) (fun _ _ _ _ _ _ us hl => match us, hl with | [_], _ => rfl)
  · obtain ⟨p, t, u, rfl, _⟩ := h
    rfl
  obtain ⟨p, t, u, rfl, hp, u0, g, q⟩ := h
  refine ⟨_, (pss_cons (ps_if (PW.pt (pw_or (pt_not (pt_val (pe_callB call_isi (by rfl) z_isinstance (by decide +kernel) (pa_cons (pv 0) (pa_cons (pe_bltn (v := .ty "tuple") (by rfl) z_tuple (by decide +kernel) rfl) pa_nil))))) (pw_or1 (pt_cmpR op_ne (pe_callB call_len_seq (by rfl) z_len (by decide +kernel) (pa_cons (pv 0) pa_nil)) pe_int (nomark _)))))
    (pss_one (ps_ret pe_bl))
    pss_nil)
    (pss_cons (ps_if (PW.pt (pw_or (pt_not (pt_val (pe_kn G_whole (hr.mono (by decide)) (by rfl) (pa_cons (pe_ix ix_tup (pv 0) pe_int (fun _ _ => rfl)) pa_nil)))) (pw_or (pt_not (pt_val (pe_kn G_whole (hr.mono (by decide)) (by rfl) (pa_cons (pe_ix ix_tup (pv 0) pe_int (fun _ _ => rfl)) pa_nil)))) (pw_or1 (pt_cmpR op_lt (pe_ix ix_tup (pv 0) pe_int (fun _ _ => rfl)) pe_int (nomark _))))))
    (pss_one (ps_ret pe_bl))
    pss_nil)
    (pss_one (ps_ret (pe_cmpR op_eq (pe_kn G_gcd (hr.mono (by decide)) (by rfl) (pa_cons (pe_ix ix_tup (pv 0) pe_int (fun _ _ => rfl)) (pa_cons (pe_ix ix_tup (pv 0) pe_int (fun _ _ => rfl)) pa_nil))) pe_int (nomark _)))))), ?_⟩
  show (_ : TS) _ [some (.ref p)] _
  refine r_seq ?_
  repeat walk_at "st"
  refine r_isi (r := true) (.base (.tup hp)) (by decide +kernel) ?_
  repeat walk_at "st"
  refine ⟨p, _, rfl, .inr (tupOf hp), ?_⟩
  repeat walk_at "st"
  refine r_iteN (fun c => ?_) (fun c => ?_)
  · exact absurd rfl c
  repeat walk_at "st"
  refine r_seq ?_
  repeat walk_at "st"
  refine ⟨_, rfl, ?_⟩
  repeat walk_at "st"
  refine ⟨_, rfl, ?_⟩
  repeat walk_at "st"
  refine r_ite (fun c => ?_) (fun c => ?_)
  · omega
  repeat walk_at "st"
  refine ⟨_, _, rfl, ?_⟩
  rw [g]
  repeat walk_at "st"
  exact q
theorem ok_number (F : Fn K mg "_law_number" s_number) (G_take : Kn P w K mg base 1 "_law_take" ["_law_pool_here", "_law_wide_here"] spTake) (z_range : mg "range" = none) : Kn P w K mg base 2 "_law_number" ["_law_pool_here"] spNumber := by
  refine F.kn sc_number (fun vs H Q E h => ?_) (fun f cdv A outer s H vs Q E hr h => ?_) (fun _ _ _ _ _ _ us hl => match us, hl with | [_], _ => rfl)
  · obtain ⟨p, b, rfl, _⟩ := h
    rfl
  obtain ⟨p, b, rfl, hp, hb, q⟩ := h
  refine ⟨_, (pss_cons (ps_set (i := 1) sc_number.nd rfl (.inl rfl) (pe_ix ix_list (pe_lst (pa_cons pe_int (pa_cons pe_int (pa_cons pe_int (pa_cons (pe_op op_pow pe_int pe_int) (pa_cons (pe_op op_pow pe_int pe_int) (pa_cons (pe_op op_pow pe_int pe_int) (pa_cons (pe_op op_pow pe_int pe_int) pa_nil)))))))) (pe_kn G_take (hr.mono (by decide)) (by rfl) (pa_cons (pv 0) (pa_cons pe_int pa_nil))) (fun _ _ => rfl)))
    (pss_cons (ps_set (i := 2) sc_number.nd rfl (.inl rfl) pe_int)
    (pss_cons (ps_for PassesOwn.never rfl (pi_range1 (by rfl) z_range (pa_cons pe_int pa_nil)) (pg_name (i := 3) sc_number.nd rfl (.inl rfl))
    (pss_one (ps_set (i := 2) sc_number.nd rfl (.inl rfl) (pe_op op_add (pe_op op_add (pe_op op_mulW (pv 2) pe_int) (pe_op op_mulW (pe_kn G_take (hr.mono (by decide)) (by rfl) (pa_cons (pv 0) (pa_cons pe_int pa_nil))) pe_int)) (pe_kn G_take (hr.mono (by decide)) (by rfl) (pa_cons (pv 0) (pa_cons pe_int pa_nil)))))))
    (pss_one (ps_ret (pe_op op_mod (pv 2) (pv 1))))))), ?_⟩
  show (_ : TS) _ [some (.ref p), none, none, none] _
  repeat walk_at "st"
  refine ⟨sz rfl, fun l hl => ?_⟩
  have sl := same_new hl (.lst [V.int (10), V.int (100), V.int (1000), V.int (10 ^ Int.toNat 9), V.int (10 ^ Int.toNat 18), V.int (10 ^ Int.toNat 30), V.int (10 ^ Int.toNat 60)])
  repeat walk_at "st"
  refine ⟨p, _, b, rfl, hp.same sl, by omega, by decide, by decide, fun r H1 b1 hp1 r0 r1 => ?_⟩
  obtain ⟨m, am, m0, ms⟩ : ∃ m : Int, atI [V.int (10), V.int (100), V.int (1000), V.int (10 ^ Int.toNat 9), V.int (10 ^ Int.toNat 18), V.int (10 ^ Int.toNat 30), V.int (10 ^ Int.toNat 60)] r = some (.int m) ∧ 0 < m ∧ Sm 210 m := by
    have : r = 0 ∨ r = 1 ∨ r = 2 ∨ r = 3 ∨ r = 4 ∨ r = 5 ∨ r = 6 := by omega
    rcases this with rfl | rfl | rfl | rfl | rfl | rfl | rfl
    all_goals exact ⟨_, rfl, by decide, by decide⟩
  have npl : l ≠ p := fun z => by
    obtain ⟨_, _, _, h1, _⟩ := hp
    rw [z] at hl
    rw [hl] at h1
    cases h1
  refine r_ixL (lstOf (b1 l _ npl upd_same)) am ?_
  repeat walk_at "st"
  have b2 : But p H H1 := (But.same sl).trans b1
  refine r_seq ?_
  refine ⟨_, rfl, by decide, by decide, for_range (n := 8) (fun i σ H' => But p H H' ∧ Pl H' p (b + 1 + 2 * i) ∧ ∃ (f : Int) (y : Option V), σ = [some (.ref p), some (.int m), some (.int f), y] ∧ 0 ≤ f ∧ Sm (128 * i + 1) f) ⟨b2, hp1.mono (by omega), 0, _, rfl, by decide, by decide⟩ ?_ ?_⟩
  · rintro i σ H' hi ⟨b3, hp3, f, y, rfl, f0, fs⟩
    repeat walk_at "st"
    refine r_i (wide_mul fs (show (100000007 : Int).natAbs < 2 ^ 27 by decide) (by omega) (by decide) (by omega)) ?_
    repeat walk_at "st"
    refine ⟨p, _, _, rfl, hp3, by omega, by decide, by decide, fun r2 H2 b4 hp4 r20 r21 => ?_⟩
    have s2 : Sm 64 r2 := by unfold Sm; omega
    repeat walk_at "st"
    refine ⟨p, _, _, rfl, hp4, by omega, by decide, by decide, fun r3 H3 b5 hp5 r30 r31 => ?_⟩
    repeat walk_at "st"
    refine ⟨(b3.trans b4).trans b5, hp5.mono (by omega), _, _, rfl, by omega, ?_⟩
    have s3 : Sm 64 r3 := by unfold Sm; omega
    have t1 : Sm (128 * i + 1 + 27) (f * 100000007) := Sm.mul (n := 27) fs (by decide)
    have t2 : Sm 76 (r2 * 2236) := Sm.mul (n := 12) s2 (by decide)
    have t3 := (t1.addm t2).addm s3
    exact t3.mono (by omega)
  · rintro σ H' ⟨b3, hp3, f, y, rfl, f0, fs⟩
    repeat walk_at "st"
    have e1 := Int.emod_nonneg f (show m ≠ 0 by omega)
    have e2 := Int.emod_lt_of_pos f m0
    exact q _ _ b3 (hp3.mono (by omega)) e1 (ms.le (by omega))
theorem ok_wide (F : Fn K mg "_law_wide" s_wide) (G_take : Kn P w K mg base 1 "_law_take" ["_law_pool_here", "_law_wide_here"] spTake) (G_number : Kn P w K mg base 2 "_law_number" ["_law_pool_here"] spNumber) (G_low : Kn P w K mg base 2 "_law_low" ["_law_top", "_law_bottom"] spLow) (z_max : mg "max" = none) : Kn P w K mg base 3 "_law_wide" ["_law_pool_here"] spWide := by
  refine F.kn sc_wide (fun vs H Q E h => ?_) (fun f cdv A outer s H vs Q E hr h => ?_) (fun _ _ _ _ _ _ us hl => match us, hl with | [_], _ => rfl)
  · obtain ⟨p, b, rfl, _⟩ := h
    rfl
  obtain ⟨p, b, rfl, hp, hb, q⟩ := h
  refine ⟨_, (pss_cons (ps_set (i := 1) sc_wide.nd rfl (.inl rfl) (pe_op op_sub pe_int (pe_op op_mulW pe_int (pe_kn G_take (hr.mono (by decide)) (by rfl) (pa_cons (pv 0) (pa_cons pe_int pa_nil))))))
    (pss_cons (ps_set (i := 2) sc_wide.nd rfl (.inl rfl) (pe_kn G_number (hr.mono (by decide)) (by rfl) (pa_cons (pv 0) pa_nil)))
    (pss_one (ps_ret (pe_kn G_low (hr.mono (by decide)) (by rfl) (pa_cons (pe_op op_mulW (pv 1) (pv 2)) (pa_cons (pe_callB (call_max2 (by rfl)) (by rfl) z_max (by decide +kernel) (pa_cons pe_int (pa_cons (pe_kn G_number (hr.mono (by decide)) (by rfl) (pa_cons (pv 0) pa_nil)) pa_nil))) pa_nil))))))), ?_⟩
  show (_ : TS) _ [some (.ref p), none, none] _
  repeat walk_at "st"
  refine ⟨p, _, b, rfl, hp, by omega, by decide, by decide, fun r H1 b1 hp1 r0 r1 => ?_⟩
  have sr : Sm 1 r := by unfold Sm; omega
  repeat walk_at "st"
  refine ⟨p, _, rfl, hp1, by omega, fun t H2 b2 hp2 t0 ts => ?_⟩
  have ss : Sm 2 (1 - 2 * r) := by unfold Sm; omega
  have sa : (1 - 2 * r).natAbs = 1 := by omega
  repeat walk_at "st"
  refine ⟨p, _, rfl, hp2, by omega, fun u H3 b3 hp3 u0 us => ?_⟩
  repeat walk_at "st"
  refine ⟨_, _, rfl, ?_⟩
  have hx : 0 < (if u > 1 then u else 1) := by split <;> omega
  have hs : Sm 210 (if u > 1 then u else 1) := by
    split
    · exact us
    · decide
  generalize (if u > 1 then u else 1) = x at hx hs
  repeat walk_at "st"
  refine ⟨_, x, rfl, by omega, hs.mono (by decide), fun o H4 s4 n4 h4 => ?_⟩
  have nx : x ≠ 0 := by omega
  refine q o _ _ H4 (((b1.trans b2).trans b3).trans (But.same s4)) ((hp3.same s4).mono (by omega)) h4 ⟨lowB_pos nx, low_gcd nx, ?_, ?_⟩
  · refine Sm.le (j := t) (ts.mono (by decide)) (Nat.le_trans (lowT_le nx) ?_)
    rw [Int.natAbs_mul, sa, Nat.one_mul]
    exact Nat.le_refl _
  · exact Sm.le (j := x) (hs.mono (by decide)) (lowB_le nx)
theorem ok_pair (F : Fn K mg "_law_pair" s_pair) (G_pool : Kn P w K mg base 1 "_law_pool" ["_law_script", "_law_at"] (spPool K)) (G_take : Kn P w K mg base 1 "_law_take" ["_law_pool_here", "_law_wide_here"] spTake) (G_wide : Kn P w K mg base 3 "_law_wide" ["_law_pool_here"] spWide) (G_low : Kn P w K mg base 2 "_law_low" ["_law_top", "_law_bottom"] spLow) (z_abs : mg "abs" = none) : Kn P w K mg base 4 "_law_pair" ["_law_script", "_law_at"] (spPair K) := by
  refine F.kn sc_pair (fun vs H Q E h => ?_) (fun f cdv A outer s H vs Q E hr h => ?_) (fun _ _ _ _ _ _ us hl => match us, hl with | [_, _], _ => rfl)
  · obtain ⟨a, ns, i, rfl, _⟩ := h
    rfl
  obtain ⟨a, ns, i, rfl, hS, hl, h0, h1, q⟩ := h
  refine ⟨_, (pss_cons (ps_set (i := 2) sc_pair.nd rfl (.inl rfl) (pe_kn G_pool (hr.mono (by decide)) (by rfl) (pa_cons (pv 0) (pa_cons (pv 1) pa_nil))))
    (pss_cons (ps_set (i := 3) sc_pair.nd rfl (.inl rfl) (pe_kn G_take (hr.mono (by decide)) (by rfl) (pa_cons (pv 2) (pa_cons pe_int pa_nil))))
    (pss_cons (ps_set (i := 4) sc_pair.nd rfl (.inl rfl) (pe_kn G_wide (hr.mono (by decide)) (by rfl) (pa_cons (pv 2) pa_nil)))
    (pss_cons (ps_set (i := 5) sc_pair.nd rfl (.inl rfl) (pe_kn G_wide (hr.mono (by decide)) (by rfl) (pa_cons (pe_kn G_pool (hr.mono (by decide)) (by rfl) (pa_cons (pv 0) (pa_cons (pe_op op_add (pv 1) pe_int) pa_nil))) pa_nil)))
    (pss_cons (ps_if (pt_cmpR op_eq (pv 3) pe_int (nomark _))
    (pss_one (ps_set (i := 5) sc_pair.nd rfl (.inl rfl) (pv 4)))
    pss_nil)
    (pss_cons (ps_if (pt_cmpR op_eq (pv 3) pe_int (nomark _))
    (pss_one (ps_set (i := 5) sc_pair.nd rfl (.inl rfl) (pe_tup (pa_cons (pe_un un_neg (pe_ix ix_tup (pv 4) pe_int (fun _ _ => rfl))) (pa_cons (pe_ix ix_tup (pv 4) pe_int (fun _ _ => rfl)) pa_nil)))))
    pss_nil)
    (pss_cons (ps_if (pt_cmpR op_eq (pv 3) pe_int (nomark _))
    (pss_one (ps_set (i := 5) sc_pair.nd rfl (.inl rfl) (pe_tup (pa_cons pe_int (pa_cons pe_int pa_nil)))))
    pss_nil)
    (pss_cons (ps_set (i := 6) sc_pair.nd rfl (.inl rfl) (pe_op op_sub (pe_op op_add (pe_ix ix_tup (pv 4) pe_int (fun _ _ => rfl)) pe_int) (pe_op op_mulW pe_int (pe_kn G_take (hr.mono (by decide)) (by rfl) (pa_cons (pv 2) (pa_cons pe_int pa_nil))))))
    (pss_cons (ps_if (PW.pt (pw_and (pt_cmpR op_eq (pv 3) pe_int (nomark _)) (pw_and1 (pt_cmpR op_lt (pe_callB call_abs (by rfl) z_abs (by decide +kernel) (pa_cons (pv 6) pa_nil)) (pe_op op_pow pe_int pe_int) (nomark _)))))
    (pss_one (ps_set (i := 5) sc_pair.nd rfl (.inl rfl) (pe_kn G_low (hr.mono (by decide)) (by rfl) (pa_cons (pv 6) (pa_cons (pe_ix ix_tup (pv 4) pe_int (fun _ _ => rfl)) pa_nil)))))
    pss_nil)
    (pss_cons (ps_if (pt_cmpR op_eq (pv 3) pe_int (nomark _))
    (pss_one (ps_set (i := 5) sc_pair.nd rfl (.inl rfl) (pe_tup (pa_cons (pe_ix ix_tup (pv 5) pe_int (fun _ _ => rfl)) (pa_cons pe_int pa_nil)))))
    pss_nil)
    (pss_cons (ps_if (pt_cmpR op_eq (pe_kn G_take (hr.mono (by decide)) (by rfl) (pa_cons (pv 2) (pa_cons pe_int pa_nil))) pe_int (nomark _))
    (pss_one (ps_ret (pe_tup (pa_cons (pv 5) (pa_cons (pv 4) pa_nil)))))
    pss_nil)
    (pss_one (ps_ret (pe_tup (pa_cons (pv 4) (pa_cons (pv 5) pa_nil)))))))))))))))), ?_⟩
  show (_ : TS) _ [some (.ref a), some (.int i), none, none, none, none, none] _
  repeat walk_at "st"
  refine ⟨a, ns, i, rfl, hS, hl, h0, by omega, fun p H1 g1 np hp => ?_⟩
  repeat walk_at "st"
  refine ⟨p, _, _, rfl, hp, by omega, by decide, by decide, fun wy H2 b2 hp2 w0 w1 => ?_⟩
  have g2 := Same.but g1 np b2
  repeat walk_at "st"
  refine ⟨p, _, rfl, hp2, by omega, fun o1 t u H3 b3 hp3 ho1 f1 => ?_⟩
  have g3 := Same.but g2 np b3
  repeat walk_at "st"
  refine ⟨a, ns, _, rfl, g3.seq hS, hl, by omega, by omega, fun p' H4 g4 np' hp4 => ?_⟩
  have npp : p ≠ p' := fun z => by
    obtain ⟨_, _, _, h1, _⟩ := hp3
    rw [z, np'] at h1
    cases h1
  repeat walk_at "st"
  refine ⟨p', _, rfl, hp4, by omega, fun o2 x y H5 b5 hp5 ho2 f2 => ?_⟩
  have t5 : SqT K H5 o1 [.int t, .int u] := hp4.tup b5 (g4.tp (tupOf ho1))
  have g5 : Same H H5 := Same.but (g3.trans g4) (g3.free np') b5
  have hp5' : Pl H5 p 1000301 := (((hp3.same g4).but npp b5)).mono (by omega)
  clear b5 hp5 hp4 g4 ho1 b3 b2 g1 g2 g3 hp hp2 hp3
  repeat walk_at "st"
  have sq2 : SqT K H5 o2 [.int x, .int y] := tupOf ho2
  clear ho2
  -- what holds behind each test: the second one is a fraction
  refine r_cut (fun σ H' => ∃ (o : Addr) (x y : Int), σ = [some (.ref a), some (.int i), some (.ref p), some (.int wy), some (.ref o1), some (.ref o), none] ∧ Same H H' ∧ Pl H' p 1000301 ∧ SqT K H' o1 [.int t, .int u] ∧ SqT K H' o [.int x, .int y] ∧ Fr x y) ?_ (fun N J => ?_)
  · rintro σ H6 ⟨o, x, y, rfl, g6, hp6, t6, sq6, f6⟩
    refine r_cut (fun σ H' => ∃ (o : Addr) (x y : Int), σ = [some (.ref a), some (.int i), some (.ref p), some (.int wy), some (.ref o1), some (.ref o), none] ∧ Same H H' ∧ Pl H' p 1000301 ∧ SqT K H' o1 [.int t, .int u] ∧ SqT K H' o [.int x, .int y] ∧ Fr x y) ?_ (fun N J => ?_)
    · clear t5 g5 hp5' sq2 f2 g6 hp6 t6 sq6 f6
      clear o x y
      rintro σ H6 ⟨o, x, y, rfl, g6, hp6, t6, sq6, f6⟩
      refine r_cut (fun σ H' => ∃ (o : Addr) (x y : Int), σ = [some (.ref a), some (.int i), some (.ref p), some (.int wy), some (.ref o1), some (.ref o), none] ∧ Same H H' ∧ Pl H' p 1000301 ∧ SqT K H' o1 [.int t, .int u] ∧ SqT K H' o [.int x, .int y] ∧ Fr x y) ?_ (fun N J => ?_)
      · clear g6 hp6 t6 sq6 f6
        clear o x y
        rintro σ H6 ⟨o, x, y, rfl, g6, hp6, t6, sq6, f6⟩
        repeat walk_at "st"
        refine ⟨p, _, _, rfl, hp6, by omega, by decide, by decide, fun r7 H7 b7 hp7 r70 r71 => ?_⟩
        have g7 := Same.but g6 np b7
        have t7 := hp6.tup b7 t6
        have sq7 := hp6.tup b7 sq6
        have sr7 : Sm 1 r7 := by unfold Sm; omega
        clear hp6 b7 g6 t6 sq6
        repeat walk_at "st"
        refine r_cut (fun σ H' => ∃ (o : Addr) (x y m : Int), σ = [some (.ref a), some (.int i), some (.ref p), some (.int wy), some (.ref o1), some (.ref o), some (.int m)] ∧ Same H H' ∧ Pl H' p 1000302 ∧ SqT K H' o1 [.int t, .int u] ∧ SqT K H' o [.int x, .int y] ∧ Fr x y) ?_ (fun N J => ?_)
        · clear g7 hp7 t7 sq7 f6
          clear o x y
          rintro σ H8 ⟨o, x, y, m, rfl, g8, hp8, t8, sq8, f8⟩
          refine r_cut (fun σ H' => ∃ (o : Addr) (x y m : Int), σ = [some (.ref a), some (.int i), some (.ref p), some (.int wy), some (.ref o1), some (.ref o), some (.int m)] ∧ Same H H' ∧ Pl H' p 1000302 ∧ SqT K H' o1 [.int t, .int u] ∧ SqT K H' o [.int x, .int y] ∧ Fr x y) ?_ (fun N J => ?_)
          · clear g8 hp8 t8 sq8 f8
            clear o x y m
            rintro σ H8 ⟨o, x, y, m, rfl, g8, hp8, t8, sq8, f8⟩
            refine r_seq ?_
            repeat walk_at "st"
            refine ⟨p, _, _, rfl, hp8, by omega, by decide, by decide, fun r9 H9 b9 hp9 r90 r91 => ?_⟩
            have g9 := Same.but g8 np b9
            have t9 := hp8.tup b9 t8
            have sq9 := hp8.tup b9 sq8
            repeat walk_at "st"
            refine r_ite (fun c => ?_) (fun c => ?_)
            · repeat walk_at "st"
              refine ⟨sz rfl, fun r hr => ?_⟩
              have sn := same_new hr (.tup [.ref o, .ref o1])
              exact q r o o1 x y t u _ (g9.trans sn) upd_same (sn.tp sq9) (sn.tp t9) f8 f1
            · repeat walk_at "st"
              refine ⟨sz rfl, fun r hr => ?_⟩
              have sn := same_new hr (.tup [.ref o1, .ref o])
              exact q r o1 o t u x y _ (g9.trans sn) upd_same (sn.tp t9) (sn.tp sq9) f1 f8
          · repeat walk_at "st"
            refine r_ite (fun c => ?_) (fun c => ?_)
            · repeat walk_at "st"
              refine ⟨sz rfl, fun r hr => ?_⟩
              repeat walk_at "st"
              have sn := same_new hr (.tup [.int x, .int 1])
              exact J _ _ ⟨r, x, 1, m, rfl, g8.trans sn, hp8.same sn, sn.tp t8, tupOf upd_same, by decide, Int.gcd_one, f8.st, by decide⟩
            · repeat walk_at "st"
              exact J _ _ ⟨o, x, y, m, rfl, g8, hp8, t8, sq8, f8⟩
        · repeat walk_at "st"
          refine r_ite (fun c => ?_) (fun c => ?_)
          · repeat walk_at "st"
            refine ⟨_, rfl, ?_⟩
            repeat walk_at "st"
            refine r_ite (fun c2 => ?_) (fun c2 => ?_)
            · repeat walk_at "st"
              have nu : u ≠ 0 := by have := f1.pos; omega
              refine ⟨_, u, rfl, nu, f1.su.mono (by decide), fun o3 H8 s8 n8 h8 => ?_⟩
              repeat walk_at "st"
              refine J _ _ ⟨o3, _, _, _, rfl, g7.trans s8, hp7.same s8, s8.tp t7, tupOf h8, lowB_pos nu, low_gcd nu, ?_, ?_⟩
              · refine Nat.lt_of_le_of_lt (lowT_le nu) ?_
                have e : (10 : Int) ^ (60 : Int).toNat = 1000000000000000000000000000000000000000000000000000000000000 := by decide +kernel
                rw [e] at c2
                show _ < 2 ^ 211
                split at c2 <;> omega
              · exact Sm.le f1.su (lowB_le nu)
            · repeat walk_at "st"
              exact J _ _ ⟨o, x, y, _, rfl, g7, hp7, t7, sq7, f6⟩
          · repeat walk_at "st"
            exact J _ _ ⟨o, x, y, _, rfl, g7, hp7, t7, sq7, f6⟩
      · repeat walk_at "st"
        refine r_ite (fun c => ?_) (fun c => ?_)
        · repeat walk_at "st"
          refine ⟨sz rfl, fun r hr => ?_⟩
          repeat walk_at "st"
          have sn := same_new hr (.tup [.int 0, .int 1])
          exact J _ _ ⟨r, 0, 1, rfl, g6.trans sn, hp6.same sn, sn.tp t6, tupOf upd_same, by decide, by decide, by decide, by decide⟩
        · repeat walk_at "st"
          exact J _ _ ⟨o, x, y, rfl, g6, hp6, t6, sq6, f6⟩
    · repeat walk_at "st"
      refine r_ite (fun c => ?_) (fun c => ?_)
      · repeat walk_at "st"
        refine ⟨sz rfl, fun r hr => ?_⟩
        repeat walk_at "st"
        have sn := same_new hr (.tup [.int (-t), .int u])
        exact J _ _ ⟨r, -t, u, rfl, g6.trans sn, hp6.same sn, sn.tp t6, tupOf upd_same, f1.pos, by rw [Int.neg_gcd]; exact f1.one, f1.st.neg, f1.su⟩
      · repeat walk_at "st"
        exact J _ _ ⟨o, x, y, rfl, g6, hp6, t6, sq6, f6⟩
  · repeat walk_at "st"
    refine r_ite (fun c => ?_) (fun c => ?_)
    · repeat walk_at "st"
      exact J _ _ ⟨o1, t, u, rfl, g5, hp5', t5, t5, f1⟩
    · repeat walk_at "st"
      exact J _ _ ⟨o2, x, y, rfl, g5, hp5', t5, sq2, f2⟩
theorem ok_asked (F : Fn K mg "_law_asked" s_asked) (G_pair : Kn P w K mg base 4 "_law_pair" ["_law_script", "_law_at"] (spPair K)) (G_plus : Kn P w K mg base 3 "plus" ["one", "other"] (spArith K (fun x y u v => x * v + u * y) (fun x y u v => y * v))) (G_minus : Kn P w K mg base 3 "minus" ["one", "other"] (spArith K (fun x y u v => x * v - u * y) (fun x y u v => y * v)))
    (G_l_plus : Kn P w K mg base 1 "_law_plus" ["_law_one", "_law_other"] (spRaw K (fun x y u v => x * v + u * y) (fun x y u v => y * v))) (G_l_less : Kn P w K mg base 1 "_law_less" ["_law_one", "_law_other"] (spRaw K (fun x y u v => x * v - u * y) (fun x y u v => y * v)))
    (G_even : Kn P w K mg base 1 "_law_even" ["_law_one", "_law_other"] (spEven K)) (G_is_frac : Kn P w K mg base 2 "_law_is_frac" ["_law_found"] spIsFrac) : Kn P w K mg base 5 "_law_asked" ["_law_script", "_law_at"] (spAsked K) := by
  refine F.kn sc_asked (fun vs H Q E h => ?_) (fun f cdv A outer s H vs Q E hr h => ?_) (fun _ _ _ _ _ _ us hl => match us, hl with | [_, _], _ => rfl)
  · obtain ⟨a, ns, i, rfl, _⟩ := h
    rfl
  obtain ⟨a, ns, i, rfl, hS, hl, h0, h1, q⟩ := h
  refine ⟨_, (pss_cons (ps_asg (pe_kn G_pair (hr.mono (by decide)) (by rfl) (pa_cons (pv 0) (pa_cons (pv 1) pa_nil))) (pg_tup (by rfl) (pgs_cons (pg_name (i := 2) sc_asked.nd rfl (.inl rfl)) (pgs_cons (pg_name (i := 3) sc_asked.nd rfl (.inl rfl)) pgs_nil))))
    (pss_cons (ps_set (i := 4) sc_asked.nd rfl (.inl rfl) (pe_kn G_plus (hr.mono (by decide)) (by rfl) (pa_cons (pv 2) (pa_cons (pv 3) pa_nil))))
    (pss_cons (ps_set (i := 5) sc_asked.nd rfl (.inl rfl) (pe_kn G_minus (hr.mono (by decide)) (by rfl) (pa_cons (pv 2) (pa_cons (pv 3) pa_nil))))
    (pss_cons (ps_if (PW.pt (pw_or (pt_not (pt_val (pe_kn G_is_frac (hr.mono (by decide)) (by rfl) (pa_cons (pv 4) pa_nil)))) (pw_or1 (pt_not (pt_val (pe_kn G_is_frac (hr.mono (by decide)) (by rfl) (pa_cons (pv 5) pa_nil)))))))
    (pss_one (ps_ret pe_bl))
    pss_nil)
    (pss_cons (ps_if (PW.pt (pw_or (pt_not (pt_val (pe_kn G_even (hr.mono (by decide)) (by rfl) (pa_cons (pv 4) (pa_cons (pe_kn G_l_plus (hr.mono (by decide)) (by rfl) (pa_cons (pv 2) (pa_cons (pv 3) pa_nil))) pa_nil))))) (pw_or1 (pt_not (pt_val (pe_kn G_even (hr.mono (by decide)) (by rfl) (pa_cons (pv 5) (pa_cons (pe_kn G_l_less (hr.mono (by decide)) (by rfl) (pa_cons (pv 2) (pa_cons (pv 3) pa_nil))) pa_nil))))))))
    (pss_one (ps_ret pe_bl))
    pss_nil)
    (pss_one (ps_ret (pe_and (pe_cmpR (op_eqD hr.units) (pe_kn G_plus (hr.mono (by decide)) (by rfl) (pa_cons (pv 3) (pa_cons (pv 2) pa_nil))) (pv 4) (nomark _)) (pe_and (pe_cmpR (op_eqD hr.units) (pe_kn G_minus (hr.mono (by decide)) (by rfl) (pa_cons (pv 4) (pa_cons (pv 3) pa_nil))) (pv 2) (nomark _)) (pe_one (pe_cmpR (op_eqD hr.units) (pe_kn G_plus (hr.mono (by decide)) (by rfl) (pa_cons (pv 5) (pa_cons (pv 3) pa_nil))) (pv 2) (nomark _)))))))))))), ?_⟩
  show (_ : TS) _ [some (.ref a), some (.int i), none, none, none, none] _
  repeat walk_at "st"
  refine ⟨a, ns, i, rfl, hS, hl, h0, h1, fun r p p' t u x y H1 g1 hr1 hp hp' f1 f2 => ?_⟩
  refine ⟨r, _, rfl, tupOf hr1, rfl, ?_⟩
  refine ⟨_, _, rfl, ?_⟩
  repeat walk_at "st"
  refine ⟨_, _, rfl, ?_⟩
  repeat walk_at "st"
  refine ⟨rfl, ?_⟩
  have st := f1.st; have su := f1.su; have sx := f2.st; have sy := f2.su
  have u0 := f1.pos; have y0 := f2.pos
  have nb : u * y ≠ 0 := Int.ne_of_gt (Int.mul_pos u0 y0)
  have nb' : y * u ≠ 0 := Int.ne_of_gt (Int.mul_pos y0 u0)
  have st' : Sm 2000 t := st.mono (by decide)
  have su' : Sm 2000 u := su.mono (by decide)
  have sx' : Sm 2000 x := sx.mono (by decide)
  have sy' : Sm 2000 y := sy.mono (by decide)
  have sB : Sm 422 (u * y) := Sm.mul su sy
  have sT : Sm 423 (t * y + x * u) := Sm.add (Sm.mul st sy) (Sm.mul sx su)
  have sD : Sm 423 (t * y - x * u) := Sm.sub (Sm.mul st sy) (Sm.mul sx su)
  repeat walk_at "st"
  refine ⟨p, p', t, u, x, y, rfl, hp, hp', st', su', sx', sy', nb, fun c H2 g2 nc hc => ?_⟩
  repeat walk_at "st"
  refine ⟨p, p', t, u, x, y, rfl, g2.tp hp, g2.tp hp', st', su', sx', sy', nb, fun d H3 g3 nd hd => ?_⟩
  have eC := low_cross (t := t * y + x * u) nb
  have eD := low_cross (t := t * y - x * u) nb
  have gC := low_gcd (t := t * y + x * u) nb
  have gD := low_gcd (t := t * y - x * u) nb
  have pC := lowB_pos (t := t * y + x * u) nb
  have pD := lowB_pos (t := t * y - x * u) nb
  have sC1 : Sm 423 (lowT (t * y + x * u) (u * y)) := sT.le (lowT_le nb)
  have sC2 : Sm 423 (lowB (t * y + x * u) (u * y)) := (sB.mono (by decide)).le (lowB_le nb)
  have sD1 : Sm 423 (lowT (t * y - x * u) (u * y)) := sD.le (lowT_le nb)
  have sD2 : Sm 423 (lowB (t * y - x * u) (u * y)) := (sB.mono (by decide)).le (lowB_le nb)
  -- the sum the other way round
  have eR : lowT (x * u + t * y) (y * u) = lowT (t * y + x * u) (u * y) ∧ lowB (x * u + t * y) (y * u) = lowB (t * y + x * u) (u * y) := by
    rw [Int.add_comm (x * u), Int.mul_comm y u]
    exact ⟨rfl, rfl⟩
  generalize lowT (t * y + x * u) (u * y) = C1 at *
  generalize lowB (t * y + x * u) (u * y) = C2 at *
  generalize lowT (t * y - x * u) (u * y) = D1 at *
  generalize lowB (t * y - x * u) (u * y) = D2 at *
  have hc3 : H3 c = some (.tup [.int C1, .int C2]) := g3 _ _ hc
  have hp3 := g3.tp (g2.tp hp)
  have hp3' := g3.tp (g2.tp hp')
  repeat walk_at "st"
  refine r_seq ?_
  repeat walk_at "st"
  refine ⟨c, C1, C2, rfl, hc3, pC, gC, ?_⟩
  repeat walk_at "st"
  refine ⟨d, D1, D2, rfl, hd, pD, gD, ?_⟩
  repeat walk_at "st"
  refine r_seq ?_
  repeat walk_at "st"
  refine ⟨p, p', t, u, x, y, rfl, hp3, hp3', st', su', sx', sy', fun e H4 g4 ne he => ?_⟩
  repeat walk_at "st"
  have hc4 : H4 c = some (.tup [.int C1, .int C2]) := g4 _ _ hc3
  have hd4 : H4 d = some (.tup [.int D1, .int D2]) := g4 _ _ hd
  refine ⟨c, e, C1, C2, _, _, rfl, tupOf hc4, tupOf he, sC1.mono (by decide), sC2.mono (by decide), sT.mono (by decide), sB.mono (by decide), ?_⟩
  rw [decide_eq_true eC]
  repeat walk_at "st"
  refine ⟨p, p', t, u, x, y, rfl, g4.tp hp3, g4.tp hp3', st', su', sx', sy', fun e2 H5 g5 ne2 he2 => ?_⟩
  repeat walk_at "st"
  have hc5 : H5 c = some (.tup [.int C1, .int C2]) := g5 _ _ hc4
  have hd5 : H5 d = some (.tup [.int D1, .int D2]) := g5 _ _ hd4
  have hp5 := g5.tp (g4.tp hp3)
  have hp5' := g5.tp (g4.tp hp3')
  refine ⟨d, e2, D1, D2, _, _, rfl, tupOf hd5, tupOf he2, sD1.mono (by decide), sD2.mono (by decide), sD.mono (by decide), sB.mono (by decide), ?_⟩
  rw [decide_eq_true eD]
  repeat walk_at "st"
  refine ⟨p', p, x, y, t, u, rfl, hp5', hp5, sx', sy', st', su', nb', fun e3 H6 g6 ne3 he3 => ?_⟩
  have hc6 : H6 c = some (.tup [.int C1, .int C2]) := g6 _ _ hc5
  have hd6 : H6 d = some (.tup [.int D1, .int D2]) := g6 _ _ hd5
  have hp6 := g6.tp hp5
  have hp6' := g6.tp hp5'
  repeat walk_at "st"
  refine r_eqFr (tupOf he3) (tupOf hc6) eR ?_
  repeat walk_at "st"
  have nC : C2 * y ≠ 0 := Int.ne_of_gt (Int.mul_pos pC y0)
  refine ⟨c, p', C1, C2, x, y, rfl, tupOf hc6, hp6', sC1.mono (by decide), sC2.mono (by decide), sx', sy', nC, fun e4 H7 g7 ne4 he4 => ?_⟩
  repeat walk_at "st"
  have q1 : (C1 * y - x * C2) * u = t * (C2 * y) := by
    have z : C1 * (u * y) = (t * y + x * u) * C2 := eC
    rw [Int.sub_mul]
    rw [Int.add_mul] at z
    have z1 : C1 * y * u = C1 * (u * y) := by simp only [Int.mul_assoc, Int.mul_comm, Int.mul_left_comm]
    have z2 : x * C2 * u = x * u * C2 := by simp only [Int.mul_assoc, Int.mul_comm, Int.mul_left_comm]
    have z3 : t * (C2 * y) = t * y * C2 := by simp only [Int.mul_assoc, Int.mul_comm, Int.mul_left_comm]
    rw [z1, z2, z3, z]
    omega
  refine r_eqFr (tupOf he4) (g7.tp hp6) (low_eq nC u0 f1.one q1) ?_
  repeat walk_at "st"
  have nD : D2 * y ≠ 0 := Int.ne_of_gt (Int.mul_pos pD y0)
  refine ⟨d, p', D1, D2, x, y, rfl, g7.tp (tupOf hd6), g7.tp hp6', sD1.mono (by decide), sD2.mono (by decide), sx', sy', nD, fun e5 H8 g8 ne5 he5 => ?_⟩
  repeat walk_at "st"
  have q2 : (D1 * y + x * D2) * u = t * (D2 * y) := by
    have z : D1 * (u * y) = (t * y - x * u) * D2 := eD
    rw [Int.add_mul]
    rw [Int.sub_mul] at z
    have z1 : D1 * y * u = D1 * (u * y) := by simp only [Int.mul_assoc, Int.mul_comm, Int.mul_left_comm]
    have z2 : x * D2 * u = x * u * D2 := by simp only [Int.mul_assoc, Int.mul_comm, Int.mul_left_comm]
    have z3 : t * (D2 * y) = t * y * D2 := by simp only [Int.mul_assoc, Int.mul_comm, Int.mul_left_comm]
    rw [z1, z2, z3, z]
    omega
  refine r_eqFr (tupOf he5) (g8.tp (g7.tp hp6)) (low_eq nD u0 f1.one q2) ?_
  exact q _ (g1.trans (g2.trans (g3.trans (g4.trans (g5.trans (g6.trans (g7.trans g8)))))))
theorem ok_law {f : Addr} {fd : FuncData} (F : FnP K "law" s_law f fd) (G_asked : Kn P w K mg base 5 "_law_asked" ["_law_script", "_law_at"] (spAsked K)) : FnOk P w K mg base CX0 (5 + 1) f fd ["_law_script"] (spLaw K) := by
  refine fnp_ok F sc_law (fun vs H Q E h => ?_) (fun cdv A outer s H vs Q E hr h => ?_)
  · obtain ⟨a, ns, rfl, _⟩ := h
    rfl
  obtain ⟨a, ns, rfl, hS, hl, q⟩ := h
  refine ⟨_, (pss_one (ps_ret (pe_and (pe_kn G_asked (hr.mono (by decide)) (by rfl) (pa_cons (pv 0) (pa_cons pe_int pa_nil))) (pe_and (pe_kn G_asked (hr.mono (by decide)) (by rfl) (pa_cons (pv 0) (pa_cons pe_int pa_nil))) (pe_one (pe_kn G_asked (hr.mono (by decide)) (by rfl) (pa_cons (pv 0) (pa_cons pe_int pa_nil)))))))), ?_⟩
  show (_ : TS) _ [some (.ref a)] _
  repeat walk_at "st"
  refine ⟨a, ns, _, rfl, hS, hl, by decide, by decide, fun H1 g1 => ?_⟩
  repeat walk_at "st"
  refine ⟨a, ns, _, rfl, g1.seq hS, hl, by decide, by decide, fun H2 g2 => ?_⟩
  repeat walk_at "st"
  refine ⟨a, ns, _, rfl, (g1.trans g2).seq hS, hl, by decide, by decide, fun H3 g3 => ?_⟩
  exact q _
end
end Mb
namespace Mb
open PySem PySem.Spec PyProof.Rows L2
def d_common_divisor : He.DefD := ⟨("common_divisor", none), "common_divisor", "common_divisor", defArgs s_common_divisor, defBody s_common_divisor, defScope s_common_divisor, [], []⟩
def d_fraction : He.DefD := ⟨("fraction", none), "fraction", "fraction", defArgs s_fraction, defBody s_fraction, defScope s_fraction, [], []⟩
def d_plus : He.DefD := ⟨("plus", none), "plus", "plus", defArgs s_plus, defBody s_plus, defScope s_plus, [], []⟩
def d_minus : He.DefD := ⟨("minus", none), "minus", "minus", defArgs s_minus, defBody s_minus, defScope s_minus, [], []⟩
def d_pool : He.DefD := ⟨("_law_pool", none), "_law_pool", "_law_pool", defArgs s_pool, defBody s_pool, defScope s_pool, [], []⟩
def d_take : He.DefD := ⟨("_law_take", none), "_law_take", "_law_take", defArgs s_take, defBody s_take, defScope s_take, [], []⟩
def d_gcd : He.DefD := ⟨("_law_gcd", none), "_law_gcd", "_law_gcd", defArgs s_gcd, defBody s_gcd, defScope s_gcd, [], []⟩
def d_low : He.DefD := ⟨("_law_low", none), "_law_low", "_law_low", defArgs s_low, defBody s_low, defScope s_low, [], []⟩
def d_l_plus : He.DefD := ⟨("_law_plus", none), "_law_plus", "_law_plus", defArgs s_l_plus, defBody s_l_plus, defScope s_l_plus, [], []⟩
def d_l_less : He.DefD := ⟨("_law_less", none), "_law_less", "_law_less", defArgs s_l_less, defBody s_l_less, defScope s_l_less, [], []⟩
def d_even : He.DefD := ⟨("_law_even", none), "_law_even", "_law_even", defArgs s_even, defBody s_even, defScope s_even, [], []⟩
def d_whole : He.DefD := ⟨("_law_whole", none), "_law_whole", "_law_whole", defArgs s_whole, defBody s_whole, defScope s_whole, [], []⟩
def d_is_frac : He.DefD := ⟨("_law_is_frac", none), "_law_is_frac", "_law_is_frac", defArgs s_is_frac, defBody s_is_frac, defScope s_is_frac, [], []⟩
def d_number : He.DefD := ⟨("_law_number", none), "_law_number", "_law_number", defArgs s_number, defBody s_number, defScope s_number, [], []⟩
def d_wide : He.DefD := ⟨("_law_wide", none), "_law_wide", "_law_wide", defArgs s_wide, defBody s_wide, defScope s_wide, [], []⟩
def d_pair : He.DefD := ⟨("_law_pair", none), "_law_pair", "_law_pair", defArgs s_pair, defBody s_pair, defScope s_pair, [], []⟩
def d_asked : He.DefD := ⟨("_law_asked", none), "_law_asked", "_law_asked", defArgs s_asked, defBody s_asked, defScope s_asked, [], []⟩
def d_law : He.DefD := ⟨("law", none), "law", "law", defArgs s_law, defBody s_law, defScope s_law, [], []⟩
def fn : List He.DefD := [d_common_divisor, d_fraction, d_plus, d_minus, d_pool, d_take, d_gcd, d_low, d_l_plus, d_l_less, d_even, d_whole, d_is_frac, d_number, d_wide, d_pair, d_asked, d_law]
def fa : List He.Fa := [.glo "common_divisor", .glo "fraction", .glo "plus", .glo "minus", .glo "_law_pool", .glo "_law_take", .glo "_law_gcd", .glo "_law_low", .glo "_law_plus", .glo "_law_less", .glo "_law_even", .glo "_law_whole", .glo "_law_is_frac", .glo "_law_number", .glo "_law_wide", .glo "_law_pair", .glo "_law_asked", .glo "law", .free "abs", .free "bool", .free "int", .free "isinstance", .free "len", .free "max", .free "range", .free "tuple"]
abbrev R : PySem.W.OpenRow := PySem.W.OpenLaw.row PySem.Challenge.rw_movebook_k02_sums
abbrev hk : PySem.W.Hook := He.hookD 4 fa fn
def ob (s : PySem.W.SharedT) : He.AlD := He.obsDG 4 fa fn (HandSHeadRun.getT s)
theorem ob_eq (s : PySem.W.SharedT) : ob s = hk.obs s.abs := He.obsDG_eq (HandSHeadRun.getT_eq s)
def names : List PySem.Str := [("BookError" : PySem.Str), ("NoNumber" : PySem.Str), ("common_divisor" : PySem.Str), ("fraction" : PySem.Str), ("plus" : PySem.Str), ("minus" : PySem.Str), ("_law_pool" : PySem.Str), ("_law_take" : PySem.Str), ("_law_gcd" : PySem.Str), ("_law_low" : PySem.Str), ("_law_plus" : PySem.Str), ("_law_less" : PySem.Str), ("_law_even" : PySem.Str), ("_law_whole" : PySem.Str), ("_law_is_frac" : PySem.Str), ("_law_number" : PySem.Str), ("_law_wide" : PySem.Str), ("_law_pair" : PySem.Str), ("_law_asked" : PySem.Str)]
theorem run (w : World) : HandSHeadRun.RunEq R (PySem.W.view R.prog [23]) hk ob 4000 names w := by
  intro os
  kernel_rfl
theorem facts {P : Program} {w : World} {K : PySem.W.Frag} {h : Heap} {mg : Str → Option Value} {f : Addr} (X : K.In h) (G : h.Ns mainGlobals mg) (hfa : mg ("law" : Str) = some (.ref f)) (c : He.SaysD fa fn K) :
    ∃ fd : FuncData, (∀ (s : Shared) (v : Value), BindsTo s fd ⟨[v], []⟩ [("_law_script", v)]) ∧ ∀ base : Heap, K.In base → base.Ns mainGlobals mg → FnOk P w K mg base CX0 6 f fd ["_law_script"] (spLaw K) := by
  have F_common_divisor : Fn K mg "common_divisor" s_common_divisor := by
    obtain ⟨fd, F⟩ := c.def_ 0 (d := d_common_divisor) rfl
    exact ⟨_, fd, F, He.glo_ok X G (c.fact 0 (f := .glo "common_divisor") rfl)⟩
  have F_fraction : Fn K mg "fraction" s_fraction := by
    obtain ⟨fd, F⟩ := c.def_ 1 (d := d_fraction) rfl
    exact ⟨_, fd, F, He.glo_ok X G (c.fact 1 (f := .glo "fraction") rfl)⟩
  have F_plus : Fn K mg "plus" s_plus := by
    obtain ⟨fd, F⟩ := c.def_ 2 (d := d_plus) rfl
    exact ⟨_, fd, F, He.glo_ok X G (c.fact 2 (f := .glo "plus") rfl)⟩
  have F_minus : Fn K mg "minus" s_minus := by
    obtain ⟨fd, F⟩ := c.def_ 3 (d := d_minus) rfl
    exact ⟨_, fd, F, He.glo_ok X G (c.fact 3 (f := .glo "minus") rfl)⟩
  have F_pool : Fn K mg "_law_pool" s_pool := by
    obtain ⟨fd, F⟩ := c.def_ 4 (d := d_pool) rfl
    exact ⟨_, fd, F, He.glo_ok X G (c.fact 4 (f := .glo "_law_pool") rfl)⟩
  have F_take : Fn K mg "_law_take" s_take := by
    obtain ⟨fd, F⟩ := c.def_ 5 (d := d_take) rfl
    exact ⟨_, fd, F, He.glo_ok X G (c.fact 5 (f := .glo "_law_take") rfl)⟩
  have F_gcd : Fn K mg "_law_gcd" s_gcd := by
    obtain ⟨fd, F⟩ := c.def_ 6 (d := d_gcd) rfl
    exact ⟨_, fd, F, He.glo_ok X G (c.fact 6 (f := .glo "_law_gcd") rfl)⟩
  have F_low : Fn K mg "_law_low" s_low := by
    obtain ⟨fd, F⟩ := c.def_ 7 (d := d_low) rfl
    exact ⟨_, fd, F, He.glo_ok X G (c.fact 7 (f := .glo "_law_low") rfl)⟩
  have F_l_plus : Fn K mg "_law_plus" s_l_plus := by
    obtain ⟨fd, F⟩ := c.def_ 8 (d := d_l_plus) rfl
    exact ⟨_, fd, F, He.glo_ok X G (c.fact 8 (f := .glo "_law_plus") rfl)⟩
  have F_l_less : Fn K mg "_law_less" s_l_less := by
    obtain ⟨fd, F⟩ := c.def_ 9 (d := d_l_less) rfl
    exact ⟨_, fd, F, He.glo_ok X G (c.fact 9 (f := .glo "_law_less") rfl)⟩
  have F_even : Fn K mg "_law_even" s_even := by
    obtain ⟨fd, F⟩ := c.def_ 10 (d := d_even) rfl
    exact ⟨_, fd, F, He.glo_ok X G (c.fact 10 (f := .glo "_law_even") rfl)⟩
  have F_whole : Fn K mg "_law_whole" s_whole := by
    obtain ⟨fd, F⟩ := c.def_ 11 (d := d_whole) rfl
    exact ⟨_, fd, F, He.glo_ok X G (c.fact 11 (f := .glo "_law_whole") rfl)⟩
  have F_is_frac : Fn K mg "_law_is_frac" s_is_frac := by
    obtain ⟨fd, F⟩ := c.def_ 12 (d := d_is_frac) rfl
    exact ⟨_, fd, F, He.glo_ok X G (c.fact 12 (f := .glo "_law_is_frac") rfl)⟩
  have F_number : Fn K mg "_law_number" s_number := by
    obtain ⟨fd, F⟩ := c.def_ 13 (d := d_number) rfl
    exact ⟨_, fd, F, He.glo_ok X G (c.fact 13 (f := .glo "_law_number") rfl)⟩
  have F_wide : Fn K mg "_law_wide" s_wide := by
    obtain ⟨fd, F⟩ := c.def_ 14 (d := d_wide) rfl
    exact ⟨_, fd, F, He.glo_ok X G (c.fact 14 (f := .glo "_law_wide") rfl)⟩
  have F_pair : Fn K mg "_law_pair" s_pair := by
    obtain ⟨fd, F⟩ := c.def_ 15 (d := d_pair) rfl
    exact ⟨_, fd, F, He.glo_ok X G (c.fact 15 (f := .glo "_law_pair") rfl)⟩
  have F_asked : Fn K mg "_law_asked" s_asked := by
    obtain ⟨fd, F⟩ := c.def_ 16 (d := d_asked) rfl
    exact ⟨_, fd, F, He.glo_ok X G (c.fact 16 (f := .glo "_law_asked") rfl)⟩
  have F_law : Fn K mg "law" s_law := by
    obtain ⟨fd, F⟩ := c.def_ 17 (d := d_law) rfl
    exact ⟨_, fd, F, He.glo_ok X G (c.fact 17 (f := .glo "law") rfl)⟩
  have z_abs : mg "abs" = none := He.free_ok X G (c.fact 18 (f := .free "abs") rfl)
  have z_bool : mg "bool" = none := He.free_ok X G (c.fact 19 (f := .free "bool") rfl)
  have z_int : mg "int" = none := He.free_ok X G (c.fact 20 (f := .free "int") rfl)
  have z_isinstance : mg "isinstance" = none := He.free_ok X G (c.fact 21 (f := .free "isinstance") rfl)
  have z_len : mg "len" = none := He.free_ok X G (c.fact 22 (f := .free "len") rfl)
  have z_max : mg "max" = none := He.free_ok X G (c.fact 23 (f := .free "max") rfl)
  have z_range : mg "range" = none := He.free_ok X G (c.fact 24 (f := .free "range") rfl)
  have z_tuple : mg "tuple" = none := He.free_ok X G (c.fact 25 (f := .free "tuple") rfl)
  obtain ⟨fd, FL⟩ := c.def_ 17 (d := d_law) rfl
  have e := hfa.symm.trans (He.glo_ok X G (c.fact 17 (f := .glo "law") rfl))
  cases e
  have b := FunD.bindsA (ps := ["_law_script"]) FL fun _ _ _ _ _ _ us hl => match us, hl with | [_], _ => rfl
  refine ⟨fd, fun s v => b s [v] rfl, fun base _ _ => ?_⟩
  have G_common_divisor := ok_common_divisor (P := P) (w := w) (base := base) F_common_divisor z_abs
  have G_fraction := ok_fraction (P := P) (w := w) (base := base) F_fraction G_common_divisor
  have G_plus := ok_plus (P := P) (w := w) (base := base) F_plus G_fraction
  have G_minus := ok_minus (P := P) (w := w) (base := base) F_minus G_fraction
  have G_pool := ok_pool (P := P) (w := w) (base := base) F_pool z_len
  have G_take := ok_take (P := P) (w := w) (base := base) F_take
  have G_gcd := ok_gcd (P := P) (w := w) (base := base) F_gcd z_abs
  have G_low := ok_low (P := P) (w := w) (base := base) F_low G_gcd
  have G_number := ok_number (P := P) (w := w) (base := base) F_number G_take z_range
  have G_wide := ok_wide (P := P) (w := w) (base := base) F_wide G_take G_number G_low z_max
  have G_pair := ok_pair (P := P) (w := w) (base := base) F_pair G_pool G_take G_wide G_low z_abs
  have G_l_plus := ok_l_plus (P := P) (w := w) (base := base) F_l_plus
  have G_l_less := ok_l_less (P := P) (w := w) (base := base) F_l_less
  have G_even := ok_even (P := P) (w := w) (base := base) F_even
  have G_whole := ok_whole (P := P) (w := w) (base := base) F_whole z_isinstance z_int z_bool
  have G_is_frac := ok_is_frac (P := P) (w := w) (base := base) F_is_frac G_whole G_gcd z_isinstance z_tuple z_len
  have G_asked := ok_asked (P := P) (w := w) (base := base) F_asked G_pair G_plus G_minus G_l_plus G_l_less G_even G_is_frac
  have G_law := ok_law (P := P) (w := w) (base := base) FL G_asked
  exact G_law
end Mb
open PySem PySem.W PySem.Calls PyProof.Rows
set_option maxRecDepth 100000 in
set_option maxHeartbeats 0 in
theorem PySem.Challenge.cw_movebook_k02_sums_holds : PySem.Challenge.rw_movebook_k02_sums.Holds := by
  w_on; o_law
  refine HandSHeadRun.head_any (r := OpenLaw.row PySem.Challenge.rw_movebook_k02_sums) (q := view (OpenLaw.row PySem.Challenge.rw_movebook_k02_sums).prog [23]) (H := Mb.hk) (ob := Mb.ob) (M := 4000) (loose := Mb.names) (d := HandSHeadRun.topDef (OpenLaw.row PySem.Challenge.rw_movebook_k02_sums).prog 23) (kwd := []) Mb.ob_eq
    (by kernel_rfl) (fun s => by kernel_rfl) Mb.run (by kernel_rfl) (by kernel_rfl) (by kernel_rfl) (by rfl) (by first | assumption | decide +kernel) (by decide +kernel) ⟨rfl, rfl, rfl, rfl, rfl, by decide +kernel⟩ ?hw ?hc
  case hw => w_witness2
  case hc =>
    refine L2.walk_ofE (l := PySem.Challenge.rw_movebook_k02_sums) (n := 63) (k := 6) (x := "_law_script") (CX := L2.CX0) rfl (by decide) (by kernel_rfl) ⟨rfl, by decide, by decide⟩ ?F (fun _ _ _ _ z => z)
    intro w mg fa h Y G hmg0
    obtain ⟨K, KX, c⟩ := Y
    have hmg : mg ("law" : PySem.Str) = some (.ref fa) := by
      have e : (HandSHeadRun.topDef (OpenLaw.row PySem.Challenge.rw_movebook_k02_sums).prog 23).name = ("law" : PySem.Str) := by kernel_rfl
      rw [← e]
      exact hmg0
    obtain ⟨fd, hb, hF⟩ := Mb.facts (P := (PySem.Challenge.rw_movebook_k02_sums).prog) (w := w) KX G hmg c
    exact ⟨K, fd, Mb.spLaw K, KX, hb, fun H a ns hl _ hS => ⟨a, ns, rfl, hS, hl, fun _ => rfl⟩, hF⟩
