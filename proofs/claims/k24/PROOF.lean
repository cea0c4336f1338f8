import PyProof.Rows.All
import Wide.All
import OpenK.AllK
import Wide.FinOn
import KE.KStateDown
import Lean
import HandS.ForMost
import HandS.More
import HandS.WordsExc
import HandS.ExcIs
import HandS.ExcOwn
import HandS.TryOnly
import HandS.Exc
import HandS.Defaults
import HandS.Wide
import HandS.WideBits
import HandS.IsInst
import HandS.Head0
import HandS.Head1
import HandS.Head2
import HandS.HeadEnd
import HandS.HeadHook1
import HandS.HeadHook2
import HandS.Style
import PySem.Challenge.RW_movebook_k24_whole_circles_meet
set_option Elab.async false
set_option linter.all false
set_option maxRecDepth 100000
set_option maxHeartbeats 4000000
namespace Mb
open PySem L2
/-! ### a def that keeps its promise, as its callers take it -/
structure Kn (P : Program) (w : World) (K : PySem.W.Frag) (mg : Str → Option Value) (base : Heap) (k : Nat) (x : Str) (ps : List Str) (sp : Sp) : Prop where
  ex : ∃ f fd, FnOk P w K mg base CX0 k f fd ps sp ∧ mg x = some (.ref f) ∧ PySem.W.keepIn K (.ref f) = true ∧ Binds K fd ps []
theorem pe_kn {X : Cx} {k : Nat} {x : Str} {ps : List Str} {sp : Sp} {e : Expr} {es : List Expr} {p pos : Pos} {t : TA} (G : Kn X.prog X.w X.K X.mg X.base k x ps sp) (hr : Room k X.A) (hg : Gl X x)
    (ha : PA X (e :: es) t) (hdb : (x == ("__debug__" : Str)) = false := by decide) (he : starEach (e :: es) X.env = (false, eval e X.env) :: starEach es X.env := by rfl) (hpl : (backTo pos (starEach es X.env)).any (·.1) = false := by rfl) :
    PE X (.Call (.Name x p) (e :: es) [] pos) (tCall sp [] E0 t) := by
  obtain ⟨f, fd, F, m, kp, b⟩ := G.ex
  exact pe_call F hr hg m kp b .nil pass0 ha hdb he hpl
/-- a def of the text: where it stands -/
abbrev FnP (K : PySem.W.Frag) (x : Str) (st : Stmt) (f : Addr) (fd : FuncData) : Prop := FunD K x x (defArgs st) (defBody st) (defScope st) [] [] f fd
structure Fn (K : PySem.W.Frag) (mg : Str → Option Value) (x : Str) (st : Stmt) : Prop where
  ex : ∃ f fd, FnP K x st f fd ∧ mg x = some (.ref f)
/-- from the walk of its body to its promise -/
theorem Fn.kn {P : Program} {w : World} {K : PySem.W.Frag} {mg : Str → Option Value} {base : Heap} {k : Nat} {x : Str} {st : Stmt} {N ps : List Str} {sp : Sp} (F : Fn K mg x st) (S : FnScope N ps (defScope st)) (len : ∀ vs H Q E, sp vs H Q E → vs.length = ps.length)
    (hbody : ∀ (f : Addr) (cdv : Value) (A : Around) (outer : List Env) (s : Shared) (H : Hp) (vs : List V) (Q : VK) (E : XK), Room k (A.deeper (PyProof.Rows.envOfC x (defScope st) s.heap.objs.size f cdv)) → sp vs H Q E →
      ∃ t, PSs (cxOf CX0 P w K mg base N x (defScope st) f cdv A outer s H E).nox (defBody st) t ∧ t { nx := fun _ H' => Q .non H', rt := Q } (start N vs) H)
    (hb : ∀ (kV doc pm : Value) (an : Option Addr) (cdv ct : Value) (us : List Value), us.length = ps.length → bindArgs (PySem.W.fnOf x x (defArgs st) (defBody st) (defScope st) .none kV doc pm an cdv ct) ⟨us, []⟩ = pure (ps.zip us)) :
    Kn P w K mg base (k + 1) x ps sp := by
  obtain ⟨f, fd, F, m⟩ := F.ex
  refine ⟨f, fd, F.ok S len fun cdv A outer s H vs Q E hr h => ?_, m, F.kp, F.bindsN hb⟩
  obtain ⟨t, p, q⟩ := hbody f cdv A outer s H vs Q E hr h
  exact ⟨t, p.nox, q⟩
/-- the same for the law itself, whose function object is known -/
theorem fnp_ok {P : Program} {w : World} {K : PySem.W.Frag} {mg : Str → Option Value} {base : Heap} {k : Nat} {x : Str} {st : Stmt} {N ps : List Str} {sp : Sp} {f : Addr} {fd : FuncData} (F : FnP K x st f fd) (S : FnScope N ps (defScope st)) (len : ∀ vs H Q E, sp vs H Q E → vs.length = ps.length)
    (hbody : ∀ (cdv : Value) (A : Around) (outer : List Env) (s : Shared) (H : Hp) (vs : List V) (Q : VK) (E : XK), Room k (A.deeper (PyProof.Rows.envOfC x (defScope st) s.heap.objs.size f cdv)) → sp vs H Q E →
      ∃ t, PSs (cxOf CX0 P w K mg base N x (defScope st) f cdv A outer s H E).nox (defBody st) t ∧ t { nx := fun _ H' => Q .non H', rt := Q } (start N vs) H) : FnOk P w K mg base CX0 (k + 1) f fd ps sp := by
  refine F.ok S len fun cdv A outer s H vs Q E hr h => ?_
  obtain ⟨t, p, q⟩ := hbody cdv A outer s H vs Q E hr h
  exact ⟨t, p.nox, q⟩
/-! ### x is True, x is False -/
theorem op_isB {X : Cx} : OpR X (compareOp .Is) (fun x y H Q => ∃ a b, x = .bl a ∧ y = .bl b ∧ Q (.bl (a == b)) H) := by
  intro pins s σ H x y v u Q I rx ry h
  obtain ⟨a, b, rfl, rfl, q⟩ := h
  cases (show v = Value.bool a from rx)
  cases (show u = Value.bool b from ry)
  exact PyProof.Rows.is_bool ⟨.bl (a == b), H, I, rfl, q⟩
/-! ### // by any great divisor but 0 -/
def CDivZ (_ j : Int) : Prop := j ≠ 0 ∧ j.natAbs.log2 < 9000
theorem op_fdivZ {X : Cx} : OpR X (binaryOp .FloorDiv) (rI CDivZ fun i j => .int (i.fdiv j)) := opI fun _ _ _ _ _ _ _ hc q => PyProof.Rows.floordiv_int hc.1 q (.inl (PyProof.noPylong_of_log2 hc.2))
theorem cdivZ {i j : Int} {b : Nat} (h : j ≠ 0) (hb : j.natAbs < 2 ^ b) (h0 : 0 < b) (h9 : b ≤ 9000) : CDivZ i j := ⟨h, Nat.lt_of_lt_of_le (PySem.Flt.log2_lt_of h0 hb) h9⟩
/-! ### readings, step by step -/
section
variable {σ : St} {H : Hp} {Q : VK} {D : Ends} {K : PySem.W.Frag}
theorem r_var {i : Nat} {v : V} (h : σ[i]? = some (some v)) (q : Q v H) : tVar i σ H Q := ⟨v, h, q⟩
theorem r_c {v : V} (q : Q v H) : tC v σ H Q := q
theorem r_op {r : R2} {ta tb : TE} (q : ta σ H fun x H1 => tb σ H1 fun y H2 => r x y H2 Q) : tOp r ta tb σ H Q := q
theorem r_un {r : V → Hp → VK → Prop} {ta : TE} (q : ta σ H fun x H1 => r x H1 Q) : tUn r ta σ H Q := q
theorem r_i {C : Int → Int → Prop} {g : Int → Int → V} {i j : Int} (c : C i j) (q : Q (g i j) H) : rI C g (.int i) (.int j) H Q := ⟨i, j, rfl, rfl, c, q⟩
theorem r_i0 {g : Int → Int → V} {i j : Int} (q : Q (g i j) H) : rI0 g (.int i) (.int j) H Q := ⟨i, j, rfl, rfl, q⟩
theorem r_u {g : Int → V} {i : Int} (q : Q (g i) H) : rU g (.int i) H Q := ⟨i, rfl, q⟩
theorem r_eqI {i j : Int} (q : Q (.bl (decide (i = j))) H) : rEq (.int i) (.int j) H Q := ⟨rfl, by
  rw [show decide (V.int i = V.int j) = decide (i = j) from by simp]; exact q⟩
theorem r_neI {i j : Int} (q : Q (.bl (!decide (i = j))) H) : rNe (.int i) (.int j) H Q := ⟨rfl, by
  rw [show decide (V.int i = V.int j) = decide (i = j) from by simp]; exact q⟩
theorem r_eqB {i j : Bool} (q : Q (.bl (i == j)) H) : rEq (.bl i) (.bl j) H Q := ⟨rfl, by
  rw [show decide (V.bl i = V.bl j) = (i == j) from by cases i <;> cases j <;> rfl]; exact q⟩
theorem r_eqS {i j : Str} (q : Q (.bl (decide (i = j))) H) : rEq (.str i) (.str j) H Q := ⟨rfl, by
  rw [show decide (V.str i = V.str j) = decide (i = j) from by simp]; exact q⟩
theorem r_bits {to : TE} (q : to σ H fun x H1 => ∃ i, x = .int i ∧ Q (.int (Builtin.Int.intBits i : Nat)) H1) : tBits to σ H Q := q
theorem r_int {i : Int} {Q : Int → Prop} (q : Q i) : ∃ k, V.int i = .int k ∧ Q k := ⟨i, rfl, q⟩
theorem r_cb {r : List V → Hp → VK → Prop} {t : TA} (q : t σ H fun vs H1 => r vs H1 Q) : tCB r t σ H Q := q
theorem r_nil {Q : List V → Hp → Prop} (q : Q [] H) : tNil σ H Q := q
theorem r_cons {ta : TE} {tr : TA} {Q : List V → Hp → Prop} (q : ta σ H fun x H1 => tr σ H1 fun xs H2 => Q (x :: xs) H2) : tCons ta tr σ H Q := q
theorem r_tup {t : TA} (q : t σ H fun xs H1 => xs.length ≤ sizeLine ∧ ∀ p, H1 p = none → Q (.ref p) (upd H1 p (.tup xs))) : tTup t σ H Q := q
theorem r_lst {t : TA} (q : t σ H fun xs H1 => xs.length ≤ sizeLine ∧ ∀ p, H1 p = none → Q (.ref p) (upd H1 p (.lst xs))) : tLst t σ H Q := q
theorem r_call {sp : Sp} {E : XK} {t : TA} (q : t σ H fun vs H1 => sp (vs ++ []) H1 Q E) : tCall sp [] E t σ H Q := q
theorem r_seq {t u : TS} (q : t { D with nx := u D } σ H) : tSeq t u D σ H := q
theorem r_seqA {te : TE} {g : TG} {u : TS} (q : te σ H fun x H1 => g x σ H1 (u D)) : tSeq (tAsg te g) u D σ H := q
theorem r_seqD {te : TE} {u : TS} (q : te σ H fun _ H1 => u D σ H1) : tSeq (tDrop te) u D σ H := q
theorem r_seqP {i j : Nat} {ta : TA} {u : TS} (q : ta σ H fun vs H1 => ∃ v w, vs = [v, w] ∧ u D ((σ.set i (some v)).set j (some w)) H1) : tSeq (tPar i j ta) u D σ H := q
theorem r_cut {t u : TS} (R : St → Hp → Prop) (k : ∀ σ1 H1, R σ1 H1 → u D σ1 H1) (h : ∀ N : St → Hp → Prop, (∀ σ1 H1, R σ1 H1 → N σ1 H1) → t { D with nx := N } σ H) : tSeq t u D σ H := h _ k
theorem r_next (q : D.nx σ H) : tNext D σ H := q
theorem r_nx {a c d : St → Hp → Prop} {b : VK} (q : a σ H) : (Ends.mk a b c d).nx σ H := q
theorem r_asg {te : TE} {g : TG} (q : te σ H fun x H1 => g x σ H1 D.nx) : tAsg te g D σ H := q
theorem r_gname {i : Nat} {v : V} {Q : St → Hp → Prop} (q : Q (σ.set i (some v)) H) : gName i v σ H Q := q
theorem r_gsub {to ti : TE} {t : TSet} {v : V} {Q : St → Hp → Prop} (q : to σ H fun o H1 => ti σ H1 fun i H2 => t o i v H2 fun H3 => Q σ H3) : gSub to ti t v σ H Q := q
theorem r_ret {te : TE} (q : te σ H D.rt) : tRet te D σ H := q
theorem r_drop {te : TE} (q : te σ H fun _ H1 => D.nx σ H1) : tDrop te D σ H := q
theorem r_ifs {c : TT} {t u : TS} (q : c σ H fun b H1 => if b = true then t D σ H1 else u D σ H1) : tIfS c t u D σ H := q
theorem r_test {t : TE} {Q : Bool → Hp → Prop} (q : t σ H fun x H' => ∃ k, x = .bl k ∧ Q k H') : tTest t σ H Q := q
theorem r_tB {t : TE} {Q : Bool → Hp → Prop} (q : t σ H fun x H' => ∃ k, x = .bl k ∧ Q k H') : tB t σ H Q := q
theorem r_bl {b : Bool} {Q : Bool → Prop} (q : Q b) : ∃ k, V.bl b = .bl k ∧ Q k := ⟨b, rfl, q⟩
theorem r_and {t u : TT} {Q : Bool → Hp → Prop} (q : t σ H fun c H1 => if c = true then u σ H1 Q else Q false H1) : tAnd t u σ H Q := q
theorem r_or {t u : TT} {Q : Bool → Hp → Prop} (q : t σ H fun c H1 => if c = true then Q true H1 else u σ H1 Q) : tOr t u σ H Q := q
theorem r_not {t : TT} {Q : Bool → Hp → Prop} (q : t σ H fun c H1 => Q (!c) H1) : tNot t σ H Q := q
theorem r_andV {ta tb : TE} (q : ta σ H fun x H1 => ∃ c, x = .bl c ∧ if c = true then tb σ H1 Q else Q (.bl false) H1) : tAndV ta tb σ H Q := q
theorem r_orV {ta tb : TE} (q : ta σ H fun x H1 => ∃ c, x = .bl c ∧ if c = true then Q (.bl true) H1 else tb σ H1 Q) : tOrV ta tb σ H Q := q
theorem r_notV {ta : TE} (q : ta σ H fun x H1 => ∃ c, x = .bl c ∧ Q (.bl (!c)) H1) : tNotV ta σ H Q := q
theorem r_par {i j : Nat} {ta : TA} (q : ta σ H fun vs H1 => ∃ v w, vs = [v, w] ∧ D.nx ((σ.set i (some v)).set j (some w)) H1) : tPar i j ta D σ H := q
theorem r_two {v w : V} {Q : V → V → Prop} (q : Q v w) : ∃ a b, [v, w] = [a, b] ∧ Q a b := ⟨v, w, rfl, q⟩
theorem r_ixL {p : Addr} {xs : List V} {i : Int} {v : V} (h : SqL K H p xs) (a : atI xs i = some v) (q : Q v H) : rIxL K (.ref p) (.int i) H Q := ⟨p, xs, i, v, rfl, rfl, h, a, q⟩
theorem r_ixT {p : Addr} {xs : List V} {i : Int} {v : V} (h : SqT K H p xs) (a : atI xs i = some v) (q : Q v H) : rIxT K (.ref p) (.int i) H Q := ⟨p, xs, i, v, rfl, rfl, h, a, q⟩
theorem r_setL {p : Addr} {xs : List V} {k : Int} {j : Nat} {v : V} {Q : Hp → Prop} (h : H p = some (.lst xs)) (a : ixN xs.length k = some j) (q : Q (upd H p (.lst (xs.set j v)))) : rSetL (.ref p) (.int k) v H Q := ⟨p, xs, k, j, rfl, rfl, h, a, q⟩
theorem r_isi {x : V} {a b : String} {r : Bool} (ty : TyX K H x (.type a)) (h : kitB a b = some r) (q : Q (.bl r) H) : rIsi K [x, .ty b] H Q := ⟨x, .ty b, .type a, .type b, r, rfl, .ty b, ty, kit_ty h, q⟩
theorem r_eqFr {p q : Addr} {a b c d : Int} (h1 : SqT K H p [.int a, .int b]) (h2 : SqT K H q [.int c, .int d]) (e : a = c ∧ b = d) (k : Q (.bl true) H) : rEqD K (.ref p) (.ref q) H Q := by
  obtain ⟨rfl, rfl⟩ := e
  refine ⟨.tuple [.int a, .int b], .tuple [.int a, .int b], .tup h1 (.cons (.int a) (.cons (.int b) .nil)), .tup h2 (.cons (.int a) (.cons (.int b) .nil)), rfl, rfl, ?_⟩
  rw [SeqAt.eqv_refl _ rfl]
  exact k
/-- a test that is open -/
theorem r_ite {c : Prop} [Decidable c] {A B : Prop} (h1 : c → A) (h2 : ¬ c → B) : if decide c = true then A else B := by
  by_cases h : c
  · rw [decide_eq_true h]; exact h1 h
  · rw [decide_eq_false h]; exact h2 h
theorem r_iteN {c : Prop} [Decidable c] {A B : Prop} (h1 : ¬ c → A) (h2 : c → B) : if (!decide c) = true then A else B := by
  by_cases h : c
  · rw [decide_eq_true h]; exact h2 h
  · rw [decide_eq_false h]; exact h1 h
theorem r_T {A B : Prop} (h : A) : if true = true then A else B := iteT h
theorem r_dT {c : Bool} {A B : Prop} (hc : c = true) (h : A) : if c = true then A else B := by rw [hc]; exact iteT h
theorem r_dF {c : Bool} {A B : Prop} (hc : c = false) (h : B) : if c = true then A else B := by rw [hc]; exact iteF h
theorem r_nT {A B : Prop} (h : B) : if (!true) = true then A else B := iteF h
theorem r_nF {A B : Prop} (h : A) : if (!false) = true then A else B := iteT h
theorem r_F {A B : Prop} (h : B) : if false = true then A else B := iteF h
end
/-- a while by a word and a measure -/
theorem r_while {σ : St} {H : Hp} {D : Ends} {c : TT} {tb : TS} (Pv : St → Hp → Prop) (μ : St → Hp → Nat) (h0 : Pv σ H)
    (hs : ∀ σ1 H1, Pv σ1 H1 → c σ1 H1 fun b H2 => if b = true then ∃ N : St → Hp → Prop, (∀ σ2 H2, N σ2 H2 → ∃ m, m < μ σ1 H1 ∧ m = μ σ2 H2 ∧ Pv σ2 H2) ∧ tb { D with nx := N, ct := N, bk := D.nx } σ1 H2 else D.nx σ1 H2) : tWhile c tb D σ H := by
  refine ⟨fun m σ H => m = μ σ H ∧ Pv σ H, ⟨_, rfl, h0⟩, ?_⟩
  rintro m σ H ⟨rfl, p⟩
  exact hs σ H p
theorem r_turn {σ : St} {H : Hp} {D : Ends} {tb : TS} {Pv : St → Hp → Prop} {μ : St → Hp → Nat} {n : Nat} (q : tb { D with nx := fun σ2 H2 => Pv σ2 H2 ∧ μ σ2 H2 < n, ct := fun σ2 H2 => Pv σ2 H2 ∧ μ σ2 H2 < n, bk := D.nx } σ H) :
    ∃ N : St → Hp → Prop, (∀ σ2 H2, N σ2 H2 → ∃ m, m < n ∧ m = μ σ2 H2 ∧ Pv σ2 H2) ∧ tb { D with nx := N, ct := N, bk := D.nx } σ H :=
  ⟨_, fun _ _ h => ⟨_, h.2, rfl, h.1⟩, q⟩
theorem sz {n : Nat} (h : Nat.ble n 1000 = true) : n ≤ sizeLine := Nat.le_of_lt (small1000 (Nat.le_of_ble_eq_true h))
/-! ### heaps -/
/-- all but p is as it was -/
def But (p : Addr) (H H' : Hp) : Prop := ∀ b o, b ≠ p → H b = some o → H' b = some o
theorem But.refl (p : Addr) (H : Hp) : But p H H := fun _ _ _ h => h
theorem But.trans {p : Addr} {H H1 H2 : Hp} (a : But p H H1) (b : But p H1 H2) : But p H H2 := fun c o n h => b c o n (a c o n h)
theorem But.upd (p : Addr) (H : Hp) (o : HO) : But p H (upd H p o) := fun b o' n h => by rw [upd_ne n]; exact h
theorem But.same {p : Addr} {H H' : Hp} (s : Same H H') : But p H H' := fun b o _ h => s b o h
/-- what stood ahead of p's making stands -/
theorem Same.but {H0 H H' : Hp} {p : Addr} (s : Same H0 H) (n : H0 p = none) (b : But p H H') : Same H0 H' := fun c o h => b c o (ne_of_none h n) (s c o h)
theorem same_new {H : Hp} {p : Addr} (h : H p = none) (o : HO) : Same H (upd H p o) := fun b u q => by rw [upd_ne (ne_of_none q h)]; exact q
theorem nw {H : Hp} {p : Addr} (n : H p = none) (o : HO) : ∃ H1, H1 = upd H p o ∧ Same H H1 ∧ H1 p = some o := ⟨_, rfl, same_new n o, upd_same⟩
theorem _root_.L2.Same.tp {K : PySem.W.Frag} {H H' : Hp} {a : Addr} {xs : List V} (e : Same H H') (h : SqT K H a xs) : SqT K H' a xs := by
  rcases h with (h | ⟨o, h⟩) | h
  · exact .inl (.inl (e _ _ h))
  · exact .inl (.inr ⟨o, e _ _ h⟩)
  · exact .inr h
theorem But.tup {K : PySem.W.Frag} {H H' : Hp} {a p : Addr} {xs ys : List V} (e : But p H H') (hp : H p = some (.lst ys)) (h : SqT K H a xs) : SqT K H' a xs := by
  rcases h with (h | ⟨o, h⟩) | h
  · exact .inl (.inl (e _ _ (fun z => by rw [z, hp] at h; cases h) h))
  · exact .inl (.inr ⟨o, e _ _ (fun z => by rw [z, hp] at h; cases h) h⟩)
  · exact .inr h
theorem tupOf {K : PySem.W.Frag} {H : Hp} {a : Addr} {xs : List V} (h : H a = some (.tup xs)) : SqT K H a xs := .inl (.inl h)
theorem lstOf {K : PySem.W.Frag} {H : Hp} {a : Addr} {xs : List V} (h : H a = some (.lst xs)) : SqL K H a xs := .inl (.inl h)
/-! ### sizes -/
abbrev Sm (n : Nat) (i : Int) : Prop := i.natAbs < 2 ^ n
theorem Sm.mono {m n : Nat} {i : Int} (h : Sm m i) (l : m ≤ n) : Sm n i := Nat.lt_of_lt_of_le h (Nat.pow_le_pow_right (by decide) l)
theorem Sm.le {n : Nat} {i j : Int} (h : Sm n j) (l : i.natAbs ≤ j.natAbs) : Sm n i := Nat.lt_of_le_of_lt l h
theorem Sm.mul {m n : Nat} {i j : Int} (h : Sm m i) (l : Sm n j) : Sm (m + n) (i * j) := wide_lt h l
theorem Sm.neg {n : Nat} {i : Int} (h : Sm n i) : Sm n (-i) := by rw [Sm, Int.natAbs_neg]; exact h
theorem Sm.add {n : Nat} {i j : Int} (h : Sm n i) (l : Sm n j) : Sm (n + 1) (i + j) := by
  have := Int.natAbs_add_le i j
  unfold Sm at *
  rw [Nat.pow_succ]
  omega
theorem Sm.sub {n : Nat} {i j : Int} (h : Sm n i) (l : Sm n j) : Sm (n + 1) (i - j) := by
  rw [Int.sub_eq_add_neg]; exact h.add l.neg
theorem Sm.cmul {m n : Nat} {i j : Int} (h : Sm m i) (l : Sm n j) (h0 : 0 < m := by decide) (h1 : 0 < n := by decide) (s : m + n ≤ 1000000 := by decide) : CMulW i j := wide_mul h l h0 h1 s
theorem Sm.cdiv {n : Nat} {i j : Int} (p : 0 < j) (l : Sm n j) (h1 : 0 < n := by decide) (s : n ≤ 9000 := by decide) : CDivW i j := wide_div p l h1 s
theorem Sm.of_lt {n : Nat} {i j : Int} (h0 : 0 ≤ i) (h : i < j) (s : j.natAbs ≤ 2 ^ n) : Sm n i := by unfold Sm; omega
end Mb
namespace Mb
open PySem L2
theorem Sm.addm {m n : Nat} {i j : Int} (h : Sm m i) (l : Sm n j) : Sm (max m n + 1) (i + j) := (h.mono (Nat.le_max_left _ _)).add (l.mono (Nat.le_max_right _ _))
theorem Sm.subm {m n : Nat} {i j : Int} (h : Sm m i) (l : Sm n j) : Sm (max m n + 1) (i - j) := (h.mono (Nat.le_max_left _ _)).sub (l.mono (Nat.le_max_right _ _))
theorem Sm.lit {i : Int} (h : i.natAbs < 2 ^ 64) : Sm 64 i := h
theorem Sm.lit2 {i : Int} (h : i.natAbs < 2 ^ 512) : Sm 512 i := h
/-! ### lowest terms -/
def lowT (t b : Int) : Int := (if b < 0 then -t else t) / (Int.gcd t b : Int)
def lowB (t b : Int) : Int := (if b < 0 then -b else b) / (Int.gcd t b : Int)
theorem gcd_pos {t b : Int} (hb : b ≠ 0) : 0 < (Int.gcd t b : Int) := by
  have := Int.gcd_pos_of_ne_zero_right t hb
  omega
theorem lowB_pos {t b : Int} (hb : b ≠ 0) : 0 < lowB t b := by
  unfold lowB
  have g := gcd_pos (t := t) hb
  have d : (Int.gcd t b : Int) ∣ (if b < 0 then -b else b) := by
    split
    · exact (Int.dvd_neg).mpr (Int.gcd_dvd_right t b)
    · exact Int.gcd_dvd_right t b
  have p : 0 < (if b < 0 then -b else b) := by split <;> omega
  exact Int.ediv_pos_of_pos_of_dvd p (by omega) d
theorem ediv_abs {x g : Int} (hg : 0 < g) (d : g ∣ x) : (x / g).natAbs ≤ x.natAbs := by
  obtain ⟨k, rfl⟩ := d
  rw [Int.mul_ediv_cancel_left k (by omega), Int.natAbs_mul]
  have : 1 ≤ g.natAbs := by omega
  calc k.natAbs = 1 * k.natAbs := by rw [Nat.one_mul]
    _ ≤ g.natAbs * k.natAbs := Nat.mul_le_mul_right _ this
theorem lowT_le {t b : Int} (hb : b ≠ 0) : (lowT t b).natAbs ≤ t.natAbs := by
  unfold lowT
  have g := gcd_pos (t := t) hb
  have d : (Int.gcd t b : Int) ∣ (if b < 0 then -t else t) := by
    split
    · exact (Int.dvd_neg).mpr (Int.gcd_dvd_left t b)
    · exact Int.gcd_dvd_left t b
  have := ediv_abs g d
  split at this <;> split <;> simp_all
theorem lowB_le {t b : Int} (hb : b ≠ 0) : (lowB t b).natAbs ≤ b.natAbs := by
  unfold lowB
  have g := gcd_pos (t := t) hb
  have d : (Int.gcd t b : Int) ∣ (if b < 0 then -b else b) := by
    split
    · exact (Int.dvd_neg).mpr (Int.gcd_dvd_right t b)
    · exact Int.gcd_dvd_right t b
  have := ediv_abs g d
  split at this <;> split <;> simp_all
theorem low_gcd {t b : Int} (hb : b ≠ 0) : Int.gcd (lowT t b) (lowB t b) = 1 := by
  have g : 0 < Int.gcd t b := Int.gcd_pos_of_ne_zero_right t hb
  have key : ∀ x y : Int, Int.gcd x y = Int.gcd t b → Int.gcd (x / (Int.gcd t b : Int)) (y / (Int.gcd t b : Int)) = 1 := by
    intro x y e
    rw [← e]
    rw [← e] at g
    exact Int.gcd_ediv_gcd_ediv_gcd g
  unfold lowT lowB
  split
  · exact key _ _ (by rw [Int.neg_gcd, Int.gcd_neg])
  · exact key _ _ rfl
theorem low_cross {t b : Int} (hb : b ≠ 0) : lowT t b * b = t * lowB t b := by
  have g := gcd_pos (t := t) hb
  obtain ⟨x, hx⟩ := Int.gcd_dvd_left t b
  obtain ⟨y, hy⟩ := Int.gcd_dvd_right t b
  have eT : ∀ s : Int, s = (Int.gcd t b : Int) * x → s / (Int.gcd t b : Int) = x := fun s e => by rw [e, Int.mul_ediv_cancel_left _ (by omega)]
  have eB : ∀ s : Int, s = (Int.gcd t b : Int) * y → s / (Int.gcd t b : Int) = y := fun s e => by rw [e, Int.mul_ediv_cancel_left _ (by omega)]
  unfold lowT lowB
  by_cases h : b < 0
  · rw [if_pos h, if_pos h]
    rw [show -t = (Int.gcd t b : Int) * (-x) by rw [Int.mul_neg, ← hx], show -b = (Int.gcd t b : Int) * (-y) by rw [Int.mul_neg, ← hy], Int.mul_ediv_cancel_left _ (by omega), Int.mul_ediv_cancel_left _ (by omega)]
    have e1 : b = (Int.gcd t b : Int) * y := hy
    have e2 : t = (Int.gcd t b : Int) * x := hx
    generalize (Int.gcd t b : Int) = q at *
    subst e1 e2
    simp only [Int.neg_mul, Int.mul_neg, Int.mul_assoc, Int.mul_comm, Int.mul_left_comm]
  · rw [if_neg h, if_neg h, eT t hx, eB b hy]
    have e1 : b = (Int.gcd t b : Int) * y := hy
    have e2 : t = (Int.gcd t b : Int) * x := hx
    generalize (Int.gcd t b : Int) = q at *
    subst e1 e2
    simp only [Int.mul_assoc, Int.mul_comm, Int.mul_left_comm]
theorem cop_dvd {u t y : Int} (g : Int.gcd t u = 1) (d : u ∣ t * y) : u ∣ y := by
  have d1 : u.natAbs ∣ t.natAbs * y.natAbs := by rw [← Int.natAbs_mul]; exact Int.natAbs_dvd_natAbs.mpr d
  have c : Nat.Coprime u.natAbs t.natAbs := by rw [Nat.coprime_comm]; exact g
  exact Int.natAbs_dvd_natAbs.mp (c.dvd_of_dvd_mul_left d1)
/-- one worth has one form in lowest terms -/
theorem frac_unique {t u x y : Int} (hu : 0 < u) (hy : 0 < y) (g1 : Int.gcd t u = 1) (g2 : Int.gcd x y = 1) (e : t * y = x * u) : t = x ∧ u = y := by
  have d1 : u ∣ y := cop_dvd g1 ⟨x, by rw [e, Int.mul_comm]⟩
  have d2 : y ∣ u := cop_dvd g2 ⟨t, by rw [← e, Int.mul_comm]⟩
  have e2 : u = y := Int.dvd_antisymm (by omega) (by omega) d1 d2
  subst e2
  exact ⟨Int.eq_of_mul_eq_mul_right (by omega) e, rfl⟩
theorem low_eq {a b t u : Int} (hb : b ≠ 0) (hu : 0 < u) (g : Int.gcd t u = 1) (e : a * u = t * b) : lowT a b = t ∧ lowB a b = u := by
  refine frac_unique (lowB_pos hb) hu (low_gcd hb) g ?_
  have c := low_cross (t := a) hb
  apply Int.eq_of_mul_eq_mul_right hb
  calc lowT a b * u * b = lowT a b * b * u := by simp only [Int.mul_assoc, Int.mul_comm, Int.mul_left_comm]
    _ = a * lowB a b * u := by rw [c]
    _ = a * u * lowB a b := by simp only [Int.mul_assoc, Int.mul_comm, Int.mul_left_comm]
    _ = t * b * lowB a b := by rw [e]
    _ = t * lowB a b * b := by simp only [Int.mul_assoc, Int.mul_comm, Int.mul_left_comm]
theorem fdiv_exact {x g : Int} (d : g ∣ x) (c : Bool) : x.fdiv (if c then -g else g) = (if c then -x else x) / g := by
  cases c with
  | false => exact Int.fdiv_eq_ediv_of_dvd d
  | true =>
    show x.fdiv (-g) = -x / g
    rw [Int.fdiv_eq_ediv_of_dvd (Int.neg_dvd.mpr d), Int.ediv_neg, Int.neg_ediv_of_dvd d]
theorem gcd_step {x y : Int} (hx : 0 ≤ x) (hy : 0 < y) : Int.gcd y (x % y) = Int.gcd x y := by
  have e : ∃ m n : Nat, x = m ∧ y = n := ⟨x.toNat, y.toNat, by omega, by omega⟩
  obtain ⟨m, n, rfl, rfl⟩ := e
  have c : ((m : Int) % (n : Int)) = ((m % n : Nat) : Int) := by norm_cast
  rw [c, Int.gcd_natCast_natCast, Int.gcd_natCast_natCast, Nat.gcd_comm n, ← Nat.gcd_rec, Nat.gcd_comm]
theorem gcd_sm {t b : Int} {n : Nat} (hb : b ≠ 0) (sb : Sm n b) : Sm n (Int.gcd t b : Int) := sb.le (by
  have : (Int.gcd t b : Int) ∣ b := Int.gcd_dvd_right t b
  have := Int.le_of_dvd (show 0 < (b.natAbs : Int) by omega) (Int.dvd_natAbs.mpr this)
  omega)
end Mb
namespace Mb
open PySem L2
/-! ### promises of the law's own drawing -/
/-- a pool of draws at p: three numbers, the second from 0 to b -/
def Pl (H : Hp) (p : Addr) (b : Int) : Prop := ∃ x y z : Int, H p = some (.lst [.int x, .int y, .int z]) ∧ 0 ≤ y ∧ y ≤ b
theorem Pl.mono {H : Hp} {p : Addr} {b c : Int} (h : Pl H p b) (l : b ≤ c) : Pl H p c := by
  obtain ⟨x, y, z, h1, h2, h3⟩ := h
  exact ⟨x, y, z, h1, h2, by omega⟩
theorem Pl.same {H H' : Hp} {p : Addr} {b : Int} (h : Pl H p b) (s : Same H H') : Pl H' p b := by
  obtain ⟨x, y, z, h1, h2, h3⟩ := h
  exact ⟨x, y, z, s _ _ h1, h2, h3⟩
theorem Pl.but {H H' : Hp} {p q : Addr} {b : Int} (h : Pl H p b) (n : p ≠ q) (s : But q H H') : Pl H' p b := by
  obtain ⟨x, y, z, h1, h2, h3⟩ := h
  exact ⟨x, y, z, s _ _ n h1, h2, h3⟩
theorem Pl.tup {K : PySem.W.Frag} {H H' : Hp} {a p : Addr} {b : Int} {xs : List V} (h : Pl H p b) (s : But p H H') (t : SqT K H a xs) : SqT K H' a xs := by
  obtain ⟨x, y, z, h1, _⟩ := h
  exact s.tup h1 t
def spPool (K : PySem.W.Frag) : Sp := fun vs H Q _ => ∃ (a : Addr) (ns : List Int) (i : Int), vs = [.ref a, .int i] ∧ SqL K H a (ns.map V.int) ∧ ns.length ≤ 63 ∧ 0 ≤ i ∧ i ≤ 1000 ∧
  ∀ (p : Addr) (H' : Hp), Same H H' → H p = none → Pl H' p 1000000 → Q (.ref p) H'
def spTake : Sp := fun vs H Q _ => ∃ (p : Addr) (k b : Int), vs = [.ref p, .int k] ∧ Pl H p b ∧ b ≤ 2000000 ∧ 1 ≤ k ∧ k ≤ 1000000 ∧
  ∀ (r : Int) (H' : Hp), But p H H' → Pl H' p (b + 1) → 0 ≤ r → r < k → Q (.int r) H'
def spGcd : Sp := fun vs H Q _ => ∃ a b : Int, vs = [.int a, .int b] ∧ Q (.int (Int.gcd a b)) H
def spLow : Sp := fun vs H Q _ => ∃ t b : Int, vs = [.int t, .int b] ∧ b ≠ 0 ∧ Sm 8000 b ∧
  ∀ (p : Addr) (H' : Hp), Same H H' → H p = none → H' p = some (.tup [.int (lowT t b), .int (lowB t b)]) → Q (.ref p) H'
/-- a number of the pool, from 0 on, below 2 ^ 210 -/
def spNumber : Sp := fun vs H Q _ => ∃ (p : Addr) (b : Int), vs = [.ref p] ∧ Pl H p b ∧ b ≤ 1900000 ∧
  ∀ (r : Int) (H' : Hp), But p H H' → Pl H' p (b + 100) → 0 ≤ r → Sm 210 r → Q (.int r) H'
/-- a fraction: its two numbers, in lowest terms -/
structure Fr (m : Nat) (t u : Int) : Prop where
  pos : 0 < u
  one : Int.gcd t u = 1
  st : Sm m t
  su : Sm m u
def spWide : Sp := fun vs H Q _ => ∃ (p : Addr) (b : Int), vs = [.ref p] ∧ Pl H p b ∧ b ≤ 1800000 ∧
  ∀ (q : Addr) (t u : Int) (H' : Hp), But p H H' → Pl H' p (b + 300) → H' q = some (.tup [.int t, .int u]) → Fr 211 t u → Q (.ref q) H'
def spPair (K : PySem.W.Frag) : Sp := fun vs H Q _ => ∃ (a : Addr) (ns : List Int) (i : Int), vs = [.ref a, .int i] ∧ SqL K H a (ns.map V.int) ∧ ns.length ≤ 63 ∧ 0 ≤ i ∧ i ≤ 900 ∧
  ∀ (r p q : Addr) (t u x y : Int) (H' : Hp), Same H H' → H' r = some (.tup [.ref p, .ref q]) → SqT K H' p [.int t, .int u] → SqT K H' q [.int x, .int y] → Fr 211 t u → Fr 211 x y → Q (.ref r) H'
def spAsked (K : PySem.W.Frag) : Sp := fun vs H Q _ => ∃ (a : Addr) (ns : List Int) (i : Int), vs = [.ref a, .int i] ∧ SqL K H a (ns.map V.int) ∧ ns.length ≤ 63 ∧ 0 ≤ i ∧ i ≤ 900 ∧ ∀ H', Same H H' → Q (.bl true) H'
def spLaw (K : PySem.W.Frag) : Sp := fun vs H Q _ => ∃ (a : Addr) (ns : List Int), vs = [.ref a] ∧ SqL K H a (ns.map V.int) ∧ ns.length ≤ 63 ∧ ∀ H', Q (.bl true) H'
end Mb
namespace Mb
open PySem L2
/-! ### promises of what reckons with fractions -/
def spArith (K : PySem.W.Frag) (T B : Int → Int → Int → Int → Int) : Sp := fun vs H Q _ => ∃ (a b : Addr) (x y u v : Int) (n m : Nat), vs = [.ref a, .ref b] ∧ SqT K H a [.int x, .int y] ∧ SqT K H b [.int u, .int v] ∧ Sm n x ∧ Sm n y ∧ Sm m u ∧ Sm m v ∧ n + m ≤ 8000 ∧ B x y u v ≠ 0 ∧
  ∀ (p : Addr) (H' : Hp), Same H H' → H p = none → H' p = some (.tup [.int (lowT (T x y u v) (B x y u v)), .int (lowB (T x y u v) (B x y u v))]) → Q (.ref p) H'
def spRaw (K : PySem.W.Frag) (T B : Int → Int → Int → Int → Int) : Sp := fun vs H Q _ => ∃ (a b : Addr) (x y u v : Int), vs = [.ref a, .ref b] ∧ SqT K H a [.int x, .int y] ∧ SqT K H b [.int u, .int v] ∧ Sm 20000 x ∧ Sm 20000 y ∧ Sm 20000 u ∧ Sm 20000 v ∧
  ∀ (p : Addr) (H' : Hp), Same H H' → H p = none → H' p = some (.tup [.int (T x y u v), .int (B x y u v)]) → Q (.ref p) H'
def spEven (K : PySem.W.Frag) : Sp := fun vs H Q _ => ∃ (a b : Addr) (x y u v : Int), vs = [.ref a, .ref b] ∧ SqT K H a [.int x, .int y] ∧ SqT K H b [.int u, .int v] ∧ Sm 100000 x ∧ Sm 100000 y ∧ Sm 100000 u ∧ Sm 100000 v ∧ Q (.bl (decide (x * v = u * y))) H
def spWhole : Sp := fun vs H Q _ => ∃ i : Int, vs = [.int i] ∧ Q (.bl true) H
def spIsFrac : Sp := fun vs H Q _ => ∃ (p : Addr) (t u : Int), vs = [.ref p] ∧ H p = some (.tup [.int t, .int u]) ∧ 0 < u ∧ Int.gcd t u = 1 ∧ Q (.bl true) H
end Mb
namespace Mb
open PySem L2
/-! ### the drawing of the laws of places, lines and circles -/
def Sr (H : Hp) (p : Addr) (b : Int) : Prop := ∃ x y z : Int, H p = some (.lst [.int x, .int y, .int z]) ∧ 0 ≤ y ∧ y < 2147483629 ∧ 0 ≤ z ∧ z ≤ b
theorem Sr.mono {H : Hp} {p : Addr} {b c : Int} (h : Sr H p b) (l : b ≤ c) : Sr H p c := by
  obtain ⟨x, y, z, h1, h2, h3, h4, h5⟩ := h
  exact ⟨x, y, z, h1, h2, h3, h4, by omega⟩
theorem Sr.same {H H' : Hp} {p : Addr} {b : Int} (h : Sr H p b) (s : Same H H') : Sr H' p b := by
  obtain ⟨x, y, z, h1, h2⟩ := h
  exact ⟨x, y, z, s _ _ h1, h2⟩
theorem Sr.but {H H' : Hp} {p q : Addr} {b : Int} (h : Sr H p b) (n : p ≠ q) (s : But q H H') : Sr H' p b := by
  obtain ⟨x, y, z, h1, h2⟩ := h
  exact ⟨x, y, z, s _ _ n h1, h2⟩
theorem Sr.tup {K : PySem.W.Frag} {H H' : Hp} {a p : Addr} {b : Int} {xs : List V} (h : Sr H p b) (s : But p H H') (t : SqT K H a xs) : SqT K H' a xs := by
  obtain ⟨x, y, z, h1, _⟩ := h
  exact s.tup h1 t
theorem Sr.ne {H : Hp} {p l : Addr} {b : Int} (h : Sr H p b) (n : H l = none) : l ≠ p := fun z => by
  obtain ⟨_, _, _, h1, _⟩ := h
  rw [z, h1] at n
  cases n
theorem Sr.ne2 {H : Hp} {p q : Addr} {b : Int} (h : Sr H p b) (n : H q = none) : p ≠ q := fun z => h.ne n z.symm
def spStream (K : PySem.W.Frag) : Sp := fun vs H Q _ => ∃ (a : Addr) (ns : List Int) (i : Int), vs = [.ref a, .int i] ∧ SqL K H a (ns.map V.int) ∧ ns.length ≤ 63 ∧ 0 ≤ i ∧ i ≤ 1000 ∧
  ∀ (p : Addr) (H' : Hp), Same H H' → H p = none → Sr H' p 0 → Q (.ref p) H'
def spTakeS : Sp := fun vs H Q _ => ∃ (p : Addr) (k b : Int), vs = [.ref p, .int k] ∧ Sr H p b ∧ b ≤ 100000 ∧ 1 ≤ k ∧ Sm 1000 k ∧
  ∀ (r : Int) (H' : Hp), But p H H' → Sr H' p (b + 1) → 0 ≤ r → r < k → Q (.int r) H'
def spGreat : Sp := fun vs H Q _ => ∃ (p : Addr) (b : Int), vs = [.ref p] ∧ Sr H p b ∧ b ≤ 90000 ∧
  ∀ (r : Int) (H' : Hp), But p H H' → Sr H' p (b + 10) → 0 ≤ r → Sm 200 r → Q (.int r) H'
/-- the bits of a number of so many sizes -/
def nb (k : Int) : Nat := if k ≤ 4 then 10 else if k ≤ 5 then 30 else 210
theorem nb_le (k : Int) : nb k ≤ 210 := by
  unfold nb
  split
  · decide
  · split <;> decide
theorem nb_ge (k : Int) : 10 ≤ nb k := by
  unfold nb
  split
  · decide
  · split <;> decide
theorem nb_5 {k : Int} (h : 5 ≤ k) : 30 ≤ nb k := by
  unfold nb
  split
  · omega
  · split <;> decide
theorem nb_6 {k : Int} (h : 6 ≤ k) : nb k = 210 := by
  unfold nb
  rw [if_neg (by omega), if_neg (by omega)]
def spNumberZ : Sp := fun vs H Q _ => ∃ (p : Addr) (k b : Int), vs = [.ref p, .int k] ∧ Sr H p b ∧ b ≤ 80000 ∧ 1 ≤ k ∧ k ≤ 100 ∧
  ∀ (r : Int) (H' : Hp), But p H H' → Sr H' p (b + 20) → Sm (nb k) r → Q (.int r) H'
def spLowest (K : PySem.W.Frag) : Sp := fun vs H Q _ => ∃ (a : Addr) (t b : Int), vs = [.ref a] ∧ SqT K H a [.int t, .int b] ∧ b ≠ 0 ∧ Sm 8900 b ∧
  ∀ (p : Addr) (H' : Hp), Same H H' → H p = none → H' p = some (.tup [.int (lowT t b), .int (lowB t b)]) → Q (.ref p) H'
def spFractionZ : Sp := fun vs H Q _ => ∃ (p : Addr) (k b : Int), vs = [.ref p, .int k] ∧ Sr H p b ∧ b ≤ 70000 ∧ 1 ≤ k ∧ k ≤ 100 ∧
  ∀ (q : Addr) (t u : Int) (H' : Hp), But p H H' → Sr H' p (b + 50) → H' q = some (.tup [.int t, .int u]) → Fr (nb k + 1) t u → Q (.ref q) H'
/-- a place at a: its two fractions -/
structure Pc (K : PySem.W.Frag) (H : Hp) (a : Addr) (m : Nat) (t u r s : Int) : Prop where
  at_ : ∃ f g, SqT K H a [.ref f, .ref g] ∧ SqT K H f [.int t, .int u] ∧ SqT K H g [.int r, .int s]
  x : Fr m t u
  y : Fr m r s
theorem Pc.same {K : PySem.W.Frag} {H H' : Hp} {a : Addr} {m : Nat} {t u r s : Int} (h : Pc K H a m t u r s) (e : Same H H') : Pc K H' a m t u r s := by
  obtain ⟨⟨f, g, h1, h2, h3⟩, hx, hy⟩ := h
  exact ⟨⟨f, g, e.tp h1, e.tp h2, e.tp h3⟩, hx, hy⟩
theorem Pc.but {K : PySem.W.Frag} {H H' : Hp} {a p : Addr} {m : Nat} {b t u r s : Int} (h : Pc K H a m t u r s) (hp : Sr H p b) (e : But p H H') : Pc K H' a m t u r s := by
  obtain ⟨⟨f, g, h1, h2, h3⟩, hx, hy⟩ := h
  exact ⟨⟨f, g, hp.tup e h1, hp.tup e h2, hp.tup e h3⟩, hx, hy⟩
def spPlaceZ (K : PySem.W.Frag) : Sp := fun vs H Q _ => ∃ (p : Addr) (k b : Int), vs = [.ref p, .int k] ∧ Sr H p b ∧ b ≤ 60000 ∧ 1 ≤ k ∧ k ≤ 100 ∧
  ∀ (q : Addr) (t u r s : Int) (H' : Hp), But p H H' → Sr H' p (b + 100) → Pc K H' q (nb k + 1) t u r s → Q (.ref q) H'
def spNear (K : PySem.W.Frag) : Sp := fun vs H Q _ => ∃ (p : Addr) (k b : Int) (q : Addr) (t u r s : Int), vs = [.ref p, .int k, .ref q] ∧ Sr H p b ∧ b ≤ 50000 ∧ 1 ≤ k ∧ k ≤ 100 ∧ Pc K H q (nb k + 1) t u r s ∧
  ∀ (a : Addr) (t' u' r' s' : Int) (H' : Hp), But p H H' → Sr H' p (b + 200) → Pc K H' a (nb k + 1) t' u' r' s' → Q (.ref a) H'
theorem tyT {K : PySem.W.Frag} {H : Hp} {a : Addr} {xs : List V} (h : SqT K H a xs) : TyX K H (.ref a) (.type "tuple") := by
  rcases h with (h | ⟨o, h⟩) | ⟨o, its, n, h, c, _⟩
  · exact .base (.tup h)
  · exact .fTuple h
  · exact .kTuple h c
def spIsFr (K : PySem.W.Frag) : Sp := fun vs H Q _ => ∃ (p : Addr) (t u : Int), vs = [.ref p] ∧ SqT K H p [.int t, .int u] ∧ 0 < u ∧ Int.gcd t u = 1 ∧ Q (.bl true) H
def spIsPl (K : PySem.W.Frag) : Sp := fun vs H Q _ => ∃ (p f g : Addr) (t u r s : Int), vs = [.ref p] ∧ SqT K H p [.ref f, .ref g] ∧ SqT K H f [.int t, .int u] ∧ SqT K H g [.int r, .int s] ∧ 0 < u ∧ Int.gcd t u = 1 ∧ 0 < s ∧ Int.gcd r s = 1 ∧ Q (.bl true) H
end Mb
namespace Mb
open PySem L2
/-! ### fractions as rationals -/
theorem low_rat {t b : Int} (hb : b ≠ 0) : lowT t b = (Rat.divInt t b).num ∧ lowB t b = ((Rat.divInt t b).den : Int) := by
  have hd : ((Rat.divInt t b).den : Int) ≠ 0 := by have := (Rat.divInt t b).den_nz; omega
  refine low_eq hb (by omega) (Rat.divInt t b).reduced ?_
  have e := Rat.num_divInt_den (Rat.divInt t b)
  exact ((Rat.divInt_eq_divInt_iff hd hb).mp e).symm
/-- the sizes of a rational's numbers -/
structure Sz (n : Nat) (q : Rat) : Prop where
  t : Sm n q.num
  b : Sm n (q.den : Int)
theorem Sz.mono {m n : Nat} {q : Rat} (h : Sz m q) (l : m ≤ n) : Sz n q := ⟨h.t.mono l, h.b.mono l⟩
theorem Sz.lit {q : Rat} (h1 : Sm 8 q.num) (h2 : Sm 8 (q.den : Int)) : Sz 8 q := ⟨h1, h2⟩
theorem Sz.divInt {n : Nat} {t b : Int} (hb : b ≠ 0) (h1 : Sm n t) (h2 : Sm n b) : Sz n (Rat.divInt t b) := by
  obtain ⟨e1, e2⟩ := low_rat (t := t) hb
  refine ⟨?_, ?_⟩
  · rw [← e1]; exact h1.le (lowT_le hb)
  · rw [← e2]; exact h2.le (lowB_le hb)
theorem den_ne (q : Rat) : (q.den : Int) ≠ 0 := by have := q.den_nz; omega
theorem den_pos (q : Rat) : 0 < (q.den : Int) := by have := q.den_nz; omega
theorem add_dv (p q : Rat) : p + q = Rat.divInt (p.num * q.den + q.num * p.den) (p.den * q.den) := by
  rw [← Rat.divInt_add_divInt _ _ (den_ne p) (den_ne q), Rat.num_divInt_den, Rat.num_divInt_den]
theorem sub_dv (p q : Rat) : p - q = Rat.divInt (p.num * q.den - q.num * p.den) (p.den * q.den) := by
  rw [← Rat.divInt_sub_divInt _ _ (den_ne p) (den_ne q), Rat.num_divInt_den, Rat.num_divInt_den]
theorem mul_dv (p q : Rat) : p * q = Rat.divInt (p.num * q.num) (p.den * q.den) := by
  rw [← Rat.divInt_mul_divInt, Rat.num_divInt_den, Rat.num_divInt_den]
theorem div_dv (p q : Rat) : p / q = Rat.divInt (p.num * q.den) (p.den * q.num) := by
  rw [Rat.div_def, ← Rat.divInt_mul_divInt, Rat.num_divInt_den, ← Rat.inv_divInt, Rat.num_divInt_den]
theorem Sz.add {m n : Nat} {p q : Rat} (h : Sz m p) (l : Sz n q) : Sz (m + n + 1) (p + q) := by
  rw [add_dv]
  exact Sz.divInt (Int.mul_ne_zero (den_ne p) (den_ne q)) (((h.t.mul l.b).add ((l.t.mul h.b).mono (by omega)))) ((h.b.mul l.b).mono (by omega))
theorem Sz.sub {m n : Nat} {p q : Rat} (h : Sz m p) (l : Sz n q) : Sz (m + n + 1) (p - q) := by
  rw [sub_dv]
  exact Sz.divInt (Int.mul_ne_zero (den_ne p) (den_ne q)) (((h.t.mul l.b).sub ((l.t.mul h.b).mono (by omega)))) ((h.b.mul l.b).mono (by omega))
theorem Sz.mul {m n : Nat} {p q : Rat} (h : Sz m p) (l : Sz n q) : Sz (m + n) (p * q) := by
  rw [mul_dv]
  exact Sz.divInt (Int.mul_ne_zero (den_ne p) (den_ne q)) (h.t.mul l.t) (h.b.mul l.b)
theorem Sz.div {m n : Nat} {p q : Rat} (h : Sz m p) (l : Sz n q) (hq : q ≠ 0) : Sz (m + n) (p / q) := by
  rw [div_dv]
  exact Sz.divInt (Int.mul_ne_zero (den_ne p) (fun z => hq (Rat.num_eq_zero.mp z))) (h.t.mul l.b) (h.b.mul l.t)
theorem Sz.neg {m : Nat} {p : Rat} (h : Sz m p) : Sz m (-p) := ⟨by rw [Rat.neg_num]; exact h.t.neg, h.b⟩
/-- a fraction stands at v -/
def Fq (K : PySem.W.Frag) (H : Hp) (v : V) (q : Rat) : Prop := ∃ a, v = .ref a ∧ SqT K H a [.int q.num, .int q.den]
theorem Fq.up {K : PySem.W.Frag} {H H' : Hp} {v : V} {q : Rat} (h : Fq K H v q) (s : Same H H') : Fq K H' v q := by
  obtain ⟨a, rfl, t⟩ := h
  exact ⟨a, rfl, s.tp t⟩
theorem Fq.of {K : PySem.W.Frag} {H : Hp} {a : Addr} {t b : Int} (q : Rat) (hb : b ≠ 0) (e : q = Rat.divInt t b) (h : H a = some (.tup [.int (lowT t b), .int (lowB t b)])) : Fq K H (.ref a) q := by
  obtain ⟨e1, e2⟩ := low_rat (t := t) hb
  rw [e1, e2, ← e] at h
  exact ⟨a, rfl, tupOf h⟩
/-- a fraction stands at v, in lowest terms or not -/
def Rq (K : PySem.W.Frag) (H : Hp) (v : V) (q : Rat) (n : Nat) : Prop := ∃ a t b, v = .ref a ∧ SqT K H a [.int t, .int b] ∧ b ≠ 0 ∧ q = Rat.divInt t b ∧ Sm n t ∧ Sm n b
theorem Rq.up {K : PySem.W.Frag} {H H' : Hp} {v : V} {q : Rat} {n : Nat} (h : Rq K H v q n) (s : Same H H') : Rq K H' v q n := by
  obtain ⟨a, t, b, rfl, h1, h2⟩ := h
  exact ⟨a, t, b, rfl, s.tp h1, h2⟩
theorem Fq.rq {K : PySem.W.Frag} {H : Hp} {v : V} {q : Rat} {n : Nat} (h : Fq K H v q) (s : Sz n q) : Rq K H v q n := by
  obtain ⟨a, rfl, t⟩ := h
  exact ⟨a, _, _, rfl, t, den_ne q, (Rat.num_divInt_den q).symm, s.t, s.b⟩
/-- a place stands at v -/
def Pq (K : PySem.W.Frag) (H : Hp) (v : V) (x y : Rat) : Prop := ∃ a f g, v = .ref a ∧ SqT K H a [f, g] ∧ Fq K H f x ∧ Fq K H g y
theorem Pq.up {K : PySem.W.Frag} {H H' : Hp} {v : V} {x y : Rat} (h : Pq K H v x y) (s : Same H H') : Pq K H' v x y := by
  obtain ⟨a, f, g, rfl, t, h1, h2⟩ := h
  exact ⟨a, f, g, rfl, s.tp t, h1.up s, h2.up s⟩
theorem Fq.but {K : PySem.W.Frag} {H H' : Hp} {v : V} {q : Rat} {p : Addr} {xs : List V} (h : Fq K H v q) (hp : H p = some (.lst xs)) (s : But p H H') : Fq K H' v q := by
  obtain ⟨a, rfl, t⟩ := h
  exact ⟨a, rfl, s.tup hp t⟩
theorem Pq.but {K : PySem.W.Frag} {H H' : Hp} {v : V} {x y : Rat} {p : Addr} {xs : List V} (h : Pq K H v x y) (hp : H p = some (.lst xs)) (s : But p H H') : Pq K H' v x y := by
  obtain ⟨a, f, g, rfl, t, h1, h2⟩ := h
  exact ⟨a, f, g, rfl, s.tup hp t, h1.but hp s, h2.but hp s⟩
/-! ### == of fractions, of places -/
def dq (q : Rat) : PyData := .tuple [.int q.num, .int q.den]
def dpl (x y : Rat) : PyData := .tuple [dq x, dq y]
theorem Fq.dp {K : PySem.W.Frag} {H : Hp} {v : V} {q : Rat} (h : Fq K H v q) : Dp K H v (dq q) := by
  obtain ⟨a, rfl, t⟩ := h
  exact .tup t (.cons (.int _) (.cons (.int _) .nil))
theorem Pq.dp {K : PySem.W.Frag} {H : Hp} {v : V} {x y : Rat} (h : Pq K H v x y) : Dp K H v (dpl x y) := by
  obtain ⟨a, f, g, rfl, t, h1, h2⟩ := h
  exact .tup t (.cons h1.dp (.cons h2.dp .nil))
theorem dq_inj {p q : Rat} (h : dq p = dq q) : p = q := by
  unfold dq at h
  injection h with h
  injection h with h1 h
  injection h with h2 h
  injection h1 with h1
  injection h2 with h2
  exact Rat.ext h1 (Int.ofNat_inj.mp h2)
section
variable {H : Hp} {Q : VK} {K : PySem.W.Frag}
theorem r_eqTrue {v w : V} {d : PyData} (h1 : Dp K H v d) (h2 : Dp K H w d) (sh : SeqAt.shaped d = true) (cl : PyData.canLay0 d = true) (k : Q (.bl true) H) : rEqD K v w H Q := by
  refine ⟨d, d, h1, h2, sh, sh, ?_⟩
  rw [SeqAt.eqv_refl _ cl]
  exact k
theorem r_eqQ {v w : V} {p q : Rat} (h1 : Fq K H v p) (h2 : Fq K H w q) (e : p = q) (k : Q (.bl true) H) : rEqD K v w H Q := by
  subst e
  exact r_eqTrue h1.dp h2.dp rfl rfl k
theorem r_eqP {v w : V} {x y x' y' : Rat} (h1 : Pq K H v x y) (h2 : Pq K H w x' y') (e : x = x' ∧ y = y') (k : Q (.bl true) H) : rEqD K v w H Q := by
  obtain ⟨rfl, rfl⟩ := e
  exact r_eqTrue h1.dp h2.dp rfl rfl k
end
/-! ### promises over rationals -/
def spQ2 (K : PySem.W.Frag) (pre : Rat → Rat → Prop) (op : Rat → Rat → Rat) : Sp := fun vs H Q _ => ∃ (v w : V) (p q : Rat) (n m : Nat), vs = [v, w] ∧ Fq K H v p ∧ Fq K H w q ∧ Sz n p ∧ Sz m q ∧ n + m ≤ 8000 ∧ pre p q ∧
  ∀ (r : V) (H' : Hp), Same H H' → Fq K H' r (op p q) → Q r H'
theorem q2_arith {K : PySem.W.Frag} {pre : Rat → Rat → Prop} {op : Rat → Rat → Rat} {T B : Int → Int → Int → Int → Int}
    (hop : ∀ p q, pre p q → B p.num p.den q.num q.den ≠ 0 ∧ op p q = Rat.divInt (T p.num p.den q.num q.den) (B p.num p.den q.num q.den)) {vs : List V} {H : Hp} {Q : VK} {E : XK} (h : spQ2 K pre op vs H Q E) : spArith K T B vs H Q E := by
  obtain ⟨_, _, p, q, n, m, rfl, ⟨a, rfl, ha⟩, ⟨b, rfl, hb⟩, s1, s2, l, pr, k⟩ := h
  obtain ⟨h1, h2⟩ := hop p q pr
  exact ⟨a, b, _, _, _, _, n, m, rfl, ha, hb, s1.t, s1.b, s2.t, s2.b, l, h1, fun o H' g _ ho => k _ _ g (Fq.of _ h1 h2 ho)⟩
theorem plus_q2 {K : PySem.W.Frag} {vs : List V} {H : Hp} {Q : VK} {E : XK} (h : spQ2 K (fun _ _ => True) (· + ·) vs H Q E) : spArith K (fun x y u v => x * v + u * y) (fun x y u v => y * v) vs H Q E :=
  q2_arith (fun p q _ => ⟨Int.mul_ne_zero (den_ne p) (den_ne q), add_dv p q⟩) h
theorem minus_q2 {K : PySem.W.Frag} {vs : List V} {H : Hp} {Q : VK} {E : XK} (h : spQ2 K (fun _ _ => True) (· - ·) vs H Q E) : spArith K (fun x y u v => x * v - u * y) (fun x y u v => y * v) vs H Q E :=
  q2_arith (fun p q _ => ⟨Int.mul_ne_zero (den_ne p) (den_ne q), sub_dv p q⟩) h
theorem times_q2 {K : PySem.W.Frag} {vs : List V} {H : Hp} {Q : VK} {E : XK} (h : spQ2 K (fun _ _ => True) (· * ·) vs H Q E) : spArith K (fun x y u v => x * u) (fun x y u v => y * v) vs H Q E :=
  q2_arith (fun p q _ => ⟨Int.mul_ne_zero (den_ne p) (den_ne q), mul_dv p q⟩) h
theorem over_q2 {K : PySem.W.Frag} {vs : List V} {H : Hp} {Q : VK} {E : XK} (h : spQ2 K (fun _ q => q ≠ 0) (· / ·) vs H Q E) : spArith K (fun x y u v => x * v) (fun x y u v => y * u) vs H Q E :=
  q2_arith (fun p q h => ⟨Int.mul_ne_zero (den_ne p) (fun z => h (Rat.num_eq_zero.mp z)), div_dv p q⟩) h
/-- the raw ones -/
def spR2 (K : PySem.W.Frag) (op : Rat → Rat → Rat) : Sp := fun vs H Q _ => ∃ (v w : V) (p q : Rat) (n m : Nat), vs = [v, w] ∧ Rq K H v p n ∧ Rq K H w q m ∧ n ≤ 20000 ∧ m ≤ 20000 ∧
  ∀ (r : V) (H' : Hp), Same H H' → Rq K H' r (op p q) (n + m + 1) → Q r H'
def spS2 (K : PySem.W.Frag) : Sp := fun vs H Q _ => ∃ (v w : V) (p q : Rat) (n m : Nat), vs = [v, w] ∧ Rq K H v p n ∧ Rq K H w q m ∧ n ≤ 100000 ∧ m ≤ 100000 ∧ Q (.bl (decide (p = q))) H
theorem r2_raw {K : PySem.W.Frag} {op : Rat → Rat → Rat} {T B : Int → Int → Int → Int → Int}
    (hop : ∀ x y u v : Int, ∀ n m : Nat, y ≠ 0 → v ≠ 0 → Sm n x → Sm n y → Sm m u → Sm m v → B x y u v ≠ 0 ∧ op (Rat.divInt x y) (Rat.divInt u v) = Rat.divInt (T x y u v) (B x y u v) ∧ Sm (n + m + 1) (T x y u v) ∧ Sm (n + m + 1) (B x y u v)) {vs : List V} {H : Hp} {Q : VK} {E : XK} (h : spR2 K op vs H Q E) : spRaw K T B vs H Q E := by
  obtain ⟨_, _, p, q, n, m, rfl, ⟨a, x, y, rfl, ha, y0, rfl, sx, sy⟩, ⟨b, u, v, rfl, hb, v0, rfl, su, sv⟩, l1, l2, k⟩ := h
  obtain ⟨h1, h2, h3, h4⟩ := hop x y u v n m y0 v0 sx sy su sv
  exact ⟨a, b, _, _, _, _, rfl, ha, hb, sx.mono l1, sy.mono l1, su.mono l2, sv.mono l2, fun o H' g _ ho => k _ _ g ⟨o, _, _, rfl, tupOf ho, h1, h2, h3, h4⟩⟩
theorem plus_r2 {K : PySem.W.Frag} {vs : List V} {H : Hp} {Q : VK} {E : XK} (h : spR2 K (· + ·) vs H Q E) : spRaw K (fun x y u v => x * v + u * y) (fun x y u v => y * v) vs H Q E :=
  r2_raw (fun x y u v n m y0 v0 sx sy su sv => ⟨Int.mul_ne_zero y0 v0, Rat.divInt_add_divInt _ _ y0 v0, (sx.mul sv).add ((su.mul sy).mono (by omega)), (sy.mul sv).mono (by omega)⟩) h
theorem minus_r2 {K : PySem.W.Frag} {vs : List V} {H : Hp} {Q : VK} {E : XK} (h : spR2 K (· - ·) vs H Q E) : spRaw K (fun x y u v => x * v - u * y) (fun x y u v => y * v) vs H Q E :=
  r2_raw (fun x y u v n m y0 v0 sx sy su sv => ⟨Int.mul_ne_zero y0 v0, Rat.divInt_sub_divInt _ _ y0 v0, (sx.mul sv).sub ((su.mul sy).mono (by omega)), (sy.mul sv).mono (by omega)⟩) h
theorem times_r2 {K : PySem.W.Frag} {vs : List V} {H : Hp} {Q : VK} {E : XK} (h : spR2 K (· * ·) vs H Q E) : spRaw K (fun x y u v => x * u) (fun x y u v => y * v) vs H Q E :=
  r2_raw (fun x y u v n m y0 v0 sx sy su sv => ⟨Int.mul_ne_zero y0 v0, Rat.divInt_mul_divInt _ _, (sx.mul su).mono (by omega), (sy.mul sv).mono (by omega)⟩) h
theorem same_r2 {K : PySem.W.Frag} {vs : List V} {H : Hp} {Q : VK} {E : XK} (h : spS2 K vs H Q E) : spEven K vs H Q E := by
  obtain ⟨_, _, p, q, n, m, rfl, ⟨a, x, y, rfl, ha, y0, rfl, sx, sy⟩, ⟨b, u, v, rfl, hb, v0, rfl, su, sv⟩, l1, l2, k⟩ := h
  refine ⟨a, b, _, _, _, _, rfl, ha, hb, sx.mono l1, sy.mono l1, su.mono l2, sv.mono l2, ?_⟩
  have e : decide (Rat.divInt x y = Rat.divInt u v) = decide (x * v = u * y) := decide_eq_decide.mpr (Rat.divInt_eq_divInt_iff y0 v0)
  rw [← e]
  exact k
/-- a promise that is asked for less -/
theorem Kn.of {P : Program} {w : World} {K : PySem.W.Frag} {mg : Str → Option Value} {base : Heap} {k : Nat} {x : Str} {ps : List Str} {sp sp' : Sp} (G : Kn P w K mg base k x ps sp) (i : ∀ vs H Q E, sp' vs H Q E → sp vs H Q E) : Kn P w K mg base k x ps sp' := by
  obtain ⟨f, fd, F, m, kp, b⟩ := G.ex
  exact ⟨f, fd, F.imp i, m, kp, b⟩
def newT (Q : VK) (xs : List V) (H : Hp) : Prop := xs.length ≤ sizeLine ∧ ∀ p, H p = none → Q (.ref p) (upd H p (.tup xs))
def newL (Q : VK) (xs : List V) (H : Hp) : Prop := xs.length ≤ sizeLine ∧ ∀ p, H p = none → Q (.ref p) (upd H p (.lst xs))
theorem r_tup2 {σ : St} {H : Hp} {Q : VK} {t : TA} (q : t σ H fun xs H1 => newT Q xs H1) : tTup t σ H Q := q
theorem r_lst2 {σ : St} {H : Hp} {Q : VK} {t : TA} (q : t σ H fun xs H1 => newL Q xs H1) : tLst t σ H Q := q
theorem r_newT {H : Hp} {Q : VK} {xs : List V} (l : Nat.ble xs.length 1000 = true) (q : ∀ p H2, Same H H2 → H p = none → H2 p = some (.tup xs) → Q (.ref p) H2) : newT Q xs H :=
  ⟨sz l, fun p hp => q p _ (same_new hp _) hp upd_same⟩
theorem r_newL {H : Hp} {Q : VK} {xs : List V} (l : Nat.ble xs.length 1000 = true) (q : ∀ p H2, Same H H2 → H p = none → H2 p = some (.lst xs) → Q (.ref p) H2) : newL Q xs H :=
  ⟨sz l, fun p hp => q p _ (same_new hp _) hp upd_same⟩
/-! ### steps over rationals -/
section
variable {σ : St} {H : Hp} {Q : VK} {E : XK} {K : PySem.W.Frag}
theorem Fq.int {H : Hp} {a : Addr} {t : Int} (h : H a = some (.tup [.int t, .int 1])) : Fq K H (.ref a) (t : Rat) := ⟨a, rfl, tupOf h⟩
theorem Pq.mk {H : Hp} {a : Addr} {f g : V} {x y : Rat} (h : H a = some (.tup [f, g])) (h1 : Fq K H f x) (h2 : Fq K H g y) : Pq K H (.ref a) x y := ⟨a, f, g, rfl, tupOf h, h1, h2⟩
theorem r_ixF0 {v : V} {q : Rat} (h : Fq K H v q) (k : Q (.int q.num) H) : rIxT K v (.int 0) H Q := by
  obtain ⟨a, rfl, t⟩ := h
  exact ⟨a, _, 0, _, rfl, rfl, t, rfl, k⟩
theorem r_ixF1 {v : V} {q : Rat} (h : Fq K H v q) (k : Q (.int q.den) H) : rIxT K v (.int 1) H Q := by
  obtain ⟨a, rfl, t⟩ := h
  exact ⟨a, _, 1, _, rfl, rfl, t, rfl, k⟩
theorem r_ixP0 {v : V} {x y : Rat} (h : Pq K H v x y) (k : ∀ f, Fq K H f x → Q f H) : rIxT K v (.int 0) H Q := by
  obtain ⟨a, f, g, rfl, t, h1, h2⟩ := h
  exact ⟨a, _, 0, f, rfl, rfl, t, rfl, k f h1⟩
theorem r_ixP1 {v : V} {x y : Rat} (h : Pq K H v x y) (k : ∀ f, Fq K H f y → Q f H) : rIxT K v (.int 1) H Q := by
  obtain ⟨a, f, g, rfl, t, h1, h2⟩ := h
  exact ⟨a, _, 1, g, rfl, rfl, t, rfl, k g h2⟩
theorem r_q2 {pre : Rat → Rat → Prop} {op : Rat → Rat → Rat} {v w : V} {p q : Rat} {n m : Nat} (h1 : Fq K H v p) (h2 : Fq K H w q) (s1 : Sz n p) (s2 : Sz m q) (l : Nat.ble (n + m) 8000 = true) (pr : pre p q)
    (k : ∀ (r : V) (H' : Hp), Same H H' → Fq K H' r (op p q) → Q r H') : spQ2 K pre op ([v, w] ++ []) H Q E :=
  ⟨v, w, p, q, n, m, rfl, h1, h2, s1, s2, Nat.le_of_ble_eq_true l, pr, k⟩
theorem r_r2 {op : Rat → Rat → Rat} {v w : V} {p q : Rat} {n m : Nat} (h1 : Rq K H v p n) (h2 : Rq K H w q m) (l1 : Nat.ble n 20000 = true) (l2 : Nat.ble m 20000 = true)
    (k : ∀ (r : V) (H' : Hp), Same H H' → Rq K H' r (op p q) (n + m + 1) → Q r H') : spR2 K op ([v, w] ++ []) H Q E :=
  ⟨v, w, p, q, n, m, rfl, h1, h2, Nat.le_of_ble_eq_true l1, Nat.le_of_ble_eq_true l2, k⟩
theorem r_s2 {v w : V} {p q : Rat} {n m : Nat} (h1 : Rq K H v p n) (h2 : Rq K H w q m) (l1 : Nat.ble n 100000 = true) (l2 : Nat.ble m 100000 = true)
    (k : Q (.bl (decide (p = q))) H) : spS2 K ([v, w] ++ []) H Q E :=
  ⟨v, w, p, q, n, m, rfl, h1, h2, Nat.le_of_ble_eq_true l1, Nat.le_of_ble_eq_true l2, k⟩
end
/-- two places in, a place out -/
def spP2 (K : PySem.W.Frag) (X Y : Rat → Rat → Rat → Rat → Rat) : Sp := fun vs H Q _ => ∃ (v w : V) (x y x' y' : Rat) (n m : Nat), vs = [v, w] ∧ Pq K H v x y ∧ Pq K H w x' y' ∧ Sz n x ∧ Sz n y ∧ Sz m x' ∧ Sz m y' ∧ n + m ≤ 3800 ∧
  ∀ (r : V) (H' : Hp), Same H H' → Pq K H' r (X x y x' y') (Y x y x' y') → Q r H'
theorem r_p2 {H : Hp} {Q : VK} {E : XK} {K : PySem.W.Frag} {X Y : Rat → Rat → Rat → Rat → Rat} {v w : V} {x y x' y' : Rat} {n n2 m m2 : Nat} (h1 : Pq K H v x y) (h2 : Pq K H w x' y') (s1 : Sz n x) (s2 : Sz n2 y) (s3 : Sz m x') (s4 : Sz m2 y') (l : Nat.ble (max n n2 + max m m2) 3800 = true)
    (k : ∀ (r : V) (H' : Hp), Same H H' → Pq K H' r (X x y x' y') (Y x y x' y') → Q r H') : spP2 K X Y ([v, w] ++ []) H Q E := by
  have := Nat.le_of_ble_eq_true l
  exact ⟨v, w, x, y, x', y', max n n2, max m m2, rfl, h1, h2, s1.mono (by omega), s2.mono (by omega), s3.mono (by omega), s4.mono (by omega), this, k⟩
def spIsP (K : PySem.W.Frag) : Sp := fun vs H Q _ => ∃ (v : V) (x y : Rat), vs = [v] ∧ Pq K H v x y ∧ Q (.bl true) H
theorem isP_of {K : PySem.W.Frag} {vs : List V} {H : Hp} {Q : VK} {E : XK} (h : spIsP K vs H Q E) : spIsPl K vs H Q E := by
  obtain ⟨_, x, y, rfl, ⟨a, _, _, rfl, t, ⟨f, rfl, h1⟩, ⟨g, rfl, h2⟩⟩, k⟩ := h
  exact ⟨a, f, g, _, _, _, _, rfl, t, h1, h2, den_pos x, x.reduced, den_pos y, y.reduced, k⟩
/-! ### drawing, over rationals -/
theorem Fr.rat {m : Nat} {t u : Int} (h : Fr m t u) : ∃ q : Rat, q.num = t ∧ (q.den : Int) = u ∧ Sz m q := by
  have p := h.pos
  refine ⟨⟨t, u.toNat, by omega, ?_⟩, rfl, ?_, h.st, ?_⟩
  · have := h.one
    unfold Int.gcd at this
    have e : u.natAbs = u.toNat := by omega
    rw [e] at this
    exact this
  · show ((u.toNat : Nat) : Int) = u
    omega
  · show Sm m ((u.toNat : Nat) : Int)
    have e : ((u.toNat : Nat) : Int) = u := by omega
    rw [e]
    exact h.su
theorem Pc.pq {K : PySem.W.Frag} {H : Hp} {a : Addr} {m : Nat} {t u r s : Int} (h : Pc K H a m t u r s) : ∃ x y, Pq K H (.ref a) x y ∧ Sz m x ∧ Sz m y := by
  obtain ⟨⟨f, g, h1, h2, h3⟩, hx, hy⟩ := h
  obtain ⟨x, rfl, rfl, sx⟩ := hx.rat
  obtain ⟨y, rfl, rfl, sy⟩ := hy.rat
  exact ⟨x, y, ⟨a, _, _, rfl, h1, ⟨f, rfl, h2⟩, ⟨g, rfl, h3⟩⟩, sx, sy⟩
theorem Pq.pc {K : PySem.W.Frag} {H : Hp} {v : V} {m : Nat} {x y : Rat} (h : Pq K H v x y) (sx : Sz m x) (sy : Sz m y) : ∃ a t u r s, v = .ref a ∧ Pc K H a m t u r s := by
  obtain ⟨a, _, _, rfl, h1, ⟨f, rfl, h2⟩, ⟨g, rfl, h3⟩⟩ := h
  exact ⟨a, _, _, _, _, rfl, ⟨f, g, h1, h2, h3⟩, ⟨den_pos x, x.reduced, sx.t, sx.b⟩, ⟨den_pos y, y.reduced, sy.t, sy.b⟩⟩
theorem Sr.at_ {H : Hp} {p : Addr} {b : Int} (h : Sr H p b) : ∃ xs, H p = some (.lst xs) := by
  obtain ⟨x, y, z, h1, _⟩ := h
  exact ⟨_, h1⟩
theorem Fq.upB {K : PySem.W.Frag} {H H' : Hp} {v : V} {q : Rat} {p : Addr} {b : Int} (h : Fq K H v q) (s : But p H H') (hp : Sr H p b) : Fq K H' v q := by
  obtain ⟨xs, e⟩ := hp.at_
  exact h.but e s
theorem Pq.upB {K : PySem.W.Frag} {H H' : Hp} {v : V} {x y : Rat} {p : Addr} {b : Int} (h : Pq K H v x y) (s : But p H H') (hp : Sr H p b) : Pq K H' v x y := by
  obtain ⟨xs, e⟩ := hp.at_
  exact h.but e s
theorem Rq.upB {K : PySem.W.Frag} {H H' : Hp} {v : V} {q : Rat} {n : Nat} {p : Addr} {b : Int} (h : Rq K H v q n) (s : But p H H') (hp : Sr H p b) : Rq K H' v q n := by
  obtain ⟨xs, e⟩ := hp.at_
  obtain ⟨a, t, b, rfl, h1, h2⟩ := h
  exact ⟨a, t, b, rfl, s.tup e h1, h2⟩
theorem same_but {H0 H H' : Hp} {p : Addr} (s : Same H0 H) (n : H0 p = none) (b : But p H H') : Same H0 H' := Same.but s n b
def spPlaceQ (K : PySem.W.Frag) : Sp := fun vs H Q _ => ∃ (p : Addr) (k b : Int), vs = [.ref p, .int k] ∧ Sr H p b ∧ b ≤ 60000 ∧ 1 ≤ k ∧ k ≤ 100 ∧
  ∀ (v : V) (x y : Rat) (H' : Hp), But p H H' → Sr H' p (b + 100) → Pq K H' v x y → Sz (nb k + 1) x → Sz (nb k + 1) y → Q v H'
theorem placeQ_of {K : PySem.W.Frag} {vs : List V} {H : Hp} {Q : VK} {E : XK} (h : spPlaceQ K vs H Q E) : spPlaceZ K vs H Q E := by
  obtain ⟨p, k, b, rfl, h1, h2, h3, h4, q⟩ := h
  refine ⟨p, k, b, rfl, h1, h2, h3, h4, fun a t u r s H' b' s' c => ?_⟩
  obtain ⟨x, y, hq, sx, sy⟩ := c.pq
  exact q _ _ _ _ b' s' hq sx sy
def spNearQ (K : PySem.W.Frag) : Sp := fun vs H Q _ => ∃ (p : Addr) (k b : Int) (w : V) (x y : Rat), vs = [.ref p, .int k, w] ∧ Sr H p b ∧ b ≤ 50000 ∧ 1 ≤ k ∧ k ≤ 100 ∧ Pq K H w x y ∧ Sz (nb k + 1) x ∧ Sz (nb k + 1) y ∧
  ∀ (v : V) (x y : Rat) (H' : Hp), But p H H' → Sr H' p (b + 200) → Pq K H' v x y → Sz (nb k + 1) x → Sz (nb k + 1) y → Q v H'
theorem nearQ_of {K : PySem.W.Frag} {vs : List V} {H : Hp} {Q : VK} {E : XK} (h : spNearQ K vs H Q E) : spNear K vs H Q E := by
  obtain ⟨p, k, b, w, x, y, rfl, h1, h2, h3, h4, hw, sx, sy, q⟩ := h
  obtain ⟨a, t, u, r, s, rfl, hc⟩ := hw.pc sx sy
  refine ⟨p, k, b, a, t, u, r, s, rfl, h1, h2, h3, h4, hc, fun a t u r s H' b' s' c => ?_⟩
  obtain ⟨x, y, hq, sx, sy⟩ := c.pq
  exact q _ _ _ _ b' s' hq sx sy
section
variable {H : Hp} {Q : VK} {E : XK} {K : PySem.W.Frag}
theorem r_stream {a : Addr} {ns : List Int} {i : Int} (hS : SqL K H a (ns.map V.int)) (hl : ns.length ≤ 63) (i0 : 0 ≤ i) (i1 : i ≤ 1000) (k : ∀ (p : Addr) (H' : Hp), Same H H' → H p = none → Sr H' p 0 → Q (.ref p) H') : spStream K ([.ref a, .int i] ++ []) H Q E :=
  ⟨a, ns, i, rfl, hS, hl, i0, i1, k⟩
theorem r_placeQ {p : Addr} {b k : Int} {m : Nat} (hp : Sr H p b) (l : b ≤ 60000) (k0 : 1 ≤ k) (k1 : k ≤ 100) (hm : nb k + 1 = m) (c : ∀ (v : V) (x y : Rat) (H' : Hp), But p H H' → Sr H' p (b + 100) → Pq K H' v x y → Sz m x → Sz m y → Q v H') : spPlaceQ K ([.ref p, .int k] ++ []) H Q E := by
  subst hm
  exact
  ⟨p, k, b, rfl, hp, l, k0, k1, c⟩
theorem r_nearQ {p : Addr} {b k : Int} {m : Nat} {w : V} {x y : Rat} (hp : Sr H p b) (l : b ≤ 50000) (k0 : 1 ≤ k) (k1 : k ≤ 100) (hm : nb k + 1 = m) (hw : Pq K H w x y) (sx : Sz m x) (sy : Sz m y) (c : ∀ (v : V) (x y : Rat) (H' : Hp), But p H H' → Sr H' p (b + 200) → Pq K H' v x y → Sz m x → Sz m y → Q v H') : spNearQ K ([.ref p, .int k, w] ++ []) H Q E := by
  subst hm
  exact ⟨p, k, b, w, x, y, rfl, hp, l, k0, k1, hw, sx, sy, c⟩
theorem r_isP {v : V} {x y : Rat} (h : Pq K H v x y) (k : Q (.bl true) H) : spIsP K ([v] ++ []) H Q E := ⟨v, x, y, rfl, h, k⟩
end
/-! ### more of the drawing, over rationals -/
def spFracQ (K : PySem.W.Frag) : Sp := fun vs H Q _ => ∃ (p : Addr) (k b : Int), vs = [.ref p, .int k] ∧ Sr H p b ∧ b ≤ 70000 ∧ 1 ≤ k ∧ k ≤ 100 ∧
  ∀ (v : V) (x : Rat) (H' : Hp), But p H H' → Sr H' p (b + 50) → Fq K H' v x → Sz (nb k + 1) x → Q v H'
theorem fracQ_of {K : PySem.W.Frag} {vs : List V} {H : Hp} {Q : VK} {E : XK} (h : spFracQ K vs H Q E) : spFractionZ vs H Q E := by
  obtain ⟨p, k, b, rfl, h1, h2, h3, h4, q⟩ := h
  refine ⟨p, k, b, rfl, h1, h2, h3, h4, fun a t u H' b' s' e c => ?_⟩
  obtain ⟨x, rfl, rfl, sx⟩ := c.rat
  exact q _ _ _ b' s' ⟨a, rfl, tupOf e⟩ sx
/-- two places and a fraction in, a place out -/
def spShare (K : PySem.W.Frag) : Sp := fun vs H Q _ => ∃ (v w u : V) (x y x' y' t : Rat) (n m k : Nat), vs = [v, w, u] ∧ Pq K H v x y ∧ Pq K H w x' y' ∧ Fq K H u t ∧ Sz n x ∧ Sz n y ∧ Sz m x' ∧ Sz m y' ∧ Sz k t ∧ n + m ≤ 3800 ∧ k ≤ 500 ∧
  ∀ (r : V) (H' : Hp), Same H H' → Pq K H' r (x + t * (x' - x)) (y + t * (y' - y)) → Q r H'
section
variable {H : Hp} {Q : VK} {E : XK} {K : PySem.W.Frag}
theorem r_fracQ {p : Addr} {b k : Int} {m : Nat} (hp : Sr H p b) (l : b ≤ 70000) (k0 : 1 ≤ k) (k1 : k ≤ 100) (hm : nb k + 1 = m) (c : ∀ (v : V) (x : Rat) (H' : Hp), But p H H' → Sr H' p (b + 50) → Fq K H' v x → Sz m x → Q v H') : spFracQ K ([.ref p, .int k] ++ []) H Q E := by
  subst hm
  exact ⟨p, k, b, rfl, hp, l, k0, k1, c⟩
theorem r_takeS {p : Addr} {b k : Int} (hp : Sr H p b) (l : b ≤ 100000) (k0 : 1 ≤ k) (k1 : k ≤ 1000000) (c : ∀ (r : Int) (H' : Hp), But p H H' → Sr H' p (b + 1) → 0 ≤ r → r < k → Q (.int r) H') : spTakeS ([.ref p, .int k] ++ []) H Q E :=
  ⟨p, k, b, rfl, hp, l, k0, (show Sm 64 k by unfold Sm; omega).mono (by decide), c⟩
theorem r_share {v w u : V} {x y x' y' t : Rat} {n n2 m m2 k : Nat} (h1 : Pq K H v x y) (h2 : Pq K H w x' y') (h3 : Fq K H u t) (s1 : Sz n x) (s2 : Sz n2 y) (s3 : Sz m x') (s4 : Sz m2 y') (s5 : Sz k t) (l : Nat.ble (max n n2 + max m m2) 3800 = true) (l2 : Nat.ble k 500 = true)
    (c : ∀ (r : V) (H' : Hp), Same H H' → Pq K H' r (x + t * (x' - x)) (y + t * (y' - y)) → Q r H') : spShare K ([v, w, u] ++ []) H Q E := by
  have := Nat.le_of_ble_eq_true l
  exact ⟨v, w, u, x, y, x', y', t, max n n2, max m m2, k, rfl, h1, h2, h3, s1.mono (by omega), s2.mono (by omega), s3.mono (by omega), s4.mono (by omega), s5, this, Nat.le_of_ble_eq_true l2, c⟩
end
theorem Pq.cast {K : PySem.W.Frag} {H : Hp} {v : V} {x y x' y' : Rat} (h : Pq K H v x y) (ex : x = x') (ey : y = y') : Pq K H v x' y' := by
  subst ex; subst ey; exact h
theorem Fq.cast {K : PySem.W.Frag} {H : Hp} {v : V} {x x' : Rat} (h : Fq K H v x) (ex : x = x') : Fq K H v x' := by
  subst ex; exact h
theorem r_noN {c : Prop} [Decidable c] {A B : Prop} (h : c) (k : B) : if (!decide c) = true then A else B := by
  rw [decide_eq_true h]; exact k
theorem r_yes {c : Prop} [Decidable c] {A B : Prop} (h : c) (k : A) : if decide c = true then A else B := by
  rw [decide_eq_true h]; exact k
theorem r_no {c : Prop} [Decidable c] {A B : Prop} (h : ¬ c) (k : B) : if decide c = true then A else B := by
  rw [decide_eq_false h]; exact k
def spShared (K : PySem.W.Frag) : Sp := fun vs H Q _ => ∃ (r v w u : V) (x0 y0 x y x' y' t : Rat), vs = [r, v, w, u] ∧ Pq K H r x0 y0 ∧ Pq K H v x y ∧ Pq K H w x' y' ∧ Rq K H u t 211 ∧ Sz 3000 x0 ∧ Sz 3000 y0 ∧ Sz 211 x ∧ Sz 211 y ∧ Sz 211 x' ∧ Sz 211 y' ∧ x0 = x + t * (x' - x) ∧ y0 = y + t * (y' - y) ∧
  ∀ (H' : Hp), Same H H' → Q (.bl true) H'
/-- two turns that change one name, the heap but grows -/
theorem r_loop2 {σ : St} {H : Hp} {D : Ends} {tb : TS} {j : Nat}
    (h0 : ∀ (y : Option V) (H' : Hp), Same H H' → ∀ N : St → Hp → Prop, (∀ y' H'', Same H H'' → N (σ.set j y') H'') → tb { D with nx := N, ct := N, bk := D.nx } (σ.set j (some (.int 0))) H')
    (h1 : ∀ (y : Option V) (H' : Hp), Same H H' → ∀ N : St → Hp → Prop, (∀ y' H'', Same H H'' → N (σ.set j y') H'') → tb { D with nx := N, ct := N, bk := D.nx } (σ.set j (some (.int 1))) H')
    (hd : ∀ (y : Option V) (H' : Hp), Same H H' → D.nx (σ.set j y) H') (hj : ∃ y, σ = σ.set j y) : tFor (iRng1 (tCons (tC (.int 2)) tNil)) (gName j) tb D σ H := by
  refine ⟨_, rfl, by decide, by decide, for_range (n := 2) (fun i σ' H' => ∃ y, σ' = σ.set j y ∧ Same H H') ?_ ?_ ?_⟩
  · obtain ⟨y, e⟩ := hj
    exact ⟨y, e, Same.refl _⟩
  · rintro i σ' H' hi ⟨y, rfl, g⟩
    have : i = 0 ∨ i = 1 := by omega
    rcases this with rfl | rfl
    · show tb _ ((σ.set j y).set j (some (.int 0))) H'
      rw [List.set_set]
      exact h0 y H' g _ fun y' H'' g' => ⟨y', rfl, g'⟩
    · show tb _ ((σ.set j y).set j (some (.int 1))) H'
      rw [List.set_set]
      exact h1 y H' g _ fun y' H'' g' => ⟨y', rfl, g'⟩
  · rintro σ' H' ⟨y, rfl, g⟩
    exact hd y H' g
theorem r_neP {H : Hp} {Q : VK} {K : PySem.W.Frag} {v w : V} {x y x' y' : Rat} (h1 : Pq K H v x y) (h2 : Pq K H w x' y') (e : x = x' ∧ y = y') (k : Q (.bl false) H) : rNeD K v w H Q := by
  obtain ⟨rfl, rfl⟩ := e
  refine ⟨_, _, h1.dp, h2.dp, rfl, rfl, ?_⟩
  rw [SeqAt.eqv_refl _ rfl]
  exact k
theorem r_shared {H : Hp} {Q : VK} {E : XK} {K : PySem.W.Frag} {r v w u : V} {x0 y0 x y x' y' t : Rat} {n n2 : Nat} (h0 : Pq K H r x0 y0) (h1 : Pq K H v x y) (h2 : Pq K H w x' y') (h3 : Rq K H u t 211) (s0 : Sz n x0) (s1 : Sz n2 y0) (l : Nat.ble (max n n2) 3000 = true) (s2 : Sz 211 x) (s3 : Sz 211 y) (s4 : Sz 211 x') (s5 : Sz 211 y') (e1 : x0 = x + t * (x' - x)) (e2 : y0 = y + t * (y' - y))
    (c : ∀ (H' : Hp), Same H H' → Q (.bl true) H') : spShared K ([r, v, w, u] ++ []) H Q E := by
  have := Nat.le_of_ble_eq_true l
  exact ⟨r, v, w, u, x0, y0, x, y, x', y', t, rfl, h0, h1, h2, h3, s0.mono (by omega), s1.mono (by omega), s2, s3, s4, s5, e1, e2, c⟩
theorem Rq.of2 {K : PySem.W.Frag} {H : Hp} {p : Addr} {t b : Int} {n m : Nat} (h : H p = some (.tup [.int t, .int b])) (nz : b ≠ 0) (s1 : Sm n t) (s2 : Sm m b) : Rq K H (.ref p) ((t : Rat) / (b : Rat)) (max n m) := ⟨p, t, b, rfl, tupOf h, nz, (Rat.divInt_eq_div t b).symm, s1.mono (by omega), s2.mono (by omega)⟩
theorem Fq.intI {K : PySem.W.Frag} {H : Hp} {a : Addr} {i : Int} (h : H a = some (.tup [.int i, .int 1])) : Fq K H (.ref a) (i : Rat) := ⟨a, rfl, tupOf h⟩
theorem Sz.int {i : Int} {n : Nat} (h : Sm n i) (l : 0 < n) : Sz n (i : Rat) := ⟨h, by
  show Sm n ((1 : Nat) : Int)
  unfold Sm
  exact Nat.one_lt_two_pow (by omega)⟩
end Mb
namespace Mb
open PySem L2
/-! ### lines -/
structure Ln (a b c : Int) : Prop where
  sg : 0 < a ∨ (a = 0 ∧ 0 < b)
  one : Int.gcd (Int.gcd a b) c = 1
theorem gcd3_mul (k a b c : Int) : Int.gcd (Int.gcd (k * a) (k * b)) (k * c) = k.natAbs * Int.gcd (Int.gcd a b) c := by
  rw [Int.gcd_mul_left]
  have e : ((k.natAbs * Int.gcd a b : Nat) : Int).natAbs = (k * (Int.gcd a b : Int)).natAbs := by
    rw [Int.natAbs_mul]; rfl
  have : Int.gcd ((k.natAbs * Int.gcd a b : Nat) : Int) (k * c) = Int.gcd (k * (Int.gcd a b : Int)) (k * c) := by
    show Nat.gcd (((k.natAbs * Int.gcd a b : Nat) : Int).natAbs) _ = Nat.gcd ((k * (Int.gcd a b : Int)).natAbs) _
    rw [e]
  rw [this, Int.gcd_mul_left]
theorem line_unique {a b c a' b' c' : Int} (h : Ln a b c) (h' : Ln a' b' c') (e1 : a * b' = b * a') (e2 : a * c' = c * a') (e3 : b * c' = c * b') : a = a' ∧ b = b' ∧ c = c' := by
  have k1 := gcd3_mul a' a b c
  have k2 := gcd3_mul a a' b' c'
  rw [h.one] at k1
  rw [h'.one] at k2
  have m1 := gcd3_mul b' a b c
  have m2 := gcd3_mul b a' b' c'
  rw [h.one] at m1
  rw [h'.one] at m2
  rw [show a' * a = a * a' from Int.mul_comm _ _, show a' * b = a * b' by rw [e1, Int.mul_comm], show a' * c = a * c' by rw [e2, Int.mul_comm], k2] at k1
  rw [show b' * a = b * a' by rw [← e1, Int.mul_comm], show b' * b = b * b' from Int.mul_comm _ _, show b' * c = b * c' by rw [e3, Int.mul_comm], m2] at m1
  have ea : a = a' := by
    have := h.sg
    have := h'.sg
    omega
  subst ea
  rcases h.sg with p | ⟨rfl, p⟩
  · refine ⟨rfl, ?_, ?_⟩
    · exact (Int.eq_of_mul_eq_mul_left (show a ≠ 0 by omega) (by rw [e1, Int.mul_comm])).symm
    · exact (Int.eq_of_mul_eq_mul_left (show a ≠ 0 by omega) (by rw [e2, Int.mul_comm])).symm
  · have p' : 0 < b' := by have := h'.sg; omega
    have eb : b = b' := by omega
    subst eb
    refine ⟨rfl, rfl, ?_⟩
    exact (Int.eq_of_mul_eq_mul_left (show b ≠ 0 by omega) (by rw [e3, Int.mul_comm])).symm
/-- a line has a place -/
def On (a b c : Int) (x y : Rat) : Prop := (a : Rat) * x + b * y = c
theorem cast_inj {i j : Int} (h : (i : Rat) = j) : i = j := by
  have := congrArg Rat.num h
  exact this
theorem line_two {a b c a' b' c' : Int} {x y x' y' : Rat} (h : Ln a b c) (h' : Ln a' b' c') (o1 : On a b c x y) (o2 : On a b c x' y') (o3 : On a' b' c' x y) (o4 : On a' b' c' x' y') (ne : ¬ (x = x' ∧ y = y')) : a = a' ∧ b = b' ∧ c = c' := by
  unfold On at o1 o2 o3 o4
  have e1 : (a : Rat) * b' = b * a' := by
    by_cases hx : x = x'
    · have hy : y ≠ y' := fun z => ne ⟨hx, z⟩
      have d1 : (b : Rat) * (y - y') = 0 := by grind
      have d2 : (b' : Rat) * (y - y') = 0 := by grind
      have f1 : (b : Rat) = 0 := by grind
      have f2 : (b' : Rat) = 0 := by grind
      rw [f1, f2]
      grind
    · have d1 : (a : Rat) * (x - x') + b * (y - y') = 0 := by grind
      have d2 : (a' : Rat) * (x - x') + b' * (y - y') = 0 := by grind
      have : ((a : Rat) * b' - b * a') * (x - x') = 0 := by grind
      grind
  have e2 : (a : Rat) * c' = c * a' := by grind
  have e3 : (b : Rat) * c' = c * b' := by grind
  refine line_unique h h' (cast_inj ?_) (cast_inj ?_) (cast_inj ?_)
  · rw [Rat.intCast_mul, Rat.intCast_mul]; exact e1
  · rw [Rat.intCast_mul, Rat.intCast_mul]; exact e2
  · rw [Rat.intCast_mul, Rat.intCast_mul]; exact e3
end Mb
namespace Mb
open PySem L2
/-- a line stands at v -/
def Lq (K : PySem.W.Frag) (H : Hp) (v : V) (a b c : Int) : Prop := ∃ p, v = .ref p ∧ SqT K H p [.int a, .int b, .int c]
theorem Lq.up {K : PySem.W.Frag} {H H' : Hp} {v : V} {a b c : Int} (h : Lq K H v a b c) (s : Same H H') : Lq K H' v a b c := by
  obtain ⟨p, rfl, t⟩ := h
  exact ⟨p, rfl, s.tp t⟩
theorem Lq.upB {K : PySem.W.Frag} {H H' : Hp} {v : V} {a b c : Int} {p : Addr} {n : Int} (h : Lq K H v a b c) (s : But p H H') (hp : Sr H p n) : Lq K H' v a b c := by
  obtain ⟨xs, e⟩ := hp.at_
  obtain ⟨q, rfl, t⟩ := h
  exact ⟨q, rfl, s.tup e t⟩
/-- the divisor with its sign -/
def formG (a b c : Int) : Int := if decide (a < 0 ∨ (a = 0 ∧ b < 0)) then -(Int.gcd (Int.gcd a b) c : Int) else (Int.gcd (Int.gcd a b) c : Int)
theorem gcd3_pos {a b c : Int} (h : ¬ (a = 0 ∧ b = 0)) : 0 < Int.gcd (Int.gcd a b) c := by
  have : 0 < Int.gcd a b := by
    by_cases ha : a = 0
    · exact Int.gcd_pos_of_ne_zero_right a (fun z => h ⟨ha, z⟩)
    · exact Int.gcd_pos_of_ne_zero_left b ha
  exact Int.gcd_pos_of_ne_zero_left c (by omega)
theorem form_dvd (a b c : Int) : formG a b c ∣ a ∧ formG a b c ∣ b ∧ formG a b c ∣ c := by
  have d1 : ((Int.gcd (Int.gcd a b) c : Nat) : Int) ∣ (Int.gcd a b : Int) := Int.gcd_dvd_left _ _
  have d2 : ((Int.gcd (Int.gcd a b) c : Nat) : Int) ∣ c := Int.gcd_dvd_right _ _
  have d3 := Int.dvd_trans d1 (Int.gcd_dvd_left a b)
  have d4 := Int.dvd_trans d1 (Int.gcd_dvd_right a b)
  unfold formG
  split
  · exact ⟨Int.neg_dvd.mpr d3, Int.neg_dvd.mpr d4, Int.neg_dvd.mpr d2⟩
  · exact ⟨d3, d4, d2⟩
theorem form_ne {a b c : Int} (h : ¬ (a = 0 ∧ b = 0)) : formG a b c ≠ 0 := by
  have := gcd3_pos (c := c) h
  unfold formG
  split <;> omega
theorem form_ln {a b c A B C : Int} (h : ¬ (a = 0 ∧ b = 0)) (e1 : a = formG a b c * A) (e2 : b = formG a b c * B) (e3 : c = formG a b c * C) : Ln A B C := by
  have p := gcd3_pos (c := c) h
  have na : (formG a b c).natAbs = Int.gcd (Int.gcd a b) c := by
    unfold formG
    split <;> omega
  have k := gcd3_mul (formG a b c) A B C
  rw [← e1, ← e2, ← e3, na] at k
  refine ⟨?_, ?_⟩
  · by_cases c1 : a < 0 ∨ (a = 0 ∧ b < 0)
    · have g : formG a b c < 0 := by
        unfold formG
        rw [decide_eq_true c1]
        simp only [if_true]
        omega
      rcases c1 with c1 | ⟨rfl, c1⟩
      · left
        rw [e1] at c1
        exact Int.pos_of_mul_neg_right c1 g
      · right
        refine ⟨?_, ?_⟩
        · rcases Int.mul_eq_zero.mp e1.symm with z | z
          · omega
          · exact z
        · rw [e2] at c1
          exact Int.pos_of_mul_neg_right c1 g
    · have g : 0 < formG a b c := by
        unfold formG
        rw [decide_eq_false c1]
        simp only [Bool.false_eq_true, if_false]
        omega
      by_cases z : a = 0
      · right
        subst z
        refine ⟨?_, ?_⟩
        · rcases Int.mul_eq_zero.mp e1.symm with z | z
          · omega
          · exact z
        · have hb : 0 < b := by omega
          rw [e2] at hb
          exact Int.pos_of_mul_pos_right hb g
      · left
        have ha : 0 < a := by omega
        rw [e1] at ha
        exact Int.pos_of_mul_pos_right ha g
  · have : 0 < Int.gcd (Int.gcd a b) c := p
    exact (Nat.eq_of_mul_eq_mul_left this (by omega : _ * 1 = _ * _)).symm
def spOneForm (K : PySem.W.Frag) : Sp := fun vs H Q _ => ∃ (a b c : Int) (n : Nat), vs = [.int a, .int b, .int c] ∧ ¬ (a = 0 ∧ b = 0) ∧ Sm n a ∧ Sm n b ∧ Sm n c ∧ n ≤ 8000 ∧
  ∀ (v : V) (H' : Hp) (A B C g : Int), Same H H' → Lq K H' v A B C → Ln A B C → g ≠ 0 → a = g * A → b = g * B → c = g * C → Sm n A → Sm n B → Sm n C → Q v H'
theorem fdiv_dvd {a g : Int} (h : g ≠ 0) (d : g ∣ a) : a = g * a.fdiv g := by
  rw [Int.fdiv_eq_ediv_of_dvd d, Int.mul_ediv_cancel' d]
theorem sm_quot {n : Nat} {a g A : Int} (h : g ≠ 0) (e : a = g * A) (s : Sm n a) : Sm n A := by
  refine s.le ?_
  rw [e, Int.natAbs_mul]
  have : 1 ≤ g.natAbs := by omega
  exact Nat.le_mul_of_pos_left _ this
theorem form_sm {a b c : Int} {n : Nat} (h : ¬ (a = 0 ∧ b = 0)) (sa : Sm n a) (sb : Sm n b) : Sm n (formG a b c) := by
  obtain ⟨d1, d2, _⟩ := form_dvd a b c
  by_cases z : a = 0
  · have nb : b ≠ 0 := fun y => h ⟨z, y⟩
    refine sb.le ?_
    exact Nat.le_of_dvd (by omega) (Int.natAbs_dvd_natAbs.mpr d2)
  · refine sa.le ?_
    exact Nat.le_of_dvd (by omega) (Int.natAbs_dvd_natAbs.mpr d1)
theorem den_ne' (x : Rat) : ((x.den : Int) : Rat) ≠ 0 := by
  intro z
  have := congrArg Rat.num z
  exact x.den_nz (Int.ofNat_inj.mp this)
theorem hden (x : Rat) : x * (x.den : Int) = ((x.num : Int) : Rat) := by
  have e := Rat.num_divInt_den x
  rw [Rat.divInt_eq_div] at e
  have d := den_ne' x
  grind
theorem on_iff (a b c : Int) (x y : Rat) : a * x.num * y.den + b * y.num * x.den = c * x.den * y.den ↔ (a : Rat) * x + b * y = c := by
  have h1 := hden x
  have h2 := hden y
  have d1 := den_ne' x
  have d2 := den_ne' y
  constructor
  · intro h
    have h' := congrArg (Int.cast (R := Rat)) h
    simp only [Rat.intCast_add, Rat.intCast_mul] at h'
    grind
  · intro h
    have : ((a * x.num * y.den + b * y.num * x.den : Int) : Rat) = ((c * x.den * y.den : Int) : Rat) := by
      simp only [Rat.intCast_add, Rat.intCast_mul]
      grind
    exact congrArg Rat.num this
def spOn (K : PySem.W.Frag) : Sp := fun vs H Q _ => ∃ (v w : V) (a b c : Int) (x y : Rat), vs = [v, w] ∧ Lq K H v a b c ∧ Pq K H w x y ∧ Sm 20000 a ∧ Sm 20000 b ∧ Sm 20000 c ∧ Sz 20000 x ∧ Sz 20000 y ∧ Q (.bl (decide ((a : Rat) * x + b * y = c))) H
def spIsLn (K : PySem.W.Frag) : Sp := fun vs H Q _ => ∃ (v : V) (a b c : Int), vs = [v] ∧ Lq K H v a b c ∧ Ln a b c ∧ Q (.bl true) H
def spLineQ (K : PySem.W.Frag) : Sp := fun vs H Q _ => ∃ (p : Addr) (k n : Int), vs = [.ref p, .int k] ∧ Sr H p n ∧ n ≤ 60000 ∧ 1 ≤ k ∧ k ≤ 100 ∧
  ∀ (v : V) (a b c : Int) (H' : Hp), But p H H' → Sr H' p (n + 100) → Lq K H' v a b c → Ln a b c → Sm (nb k) a → Sm (nb k) b → Sm (nb k) c → Q v H'
def spLowQ (K : PySem.W.Frag) : Sp := fun vs H Q _ => ∃ (v : V) (q : Rat) (n : Nat), vs = [v] ∧ Rq K H v q n ∧ n ≤ 8900 ∧ ∀ (r : V) (H' : Hp), Same H H' → Fq K H' r q → Q r H'
theorem lowQ_of {K : PySem.W.Frag} {vs : List V} {H : Hp} {Q : VK} {E : XK} (h : spLowQ K vs H Q E) : spLowest K vs H Q E := by
  obtain ⟨_, q, n, rfl, ⟨a, t, b, rfl, h1, h2, h3, s1, s2⟩, l, k⟩ := h
  exact ⟨a, t, b, rfl, h1, h2, s2.mono l, fun p H' g _ e => k _ _ g (Fq.of q h2 h3 e)⟩
theorem r_lowQ {K : PySem.W.Frag} {H : Hp} {Q : VK} {E : XK} {v : V} {q : Rat} {n : Nat} (h : Rq K H v q n) (l : Nat.ble n 8900 = true) (k : ∀ (r : V) (H' : Hp), Same H H' → Fq K H' r q → Q r H') : spLowQ K ([v] ++ []) H Q E :=
  ⟨v, q, n, rfl, h, Nat.le_of_ble_eq_true l, k⟩
/-- the law's own share -/
def spWay (K : PySem.W.Frag) : Sp := fun vs H Q _ => ∃ (v w u : V) (x y x' y' t : Rat), vs = [v, w, u] ∧ Pq K H v x y ∧ Pq K H w x' y' ∧ Fq K H u t ∧ Sz 500 x ∧ Sz 500 y ∧ Sz 500 x' ∧ Sz 500 y' ∧ Sz 500 t ∧
  ∀ (r : V) (H' : Hp), Same H H' → Pq K H' r (x + t * (x' - x)) (y + t * (y' - y)) → Q r H'
theorem r_way {K : PySem.W.Frag} {H : Hp} {Q : VK} {E : XK} {v w u : V} {x y x' y' t : Rat} {n1 n2 n3 n4 n5 : Nat} (h1 : Pq K H v x y) (h2 : Pq K H w x' y') (h3 : Fq K H u t) (s1 : Sz n1 x) (s2 : Sz n2 y) (s3 : Sz n3 x') (s4 : Sz n4 y') (s5 : Sz n5 t) (l : Nat.ble (max (max n1 n2) (max (max n3 n4) n5)) 500 = true)
    (c : ∀ (r : V) (H' : Hp), Same H H' → Pq K H' r (x + t * (x' - x)) (y + t * (y' - y)) → Q r H') : spWay K ([v, w, u] ++ []) H Q E := by
  have := Nat.le_of_ble_eq_true l
  exact ⟨v, w, u, x, y, x', y', t, rfl, h1, h2, h3, s1.mono (by omega), s2.mono (by omega), s3.mono (by omega), s4.mono (by omega), s5.mono (by omega), c⟩
theorem r_lineQ {K : PySem.W.Frag} {H : Hp} {Q : VK} {E : XK} {p : Addr} {n k : Int} {m : Nat} (hp : Sr H p n) (l : n ≤ 60000) (k0 : 1 ≤ k) (k1 : k ≤ 100) (hm : nb k = m)
    (c : ∀ (v : V) (a b c : Int) (H' : Hp), But p H H' → Sr H' p (n + 100) → Lq K H' v a b c → Ln a b c → Sm m a → Sm m b → Sm m c → Q v H') : spLineQ K ([.ref p, .int k] ++ []) H Q E := by
  subst hm
  exact ⟨p, k, n, rfl, hp, l, k0, k1, c⟩
theorem eqv_dq (p q : Rat) : PyData.eqv (dq p) (dq q) = decide (p = q) := by
  by_cases h : p = q
  · subst h
    rw [decide_eq_true rfl]
    exact SeqAt.eqv_refl _ rfl
  · rw [decide_eq_false h]
    have : ¬ (p.num = q.num ∧ p.den = q.den) := fun z => h (Rat.ext z.1 z.2)
    simp [dq, PyData.eqv, PyData.eqvAll]
    intro z
    intro y
    exact this ⟨z, by omega⟩
theorem eqv_dpl (x y x' y' : Rat) : PyData.eqv (dpl x y) (dpl x' y') = decide (x = x' ∧ y = y') := by
  have e : PyData.eqv (dpl x y) (dpl x' y') = (PyData.eqv (dq x) (dq x') && PyData.eqv (dq y) (dq y')) := by
    simp [dpl, PyData.eqv, PyData.eqvAll]
  rw [e, eqv_dq, eqv_dq, Bool.decide_and]
theorem r_eqPd {H : Hp} {Q : VK} {K : PySem.W.Frag} {v w : V} {x y x' y' : Rat} (h1 : Pq K H v x y) (h2 : Pq K H w x' y') (k : Q (.bl (decide (x = x' ∧ y = y'))) H) : rEqD K v w H Q := by
  refine ⟨_, _, h1.dp, h2.dp, rfl, rfl, ?_⟩
  rw [eqv_dpl]
  exact k
theorem r_nePd {H : Hp} {Q : VK} {K : PySem.W.Frag} {v w : V} {x y x' y' : Rat} (h1 : Pq K H v x y) (h2 : Pq K H w x' y') (k : Q (.bl (!decide (x = x' ∧ y = y'))) H) : rNeD K v w H Q := by
  refine ⟨_, _, h1.dp, h2.dp, rfl, rfl, ?_⟩
  rw [eqv_dpl]
  exact k
/-- the line through two places, or none -/
def spThrough (K : PySem.W.Frag) : Sp := fun vs H Q _ => ∃ (v w : V) (x y x' y' : Rat), vs = [v, w] ∧ Pq K H v x y ∧ Pq K H w x' y' ∧ Sz 1000 x ∧ Sz 1000 y ∧ Sz 1000 x' ∧ Sz 1000 y' ∧
  (x = x' ∧ y = y' → ∀ H', Same H H' → Q .non H') ∧
  (¬ (x = x' ∧ y = y') → ∀ (r : V) (H' : Hp) (a b c : Int), Same H H' → Lq K H' r a b c → Ln a b c → (a : Rat) * x + b * y = c → (a : Rat) * x' + b * y' = c → Sm 8000 a → Sm 8000 b → Sm 8000 c → Q r H')
end Mb
namespace Mb
open PySem L2
/-! ### whole numbers under rationals -/
theorem ratz {b : Int} (h : b ≠ 0) : (b : Rat) ≠ 0 := fun z => h (cast_inj (by rw [z]; rfl))
theorem divInt_of {t b : Int} {q : Rat} (hb : b ≠ 0) (e : (t : Rat) = q * (b : Rat)) : q = Rat.divInt t b := by
  have nb := ratz hb
  rw [Rat.divInt_eq_div]
  grind
def spFrQ (K : PySem.W.Frag) : Sp := fun vs H Q _ => ∃ (t b : Int) (q : Rat), vs = [.int t, .int b] ∧ b ≠ 0 ∧ Sm 8000 b ∧ (t : Rat) = q * (b : Rat) ∧ ∀ (r : V) (H' : Hp), Same H H' → Fq K H' r q → Q r H'
theorem frQ_of {K : PySem.W.Frag} {vs : List V} {H : Hp} {Q : VK} {E : XK} (h : spFrQ K vs H Q E) : spLow vs H Q E := by
  obtain ⟨t, b, q, rfl, hb, sb, e, k⟩ := h
  exact ⟨t, b, rfl, hb, sb, fun p H' g _ ho => k _ _ g (Fq.of q hb (divInt_of hb e) ho)⟩
section
variable {K : PySem.W.Frag} {σ : St} {H : Hp} {Q : St → Hp → Prop}
theorem r_gnil (q : Q σ H) : gNil [] σ H Q := ⟨rfl, q⟩
theorem r_gcons {t : TG} {u : TGs} {v : V} {r : List V} (q : t v σ H fun σ' H' => u r σ' H' Q) : gCons t u (v :: r) σ H Q := ⟨v, r, rfl, q⟩
theorem r_gL {t : TGs} {v : V} {a b c : Int} {n : Nat} (h : Lq K H v a b c) (l : 3 = n) (q : t [.int a, .int b, .int c] σ H Q) : gTup K n t v σ H Q := by
  obtain ⟨p, rfl, h⟩ := h
  exact ⟨p, _, rfl, h, l, q⟩
theorem r_gF {t : TGs} {v : V} {x : Rat} {n : Nat} (h : Fq K H v x) (l : 2 = n) (q : t [.int x.num, .int x.den] σ H Q) : gTup K n t v σ H Q := by
  obtain ⟨p, rfl, h⟩ := h
  exact ⟨p, _, rfl, h, l, q⟩
theorem r_gP {t : TGs} {v : V} {x y : Rat} {n : Nat} (h : Pq K H v x y) (l : 2 = n) (q : ∀ f g, Fq K H f x → Fq K H g y → t [f, g] σ H Q) : gTup K n t v σ H Q := by
  obtain ⟨p, f, g, rfl, h, h1, h2⟩ := h
  exact ⟨p, _, rfl, h, l, q f g h1 h2⟩
end
section
variable {K : PySem.W.Frag} {H : Hp} {Q : VK} {E : XK}
theorem r_ixL0 {v : V} {a b c : Int} (h : Lq K H v a b c) (k : Q (.int a) H) : rIxT K v (.int 0) H Q := by
  obtain ⟨p, rfl, t⟩ := h
  exact ⟨p, _, 0, _, rfl, rfl, t, rfl, k⟩
theorem r_ixL1 {v : V} {a b c : Int} (h : Lq K H v a b c) (k : Q (.int b) H) : rIxT K v (.int 1) H Q := by
  obtain ⟨p, rfl, t⟩ := h
  exact ⟨p, _, 1, _, rfl, rfl, t, rfl, k⟩
theorem r_ixL2 {v : V} {a b c : Int} (h : Lq K H v a b c) (k : Q (.int c) H) : rIxT K v (.int 2) H Q := by
  obtain ⟨p, rfl, t⟩ := h
  exact ⟨p, _, 2, _, rfl, rfl, t, rfl, k⟩
end
theorem Lq.mk {K : PySem.W.Frag} {H : Hp} {p : Addr} {a b c : Int} (h : H p = some (.tup [.int a, .int b, .int c])) : Lq K H (.ref p) a b c := ⟨p, rfl, tupOf h⟩
def dl (a b c : Int) : PyData := .tuple [.int a, .int b, .int c]
theorem Lq.dp {K : PySem.W.Frag} {H : Hp} {v : V} {a b c : Int} (h : Lq K H v a b c) : Dp K H v (dl a b c) := by
  obtain ⟨p, rfl, t⟩ := h
  exact .tup t (.cons (.int _) (.cons (.int _) (.cons (.int _) .nil)))
def rIsNo : R2 := fun x y H Q => y = .non ∧ Q (.bl (decide (x = .non))) H
def rNotNo : R2 := fun x y H Q => y = .non ∧ Q (.bl (!decide (x = .non))) H
theorem op_isNo {X : Cx} : OpR X (compareOp .Is) rIsNo := op_isN
theorem op_notNo {X : Cx} : OpR X (compareOp .IsNot) rNotNo := op_notN
section
variable {K : PySem.W.Frag} {H : Hp} {Q : VK}
theorem r_eqL {v w : V} {a b c a' b' c' : Int} (h1 : Lq K H v a b c) (h2 : Lq K H w a' b' c') (e : a = a' ∧ b = b' ∧ c = c') (k : Q (.bl true) H) : rEqD K v w H Q := by
  obtain ⟨rfl, rfl, rfl⟩ := e
  exact r_eqTrue h1.dp h2.dp rfl rfl k
theorem r_neL {v w : V} {a b c a' b' c' : Int} (h1 : Lq K H v a b c) (h2 : Lq K H w a' b' c') (e : a = a' ∧ b = b' ∧ c = c') (k : Q (.bl false) H) : rNeD K v w H Q := by
  obtain ⟨rfl, rfl, rfl⟩ := e
  refine ⟨_, _, h1.dp, h2.dp, rfl, rfl, ?_⟩
  rw [SeqAt.eqv_refl _ rfl]
  exact k
theorem r_eqN (k : Q (.bl true) H) : rEqD K .non .non H Q := ⟨_, _, .non, .non, rfl, rfl, k⟩
theorem r_neN (k : Q (.bl false) H) : rNeD K .non .non H Q := ⟨_, _, .non, .non, rfl, rfl, k⟩
theorem r_isNN (k : Q (.bl true) H) : rIsNo .non .non H Q := ⟨rfl, k⟩
theorem r_isNR {a : Addr} (k : Q (.bl false) H) : rIsNo (.ref a) .non H Q := ⟨rfl, k⟩
theorem r_notNN (k : Q (.bl false) H) : rNotNo .non .non H Q := ⟨rfl, k⟩
theorem r_notNR {a : Addr} (k : Q (.bl true) H) : rNotNo (.ref a) .non H Q := ⟨rfl, k⟩
end
/-! ### promises of the program's places and lines -/
def spBetween (K : PySem.W.Frag) : Sp := fun vs H Q _ => ∃ (v w u : V) (x x' t : Rat) (n m k : Nat), vs = [v, w, u] ∧ Fq K H v x ∧ Fq K H w x' ∧ Fq K H u t ∧ Sz n x ∧ Sz m x' ∧ Sz k t ∧ n + m ≤ 3800 ∧ k ≤ 500 ∧
  ∀ (r : V) (H' : Hp), Same H H' → Fq K H' r (x + t * (x' - x)) → Q r H'
theorem r_between {K : PySem.W.Frag} {H : Hp} {Q : VK} {E : XK} {v w u : V} {x x' t : Rat} {n m k : Nat} (h1 : Fq K H v x) (h2 : Fq K H w x') (h3 : Fq K H u t) (s1 : Sz n x) (s2 : Sz m x') (s3 : Sz k t) (l1 : n + m ≤ 3800) (l2 : k ≤ 500) (c : ∀ (r : V) (H' : Hp), Same H H' → Fq K H' r (x + t * (x' - x)) → Q r H') : spBetween K ([v, w, u] ++ []) H Q E :=
  ⟨v, w, u, x, x', t, n, m, k, rfl, h1, h2, h3, s1, s2, s3, l1, l2, c⟩
/-- whole numbers over one bottom -/
def spCleared (K : PySem.W.Frag) : Sp := fun vs H Q _ => ∃ (v : V) (x y : Rat) (n m : Nat), vs = [v] ∧ Pq K H v x y ∧ Sz n x ∧ Sz m y ∧ n + m ≤ 7600 ∧
  ∀ (r : V) (H' : Hp) (X Y W : Int), Same H H' → Lq K H' r X Y W → 0 < W → (X : Rat) = x * W → (Y : Rat) = y * W → Sm (n + m) X → Sm (n + m) Y → Sm (n + m) W → Q r H'
theorem r_cleared {K : PySem.W.Frag} {H : Hp} {Q : VK} {E : XK} {v : V} {x y : Rat} {n m : Nat} (h : Pq K H v x y) (s1 : Sz n x) (s2 : Sz m y) (l : Nat.ble (n + m) 7600 = true)
    (c : ∀ (r : V) (H' : Hp) (X Y W : Int), Same H H' → Lq K H' r X Y W → 0 < W → (X : Rat) = x * W → (Y : Rat) = y * W → Sm (n + m) X → Sm (n + m) Y → Sm (n + m) W → Q r H') : spCleared K ([v] ++ []) H Q E :=
  ⟨v, x, y, n, m, rfl, h, s1, s2, Nat.le_of_ble_eq_true l, c⟩
def spWayI (K : PySem.W.Frag) : Sp := fun vs H Q _ => ∃ (v w : V) (x y x' y' : Rat) (n m : Nat), vs = [v, w] ∧ Pq K H v x y ∧ Pq K H w x' y' ∧ Sz n x ∧ Sz n y ∧ Sz m x' ∧ Sz m y' ∧ n ≤ 3800 ∧ m ≤ 3800 ∧
  ∀ (r : V) (H' : Hp) (X Y W : Int), Same H H' → Lq K H' r X Y W → 0 < W → (X : Rat) = (x' - x) * W → (Y : Rat) = (y' - y) * W → Sm (n + n + (m + m) + 1) X → Sm (n + n + (m + m) + 1) Y → Sm (n + n + (m + m)) W → Q r H'
theorem r_wayI {K : PySem.W.Frag} {H : Hp} {Q : VK} {E : XK} {v w : V} {x y x' y' : Rat} {n n2 m m2 : Nat} (h1 : Pq K H v x y) (h2 : Pq K H w x' y') (s1 : Sz n x) (s2 : Sz n2 y) (s3 : Sz m x') (s4 : Sz m2 y') (l1 : Nat.ble (max n n2) 3800 = true) (l2 : Nat.ble (max m m2) 3800 = true)
    (c : ∀ (r : V) (H' : Hp) (X Y W : Int), Same H H' → Lq K H' r X Y W → 0 < W → (X : Rat) = (x' - x) * W → (Y : Rat) = (y' - y) * W → Sm (max n n2 + max n n2 + (max m m2 + max m m2) + 1) X → Sm (max n n2 + max n n2 + (max m m2 + max m m2) + 1) Y → Sm (max n n2 + max n n2 + (max m m2 + max m m2)) W → Q r H') : spWayI K ([v, w] ++ []) H Q E :=
  ⟨v, w, x, y, x', y', max n n2, max m m2, rfl, h1, h2, s1.mono (by omega), s2.mono (by omega), s3.mono (by omega), s4.mono (by omega), Nat.le_of_ble_eq_true l1, Nat.le_of_ble_eq_true l2, c⟩
/-- the line through two places, or none -/
def spThru (K : PySem.W.Frag) : Sp := fun vs H Q _ => ∃ (v w : V) (x y x' y' : Rat) (n m : Nat), vs = [v, w] ∧ Pq K H v x y ∧ Pq K H w x' y' ∧ Sz n x ∧ Sz n y ∧ Sz m x' ∧ Sz m y' ∧ n + m ≤ 3800 ∧
  (x = x' ∧ y = y' → Q .non H) ∧
  (¬ (x = x' ∧ y = y') → ∀ (r : V) (H' : Hp) (a b c : Int), Same H H' → Lq K H' r a b c → Ln a b c → (a : Rat) * x + b * y = c → (a : Rat) * x' + b * y' = c → Sm (n + n + (m + m) + 1) a → Sm (n + n + (m + m) + 1) b → Sm (n + n + (m + m) + 1) c → Q r H')
theorem r_thru0 {K : PySem.W.Frag} {H : Hp} {Q : VK} {E : XK} {v w : V} {x y x' y' : Rat} {n n2 m m2 : Nat} (h1 : Pq K H v x y) (h2 : Pq K H w x' y') (s1 : Sz n x) (s2 : Sz n2 y) (s3 : Sz m x') (s4 : Sz m2 y') (l : Nat.ble (max n n2 + max m m2) 3800 = true) (e : x = x' ∧ y = y')
    (c : Q .non H) : spThru K ([v, w] ++ []) H Q E :=
  ⟨v, w, x, y, x', y', max n n2, max m m2, rfl, h1, h2, s1.mono (by omega), s2.mono (by omega), s3.mono (by omega), s4.mono (by omega), Nat.le_of_ble_eq_true l, fun _ => c, fun z => absurd e z⟩
theorem r_thru1 {K : PySem.W.Frag} {H : Hp} {Q : VK} {E : XK} {v w : V} {x y x' y' : Rat} {n n2 m m2 : Nat} (h1 : Pq K H v x y) (h2 : Pq K H w x' y') (s1 : Sz n x) (s2 : Sz n2 y) (s3 : Sz m x') (s4 : Sz m2 y') (l : Nat.ble (max n n2 + max m m2) 3800 = true) (e : ¬ (x = x' ∧ y = y'))
    (c : ∀ (r : V) (H' : Hp) (a b c : Int), Same H H' → Lq K H' r a b c → Ln a b c → (a : Rat) * x + b * y = c → (a : Rat) * x' + b * y' = c → Sm (max n n2 + max n n2 + (max m m2 + max m m2) + 1) a → Sm (max n n2 + max n n2 + (max m m2 + max m m2) + 1) b → Sm (max n n2 + max n n2 + (max m m2 + max m m2) + 1) c → Q r H') : spThru K ([v, w] ++ []) H Q E :=
  ⟨v, w, x, y, x', y', max n n2, max m m2, rfl, h1, h2, s1.mono (by omega), s2.mono (by omega), s3.mono (by omega), s4.mono (by omega), Nat.le_of_ble_eq_true l, fun z => absurd z e, fun _ => c⟩
/-- a line through a place, its way given -/
def spLineAt (K : PySem.W.Frag) : Sp := fun vs H Q _ => ∃ (v : V) (x y : Rat) (a b : Int) (n k : Nat), vs = [v, .int a, .int b] ∧ Pq K H v x y ∧ ¬ (a = 0 ∧ b = 0) ∧ Sz n x ∧ Sz n y ∧ Sm k a ∧ Sm k b ∧ n + k ≤ 2600 ∧
  ∀ (r : V) (H' : Hp) (A B C : Int), Same H H' → Lq K H' r A B C → Ln A B C → (A : Rat) * x + B * y = C → (A : Rat) * b = B * a → Sm (k + (n + n) + 1) A → Sm (k + (n + n) + 1) B → Sm (k + (n + n) + 1) C → Q r H'
def spAlong (K : PySem.W.Frag) (R : Int → Int → Int → Int → Prop) : Sp := fun vs H Q _ => ∃ (v w : V) (x y : Rat) (a b c : Int) (n k : Nat), vs = [v, w] ∧ Pq K H v x y ∧ Lq K H w a b c ∧ ¬ (a = 0 ∧ b = 0) ∧ Sz n x ∧ Sz n y ∧ Sm k a ∧ Sm k b ∧ n + k ≤ 2600 ∧
  ∀ (r : V) (H' : Hp) (A B C : Int), Same H H' → Lq K H' r A B C → Ln A B C → (A : Rat) * x + B * y = C → R A B a b → Sm (k + (n + n) + 1) A → Sm (k + (n + n) + 1) B → Sm (k + (n + n) + 1) C → Q r H'
def RAl (A B a b : Int) : Prop := (A : Rat) * b = B * a
def RUp (A B a b : Int) : Prop := (A : Rat) * a + B * b = 0
theorem Ln.nz {a b c : Int} (h : Ln a b c) : ¬ (a = 0 ∧ b = 0) := by
  have := h.sg
  omega
theorem r_along {K : PySem.W.Frag} {R : Int → Int → Int → Int → Prop} {H : Hp} {Q : VK} {E : XK} {v w : V} {x y : Rat} {a b c : Int} {n n2 k k2 : Nat} (h1 : Pq K H v x y) (h2 : Lq K H w a b c) (hl : Ln a b c) (s1 : Sz n x) (s2 : Sz n2 y) (s3 : Sm k a) (s4 : Sm k2 b) (l : Nat.ble (max n n2 + max k k2) 2600 = true)
    (c : ∀ (r : V) (H' : Hp) (A B C : Int), Same H H' → Lq K H' r A B C → Ln A B C → (A : Rat) * x + B * y = C → R A B a b → Sm (max k k2 + (max n n2 + max n n2) + 1) A → Sm (max k k2 + (max n n2 + max n n2) + 1) B → Sm (max k k2 + (max n n2 + max n n2) + 1) C → Q r H') : spAlong K R ([v, w] ++ []) H Q E :=
  ⟨v, w, x, y, a, b, _, max n n2, max k k2, rfl, h1, h2, hl.nz, s1.mono (by omega), s2.mono (by omega), s3.mono (by omega), s4.mono (by omega), Nat.le_of_ble_eq_true l, c⟩
/-- where two lines meet -/
def spMeet (K : PySem.W.Frag) : Sp := fun vs H Q _ => ∃ (v w : V) (a b c a' b' c' : Int) (n m : Nat), vs = [v, w] ∧ Lq K H v a b c ∧ Lq K H w a' b' c' ∧ Sm n a ∧ Sm n b ∧ Sm n c ∧ Sm m a' ∧ Sm m b' ∧ Sm m c' ∧ n + m ≤ 7600 ∧
  (a * b' = b * a' → Q .non H) ∧
  (a * b' ≠ b * a' → ∀ (r : V) (H' : Hp) (x y : Rat), Same H H' → Pq K H' r x y → (a : Rat) * x + b * y = c → (a' : Rat) * x + b' * y = c' → Sz (n + m + 1) x → Sz (n + m + 1) y → Q r H')
theorem r_meet0 {K : PySem.W.Frag} {H : Hp} {Q : VK} {E : XK} {v w : V} {a b c a' b' c' : Int} {n n2 n3 m m2 m3 : Nat} (h1 : Lq K H v a b c) (h2 : Lq K H w a' b' c') (s1 : Sm n a) (s2 : Sm n2 b) (s3 : Sm n3 c) (s4 : Sm m a') (s5 : Sm m2 b') (s6 : Sm m3 c') (l : Nat.ble (max n (max n2 n3) + max m (max m2 m3)) 7600 = true) (e : a * b' = b * a') (k : Q .non H) : spMeet K ([v, w] ++ []) H Q E :=
  ⟨v, w, a, b, c, a', b', c', max n (max n2 n3), max m (max m2 m3), rfl, h1, h2, s1.mono (by omega), s2.mono (by omega), s3.mono (by omega), s4.mono (by omega), s5.mono (by omega), s6.mono (by omega), Nat.le_of_ble_eq_true l, fun _ => k, fun z => absurd e z⟩
theorem r_meet1 {K : PySem.W.Frag} {H : Hp} {Q : VK} {E : XK} {v w : V} {a b c a' b' c' : Int} {n n2 n3 m m2 m3 : Nat} (h1 : Lq K H v a b c) (h2 : Lq K H w a' b' c') (s1 : Sm n a) (s2 : Sm n2 b) (s3 : Sm n3 c) (s4 : Sm m a') (s5 : Sm m2 b') (s6 : Sm m3 c') (l : Nat.ble (max n (max n2 n3) + max m (max m2 m3)) 7600 = true) (e : a * b' ≠ b * a')
    (k : ∀ (r : V) (H' : Hp) (x y : Rat), Same H H' → Pq K H' r x y → (a : Rat) * x + b * y = c → (a' : Rat) * x + b' * y = c' → Sz (max n (max n2 n3) + max m (max m2 m3) + 1) x → Sz (max n (max n2 n3) + max m (max m2 m3) + 1) y → Q r H') : spMeet K ([v, w] ++ []) H Q E :=
  ⟨v, w, a, b, c, a', b', c', max n (max n2 n3), max m (max m2 m3), rfl, h1, h2, s1.mono (by omega), s2.mono (by omega), s3.mono (by omega), s4.mono (by omega), s5.mono (by omega), s6.mono (by omega), Nat.le_of_ble_eq_true l, fun z => absurd z e, fun _ => k⟩
theorem cross_rat {a b a' b' : Int} (h : a * b' ≠ b * a') : (a : Rat) * b' - b * a' ≠ 0 := fun z => h (cast_inj (by
  simp only [Rat.intCast_mul]
  grind))
/-- two lines that are not side by side have one place -/
theorem meet_one {a b c a' b' c' : Int} {x y x' y' : Rat} (d : a * b' ≠ b * a') (o1 : (a : Rat) * x + b * y = c) (o2 : (a' : Rat) * x + b' * y = c') (o3 : (a : Rat) * x' + b * y' = c) (o4 : (a' : Rat) * x' + b' * y' = c') : x = x' ∧ y = y' := by
  have d := cross_rat d
  have e1 : ((a : Rat) * b' - b * a') * (x - x') = 0 := by grind
  have e2 : ((a : Rat) * b' - b * a') * (y - y') = 0 := by grind
  constructor
  · rcases Rat.mul_eq_zero.mp e1 with z | z
    · exact absurd z d
    · grind
  · rcases Rat.mul_eq_zero.mp e2 with z | z
    · exact absurd z d
    · grind
/-- lines side by side that have one place in common -/
theorem line_same {a b c a' b' c' : Int} {x y : Rat} (h : Ln a b c) (h' : Ln a' b' c') (e : (a : Rat) * b' = b * a') (o1 : (a : Rat) * x + b * y = c) (o2 : (a' : Rat) * x + b' * y = c') : a = a' ∧ b = b' ∧ c = c' := by
  refine line_unique h h' (cast_inj ?_) (cast_inj ?_) (cast_inj ?_)
  · rw [Rat.intCast_mul, Rat.intCast_mul]; exact e
  · rw [Rat.intCast_mul, Rat.intCast_mul]; grind
  · rw [Rat.intCast_mul, Rat.intCast_mul]; grind
end Mb
namespace Mb
open PySem L2
theorem Fq.half {K : PySem.W.Frag} {H : Hp} {a : Addr} (h : H a = some (.tup [.int 1, .int 2])) : Fq K H (.ref a) (1 / 2 : Rat) := ⟨a, rfl, tupOf (by rw [show ((1 / 2 : Rat)).num = 1 from by decide +kernel, show ((1 / 2 : Rat)).den = 2 from by decide +kernel]; exact h)⟩
theorem Fq.two {K : PySem.W.Frag} {H : Hp} {a : Addr} (h : H a = some (.tup [.int 2, .int 1])) : Fq K H (.ref a) (2 : Rat) := ⟨a, rfl, tupOf h⟩
theorem gcd_quot {a b : Int} {n : Nat} (ha : 0 < a) (hb : 0 < b) (s : Sm n a) : ∃ g A B : Int, (Int.gcd a b : Int) = g ∧ 0 < g ∧ Sm n g ∧ a = g * A ∧ b = g * B ∧ a / g = A ∧ b / g = B ∧ 0 < A ∧ 0 < B := by
  have g0 := gcd_pos (t := a) (show b ≠ 0 by omega)
  have d1 : (Int.gcd a b : Int) ∣ a := Int.gcd_dvd_left a b
  have d2 : (Int.gcd a b : Int) ∣ b := Int.gcd_dvd_right a b
  have e1 := (Int.mul_ediv_cancel' d1).symm
  have e2 := (Int.mul_ediv_cancel' d2).symm
  refine ⟨_, _, _, rfl, g0, s.le (Nat.le_of_dvd (by omega) (Int.natAbs_dvd_natAbs.mpr d1)), e1, e2, rfl, rfl, ?_, ?_⟩
  · rw [e1] at ha
    exact Int.pos_of_mul_pos_right ha g0
  · rw [e2] at hb
    exact Int.pos_of_mul_pos_right hb g0
end Mb
namespace Mb
open PySem L2
theorem sq_nn (a : Int) : 0 ≤ a * a := by
  rcases (show a < 0 ∨ 0 ≤ a by omega) with h | h
  · exact Int.le_of_lt (Int.mul_pos_of_neg_of_neg h h)
  · exact Int.mul_nonneg h h
theorem up_ne {a b c A B C : Int} (h : Ln a b c) (hL : Ln A B C) (e : RUp A B a b) : a * B ≠ b * A := by
  unfold RUp at e
  have e : A * a + B * b = 0 := cast_inj (by simp only [Rat.intCast_add, Rat.intCast_mul]; exact e)
  intro z
  have n1 := h.nz
  have n2 := hL.nz
  have p : 0 < a * a + b * b := by
    by_cases ha : a = 0
    · have : b ≠ 0 := fun y => n1 ⟨ha, y⟩
      have := sq_nn a
      have : 0 < b * b := by
        rcases Int.lt_or_gt_of_ne ‹b ≠ 0› with h | h
        · exact Int.mul_pos_of_neg_of_neg h h
        · exact Int.mul_pos h h
      omega
    · have := sq_nn b
      have : 0 < a * a := by
        rcases Int.lt_or_gt_of_ne ha with h | h
        · exact Int.mul_pos_of_neg_of_neg h h
        · exact Int.mul_pos h h
      omega
  have z1 : A * (a * a + b * b) = 0 := by grind
  have z2 : B * (a * a + b * b) = 0 := by grind
  refine n2 ⟨?_, ?_⟩
  · rcases Int.mul_eq_zero.mp z1 with y | y
    · exact y
    · omega
  · rcases Int.mul_eq_zero.mp z2 with y | y
    · exact y
    · omega
theorem up_way {a b A B C : Int} {x y fx fy : Rat} (hL : Ln A B C) (e : RUp A B a b) (o : (A : Rat) * x + B * y = C) (o2 : (A : Rat) * fx + B * fy = C) : (b : Rat) * (fx - x) = a * (fy - y) := by
  unfold RUp at e
  have n2 := hL.nz
  have z1 : (A : Rat) * ((b : Rat) * (fx - x) - a * (fy - y)) = 0 := by grind
  have z2 : (B : Rat) * ((b : Rat) * (fx - x) - a * (fy - y)) = 0 := by grind
  rcases Rat.mul_eq_zero.mp z1 with y1 | y1
  · rcases Rat.mul_eq_zero.mp z2 with y2 | y2
    · exact absurd ⟨cast_inj y1, cast_inj y2⟩ n2
    · grind
  · grind
def spFoot (K : PySem.W.Frag) : Sp := fun vs H Q _ => ∃ (v w : V) (x y : Rat) (a b c : Int) (n k : Nat), vs = [v, w] ∧ Pq K H v x y ∧ Lq K H w a b c ∧ Ln a b c ∧ Sz n x ∧ Sz n y ∧ Sm k a ∧ Sm k b ∧ Sm k c ∧ n + k ≤ 2600 ∧
  ∀ (r : V) (H' : Hp) (fx fy : Rat), Same H H' → Pq K H' r fx fy → (a : Rat) * fx + b * fy = c → (b : Rat) * (fx - x) = a * (fy - y) → Sz (k + (k + (n + n) + 1) + 1) fx → Sz (k + (k + (n + n) + 1) + 1) fy → Q r H'
def spMirror (K : PySem.W.Frag) : Sp := fun vs H Q _ => ∃ (v w : V) (x y : Rat) (a b c : Int) (n k : Nat), vs = [v, w] ∧ Pq K H v x y ∧ Lq K H w a b c ∧ Ln a b c ∧ Sz n x ∧ Sz n y ∧ Sm k a ∧ Sm k b ∧ Sm k c ∧ n + k ≤ 1250 ∧
  ∀ (r : V) (H' : Hp) (fx fy : Rat), Same H H' → Pq K H' r (fx + fx - x) (fy + fy - y) → (a : Rat) * fx + b * fy = c → (b : Rat) * (fx - x) = a * (fy - y) → Sz (k + (k + (n + n) + 1) + 1) fx → Sz (k + (k + (n + n) + 1) + 1) fy → Q r H'
section
variable {K : PySem.W.Frag} {H : Hp} {Q : VK} {E : XK} {v w : V} {x y : Rat} {a b c : Int} {n n2 k k2 k3 : Nat}
theorem r_foot (h1 : Pq K H v x y) (h2 : Lq K H w a b c) (hl : Ln a b c) (s1 : Sz n x) (s2 : Sz n2 y) (s3 : Sm k a) (s4 : Sm k2 b) (s5 : Sm k3 c) (l : Nat.ble (max n n2 + max k (max k2 k3)) 2600 = true)
    (q : ∀ (r : V) (H' : Hp) (fx fy : Rat), Same H H' → Pq K H' r fx fy → (a : Rat) * fx + b * fy = c → (b : Rat) * (fx - x) = a * (fy - y) → Sz (max k (max k2 k3) + (max k (max k2 k3) + (max n n2 + max n n2) + 1) + 1) fx → Sz (max k (max k2 k3) + (max k (max k2 k3) + (max n n2 + max n n2) + 1) + 1) fy → Q r H') : spFoot K ([v, w] ++ []) H Q E :=
  ⟨v, w, x, y, a, b, c, max n n2, max k (max k2 k3), rfl, h1, h2, hl, s1.mono (by omega), s2.mono (by omega), s3.mono (by omega), s4.mono (by omega), s5.mono (by omega), Nat.le_of_ble_eq_true l, q⟩
theorem r_mirror (h1 : Pq K H v x y) (h2 : Lq K H w a b c) (hl : Ln a b c) (s1 : Sz n x) (s2 : Sz n2 y) (s3 : Sm k a) (s4 : Sm k2 b) (s5 : Sm k3 c) (l : Nat.ble (max n n2 + max k (max k2 k3)) 1250 = true)
    (q : ∀ (r : V) (H' : Hp) (fx fy : Rat), Same H H' → Pq K H' r (fx + fx - x) (fy + fy - y) → (a : Rat) * fx + b * fy = c → (b : Rat) * (fx - x) = a * (fy - y) → Sz (max k (max k2 k3) + (max k (max k2 k3) + (max n n2 + max n n2) + 1) + 1) fx → Sz (max k (max k2 k3) + (max k (max k2 k3) + (max n n2 + max n n2) + 1) + 1) fy → Q r H') : spMirror K ([v, w] ++ []) H Q E :=
  ⟨v, w, x, y, a, b, c, max n n2, max k (max k2 k3), rfl, h1, h2, hl, s1.mono (by omega), s2.mono (by omega), s3.mono (by omega), s4.mono (by omega), s5.mono (by omega), Nat.le_of_ble_eq_true l, q⟩
end
/-- a place has one foot on a line -/
theorem foot_one {a b c : Int} {x y fx fy gx gy : Rat} (h : Ln a b c) (o1 : (a : Rat) * fx + b * fy = c) (e1 : (b : Rat) * (fx - x) = a * (fy - y)) (o2 : (a : Rat) * gx + b * gy = c) (e2 : (b : Rat) * (gx - x) = a * (gy - y)) : fx = gx ∧ fy = gy := by
  have d : a * (-a) ≠ b * b := by
    have n := h.nz
    intro z
    have p1 := sq_nn a
    have p2 := sq_nn b
    have e : a * (-a) = -(a * a) := by grind
    have z1 : a * a = 0 := by omega
    have z2 : b * b = 0 := by omega
    exact n ⟨by rcases Int.mul_eq_zero.mp z1 with y | y <;> exact y, by rcases Int.mul_eq_zero.mp z2 with y | y <;> exact y⟩
  have d := cross_rat d
  simp only [Rat.intCast_neg] at d
  have f1 : ((a : Rat) * -a - b * b) * (fx - gx) = 0 := by grind
  have f2 : ((a : Rat) * -a - b * b) * (fy - gy) = 0 := by grind
  constructor
  · rcases Rat.mul_eq_zero.mp f1 with z | z
    · exact absurd z d
    · grind
  · rcases Rat.mul_eq_zero.mp f2 with z | z
    · exact absurd z d
    · grind
end Mb
namespace Mb
open PySem L2
/-! ### lines and places, or none -/
def Lo (K : PySem.W.Frag) (H : Hp) (v : V) : Option (Int × Int × Int) → Prop
  | none => v = .non
  | some (a, b, c) => Lq K H v a b c
def Po (K : PySem.W.Frag) (H : Hp) (v : V) : Option (Rat × Rat) → Prop
  | none => v = .non
  | some (x, y) => Pq K H v x y
theorem Lo.up {K : PySem.W.Frag} {H H' : Hp} {v : V} {o : Option (Int × Int × Int)} (h : Lo K H v o) (s : Same H H') : Lo K H' v o := by
  match o, h with
  | none, h => exact h
  | some (a, b, c), h => exact Lq.up h s
theorem Po.up {K : PySem.W.Frag} {H H' : Hp} {v : V} {o : Option (Rat × Rat)} (h : Po K H v o) (s : Same H H') : Po K H' v o := by
  match o, h with
  | none, h => exact h
  | some (a, b), h => exact Pq.up h s
theorem Lo.upB {K : PySem.W.Frag} {H H' : Hp} {v : V} {o : Option (Int × Int × Int)} {p : Addr} {n : Int} (h : Lo K H v o) (s : But p H H') (hp : Sr H p n) : Lo K H' v o := by
  match o, h with
  | none, h => exact h
  | some (a, b, c), h => exact Lq.upB h s hp
theorem Po.upB {K : PySem.W.Frag} {H H' : Hp} {v : V} {o : Option (Rat × Rat)} {p : Addr} {n : Int} (h : Po K H v o) (s : But p H H') (hp : Sr H p n) : Po K H' v o := by
  match o, h with
  | none, h => exact h
  | some (a, b), h => exact Pq.upB h s hp
def dLo : Option (Int × Int × Int) → PyData
  | none => .none
  | some (a, b, c) => dl a b c
def dPo : Option (Rat × Rat) → PyData
  | none => .none
  | some (x, y) => dpl x y
theorem Lo.dp {K : PySem.W.Frag} {H : Hp} {v : V} {o : Option (Int × Int × Int)} (h : Lo K H v o) : Dp K H v (dLo o) := by
  match o, h with
  | none, h => cases h; exact .non
  | some (a, b, c), h => exact Lq.dp h
theorem Po.dp {K : PySem.W.Frag} {H : Hp} {v : V} {o : Option (Rat × Rat)} (h : Po K H v o) : Dp K H v (dPo o) := by
  match o, h with
  | none, h => cases h; exact .non
  | some (a, b), h => exact Pq.dp h
theorem dLo_ok (o : Option (Int × Int × Int)) : SeqAt.shaped (dLo o) = true ∧ PyData.canLay0 (dLo o) = true := by
  match o with
  | none => exact ⟨rfl, rfl⟩
  | some (a, b, c) => exact ⟨rfl, rfl⟩
theorem dPo_ok (o : Option (Rat × Rat)) : SeqAt.shaped (dPo o) = true ∧ PyData.canLay0 (dPo o) = true := by
  match o with
  | none => exact ⟨rfl, rfl⟩
  | some (a, b) => exact ⟨rfl, rfl⟩
section
variable {K : PySem.W.Frag} {H : Hp} {Q : VK}
theorem r_neTrue {v w : V} {d : PyData} (h1 : Dp K H v d) (h2 : Dp K H w d) (sh : SeqAt.shaped d = true) (cl : PyData.canLay0 d = true) (k : Q (.bl false) H) : rNeD K v w H Q := by
  refine ⟨d, d, h1, h2, sh, sh, ?_⟩
  rw [SeqAt.eqv_refl _ cl]
  exact k
theorem r_eqLo {v w : V} {o o' : Option (Int × Int × Int)} (h1 : Lo K H v o) (h2 : Lo K H w o') (e : o = o') (k : Q (.bl true) H) : rEqD K v w H Q := by
  subst e
  exact r_eqTrue h1.dp h2.dp (dLo_ok o).1 (dLo_ok o).2 k
theorem r_neLo {v w : V} {o o' : Option (Int × Int × Int)} (h1 : Lo K H v o) (h2 : Lo K H w o') (e : o = o') (k : Q (.bl false) H) : rNeD K v w H Q := by
  subst e
  exact r_neTrue h1.dp h2.dp (dLo_ok o).1 (dLo_ok o).2 k
theorem r_eqPo {v w : V} {o o' : Option (Rat × Rat)} (h1 : Po K H v o) (h2 : Po K H w o') (e : o = o') (k : Q (.bl true) H) : rEqD K v w H Q := by
  subst e
  exact r_eqTrue h1.dp h2.dp (dPo_ok o).1 (dPo_ok o).2 k
theorem r_nePo {v w : V} {o o' : Option (Rat × Rat)} (h1 : Po K H v o) (h2 : Po K H w o') (e : o = o') (k : Q (.bl false) H) : rNeD K v w H Q := by
  subst e
  exact r_neTrue h1.dp h2.dp (dPo_ok o).1 (dPo_ok o).2 k
end
/-! ### the line through two places -/
def Thr (x y x' y' : Rat) (l : Int × Int × Int) : Prop := Ln l.1 l.2.1 l.2.2 ∧ (l.1 : Rat) * x + l.2.1 * y = l.2.2 ∧ (l.1 : Rat) * x' + l.2.1 * y' = l.2.2 ∧ ¬ (x = x' ∧ y = y')
open Classical in
noncomputable def thr (x y x' y' : Rat) : Option (Int × Int × Int) := if h : ∃ l, Thr x y x' y' l then some h.choose else none
theorem thr_some {x y x' y' : Rat} {a b c : Int} (ne : ¬ (x = x' ∧ y = y')) (hl : Ln a b c) (o1 : (a : Rat) * x + b * y = c) (o2 : (a : Rat) * x' + b * y' = c) : thr x y x' y' = some (a, b, c) := by
  have h : ∃ l, Thr x y x' y' l := ⟨(a, b, c), hl, o1, o2, ne⟩
  unfold thr
  rw [dif_pos h]
  obtain ⟨h1, h2, h3, h4⟩ := h.choose_spec
  obtain ⟨e1, e2, e3⟩ := line_two h1 hl h2 h3 o1 o2 ne
  rw [← e1, ← e2, ← e3]
theorem thr_none {x y x' y' : Rat} (e : x = x' ∧ y = y') : thr x y x' y' = none := by
  unfold thr
  rw [dif_neg]
  rintro ⟨l, h1, h2, h3, h4⟩
  exact h4 e
theorem thr_spec {x y x' y' : Rat} {a b c : Int} (e : thr x y x' y' = some (a, b, c)) : ¬ (x = x' ∧ y = y') ∧ Ln a b c ∧ (a : Rat) * x + b * y = c ∧ (a : Rat) * x' + b * y' = c := by
  unfold thr at e
  split at e
  · rename_i h
    obtain ⟨h1, h2, h3, h4⟩ := h.choose_spec
    rw [Option.some.inj e] at h1 h2 h3
    exact ⟨h4, h1, h2, h3⟩
  · cases e
theorem thr_comm (x y x' y' : Rat) : thr x y x' y' = thr x' y' x y := by
  by_cases e : x = x' ∧ y = y'
  · rw [thr_none e, thr_none ⟨e.1.symm, e.2.symm⟩]
  · match h : thr x y x' y' with
    | none =>
      match h' : thr x' y' x y with
      | none => rfl
      | some (a, b, c) =>
        obtain ⟨h1, h2, h3, h4⟩ := thr_spec h'
        rw [thr_some e h2 h4 h3] at h
        cases h
    | some (a, b, c) =>
      obtain ⟨h1, h2, h3, h4⟩ := thr_spec h
      exact (thr_some (fun z => e ⟨z.1.symm, z.2.symm⟩) h2 h4 h3).symm
/-- as an option -/
def spThruO (K : PySem.W.Frag) : Sp := fun vs H Q _ => ∃ (v w : V) (x y x' y' : Rat) (n m : Nat), vs = [v, w] ∧ Pq K H v x y ∧ Pq K H w x' y' ∧ Sz n x ∧ Sz n y ∧ Sz m x' ∧ Sz m y' ∧ n + m ≤ 3800 ∧
  ∀ (r : V) (H' : Hp), Same H H' → Lo K H' r (thr x y x' y') → (¬ (x = x' ∧ y = y') → ∃ a b c, thr x y x' y' = some (a, b, c) ∧ Sm (n + n + (m + m) + 1) a ∧ Sm (n + n + (m + m) + 1) b ∧ Sm (n + n + (m + m) + 1) c) → Q r H'
theorem thruO_of {K : PySem.W.Frag} {vs : List V} {H : Hp} {Q : VK} {E : XK} (h : spThruO K vs H Q E) : spThru K vs H Q E := by
  obtain ⟨v, w, x, y, x', y', n, m, rfl, h1, h2, s1, s2, s3, s4, l, k⟩ := h
  refine ⟨v, w, x, y, x', y', n, m, rfl, h1, h2, s1, s2, s3, s4, l, fun e => k _ _ (fun _ _ h => h) (by rw [thr_none e]; rfl) (fun z => absurd e z), fun ne r H' a b c g hl hL o1 o2 t1 t2 t3 => ?_⟩
  have e := thr_some ne hL o1 o2
  exact k r H' g (by rw [e]; exact hl) (fun _ => ⟨a, b, c, e, t1, t2, t3⟩)
theorem r_thruO {K : PySem.W.Frag} {H : Hp} {Q : VK} {E : XK} {v w : V} {x y x' y' : Rat} {n n2 m m2 : Nat} (h1 : Pq K H v x y) (h2 : Pq K H w x' y') (s1 : Sz n x) (s2 : Sz n2 y) (s3 : Sz m x') (s4 : Sz m2 y') (l : Nat.ble (max n n2 + max m m2) 3800 = true)
    (c : ∀ (r : V) (H' : Hp), Same H H' → Lo K H' r (thr x y x' y') → (¬ (x = x' ∧ y = y') → ∃ a b c, thr x y x' y' = some (a, b, c) ∧ Sm (max n n2 + max n n2 + (max m m2 + max m m2) + 1) a ∧ Sm (max n n2 + max n n2 + (max m m2 + max m m2) + 1) b ∧ Sm (max n n2 + max n n2 + (max m m2 + max m m2) + 1) c) → Q r H') : spThruO K ([v, w] ++ []) H Q E :=
  ⟨v, w, x, y, x', y', max n n2, max m m2, rfl, h1, h2, s1.mono (by omega), s2.mono (by omega), s3.mono (by omega), s4.mono (by omega), Nat.le_of_ble_eq_true l, c⟩
/-! ### where two lines meet -/
def mt (a b c a' b' c' : Int) : Option (Rat × Rat) := if a * b' = b * a' then none else some (((c : Rat) * b' - b * c') / (a * b' - b * a'), ((a : Rat) * c' - c * a') / (a * b' - b * a'))
theorem mt_some {a b c a' b' c' : Int} {x y : Rat} (d : a * b' ≠ b * a') (o1 : (a : Rat) * x + b * y = c) (o2 : (a' : Rat) * x + b' * y = c') : mt a b c a' b' c' = some (x, y) := by
  unfold mt
  rw [if_neg d]
  have rd := cross_rat d
  have e1 : ((c : Rat) * b' - b * c') / (a * b' - b * a') = x := by grind
  have e2 : ((a : Rat) * c' - c * a') / (a * b' - b * a') = y := by grind
  rw [e1, e2]
theorem mt_none {a b c a' b' c' : Int} (d : a * b' = b * a') : mt a b c a' b' c' = none := if_pos d
def spMeetO (K : PySem.W.Frag) : Sp := fun vs H Q _ => ∃ (v w : V) (a b c a' b' c' : Int) (n m : Nat), vs = [v, w] ∧ Lq K H v a b c ∧ Lq K H w a' b' c' ∧ Sm n a ∧ Sm n b ∧ Sm n c ∧ Sm m a' ∧ Sm m b' ∧ Sm m c' ∧ n + m ≤ 7600 ∧
  ∀ (r : V) (H' : Hp), Same H H' → Po K H' r (mt a b c a' b' c') → (a * b' ≠ b * a' → ∃ x y, mt a b c a' b' c' = some (x, y) ∧ (a : Rat) * x + b * y = c ∧ (a' : Rat) * x + b' * y = c' ∧ Sz (n + m + 1) x ∧ Sz (n + m + 1) y) → Q r H'
theorem meetO_of {K : PySem.W.Frag} {vs : List V} {H : Hp} {Q : VK} {E : XK} (h : spMeetO K vs H Q E) : spMeet K vs H Q E := by
  obtain ⟨v, w, a, b, c, a', b', c', n, m, rfl, h1, h2, s1, s2, s3, s4, s5, s6, l, k⟩ := h
  refine ⟨v, w, a, b, c, a', b', c', n, m, rfl, h1, h2, s1, s2, s3, s4, s5, s6, l, fun e => k _ _ (fun _ _ h => h) (by rw [mt_none e]; rfl) (fun z => absurd e z), fun d r H' x y g hp o1 o2 z1 z2 => ?_⟩
  have e := mt_some d o1 o2
  exact k r H' g (by rw [e]; exact hp) (fun _ => ⟨x, y, e, o1, o2, z1, z2⟩)
theorem r_meetO {K : PySem.W.Frag} {H : Hp} {Q : VK} {E : XK} {v w : V} {a b c a' b' c' : Int} {n n2 n3 m m2 m3 : Nat} (h1 : Lq K H v a b c) (h2 : Lq K H w a' b' c') (s1 : Sm n a) (s2 : Sm n2 b) (s3 : Sm n3 c) (s4 : Sm m a') (s5 : Sm m2 b') (s6 : Sm m3 c') (l : Nat.ble (max n (max n2 n3) + max m (max m2 m3)) 7600 = true)
    (k : ∀ (r : V) (H' : Hp), Same H H' → Po K H' r (mt a b c a' b' c') → (a * b' ≠ b * a' → ∃ x y, mt a b c a' b' c' = some (x, y) ∧ (a : Rat) * x + b * y = c ∧ (a' : Rat) * x + b' * y = c' ∧ Sz (max n (max n2 n3) + max m (max m2 m3) + 1) x ∧ Sz (max n (max n2 n3) + max m (max m2 m3) + 1) y) → Q r H') : spMeetO K ([v, w] ++ []) H Q E :=
  ⟨v, w, a, b, c, a', b', c', max n (max n2 n3), max m (max m2 m3), rfl, h1, h2, s1.mono (by omega), s2.mono (by omega), s3.mono (by omega), s4.mono (by omega), s5.mono (by omega), s6.mono (by omega), Nat.le_of_ble_eq_true l, k⟩
/-! ### steps of the laws -/
section
variable {K : PySem.W.Frag} {H : Hp} {Q : VK} {E : XK}
theorem r_onT {v w : V} {a b c : Int} {x y : Rat} {n1 n2 n3 n4 n5 : Nat} (h1 : Lq K H v a b c) (h2 : Pq K H w x y) (s1 : Sm n1 a) (s2 : Sm n2 b) (s3 : Sm n3 c) (s4 : Sz n4 x) (s5 : Sz n5 y) (l : Nat.ble (max n1 (max n2 (max n3 (max n4 n5)))) 20000 = true) (e : (a : Rat) * x + b * y = c) (k : Q (.bl true) H) : spOn K ([v, w] ++ []) H Q E := by
  have := Nat.le_of_ble_eq_true l
  exact ⟨v, w, a, b, c, x, y, rfl, h1, h2, s1.mono (by omega), s2.mono (by omega), s3.mono (by omega), s4.mono (by omega), s5.mono (by omega), by rw [decide_eq_true e]; exact k⟩
theorem r_onD {v w : V} {a b c : Int} {x y : Rat} {n1 n2 n3 n4 n5 : Nat} (h1 : Lq K H v a b c) (h2 : Pq K H w x y) (s1 : Sm n1 a) (s2 : Sm n2 b) (s3 : Sm n3 c) (s4 : Sz n4 x) (s5 : Sz n5 y) (l : Nat.ble (max n1 (max n2 (max n3 (max n4 n5)))) 20000 = true) (k : Q (.bl (decide ((a : Rat) * x + b * y = c))) H) : spOn K ([v, w] ++ []) H Q E := by
  have := Nat.le_of_ble_eq_true l
  exact ⟨v, w, a, b, c, x, y, rfl, h1, h2, s1.mono (by omega), s2.mono (by omega), s3.mono (by omega), s4.mono (by omega), s5.mono (by omega), k⟩
theorem r_isLn {v : V} {a b c : Int} (h1 : Lq K H v a b c) (hl : Ln a b c) (k : Q (.bl true) H) : spIsLn K ([v] ++ []) H Q E := ⟨v, a, b, c, rfl, h1, hl, k⟩
theorem r_isNLq {v : V} {a b c : Int} (h1 : Lq K H v a b c) (k : Q (.bl false) H) : rIsNo v .non H Q := by
  obtain ⟨p, rfl, _⟩ := h1
  exact ⟨rfl, k⟩
theorem r_notNLq {v : V} {a b c : Int} (h1 : Lq K H v a b c) (k : Q (.bl true) H) : rNotNo v .non H Q := by
  obtain ⟨p, rfl, _⟩ := h1
  exact ⟨rfl, k⟩
theorem r_isNPq {v : V} {x y : Rat} (h1 : Pq K H v x y) (k : Q (.bl false) H) : rIsNo v .non H Q := by
  obtain ⟨p, _, _, rfl, _⟩ := h1
  exact ⟨rfl, k⟩
theorem r_notNPq {v : V} {x y : Rat} (h1 : Pq K H v x y) (k : Q (.bl true) H) : rNotNo v .non H Q := by
  obtain ⟨p, _, _, rfl, _⟩ := h1
  exact ⟨rfl, k⟩
end
/-! ### a place of a line -/
def spSpot (K : PySem.W.Frag) : Sp := fun vs H Q _ => ∃ (v u : V) (a b c : Int) (t : Rat), vs = [v, u] ∧ Lq K H v a b c ∧ Ln a b c ∧ Fq K H u t ∧ Sm 30 a ∧ Sm 30 b ∧ Sm 30 c ∧ Sz 31 t ∧
  ∀ (r : V) (H' : Hp) (x y : Rat), Same H H' → Pq K H' r x y → (a : Rat) * x + b * y = c → Sz 183 x → Sz 183 y → Q r H'
theorem r_spot {K : PySem.W.Frag} {H : Hp} {Q : VK} {E : XK} {v u : V} {a b c : Int} {t : Rat} (h1 : Lq K H v a b c) (hl : Ln a b c) (h2 : Fq K H u t) (s1 : Sm 30 a) (s2 : Sm 30 b) (s3 : Sm 30 c) (s4 : Sz 31 t)
    (k : ∀ (r : V) (H' : Hp) (x y : Rat), Same H H' → Pq K H' r x y → (a : Rat) * x + b * y = c → Sz 183 x → Sz 183 y → Q r H') : spSpot K ([v, u] ++ []) H Q E := ⟨v, u, a, b, c, t, rfl, h1, hl, h2, s1, s2, s3, s4, k⟩
theorem Ln.sq {a b c : Int} (h : Ln a b c) : 0 < a * a + b * b := by
  have n := h.nz
  have p1 := sq_nn a
  have p2 := sq_nn b
  by_cases z : a * a = 0
  · by_cases y : b * b = 0
    · exact absurd ⟨by rcases Int.mul_eq_zero.mp z with z | z <;> exact z, by rcases Int.mul_eq_zero.mp y with z | z <;> exact z⟩ n
    · omega
  · omega
theorem Rq.mk {K : PySem.W.Frag} {H : Hp} {p : Addr} {t b : Int} {n : Nat} (h : H p = some (.tup [.int t, .int b])) (nz : b ≠ 0) (s1 : Sm n t) (s2 : Sm n b) : Rq K H (.ref p) (Rat.divInt t b) n := ⟨p, t, b, rfl, tupOf h, nz, rfl, s1, s2⟩
end Mb
namespace Mb
open PySem L2
def spGood (K : PySem.W.Frag) : Sp := fun vs H Q _ => ∃ (v w : V) (x y : Rat) (a b c : Int), vs = [v, w] ∧ Pq K H v x y ∧ Lq K H w a b c ∧ Ln a b c ∧ Sz 211 x ∧ Sz 211 y ∧ Sm 210 a ∧ Sm 210 b ∧ Sm 210 c ∧ ∀ H', Same H H' → Q (.bl true) H'
theorem r_good {K : PySem.W.Frag} {H : Hp} {Q : VK} {E : XK} {v w : V} {x y : Rat} {a b c : Int} {n n2 k k2 k3 : Nat} (h1 : Pq K H v x y) (h2 : Lq K H w a b c) (hl : Ln a b c) (s1 : Sz n x) (s2 : Sz n2 y) (s3 : Sm k a) (s4 : Sm k2 b) (s5 : Sm k3 c) (l : Nat.ble (max n n2) 211 = true) (l2 : Nat.ble (max k (max k2 k3)) 210 = true) (q : ∀ H', Same H H' → Q (.bl true) H') : spGood K ([v, w] ++ []) H Q E := by
  have := Nat.le_of_ble_eq_true l
  have := Nat.le_of_ble_eq_true l2
  exact ⟨v, w, x, y, a, b, c, rfl, h1, h2, hl, s1.mono (by omega), s2.mono (by omega), s3.mono (by omega), s4.mono (by omega), s5.mono (by omega), q⟩
def spOther (K : PySem.W.Frag) : Sp := fun vs H Q _ => ∃ (p : Addr) (n : Int) (w : V) (a b c : Int), vs = [.ref p, w] ∧ Sr H p n ∧ n ≤ 50000 ∧ Lq K H w a b c ∧ Ln a b c ∧ Sm 210 a ∧ Sm 210 b ∧ Sm 210 c ∧
  ∀ (v : V) (a b c : Int) (H' : Hp), But p H H' → Sr H' p (n + 200) → Lq K H' v a b c → Ln a b c → Sm 210 a → Sm 210 b → Sm 210 c → Q v H'
theorem r_other {K : PySem.W.Frag} {H : Hp} {Q : VK} {E : XK} {p : Addr} {n : Int} {w : V} {a b c : Int} (hp : Sr H p n) (l : n ≤ 50000) (h : Lq K H w a b c) (hl : Ln a b c) (s1 : Sm 210 a) (s2 : Sm 210 b) (s3 : Sm 210 c) (q : ∀ (v : V) (a b c : Int) (H' : Hp), But p H H' → Sr H' p (n + 200) → Lq K H' v a b c → Ln a b c → Sm 210 a → Sm 210 b → Sm 210 c → Q v H') : spOther K ([.ref p, w] ++ []) H Q E :=
  ⟨p, n, w, a, b, c, rfl, hp, l, h, hl, s1, s2, s3, q⟩
theorem beq_dec {p q : Prop} [Decidable p] [Decidable q] (h : p ↔ q) : (decide p == decide q) = true := by
  rw [decide_eq_decide.mpr h]
  exact beq_self_eq_true _
theorem mod30 (c : Int) : 0 ≤ c % 1000000000000000000000000000000 ∧ c % 1000000000000000000000000000000 < 1000000000000000000000000000000 := ⟨Int.emod_nonneg _ (by decide), Int.emod_lt_of_pos _ (by decide)⟩
theorem par_al {a b A B A' B' : Int} (n : ¬ (a = 0 ∧ b = 0)) (e : RAl A B a b) (e' : RAl A' B' a b) : (A' : Rat) * B = B' * A := by
  unfold RAl at e e'
  have z1 : (a : Rat) * ((A' : Rat) * B - B' * A) = 0 := by grind
  have z2 : (b : Rat) * ((A' : Rat) * B - B' * A) = 0 := by grind
  rcases Rat.mul_eq_zero.mp z1 with y1 | y1
  · rcases Rat.mul_eq_zero.mp z2 with y2 | y2
    · exact absurd ⟨cast_inj y1, cast_inj y2⟩ n
    · grind
  · grind
theorem par_up {a b A B A' B' : Int} (n : ¬ (a = 0 ∧ b = 0)) (e : RUp A B a b) (e' : RUp A' B' a b) : (A' : Rat) * B = B' * A := by
  unfold RUp at e e'
  have z1 : (a : Rat) * ((A' : Rat) * B - B' * A) = 0 := by grind
  have z2 : (b : Rat) * ((A' : Rat) * B - B' * A) = 0 := by grind
  rcases Rat.mul_eq_zero.mp z1 with y1 | y1
  · rcases Rat.mul_eq_zero.mp z2 with y2 | y2
    · exact absurd ⟨cast_inj y1, cast_inj y2⟩ n
    · grind
  · grind
theorem RAl.int {A B a b : Int} (e : RAl A B a b) : A * b = B * a := cast_inj (by simp only [Rat.intCast_mul]; exact e)
theorem RUp.int {A B a b : Int} (e : RUp A B a b) : A * a + B * b = 0 := cast_inj (by simp only [Rat.intCast_add, Rat.intCast_mul]; exact e)
end Mb
namespace Mb
open PySem L2
/-! ### circles -/
def Cq (K : PySem.W.Frag) (H : Hp) (v : V) (x y s : Rat) : Prop := ∃ a f g h, v = .ref a ∧ SqT K H a [f, g, h] ∧ Fq K H f x ∧ Fq K H g y ∧ Fq K H h s
theorem Cq.up {K : PySem.W.Frag} {H H' : Hp} {v : V} {x y s : Rat} (h : Cq K H v x y s) (e : Same H H') : Cq K H' v x y s := by
  obtain ⟨a, f, g, k, rfl, t, h1, h2, h3⟩ := h
  exact ⟨a, f, g, k, rfl, e.tp t, h1.up e, h2.up e, h3.up e⟩
theorem Cq.upB {K : PySem.W.Frag} {H H' : Hp} {v : V} {x y s : Rat} {p : Addr} {n : Int} (h : Cq K H v x y s) (e : But p H H') (hp : Sr H p n) : Cq K H' v x y s := by
  obtain ⟨a, f, g, k, rfl, t, h1, h2, h3⟩ := h
  obtain ⟨xs, ex⟩ := hp.at_
  exact ⟨a, f, g, k, rfl, e.tup ex t, h1.upB e hp, h2.upB e hp, h3.upB e hp⟩
theorem Cq.mk {K : PySem.W.Frag} {H : Hp} {a : Addr} {f g k : V} {x y s : Rat} (h : H a = some (.tup [f, g, k])) (h1 : Fq K H f x) (h2 : Fq K H g y) (h3 : Fq K H k s) : Cq K H (.ref a) x y s := ⟨a, f, g, k, rfl, tupOf h, h1, h2, h3⟩
def dcq (x y s : Rat) : PyData := .tuple [dq x, dq y, dq s]
theorem Cq.dp {K : PySem.W.Frag} {H : Hp} {v : V} {x y s : Rat} (h : Cq K H v x y s) : Dp K H v (dcq x y s) := by
  obtain ⟨a, f, g, k, rfl, t, h1, h2, h3⟩ := h
  exact .tup t (.cons h1.dp (.cons h2.dp (.cons h3.dp .nil)))
section
variable {K : PySem.W.Frag} {H : Hp} {Q : VK} {E : XK}
theorem r_eqC {v w : V} {x y s x' y' s' : Rat} (h1 : Cq K H v x y s) (h2 : Cq K H w x' y' s') (e : x = x' ∧ y = y' ∧ s = s') (k : Q (.bl true) H) : rEqD K v w H Q := by
  obtain ⟨rfl, rfl, rfl⟩ := e
  exact r_eqTrue h1.dp h2.dp rfl rfl k
theorem r_ixC0 {v : V} {x y s : Rat} (h : Cq K H v x y s) (k : ∀ f, Fq K H f x → Q f H) : rIxT K v (.int 0) H Q := by
  obtain ⟨a, f, g, h, rfl, t, h1, h2, h3⟩ := h
  exact ⟨a, _, 0, _, rfl, rfl, t, rfl, k _ h1⟩
theorem r_ixC1 {v : V} {x y s : Rat} (h : Cq K H v x y s) (k : ∀ f, Fq K H f y → Q f H) : rIxT K v (.int 1) H Q := by
  obtain ⟨a, f, g, h, rfl, t, h1, h2, h3⟩ := h
  exact ⟨a, _, 1, _, rfl, rfl, t, rfl, k _ h2⟩
theorem r_ixC2 {v : V} {x y s : Rat} (h : Cq K H v x y s) (k : ∀ f, Fq K H f s → Q f H) : rIxT K v (.int 2) H Q := by
  obtain ⟨a, f, g, h, rfl, t, h1, h2, h3⟩ := h
  exact ⟨a, _, 2, _, rfl, rfl, t, rfl, k _ h3⟩
theorem r_isNCq {v : V} {x y s : Rat} (h1 : Cq K H v x y s) (k : Q (.bl false) H) : rIsNo v .non H Q := by
  obtain ⟨a, f, g, h, rfl, _⟩ := h1
  exact ⟨rfl, k⟩
theorem r_notNCq {v : V} {x y s : Rat} (h1 : Cq K H v x y s) (k : Q (.bl true) H) : rNotNo v .non H Q := by
  obtain ⟨a, f, g, h, rfl, _⟩ := h1
  exact ⟨rfl, k⟩
theorem r_isiT {v : V} {x y s : Rat} (h : Cq K H v x y s) (k : Q (.bl true) H) : rIsi K [v, .ty "tuple"] H Q := by
  obtain ⟨a, f, g, z, rfl, t, _⟩ := h
  exact r_isi (tyT t) rfl k
end
def spIsF (K : PySem.W.Frag) : Sp := fun vs H Q _ => ∃ (v : V) (x : Rat), vs = [v] ∧ Fq K H v x ∧ Q (.bl true) H
theorem isF_of {K : PySem.W.Frag} {vs : List V} {H : Hp} {Q : VK} {E : XK} (h : spIsF K vs H Q E) : spIsFr K vs H Q E := by
  obtain ⟨_, x, rfl, ⟨a, rfl, t⟩, k⟩ := h
  exact ⟨a, _, _, rfl, t, den_pos x, x.reduced, k⟩
theorem r_isF {K : PySem.W.Frag} {H : Hp} {Q : VK} {E : XK} {v : V} {x : Rat} (h : Fq K H v x) (k : Q (.bl true) H) : spIsF K ([v] ++ []) H Q E := ⟨v, x, rfl, h, k⟩
def spAbout (K : PySem.W.Frag) : Sp := fun vs H Q _ => ∃ (v w : V) (x y x' y' : Rat) (n m : Nat), vs = [v, w] ∧ Pq K H v x y ∧ Pq K H w x' y' ∧ Sz n x ∧ Sz n y ∧ Sz m x' ∧ Sz m y' ∧ n + m ≤ 1900 ∧
  (x = x' ∧ y = y' → Q .non H) ∧
  (¬ (x = x' ∧ y = y') → ∀ (r : V) (H' : Hp), Same H H' → Cq K H' r x y ((x' - x) * (x' - x) + (y' - y) * (y' - y)) → Q r H')
theorem r_about0 {K : PySem.W.Frag} {H : Hp} {Q : VK} {E : XK} {v w : V} {x y x' y' : Rat} {n n2 m m2 : Nat} (h1 : Pq K H v x y) (h2 : Pq K H w x' y') (s1 : Sz n x) (s2 : Sz n2 y) (s3 : Sz m x') (s4 : Sz m2 y') (l : Nat.ble (max n n2 + max m m2) 1900 = true) (e : x = x' ∧ y = y') (c : Q .non H) : spAbout K ([v, w] ++ []) H Q E :=
  ⟨v, w, x, y, x', y', max n n2, max m m2, rfl, h1, h2, s1.mono (by omega), s2.mono (by omega), s3.mono (by omega), s4.mono (by omega), Nat.le_of_ble_eq_true l, fun _ => c, fun z => absurd e z⟩
theorem r_about1 {K : PySem.W.Frag} {H : Hp} {Q : VK} {E : XK} {v w : V} {x y x' y' : Rat} {n n2 m m2 : Nat} (h1 : Pq K H v x y) (h2 : Pq K H w x' y') (s1 : Sz n x) (s2 : Sz n2 y) (s3 : Sz m x') (s4 : Sz m2 y') (l : Nat.ble (max n n2 + max m m2) 1900 = true) (e : ¬ (x = x' ∧ y = y')) (c : ∀ (r : V) (H' : Hp), Same H H' → Cq K H' r x y ((x' - x) * (x' - x) + (y' - y) * (y' - y)) → Q r H') : spAbout K ([v, w] ++ []) H Q E :=
  ⟨v, w, x, y, x', y', max n n2, max m m2, rfl, h1, h2, s1.mono (by omega), s2.mono (by omega), s3.mono (by omega), s4.mono (by omega), Nat.le_of_ble_eq_true l, fun z => absurd z e, fun _ => c⟩
/-- the law's own square of a distance -/
def spFar (K : PySem.W.Frag) : Sp := fun vs H Q _ => ∃ (v w : V) (x y x' y' : Rat) (n m : Nat), vs = [v, w] ∧ Pq K H v x y ∧ Pq K H w x' y' ∧ Sz n x ∧ Sz n y ∧ Sz m x' ∧ Sz m y' ∧ n + m ≤ 9000 ∧
  ∀ (r : V) (H' : Hp), Same H H' → Rq K H' r ((x - x') * (x - x') + (y - y') * (y - y')) (4 * (n + m) + 7) → Q r H'
theorem r_far {K : PySem.W.Frag} {H : Hp} {Q : VK} {E : XK} {v w : V} {x y x' y' : Rat} {n n2 m m2 : Nat} (h1 : Pq K H v x y) (h2 : Pq K H w x' y') (s1 : Sz n x) (s2 : Sz n2 y) (s3 : Sz m x') (s4 : Sz m2 y') (l : Nat.ble (max n n2 + max m m2) 9000 = true) (c : ∀ (r : V) (H' : Hp), Same H H' → Rq K H' r ((x - x') * (x - x') + (y - y') * (y - y')) (4 * (max n n2 + max m m2) + 7) → Q r H') : spFar K ([v, w] ++ []) H Q E :=
  ⟨v, w, x, y, x', y', max n n2, max m m2, rfl, h1, h2, s1.mono (by omega), s2.mono (by omega), s3.mono (by omega), s4.mono (by omega), Nat.le_of_ble_eq_true l, c⟩
/-! ### what five words mean -/
def spIn (K : PySem.W.Frag) : Sp := fun vs H Q _ => ∃ (v w u : V) (x y x' y' x2 y2 : Rat) (n : Nat), vs = [v, w, u] ∧ Pq K H v x y ∧ Pq K H w x' y' ∧ Pq K H u x2 y2 ∧ Sz n x ∧ Sz n y ∧ Sz n x' ∧ Sz n y' ∧ Sz n x2 ∧ Sz n y2 ∧ n ≤ 3000 ∧
  ∀ H', Same H H' → Q (.bl (decide ((x' - x) * (y2 - y) = (y' - y) * (x2 - x)))) H'
theorem r_in {K : PySem.W.Frag} {H : Hp} {Q : VK} {E : XK} {v w u : V} {x y x' y' x2 y2 : Rat} {n1 n2 n3 n4 n5 n6 : Nat} (h1 : Pq K H v x y) (h2 : Pq K H w x' y') (h3 : Pq K H u x2 y2) (s1 : Sz n1 x) (s2 : Sz n2 y) (s3 : Sz n3 x') (s4 : Sz n4 y') (s5 : Sz n5 x2) (s6 : Sz n6 y2) (l : Nat.ble (max (max n1 n2) (max (max n3 n4) (max n5 n6))) 3000 = true)
    (c : ∀ H', Same H H' → Q (.bl (decide ((x' - x) * (y2 - y) = (y' - y) * (x2 - x)))) H') : spIn K ([v, w, u] ++ []) H Q E :=
  ⟨v, w, u, x, y, x', y', x2, y2, max (max n1 n2) (max (max n3 n4) (max n5 n6)), rfl, h1, h2, h3, s1.mono (by omega), s2.mono (by omega), s3.mono (by omega), s4.mono (by omega), s5.mono (by omega), s6.mono (by omega), Nat.le_of_ble_eq_true l, c⟩
def spL2 (K : PySem.W.Frag) (R : Int → Int → Int → Int → Prop) [∀ a b c d, Decidable (R a b c d)] : Sp := fun vs H Q _ => ∃ (v w : V) (a b c a' b' c' : Int), vs = [v, w] ∧ Lq K H v a b c ∧ Lq K H w a' b' c' ∧ Sm 8000 a ∧ Sm 8000 b ∧ Sm 8000 a' ∧ Sm 8000 b' ∧ Q (.bl (decide (R a b a' b'))) H
abbrev RSide (a b a' b' : Int) : Prop := a * b' = b * a'
abbrev RSq (a b a' b' : Int) : Prop := a * a' + b * b' = 0
theorem r_L2 {K : PySem.W.Frag} {R : Int → Int → Int → Int → Prop} [∀ a b c d, Decidable (R a b c d)] {H : Hp} {Q : VK} {E : XK} {v w : V} {a b c a' b' c' : Int} {n1 n2 n3 n4 : Nat} (h1 : Lq K H v a b c) (h2 : Lq K H w a' b' c') (s1 : Sm n1 a) (s2 : Sm n2 b) (s3 : Sm n3 a') (s4 : Sm n4 b') (l : Nat.ble (max (max n1 n2) (max n3 n4)) 8000 = true) (k : Q (.bl (decide (R a b a' b'))) H) : spL2 K R ([v, w] ++ []) H Q E := by
  have := Nat.le_of_ble_eq_true l
  exact ⟨v, w, a, b, c, a', b', c', rfl, h1, h2, s1.mono (by omega), s2.mono (by omega), s3.mono (by omega), s4.mono (by omega), k⟩
def spIsB : Sp := fun vs H Q _ => ∃ b c : Bool, vs = [.bl b, .bl c] ∧ Q (.bl (b == c)) H
theorem r_isB {H : Hp} {Q : VK} {E : XK} {b c : Bool} (k : Q (.bl (b == c)) H) : spIsB ([.bl b, .bl c] ++ []) H Q E := ⟨b, c, rfl, k⟩
end Mb
namespace Mb
open PySem L2
def spCross (K : PySem.W.Frag) : Sp := fun vs H Q _ => ∃ (v w u : V) (x y x' y' x2 y2 : Rat), vs = [v, w, u] ∧ Pq K H v x y ∧ Pq K H w x' y' ∧ Pq K H u x2 y2 ∧ Sz 1500 x ∧ Sz 1500 y ∧ Sz 1500 x' ∧ Sz 1500 y' ∧ Sz 1500 x2 ∧ Sz 1500 y2 ∧
  ∀ (r : V) (H' : Hp), Same H H' → Rq K H' r ((x - x2) * (y' - y2) - (y - y2) * (x' - x2)) 12007 → Q r H'
theorem r_cross {K : PySem.W.Frag} {H : Hp} {Q : VK} {E : XK} {v w u : V} {x y x' y' x2 y2 : Rat} {n1 n2 n3 n4 n5 n6 : Nat} (h1 : Pq K H v x y) (h2 : Pq K H w x' y') (h3 : Pq K H u x2 y2) (s1 : Sz n1 x) (s2 : Sz n2 y) (s3 : Sz n3 x') (s4 : Sz n4 y') (s5 : Sz n5 x2) (s6 : Sz n6 y2) (l : Nat.ble (max (max n1 n2) (max (max n3 n4) (max n5 n6))) 1500 = true)
    (c : ∀ (r : V) (H' : Hp), Same H H' → Rq K H' r ((x - x2) * (y' - y2) - (y - y2) * (x' - x2)) 12007 → Q r H') : spCross K ([v, w, u] ++ []) H Q E := by
  have := Nat.le_of_ble_eq_true l
  exact ⟨v, w, u, x, y, x', y', x2, y2, rfl, h1, h2, h3, s1.mono (by omega), s2.mono (by omega), s3.mono (by omega), s4.mono (by omega), s5.mono (by omega), s6.mono (by omega), c⟩
/-- a raw fraction's top is nought just where it is nought -/
theorem Rq.top {K : PySem.W.Frag} {H : Hp} {v : V} {x : Rat} {n : Nat} (h : Rq K H v x n) : ∃ (p : Addr) (t b : Int), v = .ref p ∧ SqT K H p [.int t, .int b] ∧ Sm n t ∧ (t = 0 ↔ x = 0) := by
  obtain ⟨p, t, b, rfl, h1, nz, rfl, s1, _⟩ := h
  refine ⟨p, t, b, rfl, h1, s1, ?_⟩
  rw [Rat.divInt_eq_div]
  have nb := ratz nz
  constructor
  · rintro rfl
    grind
  · intro e
    refine cast_inj ?_
    grind
def spWideQ (K : PySem.W.Frag) : Sp := fun vs H Q _ => ∃ (p : Addr) (n i : Int) (m : Nat), vs = [.ref p, .int i] ∧ Sr H p n ∧ n ≤ 80000 ∧ 0 < i ∧ i.natAbs ≤ 2 ^ m ∧
  ∀ (v : V) (j : Int) (H' : Hp), But p H H' → Sr H' p (n + 20) → Fq K H' v (j : Rat) → Sm m j → Q v H'
theorem r_wide {K : PySem.W.Frag} {H : Hp} {Q : VK} {E : XK} {p : Addr} {n i : Int} {m : Nat} (hp : Sr H p n) (l : n ≤ 80000) (i0 : 0 < i) (im : i.natAbs ≤ 2 ^ m) (c : ∀ (v : V) (j : Int) (H' : Hp), But p H H' → Sr H' p (n + 20) → Fq K H' v (j : Rat) → Sm m j → Q v H') : spWideQ K ([.ref p, .int i] ++ []) H Q E := ⟨p, n, i, m, rfl, hp, l, i0, im, c⟩
def spWideNear (K : PySem.W.Frag) : Sp := fun vs H Q _ => ∃ (p : Addr) (n i : Int) (m : Nat) (w : V) (x y : Rat), vs = [.ref p, .int i, w] ∧ Sr H p n ∧ n ≤ 70000 ∧ 0 < i ∧ i.natAbs ≤ 2 ^ m ∧ 0 < m ∧ Pq K H w x y ∧ Sz m x ∧ Sz m y ∧
  ∀ (v : V) (x y : Rat) (H' : Hp), But p H H' → Sr H' p (n + 50) → Pq K H' v x y → Sz m x → Sz m y → Q v H'
theorem r_wideNear {K : PySem.W.Frag} {H : Hp} {Q : VK} {E : XK} {p : Addr} {n i : Int} {m : Nat} {w : V} {x y : Rat} (hp : Sr H p n) (l : n ≤ 70000) (i0 : 0 < i) (im : i.natAbs ≤ 2 ^ m) (m0 : 0 < m) (hw : Pq K H w x y) (sx : Sz m x) (sy : Sz m y)
    (c : ∀ (v : V) (x y : Rat) (H' : Hp), But p H H' → Sr H' p (n + 50) → Pq K H' v x y → Sz m x → Sz m y → Q v H') : spWideNear K ([.ref p, .int i, w] ++ []) H Q E := ⟨p, n, i, m, w, x, y, rfl, hp, l, i0, im, m0, hw, sx, sy, c⟩
def spWholeLine (K : PySem.W.Frag) : Sp := fun vs H Q _ => ∃ (p : Addr) (n i : Int) (m : Nat), vs = [.ref p, .int i] ∧ Sr H p n ∧ n ≤ 70000 ∧ 0 < i ∧ i.natAbs ≤ 2 ^ m ∧ 1 ≤ m ∧ m ≤ 8000 ∧
  ∀ (v : V) (a b c : Int) (H' : Hp), But p H H' → Sr H' p (n + 100) → Lq K H' v a b c → Ln a b c → Sm m a → Sm m b → Sm m c → Q v H'
theorem r_wholeLine {K : PySem.W.Frag} {H : Hp} {Q : VK} {E : XK} {p : Addr} {n i : Int} {m : Nat} (hp : Sr H p n) (l : n ≤ 70000) (i0 : 0 < i) (im : i.natAbs ≤ 2 ^ m) (m0 : 1 ≤ m) (m1 : m ≤ 8000) (c : ∀ (v : V) (a b c : Int) (H' : Hp), But p H H' → Sr H' p (n + 100) → Lq K H' v a b c → Ln a b c → Sm m a → Sm m b → Sm m c → Q v H') : spWholeLine K ([.ref p, .int i] ++ []) H Q E := ⟨p, n, i, m, rfl, hp, l, i0, im, m0, m1, c⟩
def spThree (K : PySem.W.Frag) : Sp := fun vs H Q _ => ∃ (a : Addr) (ns : List Int), vs = [.ref a] ∧ SqL K H a (ns.map V.int) ∧ ns.length ≤ 63 ∧
  ∀ (o : Addr) (v w u : V) (x y x' y' x2 y2 : Rat) (H' : Hp), Same H H' → SqT K H' o [v, w, u] → Pq K H' v x y → Pq K H' w x' y' → Pq K H' u x2 y2 → Sz 500 x → Sz 500 y → Sz 500 x' → Sz 500 y' → Sz 500 x2 → Sz 500 y2 → Q (.ref o) H'
def spLines (K : PySem.W.Frag) : Sp := fun vs H Q _ => ∃ (a : Addr) (ns : List Int), vs = [.ref a] ∧ SqL K H a (ns.map V.int) ∧ ns.length ≤ 63 ∧
  ∀ (o : Addr) (v w : V) (a b c a' b' c' : Int) (H' : Hp), Same H H' → SqT K H' o [v, w] → Lq K H' v a b c → Lq K H' w a' b' c' → Ln a b c → Ln a' b' c' → Sm 210 a → Sm 210 b → Sm 210 a' → Sm 210 b' → Q (.ref o) H'
theorem r_dN {c : Bool} {A B : Prop} (hc : c = true) (h : B) : if (!c) = true then A else B := by rw [hc]; exact h
theorem r_ixR0 {K : PySem.W.Frag} {H : Hp} {Q : VK} {v : V} {x : Rat} {n : Nat} (h : Rq K H v x n) (k : ∀ t : Int, (t = 0 ↔ x = 0) → Q (.int t) H) : rIxT K v (.int 0) H Q := by
  obtain ⟨p, t, b, rfl, h1, _, e⟩ := h.top
  exact ⟨p, _, 0, _, rfl, rfl, h1, rfl, k t e⟩
theorem r_gS {K : PySem.W.Frag} {σ : St} {H : Hp} {Q : St → Hp → Prop} {t : TGs} {a : Addr} {xs : List V} {n : Nat} (h : SqT K H a xs) (l : xs.length = n) (q : t xs σ H Q) : gTup K n t (.ref a) σ H Q := ⟨a, xs, rfl, h, l, q⟩
theorem r_three {K : PySem.W.Frag} {H : Hp} {Q : VK} {E : XK} {a : Addr} {ns : List Int} (hS : SqL K H a (ns.map V.int)) (hl : ns.length ≤ 63) (c : ∀ (o : Addr) (v w u : V) (x y x' y' x2 y2 : Rat) (H' : Hp), Same H H' → SqT K H' o [v, w, u] → Pq K H' v x y → Pq K H' w x' y' → Pq K H' u x2 y2 → Sz 500 x → Sz 500 y → Sz 500 x' → Sz 500 y' → Sz 500 x2 → Sz 500 y2 → Q (.ref o) H') : spThree K ([.ref a] ++ []) H Q E := ⟨a, ns, rfl, hS, hl, c⟩
theorem r_lines {K : PySem.W.Frag} {H : Hp} {Q : VK} {E : XK} {a : Addr} {ns : List Int} (hS : SqL K H a (ns.map V.int)) (hl : ns.length ≤ 63) (c : ∀ (o : Addr) (v w : V) (a b c a' b' c' : Int) (H' : Hp), Same H H' → SqT K H' o [v, w] → Lq K H' v a b c → Lq K H' w a' b' c' → Ln a b c → Ln a' b' c' → Sm 210 a → Sm 210 b → Sm 210 a' → Sm 210 b' → Q (.ref o) H') : spLines K ([.ref a] ++ []) H Q E := ⟨a, ns, rfl, hS, hl, c⟩
end Mb
namespace Mb
open PySem L2
/-! ### whole roots -/
def Sq (n : Int) : Prop := ∃ a : Int, 0 ≤ a ∧ a * a = n
theorem mul_self_lt {a b : Int} (h0 : 0 ≤ a) (h : a < b) : a * a < b * b := by
  have h1 : a * a ≤ a * b := Int.mul_le_mul_of_nonneg_left (by omega) h0
  have h2 : a * b < b * b := Int.mul_lt_mul_of_pos_right h (by omega)
  omega
theorem isq_iff {n g : Int} (g0 : 0 ≤ g) (hg : g * g ≤ n) (mx : ∀ k, 0 ≤ k → k * k ≤ n → k ≤ g) : g * g = n ↔ Sq n := by
  constructor
  · intro e
    exact ⟨g, g0, e⟩
  · rintro ⟨a, a0, e⟩
    have l := mx a a0 (by omega)
    by_cases h : a = g
    · rw [← h]; exact e
    · have := mul_self_lt a0 (show a < g by omega)
      omega
theorem newton {n g : Int} (g0 : 0 < g) (mx : ∀ k, 0 ≤ k → k * k ≤ n → k ≤ g) : ∀ k, 0 ≤ k → k * k ≤ n → k ≤ (g + n / g) / 2 := by
  intro k k0 hk
  have l := mx k k0 hk
  have h1 : (2 * k - g) * g ≤ n := by
    have s := Int.mul_nonneg (show 0 ≤ g - k by omega) (show 0 ≤ g - k by omega)
    have e : (2 * k - g) * g = k * k - (g - k) * (g - k) := by grind
    omega
  have h2 : 2 * k - g ≤ n / g := (Int.le_ediv_iff_mul_le g0).mpr h1
  omega
theorem newton_lt {n g : Int} (n0 : 0 ≤ n) (g0 : 0 < g) (h : n < g * g) : (g + n / g) / 2 < g ∧ 0 ≤ (g + n / g) / 2 := by
  have h1 : n / g < g := (Int.ediv_lt_iff_lt_mul g0).mpr h
  have h2 : 0 ≤ n / g := Int.ediv_nonneg n0 (by omega)
  omega
theorem lt_bits (n : Int) : n.natAbs < 2 ^ Builtin.Int.intBits n := by
  unfold Builtin.Int.intBits
  split
  · rename_i h
    have : n = 0 := by simpa using h
    subst this
    decide
  · exact Nat.lt_log2_self
/-- the first guess lies above the root -/
theorem guess_above {n : Int} (n0 : 0 ≤ n) {e : Nat} (he : Builtin.Int.intBits n ≤ 2 * e) : ∀ k, 0 ≤ k → k * k ≤ n → k ≤ (2 : Int) ^ e := by
  intro k k0 hk
  have h1 : n.natAbs < 2 ^ (2 * e) := Nat.lt_of_lt_of_le (lt_bits n) (Nat.pow_le_pow_right (by decide) he)
  have h2 : n < (2 : Int) ^ (2 * e) := by
    have : ((2 ^ (2 * e) : Nat) : Int) = (2 : Int) ^ (2 * e) := by norm_cast
    omega
  have h3 : (2 : Int) ^ (2 * e) = (2 : Int) ^ e * (2 : Int) ^ e := by rw [Nat.two_mul, Int.pow_add]
  apply Int.not_lt.mp
  intro c
  have := mul_self_lt (Int.le_of_lt (Int.pow_pos (show (0 : Int) < 2 by decide))) c
  omega
/-- n is 0 or more: the greatest whole number whose square is not above it -/
def spIsqrt : Sp := fun vs H Q _ => ∃ n : Int, vs = [.int n] ∧ 0 ≤ n ∧ Sm 16000 n ∧ ∀ g : Int, 0 ≤ g → g * g ≤ n → (∀ k, 0 ≤ k → k * k ≤ n → k ≤ g) → Q (.int g) H
def spSquare : Sp := fun vs H Q _ => ∃ n : Int, vs = [.int n] ∧ 0 ≤ n ∧ Sm 16000 n ∧ ∀ b : Bool, (b = true ↔ Sq n) → Q (.bl b) H
def spRoot (K : PySem.W.Frag) : Sp := fun vs H Q _ => ∃ (p : Addr) (t u : Int), vs = [.ref p] ∧ SqT K H p [.int t, .int u] ∧ 0 < u ∧ Sm 16000 t ∧ Sm 16000 u ∧
  (t < 0 ∨ ¬ Sq t ∨ ¬ Sq u → Q .non H) ∧ ∀ (a b : Int) (r : Addr) (H' : Hp), 0 ≤ a → 0 ≤ b → a * a = t → b * b = u → Same H H' → H' r = some (.tup [.int a, .int b]) → Q (.ref r) H'
theorem le_mul_self {a : Int} (h : 0 ≤ a) : a ≤ a * a := by
  by_cases c : a = 0
  · subst c; decide
  · have := Int.mul_le_mul_of_nonneg_left (show 1 ≤ a by omega) h
    omega
theorem root_sm {g n : Int} {k : Nat} (g0 : 0 ≤ g) (h : g * g ≤ n) (s : Sm k n) : Sm k g := s.le (by
  have := le_mul_self g0
  omega)
theorem root_gcd {a b t u : Int} (e1 : a * a = t) (e2 : b * b = u) (g : Int.gcd t u = 1) : Int.gcd a b = 1 := by
  have d1 : (Int.gcd a b : Int) ∣ t := e1 ▸ Int.dvd_mul_of_dvd_left (Int.gcd_dvd_left a b)
  have d2 : (Int.gcd a b : Int) ∣ u := e2 ▸ Int.dvd_mul_of_dvd_left (Int.gcd_dvd_right a b)
  have d3 := Int.dvd_coe_gcd d1 d2
  rw [g] at d3
  have := Int.natAbs_dvd_natAbs.mpr d3
  simpa using this
end Mb
namespace Mb
open PySem L2
/-! ### roots of rationals -/
theorem gcd_sq {a b : Int} (h : Int.gcd a b = 1) : Int.gcd (a * a) (b * b) = 1 := by
  have c : Nat.Coprime a.natAbs b.natAbs := h
  have := Nat.Coprime.mul_left (Nat.Coprime.mul_right c c) (Nat.Coprime.mul_right c c)
  show Nat.gcd (a * a).natAbs (b * b).natAbs = 1
  rw [Int.natAbs_mul, Int.natAbs_mul]
  exact this
theorem sq_parts {r q : Rat} (e : r * r = q) : q.num = r.num * r.num ∧ (q.den : Int) = r.den * r.den := by
  rw [mul_dv] at e
  have hd : (r.den : Int) * r.den ≠ 0 := Int.mul_ne_zero (den_ne r) (den_ne r)
  rw [← Rat.num_divInt_den q] at e
  have c := (Rat.divInt_eq_divInt_iff hd (den_ne q)).mp e
  refine frac_unique (den_pos q) (Int.mul_pos (den_pos r) (den_pos r)) q.reduced (gcd_sq r.reduced) ?_
  exact c.symm
def spRootQ (K : PySem.W.Frag) : Sp := fun vs H Q _ => ∃ (v : V) (q : Rat), vs = [v] ∧ Fq K H v q ∧ Sz 16000 q ∧
  ((¬ ∃ r : Rat, r * r = q) → Q .non H) ∧ ∀ r : Rat, 0 ≤ r → r * r = q → ∀ (o : V) (H' : Hp), Same H H' → Fq K H' o r → Q o H'
theorem rootQ_of {K : PySem.W.Frag} {vs : List V} {H : Hp} {Q : VK} {E : XK} (h : spRootQ K vs H Q E) : spRoot K vs H Q E := by
  obtain ⟨_, q, rfl, ⟨p, rfl, hp⟩, sz, h0, h1⟩ := h
  refine ⟨p, _, _, rfl, hp, den_pos q, sz.t, sz.b, fun hn => h0 ?_, fun a b r H' a0 b0 e1 e2 g hr => ?_⟩
  · rintro ⟨r, e⟩
    obtain ⟨n1, n2⟩ := sq_parts e
    have habs : ∀ z : Int, ∃ a : Int, 0 ≤ a ∧ a * a = z * z := fun z => ⟨z.natAbs, by omega, by
      rcases (show z = (z.natAbs : Int) ∨ z = -(z.natAbs : Int) by omega) with h | h
      · rw [← h]
      · generalize (z.natAbs : Int) = w at h
        rw [h, Int.neg_mul_neg]⟩
    rcases hn with h | h | h
    · have := sq_nn r.num
      omega
    · exact h (by obtain ⟨a, h1, h2⟩ := habs r.num; exact ⟨a, h1, by rw [h2, n1]⟩)
    · exact h (by obtain ⟨a, h1, h2⟩ := habs (r.den : Int); exact ⟨a, h1, by rw [h2, n2]⟩)
  · have bp : 0 < b := by
      have := den_pos q
      by_cases z : b = 0
      · subst z; simp at e2; omega
      · omega
    have gc := root_gcd e1 e2 q.reduced
    obtain ⟨f1, f2⟩ := low_rat (t := a) (show b ≠ 0 by omega)
    obtain ⟨f3, f4⟩ := low_eq (a := a) (b := b) (show b ≠ 0 by omega) bp gc rfl
    have en : (Rat.divInt a b).num = a := by rw [← f1, f3]
    have ed : ((Rat.divInt a b).den : Int) = b := by rw [← f2, f4]
    refine h1 (Rat.divInt a b) ?_ ?_ _ _ g ⟨r, rfl, tupOf (by rw [en, ed]; exact hr)⟩
    · rw [← Rat.num_nonneg, en]
      exact a0
    · rw [mul_dv, en, ed, e1, e2, Rat.num_divInt_den]
/-! ### slices, tuples with lists -/
section
variable {K : PySem.W.Frag} {σ : St} {H : Hp} {Q : VK}
theorem r_slC {v : V} {x y s : Rat} (h : Cq K H v x y s) (k : ∀ (p : Addr) (H' : Hp), Same H H' → Pq K H' (.ref p) x y → Q (.ref p) H') : rSlT K v none (some 2) H Q := by
  obtain ⟨a, f, g, z, rfl, t, h1, h2, h3⟩ := h
  refine ⟨a, _, rfl, t, ?_, fun p hp => ?_⟩
  · rintro ⟨_, z⟩
    exact absurd (show (2 : Nat) = 3 from z) (by decide)
  · have sn := same_new hp (.tup (cutV [f, g, z] none (some 2)))
    exact k p _ sn ⟨p, f, g, rfl, tupOf upd_same, h1.up sn, h2.up sn⟩
theorem r_sl {r : V → Option Int → Option Int → Hp → VK → Prop} {te : TE} {tl th : TO} (q : te σ H fun x H1 => tl σ H1 fun l H2 => th σ H2 fun u H3 => r x l u H3 Q) : tSl r te tl th σ H Q := q
theorem r_noP {Q : Option Int → Hp → Prop} (q : Q none H) : tNoPart σ H Q := q
theorem r_part {te : TE} {Q : Option Int → Hp → Prop} (q : te σ H fun x H1 => ∃ i, x = .int i ∧ Q (some i) H1) : tPart te σ H Q := q
theorem r_if {c : TT} {ta tb : TE} (q : c σ H fun b H1 => if b = true then ta σ H1 Q else tb σ H1 Q) : tIf c ta tb σ H Q := q
end
/-- a word and an empty list; a word and two places -/
def Ct0 (K : PySem.W.Frag) (H : Hp) (v : V) (w : Str) (l : Addr) : Prop := ∃ o, v = .ref o ∧ SqT K H o [.str w, .ref l] ∧ H l = some (.lst [])
def Ct2 (K : PySem.W.Frag) (H : Hp) (v : V) (l : Addr) (x y x' y' : Rat) : Prop := ∃ o f g, v = .ref o ∧ SqT K H o [.str "at", .ref l] ∧ H l = some (.lst [f, g]) ∧ Pq K H f x y ∧ Pq K H g x' y'
theorem Ct0.up {K : PySem.W.Frag} {H H' : Hp} {v : V} {w : Str} {l : Addr} (h : Ct0 K H v w l) (s : Same H H') : Ct0 K H' v w l := by
  obtain ⟨o, rfl, t, e⟩ := h
  exact ⟨o, rfl, s.tp t, s _ _ e⟩
theorem Ct2.up {K : PySem.W.Frag} {H H' : Hp} {v : V} {l : Addr} {x y x' y' : Rat} (h : Ct2 K H v l x y x' y') (s : Same H H') : Ct2 K H' v l x y x' y' := by
  obtain ⟨o, f, g, rfl, t, e, h1, h2⟩ := h
  exact ⟨o, f, g, rfl, s.tp t, s _ _ e, h1.up s, h2.up s⟩
def dct0 (w : Str) : PyData := .tuple [.str w, .list []]
def dct2 (x y x' y' : Rat) : PyData := .tuple [.str "at", .list [dpl x y, dpl x' y']]
theorem Ct0.dp {K : PySem.W.Frag} {H : Hp} {v : V} {w : Str} {l : Addr} (h : Ct0 K H v w l) : Dp K H v (dct0 w) := by
  obtain ⟨o, rfl, t, e⟩ := h
  exact .tup t (.cons (.str _) (.cons (.lst (lstOf e) .nil) .nil))
theorem Ct2.dp {K : PySem.W.Frag} {H : Hp} {v : V} {l : Addr} {x y x' y' : Rat} (h : Ct2 K H v l x y x' y') : Dp K H v (dct2 x y x' y') := by
  obtain ⟨o, f, g, rfl, t, e, h1, h2⟩ := h
  exact .tup t (.cons (.str _) (.cons (.lst (lstOf e) (.cons h1.dp (.cons h2.dp .nil))) .nil))
/-- what a line and a circle have in common -/
structure Cd (a b c : Int) (x y s d : Rat) : Prop where
  e : d = s * ((a : Rat) * a + b * b) - (c - a * x - b * y) * (c - a * x - b * y)
/-- the place one way along the line -/
def cX (a b c : Int) (x y r : Rat) : Rat := x + ((a : Rat) * (c - a * x - b * y) + b * r) / ((a : Rat) * a + b * b)
def cY (a b c : Int) (x y r : Rat) : Rat := y + ((b : Rat) * (c - a * x - b * y) - a * r) / ((a : Rat) * a + b * b)
def spCuts (K : PySem.W.Frag) : Sp := fun vs H Q _ => ∃ (v w : V) (a b c : Int) (x y s d : Rat), vs = [v, w] ∧ Lq K H v a b c ∧ Ln a b c ∧ Cq K H w x y s ∧ Sm 2300 a ∧ Sm 2300 b ∧ Sm 2300 c ∧ Sz 211 x ∧ Sz 211 y ∧ Sz 211 s ∧ Cd a b c x y s d ∧
  (d < 0 → ∀ (r : V) (l : Addr) (H' : Hp), Same H H' → H l = none → Ct0 K H' r "miss" l → Q r H') ∧
  (0 ≤ d → (¬ ∃ r : Rat, r * r = d) → ∀ (r : V) (l : Addr) (H' : Hp), Same H H' → H l = none → Ct0 K H' r "root" l → Q r H') ∧
  (∀ t : Rat, 0 ≤ t → t * t = d → ∀ (r : V) (l : Addr) (H' : Hp) (u : Rat), Same H H' → H l = none → (u = if 0 < b then -t else t) → Ct2 K H' r l (cX a b c x y u) (cY a b c x y u) (cX a b c x y (-u)) (cY a b c x y (-u)) → Sz 8000 (cX a b c x y u) → Sz 8000 (cY a b c x y u) → Sz 8000 (cX a b c x y (-u)) → Sz 8000 (cY a b c x y (-u)) → Q r H')
def spReached (K : PySem.W.Frag) : Sp := fun vs H Q _ => ∃ (v w u : V) (a b c X Y W e : Int) (t : Rat), vs = [v, w, .int e, u] ∧ Lq K H v a b c ∧ Lq K H w X Y W ∧ Fq K H u t ∧ 0 < a * a + b * b ∧ 0 < W ∧ Sm 2300 a ∧ Sm 2300 b ∧ Sm 422 X ∧ Sm 422 Y ∧ Sm 422 W ∧ Sm 2724 e ∧ Sm 5660 t.num ∧ Sm 5660 (t.den : Int) ∧ Sm 211 (t.den : Int) ∧
  ∀ (r : V) (H' : Hp) (x y : Rat), Same H H' → Pq K H' r x y → x = (((a : Rat) * a + b * b) * X + a * e + b * t) / (W * ((a : Rat) * a + b * b)) → y = (((a : Rat) * a + b * b) * Y + b * e - a * t) / (W * ((a : Rat) * a + b * b)) → Sz 8000 x → Sz 8000 y → Q r H'
end Mb
namespace Mb
open PySem L2
theorem num_lt {q : Rat} : q.num < 0 ↔ q < 0 := by
  have h := Rat.num_nonneg (q := q)
  constructor
  · intro z
    apply Rat.not_le.mp
    intro y
    have := h.mpr y
    omega
  · intro z
    have : ¬ 0 ≤ q := Rat.not_le.mpr z
    have : ¬ 0 ≤ q.num := fun y => this (h.mp y)
    omega
theorem Sz.dvd {n : Nat} {q : Rat} {t b : Int} (hb : b ≠ 0) (e : q = Rat.divInt t b) (s : Sm n b) : Sm n (q.den : Int) := by
  obtain ⟨_, e2⟩ := low_rat (t := t) hb
  rw [e, ← e2]
  exact s.le (lowB_le hb)
theorem root_sz {r q : Rat} {n m : Nat} (r0 : 0 ≤ r) (e : r * r = q) (s1 : Sm n q.num) (s2 : Sm m (q.den : Int)) : Sm n r.num ∧ Sm m (r.den : Int) := by
  obtain ⟨e1, e2⟩ := sq_parts e
  constructor
  · exact root_sm (Rat.num_nonneg.mpr r0) (by omega) s1
  · exact root_sm (by omega) (by omega) s2
theorem Fq.neg {K : PySem.W.Frag} {H : Hp} {p : Addr} {r : Rat} (h : H p = some (.tup [.int (-r.num), .int r.den])) : Fq K H (.ref p) (-r) := ⟨p, rfl, tupOf (by rw [Rat.neg_num, Rat.neg_den]; exact h)⟩
theorem mul_nn {a b : Rat} (h : 0 ≤ a) (k : 0 ≤ b) : 0 ≤ a * b := Rat.mul_nonneg h k
theorem sq_nnR (a : Rat) : 0 ≤ a * a := by
  rcases (Rat.le_total : 0 ≤ a ∨ a ≤ 0) with h | h
  · exact Rat.mul_nonneg h h
  · have h2 : 0 ≤ -a := by grind
    have := Rat.mul_nonneg h2 h2
    grind
theorem pos_int {W : Int} (h : 0 < W) : (0 : Rat) < (W : Rat) := by
  have : (0 : Rat) ≤ (W : Rat) := by
    rw [← Rat.num_nonneg]
    show 0 ≤ W
    omega
  have n := ratz (show W ≠ 0 by omega)
  grind
theorem Ct0.mk {K : PySem.W.Frag} {H : Hp} {o l : Addr} {w : Str} (h : H o = some (.tup [.str w, .ref l])) (k : H l = some (.lst [])) : Ct0 K H (.ref o) w l := ⟨o, rfl, tupOf h, k⟩
theorem Ct2.mk {K : PySem.W.Frag} {H : Hp} {o l : Addr} {f g : V} {x y x' y' : Rat} (h : H o = some (.tup [.str "at", .ref l])) (k : H l = some (.lst [f, g])) (h1 : Pq K H f x y) (h2 : Pq K H g x' y') : Ct2 K H (.ref o) l x y x' y' := ⟨o, f, g, rfl, tupOf h, k, h1, h2⟩
end Mb
namespace Mb
theorem reach_x {n W x a b e t : Rat} (hn : n ≠ 0) (hW : W ≠ 0) : (n * (x * W) + a * (e * W) + b * (t * W)) / (W * n) = x + (a * e + b * t) / n := by
  have h : W * n ≠ 0 := fun z => by rcases Rat.mul_eq_zero.mp z with z | z <;> contradiction
  have e1 : (n * (x * W) + a * (e * W) + b * (t * W)) = (x * n + (a * e + b * t)) * W := by grind
  rw [e1]
  grind
theorem reach_y {n W x a b e t : Rat} (hn : n ≠ 0) (hW : W ≠ 0) : (n * (x * W) + b * (e * W) - a * (t * W)) / (W * n) = x + (b * e - a * t) / n := by
  have h : W * n ≠ 0 := fun z => by rcases Rat.mul_eq_zero.mp z with z | z <;> contradiction
  have e1 : (n * (x * W) + b * (e * W) - a * (t * W)) = (x * n + (b * e - a * t)) * W := by grind
  rw [e1]
  grind
end Mb
namespace Mb
open PySem L2
theorem sq_iff (q : Rat) : (Sq q.num ∧ Sq (q.den : Int)) ↔ ∃ r : Rat, r * r = q := by
  constructor
  · rintro ⟨⟨a, a0, e1⟩, b, b0, e2⟩
    have bp : 0 < b := by
      have := den_pos q
      by_cases z : b = 0
      · subst z; simp at e2; omega
      · omega
    have gc := root_gcd e1 e2 q.reduced
    obtain ⟨f1, f2⟩ := low_rat (t := a) (show b ≠ 0 by omega)
    obtain ⟨f3, f4⟩ := low_eq (a := a) (b := b) (show b ≠ 0 by omega) bp gc rfl
    have en : (Rat.divInt a b).num = a := by rw [← f1, f3]
    have ed : ((Rat.divInt a b).den : Int) = b := by rw [← f2, f4]
    exact ⟨Rat.divInt a b, by rw [mul_dv, en, ed, e1, e2, Rat.num_divInt_den]⟩
  · rintro ⟨r, e⟩
    obtain ⟨n1, n2⟩ := sq_parts e
    have habs : ∀ z : Int, ∃ a : Int, 0 ≤ a ∧ a * a = z * z := fun z => ⟨z.natAbs, by omega, by
      rcases (show z = (z.natAbs : Int) ∨ z = -(z.natAbs : Int) by omega) with h | h
      · rw [← h]
      · generalize (z.natAbs : Int) = w at h
        rw [h, Int.neg_mul_neg]⟩
    constructor
    · obtain ⟨a, h1, h2⟩ := habs r.num
      exact ⟨a, h1, by rw [h2, n1]⟩
    · obtain ⟨a, h1, h2⟩ := habs (r.den : Int)
      exact ⟨a, h1, by rw [h2, n2]⟩
def spIsSq (K : PySem.W.Frag) : Sp := fun vs H Q _ => ∃ (v : V) (d : Rat), vs = [v] ∧ Fq K H v d ∧ 0 ≤ d.num ∧ Sz 16000 d ∧ ∀ b : Bool, (b = true ↔ ∃ r : Rat, r * r = d) → Q (.bl b) H
theorem sub_sign (x x' : Rat) : (x'.num * x.den - x.num * x'.den = 0 ↔ x = x') ∧ (0 < x'.num * x.den - x.num * x'.den ↔ x < x') := by
  have e : ((x'.num * x.den - x.num * x'.den : Int) : Rat) = (x' - x) * ((x'.den * x.den : Int) : Rat) := by
    have h1 := hden x
    have h2 := hden x'
    simp only [Rat.intCast_sub, Rat.intCast_mul]
    grind
  have p : 0 < x'.den * x.den := Nat.mul_pos (Nat.pos_of_ne_zero x'.den_nz) (Nat.pos_of_ne_zero x.den_nz)
  have pw : (0 : Rat) < ((x'.den * x.den : Int) : Rat) := pos_int (Int.mul_pos (den_pos x') (den_pos x))
  have nw : ((x'.den * x.den : Int) : Rat) ≠ 0 := by grind
  generalize ((x'.den * x.den : Int) : Rat) = B at *
  generalize x'.num * (x.den : Int) - x.num * (x'.den : Int) = t at *
  constructor
  · constructor
    · rintro rfl
      have : (x' - x) * B = 0 := by rw [← e]; rfl
      rcases Rat.mul_eq_zero.mp this with z | z
      · grind
      · exact absurd z nw
    · intro z
      refine cast_inj ?_
      rw [e, z]
      grind
  · constructor
    · intro z
      have tp := pos_int z
      rw [e] at tp
      apply Rat.not_le.mp
      intro y
      have : 0 ≤ (x - x') := by grind
      have := mul_nn this (Rat.le_of_lt pw)
      grind
    · intro z
      have : 0 ≤ x' - x := by grind
      have h := mul_nn this (Rat.le_of_lt pw)
      rw [← e] at h
      have h2 : (0 : Int) ≤ t := by
        have := Rat.num_nonneg.mpr h
        exact this
      by_cases y : t = 0
      · subst y
        have : (x' - x) * B = 0 := by rw [← e]; rfl
        rcases Rat.mul_eq_zero.mp this with z | z
        · grind
        · exact absurd z nw
      · omega
def spAhead (K : PySem.W.Frag) : Sp := fun vs H Q _ => ∃ (v w : V) (x y x' y' : Rat), vs = [v, w] ∧ Pq K H v x y ∧ Pq K H w x' y' ∧ Sz 8000 x ∧ Sz 8000 y ∧ Sz 8000 x' ∧ Sz 8000 y' ∧ ∀ H', Same H H' → Q (.bl (decide (x < x' ∨ (x = x' ∧ y < y')))) H'
inductive GoodC (K : PySem.W.Frag) (H : Hp) (v : V) (d x y s : Rat) : Prop
  | miss (l : Addr) : d < 0 → Ct0 K H v "miss" l → GoodC K H v d x y s
  | root (l : Addr) : 0 ≤ d → (¬ ∃ r : Rat, r * r = d) → Ct0 K H v "root" l → GoodC K H v d x y s
  | at_ (l : Addr) (x1 y1 x2 y2 : Rat) : 0 ≤ d → (∃ r : Rat, r * r = d) → Ct2 K H v l x1 y1 x2 y2 → (x1 - x) * (x1 - x) + (y1 - y) * (y1 - y) = s → (x2 - x) * (x2 - x) + (y2 - y) * (y2 - y) = s → (d = 0 → x1 = x2 ∧ y1 = y2) → (d ≠ 0 → x1 < x2 ∨ (x1 = x2 ∧ y1 < y2)) → Sz 8000 x1 → Sz 8000 y1 → Sz 8000 x2 → Sz 8000 y2 → GoodC K H v d x y s
theorem GoodC.pre {K : PySem.W.Frag} {H : Hp} {v : V} {d x y s : Rat} (h : GoodC K H v d x y s) : ∃ o l w xs, v = .ref o ∧ SqT K H o [.str w, .ref l] ∧ H l = some (.lst xs) := by
  cases h with
  | miss l _ h => obtain ⟨o, rfl, t, e⟩ := h; exact ⟨o, l, _, _, rfl, t, e⟩
  | root l _ _ h => obtain ⟨o, rfl, t, e⟩ := h; exact ⟨o, l, _, _, rfl, t, e⟩
  | at_ l x1 y1 x2 y2 _ _ h => obtain ⟨o, f, g, rfl, t, e, _⟩ := h; exact ⟨o, l, _, _, rfl, t, e⟩
def spGoodC (K : PySem.W.Frag) : Sp := fun vs H Q _ => ∃ (v w u : V) (d x y s : Rat), vs = [v, w, u] ∧ GoodC K H v d x y s ∧ Fq K H w d ∧ Cq K H u x y s ∧ Sz 16000 d ∧ Sz 211 x ∧ Sz 211 y ∧ Sz 211 s ∧ ∀ H', Same H H' → Q (.bl true) H'
def spRadius (K : PySem.W.Frag) : Sp := fun vs H Q _ => ∃ (p : Addr) (n m : Int) (w : V) (e : Rat), vs = [.ref p, w, .int m] ∧ Sr H p n ∧ n ≤ 60000 ∧ Fq K H w e ∧ Sz 54 e ∧ 0 < m ∧ Sm 21 m ∧ ∀ (v : V) (s : Rat) (H' : Hp), But p H H' → Sr H' p (n + 100) → Fq K H' v s → Sz 211 s → Q v H'
end Mb
namespace Mb
open PySem L2
theorem ok_miss : PyData.canLay0 (dct0 "miss") = true := by decide +kernel
theorem ok_rootw : PyData.canLay0 (dct0 "root") = true := by decide +kernel
theorem ok_centre : PyData.canLay0 (dct0 "centre") = true := by decide +kernel
theorem ok_at (x y x' y' : Rat) : PyData.canLay0 (dct2 x y x' y') = true := by
  have h : PyData.canLay0 (.str "at") = true := by decide +kernel
  simp only [dct2, dpl, dq, PyData.canLay0, PyData.canLayAll0, Bool.and_true] at h ⊢
  exact h
theorem shp {d : PyData} (h : PyData.canLay0 d = true) (k : decide (d.depth ≤ 64) = true) : SeqAt.shaped d = true := by
  show (d.canLay0 && decide (d.depth ≤ 64)) = true
  rw [h, k]
  rfl
section
variable {K : PySem.W.Frag} {H : Hp} {Q : VK}
theorem r_eqC0 {v v' : V} {w : Str} {l l' : Addr} (h1 : Ct0 K H v w l) (h2 : Ct0 K H v' w l') (ok : PyData.canLay0 (dct0 w) = true) (k : Q (.bl true) H) : rEqD K v v' H Q := r_eqTrue h1.dp h2.dp (shp ok rfl) ok k
theorem r_neC0 {v v' : V} {w : Str} {l l' : Addr} (h1 : Ct0 K H v w l) (h2 : Ct0 K H v' w l') (ok : PyData.canLay0 (dct0 w) = true) (k : Q (.bl false) H) : rNeD K v v' H Q := r_neTrue h1.dp h2.dp (shp ok rfl) ok k
theorem r_eqC2 {v v' : V} {l l' : Addr} {x y x' y' X Y X' Y' : Rat} (h1 : Ct2 K H v l x y x' y') (h2 : Ct2 K H v' l' X Y X' Y') (e : x = X ∧ y = Y ∧ x' = X' ∧ y' = Y') (k : Q (.bl true) H) : rEqD K v v' H Q := by
  obtain ⟨rfl, rfl, rfl, rfl⟩ := e
  exact r_eqTrue h1.dp h2.dp (shp (ok_at _ _ _ _) rfl) (ok_at _ _ _ _) k
theorem r_neS0 {w w' : Str} (e : w = w') (k : Q (.bl false) H) : rNe (.str w) (.str w') H Q := by
  subst e
  refine ⟨rfl, ?_⟩
  rw [decide_eq_true rfl]
  exact k
end
end Mb
namespace Mb
open PySem L2
theorem Rq.sz {K : PySem.W.Frag} {H : Hp} {v : V} {x : Rat} {n : Nat} (h : Rq K H v x n) : Sz n x := by
  obtain ⟨p, t, b, rfl, h1, nz, rfl, s1, s2⟩ := h
  exact Sz.divInt nz s1 s2
theorem Rq.mono {K : PySem.W.Frag} {H : Hp} {v : V} {x : Rat} {n m : Nat} (h : Rq K H v x n) (l : n ≤ m) : Rq K H v x m := by
  obtain ⟨p, t, b, rfl, h1, nz, e, s1, s2⟩ := h
  exact ⟨p, t, b, rfl, h1, nz, e, s1.mono l, s2.mono l⟩
end Mb
namespace Mb
open PySem L2
theorem r_radius {K : PySem.W.Frag} {H : Hp} {Q : VK} {E : XK} {p : Addr} {n m : Int} {w : V} {e : Rat} {k : Nat} (hp : Sr H p n) (hn : n ≤ 60000) (h : Fq K H w e) (se : Sz k e) (l : Nat.ble k 54 = true) (m0 : 0 < m) (sm : Sm 21 m) (q : ∀ (v : V) (s : Rat) (H' : Hp), But p H H' → Sr H' p (n + 100) → Fq K H' v s → Sz 211 s → Q v H') : spRadius K ([.ref p, w, .int m] ++ []) H Q E :=
  ⟨p, n, m, w, e, rfl, hp, hn, h, se.mono (Nat.le_of_ble_eq_true l), m0, sm, q⟩
theorem r_goodC {K : PySem.W.Frag} {H : Hp} {Q : VK} {E : XK} {v w u : V} {d x y s : Rat} {n : Nat} (hG : GoodC K H v d x y s) (h2 : Fq K H w d) (h3 : Cq K H u x y s) (sd : Sz n d) (l : Nat.ble n 16000 = true) (s1 : Sz 211 x) (s2 : Sz 211 y) (s3 : Sz 211 s) (q : ∀ H', Same H H' → Q (.bl true) H') : spGoodC K ([v, w, u] ++ []) H Q E :=
  ⟨v, w, u, d, x, y, s, rfl, hG, h2, h3, sd.mono (Nat.le_of_ble_eq_true l), s1, s2, s3, q⟩
/-- what line_cuts told, as the law judges it -/
theorem cut_on {a b c : Int} {x y u : Rat} (hl : Ln a b c) : (a : Rat) * cX a b c x y u + b * cY a b c x y u = c := by
  have n := ratz (show a * a + b * b ≠ 0 by have := hl.sq; omega)
  simp only [Rat.intCast_add, Rat.intCast_mul] at n
  unfold cX cY
  grind
theorem cut_ring {a b c : Int} {x y s d u : Rat} (hl : Ln a b c) (hd : Cd a b c x y s d) (e : u * u = d) : (cX a b c x y u - x) * (cX a b c x y u - x) + (cY a b c x y u - y) * (cY a b c x y u - y) = s := by
  have n := ratz (show a * a + b * b ≠ 0 by have := hl.sq; omega)
  simp only [Rat.intCast_add, Rat.intCast_mul] at n
  obtain ⟨ed⟩ := hd
  unfold cX cY
  generalize hn : (a : Rat) * a + b * b = N at *
  generalize he : (c : Rat) - a * x - b * y = E at *
  have e1 : (x + ((a : Rat) * E + b * u) / N - x) * (x + ((a : Rat) * E + b * u) / N - x) + (y + ((b : Rat) * E - a * u) / N - y) * (y + ((b : Rat) * E - a * u) / N - y) = (((a : Rat) * E + b * u) * ((a : Rat) * E + b * u) + ((b : Rat) * E - a * u) * ((b : Rat) * E - a * u)) / (N * N) := by grind
  rw [e1]
  have e2 : ((a : Rat) * E + b * u) * ((a : Rat) * E + b * u) + ((b : Rat) * E - a * u) * ((b : Rat) * E - a * u) = N * (E * E + u * u) := by rw [← hn]; grind
  rw [e2, e, ed]
  grind
theorem cut_order {a b c : Int} {x y t u : Rat} (hl : Ln a b c) (t0 : 0 ≤ t) (tn : t ≠ 0) (hu : u = if 0 < b then -t else t) : cX a b c x y u < cX a b c x y (-u) ∨ (cX a b c x y u = cX a b c x y (-u) ∧ cY a b c x y u < cY a b c x y (-u)) := by
  have np := pos_int hl.sq
  have n := ratz (show a * a + b * b ≠ 0 by have := hl.sq; omega)
  simp only [Rat.intCast_add, Rat.intCast_mul] at n np
  have ex : cX a b c x y (-u) - cX a b c x y u = -2 * (b * u) / ((a : Rat) * a + b * b) := by unfold cX; grind
  have ey : cY a b c x y (-u) - cY a b c x y u = 2 * (a * u) / ((a : Rat) * a + b * b) := by unfold cY; grind
  have tp : 0 < t := by grind
  have ip : 0 < ((a : Rat) * a + b * b)⁻¹ := Rat.inv_pos.mpr np
  have pos : ∀ p q : Rat, 0 < p → 0 < q → 0 < p * q := fun p q h k => Rat.mul_pos h k
  by_cases hb : 0 < b
  · rw [if_pos hb] at hu
    left
    have bp := pos_int hb
    have : 0 < 2 * (b * t) / ((a : Rat) * a + b * b) := by
      rw [Rat.div_def]
      exact pos _ _ (by have := pos _ _ bp tp; grind) ip
    rw [hu] at ex ⊢
    grind
  · rw [if_neg hb] at hu
    by_cases hb0 : b = 0
    · have ap : 0 < a := by have := hl.sg; omega
      have ap' := pos_int ap
      right
      subst hb0
      rw [hu] at ex ey ⊢
      have e0 : cX a 0 c x y (-t) - cX a 0 c x y t = 0 := by rw [ex]; grind
      refine ⟨by grind, ?_⟩
      have : 0 < 2 * (a * t) / ((a : Rat) * a + ((0 : Int) : Rat) * ((0 : Int) : Rat)) := by
        rw [Rat.div_def]
        exact pos _ _ (by have := pos _ _ ap' tp; grind) ip
      grind
    · left
      have bn : 0 < -b := by omega
      have bp := pos_int bn
      rw [Rat.intCast_neg] at bp
      have : 0 < 2 * (-(b : Rat) * t) / ((a : Rat) * a + b * b) := by
        rw [Rat.div_def]
        exact pos _ _ (by have := pos _ _ bp tp; grind) ip
      rw [hu] at ex ⊢
      grind
end Mb
namespace Mb
open PySem L2
section
variable {K : PySem.W.Frag} {H : Hp} {Q : VK} {E : XK} {v w : V} {a b c : Int} {x y s d : Rat} {n1 n2 n3 : Nat}
theorem r_cutM (h1 : Lq K H v a b c) (hl : Ln a b c) (h2 : Cq K H w x y s) (s1 : Sm n1 a) (s2 : Sm n2 b) (s3 : Sm n3 c) (l : Nat.ble (max n1 (max n2 n3)) 2300 = true) (s4 : Sz 211 x) (s5 : Sz 211 y) (s6 : Sz 211 s) (hd : Cd a b c x y s d) (dn : d < 0)
    (k : ∀ (r : V) (l : Addr) (H' : Hp), Same H H' → H l = none → Ct0 K H' r "miss" l → Q r H') : spCuts K ([v, w] ++ []) H Q E := by
  have := Nat.le_of_ble_eq_true l
  refine ⟨v, w, a, b, c, x, y, s, d, rfl, h1, hl, h2, s1.mono (by omega), s2.mono (by omega), s3.mono (by omega), s4, s5, s6, hd, fun _ => k, fun z => absurd dn (Rat.not_lt.mpr z), fun t t0 tt => ?_⟩
  have := sq_nnR t
  rw [tt] at this
  exact absurd dn (Rat.not_lt.mpr this)
theorem r_cutR (h1 : Lq K H v a b c) (hl : Ln a b c) (h2 : Cq K H w x y s) (s1 : Sm n1 a) (s2 : Sm n2 b) (s3 : Sm n3 c) (l : Nat.ble (max n1 (max n2 n3)) 2300 = true) (s4 : Sz 211 x) (s5 : Sz 211 y) (s6 : Sz 211 s) (hd : Cd a b c x y s d) (dp : 0 ≤ d) (no : ¬ ∃ r : Rat, r * r = d)
    (k : ∀ (r : V) (l : Addr) (H' : Hp), Same H H' → H l = none → Ct0 K H' r "root" l → Q r H') : spCuts K ([v, w] ++ []) H Q E := by
  have := Nat.le_of_ble_eq_true l
  exact ⟨v, w, a, b, c, x, y, s, d, rfl, h1, hl, h2, s1.mono (by omega), s2.mono (by omega), s3.mono (by omega), s4, s5, s6, hd, fun z => absurd z (Rat.not_lt.mpr dp), fun _ _ => k, fun t _ tt => absurd ⟨t, tt⟩ no⟩
theorem r_cutA {t u : Rat} (h1 : Lq K H v a b c) (hl : Ln a b c) (h2 : Cq K H w x y s) (s1 : Sm n1 a) (s2 : Sm n2 b) (s3 : Sm n3 c) (l : Nat.ble (max n1 (max n2 n3)) 2300 = true) (s4 : Sz 211 x) (s5 : Sz 211 y) (s6 : Sz 211 s) (hd : Cd a b c x y s d) (t0 : 0 ≤ t) (tt : t * t = d) (hu : u = if 0 < b then -t else t)
    (k : ∀ (r : V) (l : Addr) (H' : Hp), Same H H' → H l = none → Ct2 K H' r l (cX a b c x y u) (cY a b c x y u) (cX a b c x y (-u)) (cY a b c x y (-u)) → Sz 8000 (cX a b c x y u) → Sz 8000 (cY a b c x y u) → Sz 8000 (cX a b c x y (-u)) → Sz 8000 (cY a b c x y (-u)) → Q r H') : spCuts K ([v, w] ++ []) H Q E := by
  have := Nat.le_of_ble_eq_true l
  have dp : 0 ≤ d := by rw [← tt]; exact sq_nnR t
  refine ⟨v, w, a, b, c, x, y, s, d, rfl, h1, hl, h2, s1.mono (by omega), s2.mono (by omega), s3.mono (by omega), s4, s5, s6, hd, fun z => absurd z (Rat.not_lt.mpr dp), fun _ no => absurd ⟨t, tt⟩ no, fun t' t0' tt' r l' H' u' g n hu' k2 z1 z2 z3 z4 => ?_⟩
  have e : t' = t := by
    have f : (t' - t) * (t' + t) = 0 := by grind
    rcases Rat.mul_eq_zero.mp f with z | z
    · grind
    · grind
  subst e
  have eu : u' = u := by rw [hu, hu']
  subst eu
  exact k r l' H' g n k2 z1 z2 z3 z4
end
theorem Lq.but {K : PySem.W.Frag} {H H' : Hp} {v : V} {a b c : Int} {p : Addr} {xs : List V} (h : Lq K H v a b c) (hp : H p = some (.lst xs)) (s : But p H H') : Lq K H' v a b c := by
  obtain ⟨q, rfl, t⟩ := h
  exact ⟨q, rfl, s.tup hp t⟩
theorem Cq.but {K : PySem.W.Frag} {H H' : Hp} {v : V} {x y s : Rat} {p : Addr} {xs : List V} (h : Cq K H v x y s) (hp : H p = some (.lst xs)) (e : But p H H') : Cq K H' v x y s := by
  obtain ⟨a, f, g, k, rfl, t, h1, h2, h3⟩ := h
  exact ⟨a, f, g, k, rfl, e.tup hp t, h1.but hp e, h2.but hp e, h3.but hp e⟩
theorem Ct0.but {K : PySem.W.Frag} {H H' : Hp} {v : V} {w : Str} {l p : Addr} {xs : List V} (h : Ct0 K H v w l) (n : l ≠ p) (hp : H p = some (.lst xs)) (s : But p H H') : Ct0 K H' v w l := by
  obtain ⟨o, rfl, t, e⟩ := h
  exact ⟨o, rfl, s.tup hp t, s _ _ n e⟩
theorem Ct2.but {K : PySem.W.Frag} {H H' : Hp} {v : V} {l p : Addr} {xs : List V} {x y x' y' : Rat} (h : Ct2 K H v l x y x' y') (n : l ≠ p) (hp : H p = some (.lst xs)) (s : But p H H') : Ct2 K H' v l x y x' y' := by
  obtain ⟨o, f, g, rfl, t, e, h1, h2⟩ := h
  exact ⟨o, f, g, rfl, s.tup hp t, s _ _ n e, h1.but hp s, h2.but hp s⟩
theorem r_cut9 {t1 t2 t3 t4 t5 t6 t7 t8 t9 u : TS} {D : Ends} {σ : St} {H : Hp} (R : St → Hp → Prop) (k : ∀ σ1 H1, R σ1 H1 → u D σ1 H1) (h : ∀ N : St → Hp → Prop, (∀ σ1 H1, R σ1 H1 → N σ1 H1) → tSeq t1 (tSeq t2 (tSeq t3 (tSeq t4 (tSeq t5 (tSeq t6 (tSeq t7 (tSeq t8 (tSeq t9 (fun _ => N))))))))) D σ H) : tSeq t1 (tSeq t2 (tSeq t3 (tSeq t4 (tSeq t5 (tSeq t6 (tSeq t7 (tSeq t8 (tSeq t9 u)))))))) D σ H := h (u D) k
end Mb
namespace Mb
open PySem L2
theorem r_bm {K : PySem.W.Frag} {T : String} {r : V → List V → Hp → VK → Prop} {to : TE} {t : TA} {σ : St} {H : Hp} {Q : VK} (q : to σ H fun x H1 => tyV K T x H1 ∧ t σ H1 fun xs H2 => r x xs H2 Q) : tBM K T r to t σ H Q := q
end Mb
namespace Mb
open PySem L2
/-! ### two circles -/
def Eq4 (K : PySem.W.Frag) (H : Hp) (v : V) (m g h k : Int) : Prop := ∃ p, v = .ref p ∧ SqT K H p [.int m, .int g, .int h, .int k]
def spEquation (K : PySem.W.Frag) : Sp := fun vs H Q _ => ∃ (v : V) (x y s : Rat), vs = [v] ∧ Cq K H v x y s ∧ Sz 211 x ∧ Sz 211 y ∧ Sz 211 s ∧
  ∀ (r : V) (H' : Hp) (m g h k : Int), Same H H' → Eq4 K H' r m g h k → 0 < m → (g : Rat) = 2 * x * m → (h : Rat) = 2 * y * m → (k : Rat) = (s - x * x - y * y) * m → Sm 1056 m → Sm 1120 g → Sm 1120 h → Sm 1120 k → Q r H'
def spCommon (K : PySem.W.Frag) : Sp := fun vs H Q _ => ∃ (v w : V) (x y s x' y' s' : Rat), vs = [v, w] ∧ Cq K H v x y s ∧ Cq K H w x' y' s' ∧ ¬ (x = x' ∧ y = y') ∧ Sz 211 x ∧ Sz 211 y ∧ Sz 211 s ∧ Sz 211 x' ∧ Sz 211 y' ∧ Sz 211 s' ∧
  ∀ (r : V) (H' : Hp) (a b c : Int) (g : Rat), Same H H' → Lq K H' r a b c → Ln a b c → g ≠ 0 → g * a = 2 * (x' - x) → g * b = 2 * (y' - y) → g * c = (s - x * x - y * y) - (s' - x' * x' - y' * y') → Sm 2300 a → Sm 2300 b → Sm 2300 c → Q r H'
theorem r_gE {K : PySem.W.Frag} {σ : St} {H : Hp} {Q : St → Hp → Prop} {t : TGs} {v : V} {m g h k : Int} {n : Nat} (e : Eq4 K H v m g h k) (l : 4 = n) (q : t [.int m, .int g, .int h, .int k] σ H Q) : gTup K n t v σ H Q := by
  obtain ⟨p, rfl, e⟩ := e
  exact ⟨p, _, rfl, e, l, q⟩
def spRing (K : PySem.W.Frag) : Sp := fun vs H Q _ => ∃ (v w : V) (x y s x' y' s' : Rat), vs = [v, w] ∧ Cq K H v x y s ∧ Cq K H w x' y' s' ∧ Sz 211 x ∧ Sz 211 y ∧ Sz 211 s ∧ Sz 211 x' ∧ Sz 211 y' ∧ Sz 211 s' ∧
  (x = x' ∧ y = y' → ∀ (r : V) (l : Addr) (H' : Hp), Same H H' → H l = none → Ct0 K H' r "centre" l → Q r H') ∧
  (¬ (x = x' ∧ y = y') → ∀ (a b c : Int) (g d : Rat), Ln a b c → g ≠ 0 → g * a = 2 * (x' - x) → g * b = 2 * (y' - y) → g * c = (s - x * x - y * y) - (s' - x' * x' - y' * y') → Cd a b c x y s d →
    (d < 0 → ∀ (r : V) (l : Addr) (H' : Hp), Same H H' → H l = none → Ct0 K H' r "miss" l → Q r H') ∧
    (0 ≤ d → (¬ ∃ r : Rat, r * r = d) → ∀ (r : V) (l : Addr) (H' : Hp), Same H H' → H l = none → Ct0 K H' r "root" l → Q r H') ∧
    (∀ t : Rat, 0 ≤ t → t * t = d → ∀ (r : V) (l : Addr) (H' : Hp) (u : Rat), Same H H' → H l = none → (u = if 0 < b then -t else t) → Ct2 K H' r l (cX a b c x y u) (cY a b c x y u) (cX a b c x y (-u)) (cY a b c x y (-u)) → Sz 8000 (cX a b c x y u) → Sz 8000 (cY a b c x y u) → Sz 8000 (cX a b c x y (-u)) → Sz 8000 (cY a b c x y (-u)) → Q r H'))
end Mb
namespace Mb
open PySem L2
/-- the law's own d of two circles -/
def dBetw (x y s x' y' s' : Rat) : Rat := s * ((2 * (x' - x)) * (2 * (x' - x)) + (2 * (y' - y)) * (2 * (y' - y))) - (((s - (x * x + y * y)) - (s' - (x' * x' + y' * y'))) - ((2 * (x' - x)) * x + (2 * (y' - y)) * y)) * (((s - (x * x + y * y)) - (s' - (x' * x' + y' * y'))) - ((2 * (x' - x)) * x + (2 * (y' - y)) * y))
def spBetw (K : PySem.W.Frag) : Sp := fun vs H Q _ => ∃ (v w : V) (x y s x' y' s' : Rat), vs = [v, w] ∧ Cq K H v x y s ∧ Cq K H w x' y' s' ∧ Sz 200 x ∧ Sz 200 y ∧ Sz 200 s ∧ Sz 200 x' ∧ Sz 200 y' ∧ Sz 200 s' ∧
  ∀ (r : V) (H' : Hp), Same H H' → Fq K H' r (dBetw x y s x' y' s') → Sz 16000 (dBetw x y s x' y' s') → Q r H'
def spSqOf (K : PySem.W.Frag) : Sp := fun vs H Q _ => ∃ (p : Addr) (n : Int) (v w u : V) (x y x' y' s : Rat), vs = [.ref p, v, w, u] ∧ Sr H p n ∧ n ≤ 60000 ∧ Pq K H v x y ∧ Pq K H w x' y' ∧ Fq K H u s ∧ Sz 11 x ∧ Sz 11 y ∧ Sz 11 x' ∧ Sz 11 y' ∧ Sz 200 s ∧
  ∀ (r : V) (t : Rat) (H' : Hp), But p H H' → Sr H' p (n + 100) → Fq K H' r t → Sz 200 t → Q r H'
def spRings (K : PySem.W.Frag) : Sp := fun vs H Q _ => ∃ (a : Addr) (ns : List Int), vs = [.ref a] ∧ SqL K H a (ns.map V.int) ∧ ns.length ≤ 63 ∧
  ∀ (o : Addr) (v w : V) (x y s x' y' s' : Rat) (H' : Hp), Same H H' → SqT K H' o [v, w] → Cq K H' v x y s → Cq K H' w x' y' s' → Sz 200 x → Sz 200 y → Sz 200 s → Sz 200 x' → Sz 200 y' → Sz 200 s' → Q (.ref o) H'
theorem r_sqOf {K : PySem.W.Frag} {H : Hp} {Q : VK} {E : XK} {p : Addr} {n : Int} {v w u : V} {x y x' y' s : Rat} (hp : Sr H p n) (hn : n ≤ 60000) (h1 : Pq K H v x y) (h2 : Pq K H w x' y') (h3 : Fq K H u s) (s1 : Sz 11 x) (s2 : Sz 11 y) (s3 : Sz 11 x') (s4 : Sz 11 y') (s5 : Sz 200 s) (q : ∀ (r : V) (t : Rat) (H' : Hp), But p H H' → Sr H' p (n + 100) → Fq K H' r t → Sz 200 t → Q r H') : spSqOf K ([.ref p, v, w, u] ++ []) H Q E :=
  ⟨p, n, v, w, u, x, y, x', y', s, rfl, hp, hn, h1, h2, h3, s1, s2, s3, s4, s5, q⟩
theorem r_rings {K : PySem.W.Frag} {H : Hp} {Q : VK} {E : XK} {a : Addr} {ns : List Int} (hS : SqL K H a (ns.map V.int)) (hl : ns.length ≤ 63) (c : ∀ (o : Addr) (v w : V) (x y s x' y' s' : Rat) (H' : Hp), Same H H' → SqT K H' o [v, w] → Cq K H' v x y s → Cq K H' w x' y' s' → Sz 200 x → Sz 200 y → Sz 200 s → Sz 200 x' → Sz 200 y' → Sz 200 s' → Q (.ref o) H') : spRings K ([.ref a] ++ []) H Q E := ⟨a, ns, rfl, hS, hl, c⟩
theorem max_abs {j : Int} {n : Nat} (h : Sm n j) (l : 10 ≤ n) : ∃ z : Int, (if (if j < 0 then -j else j) > 1 then (if j < 0 then -j else j) else 1) = z ∧ 0 < z ∧ Sm n z := by
  refine ⟨_, rfl, ?_, ?_⟩
  · split <;> omega
  · have : Sm n (if j < 0 then -j else j) := by
      split
      · exact h.neg
      · exact h
    generalize (if j < 0 then -j else j) = zz at this
    split
    · exact this
    · exact (show Sm 10 1 by decide).mono l
end Mb
namespace Mb
open PySem L2
/-- the line of the places whose squared distances differ as the circles' s do -/
structure Rad (a b c : Int) (g x y s x' y' s' : Rat) : Prop where
  ln : Ln a b c
  nz : g ≠ 0
  ea : g * a = 2 * (x' - x)
  eb : g * b = 2 * (y' - y)
  ec : g * c = (s - x * x - y * y) - (s' - x' * x' - y' * y')
theorem Rad.swap {a b c : Int} {g x y s x' y' s' : Rat} (h : Rad a b c g x y s x' y' s') : Rad a b c (-g) x' y' s' x y s := by
  obtain ⟨l, n, h1, h2, h3⟩ := h
  exact ⟨l, fun z => n (by grind), by grind, by grind, by grind⟩
theorem Rad.one {a b c a2 b2 c2 : Int} {g g2 x y s x' y' s' : Rat} (h : Rad a b c g x y s x' y' s') (k : Rad a2 b2 c2 g2 x y s x' y' s') : a = a2 ∧ b = b2 ∧ c = c2 := by
  obtain ⟨l, n, h1, h2, h3⟩ := h
  obtain ⟨l2, n2, k1, k2, k3⟩ := k
  have gg : g * g2 ≠ 0 := fun z => by rcases Rat.mul_eq_zero.mp z with z | z <;> contradiction
  have e1 : (g * g2) * ((a : Rat) * b2 - b * a2) = 0 := by grind
  have e2 : (g * g2) * ((a : Rat) * c2 - c * a2) = 0 := by grind
  have e3 : (g * g2) * ((b : Rat) * c2 - c * b2) = 0 := by grind
  refine line_unique l l2 (cast_inj ?_) (cast_inj ?_) (cast_inj ?_)
  · rw [Rat.intCast_mul, Rat.intCast_mul]
    rcases Rat.mul_eq_zero.mp e1 with z | z
    · contradiction
    · grind
  · rw [Rat.intCast_mul, Rat.intCast_mul]
    rcases Rat.mul_eq_zero.mp e2 with z | z
    · contradiction
    · grind
  · rw [Rat.intCast_mul, Rat.intCast_mul]
    rcases Rat.mul_eq_zero.mp e3 with z | z
    · contradiction
    · grind
theorem Rad.cd {a b c : Int} {g x y s x' y' s' d : Rat} (h : Rad a b c g x y s x' y' s') (k : Cd a b c x y s d) : Cd a b c x' y' s' d := by
  obtain ⟨l, n, h1, h2, h3⟩ := h
  obtain ⟨ed⟩ := k
  have ex : x' = x + g * a / 2 := by grind
  have ey : y' = y + g * b / 2 := by grind
  refine ⟨?_⟩
  have es : s' = s - g * (c - a * x - b * y) + g * g * ((a : Rat) * a + b * b) / 4 := by
    subst ex ey
    grind
  rw [ed, es, ex, ey]
  grind
theorem Rad.dB {a b c : Int} {g x y s x' y' s' d : Rat} (h : Rad a b c g x y s x' y' s') (k : Cd a b c x y s d) : dBetw x y s x' y' s' = g * g * d := by
  obtain ⟨l, n, h1, h2, h3⟩ := h
  obtain ⟨ed⟩ := k
  unfold dBetw
  rw [← h1, ← h2, ed]
  have : (s - (x * x + y * y) - (s' - (x' * x' + y' * y'))) = g * c := by grind
  rw [this]
  grind
theorem Rad.cut {a b c : Int} {g x y s x' y' s' u : Rat} (h : Rad a b c g x y s x' y' s') : cX a b c x' y' u = cX a b c x y u ∧ cY a b c x' y' u = cY a b c x y u := by
  obtain ⟨l, n, h1, h2, h3⟩ := h
  have nn := ratz (show a * a + b * b ≠ 0 by have := l.sq; omega)
  simp only [Rat.intCast_add, Rat.intCast_mul] at nn
  have ex : x' = x + g * a / 2 := by grind
  have ey : y' = y + g * b / 2 := by grind
  unfold cX cY
  rw [ex, ey]
  constructor
  · grind
  · grind
theorem Rad.other {a b c : Int} {g x y s x' y' s' X Y : Rat} (h : Rad a b c g x y s x' y' s') (on : (a : Rat) * X + b * Y = c) (e : (X - x) * (X - x) + (Y - y) * (Y - y) = s) : (X - x') * (X - x') + (Y - y') * (Y - y') = s' := by
  obtain ⟨l, n, h1, h2, h3⟩ := h
  have : 2 * (x' - x) * X + 2 * (y' - y) * Y = (s - x * x - y * y) - (s' - x' * x' - y' * y') := by
    rw [← h1, ← h2, ← h3, ← on]
    grind
  grind
end Mb
namespace Mb
open PySem L2
section
variable {K : PySem.W.Frag} {H : Hp} {Q : VK} {E : XK} {v w : V} {x y s x' y' s' d g : Rat} {a b c : Int}
theorem r_ring0 (c1 : Cq K H v x y s) (c2 : Cq K H w x' y' s') (z1 : Sz 200 x) (z2 : Sz 200 y) (z3 : Sz 200 s) (z4 : Sz 200 x') (z5 : Sz 200 y') (z6 : Sz 200 s') (e : x = x' ∧ y = y')
    (k : ∀ (r : V) (l : Addr) (H' : Hp), Same H H' → H l = none → Ct0 K H' r "centre" l → Q r H') : spRing K ([v, w] ++ []) H Q E :=
  ⟨v, w, x, y, s, x', y', s', rfl, c1, c2, z1.mono (by decide), z2.mono (by decide), z3.mono (by decide), z4.mono (by decide), z5.mono (by decide), z6.mono (by decide), fun _ => k, fun z => absurd e z⟩
theorem r_ring1 (c1 : Cq K H v x y s) (c2 : Cq K H w x' y' s') (z1 : Sz 200 x) (z2 : Sz 200 y) (z3 : Sz 200 s) (z4 : Sz 200 x') (z5 : Sz 200 y') (z6 : Sz 200 s') (ne : ¬ (x = x' ∧ y = y'))
    (k : ∀ (a b c : Int) (g d : Rat), Rad a b c g x y s x' y' s' → Cd a b c x y s d →
    (d < 0 → ∀ (r : V) (l : Addr) (H' : Hp), Same H H' → H l = none → Ct0 K H' r "miss" l → Q r H') ∧
    (0 ≤ d → (¬ ∃ r : Rat, r * r = d) → ∀ (r : V) (l : Addr) (H' : Hp), Same H H' → H l = none → Ct0 K H' r "root" l → Q r H') ∧
    (∀ t : Rat, 0 ≤ t → t * t = d → ∀ (r : V) (l : Addr) (H' : Hp) (u : Rat), Same H H' → H l = none → (u = if 0 < b then -t else t) → Ct2 K H' r l (cX a b c x y u) (cY a b c x y u) (cX a b c x y (-u)) (cY a b c x y (-u)) → Sz 8000 (cX a b c x y u) → Sz 8000 (cY a b c x y u) → Sz 8000 (cX a b c x y (-u)) → Sz 8000 (cY a b c x y (-u)) → Q r H')) : spRing K ([v, w] ++ []) H Q E :=
  ⟨v, w, x, y, s, x', y', s', rfl, c1, c2, z1.mono (by decide), z2.mono (by decide), z3.mono (by decide), z4.mono (by decide), z5.mono (by decide), z6.mono (by decide), fun z => absurd z ne, fun _ a b c g d hL gn e1 e2 e3 hd => k a b c g d ⟨hL, gn, e1, e2, e3⟩ hd⟩
theorem r_ringM (c1 : Cq K H v x y s) (c2 : Cq K H w x' y' s') (z1 : Sz 200 x) (z2 : Sz 200 y) (z3 : Sz 200 s) (z4 : Sz 200 x') (z5 : Sz 200 y') (z6 : Sz 200 s') (ne : ¬ (x = x' ∧ y = y')) (h : Rad a b c g x y s x' y' s') (hd : Cd a b c x y s d) (dn : d < 0)
    (k : ∀ (r : V) (l : Addr) (H' : Hp), Same H H' → H l = none → Ct0 K H' r "miss" l → Q r H') : spRing K ([v, w] ++ []) H Q E := by
  refine r_ring1 c1 c2 z1 z2 z3 z4 z5 z6 ne (fun a2 b2 c2 g2 d2 h2 hd2 => ?_)
  obtain ⟨rfl, rfl, rfl⟩ := h.one h2
  have e : d2 = d := by rw [hd.e, hd2.e]
  subst e
  refine ⟨fun _ => k, fun z => absurd dn (Rat.not_lt.mpr z), fun t t0 tt => ?_⟩
  have := sq_nnR t
  rw [tt] at this
  exact absurd dn (Rat.not_lt.mpr this)
theorem r_ringR (c1 : Cq K H v x y s) (c2 : Cq K H w x' y' s') (z1 : Sz 200 x) (z2 : Sz 200 y) (z3 : Sz 200 s) (z4 : Sz 200 x') (z5 : Sz 200 y') (z6 : Sz 200 s') (ne : ¬ (x = x' ∧ y = y')) (h : Rad a b c g x y s x' y' s') (hd : Cd a b c x y s d) (dp : 0 ≤ d) (no : ¬ ∃ r : Rat, r * r = d)
    (k : ∀ (r : V) (l : Addr) (H' : Hp), Same H H' → H l = none → Ct0 K H' r "root" l → Q r H') : spRing K ([v, w] ++ []) H Q E := by
  refine r_ring1 c1 c2 z1 z2 z3 z4 z5 z6 ne (fun a2 b2 c2 g2 d2 h2 hd2 => ?_)
  obtain ⟨rfl, rfl, rfl⟩ := h.one h2
  have e : d2 = d := by rw [hd.e, hd2.e]
  subst e
  exact ⟨fun z => absurd z (Rat.not_lt.mpr dp), fun _ _ => k, fun t _ tt => absurd ⟨t, tt⟩ no⟩
theorem r_ringA {t u : Rat} (c1 : Cq K H v x y s) (c2 : Cq K H w x' y' s') (z1 : Sz 200 x) (z2 : Sz 200 y) (z3 : Sz 200 s) (z4 : Sz 200 x') (z5 : Sz 200 y') (z6 : Sz 200 s') (ne : ¬ (x = x' ∧ y = y')) (h : Rad a b c g x y s x' y' s') (hd : Cd a b c x y s d) (t0 : 0 ≤ t) (tt : t * t = d) (hu : u = if 0 < b then -t else t)
    (k : ∀ (r : V) (l : Addr) (H' : Hp), Same H H' → H l = none → Ct2 K H' r l (cX a b c x y u) (cY a b c x y u) (cX a b c x y (-u)) (cY a b c x y (-u)) → Q r H') : spRing K ([v, w] ++ []) H Q E := by
  refine r_ring1 c1 c2 z1 z2 z3 z4 z5 z6 ne (fun a2 b2 c2 g2 d2 h2 hd2 => ?_)
  obtain ⟨rfl, rfl, rfl⟩ := h.one h2
  have e : d2 = d := by rw [hd.e, hd2.e]
  subst e
  have dp : 0 ≤ d2 := by rw [← tt]; exact sq_nnR t
  refine ⟨fun z => absurd z (Rat.not_lt.mpr dp), fun _ no => absurd ⟨t, tt⟩ no, fun t' t0' tt' r l' H' u' g n hu' k2 _ _ _ _ => ?_⟩
  have e : t' = t := by
    have f : (t' - t) * (t' + t) = 0 := by grind
    rcases Rat.mul_eq_zero.mp f with z | z
    · grind
    · grind
  subst e
  have eu : u' = u := by rw [hu, hu']
  subst eu
  exact k r l' H' g n k2
theorem r_eqFd {p q : Rat} (h1 : Fq K H v p) (h2 : Fq K H w q) (k : Q (.bl (decide (p = q))) H) : rEqD K v w H Q := by
  refine ⟨_, _, h1.dp, h2.dp, rfl, rfl, ?_⟩
  rw [eqv_dq]
  exact k
theorem gg_lt {g d : Rat} (n : g ≠ 0) : g * g * d < 0 ↔ d < 0 := by
  have p := sq_nnR g
  have pp : 0 < g * g := by
    have : g * g ≠ 0 := fun z => by rcases Rat.mul_eq_zero.mp z with z | z <;> contradiction
    grind
  constructor
  · intro z
    apply Rat.not_le.mp
    intro y
    have := mul_nn p y
    grind
  · intro z
    have h1 : 0 < -d := by grind
    have := Rat.mul_pos pp h1
    grind
theorem gg_sq {g d : Rat} (n : g ≠ 0) : (∃ r : Rat, r * r = g * g * d) ↔ ∃ r : Rat, r * r = d := by
  constructor
  · rintro ⟨r, e⟩
    exact ⟨r / g, by grind⟩
  · rintro ⟨r, e⟩
    exact ⟨g * r, by grind⟩
end
end Mb
namespace Mb
theorem GoodC.up {K : PySem.W.Frag} {H H' : L2.Hp} {v : L2.V} {d x y s : Rat} (h : GoodC K H v d x y s) (g : L2.Same H H') : GoodC K H' v d x y s := by
  cases h with
  | miss l h1 h => exact .miss l h1 (h.up g)
  | root l h1 h2 h => exact .root l h1 h2 (h.up g)
  | at_ l x1 y1 x2 y2 h1 h2 h h3 h4 h5 h6 z1 z2 z3 z4 => exact .at_ l x1 y1 x2 y2 h1 h2 (h.up g) h3 h4 h5 h6 z1 z2 z3 z4
end Mb
namespace Mb
open PySem L2
/-! ### small places, lists of places, four places judged -/
def spSmall (K : PySem.W.Frag) : Sp := fun vs H Q _ => ∃ (p : Addr) (n : Int), vs = [.ref p] ∧ Sr H p n ∧ n ≤ 80000 ∧
  ∀ (v : V) (q : Rat) (H' : Hp), But p H H' → Sr H' p (n + 10) → Fq K H' v q → Sz 8 q → Q v H'
def spSmallP (K : PySem.W.Frag) : Sp := fun vs H Q _ => ∃ (p : Addr) (n : Int), vs = [.ref p] ∧ Sr H p n ∧ n ≤ 70000 ∧
  ∀ (v : V) (x y : Rat) (H' : Hp), But p H H' → Sr H' p (n + 20) → Pq K H' v x y → Sz 8 x → Sz 8 y → Q v H'
def spSmallN (K : PySem.W.Frag) : Sp := fun vs H Q _ => ∃ (p : Addr) (n : Int) (w : V) (x y : Rat), vs = [.ref p, w] ∧ Sr H p n ∧ n ≤ 60000 ∧ Pq K H w x y ∧ Sz 8 x ∧ Sz 8 y ∧
  ∀ (v : V) (x y : Rat) (H' : Hp), But p H H' → Sr H' p (n + 40) → Pq K H' v x y → Sz 8 x → Sz 8 y → Q v H'
def spRolled (K : PySem.W.Frag) : Sp := fun vs H Q _ => ∃ (v w u : V) (x y x' y' t : Rat), vs = [v, w, u] ∧ Pq K H v x y ∧ Pq K H w x' y' ∧ Fq K H u t ∧ Sz 8 x ∧ Sz 8 y ∧ Sz 8 x' ∧ Sz 8 y' ∧ Sz 8 t ∧
  ∀ (r : V) (x y : Rat) (H' : Hp), Same H H' → Pq K H' r x y → Sz 200 x → Sz 200 y → Q r H'
/-- a list of places at D -/
def Ps (K : PySem.W.Frag) (H : Hp) (D : Addr) (n : Nat) (vs : List V) : Prop := H D = some (.lst vs) ∧ ∀ v ∈ vs, ∃ x y : Rat, Pq K H v x y ∧ Sz n x ∧ Sz n y
theorem Ps.same {K : PySem.W.Frag} {H H' : Hp} {D : Addr} {n : Nat} {vs : List V} (h : Ps K H D n vs) (s : Same H H') : Ps K H' D n vs :=
  ⟨s _ _ h.1, fun v hv => by obtain ⟨x, y, p, sx, sy⟩ := h.2 v hv; exact ⟨x, y, p.up s, sx, sy⟩⟩
theorem Ps.but {K : PySem.W.Frag} {H H' : Hp} {D p : Addr} {n : Nat} {b : Int} {vs : List V} (h : Ps K H D n vs) (hp : Sr H p b) (nD : D ≠ p) (s : But p H H') : Ps K H' D n vs :=
  ⟨s _ _ nD h.1, fun v hv => by obtain ⟨x, y, q, sx, sy⟩ := h.2 v hv; exact ⟨x, y, q.upB s hp, sx, sy⟩⟩
theorem Ps.mono {K : PySem.W.Frag} {H : Hp} {D : Addr} {n m : Nat} {vs : List V} (h : Ps K H D n vs) (l : n ≤ m) : Ps K H D m vs :=
  ⟨h.1, fun v hv => by obtain ⟨x, y, q, sx, sy⟩ := h.2 v hv; exact ⟨x, y, q, sx.mono l, sy.mono l⟩⟩
theorem Ps.turn {K : PySem.W.Frag} {H : Hp} {D : Addr} {n : Nat} {vs ws : List V} (h : Ps K H D n vs) (k : ∀ v ∈ ws, v ∈ vs ∨ ∃ x y : Rat, Pq K H v x y ∧ Sz n x ∧ Sz n y) : Ps K (upd H D (.lst ws)) D n ws := by
  have b := But.upd D H (.lst ws)
  refine ⟨upd_same, fun v hv => ?_⟩
  have : ∃ x y : Rat, Pq K H v x y ∧ Sz n x ∧ Sz n y := by
    rcases k v hv with z | z
    · exact h.2 v z
    · exact z
  obtain ⟨x, y, q, sx, sy⟩ := this
  exact ⟨x, y, q.but h.1 b, sx, sy⟩
theorem Ps.push {K : PySem.W.Frag} {H : Hp} {D : Addr} {n : Nat} {vs : List V} {v : V} {x y : Rat} (h : Ps K H D n vs) (hv : Pq K H v x y) (sx : Sz n x) (sy : Sz n y) : Ps K (upd H D (.lst (vs ++ [v]))) D n (vs ++ [v]) :=
  h.turn fun u hu => by
    rcases List.mem_append.mp hu with z | z
    · exact .inl z
    · rw [List.mem_singleton.mp z]
      exact .inr ⟨x, y, hv, sx, sy⟩
theorem Ps.set {K : PySem.W.Frag} {H : Hp} {D : Addr} {n i : Nat} {vs : List V} {v : V} {x y : Rat} (h : Ps K H D n vs) (hv : Pq K H v x y) (sx : Sz n x) (sy : Sz n y) : Ps K (upd H D (.lst (vs.set i v))) D n (vs.set i v) :=
  h.turn fun u hu => by
    rcases List.mem_or_eq_of_mem_set hu with z | z
    · exact .inl z
    · subst z
      exact .inr ⟨x, y, hv, sx, sy⟩
theorem Sr.upd {H : Hp} {p D : Addr} {b : Int} {o : HO} (h : Sr H p b) (n : p ≠ D) : Sr (upd H D o) p b := h.but n (But.upd D H o)
theorem Pq.updL {K : PySem.W.Frag} {H : Hp} {D : Addr} {vs : List V} {o : HO} {v : V} {x y : Rat} (h : Pq K H v x y) (hD : H D = some (.lst vs)) : Pq K (upd H D o) v x y := h.but hD (But.upd D H o)
theorem but_updN {p D : Addr} {H H' : Hp} {o : HO} (h : But p H H') (n : H D = none) : But p H (upd H' D o) := fun b o' ne hb => by
  have : b ≠ D := fun z => by rw [z, n] at hb; cases hb
  rw [upd_ne this]
  exact h b o' ne hb
theorem four_of {α : Type} {xs : List α} (h : xs.length = 4) : ∃ a b c d, xs = [a, b, c, d] := match xs, h with
  | [a, b, c, d], _ => ⟨a, b, c, d, rfl⟩
def spFour (K : PySem.W.Frag) : Sp := fun vs H Q _ => ∃ (p : Addr) (v w : V) (x y x' y' : Rat), vs = [.ref p, v, w] ∧ Sr H p 0 ∧ Pq K H v x y ∧ Pq K H w x' y' ∧ Sz 8 x ∧ Sz 8 y ∧ Sz 8 x' ∧ Sz 8 y' ∧
  ∀ (D : Addr) (us : List V) (H' : Hp), But p H H' → us.length = 4 → Ps K H' D 220 us → Q (.ref D) H'
def detQ (x1 y1 x2 y2 x3 y3 x4 y4 : Rat) : Rat := ((x1 - x4) * (x1 - x4) + (y1 - y4) * (y1 - y4)) * ((x2 - x4) * (y3 - y4) - (y2 - y4) * (x3 - x4)) + (((x2 - x4) * (x2 - x4) + (y2 - y4) * (y2 - y4)) * ((x3 - x4) * (y1 - y4) - (y3 - y4) * (x1 - x4)) + ((x3 - x4) * (x3 - x4) + (y3 - y4) * (y3 - y4)) * ((x1 - x4) * (y2 - y4) - (y1 - y4) * (x2 - x4)))
theorem det_key (x1 y1 x2 y2 x3 y3 x4 y4 a b c : Rat) : ((x2 - x1) * a) * (((y3 - y1) * b) * (((x4 - x1) * (x4 - x1) + (y4 - y1) * (y4 - y1)) * c) - (((x3 - x1) * (x3 - x1) + (y3 - y1) * (y3 - y1)) * b) * ((y4 - y1) * c)) + ((y2 - y1) * a) * ((((x3 - x1) * (x3 - x1) + (y3 - y1) * (y3 - y1)) * b) * ((x4 - x1) * c) - ((x3 - x1) * b) * (((x4 - x1) * (x4 - x1) + (y4 - y1) * (y4 - y1)) * c)) + (((x2 - x1) * (x2 - x1) + (y2 - y1) * (y2 - y1)) * a) * (((x3 - x1) * b) * ((y4 - y1) * c) - ((y3 - y1) * b) * ((x4 - x1) * c)) = (-1) * (a * b * c) * detQ x1 y1 x2 y2 x3 y3 x4 y4 := by
  unfold detQ
  grind
def spCrossS (K : PySem.W.Frag) : Sp := fun vs H Q _ => ∃ (v w u : V) (x y x' y' x2 y2 : Rat), vs = [v, w, u] ∧ Pq K H v x y ∧ Pq K H w x' y' ∧ Pq K H u x2 y2 ∧ Sz 220 x ∧ Sz 220 y ∧ Sz 220 x' ∧ Sz 220 y' ∧ Sz 220 x2 ∧ Sz 220 y2 ∧
  ∀ (r : V) (H' : Hp), Same H H' → Rq K H' r ((x - x2) * (y' - y2) - (y - y2) * (x' - x2)) 1767 → Q r H'
theorem r_crossS {K : PySem.W.Frag} {H : Hp} {Q : VK} {E : XK} {v w u : V} {x y x' y' x2 y2 : Rat} (h1 : Pq K H v x y) (h2 : Pq K H w x' y') (h3 : Pq K H u x2 y2) (s1 : Sz 220 x) (s2 : Sz 220 y) (s3 : Sz 220 x') (s4 : Sz 220 y') (s5 : Sz 220 x2) (s6 : Sz 220 y2)
    (c : ∀ (r : V) (H' : Hp), Same H H' → Rq K H' r ((x - x2) * (y' - y2) - (y - y2) * (x' - x2)) 1767 → Q r H') : spCrossS K ([v, w, u] ++ []) H Q E := ⟨v, w, u, x, y, x', y', x2, y2, rfl, h1, h2, h3, s1, s2, s3, s4, s5, s6, c⟩
def spDet (K : PySem.W.Frag) : Sp := fun vs H Q _ => ∃ (v1 v2 v3 v4 : V) (x1 y1 x2 y2 x3 y3 x4 y4 : Rat), vs = [v1, v2, v3, v4] ∧ Pq K H v1 x1 y1 ∧ Pq K H v2 x2 y2 ∧ Pq K H v3 x3 y3 ∧ Pq K H v4 x4 y4 ∧ Sz 220 x1 ∧ Sz 220 y1 ∧ Sz 220 x2 ∧ Sz 220 y2 ∧ Sz 220 x3 ∧ Sz 220 y3 ∧ Sz 220 x4 ∧ Sz 220 y4 ∧
  ∀ (t : Int) (H' : Hp), Same H H' → (t = 0 ↔ detQ x1 y1 x2 y2 x3 y3 x4 y4 = 0) → Q (.int t) H'
def spLast (K : PySem.W.Frag) : Sp := fun vs H Q _ => ∃ (p : Addr) (v1 v2 v3 : V) (x1 y1 x2 y2 x3 y3 : Rat), vs = [.ref p, v1, v2, v3] ∧ Sr H p 0 ∧ Pq K H v1 x1 y1 ∧ Pq K H v2 x2 y2 ∧ Pq K H v3 x3 y3 ∧ Sz 8 x1 ∧ Sz 8 y1 ∧ Sz 8 x2 ∧ Sz 8 y2 ∧ Sz 8 x3 ∧ Sz 8 y3 ∧
  ∀ (v : V) (x y : Rat) (H' : Hp), But p H H' → Pq K H' v x y → Sz 220 x → Sz 220 y → Q v H'
def spLifted (K : PySem.W.Frag) : Sp := fun vs H Q _ => ∃ (v w : V) (x y x' y' : Rat) (n : Nat), vs = [v, w] ∧ Pq K H v x y ∧ Pq K H w x' y' ∧ Sz n x ∧ Sz n y ∧ Sz n x' ∧ Sz n y' ∧ n ≤ 3800 ∧
  ∀ (r : V) (H' : Hp) (X Y Z W : Int), Same H H' → Lq K H' r X Y Z → 0 < W → (X : Rat) = (x' - x) * ((W : Rat) * W) → (Y : Rat) = (y' - y) * ((W : Rat) * W) → (Z : Rat) = ((x' - x) * (x' - x) + (y' - y) * (y' - y)) * ((W : Rat) * W) → Sm (8 * n + 1) X → Sm (8 * n + 1) Y → Sm (8 * n + 3) Z → Q r H'
def spRound (K : PySem.W.Frag) : Sp := fun vs H Q _ => ∃ (v1 v2 v3 v4 : V) (x1 y1 x2 y2 x3 y3 x4 y4 : Rat) (n : Nat), vs = [v1, v2, v3, v4] ∧ Pq K H v1 x1 y1 ∧ Pq K H v2 x2 y2 ∧ Pq K H v3 x3 y3 ∧ Pq K H v4 x4 y4 ∧ Sz n x1 ∧ Sz n y1 ∧ Sz n x2 ∧ Sz n y2 ∧ Sz n x3 ∧ Sz n y3 ∧ Sz n x4 ∧ Sz n y4 ∧ n ≤ 3800 ∧
  ∀ (b : Bool) (H' : Hp), Same H H' → (b = true ↔ detQ x1 y1 x2 y2 x3 y3 x4 y4 = 0) → Q (.bl b) H'
def spAsFar (K : PySem.W.Frag) : Sp := fun vs H Q _ => ∃ (v1 v2 v3 v4 : V) (x1 y1 x2 y2 x3 y3 x4 y4 : Rat) (n : Nat), vs = [v1, v2, v3, v4] ∧ Pq K H v1 x1 y1 ∧ Pq K H v2 x2 y2 ∧ Pq K H v3 x3 y3 ∧ Pq K H v4 x4 y4 ∧ Sz n x1 ∧ Sz n y1 ∧ Sz n x2 ∧ Sz n y2 ∧ Sz n x3 ∧ Sz n y3 ∧ Sz n x4 ∧ Sz n y4 ∧ n ≤ 3800 ∧
  ∀ (b : Bool) (H' : Hp), Same H H' → (b = true ↔ (x1 - x2) * (x1 - x2) + (y1 - y2) * (y1 - y2) = (x3 - x4) * (x3 - x4) + (y3 - y4) * (y3 - y4)) → Q (.bl b) H'
theorem r_yesT {σ : St} {H : Hp} {Q : Bool → Hp → Prop} (q : Q true H) : tYes σ H Q := q
theorem r_keep {A B : Prop} (h : A) : if true = true then A else B := by rw [if_pos rfl]; exact h
theorem r_gLst {K : PySem.W.Frag} {σ : St} {H : Hp} {Q : St → Hp → Prop} {t : TGs} {a : Addr} {xs : List V} {n : Nat} (h : SqL K H a xs) (l : xs.length = n) (q : t xs σ H Q) : gLst K n t (.ref a) σ H Q := ⟨a, xs, rfl, h, l, q⟩
theorem r_four {K : PySem.W.Frag} {H : Hp} {Q : VK} {E : XK} {p : Addr} {v w : V} {x y x' y' : Rat} (hp : Sr H p 0) (h1 : Pq K H v x y) (h2 : Pq K H w x' y') (s1 : Sz 8 x) (s2 : Sz 8 y) (s3 : Sz 8 x') (s4 : Sz 8 y')
    (c : ∀ (D : Addr) (a b c d : V) (xa ya xb yb xc yc xd yd : Rat) (H' : Hp), But p H H' → SqL K H' D [a, b, c, d] → Pq K H' a xa ya → Pq K H' b xb yb → Pq K H' c xc yc → Pq K H' d xd yd → Sz 220 xa → Sz 220 ya → Sz 220 xb → Sz 220 yb → Sz 220 xc → Sz 220 yc → Sz 220 xd → Sz 220 yd → Q (.ref D) H') : spFour K ([.ref p, v, w] ++ []) H Q E := by
  refine ⟨p, v, w, x, y, x', y', rfl, hp, h1, h2, s1, s2, s3, s4, fun D us H' b e ps => ?_⟩
  obtain ⟨ua, ub, uc, ud, rfl⟩ := four_of e
  obtain ⟨xa, ya, pa, ta, tb⟩ := ps.2 ua (by simp)
  obtain ⟨xb, yb, pb, tc, td⟩ := ps.2 ub (by simp)
  obtain ⟨xc, yc, pc, te, tf⟩ := ps.2 uc (by simp)
  obtain ⟨xd, yd, pd, tg, th⟩ := ps.2 ud (by simp)
  exact c D ua ub uc ud _ _ _ _ _ _ _ _ H' b (lstOf ps.1) pa pb pc pd ta tb tc td te tf tg th
theorem r_last {K : PySem.W.Frag} {H : Hp} {Q : VK} {E : XK} {p : Addr} {v1 v2 v3 : V} {x1 y1 x2 y2 x3 y3 : Rat} (hp : Sr H p 0) (h1 : Pq K H v1 x1 y1) (h2 : Pq K H v2 x2 y2) (h3 : Pq K H v3 x3 y3) (s1 : Sz 8 x1) (s2 : Sz 8 y1) (s3 : Sz 8 x2) (s4 : Sz 8 y2) (s5 : Sz 8 x3) (s6 : Sz 8 y3)
    (c : ∀ (v : V) (x y : Rat) (H' : Hp), But p H H' → Pq K H' v x y → Sz 220 x → Sz 220 y → Q v H') : spLast K ([.ref p, v1, v2, v3] ++ []) H Q E := ⟨p, v1, v2, v3, x1, y1, x2, y2, x3, y3, rfl, hp, h1, h2, h3, s1, s2, s3, s4, s5, s6, c⟩
theorem beq_of {b : Bool} {p q : Prop} [Decidable p] (h1 : b = true ↔ q) (h2 : p ↔ q) : (b == decide p) = true := by
  cases b
  · have : ¬ p := fun z => by have := h1.mpr (h2.mp z); cases this
    rw [decide_eq_false this]; rfl
  · rw [decide_eq_true (h2.mpr (h1.mp rfl))]; rfl
theorem _root_.Rat.neg_eq_zero_iff' {a : Rat} : -a = 0 ↔ a = 0 := by constructor <;> intro h <;> grind
theorem det_perm (x1 y1 x2 y2 x3 y3 x4 y4 : Rat) : detQ x3 y3 x4 y4 x2 y2 x1 y1 = -detQ x1 y1 x2 y2 x3 y3 x4 y4 := by
  unfold detQ
  grind
section
variable {K : PySem.W.Frag} {H : Hp} {Q : VK} {E : XK}
theorem r_small {p : Addr} {n : Int} (hp : Sr H p n) (l : n ≤ 80000) (c : ∀ (v : V) (q : Rat) (H' : Hp), But p H H' → Sr H' p (n + 10) → Fq K H' v q → Sz 8 q → Q v H') : spSmall K ([.ref p] ++ []) H Q E := ⟨p, n, rfl, hp, l, c⟩
theorem r_smallP {p : Addr} {n : Int} (hp : Sr H p n) (l : n ≤ 70000) (c : ∀ (v : V) (x y : Rat) (H' : Hp), But p H H' → Sr H' p (n + 20) → Pq K H' v x y → Sz 8 x → Sz 8 y → Q v H') : spSmallP K ([.ref p] ++ []) H Q E := ⟨p, n, rfl, hp, l, c⟩
theorem r_smallN {p : Addr} {n : Int} {w : V} {x y : Rat} (hp : Sr H p n) (l : n ≤ 60000) (hw : Pq K H w x y) (sx : Sz 8 x) (sy : Sz 8 y) (c : ∀ (v : V) (x y : Rat) (H' : Hp), But p H H' → Sr H' p (n + 40) → Pq K H' v x y → Sz 8 x → Sz 8 y → Q v H') : spSmallN K ([.ref p, w] ++ []) H Q E := ⟨p, n, w, x, y, rfl, hp, l, hw, sx, sy, c⟩
theorem r_rolled {v w u : V} {x y x' y' t : Rat} (h1 : Pq K H v x y) (h2 : Pq K H w x' y') (h3 : Fq K H u t) (s1 : Sz 8 x) (s2 : Sz 8 y) (s3 : Sz 8 x') (s4 : Sz 8 y') (s5 : Sz 8 t) (c : ∀ (r : V) (x y : Rat) (H' : Hp), Same H H' → Pq K H' r x y → Sz 200 x → Sz 200 y → Q r H') : spRolled K ([v, w, u] ++ []) H Q E := ⟨v, w, u, x, y, x', y', t, rfl, h1, h2, h3, s1, s2, s3, s4, s5, c⟩
theorem r_det {v1 v2 v3 v4 : V} {x1 y1 x2 y2 x3 y3 x4 y4 : Rat} (h1 : Pq K H v1 x1 y1) (h2 : Pq K H v2 x2 y2) (h3 : Pq K H v3 x3 y3) (h4 : Pq K H v4 x4 y4) (s1 : Sz 220 x1) (s2 : Sz 220 y1) (s3 : Sz 220 x2) (s4 : Sz 220 y2) (s5 : Sz 220 x3) (s6 : Sz 220 y3) (s7 : Sz 220 x4) (s8 : Sz 220 y4)
    (c : ∀ (t : Int) (H' : Hp), Same H H' → (t = 0 ↔ detQ x1 y1 x2 y2 x3 y3 x4 y4 = 0) → Q (.int t) H') : spDet K ([v1, v2, v3, v4] ++ []) H Q E := ⟨v1, v2, v3, v4, x1, y1, x2, y2, x3, y3, x4, y4, rfl, h1, h2, h3, h4, s1, s2, s3, s4, s5, s6, s7, s8, c⟩
theorem r_round {v1 v2 v3 v4 : V} {x1 y1 x2 y2 x3 y3 x4 y4 : Rat} {n1 n2 n3 n4 n5 n6 n7 n8 : Nat} (h1 : Pq K H v1 x1 y1) (h2 : Pq K H v2 x2 y2) (h3 : Pq K H v3 x3 y3) (h4 : Pq K H v4 x4 y4) (s1 : Sz n1 x1) (s2 : Sz n2 y1) (s3 : Sz n3 x2) (s4 : Sz n4 y2) (s5 : Sz n5 x3) (s6 : Sz n6 y3) (s7 : Sz n7 x4) (s8 : Sz n8 y4)
    (l : Nat.ble (max (max (max n1 n2) (max n3 n4)) (max (max n5 n6) (max n7 n8))) 3800 = true) (c : ∀ (b : Bool) (H' : Hp), Same H H' → (b = true ↔ detQ x1 y1 x2 y2 x3 y3 x4 y4 = 0) → Q (.bl b) H') : spRound K ([v1, v2, v3, v4] ++ []) H Q E :=
  ⟨v1, v2, v3, v4, x1, y1, x2, y2, x3, y3, x4, y4, _, rfl, h1, h2, h3, h4, s1.mono (by omega), s2.mono (by omega), s3.mono (by omega), s4.mono (by omega), s5.mono (by omega), s6.mono (by omega), s7.mono (by omega), s8.mono (by omega), Nat.le_of_ble_eq_true l, c⟩
theorem r_asFar {v1 v2 v3 v4 : V} {x1 y1 x2 y2 x3 y3 x4 y4 : Rat} {n1 n2 n3 n4 n5 n6 n7 n8 : Nat} (h1 : Pq K H v1 x1 y1) (h2 : Pq K H v2 x2 y2) (h3 : Pq K H v3 x3 y3) (h4 : Pq K H v4 x4 y4) (s1 : Sz n1 x1) (s2 : Sz n2 y1) (s3 : Sz n3 x2) (s4 : Sz n4 y2) (s5 : Sz n5 x3) (s6 : Sz n6 y3) (s7 : Sz n7 x4) (s8 : Sz n8 y4)
    (l : Nat.ble (max (max (max n1 n2) (max n3 n4)) (max (max n5 n6) (max n7 n8))) 3800 = true) (c : ∀ (b : Bool) (H' : Hp), Same H H' → (b = true ↔ (x1 - x2) * (x1 - x2) + (y1 - y2) * (y1 - y2) = (x3 - x4) * (x3 - x4) + (y3 - y4) * (y3 - y4)) → Q (.bl b) H') : spAsFar K ([v1, v2, v3, v4] ++ []) H Q E :=
  ⟨v1, v2, v3, v4, x1, y1, x2, y2, x3, y3, x4, y4, _, rfl, h1, h2, h3, h4, s1.mono (by omega), s2.mono (by omega), s3.mono (by omega), s4.mono (by omega), s5.mono (by omega), s6.mono (by omega), s7.mono (by omega), s8.mono (by omega), Nat.le_of_ble_eq_true l, c⟩
end
end Mb
namespace Mb
open PySem L2
/-! ### known places on a line and a circle -/
theorem cut_at {a b c : Int} {x y px py : Rat} (hl : Ln a b c) (on : (a : Rat) * px + b * py = c) : cX a b c x y (b * (px - x) - a * (py - y)) = px ∧ cY a b c x y (b * (px - x) - a * (py - y)) = py := by
  have n := ratz (show a * a + b * b ≠ 0 by have := hl.sq; omega)
  simp only [Rat.intCast_add, Rat.intCast_mul] at n
  unfold cX cY
  rw [← on]
  constructor <;> grind
theorem cut_u {a b c : Int} {x y s d px py : Rat} (on : (a : Rat) * px + b * py = c) (rg : (px - x) * (px - x) + (py - y) * (py - y) = s) (hd : Cd a b c x y s d) : (b * (px - x) - a * (py - y)) * (b * (px - x) - a * (py - y)) = d := by
  obtain ⟨e⟩ := hd
  rw [e, ← on, ← rg]
  grind
theorem cut_two {a b c : Int} {x y s d px py qx qy : Rat} (hl : Ln a b c) (hd : Cd a b c x y s d) (onp : (a : Rat) * px + b * py = c) (onq : (a : Rat) * qx + b * qy = c) (rp : (px - x) * (px - x) + (py - y) * (py - y) = s) (rq : (qx - x) * (qx - x) + (qy - y) * (qy - y) = s) (ne : ¬ (px = qx ∧ py = qy)) :
    ∃ t : Rat, 0 ≤ t ∧ t * t = d ∧ ∀ u : Rat, (u = if 0 < b then -t else t) → (cX a b c x y u = px ∧ cY a b c x y u = py ∧ cX a b c x y (-u) = qx ∧ cY a b c x y (-u) = qy ∧ (px < qx ∨ (px = qx ∧ py < qy))) ∨ (cX a b c x y u = qx ∧ cY a b c x y u = qy ∧ cX a b c x y (-u) = px ∧ cY a b c x y (-u) = py ∧ (qx < px ∨ (qx = px ∧ qy < py))) := by
  have ep := cut_at (x := x) (y := y) hl onp
  have eq := cut_at (x := x) (y := y) hl onq
  have up := cut_u onp rp hd
  have uq := cut_u onq rq hd
  generalize (b : Rat) * (px - x) - a * (py - y) = u1 at ep up
  generalize (b : Rat) * (qx - x) - a * (qy - y) = u2 at eq uq
  have opp : u2 = -u1 := by
    have z : (u2 - u1) * (u2 + u1) = 0 := by grind
    rcases Rat.mul_eq_zero.mp z with z | z
    · have : u2 = u1 := by grind
      rw [this] at eq
      exact absurd ⟨ep.1.symm.trans eq.1, ep.2.symm.trans eq.2⟩ ne
    · grind
  subst opp
  have nz : u1 ≠ 0 := fun z => by
    subst z
    rw [show (-0 : Rat) = 0 from rfl] at eq
    exact ne ⟨ep.1.symm.trans eq.1, ep.2.symm.trans eq.2⟩
  obtain ⟨t, t0, tt, ht⟩ : ∃ t : Rat, 0 ≤ t ∧ t * t = d ∧ (t = u1 ∨ t = -u1) := by
    rcases (Rat.le_total : 0 ≤ u1 ∨ u1 ≤ 0) with h | h
    · exact ⟨u1, h, up, .inl rfl⟩
    · exact ⟨-u1, by grind, by grind, .inr rfl⟩
  have tn : t ≠ 0 := fun z => nz (by rcases ht with e | e <;> grind)
  refine ⟨t, t0, tt, fun u hu => ?_⟩
  have ord := cut_order (x := x) (y := y) hl t0 tn hu
  have uc : u = u1 ∨ u = -u1 := by
    rw [hu]
    split <;> rcases ht with e | e
    · exact .inr (by rw [e])
    · exact .inl (by rw [e]; grind)
    · exact .inl e
    · exact .inr e
  rcases uc with e | e
  · rw [e] at ord ⊢
    rw [ep.1, ep.2, eq.1, eq.2] at ord ⊢
    exact .inl ⟨rfl, rfl, rfl, rfl, ord⟩
  · rw [e] at ord ⊢
    rw [show - -u1 = u1 by grind] at ord ⊢
    rw [ep.1, ep.2, eq.1, eq.2] at ord ⊢
    exact .inr ⟨rfl, rfl, rfl, rfl, ord⟩
theorem ahead_not {x y x' y' : Rat} (h : x < x' ∨ (x = x' ∧ y < y')) : ¬ (x' < x ∨ (x' = x ∧ y' < y)) := by
  rintro (k | ⟨k, k'⟩) <;> rcases h with z | ⟨z, z'⟩ <;> grind
def spLThru (K : PySem.W.Frag) : Sp := fun vs H Q _ => ∃ (v w : V) (x y x' y' : Rat), vs = [v, w] ∧ Pq K H v x y ∧ Pq K H w x' y' ∧ Sz 100 x ∧ Sz 100 y ∧ Sz 100 x' ∧ Sz 100 y' ∧ ¬ (x = x' ∧ y = y') ∧
  ∀ (r : V) (H' : Hp) (a b c : Int), Same H H' → Lq K H' r a b c → Ln a b c → (a : Rat) * x + b * y = c → (a : Rat) * x' + b * y' = c → Sm 401 a → Sm 401 b → Sm 401 c → Q r H'
def spBeside (K : PySem.W.Frag) : Sp := fun vs H Q _ => ∃ (v w u : V) (x y x' y' t : Rat), vs = [v, w, u] ∧ Pq K H v x y ∧ Pq K H w x' y' ∧ Fq K H u t ∧ Sz 50 x ∧ Sz 50 y ∧ Sz 50 x' ∧ Sz 50 y' ∧ Sz 50 t ∧
  ∀ (r : V) (H' : Hp), Same H H' → Pq K H' r ((x + x') / 2 - t * (y' - y)) ((y + y') / 2 + t * (x' - x)) → Q r H'
/-- a tuple that begins with two whole numbers -/
def Iv (K : PySem.W.Frag) (H : Hp) (v : V) (m n : Int) : Prop := ∃ (a : Addr) (r : List V), v = .ref a ∧ SqT K H a (.int m :: .int n :: r)
theorem Iv.up {K : PySem.W.Frag} {H H' : Hp} {v : V} {m n : Int} (h : Iv K H v m n) (s : Same H H') : Iv K H' v m n := by
  obtain ⟨a, r, rfl, t⟩ := h
  exact ⟨a, r, rfl, s.tp t⟩
theorem Lq.iv {K : PySem.W.Frag} {H : Hp} {v : V} {a b c : Int} (h : Lq K H v a b c) : Iv K H v a b := by
  obtain ⟨p, rfl, t⟩ := h
  exact ⟨p, _, rfl, t⟩
theorem Iv.mk {K : PySem.W.Frag} {H : Hp} {a : Addr} {m n : Int} (h : H a = some (.tup [.int m, .int n])) : Iv K H (.ref a) m n := ⟨a, [], rfl, tupOf h⟩
def spWideNearI (K : PySem.W.Frag) : Sp := fun vs H Q _ => ∃ (p : Addr) (n i : Int) (m : Nat) (w : V) (x y : Int), vs = [.ref p, .int i, w] ∧ Sr H p n ∧ n ≤ 70000 ∧ 0 < i ∧ i.natAbs ≤ 2 ^ m ∧ Pq K H w (x : Rat) (y : Rat) ∧ Sm m x ∧ Sm m y ∧
  ∀ (v : V) (x y : Int) (H' : Hp), But p H H' → Sr H' p (n + 50) → Pq K H' v (x : Rat) (y : Rat) → Sm m x → Sm m y → Q v H'
theorem r_wideNearI {K : PySem.W.Frag} {H : Hp} {Q : VK} {E : XK} {p : Addr} {n i : Int} {m : Nat} {w : V} {x y : Int} (hp : Sr H p n) (l : n ≤ 70000) (i0 : 0 < i) (im : i.natAbs ≤ 2 ^ m) (hw : Pq K H w (x : Rat) (y : Rat)) (sx : Sm m x) (sy : Sm m y)
    (c : ∀ (v : V) (x y : Int) (H' : Hp), But p H H' → Sr H' p (n + 50) → Pq K H' v (x : Rat) (y : Rat) → Sm m x → Sm m y → Q v H') : spWideNearI K ([.ref p, .int i, w] ++ []) H Q E := ⟨p, n, i, m, w, x, y, rfl, hp, l, i0, im, hw, sx, sy, c⟩
theorem sz_half {k i j l m : Int} (h1 : Sm 47 k) (h2 : Sm 47 i) (h3 : Sm 47 j) (h4 : Sm 47 l) (h5 : Sm 47 m) : Sz 150 (((i : Rat) + j) / 2 - (k : Rat) * ((m : Rat) - l)) := by
  have tw : Sm 2 (2 : Int) := by decide
  have e : ((i : Rat) + j) / 2 - (k : Rat) * ((m : Rat) - l) = Rat.divInt (i + j - 2 * k * (m - l)) 2 := by
    rw [Rat.divInt_eq_div]
    simp only [Rat.intCast_sub, Rat.intCast_add, Rat.intCast_mul]
    grind
  rw [e]
  exact Sz.divInt (by decide) ((Sm.subm (Sm.addm h2 h3) (Sm.mul (Sm.mul tw h1) (Sm.subm h5 h4))).mono (by decide)) (tw.mono (by decide))
theorem sz_half' {k i j l m : Int} (h1 : Sm 47 k) (h2 : Sm 47 i) (h3 : Sm 47 j) (h4 : Sm 47 l) (h5 : Sm 47 m) : Sz 150 (((i : Rat) + j) / 2 + (k : Rat) * ((m : Rat) - l)) := by
  have tw : Sm 2 (2 : Int) := by decide
  have e : ((i : Rat) + j) / 2 + (k : Rat) * ((m : Rat) - l) = Rat.divInt (i + j + 2 * k * (m - l)) 2 := by
    rw [Rat.divInt_eq_div]
    simp only [Rat.intCast_sub, Rat.intCast_add, Rat.intCast_mul]
    grind
  rw [e]
  exact Sz.divInt (by decide) ((Sm.addm (Sm.addm h2 h3) (Sm.mul (Sm.mul tw h1) (Sm.subm h5 h4))).mono (by decide)) (tw.mono (by decide))
theorem sz_rad {k i j l m : Int} (h1 : Sm 47 k) (h2 : Sm 47 i) (h3 : Sm 47 j) (h4 : Sm 47 l) (h5 : Sm 47 m) : Sz 200 ((((j : Rat) - i) * ((j : Rat) - i) + ((m : Rat) - l) * ((m : Rat) - l)) * (1 / 4 + (k : Rat) * k)) := by
  have fo : Sm 3 (4 : Int) := by decide
  have on : Sm 3 (1 : Int) := by decide
  have e : (((j : Rat) - i) * ((j : Rat) - i) + ((m : Rat) - l) * ((m : Rat) - l)) * (1 / 4 + (k : Rat) * k) = Rat.divInt (((j - i) * (j - i) + (m - l) * (m - l)) * (1 + 4 * k * k)) 4 := by
    rw [Rat.divInt_eq_div]
    simp only [Rat.intCast_sub, Rat.intCast_add, Rat.intCast_mul]
    grind
  rw [e]
  exact Sz.divInt (by decide) ((Sm.mul (Sm.addm (Sm.mul (Sm.subm h3 h2) (Sm.subm h3 h2)) (Sm.mul (Sm.subm h5 h4) (Sm.subm h5 h4))) (Sm.addm on (Sm.mul (Sm.mul fo h1) h1))).mono (by decide)) (fo.mono (by decide))
def spOff (K : PySem.W.Frag) : Sp := fun vs H Q _ => ∃ (v w u : V) (x y t : Rat) (m n : Int), vs = [v, w, u] ∧ Pq K H v x y ∧ Iv K H w m n ∧ Fq K H u t ∧ Sz 50 x ∧ Sz 50 y ∧ Sz 50 t ∧ Sm 20 m ∧ Sm 20 n ∧
  ∀ (r : V) (H' : Hp), Same H H' → Pq K H' r (x + t * m) (y + t * n) → Q r H'
def spLAbout (K : PySem.W.Frag) : Sp := fun vs H Q _ => ∃ (v w : V) (x y x' y' : Rat), vs = [v, w] ∧ Pq K H v x y ∧ Pq K H w x' y' ∧ Sz 211 x ∧ Sz 211 y ∧ Sz 211 x' ∧ Sz 211 y' ∧
  ∀ (r : V) (H' : Hp), Same H H' → Cq K H' r x y ((x - x') * (x - x') + (y - y') * (y - y')) → Q r H'
def spInOrder (K : PySem.W.Frag) : Sp := fun vs H Q _ => ∃ (v w : V) (x y x' y' : Rat), vs = [v, w] ∧ Pq K H v x y ∧ Pq K H w x' y' ∧ Sz 8000 x ∧ Sz 8000 y ∧ Sz 8000 x' ∧ Sz 8000 y' ∧
  ∀ (l : Addr) (H' : Hp) (f g : V), Same H H' → H' l = some (.lst [f, g]) → ((¬ (x' < x ∨ (x' = x ∧ y' < y)) ∧ f = v ∧ g = w) ∨ ((x' < x ∨ (x' = x ∧ y' < y)) ∧ f = w ∧ g = v)) → Q (.ref l) H'
section
variable {K : PySem.W.Frag} {H : Hp} {Q : VK} {E : XK}
theorem r_lthru {v w : V} {x y x' y' : Rat} {n1 n2 n3 n4 : Nat} (h1 : Pq K H v x y) (h2 : Pq K H w x' y') (s1 : Sz n1 x) (s2 : Sz n2 y) (s3 : Sz n3 x') (s4 : Sz n4 y') (l : Nat.ble (max (max n1 n2) (max n3 n4)) 100 = true) (ne : ¬ (x = x' ∧ y = y'))
    (c : ∀ (r : V) (H' : Hp) (a b c : Int), Same H H' → Lq K H' r a b c → Ln a b c → (a : Rat) * x + b * y = c → (a : Rat) * x' + b * y' = c → Sm 401 a → Sm 401 b → Sm 401 c → Q r H') : spLThru K ([v, w] ++ []) H Q E := by
  have := Nat.le_of_ble_eq_true l
  exact ⟨v, w, x, y, x', y', rfl, h1, h2, s1.mono (by omega), s2.mono (by omega), s3.mono (by omega), s4.mono (by omega), ne, c⟩
theorem r_beside {v w u : V} {x y x' y' t : Rat} (h1 : Pq K H v x y) (h2 : Pq K H w x' y') (h3 : Fq K H u t) (s1 : Sz 50 x) (s2 : Sz 50 y) (s3 : Sz 50 x') (s4 : Sz 50 y') (s5 : Sz 50 t)
    (c : ∀ (r : V) (H' : Hp), Same H H' → Pq K H' r ((x + x') / 2 - t * (y' - y)) ((y + y') / 2 + t * (x' - x)) → Q r H') : spBeside K ([v, w, u] ++ []) H Q E := ⟨v, w, u, x, y, x', y', t, rfl, h1, h2, h3, s1, s2, s3, s4, s5, c⟩
theorem r_off {v w u : V} {x y t : Rat} {m n : Int} {n1 n2 n3 n4 n5 : Nat} (h1 : Pq K H v x y) (h2 : Iv K H w m n) (h3 : Fq K H u t) (s1 : Sz n1 x) (s2 : Sz n2 y) (s3 : Sz n3 t) (l : Nat.ble (max n1 (max n2 n3)) 50 = true) (s4 : Sm n4 m) (s5 : Sm n5 n) (l2 : Nat.ble (max n4 n5) 20 = true)
    (c : ∀ (r : V) (H' : Hp), Same H H' → Pq K H' r (x + t * m) (y + t * n) → Q r H') : spOff K ([v, w, u] ++ []) H Q E := by
  have := Nat.le_of_ble_eq_true l
  have := Nat.le_of_ble_eq_true l2
  exact ⟨v, w, u, x, y, t, m, n, rfl, h1, h2, h3, s1.mono (by omega), s2.mono (by omega), s3.mono (by omega), s4.mono (by omega), s5.mono (by omega), c⟩
theorem r_labout {v w : V} {x y x' y' : Rat} {n1 n2 n3 n4 : Nat} (h1 : Pq K H v x y) (h2 : Pq K H w x' y') (s1 : Sz n1 x) (s2 : Sz n2 y) (s3 : Sz n3 x') (s4 : Sz n4 y') (l : Nat.ble (max (max n1 n2) (max n3 n4)) 211 = true)
    (c : ∀ (r : V) (H' : Hp), Same H H' → Cq K H' r x y ((x - x') * (x - x') + (y - y') * (y - y')) → Q r H') : spLAbout K ([v, w] ++ []) H Q E := by
  have := Nat.le_of_ble_eq_true l
  exact ⟨v, w, x, y, x', y', rfl, h1, h2, s1.mono (by omega), s2.mono (by omega), s3.mono (by omega), s4.mono (by omega), c⟩
theorem r_ixI0 {v : V} {m n : Int} (h : Iv K H v m n) (k : Q (.int m) H) : rIxT K v (.int 0) H Q := by
  obtain ⟨a, r, rfl, t⟩ := h
  exact ⟨a, _, 0, _, rfl, rfl, t, by unfold atI ixN; rw [if_pos (by decide), if_pos (by simp only [List.length_cons]; omega)]; rfl, k⟩
theorem r_ixI1 {v : V} {m n : Int} (h : Iv K H v m n) (k : Q (.int n) H) : rIxT K v (.int 1) H Q := by
  obtain ⟨a, r, rfl, t⟩ := h
  exact ⟨a, _, 1, _, rfl, rfl, t, by unfold atI ixN; rw [if_pos (by decide), if_pos (by simp only [List.length_cons]; omega)]; rfl, k⟩
end
end Mb
namespace Mb
open PySem L2
/-! ### known places on two circles -/
def Dg (e n : Nat) (xp yp xq yq t : Rat) : Prop := (∃ i l j m k : Int, xp = i ∧ yp = l ∧ xq = j ∧ yq = m ∧ t = k ∧ Sm 47 i ∧ Sm 47 l ∧ Sm 47 j ∧ Sm 47 m ∧ Sm e k) ∨ (Sz 11 xp ∧ Sz 11 yp ∧ Sz 11 xq ∧ Sz 11 yq ∧ Sz n t)
theorem Dg.one {xp yp xq yq t : Rat} (h : Dg 47 11 xp yp xq yq t) : Dg 47 11 xp yp xq yq ((1 : Int) : Rat) := by
  rcases h with ⟨i, l, j, m, k, e1, e2, e3, e4, _, h1, h2, h3, h4, _⟩ | ⟨h1, h2, h3, h4, _⟩
  · exact .inl ⟨i, l, j, m, 1, e1, e2, e3, e4, rfl, h1, h2, h3, h4, by decide⟩
  · exact .inr ⟨h1, h2, h3, h4, Sz.int (n := 11) (i := 1) (by decide) (by decide)⟩
theorem Dg.up {xp yp xq yq t : Rat} (h : Dg 47 11 xp yp xq yq t) : Dg 48 23 xp yp xq yq t := by
  rcases h with ⟨i, l, j, m, k, e1, e2, e3, e4, e5, h1, h2, h3, h4, h5⟩ | ⟨h1, h2, h3, h4, h5⟩
  · exact .inl ⟨i, l, j, m, k, e1, e2, e3, e4, e5, h1, h2, h3, h4, h5.mono (by decide)⟩
  · exact .inr ⟨h1, h2, h3, h4, h5.mono (by decide)⟩
theorem Dg.dbl {xp yp xq yq t : Rat} (h : Dg 47 11 xp yp xq yq t) : Dg 48 23 xp yp xq yq (t + t) := by
  rcases h with ⟨i, l, j, m, k, e1, e2, e3, e4, rfl, h1, h2, h3, h4, h5⟩ | ⟨h1, h2, h3, h4, h5⟩
  · exact .inl ⟨i, l, j, m, k + k, e1, e2, e3, e4, by rw [Rat.intCast_add], h1, h2, h3, h4, (Sm.addm h5 h5).mono (by decide)⟩
  · exact .inr ⟨h1, h2, h3, h4, (h5.add h5).mono (by decide)⟩
theorem sz2_half {k i j l m : Int} (h1 : Sm 48 k) (h2 : Sm 47 i) (h3 : Sm 47 j) (h4 : Sm 47 l) (h5 : Sm 47 m) : Sz 200 (((i : Rat) + j) / 2 - (k : Rat) * ((m : Rat) - l)) := by
  have tw : Sm 2 (2 : Int) := by decide
  have e : ((i : Rat) + j) / 2 - (k : Rat) * ((m : Rat) - l) = Rat.divInt (i + j - 2 * k * (m - l)) 2 := by
    rw [Rat.divInt_eq_div]
    simp only [Rat.intCast_sub, Rat.intCast_add, Rat.intCast_mul]
    grind
  rw [e]
  exact Sz.divInt (by decide) ((Sm.subm (Sm.addm h2 h3) (Sm.mul (Sm.mul tw h1) (Sm.subm h5 h4))).mono (by decide)) (tw.mono (by decide))
theorem sz2_half' {k i j l m : Int} (h1 : Sm 48 k) (h2 : Sm 47 i) (h3 : Sm 47 j) (h4 : Sm 47 l) (h5 : Sm 47 m) : Sz 200 (((i : Rat) + j) / 2 + (k : Rat) * ((m : Rat) - l)) := by
  have tw : Sm 2 (2 : Int) := by decide
  have e : ((i : Rat) + j) / 2 + (k : Rat) * ((m : Rat) - l) = Rat.divInt (i + j + 2 * k * (m - l)) 2 := by
    rw [Rat.divInt_eq_div]
    simp only [Rat.intCast_sub, Rat.intCast_add, Rat.intCast_mul]
    grind
  rw [e]
  exact Sz.divInt (by decide) ((Sm.addm (Sm.addm h2 h3) (Sm.mul (Sm.mul tw h1) (Sm.subm h5 h4))).mono (by decide)) (tw.mono (by decide))
theorem sz2_rad {k i j l m : Int} (h1 : Sm 48 k) (h2 : Sm 47 i) (h3 : Sm 47 j) (h4 : Sm 47 l) (h5 : Sm 47 m) : Sz 200 ((((j : Rat) - i) * ((j : Rat) - i) + ((m : Rat) - l) * ((m : Rat) - l)) * (1 / 4 + (k : Rat) * k)) := by
  have fo : Sm 3 (4 : Int) := by decide
  have on : Sm 3 (1 : Int) := by decide
  have e : (((j : Rat) - i) * ((j : Rat) - i) + ((m : Rat) - l) * ((m : Rat) - l)) * (1 / 4 + (k : Rat) * k) = Rat.divInt (((j - i) * (j - i) + (m - l) * (m - l)) * (1 + 4 * k * k)) 4 := by
    rw [Rat.divInt_eq_div]
    simp only [Rat.intCast_sub, Rat.intCast_add, Rat.intCast_mul]
    grind
  rw [e]
  exact Sz.divInt (by decide) ((Sm.mul (Sm.addm (Sm.mul (Sm.subm h3 h2) (Sm.subm h3 h2)) (Sm.mul (Sm.subm h5 h4) (Sm.subm h5 h4))) (Sm.addm on (Sm.mul (Sm.mul fo h1) h1))).mono (by decide)) (fo.mono (by decide))
theorem Dg.sizes {xp yp xq yq t : Rat} (h : Dg 48 23 xp yp xq yq t) : Sz 200 ((xp + xq) / 2 - t * (yq - yp)) ∧ Sz 200 ((yp + yq) / 2 + t * (xq - xp)) ∧ Sz 200 (((xq - xp) * (xq - xp) + (yq - yp) * (yq - yp)) * (1 / 4 + t * t)) ∧ Sz 50 xp ∧ Sz 50 yp ∧ Sz 50 xq ∧ Sz 50 yq ∧ Sz 50 t := by
  rcases h with ⟨i, l, j, m, k, rfl, rfl, rfl, rfl, rfl, h1, h2, h3, h4, h5⟩ | ⟨h1, h2, h3, h4, h5⟩
  · exact ⟨sz2_half h5 h1 h3 h2 h4, sz2_half' h5 h2 h4 h1 h3, sz2_rad h5 h1 h3 h2 h4, Sz.mono (Sz.int h1 (by decide)) (by decide), Sz.mono (Sz.int h2 (by decide)) (by decide), Sz.mono (Sz.int h3 (by decide)) (by decide), Sz.mono (Sz.int h4 (by decide)) (by decide), Sz.mono (Sz.int h5 (by decide)) (by decide)⟩
  · have tw : Sz 8 (2 : Rat) := Sz.lit (by decide) (by decide)
    have qu : Sz 8 (1 / 4 : Rat) := Sz.lit (by decide +kernel) (by decide +kernel)
    exact ⟨Sz.mono (((h1.add h3).div tw (by decide)).sub (h5.mul (h4.sub h2))) (by decide), Sz.mono (((h2.add h4).div tw (by decide)).add (h5.mul (h3.sub h1))) (by decide), Sz.mono ((((h3.sub h1).mul (h3.sub h1)).add ((h4.sub h2).mul (h4.sub h2))).mul (qu.add (h5.mul h5))) (by decide), h1.mono (by decide), h2.mono (by decide), h3.mono (by decide), h4.mono (by decide), h5.mono (by decide)⟩
theorem rad_on {a b c : Int} {g x y s x' y' s' px py : Rat} (h : Rad a b c g x y s x' y' s') (rp : (px - x) * (px - x) + (py - y) * (py - y) = s) (rp' : (px - x') * (px - x') + (py - y') * (py - y') = s') : (a : Rat) * px + b * py = c := by
  have ea := h.ea
  have eb := h.eb
  have ec := h.ec
  have z : g * ((a : Rat) * px + b * py - c) = 0 := by
    have : g * ((a : Rat) * px + b * py - c) = (g * a) * px + (g * b) * py - g * c := by grind
    rw [this, ea, eb, ec, ← rp, ← rp']
    grind
  rcases Rat.mul_eq_zero.mp z with z | z
  · exact absurd z h.nz
  · grind
theorem ring_known {a b c : Int} {g x y s x' y' s' d px py qx qy : Rat} (h : Rad a b c g x y s x' y' s') (hd : Cd a b c x y s d) (rp : (px - x) * (px - x) + (py - y) * (py - y) = s) (rp' : (px - x') * (px - x') + (py - y') * (py - y') = s') (rq : (qx - x) * (qx - x) + (qy - y) * (qy - y) = s) (rq' : (qx - x') * (qx - x') + (qy - y') * (qy - y') = s')
    (cs : ¬ (px = qx ∧ py = qy) ∨ ((px = qx ∧ py = qy) ∧ (x' - x) * (py - y) = (y' - y) * (px - x))) :
    ∃ t : Rat, 0 ≤ t ∧ t * t = d ∧ ∀ u : Rat, (u = if 0 < b then -t else t) → (cX a b c x y u = px ∧ cY a b c x y u = py ∧ cX a b c x y (-u) = qx ∧ cY a b c x y (-u) = qy ∧ ¬ (qx < px ∨ (qx = px ∧ qy < py))) ∨ (cX a b c x y u = qx ∧ cY a b c x y u = qy ∧ cX a b c x y (-u) = px ∧ cY a b c x y (-u) = py ∧ (qx < px ∨ (qx = px ∧ qy < py))) := by
  have onp := rad_on h rp rp'
  have onq := rad_on h rq rq'
  rcases cs with ne | ⟨⟨rfl, rfl⟩, col⟩
  · obtain ⟨t, t0, tt, k⟩ := cut_two h.ln hd onp onq rp rq ne
    refine ⟨t, t0, tt, fun u hu => ?_⟩
    rcases k u hu with ⟨e1, e2, e3, e4, o⟩ | z
    · exact .inl ⟨e1, e2, e3, e4, ahead_not o⟩
    · exact .inr z
  · have uu := cut_u onp rp hd
    have ec := cut_at (x := x) (y := y) h.ln onp
    have ea := h.ea
    have eb := h.eb
    have e0 : (b : Rat) * (px - x) - a * (py - y) = 0 := by
      have z : g * ((b : Rat) * (px - x) - a * (py - y)) = 0 := by
        have : g * ((b : Rat) * (px - x) - a * (py - y)) = (g * b) * (px - x) - (g * a) * (py - y) := by grind
        rw [this, ea, eb]
        grind
      rcases Rat.mul_eq_zero.mp z with z | z
      · exact absurd z h.nz
      · exact z
    rw [e0] at uu ec
    refine ⟨0, Rat.le_refl, uu, fun u hu => ?_⟩
    have : u = 0 := by rw [hu]; split <;> rfl
    subst this
    rw [show (-0 : Rat) = 0 from rfl, ec.1, ec.2]
    exact .inl ⟨rfl, rfl, rfl, rfl, by grind⟩
theorem r_ringK {K : PySem.W.Frag} {H : Hp} {Q : VK} {E : XK} {v w : V} {x y s x' y' s' px py qx qy : Rat} (c1 : Cq K H v x y s) (c2 : Cq K H w x' y' s') (z1 : Sz 200 x) (z2 : Sz 200 y) (z3 : Sz 200 s) (z4 : Sz 200 x') (z5 : Sz 200 y') (z6 : Sz 200 s') (ne : ¬ (x = x' ∧ y = y'))
    (rp : (px - x) * (px - x) + (py - y) * (py - y) = s) (rp' : (px - x') * (px - x') + (py - y') * (py - y') = s') (rq : (qx - x) * (qx - x) + (qy - y) * (qy - y) = s) (rq' : (qx - x') * (qx - x') + (qy - y') * (qy - y') = s')
    (cs : ¬ (px = qx ∧ py = qy) ∨ ((px = qx ∧ py = qy) ∧ (x' - x) * (py - y) = (y' - y) * (px - x)))
    (k : ∀ (r : V) (l : Addr) (H' : Hp), Same H H' → (Ct2 K H' r l px py qx qy ∧ ¬ (qx < px ∨ (qx = px ∧ qy < py))) ∨ (Ct2 K H' r l qx qy px py ∧ (qx < px ∨ (qx = px ∧ qy < py))) → Q r H') : spRing K ([v, w] ++ []) H Q E := by
  refine r_ring1 c1 c2 z1 z2 z3 z4 z5 z6 ne (fun a b c g d h hd => ?_)
  obtain ⟨t, t0, tt, kk⟩ := ring_known h hd rp rp' rq rq' cs
  have dp : 0 ≤ d := by rw [← tt]; exact sq_nnR t
  refine ⟨fun z => absurd z (Rat.not_lt.mpr dp), fun _ no => absurd ⟨t, tt⟩ no, fun t' t0' tt' r l H' u gs _ hu kf _ _ _ _ => ?_⟩
  have e : t' = t := by
    have z : (t' - t) * (t' + t) = 0 := by grind
    rcases Rat.mul_eq_zero.mp z with z | z
    · grind
    · grind
  subst e
  refine k r l H' gs ?_
  rcases kk u hu with ⟨e1, e2, e3, e4, o⟩ | ⟨e1, e2, e3, e4, o⟩
  · rw [e1, e2, e3, e4] at kf
    exact .inl ⟨kf, o⟩
  · rw [e1, e2, e3, e4] at kf
    exact .inr ⟨kf, o⟩
end Mb
namespace Mb
open PySem L2
/-! ### circles that meet -/
theorem r_thruL {K : PySem.W.Frag} {H : Hp} {Q : VK} {E : XK} {v w : V} {x y x' y' : Rat} {n n2 m m2 : Nat} (h1 : Pq K H v x y) (h2 : Pq K H w x' y') (s1 : Sz n x) (s2 : Sz n2 y) (s3 : Sz m x') (s4 : Sz m2 y') (l : Nat.ble (max n n2 + max m m2) 3800 = true) (ne : ¬ (x = x' ∧ y = y'))
    (c : ∀ (r : V) (H' : Hp) (a b c : Int), Same H H' → Lq K H' r a b c → Ln a b c → (a : Rat) * x + b * y = c → (a : Rat) * x' + b * y' = c → Sm (max n n2 + max n n2 + (max m m2 + max m m2) + 1) a → Sm (max n n2 + max n n2 + (max m m2 + max m m2) + 1) b → Sm (max n n2 + max n n2 + (max m m2 + max m m2) + 1) c → Q r H') : spThruO K ([v, w] ++ []) H Q E := by
  refine r_thruO h1 h2 s1 s2 s3 s4 l (fun r H' g k z => ?_)
  obtain ⟨a, b, c9, e, t1, t2, t3⟩ := z ne
  rw [e] at k
  obtain ⟨_, hL, o1, o2⟩ := thr_spec e
  exact c r H' a b c9 g k hL o1 o2 t1 t2 t3
/-- three is no square -/
theorem no3 (m n : Nat) (h : m * m = 3 * (n * n)) : n = 0 := by
  induction n using Nat.strongRecOn generalizing m with
  | ind n ih =>
    by_cases z : n = 0
    · exact z
    have d : m % 3 = 0 := by
      have h3 : (m * m) % 3 = 0 := by omega
      rw [Nat.mul_mod] at h3
      have : m % 3 = 0 ∨ m % 3 = 1 ∨ m % 3 = 2 := by omega
      rcases this with e | e | e
      · exact e
      · rw [e] at h3; exact absurd h3 (by decide)
      · rw [e] at h3; exact absurd h3 (by decide)
    obtain ⟨k, rfl⟩ : ∃ k, m = 3 * k := ⟨m / 3, by omega⟩
    have e : n * n = 3 * (k * k) := by
      have : 3 * k * (3 * k) = 3 * (3 * (k * k)) := by
        rw [Nat.mul_assoc, Nat.mul_left_comm k 3 k]
      omega
    have d2 : n % 3 = 0 := by
      have h3 : (n * n) % 3 = 0 := by omega
      rw [Nat.mul_mod] at h3
      have : n % 3 = 0 ∨ n % 3 = 1 ∨ n % 3 = 2 := by omega
      rcases this with e | e | e
      · exact e
      · rw [e] at h3; exact absurd h3 (by decide)
      · rw [e] at h3; exact absurd h3 (by decide)
    obtain ⟨j, rfl⟩ : ∃ j, n = 3 * j := ⟨n / 3, by omega⟩
    have e2 : k * k = 3 * (j * j) := by
      have : 3 * j * (3 * j) = 3 * (3 * (j * j)) := by
        rw [Nat.mul_assoc, Nat.mul_left_comm j 3 j]
      omega
    have := ih j (by omega) k e2
    omega
theorem no3R (r k : Rat) (nz : k ≠ 0) (h : r * r = 3 * (k * k)) : False := by
  have hr := hden r
  have hk := hden k
  have dr := ratz (den_ne r)
  have dk := ratz (den_ne k)
  have e : ((r.num * k.den * (r.num * k.den) : Int) : Rat) = ((3 * ((k.num * r.den) * (k.num * r.den)) : Int) : Rat) := by
    simp only [Rat.intCast_mul]
    rw [← hr, ← hk]
    have : ((3 : Int) : Rat) = 3 := rfl
    rw [this]
    grind
  have e2 := cast_inj e
  have e3 : (r.num * k.den).natAbs * (r.num * k.den).natAbs = 3 * ((k.num * r.den).natAbs * (k.num * r.den).natAbs) := by
    have := congrArg Int.natAbs e2
    simp only [Int.natAbs_mul] at this ⊢
    exact this
  have z := no3 _ _ e3
  have z2 : k.num * r.den = 0 := Int.natAbs_eq_zero.mp z
  rcases Int.mul_eq_zero.mp z2 with z3 | z3
  · exact nz (Rat.num_eq_zero.mp z3)
  · exact den_ne r z3
theorem det_round {x1 y1 x2 y2 x3 y3 x4 y4 px py s : Rat} (h1 : (x1 - px) * (x1 - px) + (y1 - py) * (y1 - py) = s) (h2 : (x2 - px) * (x2 - px) + (y2 - py) * (y2 - py) = s) (h3 : (x3 - px) * (x3 - px) + (y3 - py) * (y3 - py) = s) (h4 : (x4 - px) * (x4 - px) + (y4 - py) * (y4 - py) = s) : detQ x1 y1 x2 y2 x3 y3 x4 y4 = 0 := by
  have : detQ x1 y1 x2 y2 x3 y3 x4 y4 = ((x1 - px) * (x1 - px) + (y1 - py) * (y1 - py) - s) * ((x2 - x4) * (y3 - y4) - (y2 - y4) * (x3 - x4)) + ((x2 - px) * (x2 - px) + (y2 - py) * (y2 - py) - s) * ((x3 - x4) * (y1 - y4) - (y3 - y4) * (x1 - x4)) + ((x3 - px) * (x3 - px) + (y3 - py) * (y3 - py) - s) * ((x1 - x4) * (y2 - y4) - (y1 - y4) * (x2 - x4)) - ((x4 - px) * (x4 - px) + (y4 - py) * (y4 - py) - s) * (((x2 - x4) * (y3 - y4) - (y2 - y4) * (x3 - x4)) + ((x3 - x4) * (y1 - y4) - (y3 - y4) * (x1 - x4)) + ((x1 - x4) * (y2 - y4) - (y1 - y4) * (x2 - x4))) := by
    unfold detQ
    grind
  rw [this, h1, h2, h3, h4]
  grind
def spTwo (K : PySem.W.Frag) : Sp := fun vs H Q _ => ∃ (f v w : V) (l : Addr) (x y x' y' : Rat), vs = [f, v, w] ∧ Pq K H v x y ∧ Pq K H w x' y' ∧ Sz 8000 x ∧ Sz 8000 y ∧ Sz 8000 x' ∧ Sz 8000 y' ∧
  ((Ct2 K H f l x y x' y' ∧ ¬ (x' < x ∨ (x' = x ∧ y' < y))) ∨ (Ct2 K H f l x' y' x y ∧ (x' < x ∨ (x' = x ∧ y' < y)))) ∧ ∀ H', Same H H' → Q (.bl true) H'
def spTouching (K : PySem.W.Frag) : Sp := fun vs H Q _ => ∃ (v w u : V) (x y x' y' s : Rat), vs = [v, w, u] ∧ Pq K H v x y ∧ Pq K H w x' y' ∧ Cq K H u x y s ∧ Sz 8 x ∧ Sz 8 y ∧ Sz 8 x' ∧ Sz 8 y' ∧ Sz 211 s ∧ ¬ (x = x' ∧ y = y') ∧ s = (x' - x) * (x' - x) + (y' - y) * (y' - y) ∧ ∀ H', Same H H' → Q (.bl true) H'
/-- a line upright on the way from one place to another -/
theorem up_wayK {a b A B C : Int} {x y x' y' : Rat} (hL : Ln A B C) (o1 : (A : Rat) * x + B * y = C) (o2 : (A : Rat) * x' + B * y' = C) (r : RUp a b A B) : (b : Rat) * (x' - x) = a * (y' - y) := by
  have n := hL.nz
  unfold RUp at r
  have e : (A : Rat) * (x' - x) + B * (y' - y) = 0 := by grind
  by_cases hA : A = 0
  · have hB : (B : Rat) ≠ 0 := ratz (fun z => n ⟨hA, z⟩)
    rw [hA] at e r
    have z0 : ((0 : Int) : Rat) = 0 := rfl
    rw [z0] at e r
    have y0 : (B : Rat) * (y' - y) = 0 := by grind
    have b0 : (B : Rat) * b = 0 := by grind
    have e1 : y' - y = 0 := by
      rcases Rat.mul_eq_zero.mp y0 with z | z
      · exact absurd z hB
      · exact z
    have e2 : (b : Rat) = 0 := by
      rcases Rat.mul_eq_zero.mp b0 with z | z
      · exact absurd z hB
      · exact z
    rw [e1, e2]
    grind
  · have hA' : (A : Rat) ≠ 0 := ratz hA
    have z : (A : Rat) * ((b : Rat) * (x' - x) - a * (y' - y)) = 0 := by grind
    rcases Rat.mul_eq_zero.mp z with z | z
    · exact absurd z hA'
    · grind
theorem way_nz {a b : Int} {c : Int} {x y x' y' : Rat} (hL : Ln a b c) (ne : ¬ (x = x' ∧ y = y')) (p : (b : Rat) * (x' - x) = a * (y' - y)) : (a : Rat) * (x' - x) + b * (y' - y) ≠ 0 := by
  intro z
  have n := ratz (show a * a + b * b ≠ 0 by have := hL.sq; omega)
  simp only [Rat.intCast_add, Rat.intCast_mul] at n
  have e1 : ((a : Rat) * a + b * b) * (x' - x) = 0 := by grind
  have e2 : ((a : Rat) * a + b * b) * (y' - y) = 0 := by grind
  refine ne ⟨?_, ?_⟩
  · rcases Rat.mul_eq_zero.mp e1 with z | z
    · exact absurd z n
    · grind
  · rcases Rat.mul_eq_zero.mp e2 with z | z
    · exact absurd z n
    · grind
/-- the square of the way, times a line's square, where the way is along its numbers -/
theorem way_sq {a b : Int} {x y x' y' : Rat} (p : (b : Rat) * (x' - x) = a * (y' - y)) : ((x' - x) * (x' - x) + (y' - y) * (y' - y)) * ((a : Rat) * a + b * b) = ((a : Rat) * (x' - x) + b * (y' - y)) * ((a : Rat) * (x' - x) + b * (y' - y)) := by
  have : ((x' - x) * (x' - x) + (y' - y) * (y' - y)) * ((a : Rat) * a + b * b) - ((a : Rat) * (x' - x) + b * (y' - y)) * ((a : Rat) * (x' - x) + b * (y' - y)) = ((b : Rat) * (x' - x) - a * (y' - y)) * ((b : Rat) * (x' - x) - a * (y' - y)) := by grind
  have z : (b : Rat) * (x' - x) - a * (y' - y) = 0 := by grind
  rw [z] at this
  grind
theorem r_cutK {K : PySem.W.Frag} {H : Hp} {Q : VK} {E : XK} {v w : V} {a b c : Int} {x y s px py qx qy : Rat} {n1 n2 n3 : Nat} (h1 : Lq K H v a b c) (hl : Ln a b c) (h2 : Cq K H w x y s) (s1 : Sm n1 a) (s2 : Sm n2 b) (s3 : Sm n3 c) (l : Nat.ble (max n1 (max n2 n3)) 2300 = true) (s4 : Sz 211 x) (s5 : Sz 211 y) (s6 : Sz 211 s)
    (onp : (a : Rat) * px + b * py = c) (onq : (a : Rat) * qx + b * qy = c) (rp : (px - x) * (px - x) + (py - y) * (py - y) = s) (rq : (qx - x) * (qx - x) + (qy - y) * (qy - y) = s) (cs : ¬ (px = qx ∧ py = qy) ∨ ((px = qx ∧ py = qy) ∧ (b : Rat) * (px - x) = a * (py - y)))
    (k : ∀ (r : V) (l : Addr) (H' : Hp), Same H H' → (Ct2 K H' r l px py qx qy ∧ ¬ (qx < px ∨ (qx = px ∧ qy < py))) ∨ (Ct2 K H' r l qx qy px py ∧ (qx < px ∨ (qx = px ∧ qy < py))) → Q r H') : spCuts K ([v, w] ++ []) H Q E := by
  obtain ⟨d, hd⟩ : ∃ d, Cd a b c x y s d := ⟨_, ⟨rfl⟩⟩
  rcases cs with ne | ⟨⟨rfl, rfl⟩, col⟩
  · obtain ⟨t, t0, tt, kk⟩ := cut_two hl hd onp onq rp rq ne
    refine r_cutA h1 hl h2 s1 s2 s3 l s4 s5 s6 hd t0 tt rfl (fun rf l Hf gf nf kf _ _ _ _ => ?_)
    rcases kk _ rfl with ⟨e1, e2, e3, e4, o⟩ | ⟨e1, e2, e3, e4, o⟩
    · rw [e1, e2, e3, e4] at kf
      exact k _ _ _ gf (.inl ⟨kf, ahead_not o⟩)
    · rw [e1, e2, e3, e4] at kf
      exact k _ _ _ gf (.inr ⟨kf, o⟩)
  · have uu := cut_u onp rp hd
    have ec := cut_at (x := x) (y := y) hl onp
    have e0 : (b : Rat) * (px - x) - a * (py - y) = 0 := by grind
    rw [e0] at uu ec
    refine r_cutA (t := 0) (u := 0) h1 hl h2 s1 s2 s3 l s4 s5 s6 hd (Rat.le_refl) uu (by split <;> rfl) (fun rf l Hf gf nf kf _ _ _ _ => ?_)
    rw [show (-0 : Rat) = 0 from rfl, ec.1, ec.2] at kf
    exact k _ _ _ gf (.inl ⟨kf, by grind⟩)
theorem beq_tt {b : Bool} (h : b = true) : (b == true) = true := by rw [h]; rfl
/-- a place mirrored in a line: where it lies -/
theorem mir_on {a1 b1 a b : Int} {c1 c : Int} {x y fx fy : Rat} (h1 : Ln a1 b1 c1) (r : RUp a1 b1 a b) (on : (a : Rat) * x + b * y = c) (sq : (b1 : Rat) * (fx - x) = a1 * (fy - y)) : (a : Rat) * (fx + fx - x) + b * (fy + fy - y) = c := by
  unfold RUp at r
  have n := ratz (show a1 * a1 + b1 * b1 ≠ 0 by have := h1.sq; omega)
  simp only [Rat.intCast_add, Rat.intCast_mul] at n
  have z : ((a1 : Rat) * a1 + b1 * b1) * ((a : Rat) * (fx - x) + b * (fy - y)) = 0 := by
    have : ((a1 : Rat) * a1 + b1 * b1) * ((a : Rat) * (fx - x) + b * (fy - y)) = ((a1 : Rat) * a + b1 * b) * ((a1 : Rat) * (fx - x) + b1 * (fy - y)) + ((b1 : Rat) * (fx - x) - a1 * (fy - y)) * (b1 * a - a1 * b) := by grind
    rw [this, r, sq]
    grind
  rcases Rat.mul_eq_zero.mp z with z | z
  · exact absurd z n
  · grind
/-- and how far it is from the line's places -/
theorem mir_far {a1 b1 : Int} {c1 : Int} {x y fx fy px py : Rat} (h1 : Ln a1 b1 c1) (onp : (a1 : Rat) * px + b1 * py = c1) (onf : (a1 : Rat) * fx + b1 * fy = c1) (sq : (b1 : Rat) * (fx - x) = a1 * (fy - y)) : (fx + fx - x - px) * (fx + fx - x - px) + (fy + fy - y - py) * (fy + fy - y - py) = (x - px) * (x - px) + (y - py) * (y - py) := by
  have n := ratz (show a1 * a1 + b1 * b1 ≠ 0 by have := h1.sq; omega)
  simp only [Rat.intCast_add, Rat.intCast_mul] at n
  have e : (a1 : Rat) * (fx - px) + b1 * (fy - py) = 0 := by grind
  have z : ((a1 : Rat) * a1 + b1 * b1) * ((fx - x) * (fx - px) + (fy - y) * (fy - py)) = 0 := by
    have : ((a1 : Rat) * a1 + b1 * b1) * ((fx - x) * (fx - px) + (fy - y) * (fy - py)) = ((a1 : Rat) * (fx - x) + b1 * (fy - y)) * ((a1 : Rat) * (fx - px) + b1 * (fy - py)) + ((b1 : Rat) * (fx - x) - a1 * (fy - y)) * (b1 * (fx - px) - a1 * (fy - py)) := by grind
    rw [this, e, sq]
    grind
  have z2 : (fx - x) * (fx - px) + (fy - y) * (fy - py) = 0 := by
    rcases Rat.mul_eq_zero.mp z with z | z
    · exact absurd z n
    · exact z
  have : (fx + fx - x - px) * (fx + fx - x - px) + (fy + fy - y - py) * (fy + fy - y - py) - ((x - px) * (x - px) + (y - py) * (y - py)) = 4 * ((fx - x) * (fx - px) + (fy - y) * (fy - py)) := by grind
  rw [z2] at this
  grind
/-- two ways that a line's numbers are square to are along one another -/
theorem par_of {a b : Int} {c : Int} {p q r s : Rat} (h : Ln a b c) (e1 : (a : Rat) * p + b * q = 0) (e2 : (a : Rat) * r + b * s = 0) : p * s = q * r := by
  have n := ratz (show a * a + b * b ≠ 0 by have := h.sq; omega)
  simp only [Rat.intCast_add, Rat.intCast_mul] at n
  have z : ((a : Rat) * a + b * b) * (p * s - q * r) = 0 := by
    have : ((a : Rat) * a + b * b) * (p * s - q * r) = ((a : Rat) * p + b * q) * (a * s - b * r) + ((a : Rat) * r + b * s) * (b * p - a * q) := by grind
    rw [this, e1, e2]
    grind
  rcases Rat.mul_eq_zero.mp z with z | z
  · exact absurd z n
  · grind
theorem r_twoK {K : PySem.W.Frag} {H : Hp} {Q : VK} {E : XK} {f v w : V} {l : Addr} {x y x' y' : Rat} (h1 : Pq K H v x y) (h2 : Pq K H w x' y') (s1 : Sz 8000 x) (s2 : Sz 8000 y) (s3 : Sz 8000 x') (s4 : Sz 8000 y') (cs : (Ct2 K H f l x y x' y' ∧ ¬ (x' < x ∨ (x' = x ∧ y' < y))) ∨ (Ct2 K H f l x' y' x y ∧ (x' < x ∨ (x' = x ∧ y' < y)))) (q : ∀ H', Same H H' → Q (.bl true) H') : spTwo K ([f, v, w] ++ []) H Q E := ⟨f, v, w, l, x, y, x', y', rfl, h1, h2, s1, s2, s3, s4, cs, q⟩
theorem r_touch {K : PySem.W.Frag} {H : Hp} {Q : VK} {E : XK} {v w u : V} {x y x' y' s : Rat} (h1 : Pq K H v x y) (h2 : Pq K H w x' y') (h3 : Cq K H u x y s) (s1 : Sz 8 x) (s2 : Sz 8 y) (s3 : Sz 8 x') (s4 : Sz 8 y') (s5 : Sz 211 s) (ne : ¬ (x = x' ∧ y = y')) (es : s = (x' - x) * (x' - x) + (y' - y) * (y' - y)) (q : ∀ H', Same H H' → Q (.bl true) H') : spTouching K ([v, w, u] ++ []) H Q E := ⟨v, w, u, x, y, x', y', s, rfl, h1, h2, h3, s1, s2, s3, s4, s5, ne, es, q⟩
end Mb
namespace Mb
open PySem L2
theorem r_seqP3 {i j l : Nat} {ta : TA} {u : TS} {D : Ends} {σ : St} {H : Hp} (q : ta σ H fun vs H1 => ∃ a b c, vs = [a, b, c] ∧ u D (((σ.set i (some a)).set j (some b)).set l (some c)) H1) : tSeq (tPar3 i j l ta) u D σ H := q
theorem r_par3 {a b c : V} {P : V → V → V → Prop} (q : P a b c) : ∃ a' b' c', [a, b, c] = [a', b', c'] ∧ P a' b' c' := ⟨a, b, c, rfl, q⟩
end Mb
namespace Mb
open PySem L2
def top (i : Nat) : Stmt := PySem.Challenge.pw_movebook_k24_whole_circles_meet.main.body.getD i (.Pass ⟨0, 0, 0, 0⟩)
abbrev s_common_divisor : Stmt := top 4
theorem sc_common_divisor : FnScope ["one", "other"] ["one", "other"] (defScope s_common_divisor) := ⟨rfl, rfl, rfl, by decide +kernel, rfl, by decide +kernel, by decide +kernel⟩
abbrev s_whole_root : Stmt := top 5
theorem sc_whole_root : FnScope ["number", "guess"] ["number"] (defScope s_whole_root) := ⟨rfl, rfl, rfl, by decide +kernel, rfl, by decide +kernel, by decide +kernel⟩
abbrev s_fraction : Stmt := top 7
theorem sc_fraction : FnScope ["top", "bottom", "divisor"] ["top", "bottom"] (defScope s_fraction) := ⟨rfl, rfl, rfl, by decide +kernel, rfl, by decide +kernel, by decide +kernel⟩
abbrev s_plus : Stmt := top 8
theorem sc_plus : FnScope ["one", "other"] ["one", "other"] (defScope s_plus) := ⟨rfl, rfl, rfl, by decide +kernel, rfl, by decide +kernel, by decide +kernel⟩
abbrev s_minus : Stmt := top 9
theorem sc_minus : FnScope ["one", "other"] ["one", "other"] (defScope s_minus) := ⟨rfl, rfl, rfl, by decide +kernel, rfl, by decide +kernel, by decide +kernel⟩
abbrev s_root : Stmt := top 10
theorem sc_root : FnScope ["one", "top", "bottom"] ["one"] (defScope s_root) := ⟨rfl, rfl, rfl, by decide +kernel, rfl, by decide +kernel, by decide +kernel⟩
abbrev s_middle : Stmt := top 12
theorem sc_middle : FnScope ["p", "q"] ["p", "q"] (defScope s_middle) := ⟨rfl, rfl, rfl, by decide +kernel, rfl, by decide +kernel, by decide +kernel⟩
abbrev s_share : Stmt := top 13
theorem sc_share : FnScope ["p", "q", "t"] ["p", "q", "t"] (defScope s_share) := ⟨rfl, rfl, rfl, by decide +kernel, rfl, by decide +kernel, by decide +kernel⟩
abbrev s_beyond : Stmt := top 14
theorem sc_beyond : FnScope ["p", "q"] ["p", "q"] (defScope s_beyond) := ⟨rfl, rfl, rfl, by decide +kernel, rfl, by decide +kernel, by decide +kernel⟩
abbrev s_turned : Stmt := top 15
theorem sc_turned : FnScope ["p", "q", "right", "up"] ["p", "q"] (defScope s_turned) := ⟨rfl, rfl, rfl, by decide +kernel, rfl, by decide +kernel, by decide +kernel⟩
abbrev s_between : Stmt := top 16
theorem sc_between : FnScope ["start", "end", "t", "first", "last"] ["start", "end", "t"] (defScope s_between) := ⟨rfl, rfl, rfl, by decide +kernel, rfl, by decide +kernel, by decide +kernel⟩
abbrev s_cleared : Stmt := top 17
theorem sc_cleared : FnScope ["p", "x", "x_bottom", "y", "y_bottom", "divisor"] ["p"] (defScope s_cleared) := ⟨rfl, rfl, rfl, by decide +kernel, rfl, by decide +kernel, by decide +kernel⟩
abbrev s_way : Stmt := top 18
theorem sc_way : FnScope ["p", "q", "x", "y", "w", "to_x", "to_y", "to_w"] ["p", "q"] (defScope s_way) := ⟨rfl, rfl, rfl, by decide +kernel, rfl, by decide +kernel, by decide +kernel⟩
abbrev s_through : Stmt := top 20
theorem sc_through : FnScope ["p", "q", "x", "y", "w", "to_x", "to_y", "to_w"] ["p", "q"] (defScope s_through) := ⟨rfl, rfl, rfl, by decide +kernel, rfl, by decide +kernel, by decide +kernel⟩
abbrev s_upright : Stmt := top 21
theorem sc_upright : FnScope ["p", "line"] ["p", "line"] (defScope s_upright) := ⟨rfl, rfl, rfl, by decide +kernel, rfl, by decide +kernel, by decide +kernel⟩
abbrev s_meet : Stmt := top 22
theorem sc_meet : FnScope ["line", "other", "a", "b", "c", "other_a", "other_b", "other_c", "apart"] ["line", "other"] (defScope s_meet) := ⟨rfl, rfl, rfl, by decide +kernel, rfl, by decide +kernel, by decide +kernel⟩
abbrev s_foot : Stmt := top 23
theorem sc_foot : FnScope ["p", "line"] ["p", "line"] (defScope s_foot) := ⟨rfl, rfl, rfl, by decide +kernel, rfl, by decide +kernel, by decide +kernel⟩
abbrev s_mirror : Stmt := top 24
theorem sc_mirror : FnScope ["p", "line"] ["p", "line"] (defScope s_mirror) := ⟨rfl, rfl, rfl, by decide +kernel, rfl, by decide +kernel, by decide +kernel⟩
abbrev s_line_at : Stmt := top 25
theorem sc_line_at : FnScope ["p", "a", "b", "x", "y", "w"] ["p", "a", "b"] (defScope s_line_at) := ⟨rfl, rfl, rfl, by decide +kernel, rfl, by decide +kernel, by decide +kernel⟩
abbrev s_one_form : Stmt := top 26
theorem sc_one_form : FnScope ["a", "b", "c", "divisor"] ["a", "b", "c"] (defScope s_one_form) := ⟨rfl, rfl, rfl, by decide +kernel, rfl, by decide +kernel, by decide +kernel⟩
abbrev s_about : Stmt := top 28
theorem sc_about : FnScope ["p", "q", "x", "y", "w"] ["p", "q"] (defScope s_about) := ⟨rfl, rfl, rfl, by decide +kernel, rfl, by decide +kernel, by decide +kernel⟩
abbrev s_line_cuts : Stmt := top 29
theorem sc_line_cuts : FnScope ["line", "ring", "a", "b", "c", "x", "y", "w", "top", "bottom", "short", "spare", "reach", "onward", "backward"] ["line", "ring"] (defScope s_line_cuts) := ⟨rfl, rfl, rfl, by decide +kernel, rfl, by decide +kernel, by decide +kernel⟩
abbrev s_ring_cuts : Stmt := top 30
theorem sc_ring_cuts : FnScope ["ring", "other"] ["ring", "other"] (defScope s_ring_cuts) := ⟨rfl, rfl, rfl, by decide +kernel, rfl, by decide +kernel, by decide +kernel⟩
abbrev s_reached : Stmt := top 31
theorem sc_reached : FnScope ["line", "centre", "short", "reach", "a", "b", "c", "x", "y", "w", "n", "top", "bottom", "right", "up"] ["line", "centre", "short", "reach"] (defScope s_reached) := ⟨rfl, rfl, rfl, by decide +kernel, rfl, by decide +kernel, by decide +kernel⟩
abbrev s_common_line : Stmt := top 32
theorem sc_common_line : FnScope ["ring", "other", "m", "g", "h", "k", "other_m", "other_g", "other_h", "other_k"] ["ring", "other"] (defScope s_common_line) := ⟨rfl, rfl, rfl, by decide +kernel, rfl, by decide +kernel, by decide +kernel⟩
abbrev s_equation : Stmt := top 33
theorem sc_equation : FnScope ["ring", "x", "y", "w", "top", "bottom"] ["ring"] (defScope s_equation) := ⟨rfl, rfl, rfl, by decide +kernel, rfl, by decide +kernel, by decide +kernel⟩
abbrev s_all_round : Stmt := top 35
theorem sc_all_round : FnScope ["p", "q", "r", "s", "x", "y", "far", "second_x", "second_y", "second_far", "third_x", "third_y", "third_far", "first", "second", "third"] ["p", "q", "r", "s"] (defScope s_all_round) := ⟨rfl, rfl, rfl, by decide +kernel, rfl, by decide +kernel, by decide +kernel⟩
abbrev s_as_far : Stmt := top 36
theorem sc_as_far : FnScope ["p", "q", "r", "s", "x", "y", "w", "other_x", "other_y", "other_w"] ["p", "q", "r", "s"] (defScope s_as_far) := ⟨rfl, rfl, rfl, by decide +kernel, rfl, by decide +kernel, by decide +kernel⟩
abbrev s_lifted : Stmt := top 37
theorem sc_lifted : FnScope ["p", "q", "x", "y", "w"] ["p", "q"] (defScope s_lifted) := ⟨rfl, rfl, rfl, by decide +kernel, rfl, by decide +kernel, by decide +kernel⟩
abbrev s_whole : Stmt := top 39
theorem sc_whole : FnScope ["_law_found"] ["_law_found"] (defScope s_whole) := ⟨rfl, rfl, rfl, by decide +kernel, rfl, by decide +kernel, by decide +kernel⟩
abbrev s_stream : Stmt := top 40
theorem sc_stream : FnScope ["_law_script", "_law_at", "_law_cell", "_law_rest", "_law_seed"] ["_law_script", "_law_at"] (defScope s_stream) := ⟨rfl, rfl, rfl, by decide +kernel, rfl, by decide +kernel, by decide +kernel⟩
abbrev s_take : Stmt := top 41
theorem sc_take : FnScope ["_law_stream_here", "_law_many", "_law_found", "_law_k", "_law_one", "_law_two_here"] ["_law_stream_here", "_law_many"] (defScope s_take) := ⟨rfl, rfl, rfl, by decide +kernel, rfl, by decide +kernel, by decide +kernel⟩
abbrev s_divisor : Stmt := top 42
theorem sc_divisor : FnScope ["_law_a", "_law_b"] ["_law_a", "_law_b"] (defScope s_divisor) := ⟨rfl, rfl, rfl, by decide +kernel, rfl, by decide +kernel, by decide +kernel⟩
abbrev s_lowest : Stmt := top 43
theorem sc_lowest : FnScope ["_law_pair", "_law_size"] ["_law_pair"] (defScope s_lowest) := ⟨rfl, rfl, rfl, by decide +kernel, rfl, by decide +kernel, by decide +kernel⟩
abbrev s_l_minus : Stmt := top 44
theorem sc_l_minus : FnScope ["_law_f", "_law_g"] ["_law_f", "_law_g"] (defScope s_l_minus) := ⟨rfl, rfl, rfl, by decide +kernel, rfl, by decide +kernel, by decide +kernel⟩
abbrev s_is_fraction : Stmt := top 45
theorem sc_is_fraction : FnScope ["_law_found"] ["_law_found"] (defScope s_is_fraction) := ⟨rfl, rfl, rfl, by decide +kernel, rfl, by decide +kernel, by decide +kernel⟩
abbrev s_is_place : Stmt := top 46
theorem sc_is_place : FnScope ["_law_found"] ["_law_found"] (defScope s_is_place) := ⟨rfl, rfl, rfl, by decide +kernel, rfl, by decide +kernel, by decide +kernel⟩
abbrev s_ahead : Stmt := top 47
theorem sc_ahead : FnScope ["_law_p", "_law_q", "_law_x"] ["_law_p", "_law_q"] (defScope s_ahead) := ⟨rfl, rfl, rfl, by decide +kernel, rfl, by decide +kernel, by decide +kernel⟩
abbrev s_small : Stmt := top 48
theorem sc_small : FnScope ["_law_stream_here", "_law_whole_here", "_law_top"] ["_law_stream_here"] (defScope s_small) := ⟨rfl, rfl, rfl, by decide +kernel, rfl, by decide +kernel, by decide +kernel⟩
abbrev s_small_place : Stmt := top 49
theorem sc_small_place : FnScope ["_law_stream_here"] ["_law_stream_here"] (defScope s_small_place) := ⟨rfl, rfl, rfl, by decide +kernel, rfl, by decide +kernel, by decide +kernel⟩
abbrev s_small_near : Stmt := top 50
theorem sc_small_near : FnScope ["_law_stream_here", "_law_p", "_law_at", "_law_found"] ["_law_stream_here", "_law_p"] (defScope s_small_near) := ⟨rfl, rfl, rfl, by decide +kernel, rfl, by decide +kernel, by decide +kernel⟩
abbrev s_l_in_order : Stmt := top 51
theorem sc_l_in_order : FnScope ["_law_p", "_law_q"] ["_law_p", "_law_q"] (defScope s_l_in_order) := ⟨rfl, rfl, rfl, by decide +kernel, rfl, by decide +kernel, by decide +kernel⟩
abbrev s_is : Stmt := top 52
theorem sc_is : FnScope ["_law_found", "_law_due"] ["_law_found", "_law_due"] (defScope s_is) := ⟨rfl, rfl, rfl, by decide +kernel, rfl, by decide +kernel, by decide +kernel⟩
abbrev s_two : Stmt := top 53
theorem sc_two : FnScope ["_law_found", "_law_p", "_law_q"] ["_law_found", "_law_p", "_law_q"] (defScope s_two) := ⟨rfl, rfl, rfl, by decide +kernel, rfl, by decide +kernel, by decide +kernel⟩
abbrev s_touching : Stmt := top 54
theorem sc_touching : FnScope ["_law_p", "_law_q", "_law_ring", "_law_way"] ["_law_p", "_law_q", "_law_ring"] (defScope s_touching) := ⟨rfl, rfl, rfl, by decide +kernel, rfl, by decide +kernel, by decide +kernel⟩
abbrev s_law : Stmt := top 55
theorem sc_law : FnScope ["_law_script", "_law_p", "_law_q", "_law_r", "_law_ring", "_law_line", "_law_one", "_law_spots", "_law_other", "_law_two_here", "_law_spot"] ["_law_script"] (defScope s_law) := ⟨rfl, rfl, rfl, by decide +kernel, rfl, by decide +kernel, by decide +kernel⟩
/-! ### the steps of a reading, taken by a word of one's own -/
local macro_rules | `(tactic| walk_at "sm") => `(tactic| first
  | assumption
  | ((with_reducible refine Mb.Sm.mul (m := ?mm) (n := ?nn) ?ga ?gb); (case ga => walk_at "sm"); (case gb => walk_at "sm"))
  | ((with_reducible refine Mb.Sm.addm (m := ?mm) (n := ?nn) ?ga ?gb); (case ga => walk_at "sm"); (case gb => walk_at "sm"))
  | ((with_reducible refine Mb.Sm.subm (m := ?mm) (n := ?nn) ?ga ?gb); (case ga => walk_at "sm"); (case gb => walk_at "sm"))
  | ((with_reducible refine Mb.Sm.neg (n := ?nn) ?ga); (case ga => walk_at "sm"))
  | exact Mb.Sm.lit (by decide)
  | exact Mb.Sm.lit2 (by decide +kernel))
local macro_rules | `(tactic| walk_at "c") => `(tactic| first
  | assumption
  | exact ⟨by decide, by decide, by decide⟩
  | (show (0 : Int) < _; omega)
  | exact Mb.Sm.cdiv (n := 64) (by decide) (by decide)
  | exact Mb.Sm.cmul (by walk_at "sm") (by walk_at "sm"))
local macro_rules | `(tactic| walk_at "st") => `(tactic| first
  | ((with_reducible refine Mb.r_var (v := ?vv) ?hv ?_); (case hv => rfl))
  | with_reducible refine Mb.r_c ?_
  | with_reducible refine Mb.r_op ?_
  | with_reducible refine Mb.r_un ?_
  | with_reducible refine Mb.r_i0 ?_
  | with_reducible refine Mb.r_u ?_
  | with_reducible refine Mb.r_eqI ?_
  | with_reducible refine Mb.r_neI ?_
  | with_reducible refine Mb.r_eqB ?_
  | with_reducible refine Mb.r_eqS ?_
  | with_reducible refine Mb.r_cb ?_
  | with_reducible refine Mb.r_bits ?_
  | with_reducible refine Mb.r_int ?_
  | with_reducible refine Mb.r_nil ?_
  | with_reducible refine Mb.r_cons ?_
  | with_reducible refine Mb.r_tup ?_
  | with_reducible refine Mb.r_lst ?_
  | with_reducible refine Mb.r_call ?_
  | with_reducible refine Mb.r_seqA ?_
  | with_reducible refine Mb.r_seqD ?_
  | with_reducible refine Mb.r_seqP ?_
  | with_reducible refine Mb.r_next ?_
  | with_reducible refine Mb.r_nx ?_
  | with_reducible refine Mb.r_asg ?_
  | ((with_reducible refine Mb.r_gname ?_); dsimp only [List.set])
  | with_reducible refine Mb.r_gsub ?_
  | with_reducible refine Mb.r_ret ?_
  | with_reducible refine Mb.r_drop ?_
  | with_reducible refine Mb.r_ifs ?_
  | with_reducible refine Mb.r_test ?_
  | with_reducible refine Mb.r_tB ?_
  | with_reducible refine Mb.r_bl ?_
  | (dsimp only; (with_reducible refine Mb.r_bl ?_))
  | with_reducible refine Mb.r_and ?_
  | with_reducible refine Mb.r_or ?_
  | with_reducible refine Mb.r_not ?_
  | with_reducible refine Mb.r_andV ?_
  | with_reducible refine Mb.r_orV ?_
  | with_reducible refine Mb.r_notV ?_
  | with_reducible refine Mb.r_par ?_
  | ((with_reducible refine Mb.r_two ?_); dsimp only [List.set])
  | ((with_reducible refine Mb.r_ixL (xs := ?xx) (v := ?vv) ?h1 ?h2 ?_); (case h1 => first | assumption | exact Mb.lstOf (by assumption)); (case h2 => rfl))
  | ((with_reducible refine Mb.r_ixT (xs := ?xx) (v := ?vv) ?h1 ?h2 ?_); (case h1 => first | assumption | exact Mb.tupOf (by assumption)); (case h2 => rfl))
  | ((with_reducible refine Mb.r_i ?c ?_); (case c => walk_at "c"))
  | with_reducible refine Mb.r_T ?_
  | with_reducible refine Mb.r_F ?_
  | with_reducible refine Mb.r_nT ?_
  | with_reducible refine Mb.r_nF ?_)
local macro_rules | `(tactic| walk_at "sr") => `(tactic| first
  | assumption
  | ((with_reducible refine Mb.Sr.same (H := ?HH) ?ga ?gb); (case gb => assumption); (case ga => walk_at "sr"))
  | ((with_reducible refine Mb.Sr.but (H := ?HH) (q := ?qq) ?ga ?gn ?gb); (case gb => assumption); (case gn => first | assumption | ((refine Mb.Sr.ne2 (H := ?HN) (b := ?bn) ?gx ?gy); (case gy => assumption); (case gx => walk_at "sr"))); (case ga => walk_at "sr")))
local macro_rules | `(tactic| walk_at "wipe") => `(tactic| repeat first
  | ((with_reducible rename Mb.Fq _ _ _ _ => hz); clear hz)
  | ((with_reducible rename Mb.Pq _ _ _ _ _ => hz); clear hz)
  | ((with_reducible rename Mb.Rq _ _ _ _ _ => hz); clear hz)
  | ((with_reducible rename Mb.Sz _ _ => hz); clear hz)
  | ((with_reducible rename L2.Same _ _ => hz); clear hz)
  | ((with_reducible rename Mb.But _ _ _ => hz); clear hz)
  | ((with_reducible rename Mb.Sr _ _ _ => hz); clear hz)
  | ((with_reducible rename Mb.Kn _ _ _ _ _ _ _ _ _ => hz); clear hz)
  | ((with_reducible rename L2.SqL _ _ _ _ => hz); clear hz)
  | ((with_reducible rename L2.Room _ _ => hz); clear hz))
local macro_rules | `(tactic| walk_at "sz") => `(tactic| first
  | assumption
  | ((with_reducible refine Mb.Sz.add (m := ?mm) (n := ?nn) ?ga ?gb); (case ga => walk_at "sz"); (case gb => walk_at "sz"))
  | ((with_reducible refine Mb.Sz.sub (m := ?mm) (n := ?nn) ?ga ?gb); (case ga => walk_at "sz"); (case gb => walk_at "sz"))
  | ((with_reducible refine Mb.Sz.mul (m := ?mm) (n := ?nn) ?ga ?gb); (case ga => walk_at "sz"); (case gb => walk_at "sz"))
  | ((with_reducible refine Mb.Sz.div (m := ?mm) (n := ?nn) ?ga ?gb ?gc); (case ga => walk_at "sz"); (case gb => walk_at "sz"); (case gc => first | assumption | decide))
  | ((with_reducible refine Mb.Sz.neg (m := ?mm) ?ga); (case ga => walk_at "sz"))
  | exact Mb.Sz.int (by walk_at "sm") (by decide)
  | (refine Mb.Sz.lit ?_ ?_ <;> decide))
local macro_rules | `(tactic| walk_at "fq") => `(tactic| first
  | assumption
  | ((with_reducible refine Mb.Fq.int (t := ?ti) ?ga); (case ga => assumption))
  | ((with_reducible refine Mb.Pq.mk (f := ?ff) (g := ?gg) ?ga ?gb ?gc); (case ga => assumption); (case gb => walk_at "fq"); (case gc => walk_at "fq"))
  | ((with_reducible refine Mb.Fq.rq (n := ?nn) ?ga ?gb); (case ga => walk_at "fq"); (case gb => walk_at "sz"))
  | ((with_reducible refine Mb.Rq.of2 (t := ?tt) (b := ?bb) (n := ?nn) (m := ?mm) ?ga ?gn ?gc ?gd); (case ga => assumption); (case gn => first | assumption | decide); (case gc => walk_at "sm"); (case gd => walk_at "sm"))
  | ((with_reducible refine Mb.Fq.up (H := ?HH) ?ga ?gb); (case gb => assumption); (case ga => walk_at "fq"))
  | ((with_reducible refine Mb.Pq.up (H := ?HH) ?ga ?gb); (case gb => assumption); (case ga => walk_at "fq"))
  | ((with_reducible refine Mb.Rq.up (H := ?HH) ?ga ?gb); (case gb => assumption); (case ga => walk_at "fq"))
  | ((with_reducible refine Mb.Fq.upB (H := ?HH) (p := ?pp) (b := ?bb) ?ga ?gb ?gc); (case gb => assumption); (case gc => walk_at "sr"); (case ga => walk_at "fq"))
  | ((with_reducible refine Mb.Pq.upB (H := ?HH) (p := ?pp) (b := ?bb) ?ga ?gb ?gc); (case gb => assumption); (case gc => walk_at "sr"); (case ga => walk_at "fq"))
  | ((with_reducible refine Mb.Rq.upB (H := ?HH) (p := ?pp) (b := ?bb) ?ga ?gb ?gc); (case gb => assumption); (case gc => walk_at "sr"); (case ga => walk_at "fq")))
local macro_rules | `(tactic| walk_at "free") => `(tactic| first
  | assumption
  | ((with_reducible refine L2.Same.free (H' := ?HH) ?ga ?gb); (case gb => assumption); (case ga => walk_at "same")))
local macro_rules | `(tactic| walk_at "same") => `(tactic| first
  | assumption
  | exact fun _ _ h => h
  | ((with_reducible refine L2.Same.trans (H1 := ?BB) ?ga ?gb); (case gb => assumption); (case ga => walk_at "same"))
  | ((with_reducible refine Mb.same_but (H := ?BB) (p := ?pp) ?ga ?gn ?gb); (case gb => assumption); (case gn => walk_at "free"); (case ga => walk_at "same")))
local macro_rules | `(tactic| walk_at "scr") => `(tactic| first
  | assumption
  | ((with_reducible refine L2.Same.seq (H := ?HH) ?ga ?gb); (case gb => assumption); (case ga => walk_at "same")))
local macro_rules | `(tactic| walk_at "q") => `(tactic| first
  | with_reducible refine Mb.r_tup2 ?_
  | with_reducible refine Mb.r_lst2 ?_
  | walk_at "st"
  | ((with_reducible refine Mb.r_newT ?l ?_); (case l => rfl); intro _ _ _ _ _)
  | ((with_reducible refine Mb.r_newL ?l ?_); (case l => rfl); intro _ _ _ _ _)
  | ((with_reducible refine Mb.r_ixF0 (q := ?qq) ?h ?_); (case h => walk_at "fq"))
  | ((with_reducible refine Mb.r_ixF1 (q := ?qq) ?h ?_); (case h => walk_at "fq"))
  | ((with_reducible refine Mb.r_ixP0 (x := ?xx) (y := ?yy) ?h ?_); (case h => walk_at "fq"); intro _ _)
  | ((with_reducible refine Mb.r_ixP1 (x := ?xx) (y := ?yy) ?h ?_); (case h => walk_at "fq"); intro _ _)
  | ((with_reducible refine Mb.r_q2 (p := ?pp) (q := ?qq) (n := ?nn) (m := ?mm) ?h1 ?h2 ?s1 ?s2 ?l1 ?pr ?_); (case h1 => walk_at "fq"); (case h2 => walk_at "fq"); (case s1 => walk_at "sz"); (case s2 => walk_at "sz"); (case l1 => rfl); (case pr => first | trivial | assumption | (show ¬ _; decide)); intro _ _ _ _)
  | ((with_reducible refine Mb.r_r2 (p := ?pp) (q := ?qq) (n := ?nn) (m := ?mm) ?h1 ?h2 ?l1 ?l2 ?_); (case h1 => walk_at "fq"); (case h2 => walk_at "fq"); (case l1 => rfl); (case l2 => rfl); intro _ _ _ _)
  | ((with_reducible refine Mb.r_s2 (p := ?pp) (q := ?qq) (n := ?nn) (m := ?mm) ?h1 ?h2 ?l1 ?l2 ?_); (case h1 => walk_at "fq"); (case h2 => walk_at "fq"); (case l1 => rfl); (case l2 => rfl))
  | ((with_reducible refine Mb.r_p2 (x := ?xx) (y := ?yy) (x' := ?xx2) (y' := ?yy2) (n := ?nn) (n2 := ?nn2) (m := ?mm) (m2 := ?mm2) ?h1 ?h2 ?s1 ?s2 ?s3 ?s4 ?l ?_); (case h1 => walk_at "fq"); (case h2 => walk_at "fq"); (case s1 => walk_at "sz"); (case s2 => walk_at "sz"); (case s3 => walk_at "sz"); (case s4 => walk_at "sz"); (case l => rfl); intro _ _ _ _)
  | ((with_reducible refine Mb.r_stream (ns := ?nn) ?hS ?hl ?i0 ?i1 ?_); (case hS => walk_at "scr"); (case hl => assumption); (case i0 => decide); (case i1 => decide); intro _ _ _ _ _)
  | ((with_reducible refine Mb.r_placeQ (b := ?bb) (m := 211) ?hp ?l ?k0 ?k1 ?hm ?_); (case hm => decide); (case hp => walk_at "sr"); (case l => decide); (case k0 => decide); (case k1 => decide); intro _ _ _ _ _ _ _ _ _)
  | ((with_reducible refine Mb.r_placeQ (b := ?bb) (m := 31) ?hp ?l ?k0 ?k1 ?hm ?_); (case hm => decide); (case hp => walk_at "sr"); (case l => decide); (case k0 => decide); (case k1 => decide); intro _ _ _ _ _ _ _ _ _)
  | ((with_reducible refine Mb.r_placeQ (b := ?bb) (m := 11) ?hp ?l ?k0 ?k1 ?hm ?_); (case hm => decide); (case hp => walk_at "sr"); (case l => decide); (case k0 => decide); (case k1 => decide); intro _ _ _ _ _ _ _ _ _)
  | ((with_reducible refine Mb.r_nearQ (b := ?bb) (m := 211) (x := ?xx) (y := ?yy) ?hp ?l ?k0 ?k1 ?hm ?hw ?sx ?sy ?_); (case hm => decide); (case hp => walk_at "sr"); (case hw => walk_at "fq"); (case sx => assumption); (case sy => assumption); (case l => decide); (case k0 => decide); (case k1 => decide); intro _ _ _ _ _ _ _ _ _)
  | ((with_reducible refine Mb.r_nearQ (b := ?bb) (m := 31) (x := ?xx) (y := ?yy) ?hp ?l ?k0 ?k1 ?hm ?hw ?sx ?sy ?_); (case hm => decide); (case hp => walk_at "sr"); (case hw => walk_at "fq"); (case sx => assumption); (case sy => assumption); (case l => decide); (case k0 => decide); (case k1 => decide); intro _ _ _ _ _ _ _ _ _)
  | ((with_reducible refine Mb.r_nearQ (b := ?bb) (m := 11) (x := ?xx) (y := ?yy) ?hp ?l ?k0 ?k1 ?hm ?hw ?sx ?sy ?_); (case hm => decide); (case hp => walk_at "sr"); (case hw => walk_at "fq"); (case sx => assumption); (case sy => assumption); (case l => decide); (case k0 => decide); (case k1 => decide); intro _ _ _ _ _ _ _ _ _)
  | ((with_reducible refine Mb.r_isP (x := ?xx) (y := ?yy) ?h ?_); (case h => walk_at "fq"))
  | ((with_reducible refine Mb.r_shared (x0 := ?aa) (y0 := ?bb) (x := ?xx) (y := ?yy) (x' := ?xx2) (y' := ?yy2) (t := ?tt) (n := ?nn) (n2 := ?nn2) ?h0 ?h1 ?h2 ?h3 ?s0 ?s1 ?l ?s2 ?s3 ?s4 ?s5 ?e1 ?e2 ?_); (case h0 => walk_at "fq"); (case h1 => walk_at "fq"); (case h2 => walk_at "fq"); (case h3 => walk_at "fq"); (case s0 => walk_at "sz"); (case s1 => walk_at "sz"); (case l => rfl); (case s2 => assumption); (case s3 => assumption); (case s4 => assumption); (case s5 => assumption); (case e1 => rfl); (case e2 => rfl); intro _ _)
  | ((with_reducible refine Mb.r_takeS (b := ?bb) ?hp ?l ?k0 ?k1 ?_); (case hp => walk_at "sr"); (case l => decide); (case k0 => decide); (case k1 => decide); intro _ _ _ _ _ _)
  | ((with_reducible refine Mb.r_fracQ (b := ?bb) (m := 211) ?hp ?l ?k0 ?k1 ?hm ?_); (case hm => decide); (case hp => walk_at "sr"); (case l => decide); (case k0 => decide); (case k1 => decide); intro _ _ _ _ _ _ _)
  | ((with_reducible refine Mb.r_fracQ (b := ?bb) (m := 31) ?hp ?l ?k0 ?k1 ?hm ?_); (case hm => decide); (case hp => walk_at "sr"); (case l => decide); (case k0 => decide); (case k1 => decide); intro _ _ _ _ _ _ _)
  | ((with_reducible refine Mb.r_fracQ (b := ?bb) (m := 11) ?hp ?l ?k0 ?k1 ?hm ?_); (case hm => decide); (case hp => walk_at "sr"); (case l => decide); (case k0 => decide); (case k1 => decide); intro _ _ _ _ _ _ _)
  | ((with_reducible refine Mb.r_share (x := ?xx) (y := ?yy) (x' := ?xx2) (y' := ?yy2) (t := ?tt) (n := ?nn) (n2 := ?nn2) (m := ?mm) (m2 := ?mm2) (k := ?kk) ?h1 ?h2 ?h3 ?s1 ?s2 ?s3 ?s4 ?s5 ?l ?l2 ?_); (case h1 => walk_at "fq"); (case h2 => walk_at "fq"); (case h3 => walk_at "fq"); (case s1 => walk_at "sz"); (case s2 => walk_at "sz"); (case s3 => walk_at "sz"); (case s4 => walk_at "sz"); (case s5 => walk_at "sz"); (case l => rfl); (case l2 => rfl); intro _ _ _ _))
local macro_rules | `(tactic| walk_at "eqp") => `(tactic| first
  | ((refine Mb.r_neP (x := ?xx) (y := ?yy) (x' := ?xx2) (y' := ?yy2) ?h1 ?h2 ?e ?_); (case h1 => walk_at "fq"); (case h2 => walk_at "fq"); (case e => (walk_at "wipe"; constructor <;> grind)))
  | ((refine Mb.r_eqP (x := ?xx) (y := ?yy) (x' := ?xx2) (y' := ?yy2) ?h1 ?h2 ?e ?_); (case h1 => walk_at "fq"); (case h2 => walk_at "fq"); (case e => (walk_at "wipe"; constructor <;> grind)))
  | ((refine Mb.r_eqQ (p := ?xx) (q := ?yy) ?h1 ?h2 ?e ?_); (case h1 => walk_at "fq"); (case h2 => walk_at "fq"); (case e => (walk_at "wipe"; grind))))
local macro_rules | `(tactic| walk_at "fin") => `(tactic| first
  | ((refine Mb.Pq.cast (x := ?xx) (y := ?yy) ?h ?ex ?ey); (case h => walk_at "fq"); (case ex => first | rfl | (walk_at "wipe"; grind)); (case ey => first | rfl | (walk_at "wipe"; grind)))
  | ((refine Mb.Fq.cast (x := ?xx) ?h ?ex); (case h => walk_at "fq"); (case ex => first | rfl | (walk_at "wipe"; grind))))
local macro_rules | `(tactic| walk_at "no") => `(tactic| first
  | ((with_reducible refine Mb.r_noN ?h ?_); (case h => (walk_at "wipe"; grind)))
  | ((with_reducible refine Mb.r_no ?h ?_); (case h => (walk_at "wipe"; grind)))
  | ((with_reducible refine Mb.r_yes ?h ?_); (case h => (walk_at "wipe"; grind))))
local macro_rules | `(tactic| walk_at "ql") => `(tactic| first
  | walk_at "q"
  | ((with_reducible refine Mb.r_lowQ (q := ?qq) (n := ?nn) ?h ?l ?_); (case h => walk_at "fq"); (case l => rfl); intro _ _ _ _))
local macro_rules | `(tactic| walk_at "lq") => `(tactic| first
  | assumption
  | ((with_reducible refine Mb.Lq.mk ?ga); (case ga => assumption))
  | ((with_reducible refine Mb.Lq.up (H := ?HH) ?ga ?gb); (case gb => assumption); (case ga => walk_at "lq"))
  | ((with_reducible refine Mb.Lq.upB (H := ?HH) (p := ?pp) (n := ?nn) ?ga ?gb ?gc); (case gb => assumption); (case gc => walk_at "sr"); (case ga => walk_at "lq")))
local macro_rules | `(tactic| walk_at "g") => `(tactic| first
  | walk_at "q"
  | with_reducible refine Mb.r_gcons ?_
  | with_reducible refine Mb.r_gnil ?_
  | ((with_reducible refine Mb.r_gL (a := ?aa) (b := ?bb) (c := ?cc) ?h ?l ?_); (case l => rfl); (case h => walk_at "lq"))
  | ((with_reducible refine Mb.r_gF (x := ?xx) ?h ?l ?_); (case l => rfl); (case h => walk_at "fq"))
  | ((with_reducible refine Mb.r_gP (x := ?xx) (y := ?yy) ?h ?l ?_); (case l => rfl); (case h => walk_at "fq"); intro _ _ _ _)
  | ((with_reducible refine Mb.r_ixL0 (a := ?aa) (b := ?bb) (c := ?cc) ?h ?_); (case h => walk_at "lq"))
  | ((with_reducible refine Mb.r_ixL1 (a := ?aa) (b := ?bb) (c := ?cc) ?h ?_); (case h => walk_at "lq"))
  | ((with_reducible refine Mb.r_ixL2 (a := ?aa) (b := ?bb) (c := ?cc) ?h ?_); (case h => walk_at "lq"))
  | ((with_reducible refine Mb.r_cleared (x := ?xx) (y := ?yy) (n := ?nn) (m := ?mm) ?h ?s1 ?s2 ?l ?_); (case h => walk_at "fq"); (case s1 => walk_at "sz"); (case s2 => walk_at "sz"); (case l => rfl); intro _ _ _ _ _ _ _ _ _ _ _ _ _)
  | ((with_reducible refine Mb.r_wayI (x := ?xx) (y := ?yy) (x' := ?xx2) (y' := ?yy2) (n := ?nn) (n2 := ?nn2) (m := ?mm) (m2 := ?mm2) ?h1 ?h2 ?s1 ?s2 ?s3 ?s4 ?l1 ?l2 ?_); (case h1 => walk_at "fq"); (case h2 => walk_at "fq"); (case s1 => walk_at "sz"); (case s2 => walk_at "sz"); (case s3 => walk_at "sz"); (case s4 => walk_at "sz"); (case l1 => rfl); (case l2 => rfl); intro _ _ _ _ _ _ _ _ _ _ _ _ _)
  | with_reducible refine Mb.r_isNN ?_
  | with_reducible refine Mb.r_notNN ?_
  | with_reducible refine Mb.r_eqN ?_
  | with_reducible refine Mb.r_neN ?_)
local macro_rules | `(tactic| walk_at "lo") => `(tactic| first
  | assumption
  | ((with_reducible refine Mb.Lo.up (H := ?HH) ?ga ?gb); (case gb => assumption); (case ga => walk_at "lo"))
  | ((with_reducible refine Mb.Lo.upB (H := ?HH) (p := ?pp) (n := ?nn) ?ga ?gb ?gc); (case gb => assumption); (case gc => walk_at "sr"); (case ga => walk_at "lo")))
local macro_rules | `(tactic| walk_at "po") => `(tactic| first
  | assumption
  | ((with_reducible refine Mb.Po.up (H := ?HH) ?ga ?gb); (case gb => assumption); (case ga => walk_at "po"))
  | ((with_reducible refine Mb.Po.upB (H := ?HH) (p := ?pp) (n := ?nn) ?ga ?gb ?gc); (case gb => assumption); (case gc => walk_at "sr"); (case ga => walk_at "po")))
local macro_rules | `(tactic| walk_at "w") => `(tactic| first
  | walk_at "g"
  | ((with_reducible refine Mb.r_lowQ (q := ?qq) (n := ?nn) ?h ?l ?_); (case h => walk_at "fq"); (case l => rfl); intro _ _ _ _)
  | ((with_reducible refine Mb.r_thruO (x := ?xx) (y := ?yy) (x' := ?xx2) (y' := ?yy2) (n := ?nn) (n2 := ?nn2) (m := ?mm) (m2 := ?mm2) ?h1 ?h2 ?s1 ?s2 ?s3 ?s4 ?l ?_); (case h1 => walk_at "fq"); (case h2 => walk_at "fq"); (case s1 => walk_at "sz"); (case s2 => walk_at "sz"); (case s3 => walk_at "sz"); (case s4 => walk_at "sz"); (case l => rfl); intro _ _ _ _ _)
  | ((with_reducible refine Mb.r_meetO (a := ?aa) (b := ?bb) (c := ?cc) (a' := ?aa2) (b' := ?bb2) (c' := ?cc2) (n := ?nn) (n2 := ?nn2) (n3 := ?nn3) (m := ?mm) (m2 := ?mm2) (m3 := ?mm3) ?h1 ?h2 ?s1 ?s2 ?s3 ?s4 ?s5 ?s6 ?l ?_); (case h1 => walk_at "lq"); (case h2 => walk_at "lq"); (case s1 => walk_at "sm"); (case s2 => walk_at "sm"); (case s3 => walk_at "sm"); (case s4 => walk_at "sm"); (case s5 => walk_at "sm"); (case s6 => walk_at "sm"); (case l => rfl); intro _ _ _ _ _)
  | ((with_reducible refine Mb.r_along (x := ?xx) (y := ?yy) (a := ?aa) (b := ?bb) (c := ?cc) (n := ?nn) (n2 := ?nn2) (k := ?kk) (k2 := ?kk2) ?h1 ?h2 ?hl ?s1 ?s2 ?s3 ?s4 ?l ?_); (case h1 => walk_at "fq"); (case h2 => walk_at "lq"); (case hl => assumption); (case s1 => walk_at "sz"); (case s2 => walk_at "sz"); (case s3 => walk_at "sm"); (case s4 => walk_at "sm"); (case l => rfl); intro _ _ _ _ _ _ _ _ _ _ _ _ _)
  | ((with_reducible refine Mb.r_foot (x := ?xx) (y := ?yy) (a := ?aa) (b := ?bb) (c := ?cc) (n := ?nn) (n2 := ?nn2) (k := ?kk) (k2 := ?kk2) (k3 := ?kk3) ?h1 ?h2 ?hl ?s1 ?s2 ?s3 ?s4 ?s5 ?l ?_); (case h1 => walk_at "fq"); (case h2 => walk_at "lq"); (case hl => assumption); (case s1 => walk_at "sz"); (case s2 => walk_at "sz"); (case s3 => walk_at "sm"); (case s4 => walk_at "sm"); (case s5 => walk_at "sm"); (case l => rfl); intro _ _ _ _ _ _ _ _ _ _)
  | ((with_reducible refine Mb.r_mirror (x := ?xx) (y := ?yy) (a := ?aa) (b := ?bb) (c := ?cc) (n := ?nn) (n2 := ?nn2) (k := ?kk) (k2 := ?kk2) (k3 := ?kk3) ?h1 ?h2 ?hl ?s1 ?s2 ?s3 ?s4 ?s5 ?l ?_); (case h1 => walk_at "fq"); (case h2 => walk_at "lq"); (case hl => assumption); (case s1 => walk_at "sz"); (case s2 => walk_at "sz"); (case s3 => walk_at "sm"); (case s4 => walk_at "sm"); (case s5 => walk_at "sm"); (case l => rfl); intro _ _ _ _ _ _ _ _ _ _)
  | ((with_reducible refine Mb.r_onT (a := ?aa) (b := ?bb) (c := ?cc) (x := ?xx) (y := ?yy) (n1 := ?n1) (n2 := ?n2) (n3 := ?n3) (n4 := ?n4) (n5 := ?n5) ?h1 ?h2 ?s1 ?s2 ?s3 ?s4 ?s5 ?l ?e ?_); (case h1 => walk_at "lq"); (case h2 => walk_at "fq"); (case s1 => walk_at "sm"); (case s2 => walk_at "sm"); (case s3 => walk_at "sm"); (case s4 => walk_at "sz"); (case s5 => walk_at "sz"); (case l => rfl); (case e => first | assumption | (walk_at "wipe"; grind)))
  | ((with_reducible refine Mb.r_isLn (a := ?aa) (b := ?bb) (c := ?cc) ?h1 ?hl ?_); (case h1 => walk_at "lq"); (case hl => assumption))
  | ((with_reducible refine Mb.r_isNLq (a := ?aa) (b := ?bb) (c := ?cc) ?h ?_); (case h => walk_at "lq"))
  | ((with_reducible refine Mb.r_notNLq (a := ?aa) (b := ?bb) (c := ?cc) ?h ?_); (case h => walk_at "lq"))
  | ((with_reducible refine Mb.r_isNPq (x := ?xx) (y := ?yy) ?h ?_); (case h => walk_at "fq"))
  | ((with_reducible refine Mb.r_notNPq (x := ?xx) (y := ?yy) ?h ?_); (case h => walk_at "fq"))
  | ((with_reducible refine Mb.r_way (x := ?xx) (y := ?yy) (x' := ?xx2) (y' := ?yy2) (t := ?tt) (n1 := ?n1) (n2 := ?n2) (n3 := ?n3) (n4 := ?n4) (n5 := ?n5) ?h1 ?h2 ?h3 ?s1 ?s2 ?s3 ?s4 ?s5 ?l ?_); (case h1 => walk_at "fq"); (case h2 => walk_at "fq"); (case h3 => walk_at "fq"); (case s1 => walk_at "sz"); (case s2 => walk_at "sz"); (case s3 => walk_at "sz"); (case s4 => walk_at "sz"); (case s5 => walk_at "sz"); (case l => rfl); intro _ _ _ _)
  | ((with_reducible refine Mb.r_lineQ (n := ?nn) (m := 210) ?hp ?l ?k0 ?k1 ?hm ?_); (case hm => decide); (case hp => walk_at "sr"); (case l => decide); (case k0 => decide); (case k1 => decide); intro _ _ _ _ _ _ _ _ _ _ _ _)
  | ((with_reducible refine Mb.r_lineQ (n := ?nn) (m := 30) ?hp ?l ?k0 ?k1 ?hm ?_); (case hm => decide); (case hp => walk_at "sr"); (case l => decide); (case k0 => decide); (case k1 => decide); intro _ _ _ _ _ _ _ _ _ _ _ _)
  | ((with_reducible refine Mb.r_lineQ (n := ?nn) (m := 10) ?hp ?l ?k0 ?k1 ?hm ?_); (case hm => decide); (case hp => walk_at "sr"); (case l => decide); (case k0 => decide); (case k1 => decide); intro _ _ _ _ _ _ _ _ _ _ _ _)
  | ((with_reducible refine Mb.r_spot (a := ?aa) (b := ?bb) (c := ?cc) (t := ?tt) ?h1 ?hl ?h2 ?s1 ?s2 ?s3 ?s4 ?_); (case h1 => walk_at "lq"); (case hl => assumption); (case h2 => walk_at "fq"); (case s1 => assumption); (case s2 => assumption); (case s3 => assumption); (case s4 => assumption); intro _ _ _ _ _ _ _ _ _)
  | ((with_reducible refine Mb.r_good (x := ?xx) (y := ?yy) (a := ?aa) (b := ?bb) (c := ?cc) (n := ?nn) (n2 := ?nn2) (k := ?kk) (k2 := ?kk2) (k3 := ?kk3) ?h1 ?h2 ?hl ?s1 ?s2 ?s3 ?s4 ?s5 ?l ?l2 ?_); (case h1 => walk_at "fq"); (case h2 => walk_at "lq"); (case hl => assumption); (case s1 => walk_at "sz"); (case s2 => walk_at "sz"); (case s3 => walk_at "sm"); (case s4 => walk_at "sm"); (case s5 => walk_at "sm"); (case l => rfl); (case l2 => rfl); intro _ _)
  | ((with_reducible refine Mb.r_other (n := ?nn) (a := ?aa) (b := ?bb) (c := ?cc) ?hp ?l ?h ?hl ?s1 ?s2 ?s3 ?_); (case hp => walk_at "sr"); (case l => decide); (case h => walk_at "lq"); (case hl => assumption); (case s1 => assumption); (case s2 => assumption); (case s3 => assumption); intro _ _ _ _ _ _ _ _ _ _ _ _))
local macro_rules | `(tactic| walk_at "eqd") => `(tactic| first
  | ((refine Mb.r_eqPd (x := ?xx) (y := ?yy) (x' := ?xx2) (y' := ?yy2) ?h1 ?h2 ?_); (case h1 => walk_at "fq"); (case h2 => walk_at "fq"))
  | ((refine Mb.r_nePd (x := ?xx) (y := ?yy) (x' := ?xx2) (y' := ?yy2) ?h1 ?h2 ?_); (case h1 => walk_at "fq"); (case h2 => walk_at "fq")))
local macro_rules | `(tactic| walk_at "ond") => `(tactic| ((refine Mb.r_onD (a := ?aa) (b := ?bb) (c := ?cc) (x := ?xx) (y := ?yy) (n1 := ?n1) (n2 := ?n2) (n3 := ?n3) (n4 := ?n4) (n5 := ?n5) ?h1 ?h2 ?s1 ?s2 ?s3 ?s4 ?s5 ?l ?_); (case h1 => walk_at "lq"); (case h2 => walk_at "fq"); (case s1 => walk_at "sm"); (case s2 => walk_at "sm"); (case s3 => walk_at "sm"); (case s4 => walk_at "sz"); (case s5 => walk_at "sz"); (case l => rfl)))
local macro_rules | `(tactic| walk_at "cq") => `(tactic| first
  | assumption
  | ((with_reducible refine Mb.Cq.mk (f := ?ff) (g := ?gg) (k := ?kk) ?ga ?gb ?gc ?gd); (case ga => assumption); (case gb => walk_at "fq"); (case gc => walk_at "fq"); (case gd => walk_at "fq"))
  | ((with_reducible refine Mb.Cq.up (H := ?HH) ?ga ?gb); (case gb => assumption); (case ga => walk_at "cq"))
  | ((with_reducible refine Mb.Cq.upB (H := ?HH) (p := ?pp) (n := ?nn) ?ga ?gb ?gc); (case gb => assumption); (case gc => walk_at "sr"); (case ga => walk_at "cq")))
local macro_rules | `(tactic| walk_at "c1") => `(tactic| first
  | walk_at "w"
  | ((with_reducible refine Mb.r_ixC0 (x := ?xx) (y := ?yy) (s := ?ss) ?h ?_); (case h => walk_at "cq"); intro _ _)
  | ((with_reducible refine Mb.r_ixC1 (x := ?xx) (y := ?yy) (s := ?ss) ?h ?_); (case h => walk_at "cq"); intro _ _)
  | ((with_reducible refine Mb.r_ixC2 (x := ?xx) (y := ?yy) (s := ?ss) ?h ?_); (case h => walk_at "cq"); intro _ _)
  | ((with_reducible refine Mb.r_about1 (x := ?xx) (y := ?yy) (x' := ?xx2) (y' := ?yy2) (n := ?nn) (n2 := ?nn2) (m := ?mm) (m2 := ?mm2) ?h1 ?h2 ?s1 ?s2 ?s3 ?s4 ?l ?e ?_); (case h1 => walk_at "fq"); (case h2 => walk_at "fq"); (case e => assumption); (case s1 => walk_at "sz"); (case s2 => walk_at "sz"); (case s3 => walk_at "sz"); (case s4 => walk_at "sz"); (case l => rfl); intro _ _ _ _)
  | ((with_reducible refine Mb.r_about0 (x := ?xx) (y := ?yy) (x' := ?xx2) (y' := ?yy2) (n := ?nn) (n2 := ?nn2) (m := ?mm) (m2 := ?mm2) ?h1 ?h2 ?s1 ?s2 ?s3 ?s4 ?l ?e ?_); (case h1 => walk_at "fq"); (case h2 => walk_at "fq"); (case e => first | assumption | exact ⟨rfl, rfl⟩); (case s1 => walk_at "sz"); (case s2 => walk_at "sz"); (case s3 => walk_at "sz"); (case s4 => walk_at "sz"); (case l => rfl))
  | ((with_reducible refine Mb.r_far (x := ?xx) (y := ?yy) (x' := ?xx2) (y' := ?yy2) (n := ?nn) (n2 := ?nn2) (m := ?mm) (m2 := ?mm2) ?h1 ?h2 ?s1 ?s2 ?s3 ?s4 ?l ?_); (case h1 => walk_at "fq"); (case h2 => walk_at "fq"); (case s1 => walk_at "sz"); (case s2 => walk_at "sz"); (case s3 => walk_at "sz"); (case s4 => walk_at "sz"); (case l => rfl); intro _ _ _ _)
  | ((with_reducible refine Mb.r_in (x := ?xx) (y := ?yy) (x' := ?xx2) (y' := ?yy2) (x2 := ?xx3) (y2 := ?yy3) (n1 := ?n1) (n2 := ?n2) (n3 := ?n3) (n4 := ?n4) (n5 := ?n5) (n6 := ?n6) ?h1 ?h2 ?h3 ?s1 ?s2 ?s3 ?s4 ?s5 ?s6 ?l ?_); (case h1 => walk_at "fq"); (case h2 => walk_at "fq"); (case h3 => walk_at "fq"); (case s1 => walk_at "sz"); (case s2 => walk_at "sz"); (case s3 => walk_at "sz"); (case s4 => walk_at "sz"); (case s5 => walk_at "sz"); (case s6 => walk_at "sz"); (case l => rfl); intro _ _)
  | ((with_reducible refine Mb.r_L2 (a := ?aa) (b := ?bb) (c := ?cc) (a' := ?aa2) (b' := ?bb2) (c' := ?cc2) (n1 := ?n1) (n2 := ?n2) (n3 := ?n3) (n4 := ?n4) ?h1 ?h2 ?s1 ?s2 ?s3 ?s4 ?l ?_); (case h1 => walk_at "lq"); (case h2 => walk_at "lq"); (case s1 => walk_at "sm"); (case s2 => walk_at "sm"); (case s3 => walk_at "sm"); (case s4 => walk_at "sm"); (case l => rfl))
  | with_reducible refine Mb.r_isB ?_
  | ((with_reducible refine Mb.r_isF (x := ?xx) ?h ?_); (case h => walk_at "fq"))
  | ((with_reducible refine Mb.r_isiT (x := ?xx) (y := ?yy) (s := ?ss) ?h ?_); (case h => walk_at "cq"))
  | ((with_reducible refine Mb.r_isNCq (x := ?xx) (y := ?yy) (s := ?ss) ?h ?_); (case h => walk_at "cq"))
  | ((with_reducible refine Mb.r_notNCq (x := ?xx) (y := ?yy) (s := ?ss) ?h ?_); (case h => walk_at "cq"))
  | ((with_reducible refine Mb.r_wide (n := ?nn) (m := 94) ?hp ?l ?i0 ?im ?_); (case hp => walk_at "sr"); (case l => decide); (case i0 => decide); (case im => decide +kernel); intro _ _ _ _ _ _ _)
  | ((with_reducible refine Mb.r_wideNear (n := ?nn) (m := 94) (x := ?xx) (y := ?yy) ?hp ?l ?i0 ?im ?m0 ?hw ?sx ?sy ?_); (case hp => walk_at "sr"); (case l => decide); (case i0 => decide); (case im => decide +kernel); (case m0 => decide); (case hw => walk_at "fq"); (case sx => walk_at "sz"); (case sy => walk_at "sz"); intro _ _ _ _ _ _ _ _ _)
  | ((with_reducible refine Mb.r_wholeLine (n := ?nn) (m := 94) ?hp ?l ?i0 ?im ?m0 ?m1 ?_); (case hp => walk_at "sr"); (case l => decide); (case i0 => decide); (case im => decide +kernel); (case m0 => decide); (case m1 => decide); intro _ _ _ _ _ _ _ _ _ _ _ _)
  | ((with_reducible refine Mb.r_wide (n := ?nn) (m := 97) ?hp ?l ?i0 ?im ?_); (case hp => walk_at "sr"); (case l => decide); (case i0 => decide); (case im => decide +kernel); intro _ _ _ _ _ _ _)
  | ((with_reducible refine Mb.r_wideNear (n := ?nn) (m := 97) (x := ?xx) (y := ?yy) ?hp ?l ?i0 ?im ?m0 ?hw ?sx ?sy ?_); (case hp => walk_at "sr"); (case l => decide); (case i0 => decide); (case im => decide +kernel); (case m0 => decide); (case hw => walk_at "fq"); (case sx => walk_at "sz"); (case sy => walk_at "sz"); intro _ _ _ _ _ _ _ _ _)
  | ((with_reducible refine Mb.r_wholeLine (n := ?nn) (m := 97) ?hp ?l ?i0 ?im ?m0 ?m1 ?_); (case hp => walk_at "sr"); (case l => decide); (case i0 => decide); (case im => decide +kernel); (case m0 => decide); (case m1 => decide); intro _ _ _ _ _ _ _ _ _ _ _ _)
  | ((with_reducible refine Mb.r_wide (n := ?nn) (m := 200) ?hp ?l ?i0 ?im ?_); (case hp => walk_at "sr"); (case l => decide); (case i0 => decide); (case im => decide +kernel); intro _ _ _ _ _ _ _)
  | ((with_reducible refine Mb.r_wideNear (n := ?nn) (m := 200) (x := ?xx) (y := ?yy) ?hp ?l ?i0 ?im ?m0 ?hw ?sx ?sy ?_); (case hp => walk_at "sr"); (case l => decide); (case i0 => decide); (case im => decide +kernel); (case m0 => decide); (case hw => walk_at "fq"); (case sx => walk_at "sz"); (case sy => walk_at "sz"); intro _ _ _ _ _ _ _ _ _)
  | ((with_reducible refine Mb.r_wholeLine (n := ?nn) (m := 200) ?hp ?l ?i0 ?im ?m0 ?m1 ?_); (case hp => walk_at "sr"); (case l => decide); (case i0 => decide); (case im => decide +kernel); (case m0 => decide); (case m1 => decide); intro _ _ _ _ _ _ _ _ _ _ _ _)
  | ((with_reducible refine Mb.r_cross (x := ?xx) (y := ?yy) (x' := ?xx2) (y' := ?yy2) (x2 := ?xx3) (y2 := ?yy3) (n1 := ?n1) (n2 := ?n2) (n3 := ?n3) (n4 := ?n4) (n5 := ?n5) (n6 := ?n6) ?h1 ?h2 ?h3 ?s1 ?s2 ?s3 ?s4 ?s5 ?s6 ?l ?_); (case h1 => walk_at "fq"); (case h2 => walk_at "fq"); (case h3 => walk_at "fq"); (case s1 => walk_at "sz"); (case s2 => walk_at "sz"); (case s3 => walk_at "sz"); (case s4 => walk_at "sz"); (case s5 => walk_at "sz"); (case s6 => walk_at "sz"); (case l => rfl); intro _ _ _ _)
  | ((with_reducible refine Mb.r_ixR0 (x := ?xx) (n := ?nn) ?h ?_); (case h => assumption); intro _ _)
  | ((with_reducible refine Mb.r_gS (xs := ?xx) ?h ?l ?_); (case h => walk_at "tp"); (case l => rfl))
  | ((with_reducible refine Mb.r_three (ns := ?nn) ?h ?l ?_); (case h => walk_at "scr"); (case l => assumption); intro _ _ _ _ _ _ _ _ _ _ _ _ _ _ _ _ _ _ _ _ _ _)
  | ((with_reducible refine Mb.r_lines (ns := ?nn) ?h ?l ?_); (case h => walk_at "scr"); (case l => assumption); intro _ _ _ _ _ _ _ _ _ _ _ _ _ _ _ _ _ _ _ _))
local macro_rules | `(tactic| walk_at "tp") => `(tactic| first
  | assumption
  | ((with_reducible refine L2.Same.tp (H := ?HH) ?ga ?gb); (case ga => assumption); (case gb => walk_at "tp")))
local macro_rules | `(tactic| walk_at "same1") => `(tactic| ((refine Mb.r_dT ?ha ?_); (case ha => (exact decide_eq_true (by (walk_at "wipe"; grind))))))
local macro_rules | `(tactic| walk_at "eqc") => `(tactic| ((refine Mb.r_eqC (x := ?xx) (y := ?yy) (s := ?ss) (x' := ?xx2) (y' := ?yy2) (s' := ?ss2) ?h1 ?h2 ?e ?_); (case h1 => walk_at "cq"); (case h2 => walk_at "cq"); (case e => (refine ⟨?_, ?_, ?_⟩ <;> first | rfl | (walk_at "wipe"; grind)))))
local macro_rules | `(tactic| walk_at "c2") => `(tactic| first
  | walk_at "c1"
  | with_reducible refine Mb.r_sl ?_
  | with_reducible refine Mb.r_noP ?_
  | with_reducible refine Mb.r_part ?_
  | with_reducible refine Mb.r_if ?_
  | with_reducible refine Mb.r_bm ?_
  | ((with_reducible refine Mb.r_slC (x := ?xx) (y := ?yy) (s := ?ss) ?h ?_); (case h => walk_at "cq"); intro _ _ _ _))
local macro_rules | `(tactic| walk_at "c3") => `(tactic| first
  | walk_at "c2"
  | ((with_reducible refine Mb.r_small (n := ?nn) ?hp ?l ?_); (case hp => walk_at "sr"); (case l => decide); intro _ _ _ _ _ _ _)
  | ((with_reducible refine Mb.r_smallP (n := ?nn) ?hp ?l ?_); (case hp => walk_at "sr"); (case l => decide); intro _ _ _ _ _ _ _ _ _)
  | ((with_reducible refine Mb.r_smallN (n := ?nn) (x := ?xx) (y := ?yy) ?hp ?l ?hw ?sx ?sy ?_); (case hp => walk_at "sr"); (case l => decide); (case hw => walk_at "fq"); (case sx => assumption); (case sy => assumption); intro _ _ _ _ _ _ _ _ _)
  | with_reducible refine Mb.r_yesT ?_
  | with_reducible refine Mb.r_keep ?_
  | ((with_reducible refine Mb.r_gLst (xs := ?xx) ?h ?l ?_); (case h => assumption); (case l => rfl))
  | ((with_reducible refine Mb.r_four (x := ?xx) (y := ?yy) (x' := ?xx2) (y' := ?yy2) ?hp ?h1 ?h2 ?s1 ?s2 ?s3 ?s4 ?_); (case hp => walk_at "sr"); (case h1 => walk_at "fq"); (case h2 => walk_at "fq"); (case s1 => assumption); (case s2 => assumption); (case s3 => assumption); (case s4 => assumption); intro _ _ _ _ _ _ _ _ _ _ _ _ _ _ _ _ _ _ _ _ _ _ _ _ _ _ _ _)
  | ((with_reducible refine Mb.r_last (x1 := ?xx) (y1 := ?yy) (x2 := ?xx2) (y2 := ?yy2) (x3 := ?xx3) (y3 := ?yy3) ?hp ?h1 ?h2 ?h3 ?s1 ?s2 ?s3 ?s4 ?s5 ?s6 ?_); (case hp => walk_at "sr"); (case h1 => walk_at "fq"); (case h2 => walk_at "fq"); (case h3 => walk_at "fq"); (case s1 => assumption); (case s2 => assumption); (case s3 => assumption); (case s4 => assumption); (case s5 => assumption); (case s6 => assumption); intro _ _ _ _ _ _ _ _)
  | ((with_reducible refine Mb.r_rolled (x := ?xx) (y := ?yy) (x' := ?xx2) (y' := ?yy2) (t := ?tt) ?h1 ?h2 ?h3 ?s1 ?s2 ?s3 ?s4 ?s5 ?_); (case h1 => walk_at "fq"); (case h2 => walk_at "fq"); (case h3 => walk_at "fq"); (case s1 => assumption); (case s2 => assumption); (case s3 => assumption); (case s4 => assumption); (case s5 => assumption); intro _ _ _ _ _ _ _ _)
  | ((with_reducible refine Mb.r_crossS (x := ?xx) (y := ?yy) (x' := ?xx2) (y' := ?yy2) (x2 := ?xx3) (y2 := ?yy3) ?h1 ?h2 ?h3 ?s1 ?s2 ?s3 ?s4 ?s5 ?s6 ?_); (case h1 => walk_at "fq"); (case h2 => walk_at "fq"); (case h3 => walk_at "fq"); (case s1 => assumption); (case s2 => assumption); (case s3 => assumption); (case s4 => assumption); (case s5 => assumption); (case s6 => assumption); intro _ _ _ _)
  | ((with_reducible refine Mb.r_det (x1 := ?x1) (y1 := ?y1) (x2 := ?x2) (y2 := ?y2) (x3 := ?x3) (y3 := ?y3) (x4 := ?x4) (y4 := ?y4) ?h1 ?h2 ?h3 ?h4 ?s1 ?s2 ?s3 ?s4 ?s5 ?s6 ?s7 ?s8 ?_); (case h1 => walk_at "fq"); (case h2 => walk_at "fq"); (case h3 => walk_at "fq"); (case h4 => walk_at "fq"); (case s1 => assumption); (case s2 => assumption); (case s3 => assumption); (case s4 => assumption); (case s5 => assumption); (case s6 => assumption); (case s7 => assumption); (case s8 => assumption); intro _ _ _ _)
  | ((with_reducible refine Mb.r_round (x1 := ?x1) (y1 := ?y1) (x2 := ?x2) (y2 := ?y2) (x3 := ?x3) (y3 := ?y3) (x4 := ?x4) (y4 := ?y4) (n1 := ?n1) (n2 := ?n2) (n3 := ?n3) (n4 := ?n4) (n5 := ?n5) (n6 := ?n6) (n7 := ?n7) (n8 := ?n8) ?h1 ?h2 ?h3 ?h4 ?s1 ?s2 ?s3 ?s4 ?s5 ?s6 ?s7 ?s8 ?l ?_); (case h1 => walk_at "fq"); (case h2 => walk_at "fq"); (case h3 => walk_at "fq"); (case h4 => walk_at "fq"); (case s1 => walk_at "sz"); (case s2 => walk_at "sz"); (case s3 => walk_at "sz"); (case s4 => walk_at "sz"); (case s5 => walk_at "sz"); (case s6 => walk_at "sz"); (case s7 => walk_at "sz"); (case s8 => walk_at "sz"); (case l => rfl); intro _ _ _ _)
  | ((with_reducible refine Mb.r_asFar (x1 := ?x1) (y1 := ?y1) (x2 := ?x2) (y2 := ?y2) (x3 := ?x3) (y3 := ?y3) (x4 := ?x4) (y4 := ?y4) (n1 := ?n1) (n2 := ?n2) (n3 := ?n3) (n4 := ?n4) (n5 := ?n5) (n6 := ?n6) (n7 := ?n7) (n8 := ?n8) ?h1 ?h2 ?h3 ?h4 ?s1 ?s2 ?s3 ?s4 ?s5 ?s6 ?s7 ?s8 ?l ?_); (case h1 => walk_at "fq"); (case h2 => walk_at "fq"); (case h3 => walk_at "fq"); (case h4 => walk_at "fq"); (case s1 => walk_at "sz"); (case s2 => walk_at "sz"); (case s3 => walk_at "sz"); (case s4 => walk_at "sz"); (case s5 => walk_at "sz"); (case s6 => walk_at "sz"); (case s7 => walk_at "sz"); (case s8 => walk_at "sz"); (case l => rfl); intro _ _ _ _))
local macro_rules | `(tactic| walk_at "iv") => `(tactic| first
  | assumption
  | ((with_reducible refine Mb.Iv.mk ?ga); (case ga => assumption))
  | ((with_reducible refine Mb.Lq.iv (c := ?cc) ?ga); (case ga => walk_at "lq"))
  | ((with_reducible refine Mb.Iv.up (H := ?HH) ?ga ?gb); (case gb => assumption); (case ga => walk_at "iv")))
local macro_rules | `(tactic| walk_at "c4") => `(tactic| first
  | walk_at "c3"
  | with_reducible refine Mb.r_seqP3 ?_
  | ((with_reducible refine Mb.r_par3 ?_); dsimp only [List.set])
  | ((with_reducible refine Mb.r_lthru (x := ?xx) (y := ?yy) (x' := ?xx2) (y' := ?yy2) (n1 := ?n1) (n2 := ?n2) (n3 := ?n3) (n4 := ?n4) ?h1 ?h2 ?s1 ?s2 ?s3 ?s4 ?l ?ne ?_); (case h1 => walk_at "fq"); (case h2 => walk_at "fq"); (case s1 => walk_at "sz"); (case s2 => walk_at "sz"); (case s3 => walk_at "sz"); (case s4 => walk_at "sz"); (case l => rfl); (case ne => assumption); intro _ _ _ _ _ _ _ _ _ _ _ _ _)
  | ((with_reducible refine Mb.r_beside (x := ?xx) (y := ?yy) (x' := ?xx2) (y' := ?yy2) (t := ?tt) ?h1 ?h2 ?h3 ?s1 ?s2 ?s3 ?s4 ?s5 ?_); (case h1 => walk_at "fq"); (case h2 => walk_at "fq"); (case h3 => walk_at "fq"); (case s1 => assumption); (case s2 => assumption); (case s3 => assumption); (case s4 => assumption); (case s5 => assumption); intro _ _ _ _)
  | ((with_reducible refine Mb.r_off (x := ?xx) (y := ?yy) (t := ?tt) (m := ?mm) (n := ?nn) (n1 := ?n1) (n2 := ?n2) (n3 := ?n3) (n4 := ?n4) (n5 := ?n5) ?h1 ?h2 ?h3 ?s1 ?s2 ?s3 ?l ?s4 ?s5 ?l2 ?_); (case h1 => walk_at "fq"); (case h2 => walk_at "iv"); (case h3 => walk_at "fq"); (case s1 => walk_at "sz"); (case s2 => walk_at "sz"); (case s3 => walk_at "sz"); (case l => rfl); (case s4 => walk_at "sm"); (case s5 => walk_at "sm"); (case l2 => rfl); intro _ _ _ _)
  | ((with_reducible refine Mb.r_labout (x := ?xx) (y := ?yy) (x' := ?xx2) (y' := ?yy2) (n1 := ?n1) (n2 := ?n2) (n3 := ?n3) (n4 := ?n4) ?h1 ?h2 ?s1 ?s2 ?s3 ?s4 ?l ?_); (case h1 => walk_at "fq"); (case h2 => walk_at "fq"); (case s1 => assumption); (case s2 => assumption); (case s3 => walk_at "sz"); (case s4 => walk_at "sz"); (case l => rfl); intro _ _ _ _)
  | ((with_reducible refine Mb.r_ixI0 (m := ?mm) (n := ?nn) ?h ?_); (case h => walk_at "iv"))
  | ((with_reducible refine Mb.r_ixI1 (m := ?mm) (n := ?nn) ?h ?_); (case h => walk_at "iv")))
local macro_rules | `(tactic| walk_at "v47") => `(tactic| first
  | ((with_reducible refine Mb.r_wide (n := ?nn) (m := 47) ?hp ?l ?i0 ?im ?_); (case hp => walk_at "sr"); (case l => decide); (case i0 => decide); (case im => decide +kernel); intro _ _ _ _ _ _ _)
  | ((with_reducible refine Mb.r_wideNearI (n := ?nn) (m := 47) (x := ?xx) (y := ?yy) ?hp ?l ?i0 ?im ?hw ?sx ?sy ?_); (case hp => walk_at "sr"); (case l => decide); (case i0 => decide); (case im => decide +kernel); (case hw => walk_at "fq"); (case sx => assumption); (case sy => assumption); intro _ _ _ _ _ _ _ _ _)
  | walk_at "w")
local macro_rules | `(tactic| walk_at "c5") => `(tactic| first
  | ((with_reducible refine Mb.r_thruL (x := ?xx) (y := ?yy) (x' := ?xx2) (y' := ?yy2) (n := ?nn) (n2 := ?nn2) (m := ?mm) (m2 := ?mm2) ?h1 ?h2 ?s1 ?s2 ?s3 ?s4 ?l ?ne ?_); (case h1 => walk_at "fq"); (case h2 => walk_at "fq"); (case ne => assumption); (case s1 => walk_at "sz"); (case s2 => walk_at "sz"); (case s3 => walk_at "sz"); (case s4 => walk_at "sz"); (case l => rfl); intro _ _ _ _ _ _ _ _ _ _ _ _ _)
  | walk_at "c4")
section
variable {P : Program} {w : World} {K : PySem.W.Frag} {mg : Str → Option Value} {base : Heap}
theorem ok_common_divisor (F : Fn K mg "common_divisor" s_common_divisor) (z_abs : mg "abs" = none) : Kn P w K mg base 1 "common_divisor" ["one", "other"] spGcd := by
  refine F.kn sc_common_divisor (fun vs H Q E h => ?_) (fun f cdv A outer s H vs Q E hr h => ?_) (fun _ _ _ _ _ _ us hl => match us, hl with | [_, _], _ => rfl)
  · obtain ⟨a, b, rfl, _⟩ := h
    rfl
  obtain ⟨a, b, rfl, q⟩ := h
  refine ⟨_, (pss_cons (ps_par (by rfl) sc_common_divisor.nd (i := 0) (j := 1) rfl rfl (by decide) rfl rfl (pa_cons (pe_callB call_abs (by rfl) z_abs (by decide +kernel) (pa_cons (pv 0) pa_nil)) (pa_cons (pe_callB call_abs (by rfl) z_abs (by decide +kernel) (pa_cons (pv 1) pa_nil)) pa_nil)) (by rfl))
    (pss_cons (ps_while PassesOwn.never (pt_cmpR op_ne (pv 1) pe_int (nomark _))
    (pss_one (ps_par (by rfl) sc_common_divisor.nd (i := 0) (j := 1) rfl rfl (by decide) rfl rfl (pa_cons (pv 1) (pa_cons (pe_op op_mod (pv 0) (pv 1)) pa_nil)) (by rfl))))
    (pss_one (ps_ret (pv 0))))), ?_⟩
  show (_ : TS) _ [some (.int a), some (.int b)] _
  repeat walk_at "st"
  refine ⟨a, rfl, ?_⟩
  repeat walk_at "st"
  refine ⟨b, rfl, ?_⟩
  repeat walk_at "st"
  refine r_seq ?_
  refine r_while (fun σ H' => H' = H ∧ ∃ x y : Int, σ = [some (.int x), some (.int y)] ∧ 0 ≤ x ∧ 0 ≤ y ∧ Int.gcd x y = Int.gcd a b) (fun σ _ => match σ with | [_, some (.int y)] => y.toNat | _ => 0) ?_ ?_
  · refine ⟨rfl, _, _, rfl, ?_, ?_, ?_⟩
    · split <;> omega
    · split <;> omega
    · split <;> split <;> simp only [Int.neg_gcd, Int.gcd_neg]
  · rintro σ H' ⟨rfl, x, y, rfl, hx, hy, hg⟩
    repeat walk_at "st"
    refine r_iteN (fun c => ?_) (fun c => ?_)
    · refine r_turn ?_
      repeat walk_at "st"
      have e1 := Int.emod_nonneg x (show y ≠ 0 by omega)
      have e2 := Int.emod_lt_of_pos x (show 0 < y by omega)
      refine ⟨⟨rfl, y, x % y, rfl, hy, e1, by rw [gcd_step hx (by omega), hg]⟩, ?_⟩
      show (x % y).toNat < y.toNat
      omega
    · subst c
      repeat walk_at "st"
      have g : (Int.gcd x 0 : Int) = x := by rw [Int.gcd_zero]; omega
      rw [hg] at g
      show Q (.int x) _
      rw [← g]
      exact q
theorem ok_whole_root (F : Fn K mg "whole_root" s_whole_root) : Kn P w K mg base 1 "whole_root" ["number"] spIsqrt := by
  refine F.kn sc_whole_root (fun vs H Q E h => ?_) (fun f cdv A outer s H vs Q E hr h => ?_) (fun _ _ _ _ _ _ us hl => match us, hl with | [_], _ => rfl)
  · obtain ⟨n, rfl, _⟩ := h
    rfl
  obtain ⟨n, rfl, n0, sn, q⟩ := h
  refine ⟨_, (pss_cons (ps_set (i := 1) sc_whole_root.nd rfl (.inl rfl) (pe_op op_shl pe_int (pe_op op_fdivW (pe_op op_add (pe_bits (pv 0)) pe_int) pe_int)))
    (pss_cons (ps_while PassesOwn.never (pt_cmpR op_gt (pe_op op_mulW (pv 1) (pv 1)) (pv 0) (nomark _))
    (pss_one (ps_set (i := 1) sc_whole_root.nd rfl (.inl rfl) (pe_op op_fdivW (pe_op op_add (pv 1) (pe_op op_fdivW (pv 0) (pv 1))) pe_int))))
    (pss_one (ps_ret (pv 1))))), ?_⟩
  show (_ : TS) _ [some (.int n), none] _
  have hb : Builtin.Int.intBits n ≤ 16000 := PyProof.Rows.intBits_le sn
  repeat walk_at "st"
  have e0 : (0 : Int) ≤ ((Builtin.Int.intBits n : Nat) + 1) / 2 := by omega
  refine r_i ⟨e0, by omega, by decide⟩ ?_
  repeat walk_at "st"
  refine r_seq ?_
  have he : Builtin.Int.intBits n ≤ 2 * ((((Builtin.Int.intBits n : Nat) : Int) + 1) / 2).toNat := by omega
  have he2 : ((((Builtin.Int.intBits n : Nat) : Int) + 1) / 2).toNat ≤ 8000 := by omega
  generalize ((((Builtin.Int.intBits n : Nat) : Int) + 1) / 2).toNat = e at he he2
  have hG := guess_above n0 he
  have sG : Sm 8001 ((2 : Int) ^ e) := by
    have : ((2 : Int) ^ e).natAbs = 2 ^ e := by rw [Int.natAbs_pow]; rfl
    unfold Sm
    rw [this]
    exact Nat.pow_lt_pow_right (by decide) (by omega)
  have pG : 0 < (2 : Int) ^ e := Int.pow_pos (by decide)
  rw [Int.one_mul]
  refine r_while (fun σ H' => H' = H ∧ ∃ g : Int, σ = [some (.int n), some (.int g)] ∧ 0 ≤ g ∧ Sm 8001 g ∧ ∀ k, 0 ≤ k → k * k ≤ n → k ≤ g) (fun σ _ => match σ with | [_, some (.int g)] => g.toNat | _ => 0) ?_ ?_
  · exact ⟨rfl, _, rfl, by omega, sG, hG⟩
  · rintro σ H' ⟨rfl, g, rfl, g0, sg, mx⟩
    repeat walk_at "st"
    refine r_ite (fun c => ?_) (fun c => ?_)
    · have gp : 0 < g := by
        by_cases z : g = 0
        · subst z
          simp at c
          omega
        · omega
      obtain ⟨l1, l2⟩ := newton_lt n0 gp c
      refine r_turn ?_
      repeat walk_at "st"
      refine r_i (Sm.cdiv gp sg) ?_
      repeat walk_at "st"
      refine ⟨⟨rfl, _, rfl, l2, sg.le (by omega), newton gp mx⟩, ?_⟩
      show ((g + n / g) / 2).toNat < g.toNat
      omega
    · repeat walk_at "st"
      exact q g g0 (by omega) mx
theorem ok_root (F : Fn K mg "root" s_root) (G_whole_root : Kn P w K mg base 1 "whole_root" ["number"] spIsqrt) : Kn P w K mg base 2 "root" ["one"] (spRoot K) := by
  refine F.kn sc_root (fun vs H Q E h => ?_) (fun f cdv A outer s H vs Q E hr h => ?_) (fun _ _ _ _ _ _ us hl => match us, hl with | [_], _ => rfl)
  · obtain ⟨p, t, u, rfl, _⟩ := h
    rfl
  obtain ⟨p, t, u, rfl, hp, u0, st, su, q1, q2⟩ := h
  refine ⟨_, (pss_cons (ps_if (pt_cmpR op_lt (pe_ix ix_tup (pv 0) pe_int (fun _ _ => rfl)) pe_int (nomark _))
    (pss_one (ps_ret pe_non))
    pss_nil)
    (pss_cons (ps_set (i := 1) sc_root.nd rfl (.inl rfl) (pe_kn G_whole_root (hr.mono (by decide)) (by rfl) (pa_cons (pe_ix ix_tup (pv 0) pe_int (fun _ _ => rfl)) pa_nil)))
    (pss_cons (ps_set (i := 2) sc_root.nd rfl (.inl rfl) (pe_kn G_whole_root (hr.mono (by decide)) (by rfl) (pa_cons (pe_ix ix_tup (pv 0) pe_int (fun _ _ => rfl)) pa_nil)))
    (pss_cons (ps_if (PW.pt (pw_or (pt_cmpR op_ne (pe_op op_mulW (pv 1) (pv 1)) (pe_ix ix_tup (pv 0) pe_int (fun _ _ => rfl)) (nomark _)) (pw_or1 (pt_cmpR op_ne (pe_op op_mulW (pv 2) (pv 2)) (pe_ix ix_tup (pv 0) pe_int (fun _ _ => rfl)) (nomark _)))))
    (pss_one (ps_ret pe_non))
    pss_nil)
    (pss_one (ps_ret (pe_tup (pa_cons (pv 1) (pa_cons (pv 2) pa_nil))))))))), ?_⟩
  show (_ : TS) _ [some (.ref p), none, none] _
  refine r_seq ?_
  repeat walk_at "st"
  refine r_ite (fun c => ?_) (fun c => ?_)
  · repeat walk_at "st"
    exact q1 (.inl c)
  repeat walk_at "st"
  refine ⟨t, rfl, by omega, st, fun a a0 ha ma => ?_⟩
  repeat walk_at "st"
  refine ⟨u, rfl, by omega, su, fun b b0 hb mb => ?_⟩
  have sa := root_sm a0 ha st
  have sb := root_sm b0 hb su
  have ia := isq_iff a0 ha ma
  have ib := isq_iff b0 hb mb
  repeat walk_at "st"
  refine r_seq ?_
  repeat walk_at "st"
  refine r_iteN (fun c1 => ?_) (fun c1 => ?_)
  · repeat walk_at "st"
    exact q1 (.inr (.inl (fun z => c1 (ia.mpr z))))
  repeat walk_at "st"
  refine r_iteN (fun c2 => ?_) (fun c2 => ?_)
  · repeat walk_at "st"
    exact q1 (.inr (.inr (fun z => c2 (ib.mpr z))))
  repeat walk_at "st"
  refine ⟨sz rfl, fun r hr => ?_⟩
  exact q2 a b r _ a0 b0 c1 c2 (same_new hr _) upd_same
theorem ok_fraction (F : Fn K mg "fraction" s_fraction) (G_common_divisor : Kn P w K mg base 1 "common_divisor" ["one", "other"] spGcd) : Kn P w K mg base 2 "fraction" ["top", "bottom"] spLow := by
  refine F.kn sc_fraction (fun vs H Q E h => ?_) (fun f cdv A outer s H vs Q E hr h => ?_) (fun _ _ _ _ _ _ us hl => match us, hl with | [_, _], _ => rfl)
  · obtain ⟨t, b, rfl, _⟩ := h
    rfl
  obtain ⟨t, b, rfl, hb, sb, q⟩ := h
  refine ⟨_, (pss_cons (ps_if (pt_cmpR op_eq (pv 1) pe_int (nomark _))
    (pss_one ps_never)
    pss_nil)
    (pss_cons (ps_set (i := 2) sc_fraction.nd rfl (.inl rfl) (pe_kn G_common_divisor (hr.mono (by decide)) (by rfl) (pa_cons (pv 0) (pa_cons (pv 1) pa_nil))))
    (pss_cons (ps_if (pt_cmpR op_lt (pv 1) pe_int (nomark _))
    (pss_one (ps_set (i := 2) sc_fraction.nd rfl (.inl rfl) (pe_un un_neg (pv 2))))
    pss_nil)
    (pss_one (ps_ret (pe_tup (pa_cons (pe_op op_fdivZ (pv 0) (pv 2)) (pa_cons (pe_op op_fdivZ (pv 1) (pv 2)) pa_nil)))))))), ?_⟩
  show (_ : TS) _ [some (.int t), some (.int b), none] _
  have g0 := gcd_pos (t := t) hb
  have gs : Sm 8000 (Int.gcd t b : Int) := gcd_sm hb sb
  refine r_seq ?_
  repeat walk_at "st"
  refine r_ite (fun c => absurd c hb) (fun c => ?_)
  repeat walk_at "st"
  refine ⟨_, _, rfl, ?_⟩
  repeat walk_at "st"
  refine r_cut (fun σ H' => σ = [some (.int t), some (.int b), some (.int (if decide (b < 0) then -(Int.gcd t b : Int) else (Int.gcd t b : Int)))] ∧ H' = H) ?_ (fun N J => ?_)
  · rintro σ H' ⟨rfl, rfl⟩
    have cd : ∀ i : Int, CDivZ i (if decide (b < 0) then -(Int.gcd t b : Int) else (Int.gcd t b : Int)) := fun i => by
      split
      · exact cdivZ (by omega) gs.neg (by decide) (by decide)
      · exact cdivZ (by omega) gs (by decide) (by decide)
    repeat walk_at "st"
    refine r_i (cd _) ?_
    repeat walk_at "st"
    refine r_i (cd _) ?_
    repeat walk_at "st"
    refine ⟨sz rfl, fun p hp => ?_⟩
    refine q p _ (same_new hp _) hp ?_
    rw [upd_same, fdiv_exact (Int.gcd_dvd_left t b), fdiv_exact (Int.gcd_dvd_right t b)]
    unfold lowT lowB
    simp only [decide_eq_true_eq]
  · repeat walk_at "st"
    refine r_ite (fun c => ?_) (fun c => ?_)
    · repeat walk_at "st"
      exact J _ _ ⟨by simp [c], rfl⟩
    · repeat walk_at "st"
      exact J _ _ ⟨by simp [c], rfl⟩
theorem ok_plus (F : Fn K mg "plus" s_plus) (G_fraction : Kn P w K mg base 2 "fraction" ["top", "bottom"] spLow) : Kn P w K mg base 3 "plus" ["one", "other"] (spArith K (fun x y u v => x * v + u * y) (fun x y u v => y * v)) := by
  refine F.kn sc_plus (fun vs H Q E h => ?_) (fun f cdv A outer s H vs Q E hr h => ?_) (fun _ _ _ _ _ _ us hl => match us, hl with | [_, _], _ => rfl)
  · obtain ⟨a, b, x, y, u, v, _, _, rfl, _⟩ := h
    rfl
  obtain ⟨a, b, x, y, u, v, n, m, rfl, h1, h2, s1, s2, s3, s4, l, nb, q⟩ := h
  have t1 : Sm 8000 x := s1.mono (by omega)
  have t2 : Sm 8000 y := s2.mono (by omega)
  have t3 : Sm 8000 u := s3.mono (by omega)
  have t4 : Sm 8000 v := s4.mono (by omega)
  refine ⟨_, (pss_one (ps_ret (pe_kn G_fraction (hr.mono (by decide)) (by rfl) (pa_cons (pe_op op_add (pe_op op_mulW (pe_ix ix_tup (pv 0) pe_int (fun _ _ => rfl)) (pe_ix ix_tup (pv 1) pe_int (fun _ _ => rfl))) (pe_op op_mulW (pe_ix ix_tup (pv 1) pe_int (fun _ _ => rfl)) (pe_ix ix_tup (pv 0) pe_int (fun _ _ => rfl)))) (pa_cons (pe_op op_mulW (pe_ix ix_tup (pv 0) pe_int (fun _ _ => rfl)) (pe_ix ix_tup (pv 1) pe_int (fun _ _ => rfl))) pa_nil))))), ?_⟩
  show (_ : TS) _ [some (.ref a), some (.ref b)] _
  repeat walk_at "st"
  exact ⟨_, _, rfl, nb, (Sm.mul s2 s4).mono l, q⟩
theorem ok_minus (F : Fn K mg "minus" s_minus) (G_fraction : Kn P w K mg base 2 "fraction" ["top", "bottom"] spLow) : Kn P w K mg base 3 "minus" ["one", "other"] (spArith K (fun x y u v => x * v - u * y) (fun x y u v => y * v)) := by
  refine F.kn sc_minus (fun vs H Q E h => ?_) (fun f cdv A outer s H vs Q E hr h => ?_) (fun _ _ _ _ _ _ us hl => match us, hl with | [_, _], _ => rfl)
  · obtain ⟨a, b, x, y, u, v, _, _, rfl, _⟩ := h
    rfl
  obtain ⟨a, b, x, y, u, v, n, m, rfl, h1, h2, s1, s2, s3, s4, l, nb, q⟩ := h
  have t1 : Sm 8000 x := s1.mono (by omega)
  have t2 : Sm 8000 y := s2.mono (by omega)
  have t3 : Sm 8000 u := s3.mono (by omega)
  have t4 : Sm 8000 v := s4.mono (by omega)
  refine ⟨_, (pss_one (ps_ret (pe_kn G_fraction (hr.mono (by decide)) (by rfl) (pa_cons (pe_op op_sub (pe_op op_mulW (pe_ix ix_tup (pv 0) pe_int (fun _ _ => rfl)) (pe_ix ix_tup (pv 1) pe_int (fun _ _ => rfl))) (pe_op op_mulW (pe_ix ix_tup (pv 1) pe_int (fun _ _ => rfl)) (pe_ix ix_tup (pv 0) pe_int (fun _ _ => rfl)))) (pa_cons (pe_op op_mulW (pe_ix ix_tup (pv 0) pe_int (fun _ _ => rfl)) (pe_ix ix_tup (pv 1) pe_int (fun _ _ => rfl))) pa_nil))))), ?_⟩
  show (_ : TS) _ [some (.ref a), some (.ref b)] _
  repeat walk_at "st"
  exact ⟨_, _, rfl, nb, (Sm.mul s2 s4).mono l, q⟩
theorem ok_between (F : Fn K mg "between" s_between) (G_fraction : Kn P w K mg base 2 "fraction" ["top", "bottom"] (spFrQ K)) : Kn P w K mg base 3 "between" ["start", "end", "t"] (spBetween K) := by
  refine F.kn sc_between (fun vs H Q E h => ?_) (fun f cdv A outer s H vs Q E hr h => ?_) (fun _ _ _ _ _ _ us hl => match us, hl with | [_, _, _], _ => rfl)
  · obtain ⟨v, w, u, x, x', t, n, m, k, rfl, _⟩ := h
    rfl
  obtain ⟨v, w, u, x, x', t, n, m, k, rfl, ⟨a, rfl, h1⟩, ⟨b, rfl, h2⟩, ⟨c, rfl, h3⟩, s1, s2, s3, l1, l2, q⟩ := h
  have t1 : Sm 3800 x.num := s1.t.mono (by omega)
  have t2 : Sm 3800 (x.den : Int) := s1.b.mono (by omega)
  have t3 : Sm 3800 x'.num := s2.t.mono (by omega)
  have t4 : Sm 3800 (x'.den : Int) := s2.b.mono (by omega)
  have t5 : Sm 500 t.num := s3.t.mono (by omega)
  have t6 : Sm 500 (t.den : Int) := s3.b.mono (by omega)
  refine ⟨_, (pss_cons (ps_set (i := 3) sc_between.nd rfl (.inl rfl) (pe_op op_mulW (pe_ix ix_tup (pv 0) pe_int (fun _ _ => rfl)) (pe_ix ix_tup (pv 1) pe_int (fun _ _ => rfl))))
    (pss_cons (ps_set (i := 4) sc_between.nd rfl (.inl rfl) (pe_op op_mulW (pe_ix ix_tup (pv 1) pe_int (fun _ _ => rfl)) (pe_ix ix_tup (pv 0) pe_int (fun _ _ => rfl))))
    (pss_one (ps_ret (pe_kn G_fraction (hr.mono (by decide)) (by rfl) (pa_cons (pe_op op_add (pe_op op_mulW (pv 3) (pe_ix ix_tup (pv 2) pe_int (fun _ _ => rfl))) (pe_op op_mulW (pe_ix ix_tup (pv 2) pe_int (fun _ _ => rfl)) (pe_op op_sub (pv 4) (pv 3)))) (pa_cons (pe_op op_mulW (pe_op op_mulW (pe_ix ix_tup (pv 0) pe_int (fun _ _ => rfl)) (pe_ix ix_tup (pv 1) pe_int (fun _ _ => rfl))) (pe_ix ix_tup (pv 2) pe_int (fun _ _ => rfl))) pa_nil))))))), ?_⟩
  show (_ : TS) _ [some (.ref a), some (.ref b), some (.ref c), none, none] _
  repeat walk_at "st"
  refine ⟨_, _, x + t * (x' - x), rfl, Int.mul_ne_zero (Int.mul_ne_zero (den_ne x) (den_ne x')) (den_ne t), ((Sm.mul (Sm.mul s1.b s2.b) s3.b).mono (by omega)), ?_, q⟩
  have e1 := hden x
  have e2 := hden x'
  have e3 := hden t
  simp only [Rat.intCast_add, Rat.intCast_mul, Rat.intCast_sub]
  grind
theorem ok_share (F : Fn K mg "share" s_share) (G_between : Kn P w K mg base 3 "between" ["start", "end", "t"] (spBetween K)) : Kn P w K mg base 4 "share" ["p", "q", "t"] (spShare K) := by
  refine F.kn sc_share (fun vs H Q E h => ?_) (fun f cdv A outer s H vs Q E hr h => ?_) (fun _ _ _ _ _ _ us hl => match us, hl with | [_, _, _], _ => rfl)
  · obtain ⟨v, w, u, x, y, x', y', t, n, m, k, rfl, _⟩ := h
    rfl
  obtain ⟨v, w, u, x, y, x', y', t, n, m, k, rfl, h1, h2, h3, s1, s2, s3, s4, s5, l, l2, q⟩ := h
  refine ⟨_, (pss_one (ps_ret (pe_tup (pa_cons (pe_kn G_between (hr.mono (by decide)) (by rfl) (pa_cons (pe_ix ix_tup (pv 0) pe_int (fun _ _ => rfl)) (pa_cons (pe_ix ix_tup (pv 1) pe_int (fun _ _ => rfl)) (pa_cons (pv 2) pa_nil)))) (pa_cons (pe_kn G_between (hr.mono (by decide)) (by rfl) (pa_cons (pe_ix ix_tup (pv 0) pe_int (fun _ _ => rfl)) (pa_cons (pe_ix ix_tup (pv 1) pe_int (fun _ _ => rfl)) (pa_cons (pv 2) pa_nil)))) pa_nil))))), ?_⟩
  show (_ : TS) _ [some v, some w, some u] _
  repeat walk_at "q"
  refine r_between (by walk_at "fq") (by walk_at "fq") (by walk_at "fq") s1 s3 s5 l l2 (fun r1 H1 g1 k1 => ?_)
  repeat walk_at "q"
  refine r_between (by walk_at "fq") (by walk_at "fq") (by walk_at "fq") s2 s4 s5 l l2 (fun r2 H2 g2 k2 => ?_)
  repeat walk_at "q"
  refine q _ _ (by walk_at "same") ?_
  walk_at "fin"
theorem ok_middle (F : Fn K mg "middle" s_middle) (G_share : Kn P w K mg base 4 "share" ["p", "q", "t"] (spShare K)) : Kn P w K mg base 5 "middle" ["p", "q"] (spP2 K (fun x y x2 y2 => (x + x2) / 2) (fun x y x2 y2 => (y + y2) / 2)) := by
  refine F.kn sc_middle (fun vs H Q E h => ?_) (fun f cdv A outer s H vs Q E hr h => ?_) (fun _ _ _ _ _ _ us hl => match us, hl with | [_, _], _ => rfl)
  · obtain ⟨v, w, x, y, x', y', n, m, rfl, _⟩ := h
    rfl
  obtain ⟨v, w, x, y, x', y', n, m, rfl, h1, h2, s1, s2, s3, s4, l, q⟩ := h
  refine ⟨_, (pss_one (ps_ret (pe_kn G_share (hr.mono (by decide)) (by rfl) (pa_cons (pv 0) (pa_cons (pv 1) (pa_cons (pe_tup (pa_cons pe_int (pa_cons pe_int pa_nil))) pa_nil)))))), ?_⟩
  show (_ : TS) _ [some v, some w] _
  repeat walk_at "q"
  refine ⟨_, _, _, x, y, x', y', (1 / 2 : Rat), n, m, 8, rfl, by walk_at "fq", by walk_at "fq", Fq.half (by assumption), s1, s2, s3, s4, Sz.lit (by decide +kernel) (by decide +kernel), l, by decide, fun r H' g k => ?_⟩
  refine q _ _ (by walk_at "same") ?_
  walk_at "fin"
theorem ok_beyond (F : Fn K mg "beyond" s_beyond) (G_share : Kn P w K mg base 4 "share" ["p", "q", "t"] (spShare K)) : Kn P w K mg base 5 "beyond" ["p", "q"] (spP2 K (fun x y x2 y2 => x2 + x2 - x) (fun x y x2 y2 => y2 + y2 - y)) := by
  refine F.kn sc_beyond (fun vs H Q E h => ?_) (fun f cdv A outer s H vs Q E hr h => ?_) (fun _ _ _ _ _ _ us hl => match us, hl with | [_, _], _ => rfl)
  · obtain ⟨v, w, x, y, x', y', n, m, rfl, _⟩ := h
    rfl
  obtain ⟨v, w, x, y, x', y', n, m, rfl, h1, h2, s1, s2, s3, s4, l, q⟩ := h
  refine ⟨_, (pss_one (ps_ret (pe_kn G_share (hr.mono (by decide)) (by rfl) (pa_cons (pv 0) (pa_cons (pv 1) (pa_cons (pe_tup (pa_cons pe_int (pa_cons pe_int pa_nil))) pa_nil)))))), ?_⟩
  show (_ : TS) _ [some v, some w] _
  repeat walk_at "q"
  refine ⟨_, _, _, x, y, x', y', (2 : Rat), n, m, 8, rfl, by walk_at "fq", by walk_at "fq", Fq.two (by assumption), s1, s2, s3, s4, Sz.lit (by decide +kernel) (by decide +kernel), l, by decide, fun r H' g k => ?_⟩
  refine q _ _ (by walk_at "same") ?_
  walk_at "fin"
theorem ok_turned (F : Fn K mg "turned" s_turned) (G_plus : Kn P w K mg base 3 "plus" ["one", "other"] (spQ2 K (fun _ _ => True) (· + ·))) (G_minus : Kn P w K mg base 3 "minus" ["one", "other"] (spQ2 K (fun _ _ => True) (· - ·))) : Kn P w K mg base 4 "turned" ["p", "q"] (spP2 K (fun x y x2 y2 => x2 - (y - y2)) (fun x y x2 y2 => y2 + (x - x2))) := by
  refine F.kn sc_turned (fun vs H Q E h => ?_) (fun f cdv A outer s H vs Q E hr h => ?_) (fun _ _ _ _ _ _ us hl => match us, hl with | [_, _], _ => rfl)
  · obtain ⟨v, w, x, y, x', y', n, m, rfl, _⟩ := h
    rfl
  obtain ⟨v, w, x, y, x', y', n, m, rfl, h1, h2, s1, s2, s3, s4, l, q⟩ := h
  have u1 : Sz 3801 (x - x') := (s1.sub s3).mono (by omega)
  have u2 : Sz 3801 (y - y') := (s2.sub s4).mono (by omega)
  replace s1 : Sz 3800 x := s1.mono (by omega)
  replace s2 : Sz 3800 y := s2.mono (by omega)
  replace s3 : Sz 3800 x' := s3.mono (by omega)
  replace s4 : Sz 3800 y' := s4.mono (by omega)
  refine ⟨_, (pss_cons (ps_set (i := 2) sc_turned.nd rfl (.inl rfl) (pe_kn G_minus (hr.mono (by decide)) (by rfl) (pa_cons (pe_ix ix_tup (pv 0) pe_int (fun _ _ => rfl)) (pa_cons (pe_ix ix_tup (pv 1) pe_int (fun _ _ => rfl)) pa_nil))))
    (pss_cons (ps_set (i := 3) sc_turned.nd rfl (.inl rfl) (pe_kn G_minus (hr.mono (by decide)) (by rfl) (pa_cons (pe_ix ix_tup (pv 0) pe_int (fun _ _ => rfl)) (pa_cons (pe_ix ix_tup (pv 1) pe_int (fun _ _ => rfl)) pa_nil))))
    (pss_one (ps_ret (pe_tup (pa_cons (pe_kn G_minus (hr.mono (by decide)) (by rfl) (pa_cons (pe_ix ix_tup (pv 1) pe_int (fun _ _ => rfl)) (pa_cons (pv 3) pa_nil))) (pa_cons (pe_kn G_plus (hr.mono (by decide)) (by rfl) (pa_cons (pe_ix ix_tup (pv 1) pe_int (fun _ _ => rfl)) (pa_cons (pv 2) pa_nil))) pa_nil))))))), ?_⟩
  show (_ : TS) _ [some v, some w, none, none] _
  repeat walk_at "q"
  refine q _ _ (by walk_at "same") ?_
  walk_at "fin"
theorem ok_cleared (F : Fn K mg "cleared" s_cleared) (G_common_divisor : Kn P w K mg base 1 "common_divisor" ["one", "other"] spGcd) : Kn P w K mg base 2 "cleared" ["p"] (spCleared K) := by
  refine F.kn sc_cleared (fun vs H Q E h => ?_) (fun f cdv A outer s H vs Q E hr h => ?_) (fun _ _ _ _ _ _ us hl => match us, hl with | [_], _ => rfl)
  · obtain ⟨v, x, y, n, m, rfl, _⟩ := h
    rfl
  obtain ⟨v, x, y, n, m, rfl, h1, s1, s2, l, q⟩ := h
  have t1 : Sm 7600 x.num := s1.t.mono (by omega)
  have t2 : Sm 7600 (x.den : Int) := s1.b.mono (by omega)
  have t3 : Sm 7600 y.num := s2.t.mono (by omega)
  have t4 : Sm 7600 (y.den : Int) := s2.b.mono (by omega)
  refine ⟨_, (pss_cons (ps_asg (pv 0) (pg_tup (by rfl) (pgs_cons (pg_tup (by rfl) (pgs_cons (pg_name (i := 1) sc_cleared.nd rfl (.inl rfl)) (pgs_cons (pg_name (i := 2) sc_cleared.nd rfl (.inl rfl)) pgs_nil))) (pgs_cons (pg_tup (by rfl) (pgs_cons (pg_name (i := 3) sc_cleared.nd rfl (.inl rfl)) (pgs_cons (pg_name (i := 4) sc_cleared.nd rfl (.inl rfl)) pgs_nil))) pgs_nil))))
    (pss_cons (ps_set (i := 5) sc_cleared.nd rfl (.inl rfl) (pe_kn G_common_divisor (hr.mono (by decide)) (by rfl) (pa_cons (pv 2) (pa_cons (pv 4) pa_nil))))
    (pss_one (ps_ret (pe_tup (pa_cons (pe_op op_mulW (pv 1) (pe_op op_fdivW (pv 4) (pv 5))) (pa_cons (pe_op op_mulW (pv 3) (pe_op op_fdivW (pv 2) (pv 5))) (pa_cons (pe_op op_mulW (pe_op op_fdivW (pv 2) (pv 5)) (pv 4)) pa_nil)))))))), ?_⟩
  show (_ : TS) _ [some v, none, none, none, none, none] _
  obtain ⟨g, dx, dy, eg, g0, gs, ex, ey, fx, fy, px, py⟩ := gcd_quot (den_pos x) (den_pos y) t2
  have zx : Sm n dx := sm_quot (by omega) ex s1.b
  have zy : Sm m dy := sm_quot (by omega) ey s2.b
  have wx : Sm 7600 dx := zx.mono (by omega)
  have wy : Sm 7600 dy := zy.mono (by omega)
  repeat walk_at "g"
  refine ⟨_, _, rfl, ?_⟩
  rw [eg]
  repeat walk_at "g"
  refine r_i (Sm.cdiv g0 gs) ?_
  rw [fy]
  repeat walk_at "g"
  refine r_i (Sm.cdiv g0 gs) ?_
  rw [fx]
  repeat walk_at "g"
  refine r_i (Sm.cdiv g0 gs) ?_
  rw [fx]
  repeat walk_at "g"
  have hx := hden x
  have hy := hden y
  have cx := congrArg (Int.cast (R := Rat)) ex
  have cy := congrArg (Int.cast (R := Rat)) ey
  simp only [Rat.intCast_mul] at cx cy
  refine q _ _ (x.num * dy) (y.num * dx) (dx * y.den) (by walk_at "same") (by walk_at "lq") (Int.mul_pos px (den_pos y)) ?_ ?_ (s1.t.mul zy) ((s2.t.mul zx).mono (by omega)) (zx.mul s2.b)
  · simp only [Rat.intCast_mul]
    grind
  · simp only [Rat.intCast_mul]
    grind
theorem ok_way (F : Fn K mg "way" s_way) (G_cleared : Kn P w K mg base 2 "cleared" ["p"] (spCleared K)) : Kn P w K mg base 3 "way" ["p", "q"] (spWayI K) := by
  refine F.kn sc_way (fun vs H Q E h => ?_) (fun f cdv A outer s H vs Q E hr h => ?_) (fun _ _ _ _ _ _ us hl => match us, hl with | [_, _], _ => rfl)
  · obtain ⟨v, w, x, y, x', y', n, m, rfl, _⟩ := h
    rfl
  obtain ⟨v, w, x, y, x', y', n, m, rfl, h1, h2, s1, s2, s3, s4, l1, l2, q⟩ := h
  refine ⟨_, (pss_cons (ps_asg (pe_kn G_cleared (hr.mono (by decide)) (by rfl) (pa_cons (pv 0) pa_nil)) (pg_tup (by rfl) (pgs_cons (pg_name (i := 2) sc_way.nd rfl (.inl rfl)) (pgs_cons (pg_name (i := 3) sc_way.nd rfl (.inl rfl)) (pgs_cons (pg_name (i := 4) sc_way.nd rfl (.inl rfl)) pgs_nil)))))
    (pss_cons (ps_asg (pe_kn G_cleared (hr.mono (by decide)) (by rfl) (pa_cons (pv 1) pa_nil)) (pg_tup (by rfl) (pgs_cons (pg_name (i := 5) sc_way.nd rfl (.inl rfl)) (pgs_cons (pg_name (i := 6) sc_way.nd rfl (.inl rfl)) (pgs_cons (pg_name (i := 7) sc_way.nd rfl (.inl rfl)) pgs_nil)))))
    (pss_one (ps_ret (pe_tup (pa_cons (pe_op op_sub (pe_op op_mulW (pv 5) (pv 4)) (pe_op op_mulW (pv 2) (pv 7))) (pa_cons (pe_op op_sub (pe_op op_mulW (pv 6) (pv 4)) (pe_op op_mulW (pv 3) (pv 7))) (pa_cons (pe_op op_mulW (pv 4) (pv 7)) pa_nil)))))))), ?_⟩
  show (_ : TS) _ [some v, some w, none, none, none, none, none, none] _
  repeat walk_at "g"
  refine ⟨_, x, y, n, n, rfl, h1, s1, s2, by omega, fun r1 H1 X Y W g1 k1 w1 ex ey a1 a2 a3 => ?_⟩
  have b1 : Sm 7600 X := a1.mono (by omega)
  have b2 : Sm 7600 Y := a2.mono (by omega)
  have b3 : Sm 7600 W := a3.mono (by omega)
  repeat walk_at "g"
  refine ⟨_, x', y', m, m, rfl, by walk_at "fq", s3, s4, by omega, fun r2 H2 X' Y' W' g2 k2 w2 ex' ey' a4 a5 a6 => ?_⟩
  have b4 : Sm 7600 X' := a4.mono (by omega)
  have b5 : Sm 7600 Y' := a5.mono (by omega)
  have b6 : Sm 7600 W' := a6.mono (by omega)
  repeat walk_at "g"
  refine q _ _ _ _ _ (by walk_at "same") (Lq.mk (by assumption)) (Int.mul_pos w1 w2) ?_ ?_ ?_ ?_ (a3.mul a6)
  · simp only [Rat.intCast_sub, Rat.intCast_mul]
    grind
  · simp only [Rat.intCast_sub, Rat.intCast_mul]
    grind
  · exact Sm.sub ((a4.mul a3).mono (by omega)) (a1.mul a6)
  · exact Sm.sub ((a5.mul a3).mono (by omega)) (a2.mul a6)
theorem ok_one_form (F : Fn K mg "one_form" s_one_form) (G_common_divisor : Kn P w K mg base 1 "common_divisor" ["one", "other"] spGcd) : Kn P w K mg base 2 "one_form" ["a", "b", "c"] (spOneForm K) := by
  refine F.kn sc_one_form (fun vs H Q E h => ?_) (fun f cdv A outer s H vs Q E hr h => ?_) (fun _ _ _ _ _ _ us hl => match us, hl with | [_, _, _], _ => rfl)
  · obtain ⟨a, b, c, n, rfl, _⟩ := h
    rfl
  obtain ⟨a, b, c, n, rfl, nz, sa, sb, sc, ln, q⟩ := h
  refine ⟨_, (pss_cons (ps_set (i := 3) sc_one_form.nd rfl (.inl rfl) (pe_kn G_common_divisor (hr.mono (by decide)) (by rfl) (pa_cons (pe_kn G_common_divisor (hr.mono (by decide)) (by rfl) (pa_cons (pv 0) (pa_cons (pv 1) pa_nil))) (pa_cons (pv 2) pa_nil))))
    (pss_cons (ps_if (PW.pt (pw_or (pt_cmpR op_lt (pv 0) pe_int (nomark _)) (pw_or1 (PW.pt (pw_and (pt_cmpR op_eq (pv 0) pe_int (nomark _)) (pw_and1 (pt_cmpR op_lt (pv 1) pe_int (nomark _))))))))
    (pss_one (ps_set (i := 3) sc_one_form.nd rfl (.inl rfl) (pe_un un_neg (pv 3))))
    pss_nil)
    (pss_one (ps_ret (pe_tup (pa_cons (pe_op op_fdivZ (pv 0) (pv 3)) (pa_cons (pe_op op_fdivZ (pv 1) (pv 3)) (pa_cons (pe_op op_fdivZ (pv 2) (pv 3)) pa_nil)))))))), ?_⟩
  show (_ : TS) _ [some (.int a), some (.int b), some (.int c), none] _
  have ne := form_ne (c := c) nz
  have fs : Sm 8000 (formG a b c) := (form_sm nz sa sb).mono ln
  repeat walk_at "st"
  refine ⟨_, _, rfl, ?_⟩
  repeat walk_at "st"
  refine ⟨_, _, rfl, ?_⟩
  repeat walk_at "st"
  refine r_cut (fun σ H' => σ = [some (.int a), some (.int b), some (.int c), some (.int (formG a b c))] ∧ H' = H) ?_ (fun N J => ?_)
  · rintro σ H' ⟨rfl, rfl⟩
    have cd : ∀ i : Int, CDivZ i (formG a b c) := fun i => cdivZ ne fs (by decide) (by decide)
    repeat walk_at "st"
    refine r_i (cd _) ?_
    repeat walk_at "st"
    refine r_i (cd _) ?_
    repeat walk_at "st"
    refine r_i (cd _) ?_
    repeat walk_at "st"
    refine ⟨sz rfl, fun p hp => ?_⟩
    obtain ⟨d1, d2, d3⟩ := form_dvd a b c
    have e1 := fdiv_dvd ne d1
    have e2 := fdiv_dvd ne d2
    have e3 := fdiv_dvd ne d3
    exact q _ _ _ _ _ _ (same_new hp _) ⟨p, rfl, tupOf upd_same⟩ (form_ln nz e1 e2 e3) ne e1 e2 e3 (sm_quot ne e1 sa) (sm_quot ne e2 sb) (sm_quot ne e3 sc)
  · repeat walk_at "st"
    refine r_ite (fun c1 => ?_) (fun c1 => ?_)
    · repeat walk_at "st"
      exact J _ _ ⟨by unfold formG; rw [decide_eq_true (show a < 0 ∨ (a = 0 ∧ b < 0) from .inl c1)]; rfl, rfl⟩
    · repeat walk_at "st"
      refine r_ite (fun c2 => ?_) (fun c2 => ?_)
      · repeat walk_at "st"
        refine r_ite (fun c3 => ?_) (fun c3 => ?_)
        · repeat walk_at "st"
          exact J _ _ ⟨by unfold formG; rw [decide_eq_true (show a < 0 ∨ (a = 0 ∧ b < 0) from .inr ⟨c2, c3⟩)]; rfl, rfl⟩
        · repeat walk_at "st"
          exact J _ _ ⟨by unfold formG; rw [decide_eq_false (show ¬ (a < 0 ∨ (a = 0 ∧ b < 0)) by omega)]; rfl, rfl⟩
      · repeat walk_at "st"
        exact J _ _ ⟨by unfold formG; rw [decide_eq_false (show ¬ (a < 0 ∨ (a = 0 ∧ b < 0)) by omega)]; rfl, rfl⟩
theorem ok_through (F : Fn K mg "through" s_through) (G_cleared : Kn P w K mg base 2 "cleared" ["p"] (spCleared K)) (G_one_form : Kn P w K mg base 2 "one_form" ["a", "b", "c"] (spOneForm K)) : Kn P w K mg base 3 "through" ["p", "q"] (spThru K) := by
  refine F.kn sc_through (fun vs H Q E h => ?_) (fun f cdv A outer s H vs Q E hr h => ?_) (fun _ _ _ _ _ _ us hl => match us, hl with | [_, _], _ => rfl)
  · obtain ⟨v, w, x, y, x', y', n, m, rfl, _⟩ := h
    rfl
  obtain ⟨v, w, x, y, x', y', n, m, rfl, h1, h2, s1, s2, s3, s4, l, q0, q1⟩ := h
  refine ⟨_, (pss_cons (ps_if (pt_cmpR (op_eqD hr.units) (pv 0) (pv 1) (nomark _))
    (pss_one (ps_ret pe_non))
    pss_nil)
    (pss_cons (ps_asg (pe_kn G_cleared (hr.mono (by decide)) (by rfl) (pa_cons (pv 0) pa_nil)) (pg_tup (by rfl) (pgs_cons (pg_name (i := 2) sc_through.nd rfl (.inl rfl)) (pgs_cons (pg_name (i := 3) sc_through.nd rfl (.inl rfl)) (pgs_cons (pg_name (i := 4) sc_through.nd rfl (.inl rfl)) pgs_nil)))))
    (pss_cons (ps_asg (pe_kn G_cleared (hr.mono (by decide)) (by rfl) (pa_cons (pv 1) pa_nil)) (pg_tup (by rfl) (pgs_cons (pg_name (i := 5) sc_through.nd rfl (.inl rfl)) (pgs_cons (pg_name (i := 6) sc_through.nd rfl (.inl rfl)) (pgs_cons (pg_name (i := 7) sc_through.nd rfl (.inl rfl)) pgs_nil)))))
    (pss_one (ps_ret (pe_kn G_one_form (hr.mono (by decide)) (by rfl) (pa_cons (pe_op op_sub (pe_op op_mulW (pv 3) (pv 7)) (pe_op op_mulW (pv 6) (pv 4))) (pa_cons (pe_op op_sub (pe_op op_mulW (pv 5) (pv 4)) (pe_op op_mulW (pv 2) (pv 7))) (pa_cons (pe_op op_sub (pe_op op_mulW (pv 5) (pv 3)) (pe_op op_mulW (pv 2) (pv 6))) pa_nil))))))))), ?_⟩
  show (_ : TS) _ [some v, some w, none, none, none, none, none, none] _
  refine r_seq ?_
  repeat walk_at "g"
  refine r_eqPd h1 h2 ?_
  repeat walk_at "g"
  refine r_ite (fun c => ?_) (fun c => ?_)
  · repeat walk_at "g"
    exact q0 c
  repeat walk_at "g"
  refine ⟨_, x, y, n, n, rfl, h1, s1, s2, by omega, fun r1 H1 X Y W g1 k1 w1 ex ey a1 a2 a3 => ?_⟩
  have b1 : Sm 7600 X := a1.mono (by omega)
  have b2 : Sm 7600 Y := a2.mono (by omega)
  have b3 : Sm 7600 W := a3.mono (by omega)
  repeat walk_at "g"
  refine ⟨_, x', y', m, m, rfl, by walk_at "fq", s3, s4, by omega, fun r2 H2 X' Y' W' g2 k2 w2 ex' ey' a4 a5 a6 => ?_⟩
  have b4 : Sm 7600 X' := a4.mono (by omega)
  have b5 : Sm 7600 Y' := a5.mono (by omega)
  have b6 : Sm 7600 W' := a6.mono (by omega)
  repeat walk_at "g"
  have nw := ratz (show W ≠ 0 by omega)
  have nw' := ratz (show W' ≠ 0 by omega)
  have z1 : Sm (n + n + (m + m) + 1) (Y * W' - Y' * W) := (a2.mul a6).sub ((a5.mul a3).mono (by omega))
  have z2 : Sm (n + n + (m + m) + 1) (X' * W - X * W') := Sm.sub ((a4.mul a3).mono (by omega)) (a1.mul a6)
  have z3 : Sm (n + n + (m + m) + 1) (X' * Y - X * Y') := Sm.sub ((a4.mul a2).mono (by omega)) (a1.mul a5)
  refine ⟨_, _, _, n + n + (m + m) + 1, rfl, ?_, z1, z2, z3, by omega, fun r H' a b cc g g3 k3 hL gn e1 e2 e3 c1 c2 c3 => ?_⟩
  · rintro ⟨e1, e2⟩
    have f1 := congrArg (Int.cast (R := Rat)) e1
    have f2 := congrArg (Int.cast (R := Rat)) e2
    simp only [Rat.intCast_sub, Rat.intCast_mul, Rat.intCast_zero] at f1 f2
    have d1 : (x' - x) * ((W : Rat) * W') = 0 := by grind
    have d2 : (y - y') * ((W : Rat) * W') = 0 := by grind
    have nn : (W : Rat) * W' ≠ 0 := fun z => by rcases Rat.mul_eq_zero.mp z with z | z <;> contradiction
    refine c ⟨?_, ?_⟩
    · rcases Rat.mul_eq_zero.mp d1 with z | z
      · grind
      · contradiction
    · rcases Rat.mul_eq_zero.mp d2 with z | z
      · grind
      · contradiction
  have f1 := congrArg (Int.cast (R := Rat)) e1
  have f2 := congrArg (Int.cast (R := Rat)) e2
  have f3 := congrArg (Int.cast (R := Rat)) e3
  simp only [Rat.intCast_sub, Rat.intCast_mul] at f1 f2 f3
  have ng := ratz gn
  have mm : ∀ u v : Rat, (g : Rat) * (u - v) = 0 → u = v := fun u v z => by
    rcases Rat.mul_eq_zero.mp z with z | z
    · contradiction
    · grind
  refine q1 c _ _ a b cc (by walk_at "same") k3 hL (mm _ _ ?_) (mm _ _ ?_) c1 c2 c3
  · grind
  · grind
theorem ok_line_at (F : Fn K mg "line_at" s_line_at) (G_cleared : Kn P w K mg base 2 "cleared" ["p"] (spCleared K)) (G_one_form : Kn P w K mg base 2 "one_form" ["a", "b", "c"] (spOneForm K)) : Kn P w K mg base 3 "line_at" ["p", "a", "b"] (spLineAt K) := by
  refine F.kn sc_line_at (fun vs H Q E h => ?_) (fun f cdv A outer s H vs Q E hr h => ?_) (fun _ _ _ _ _ _ us hl => match us, hl with | [_, _, _], _ => rfl)
  · obtain ⟨v, x, y, a, b, n, k, rfl, _⟩ := h
    rfl
  obtain ⟨v, x, y, a, b, n, k, rfl, h1, nz, s1, s2, s3, s4, l, q⟩ := h
  have t3 : Sm 2600 a := s3.mono (by omega)
  have t4 : Sm 2600 b := s4.mono (by omega)
  refine ⟨_, (pss_cons (ps_asg (pe_kn G_cleared (hr.mono (by decide)) (by rfl) (pa_cons (pv 0) pa_nil)) (pg_tup (by rfl) (pgs_cons (pg_name (i := 3) sc_line_at.nd rfl (.inl rfl)) (pgs_cons (pg_name (i := 4) sc_line_at.nd rfl (.inl rfl)) (pgs_cons (pg_name (i := 5) sc_line_at.nd rfl (.inl rfl)) pgs_nil)))))
    (pss_one (ps_ret (pe_kn G_one_form (hr.mono (by decide)) (by rfl) (pa_cons (pe_op op_mulW (pv 1) (pv 5)) (pa_cons (pe_op op_mulW (pv 2) (pv 5)) (pa_cons (pe_op op_add (pe_op op_mulW (pv 1) (pv 3)) (pe_op op_mulW (pv 2) (pv 4))) pa_nil))))))), ?_⟩
  show (_ : TS) _ [some v, some (.int a), some (.int b), none, none, none] _
  repeat walk_at "g"
  refine ⟨_, x, y, n, n, rfl, h1, s1, s2, by omega, fun r1 H1 X Y W g1 k1 w1 ex ey a1 a2 a3 => ?_⟩
  have b1 : Sm 7600 X := a1.mono (by omega)
  have b2 : Sm 7600 Y := a2.mono (by omega)
  have b3 : Sm 7600 W := a3.mono (by omega)
  repeat walk_at "g"
  have nw := ratz (show W ≠ 0 by omega)
  have z1 : Sm (k + (n + n) + 1) (a * W) := (s3.mul a3).mono (by omega)
  have z2 : Sm (k + (n + n) + 1) (b * W) := (s4.mul a3).mono (by omega)
  have z3 : Sm (k + (n + n) + 1) (a * X + b * Y) := (s3.mul a1).add (s4.mul a2)
  have nW : W ≠ 0 := by omega
  refine ⟨_, _, _, k + (n + n) + 1, rfl, ?_, z1, z2, z3, by omega, fun r H' A B C g g3 k3 hL gn e1 e2 e3 c1 c2 c3 => ?_⟩
  · rintro ⟨e1, e2⟩
    rcases Int.mul_eq_zero.mp e1 with z | z
    · rcases Int.mul_eq_zero.mp e2 with y | y
      · exact nz ⟨z, y⟩
      · exact nW y
    · exact nW z
  have f1 := congrArg (Int.cast (R := Rat)) e1
  have f2 := congrArg (Int.cast (R := Rat)) e2
  have f3 := congrArg (Int.cast (R := Rat)) e3
  simp only [Rat.intCast_add, Rat.intCast_mul] at f1 f2 f3
  have ng := ratz gn
  have mm : ∀ u v : Rat, (g : Rat) * (u - v) = 0 → u = v := fun u v z => by
    rcases Rat.mul_eq_zero.mp z with z | z
    · contradiction
    · grind
  have m2 : ∀ u v : Rat, (g : Rat) * W * (u - v) = 0 → u = v := fun u v z => by
    rcases Rat.mul_eq_zero.mp z with z | z
    · rcases Rat.mul_eq_zero.mp z with z | z <;> contradiction
    · grind
  refine q _ _ A B C (by walk_at "same") k3 hL (mm _ _ ?_) (m2 _ _ ?_) c1 c2 c3
  · grind
  · grind
theorem ok_upright (F : Fn K mg "upright" s_upright) (G_line_at : Kn P w K mg base 3 "line_at" ["p", "a", "b"] (spLineAt K)) : Kn P w K mg base 4 "upright" ["p", "line"] (spAlong K RUp) := by
  refine F.kn sc_upright (fun vs H Q E h => ?_) (fun f cdv A outer s H vs Q E hr h => ?_) (fun _ _ _ _ _ _ us hl => match us, hl with | [_, _], _ => rfl)
  · obtain ⟨v, w, x, y, a, b, c, n, k, rfl, _⟩ := h
    rfl
  obtain ⟨v, w, x, y, a, b, c, n, k, rfl, h1, h2, nz, s1, s2, s3, s4, l, q⟩ := h
  refine ⟨_, (pss_one (ps_ret (pe_kn G_line_at (hr.mono (by decide)) (by rfl) (pa_cons (pv 0) (pa_cons (pe_ix ix_tup (pv 1) pe_int (fun _ _ => rfl)) (pa_cons (pe_un un_neg (pe_ix ix_tup (pv 1) pe_int (fun _ _ => rfl))) pa_nil)))))), ?_⟩
  show (_ : TS) _ [some v, some w] _
  repeat walk_at "g"
  refine ⟨_, x, y, _, _, n, k, rfl, h1, (by omega), s1, s2, s4, s3.neg, l, fun r H' A B C g k3 hL o e c1 c2 c3 => ?_⟩
  refine q _ _ A B C g k3 hL o ?_ c1 c2 c3
  unfold RUp
  simp only [Rat.intCast_neg] at e
  grind
theorem ok_meet (F : Fn K mg "meet" s_meet) (G_fraction : Kn P w K mg base 2 "fraction" ["top", "bottom"] (spFrQ K)) : Kn P w K mg base 3 "meet" ["line", "other"] (spMeet K) := by
  refine F.kn sc_meet (fun vs H Q E h => ?_) (fun f cdv A outer s H vs Q E hr h => ?_) (fun _ _ _ _ _ _ us hl => match us, hl with | [_, _], _ => rfl)
  · obtain ⟨v, w, a, b, c, a', b', c', n, m, rfl, _⟩ := h
    rfl
  obtain ⟨v, w, a, b, c, a', b', c', n, m, rfl, h1, h2, s1, s2, s3, s4, s5, s6, l, q0, q1⟩ := h
  have t1 : Sm 7600 a := s1.mono (by omega)
  have t2 : Sm 7600 b := s2.mono (by omega)
  have t3 : Sm 7600 c := s3.mono (by omega)
  have t4 : Sm 7600 a' := s4.mono (by omega)
  have t5 : Sm 7600 b' := s5.mono (by omega)
  have t6 : Sm 7600 c' := s6.mono (by omega)
  refine ⟨_, (pss_cons (ps_asg (pv 0) (pg_tup (by rfl) (pgs_cons (pg_name (i := 2) sc_meet.nd rfl (.inl rfl)) (pgs_cons (pg_name (i := 3) sc_meet.nd rfl (.inl rfl)) (pgs_cons (pg_name (i := 4) sc_meet.nd rfl (.inl rfl)) pgs_nil)))))
    (pss_cons (ps_asg (pv 1) (pg_tup (by rfl) (pgs_cons (pg_name (i := 5) sc_meet.nd rfl (.inl rfl)) (pgs_cons (pg_name (i := 6) sc_meet.nd rfl (.inl rfl)) (pgs_cons (pg_name (i := 7) sc_meet.nd rfl (.inl rfl)) pgs_nil)))))
    (pss_cons (ps_set (i := 8) sc_meet.nd rfl (.inl rfl) (pe_op op_sub (pe_op op_mulW (pv 2) (pv 6)) (pe_op op_mulW (pv 3) (pv 5))))
    (pss_cons (ps_if (pt_cmpR op_eq (pv 8) pe_int (nomark _))
    (pss_one (ps_ret pe_non))
    pss_nil)
    (pss_one (ps_ret (pe_tup (pa_cons (pe_kn G_fraction (hr.mono (by decide)) (by rfl) (pa_cons (pe_op op_sub (pe_op op_mulW (pv 4) (pv 6)) (pe_op op_mulW (pv 3) (pv 7))) (pa_cons (pv 8) pa_nil))) (pa_cons (pe_kn G_fraction (hr.mono (by decide)) (by rfl) (pa_cons (pe_op op_sub (pe_op op_mulW (pv 2) (pv 7)) (pe_op op_mulW (pv 4) (pv 5))) (pa_cons (pv 8) pa_nil))) pa_nil))))))))), ?_⟩
  show (_ : TS) _ [some v, some w, none, none, none, none, none, none, none] _
  repeat walk_at "g"
  refine r_seq ?_
  repeat walk_at "g"
  refine r_ite (fun d => ?_) (fun d => ?_)
  · repeat walk_at "g"
    exact q0 (by omega)
  have nd : a * b' ≠ b * a' := by omega
  have rd := cross_rat nd
  have sd : Sm (n + m + 1) (a * b' - b * a') := (s1.mul s5).sub (s2.mul s4)
  repeat walk_at "g"
  refine ⟨_, _, ((c : Rat) * b' - b * c') / (a * b' - b * a'), rfl, d, sd.mono (by omega), ?_, fun r1 H1 g1 k1 => ?_⟩
  · simp only [Rat.intCast_sub, Rat.intCast_mul]
    grind
  repeat walk_at "g"
  refine ⟨_, _, ((a : Rat) * c' - c * a') / (a * b' - b * a'), rfl, d, sd.mono (by omega), ?_, fun r2 H2 g2 k2 => ?_⟩
  · simp only [Rat.intCast_sub, Rat.intCast_mul]
    grind
  repeat walk_at "g"
  have ex : ((c : Rat) * b' - b * c') / (a * b' - b * a') = Rat.divInt (c * b' - b * c') (a * b' - b * a') := divInt_of d (by simp only [Rat.intCast_sub, Rat.intCast_mul]; grind)
  have ey : ((a : Rat) * c' - c * a') / (a * b' - b * a') = Rat.divInt (a * c' - c * a') (a * b' - b * a') := divInt_of d (by simp only [Rat.intCast_sub, Rat.intCast_mul]; grind)
  clear t1 t2 t3 t4 t5 t6
  refine q1 nd _ _ (((c : Rat) * b' - b * c') / (a * b' - b * a')) (((a : Rat) * c' - c * a') / (a * b' - b * a')) (by walk_at "same") (by walk_at "fq") (by grind) (by grind) ?_ ?_
  · rw [ex]
    exact Sz.divInt d ((s3.mul s5).sub (s2.mul s6)) sd
  · rw [ey]
    exact Sz.divInt d ((s1.mul s6).sub (s3.mul s4)) sd
theorem ok_foot (F : Fn K mg "foot" s_foot) (G_upright : Kn P w K mg base 4 "upright" ["p", "line"] (spAlong K RUp)) (G_meet : Kn P w K mg base 3 "meet" ["line", "other"] (spMeet K)) : Kn P w K mg base 5 "foot" ["p", "line"] (spFoot K) := by
  refine F.kn sc_foot (fun vs H Q E h => ?_) (fun f cdv A outer s H vs Q E hr h => ?_) (fun _ _ _ _ _ _ us hl => match us, hl with | [_, _], _ => rfl)
  · obtain ⟨v, w, x, y, a, b, c, n, k, rfl, _⟩ := h
    rfl
  obtain ⟨v, w, x, y, a, b, c, n, k, rfl, h1, h2, hl, s1, s2, s3, s4, s5, l, q⟩ := h
  refine ⟨_, (pss_one (ps_ret (pe_kn G_meet (hr.mono (by decide)) (by rfl) (pa_cons (pv 1) (pa_cons (pe_kn G_upright (hr.mono (by decide)) (by rfl) (pa_cons (pv 0) (pa_cons (pv 1) pa_nil))) pa_nil))))), ?_⟩
  show (_ : TS) _ [some v, some w] _
  repeat walk_at "g"
  refine ⟨_, _, x, y, a, b, c, n, k, rfl, h1, h2, hl.nz, s1, s2, s3, s4, by omega, fun r H' A B C g k3 hL o e c1 c2 c3 => ?_⟩
  repeat walk_at "g"
  have nd := up_ne hl hL e
  refine ⟨_, _, a, b, c, A, B, C, k, _, rfl, by walk_at "lq", k3, s3, s4, s5, c1, c2, c3, by omega, fun z => absurd z nd, fun _ r2 H2 fx fy g2 k4 o1 o2 z1 z2 => ?_⟩
  exact q _ _ fx fy (by walk_at "same") k4 o1 (up_way hL e o o2) z1 z2
theorem ok_mirror (F : Fn K mg "mirror" s_mirror) (G_beyond : Kn P w K mg base 5 "beyond" ["p", "q"] (spP2 K (fun x y x2 y2 => x2 + x2 - x) (fun x y x2 y2 => y2 + y2 - y))) (G_foot : Kn P w K mg base 5 "foot" ["p", "line"] (spFoot K)) : Kn P w K mg base 6 "mirror" ["p", "line"] (spMirror K) := by
  refine F.kn sc_mirror (fun vs H Q E h => ?_) (fun f cdv A outer s H vs Q E hr h => ?_) (fun _ _ _ _ _ _ us hl => match us, hl with | [_, _], _ => rfl)
  · obtain ⟨v, w, x, y, a, b, c, n, k, rfl, _⟩ := h
    rfl
  obtain ⟨v, w, x, y, a, b, c, n, k, rfl, h1, h2, hl, s1, s2, s3, s4, s5, l, q⟩ := h
  refine ⟨_, (pss_one (ps_ret (pe_kn G_beyond (hr.mono (by decide)) (by rfl) (pa_cons (pv 0) (pa_cons (pe_kn G_foot (hr.mono (by decide)) (by rfl) (pa_cons (pv 0) (pa_cons (pv 1) pa_nil))) pa_nil))))), ?_⟩
  show (_ : TS) _ [some v, some w] _
  repeat walk_at "g"
  refine ⟨_, _, x, y, a, b, c, n, k, rfl, h1, h2, hl, s1, s2, s3, s4, s5, by omega, fun r H' fx fy g k3 o1 o2 z1 z2 => ?_⟩
  repeat walk_at "g"
  refine ⟨_, _, x, y, fx, fy, n, _, rfl, by walk_at "fq", k3, s1, s2, z1, z2, by omega, fun r2 H2 g2 k4 => ?_⟩
  exact q _ _ fx fy (by walk_at "same") k4 o1 o2 z1 z2
theorem ok_about (F : Fn K mg "about" s_about) (G_way : Kn P w K mg base 3 "way" ["p", "q"] (spWayI K)) (G_fraction : Kn P w K mg base 2 "fraction" ["top", "bottom"] (spFrQ K)) : Kn P w K mg base 4 "about" ["p", "q"] (spAbout K) := by
  refine F.kn sc_about (fun vs H Q E h => ?_) (fun f cdv A outer s H vs Q E hr h => ?_) (fun _ _ _ _ _ _ us hl => match us, hl with | [_, _], _ => rfl)
  · obtain ⟨v, w, x, y, x', y', n, m, rfl, _⟩ := h
    rfl
  obtain ⟨v, w, x, y, x', y', n, m, rfl, h1, h2, s1, s2, s3, s4, l, q0, q1⟩ := h
  refine ⟨_, (pss_cons (ps_if (pt_cmpR (op_eqD hr.units) (pv 0) (pv 1) (nomark _))
    (pss_one (ps_ret pe_non))
    pss_nil)
    (pss_cons (ps_asg (pe_kn G_way (hr.mono (by decide)) (by rfl) (pa_cons (pv 0) (pa_cons (pv 1) pa_nil))) (pg_tup (by rfl) (pgs_cons (pg_name (i := 2) sc_about.nd rfl (.inl rfl)) (pgs_cons (pg_name (i := 3) sc_about.nd rfl (.inl rfl)) (pgs_cons (pg_name (i := 4) sc_about.nd rfl (.inl rfl)) pgs_nil)))))
    (pss_one (ps_ret (pe_tup (pa_cons (pe_ix ix_tup (pv 0) pe_int (fun _ _ => rfl)) (pa_cons (pe_ix ix_tup (pv 0) pe_int (fun _ _ => rfl)) (pa_cons (pe_kn G_fraction (hr.mono (by decide)) (by rfl) (pa_cons (pe_op op_add (pe_op op_mulW (pv 2) (pv 2)) (pe_op op_mulW (pv 3) (pv 3))) (pa_cons (pe_op op_mulW (pv 4) (pv 4)) pa_nil))) pa_nil)))))))), ?_⟩
  show (_ : TS) _ [some v, some w, none, none, none] _
  refine r_seq ?_
  repeat walk_at "w"
  refine r_eqPd h1 h2 ?_
  repeat walk_at "w"
  refine r_ite (fun c => ?_) (fun c => ?_)
  · repeat walk_at "w"
    exact q0 c
  repeat walk_at "w"
  refine ⟨_, _, x, y, x', y', n, m, rfl, h1, h2, s1, s2, s3, s4, by omega, by omega, fun r1 H1 X Y W g1 k1 w1 ex ey a1 a2 a3 => ?_⟩
  have nW : W ≠ 0 := by omega
  have sW : Sm 8000 (W * W) := (a3.mul a3).mono (by omega)
  have b1 : Sm 8000 X := a1.mono (by omega)
  have b2 : Sm 8000 Y := a2.mono (by omega)
  have b3 : Sm 8000 W := a3.mono (by omega)
  repeat walk_at "w"
  refine ⟨_, _, (x' - x) * (x' - x) + (y' - y) * (y' - y), rfl, Int.mul_ne_zero nW nW, sW, ?_, fun r2 H2 g2 k2 => ?_⟩
  · simp only [Rat.intCast_add, Rat.intCast_mul]
    grind
  repeat walk_at "w"
  refine q1 c _ _ (by walk_at "same") ?_
  refine Cq.mk (by assumption) ?_ ?_ ?_
  · walk_at "fq"
  · walk_at "fq"
  · walk_at "fq"
theorem ok_reached (F : Fn K mg "reached" s_reached) (G_fraction : Kn P w K mg base 2 "fraction" ["top", "bottom"] (spFrQ K)) : Kn P w K mg base 3 "reached" ["line", "centre", "short", "reach"] (spReached K) := by
  refine F.kn sc_reached (fun vs H Q E h => ?_) (fun f cdv A outer s H vs Q E hr h => ?_) (fun _ _ _ _ _ _ us hl => match us, hl with | [_, _, _, _], _ => rfl)
  · obtain ⟨v, w, u, a, b, c, X, Y, W, e, t, rfl, _⟩ := h
    rfl
  obtain ⟨v, w, u, a, b, c, X, Y, W, e, t, rfl, h1, h2, h3, np, wp, s1, s2, s3, s4, s5, s6, s7, s8, s9, q⟩ := h
  refine ⟨_, (pss_cons (ps_asg (pv 0) (pg_tup (by rfl) (pgs_cons (pg_name (i := 4) sc_reached.nd rfl (.inl rfl)) (pgs_cons (pg_name (i := 5) sc_reached.nd rfl (.inl rfl)) (pgs_cons (pg_name (i := 6) sc_reached.nd rfl (.inl rfl)) pgs_nil)))))
    (pss_cons (ps_asg (pv 1) (pg_tup (by rfl) (pgs_cons (pg_name (i := 7) sc_reached.nd rfl (.inl rfl)) (pgs_cons (pg_name (i := 8) sc_reached.nd rfl (.inl rfl)) (pgs_cons (pg_name (i := 9) sc_reached.nd rfl (.inl rfl)) pgs_nil)))))
    (pss_cons (ps_set (i := 10) sc_reached.nd rfl (.inl rfl) (pe_op op_add (pe_op op_mulW (pv 4) (pv 4)) (pe_op op_mulW (pv 5) (pv 5))))
    (pss_cons (ps_asg (pv 3) (pg_tup (by rfl) (pgs_cons (pg_name (i := 11) sc_reached.nd rfl (.inl rfl)) (pgs_cons (pg_name (i := 12) sc_reached.nd rfl (.inl rfl)) pgs_nil))))
    (pss_cons (ps_set (i := 13) sc_reached.nd rfl (.inl rfl) (pe_op op_add (pe_op op_mulW (pe_op op_add (pe_op op_mulW (pv 10) (pv 7)) (pe_op op_mulW (pv 4) (pv 2))) (pv 12)) (pe_op op_mulW (pv 5) (pv 11))))
    (pss_cons (ps_set (i := 14) sc_reached.nd rfl (.inl rfl) (pe_op op_sub (pe_op op_mulW (pe_op op_add (pe_op op_mulW (pv 10) (pv 8)) (pe_op op_mulW (pv 5) (pv 2))) (pv 12)) (pe_op op_mulW (pv 4) (pv 11))))
    (pss_one (ps_ret (pe_tup (pa_cons (pe_kn G_fraction (hr.mono (by decide)) (by rfl) (pa_cons (pv 13) (pa_cons (pe_op op_mulW (pe_op op_mulW (pv 9) (pv 10)) (pv 12)) pa_nil))) (pa_cons (pe_kn G_fraction (hr.mono (by decide)) (by rfl) (pa_cons (pv 14) (pa_cons (pe_op op_mulW (pe_op op_mulW (pv 9) (pv 10)) (pv 12)) pa_nil))) pa_nil))))))))))), ?_⟩
  show (_ : TS) _ [some v, some w, some (.int e), some u, none, none, none, none, none, none, none, none, none, none, none] _
  clear s8
  repeat walk_at "w"
  have nn : a * a + b * b ≠ 0 := by omega
  have nb : W * (a * a + b * b) * (t.den : Int) ≠ 0 := Int.mul_ne_zero (Int.mul_ne_zero (by omega) nn) (den_ne t)
  have sb : Sm 5234 (W * (a * a + b * b) * (t.den : Int)) := (Sm.mul (Sm.mul s5 (Sm.addm (Sm.mul s1 s1) (Sm.mul s2 s2))) s9).mono (by decide)
  have ht := hden t
  have dt := den_ne' t
  have rn := ratz nn
  have rw_ := ratz (show W ≠ 0 by omega)
  have ex : (((a : Rat) * a + b * b) * X + a * e + b * t) / (W * ((a : Rat) * a + b * b)) = Rat.divInt (((a * a + b * b) * X + a * e) * (t.den : Int) + b * t.num) (W * (a * a + b * b) * (t.den : Int)) := by
    refine divInt_of nb ?_
    simp only [Rat.intCast_add, Rat.intCast_mul] at rn ⊢
    grind
  have ey : (((a : Rat) * a + b * b) * Y + b * e - a * t) / (W * ((a : Rat) * a + b * b)) = Rat.divInt (((a * a + b * b) * Y + b * e) * (t.den : Int) - a * t.num) (W * (a * a + b * b) * (t.den : Int)) := by
    refine divInt_of nb ?_
    simp only [Rat.intCast_add, Rat.intCast_sub, Rat.intCast_mul] at rn ⊢
    grind
  refine ⟨_, _, (((a : Rat) * a + b * b) * X + a * e + b * t) / (W * ((a : Rat) * a + b * b)), rfl, nb, sb.mono (by decide), ?_, fun r1 H1 g1 k1 => ?_⟩
  · simp only [Rat.intCast_add, Rat.intCast_mul] at rn ⊢
    grind
  repeat walk_at "w"
  refine ⟨_, _, (((a : Rat) * a + b * b) * Y + b * e - a * t) / (W * ((a : Rat) * a + b * b)), rfl, nb, sb.mono (by decide), ?_, fun r2 H2 g2 k2 => ?_⟩
  · simp only [Rat.intCast_add, Rat.intCast_sub, Rat.intCast_mul] at rn ⊢
    grind
  repeat walk_at "w"
  refine q _ _ _ _ (by walk_at "same") (by walk_at "fq") rfl rfl ?_ ?_
  · rw [ex]
    refine Sz.divInt nb ?_ (sb.mono (by decide))
    exact (Sm.addm (Sm.mul (Sm.addm (Sm.mul (Sm.addm (Sm.mul s1 s1) (Sm.mul s2 s2)) s3) (Sm.mul s1 s6)) s9) (Sm.mul s2 s7)).mono (by decide)
  · rw [ey]
    refine Sz.divInt nb ?_ (sb.mono (by decide))
    exact (Sm.subm (Sm.mul (Sm.addm (Sm.mul (Sm.addm (Sm.mul s1 s1) (Sm.mul s2 s2)) s4) (Sm.mul s2 s6)) s9) (Sm.mul s1 s7)).mono (by decide)
theorem ok_line_cuts (F : Fn K mg "line_cuts" s_line_cuts) (G_cleared : Kn P w K mg base 2 "cleared" ["p"] (spCleared K)) (G_fraction : Kn P w K mg base 2 "fraction" ["top", "bottom"] (spFrQ K)) (G_root : Kn P w K mg base 2 "root" ["one"] (spRootQ K)) (G_reached : Kn P w K mg base 3 "reached" ["line", "centre", "short", "reach"] (spReached K)) : Kn P w K mg base 4 "line_cuts" ["line", "ring"] (spCuts K) := by
  refine F.kn sc_line_cuts (fun vs H Q E h => ?_) (fun f cdv A outer s H vs Q E hr h => ?_) (fun _ _ _ _ _ _ us hl => match us, hl with | [_, _], _ => rfl)
  · obtain ⟨v, w, a, b, c, x, y, s, d, rfl, _⟩ := h
    rfl
  obtain ⟨v, w, a, b, c, x, y, s', d, rfl, h1, hl, h2, s1, s2, s3, s4, s5, s6, ⟨ed⟩, q1, q2, q3⟩ := h
  have t1 := s6.t
  have t2 := s6.b
  refine ⟨_, (pss_cons (ps_asg (pv 0) (pg_tup (by rfl) (pgs_cons (pg_name (i := 2) sc_line_cuts.nd rfl (.inl rfl)) (pgs_cons (pg_name (i := 3) sc_line_cuts.nd rfl (.inl rfl)) (pgs_cons (pg_name (i := 4) sc_line_cuts.nd rfl (.inl rfl)) pgs_nil)))))
    (pss_cons (ps_asg (pe_kn G_cleared (hr.mono (by decide)) (by rfl) (pa_cons (pe_slice sl_tup (pv 1) po_none (po_some pe_int)) pa_nil)) (pg_tup (by rfl) (pgs_cons (pg_name (i := 5) sc_line_cuts.nd rfl (.inl rfl)) (pgs_cons (pg_name (i := 6) sc_line_cuts.nd rfl (.inl rfl)) (pgs_cons (pg_name (i := 7) sc_line_cuts.nd rfl (.inl rfl)) pgs_nil)))))
    (pss_cons (ps_asg (pe_ix ix_tup (pv 1) pe_int (fun _ _ => rfl)) (pg_tup (by rfl) (pgs_cons (pg_name (i := 8) sc_line_cuts.nd rfl (.inl rfl)) (pgs_cons (pg_name (i := 9) sc_line_cuts.nd rfl (.inl rfl)) pgs_nil))))
    (pss_cons (ps_set (i := 10) sc_line_cuts.nd rfl (.inl rfl) (pe_op op_sub (pe_op op_sub (pe_op op_mulW (pv 4) (pv 7)) (pe_op op_mulW (pv 2) (pv 5))) (pe_op op_mulW (pv 3) (pv 6))))
    (pss_cons (ps_set (i := 11) sc_line_cuts.nd rfl (.inl rfl) (pe_kn G_fraction (hr.mono (by decide)) (by rfl) (pa_cons (pe_op op_sub (pe_op op_mulW (pe_op op_mulW (pe_op op_mulW (pv 8) (pe_op op_add (pe_op op_mulW (pv 2) (pv 2)) (pe_op op_mulW (pv 3) (pv 3)))) (pv 7)) (pv 7)) (pe_op op_mulW (pe_op op_mulW (pv 10) (pv 10)) (pv 9))) (pa_cons (pv 9) pa_nil))))
    (pss_cons (ps_if (pt_cmpR op_lt (pe_ix ix_tup (pv 11) pe_int (fun _ _ => rfl)) pe_int (nomark _))
    (pss_one (ps_ret (pe_tup (pa_cons pe_str (pa_cons (pe_lst pa_nil) pa_nil)))))
    pss_nil)
    (pss_cons (ps_set (i := 12) sc_line_cuts.nd rfl (.inl rfl) (pe_kn G_root (hr.mono (by decide)) (by rfl) (pa_cons (pv 11) pa_nil)))
    (pss_cons (ps_if (pt_cmpR op_isNo (pv 12) pe_non (nomark _))
    (pss_one (ps_ret (pe_tup (pa_cons pe_str (pa_cons (pe_lst pa_nil) pa_nil)))))
    pss_nil)
    (pss_cons (ps_set (i := 13) sc_line_cuts.nd rfl (.inl rfl) (pe_kn G_reached (hr.mono (by decide)) (by rfl) (pa_cons (pv 0) (pa_cons (pe_tup (pa_cons (pv 5) (pa_cons (pv 6) (pa_cons (pv 7) pa_nil)))) (pa_cons (pv 10) (pa_cons (pv 12) pa_nil))))))
    (pss_cons (ps_set (i := 14) sc_line_cuts.nd rfl (.inl rfl) (pe_kn G_reached (hr.mono (by decide)) (by rfl) (pa_cons (pv 0) (pa_cons (pe_tup (pa_cons (pv 5) (pa_cons (pv 6) (pa_cons (pv 7) pa_nil)))) (pa_cons (pv 10) (pa_cons (pe_tup (pa_cons (pe_un un_neg (pe_ix ix_tup (pv 12) pe_int (fun _ _ => rfl))) (pa_cons (pe_ix ix_tup (pv 12) pe_int (fun _ _ => rfl)) pa_nil))) pa_nil))))))
    (pss_one (ps_ret (pe_tup (pa_cons pe_str (pa_cons (pe_ifExp (pt_cmpR op_gt (pv 3) pe_int (nomark _)) (pe_lst (pa_cons (pv 14) (pa_cons (pv 13) pa_nil))) (pe_lst (pa_cons (pv 13) (pa_cons (pv 14) pa_nil)))) pa_nil))))))))))))))), ?_⟩
  show (_ : TS) _ [some v, some w, none, none, none, none, none, none, none, none, none, none, none, none, none] _
  repeat walk_at "c2"
  rename_i ps Hs gs Ps r1 H1 X Y W g1 k1 wp ex ey a1 a2 a3 fs ks
  have nn := hl.sq
  have nW : W ≠ 0 := by omega
  have rW := ratz nW
  have hs := hden s'
  have ds := den_ne' s'
  have se : Sm 2724 (c * W - a * X - b * Y) := (Sm.subm (Sm.subm (Sm.mul s3 a3) (Sm.mul s1 a1)) (Sm.mul s2 a2)).mono (by decide)
  have es : ((c * W - a * X - b * Y : Int) : Rat) = (c - a * x - b * y) * W := by
    simp only [Rat.intCast_sub, Rat.intCast_mul]
    grind
  have eN' : ∀ sh : Int, (sh : Rat) = (c - a * x - b * y) * W → ((s'.num * (a * a + b * b) * W * W - sh * sh * (s'.den : Int) : Int) : Rat) = (d * W * W) * (s'.den : Int) := by
    intro sh hsh
    simp only [Rat.intCast_add, Rat.intCast_sub, Rat.intCast_mul]
    rw [hsh, ← hs, ed]
    grind
  have eN := eN' _ es
  clear eN'
  have sN : Sm 5660 (s'.num * (a * a + b * b) * W * W - (c * W - a * X - b * Y) * (c * W - a * X - b * Y) * (s'.den : Int)) := (Sm.subm (Sm.mul (Sm.mul (Sm.mul t1 (Sm.addm (Sm.mul s1 s1) (Sm.mul s2 s2))) a3) a3) (Sm.mul (Sm.mul se se) t2)).mono (by decide)
  have eq := divInt_of (den_ne s') eN
  have sq1 : Sz 5660 (d * W * W) := by rw [eq]; exact Sz.divInt (den_ne s') sN (t2.mono (by decide))
  have sq2 : Sm 211 ((d * W * W).den : Int) := Sz.dvd (den_ne s') eq t2
  have pW := pos_int wp
  refine ⟨_, _, d * W * W, rfl, den_ne s', t2.mono (by decide), eN, fun r2 H2 g2 k2 => ?_⟩
  generalize hsh : c * W - a * X - b * Y = sh at *
  repeat walk_at "c2"
  refine r_seq ?_
  repeat walk_at "c2"
  refine r_ite (fun n => ?_) (fun n => ?_)
  · repeat walk_at "c2"
    rename_i l3 H3 g3 n3 e3 o4 H4 g4 n4 e4
    have dn : d < 0 := by
      apply Rat.not_le.mp
      intro z
      have := num_lt.mp n
      have := mul_nn (mul_nn z (Rat.le_of_lt pW)) (Rat.le_of_lt pW)
      grind
    exact q1 dn _ l3 _ (by walk_at "same") (L2.Same.free (by walk_at "same") n3) (Ct0.mk e4 (g4 _ _ e3))
  have dp : 0 ≤ d := by
    have h0 : 0 ≤ d * W * W := by
      apply Rat.not_lt.mp
      intro z
      exact n (num_lt.mpr z)
    apply Rat.not_lt.mp
    intro z
    have : 0 ≤ -d := by grind
    have := mul_nn (mul_nn this (Rat.le_of_lt pW)) (Rat.le_of_lt pW)
    have e0 : d * W * W = 0 := by grind
    rcases Rat.mul_eq_zero.mp e0 with z1 | z1
    · rcases Rat.mul_eq_zero.mp z1 with z2 | z2
      · grind
      · exact rW z2
    · exact rW z1
  repeat walk_at "c2"
  refine ⟨_, d * W * W, rfl, k2, sq1.mono (by decide), fun no => ?_, fun r r0 er o5 H5 g5 k5 => ?_⟩
  · repeat walk_at "c2"
    refine r_seq ?_
    repeat walk_at "c2"
    rename_i l3 H3 g3 n3 e3 o4 H4 g4 n4 e4
    refine q2 dp ?_ _ l3 _ (by walk_at "same") (L2.Same.free (by walk_at "same") n3) (Ct0.mk e4 (g4 _ _ e3))
    rintro ⟨t, et⟩
    exact no ⟨t * W, by rw [← et]; grind⟩
  obtain ⟨u1, u2⟩ := root_sz r0 er sq1.t sq2
  have u3 := u2.mono (show 211 ≤ 5660 by decide)
  obtain ⟨po, rfl, _⟩ := id k5
  repeat walk_at "c2"
  refine r_seq ?_
  repeat walk_at "c2"
  refine r_isNR ?_
  repeat walk_at "c2"
  rename_i o6 H6 g6 n6 e6
  refine ⟨_, _, _, a, b, c, X, Y, W, sh, r, rfl, by walk_at "lq", by walk_at "lq", by walk_at "fq", nn, wp, s1, s2, a1, a2, a3, se, u1, u3, u2, fun r7 H7 x7 y7 g7 P7 x7e y7e z1 z2 => ?_⟩
  repeat walk_at "c2"
  rename_i o8 H8 g8 n8 e8 o9 H9 g9 n9 e9
  have kn : Fq K H9 (.ref o9) (-r) := Fq.neg e9
  refine ⟨_, _, _, a, b, c, X, Y, W, sh, -r, rfl, by walk_at "lq", by walk_at "lq", kn, nn, wp, s1, s2, a1, a2, a3, se, by rw [Rat.neg_num]; exact u1.neg, by rw [Rat.neg_den]; exact u3, by rw [Rat.neg_den]; exact u2, fun r10 H10 x10 y10 g10 P10 x10e y10e z3 z4 => ?_⟩
  have rn := ratz (show a * a + b * b ≠ 0 by omega)
  simp only [Rat.intCast_add, Rat.intCast_mul] at rn
  obtain ⟨t, et⟩ : ∃ t : Rat, r = t * W := ⟨r / W, by grind⟩
  have t0 : 0 ≤ t := by
    apply Rat.not_lt.mp
    intro z
    have : 0 ≤ -t := by grind
    have := mul_nn this (Rat.le_of_lt pW)
    have e0 : t * W = 0 := by grind
    rcases Rat.mul_eq_zero.mp e0 with z2 | z2
    · grind
    · exact rW z2
  have tt : t * t = d := by
    have : (W : Rat) * W * (t * t - d) = 0 := by rw [et] at er; grind
    rcases Rat.mul_eq_zero.mp this with z | z
    · rcases Rat.mul_eq_zero.mp z with z | z <;> exact absurd z rW
    · grind
  have i1 : x7 = cX a b c x y t := by unfold cX; rw [x7e, es, ex, et]; exact reach_x rn rW
  have i2 : y7 = cY a b c x y t := by unfold cY; rw [y7e, es, ey, et]; exact reach_y rn rW
  have i3 : x10 = cX a b c x y (-t) := by unfold cX; rw [x10e, es, ex, et, ← Rat.neg_mul]; exact reach_x rn rW
  have i4 : y10 = cY a b c x y (-t) := by unfold cY; rw [y10e, es, ey, et, ← Rat.neg_mul]; exact reach_y rn rW
  subst i1 i2 i3 i4
  repeat walk_at "c2"
  refine r_ite (fun n => ?_) (fun n => ?_)
  · repeat walk_at "c2"
    rename_i l3 H3 g3 n3 e3 o4 H4 g4 n4 e4
    refine q3 t t0 tt _ l3 _ (-t) (by walk_at "same") (L2.Same.free (by walk_at "same") n3) (by rw [if_pos n]) ?_ z3 z4 (by rw [Rat.neg_neg]; exact z1) (by rw [Rat.neg_neg]; exact z2)
    rw [Rat.neg_neg]
    exact Ct2.mk e4 (g4 _ _ e3) (by walk_at "fq") (by walk_at "fq")
  · repeat walk_at "c2"
    rename_i l3 H3 g3 n3 e3 o4 H4 g4 n4 e4
    refine q3 t t0 tt _ l3 _ t (by walk_at "same") (L2.Same.free (by walk_at "same") n3) (by rw [if_neg n]) ?_ z1 z2 z3 z4
    exact Ct2.mk e4 (g4 _ _ e3) (by walk_at "fq") (by walk_at "fq")
theorem ok_equation (F : Fn K mg "equation" s_equation) (G_cleared : Kn P w K mg base 2 "cleared" ["p"] (spCleared K)) : Kn P w K mg base 3 "equation" ["ring"] (spEquation K) := by
  refine F.kn sc_equation (fun vs H Q E h => ?_) (fun f cdv A outer s H vs Q E hr h => ?_) (fun _ _ _ _ _ _ us hl => match us, hl with | [_], _ => rfl)
  · obtain ⟨v, x, y, s, rfl, _⟩ := h
    rfl
  obtain ⟨v, x, y, s', rfl, h1, s1, s2, s3, q⟩ := h
  have t1 := s3.t
  have t2 := s3.b
  have tw : Sm 2 (2 : Int) := by decide
  refine ⟨_, (pss_cons (ps_asg (pe_kn G_cleared (hr.mono (by decide)) (by rfl) (pa_cons (pe_slice sl_tup (pv 0) po_none (po_some pe_int)) pa_nil)) (pg_tup (by rfl) (pgs_cons (pg_name (i := 1) sc_equation.nd rfl (.inl rfl)) (pgs_cons (pg_name (i := 2) sc_equation.nd rfl (.inl rfl)) (pgs_cons (pg_name (i := 3) sc_equation.nd rfl (.inl rfl)) pgs_nil)))))
    (pss_cons (ps_asg (pe_ix ix_tup (pv 0) pe_int (fun _ _ => rfl)) (pg_tup (by rfl) (pgs_cons (pg_name (i := 4) sc_equation.nd rfl (.inl rfl)) (pgs_cons (pg_name (i := 5) sc_equation.nd rfl (.inl rfl)) pgs_nil))))
    (pss_one (ps_ret (pe_tup (pa_cons (pe_op op_mulW (pe_op op_mulW (pv 3) (pv 3)) (pv 5)) (pa_cons (pe_op op_mulW (pe_op op_mulW (pe_op op_mulW pe_int (pv 1)) (pv 3)) (pv 5)) (pa_cons (pe_op op_mulW (pe_op op_mulW (pe_op op_mulW pe_int (pv 2)) (pv 3)) (pv 5)) (pa_cons (pe_op op_sub (pe_op op_mulW (pe_op op_mulW (pv 4) (pv 3)) (pv 3)) (pe_op op_mulW (pe_op op_add (pe_op op_mulW (pv 1) (pv 1)) (pe_op op_mulW (pv 2) (pv 2))) (pv 5))) pa_nil))))))))), ?_⟩
  show (_ : TS) _ [some v, none, none, none, none, none] _
  repeat walk_at "c2"
  rename_i ps Hs gs Ps r1 H1 X Y W g1 k1 wp ex ey a1 a2 a3 fs ks o2 H2 g2 n2 e2
  have hs := hden s'
  have ds := den_ne' s'
  refine q _ _ _ _ _ _ (by walk_at "same") ⟨o2, rfl, tupOf e2⟩ (Int.mul_pos (Int.mul_pos wp wp) (den_pos s')) ?_ ?_ ?_ ((Sm.mul (Sm.mul a3 a3) t2).mono (by decide)) ((Sm.mul (Sm.mul (Sm.mul tw a1) a3) t2).mono (by decide)) ((Sm.mul (Sm.mul (Sm.mul tw a2) a3) t2).mono (by decide)) ((Sm.subm (Sm.mul (Sm.mul t1 a3) a3) (Sm.mul (Sm.addm (Sm.mul a1 a1) (Sm.mul a2 a2)) t2)).mono (by decide))
  · simp only [Rat.intCast_mul]
    rw [ex]
    show (2 : Rat) * _ * _ * _ = _
    grind
  · simp only [Rat.intCast_mul]
    rw [ey]
    show (2 : Rat) * _ * _ * _ = _
    grind
  · simp only [Rat.intCast_mul, Rat.intCast_sub, Rat.intCast_add]
    rw [ex, ey, ← hs]
    grind
theorem ok_common_line (F : Fn K mg "common_line" s_common_line) (G_equation : Kn P w K mg base 3 "equation" ["ring"] (spEquation K)) (G_one_form : Kn P w K mg base 2 "one_form" ["a", "b", "c"] (spOneForm K)) : Kn P w K mg base 4 "common_line" ["ring", "other"] (spCommon K) := by
  refine F.kn sc_common_line (fun vs H Q E h => ?_) (fun f cdv A outer s H vs Q E hr h => ?_) (fun _ _ _ _ _ _ us hl => match us, hl with | [_, _], _ => rfl)
  · obtain ⟨v, w, x, y, s, x', y', s', rfl, _⟩ := h
    rfl
  obtain ⟨v, w, x, y, s1', x', y', s2', rfl, h1, h2, ne, s1, s2, s3, s4, s5, s6, q⟩ := h
  refine ⟨_, (pss_cons (ps_asg (pe_kn G_equation (hr.mono (by decide)) (by rfl) (pa_cons (pv 0) pa_nil)) (pg_tup (by rfl) (pgs_cons (pg_name (i := 2) sc_common_line.nd rfl (.inl rfl)) (pgs_cons (pg_name (i := 3) sc_common_line.nd rfl (.inl rfl)) (pgs_cons (pg_name (i := 4) sc_common_line.nd rfl (.inl rfl)) (pgs_cons (pg_name (i := 5) sc_common_line.nd rfl (.inl rfl)) pgs_nil))))))
    (pss_cons (ps_asg (pe_kn G_equation (hr.mono (by decide)) (by rfl) (pa_cons (pv 1) pa_nil)) (pg_tup (by rfl) (pgs_cons (pg_name (i := 6) sc_common_line.nd rfl (.inl rfl)) (pgs_cons (pg_name (i := 7) sc_common_line.nd rfl (.inl rfl)) (pgs_cons (pg_name (i := 8) sc_common_line.nd rfl (.inl rfl)) (pgs_cons (pg_name (i := 9) sc_common_line.nd rfl (.inl rfl)) pgs_nil))))))
    (pss_one (ps_ret (pe_kn G_one_form (hr.mono (by decide)) (by rfl) (pa_cons (pe_op op_sub (pe_op op_mulW (pv 7) (pv 2)) (pe_op op_mulW (pv 3) (pv 6))) (pa_cons (pe_op op_sub (pe_op op_mulW (pv 8) (pv 2)) (pe_op op_mulW (pv 4) (pv 6))) (pa_cons (pe_op op_sub (pe_op op_mulW (pv 5) (pv 6)) (pe_op op_mulW (pv 9) (pv 2))) pa_nil)))))))), ?_⟩
  show (_ : TS) _ [some v, some w, none, none, none, none, none, none, none, none] _
  repeat walk_at "c2"
  refine ⟨_, x, y, s1', rfl, h1, s1, s2, s3, fun r1 H1 m g h k g1 k1 m0 eg eh ek z1 z2 z3 z4 => ?_⟩
  repeat walk_at "c2"
  refine r_gE k1 rfl ?_
  repeat walk_at "c2"
  refine ⟨_, x', y', s2', rfl, h2.up g1, s4, s5, s6, fun r2 H2 m' g' h' k' g2 k2 m0' eg' eh' ek' y1 y2 y3 y4 => ?_⟩
  repeat walk_at "c2"
  refine r_gE k2 rfl ?_
  repeat walk_at "c2"
  have rm := ratz (show m ≠ 0 by omega)
  have rm' := ratz (show m' ≠ 0 by omega)
  have c1 : ((g' * m - g * m' : Int) : Rat) = 2 * (x' - x) * (m * m') := by simp only [Rat.intCast_sub, Rat.intCast_mul]; rw [eg, eg']; grind
  have c2 : ((h' * m - h * m' : Int) : Rat) = 2 * (y' - y) * (m * m') := by simp only [Rat.intCast_sub, Rat.intCast_mul]; rw [eh, eh']; grind
  have c3 : ((k * m' - k' * m : Int) : Rat) = ((s1' - x * x - y * y) - (s2' - x' * x' - y' * y')) * (m * m') := by simp only [Rat.intCast_sub, Rat.intCast_mul]; rw [ek, ek']; grind
  have nn : (m : Rat) * m' ≠ 0 := fun z => by rcases Rat.mul_eq_zero.mp z with z | z <;> contradiction
  refine ⟨_, _, _, 2300, rfl, ?_, (Sm.subm (Sm.mul y2 z1) (Sm.mul z2 y1)).mono (by decide), (Sm.subm (Sm.mul y3 z1) (Sm.mul z3 y1)).mono (by decide), (Sm.subm (Sm.mul z4 y1) (Sm.mul y4 z1)).mono (by decide), by decide, fun r H' A B C G g3 k3 hL gn e1 e2 e3 w1 w2 w3 => ?_⟩
  · rintro ⟨e1, e2⟩
    rw [e1] at c1
    rw [e2] at c2
    refine ne ⟨?_, ?_⟩
    · have : (2 : Rat) * (x' - x) * (m * m') = 0 := by rw [← c1]; rfl
      rcases Rat.mul_eq_zero.mp this with z | z
      · grind
      · contradiction
    · have : (2 : Rat) * (y' - y) * (m * m') = 0 := by rw [← c2]; rfl
      rcases Rat.mul_eq_zero.mp this with z | z
      · grind
      · contradiction
  · have rG := ratz gn
    rw [e1, Rat.intCast_mul] at c1
    rw [e2, Rat.intCast_mul] at c2
    rw [e3, Rat.intCast_mul] at c3
    refine q _ _ A B C ((G : Rat) / (m * m')) (by walk_at "same") k3 hL ?_ ?_ ?_ ?_ w1 w2 w3
    · grind
    · grind
    · grind
    · grind
theorem ok_ring_cuts (F : Fn K mg "ring_cuts" s_ring_cuts) (G_common_line : Kn P w K mg base 4 "common_line" ["ring", "other"] (spCommon K)) (G_line_cuts : Kn P w K mg base 4 "line_cuts" ["line", "ring"] (spCuts K)) : Kn P w K mg base 5 "ring_cuts" ["ring", "other"] (spRing K) := by
  refine F.kn sc_ring_cuts (fun vs H Q E h => ?_) (fun f cdv A outer s H vs Q E hr h => ?_) (fun _ _ _ _ _ _ us hl => match us, hl with | [_, _], _ => rfl)
  · obtain ⟨v, w, x, y, s, x', y', s', rfl, _⟩ := h
    rfl
  obtain ⟨v, w, x, y, s1', x', y', s2', rfl, h1, h2, s1, s2, s3, s4, s5, s6, q0, q1⟩ := h
  refine ⟨_, (pss_cons (ps_if (pt_cmpR (op_eqD hr.units) (pe_slice sl_tup (pv 0) po_none (po_some pe_int)) (pe_slice sl_tup (pv 1) po_none (po_some pe_int)) (nomark _))
    (pss_one (ps_ret (pe_tup (pa_cons pe_str (pa_cons (pe_lst pa_nil) pa_nil)))))
    pss_nil)
    (pss_one (ps_ret (pe_kn G_line_cuts (hr.mono (by decide)) (by rfl) (pa_cons (pe_kn G_common_line (hr.mono (by decide)) (by rfl) (pa_cons (pv 0) (pa_cons (pv 1) pa_nil))) (pa_cons (pv 0) pa_nil)))))), ?_⟩
  show (_ : TS) _ [some v, some w] _
  refine r_seq ?_
  repeat walk_at "c2"
  walk_at "eqd"
  repeat walk_at "c2"
  refine r_ite (fun c => ?_) (fun c => ?_)
  · repeat walk_at "c2"
    rename_i l3 H3 g3 n3 e3 o4 H4 g4 n4 e4
    exact q0 c _ l3 _ (by walk_at "same") (L2.Same.free (by walk_at "same") n3) (Ct0.mk e4 (g4 _ _ e3))
  repeat walk_at "c2"
  rename_i p1 H1 g1 P1 p2 H2 g2 P2
  refine ⟨_, _, x, y, s1', x', y', s2', rfl, by walk_at "cq", by walk_at "cq", c, s1, s2, s3, s4, s5, s6, fun r H3 a b cc g g3 k3 hL gn e1 e2 e3 w1 w2 w3 => ?_⟩
  repeat walk_at "c2"
  have g4 : Same H H3 := by walk_at "same"
  obtain ⟨m1, m2, m3⟩ := q1 c a b cc g _ hL gn e1 e2 e3 ⟨rfl⟩
  refine ⟨_, _, a, b, cc, x, y, s1', _, rfl, k3, hL, h1.up g4, w1, w2, w3, s1, s2, s3, ⟨rfl⟩, ?_, ?_, ?_⟩
  · intro dn r l H' g5 n5 k5
    exact m1 dn r l H' (g4.trans g5) (L2.Same.free g4 n5) k5
  · intro dp no r l H' g5 n5 k5
    exact m2 dp no r l H' (g4.trans g5) (L2.Same.free g4 n5) k5
  · intro t t0 tt r l H' u g5 n5 hu k5 z1 z2 z3 z4
    exact m3 t t0 tt r l H' u (g4.trans g5) (L2.Same.free g4 n5) hu k5 z1 z2 z3 z4
theorem ok_lifted (F : Fn K mg "lifted" s_lifted) (G_way : Kn P w K mg base 3 "way" ["p", "q"] (spWayI K)) : Kn P w K mg base 4 "lifted" ["p", "q"] (spLifted K) := by
  refine F.kn sc_lifted (fun vs H Q E h => ?_) (fun f cdv A outer s H vs Q E hr h => ?_) (fun _ _ _ _ _ _ us hl => match us, hl with | [_, _], _ => rfl)
  · obtain ⟨v, w, x, y, x', y', n, rfl, _⟩ := h
    rfl
  obtain ⟨v, w, x, y, x', y', n, rfl, h1, h2, s1, s2, s3, s4, l, q⟩ := h
  refine ⟨_, (pss_cons (ps_asg (pe_kn G_way (hr.mono (by decide)) (by rfl) (pa_cons (pv 0) (pa_cons (pv 1) pa_nil))) (pg_tup (by rfl) (pgs_cons (pg_name (i := 2) sc_lifted.nd rfl (.inl rfl)) (pgs_cons (pg_name (i := 3) sc_lifted.nd rfl (.inl rfl)) (pgs_cons (pg_name (i := 4) sc_lifted.nd rfl (.inl rfl)) pgs_nil)))))
    (pss_one (ps_ret (pe_tup (pa_cons (pe_op op_mulW (pv 2) (pv 4)) (pa_cons (pe_op op_mulW (pv 3) (pv 4)) (pa_cons (pe_op op_add (pe_op op_mulW (pv 2) (pv 2)) (pe_op op_mulW (pv 3) (pv 3))) pa_nil))))))), ?_⟩
  show (_ : TS) _ [some v, some w, none, none, none] _
  repeat walk_at "c1"
  refine ⟨_, _, x, y, x', y', n, n, rfl, h1, h2, s1, s2, s3, s4, by omega, by omega, fun r1 H1 X Y W g1 k1 w1 ex ey a1 a2 a3 => ?_⟩
  have b1 : Sm 20000 X := a1.mono (by omega)
  have b2 : Sm 20000 Y := a2.mono (by omega)
  have b3 : Sm 20000 W := a3.mono (by omega)
  repeat walk_at "c1"
  refine q _ _ _ _ _ W (by walk_at "same") (Lq.mk (by assumption)) w1 ?_ ?_ ?_ ?_ ?_ ?_
  · simp only [Rat.intCast_mul]; grind
  · simp only [Rat.intCast_mul]; grind
  · simp only [Rat.intCast_mul, Rat.intCast_add]; grind
  · exact (a1.mul a3).mono (by omega)
  · exact (a2.mul a3).mono (by omega)
  · exact Sm.mono (Sm.add (a1.mul a1) (a2.mul a2)) (by omega)
theorem ok_all_round (F : Fn K mg "all_round" s_all_round) (G_lifted : Kn P w K mg base 4 "lifted" ["p", "q"] (spLifted K)) : Kn P w K mg base 5 "all_round" ["p", "q", "r", "s"] (spRound K) := by
  refine F.kn sc_all_round (fun vs H Q E h => ?_) (fun f cdv A outer s H vs Q E hr h => ?_) (fun _ _ _ _ _ _ us hl => match us, hl with | [_, _, _, _], _ => rfl)
  · obtain ⟨v1, v2, v3, v4, x1, y1, x2, y2, x3, y3, x4, y4, n, rfl, _⟩ := h
    rfl
  obtain ⟨v1, v2, v3, v4, x1, y1, x2, y2, x3, y3, x4, y4, n, rfl, h1, h2, h3, h4, s1, s2, s3, s4, s5, s6, s7, s8, l, q⟩ := h
  refine ⟨_, (pss_cons (ps_asg (pe_kn G_lifted (hr.mono (by decide)) (by rfl) (pa_cons (pv 0) (pa_cons (pv 1) pa_nil))) (pg_tup (by rfl) (pgs_cons (pg_name (i := 4) sc_all_round.nd rfl (.inl rfl)) (pgs_cons (pg_name (i := 5) sc_all_round.nd rfl (.inl rfl)) (pgs_cons (pg_name (i := 6) sc_all_round.nd rfl (.inl rfl)) pgs_nil)))))
    (pss_cons (ps_asg (pe_kn G_lifted (hr.mono (by decide)) (by rfl) (pa_cons (pv 0) (pa_cons (pv 2) pa_nil))) (pg_tup (by rfl) (pgs_cons (pg_name (i := 7) sc_all_round.nd rfl (.inl rfl)) (pgs_cons (pg_name (i := 8) sc_all_round.nd rfl (.inl rfl)) (pgs_cons (pg_name (i := 9) sc_all_round.nd rfl (.inl rfl)) pgs_nil)))))
    (pss_cons (ps_asg (pe_kn G_lifted (hr.mono (by decide)) (by rfl) (pa_cons (pv 0) (pa_cons (pv 3) pa_nil))) (pg_tup (by rfl) (pgs_cons (pg_name (i := 10) sc_all_round.nd rfl (.inl rfl)) (pgs_cons (pg_name (i := 11) sc_all_round.nd rfl (.inl rfl)) (pgs_cons (pg_name (i := 12) sc_all_round.nd rfl (.inl rfl)) pgs_nil)))))
    (pss_cons (ps_set (i := 13) sc_all_round.nd rfl (.inl rfl) (pe_op op_mulW (pv 4) (pe_op op_sub (pe_op op_mulW (pv 8) (pv 12)) (pe_op op_mulW (pv 9) (pv 11)))))
    (pss_cons (ps_set (i := 14) sc_all_round.nd rfl (.inl rfl) (pe_op op_mulW (pv 5) (pe_op op_sub (pe_op op_mulW (pv 9) (pv 10)) (pe_op op_mulW (pv 7) (pv 12)))))
    (pss_cons (ps_set (i := 15) sc_all_round.nd rfl (.inl rfl) (pe_op op_mulW (pv 6) (pe_op op_sub (pe_op op_mulW (pv 7) (pv 11)) (pe_op op_mulW (pv 8) (pv 10)))))
    (pss_one (ps_ret (pe_cmpR op_eq (pe_op op_add (pe_op op_add (pv 13) (pv 14)) (pv 15)) pe_int (nomark _)))))))))), ?_⟩
  show (_ : TS) _ [some v1, some v2, some v3, some v4, none, none, none, none, none, none, none, none, none, none, none, none] _
  repeat walk_at "c1"
  refine ⟨_, _, x1, y1, x2, y2, n, rfl, h1, h2, s1, s2, s3, s4, by omega, fun r1 H1 X Y Z W g1 k1 w1 e1 e2 e3 a1 a2 a3 => ?_⟩
  have b1 : Sm 31000 X := a1.mono (by omega)
  have b2 : Sm 31000 Y := a2.mono (by omega)
  have b3 : Sm 31000 Z := a3.mono (by omega)
  repeat walk_at "c1"
  refine ⟨_, _, x1, y1, x3, y3, n, rfl, by walk_at "fq", by walk_at "fq", s1, s2, s5, s6, by omega, fun r2 H2 X2 Y2 Z2 W2 g2 k2 w2 e4 e5 e6 a4 a5 a6 => ?_⟩
  have b4 : Sm 31000 X2 := a4.mono (by omega)
  have b5 : Sm 31000 Y2 := a5.mono (by omega)
  have b6 : Sm 31000 Z2 := a6.mono (by omega)
  repeat walk_at "c1"
  refine ⟨_, _, x1, y1, x4, y4, n, rfl, by walk_at "fq", by walk_at "fq", s1, s2, s7, s8, by omega, fun r3 H3 X3 Y3 Z3 W3 g3 k3 w3 e7 e8 e9 a7 a8 a9 => ?_⟩
  have b7 : Sm 31000 X3 := a7.mono (by omega)
  have b8 : Sm 31000 Y3 := a8.mono (by omega)
  have b9 : Sm 31000 Z3 := a9.mono (by omega)
  repeat walk_at "c1"
  refine q _ _ (by walk_at "same") ?_
  rw [decide_eq_true_iff]
  have nw := ratz (show W ≠ 0 by omega)
  have nw2 := ratz (show W2 ≠ 0 by omega)
  have nw3 := ratz (show W3 ≠ 0 by omega)
  have key : ((X * (Y2 * Z3 - Z2 * Y3) + Y * (Z2 * X3 - X2 * Z3) + Z * (X2 * Y3 - Y2 * X3) : Int) : Rat) = (-1) * (((W : Rat) * W) * ((W2 : Rat) * W2) * ((W3 : Rat) * W3)) * detQ x1 y1 x2 y2 x3 y3 x4 y4 := by
    simp only [Rat.intCast_add, Rat.intCast_sub, Rat.intCast_mul]
    rw [e1, e2, e3, e4, e5, e6, e7, e8, e9]
    exact det_key _ _ _ _ _ _ _ _ _ _ _
  constructor
  · intro z
    rw [z] at key
    have nz : (-1 : Rat) * (((W : Rat) * W) * ((W2 : Rat) * W2) * ((W3 : Rat) * W3)) ≠ 0 := by
      intro y
      simp only [Rat.mul_eq_zero, nw, nw2, nw3, or_self, or_false] at y
      exact absurd y (by decide)
    rcases Rat.mul_eq_zero.mp key.symm with y | y
    · exact absurd y nz
    · exact y
  · intro z
    rw [z, Rat.mul_zero] at key
    exact cast_inj key
theorem ok_as_far (F : Fn K mg "as_far" s_as_far) (G_way : Kn P w K mg base 3 "way" ["p", "q"] (spWayI K)) : Kn P w K mg base 4 "as_far" ["p", "q", "r", "s"] (spAsFar K) := by
  refine F.kn sc_as_far (fun vs H Q E h => ?_) (fun f cdv A outer s H vs Q E hr h => ?_) (fun _ _ _ _ _ _ us hl => match us, hl with | [_, _, _, _], _ => rfl)
  · obtain ⟨v1, v2, v3, v4, x1, y1, x2, y2, x3, y3, x4, y4, n, rfl, _⟩ := h
    rfl
  obtain ⟨v1, v2, v3, v4, x1, y1, x2, y2, x3, y3, x4, y4, n, rfl, h1, h2, h3, h4, s1, s2, s3, s4, s5, s6, s7, s8, l, q⟩ := h
  refine ⟨_, (pss_cons (ps_asg (pe_kn G_way (hr.mono (by decide)) (by rfl) (pa_cons (pv 0) (pa_cons (pv 1) pa_nil))) (pg_tup (by rfl) (pgs_cons (pg_name (i := 4) sc_as_far.nd rfl (.inl rfl)) (pgs_cons (pg_name (i := 5) sc_as_far.nd rfl (.inl rfl)) (pgs_cons (pg_name (i := 6) sc_as_far.nd rfl (.inl rfl)) pgs_nil)))))
    (pss_cons (ps_asg (pe_kn G_way (hr.mono (by decide)) (by rfl) (pa_cons (pv 2) (pa_cons (pv 3) pa_nil))) (pg_tup (by rfl) (pgs_cons (pg_name (i := 7) sc_as_far.nd rfl (.inl rfl)) (pgs_cons (pg_name (i := 8) sc_as_far.nd rfl (.inl rfl)) (pgs_cons (pg_name (i := 9) sc_as_far.nd rfl (.inl rfl)) pgs_nil)))))
    (pss_one (ps_ret (pe_cmpR op_eq (pe_op op_mulW (pe_op op_mulW (pe_op op_add (pe_op op_mulW (pv 4) (pv 4)) (pe_op op_mulW (pv 5) (pv 5))) (pv 9)) (pv 9)) (pe_op op_mulW (pe_op op_mulW (pe_op op_add (pe_op op_mulW (pv 7) (pv 7)) (pe_op op_mulW (pv 8) (pv 8))) (pv 6)) (pv 6)) (nomark _)))))), ?_⟩
  show (_ : TS) _ [some v1, some v2, some v3, some v4, none, none, none, none, none, none] _
  repeat walk_at "c1"
  refine ⟨_, _, x1, y1, x2, y2, n, n, rfl, h1, h2, s1, s2, s3, s4, by omega, by omega, fun r1 H1 X Y W g1 k1 w1 e1 e2 a1 a2 a3 => ?_⟩
  have b1 : Sm 20000 X := a1.mono (by omega)
  have b2 : Sm 20000 Y := a2.mono (by omega)
  have b3 : Sm 20000 W := a3.mono (by omega)
  repeat walk_at "c1"
  refine ⟨_, _, x3, y3, x4, y4, n, n, rfl, by walk_at "fq", by walk_at "fq", s5, s6, s7, s8, by omega, by omega, fun r2 H2 X2 Y2 W2 g2 k2 w2 e3 e4 a4 a5 a6 => ?_⟩
  have b4 : Sm 20000 X2 := a4.mono (by omega)
  have b5 : Sm 20000 Y2 := a5.mono (by omega)
  have b6 : Sm 20000 W2 := a6.mono (by omega)
  repeat walk_at "c1"
  refine q _ _ (by walk_at "same") ?_
  rw [decide_eq_true_iff]
  have nw := ratz (show W ≠ 0 by omega)
  have nw2 := ratz (show W2 ≠ 0 by omega)
  have ka : (((X * X + Y * Y) * W2 * W2 : Int) : Rat) = (((W : Rat) * W) * ((W2 : Rat) * W2)) * ((x1 - x2) * (x1 - x2) + (y1 - y2) * (y1 - y2)) := by
    simp only [Rat.intCast_add, Rat.intCast_mul]
    rw [e1, e2]
    grind
  have kb : (((X2 * X2 + Y2 * Y2) * W * W : Int) : Rat) = (((W : Rat) * W) * ((W2 : Rat) * W2)) * ((x3 - x4) * (x3 - x4) + (y3 - y4) * (y3 - y4)) := by
    simp only [Rat.intCast_add, Rat.intCast_mul]
    rw [e3, e4]
    grind
  have nz : ((W : Rat) * W) * ((W2 : Rat) * W2) ≠ 0 := by
    intro y
    simp only [Rat.mul_eq_zero, nw, nw2, or_self] at y
  constructor
  · intro z
    rw [z, kb] at ka
    have d : (((W : Rat) * W) * ((W2 : Rat) * W2)) * (((x1 - x2) * (x1 - x2) + (y1 - y2) * (y1 - y2)) - ((x3 - x4) * (x3 - x4) + (y3 - y4) * (y3 - y4))) = 0 := by grind
    rcases Rat.mul_eq_zero.mp d with y | y
    · exact absurd y nz
    · grind
  · intro z
    refine cast_inj ?_
    rw [ka, kb, z]
theorem ok_stream (F : Fn K mg "_law_stream" s_stream) (z_len : mg "len" = none) : Kn P w K mg base 1 "_law_stream" ["_law_script", "_law_at"] (spStream K) := by
  refine F.kn sc_stream (fun vs H Q E h => ?_) (fun f cdv A outer s H vs Q E hr h => ?_) (fun _ _ _ _ _ _ us hl => match us, hl with | [_, _], _ => rfl)
  · obtain ⟨a, ns, i, rfl, _⟩ := h
    rfl
  obtain ⟨a, ns, i, rfl, hS, hl, h0, h1, q⟩ := h
  refine ⟨_, (pss_cons (ps_set (i := 2) sc_stream.nd rfl (.inl rfl) pe_int)
    (pss_cons (ps_if (pt_cmpR op_gt (pe_callB call_len_seq (by rfl) z_len (by decide +kernel) (pa_cons (pv 0) pa_nil)) pe_int (nomark _))
    (pss_one (ps_set (i := 2) sc_stream.nd rfl (.inl rfl) (pe_ix ix_list (pv 0) (pe_op op_mod (pv 1) (pe_callB call_len_seq (by rfl) z_len (by decide +kernel) (pa_cons (pv 0) pa_nil))) (fun _ _ => rfl))))
    pss_nil)
    (pss_cons (ps_set (i := 3) sc_stream.nd rfl (.inl rfl) pe_int)
    (pss_cons (ps_if (PW.pt (pw_and (pt_cmpR op_lt (pv 1) (pe_callB call_len_seq (by rfl) z_len (by decide +kernel) (pa_cons (pv 0) pa_nil)) (nomark _)) (pw_and1 (pt_cmpR op_ge (pv 2) (pe_op op_pow pe_int pe_int) (nomark _)))))
    (pss_one (ps_set (i := 3) sc_stream.nd rfl (.inl rfl) (pv 2)))
    pss_nil)
    (pss_cons (ps_set (i := 4) sc_stream.nd rfl (.inl rfl) (pe_op op_mod (pe_op op_add (pe_op op_add (pe_op op_add (pe_op op_mod (pv 2) pe_int) (pe_op op_mulW (pe_op op_mulW pe_int (pv 1)) (pv 1))) (pe_op op_mulW pe_int (pv 1))) (pe_callB call_len_seq (by rfl) z_len (by decide +kernel) (pa_cons (pv 0) pa_nil))) pe_int))
    (pss_one (ps_ret (pe_lst (pa_cons (pv 3) (pa_cons (pv 4) (pa_cons pe_int pa_nil))))))))))), ?_⟩
  show (_ : TS) _ [some (.ref a), some (.int i), none, none, none] _
  have hz : (ns.map V.int).length = ns.length := List.length_map _
  have si : Sm 64 i := by unfold Sm; omega
  have si2 : Sm 80 (40503 * i) := by unfold Sm; omega
  repeat walk_at "st"
  refine r_cut (fun σ H' => ∃ z : Int, σ = [some (.ref a), some (.int i), some (.int z), none, none] ∧ H' = H) ?_ (fun N J => ?_)
  · rintro σ H' ⟨z, rfl, rfl⟩
    repeat walk_at "st"
    refine r_cut (fun σ H2 => ∃ x : Int, σ = [some (.ref a), some (.int i), some (.int z), some (.int x), none] ∧ H2 = H') ?_ (fun N J => ?_)
    · rintro σ H2 ⟨x, rfl, rfl⟩
      repeat walk_at "st"
      refine ⟨a, _, rfl, .inl hS, ?_⟩
      repeat walk_at "st"
      refine ⟨sz rfl, fun p hp => ?_⟩
      exact q p _ (same_new hp _) hp ⟨x, _, 0, upd_same, Int.emod_nonneg _ (by decide), Int.emod_lt_of_pos _ (by decide), by decide, by decide⟩
    · repeat walk_at "st"
      refine ⟨a, _, rfl, .inl hS, ?_⟩
      repeat walk_at "st"
      refine r_ite (fun c => ?_) (fun c => ?_)
      · repeat walk_at "st"
        refine r_ite (fun c => ?_) (fun c => ?_)
        · repeat walk_at "st"
          exact J _ _ ⟨_, rfl, rfl⟩
        · repeat walk_at "st"
          exact J _ _ ⟨_, rfl, rfl⟩
      · repeat walk_at "st"
        exact J _ _ ⟨_, rfl, rfl⟩
  · repeat walk_at "st"
    refine ⟨a, _, rfl, .inl hS, ?_⟩
    repeat walk_at "st"
    refine r_ite (fun c => ?_) (fun c => ?_)
    · repeat walk_at "st"
      refine ⟨a, _, rfl, .inl hS, ?_⟩
      rw [hz] at c
      refine r_i (show (0 : Int) < _ by rw [hz]; omega) ?_
      have hk : (i % ((ns.map V.int).length : Int)).toNat < ns.length := by
        rw [hz]
        have := Int.emod_lt_of_pos i (show (0 : Int) < ns.length by omega)
        omega
      have e : i % ((ns.map V.int).length : Int) = (((i % ((ns.map V.int).length : Int)).toNat : Nat) : Int) := by
        rw [hz]
        have := Int.emod_nonneg i (show (ns.length : Int) ≠ 0 by omega)
        omega
      refine r_ixL hS (at_of e (by rw [List.getElem?_map, List.getElem?_eq_getElem hk]; rfl)) ?_
      repeat walk_at "st"
      exact J _ _ ⟨_, rfl, rfl⟩
    · repeat walk_at "st"
      exact J _ _ ⟨_, rfl, rfl⟩
theorem ok_take (F : Fn K mg "_law_take" s_take) : Kn P w K mg base 1 "_law_take" ["_law_stream_here", "_law_many"] spTakeS := by
  refine F.kn sc_take (fun vs H Q E h => ?_) (fun f cdv A outer s H vs Q E hr h => ?_) (fun _ _ _ _ _ _ us hl => match us, hl with | [_, _], _ => rfl)
  · obtain ⟨p, k, b, rfl, _⟩ := h
    rfl
  obtain ⟨p, k, b, rfl, ⟨x, y, z, hp, y0, y1, z0, z1⟩, hb, hk, sk, q⟩ := h
  refine ⟨_, (pss_cons (ps_if (pt_cmpR op_gt (pe_ix ix_list (pv 0) pe_int (fun _ _ => rfl)) pe_int (nomark _))
    (pss_cons (ps_set (i := 2) sc_take.nd rfl (.inl rfl) (pe_op op_mod (pe_ix ix_list (pv 0) pe_int (fun _ _ => rfl)) (pv 1)))
    (pss_cons (ps_asg (pe_op op_fdivW (pe_ix ix_list (pv 0) pe_int (fun _ _ => rfl)) (pv 1)) (pg_sub (pv 0) pe_int set_list))
    (pss_one (ps_ret (pv 2)))))
    pss_nil)
    (pss_cons (ps_asg (pe_op op_add (pe_ix ix_list (pv 0) pe_int (fun _ _ => rfl)) pe_int) (pg_sub (pv 0) pe_int set_list))
    (pss_cons (ps_set (i := 3) sc_take.nd rfl (.inl rfl) (pe_ix ix_list (pv 0) pe_int (fun _ _ => rfl)))
    (pss_cons (ps_set (i := 4) sc_take.nd rfl (.inl rfl) (pe_op op_mod (pe_op op_pow (pe_op op_add (pe_ix ix_list (pv 0) pe_int (fun _ _ => rfl)) (pe_op op_mulW pe_int (pv 3))) pe_int) pe_int))
    (pss_cons (ps_set (i := 5) sc_take.nd rfl (.inl rfl) (pe_op op_mod (pe_op op_pow (pe_op op_add (pe_op op_add (pe_op op_mulW (pv 4) (pe_op op_add pe_int (pv 3))) (pe_op op_mulW (pe_op op_mulW pe_int (pv 3)) (pv 3))) (pe_ix ix_list (pv 0) pe_int (fun _ _ => rfl))) pe_int) pe_int))
    (pss_one (ps_ret (pe_op op_mod (pv 5) (pv 1))))))))), ?_⟩
  show (_ : TS) _ [some (.ref p), some (.int k), none, none, none, none] _
  have sy : Sm 64 y := by unfold Sm; omega
  have sz1 : Sm 64 (z + 1) := by unfold Sm; omega
  have m0 : ∀ i : Int, 0 ≤ i % k := fun i => Int.emod_nonneg i (by omega)
  have m1 : ∀ i : Int, i % k < k := fun i => Int.emod_lt_of_pos i (by omega)
  refine r_seq ?_
  repeat walk_at "st"
  refine r_ite (fun c => ?_) (fun c => ?_)
  · repeat walk_at "st"
    refine r_i (Sm.cdiv (by omega) sk) ?_
    repeat walk_at "st"
    refine r_setL hp rfl ?_
    repeat walk_at "st"
    exact q _ _ (But.upd _ _ _) ⟨_, y, z, upd_same, y0, y1, z0, by omega⟩ (m0 _) (m1 _)
  · repeat walk_at "st"
    refine r_setL hp rfl ?_
    dsimp only [List.set]
    have hp2 : (upd H p (.lst [.int x, .int y, .int (z + 1)])) p = some (.lst [.int x, .int y, .int (z + 1)]) := upd_same
    repeat walk_at "st"
    refine r_i ⟨by decide, by decide, by omega⟩ ?_
    repeat walk_at "st"
    generalize ho : (y + 7368787 * (z + 1)) ^ Int.toNat 5 % 2147483647 = o
    have e3 : 0 ≤ o := by rw [← ho]; exact Int.emod_nonneg _ (by decide)
    have e4 : o < 2147483647 := by rw [← ho]; exact Int.emod_lt_of_pos _ (by decide)
    have so : Sm 31 o := by unfold Sm; omega
    have s1 : Sm 18 (48271 + (z + 1)) := by unfold Sm; omega
    have s2 : Sm 17 (z + 1) := by unfold Sm; omega
    have s3 : Sm 31 y := by unfold Sm; omega
    repeat walk_at "st"
    refine r_i (Sm.cmul (Sm.mul (show Sm 16 39373 by decide) s2) s2) ?_
    repeat walk_at "st"
    have big : Sm 64 (o * (48271 + (z + 1)) + 39373 * (z + 1) * (z + 1) + y) :=
      Sm.mono (Sm.addm (Sm.addm (Sm.mul so s1) (Sm.mul (Sm.mul (show Sm 16 39373 by decide) s2) s2)) s3) (by decide)
    refine r_i ⟨by decide, by decide, big⟩ ?_
    repeat walk_at "st"
    exact q _ _ (But.upd _ _ _) ⟨x, y, z + 1, upd_same, y0, y1, by omega, by omega⟩ (m0 _) (m1 _)
theorem ok_divisor (F : Fn K mg "_law_divisor" s_divisor) (z_abs : mg "abs" = none) : Kn P w K mg base 1 "_law_divisor" ["_law_a", "_law_b"] spGcd := by
  refine F.kn sc_divisor (fun vs H Q E h => ?_) (fun f cdv A outer s H vs Q E hr h => ?_) (fun _ _ _ _ _ _ us hl => match us, hl with | [_, _], _ => rfl)
  · obtain ⟨a, b, rfl, _⟩ := h
    rfl
  obtain ⟨a, b, rfl, q⟩ := h
  refine ⟨_, (pss_cons (ps_set (i := 0) sc_divisor.nd rfl (.inl rfl) (pe_callB call_abs (by rfl) z_abs (by decide +kernel) (pa_cons (pv 0) pa_nil)))
    (pss_cons (ps_set (i := 1) sc_divisor.nd rfl (.inl rfl) (pe_callB call_abs (by rfl) z_abs (by decide +kernel) (pa_cons (pv 1) pa_nil)))
    (pss_cons (ps_while PassesOwn.never (pt_cmpR op_ne (pv 1) pe_int (nomark _))
    (pss_one (ps_par (by rfl) sc_divisor.nd (i := 0) (j := 1) rfl rfl (by decide) rfl rfl (pa_cons (pv 1) (pa_cons (pe_op op_mod (pv 0) (pv 1)) pa_nil)) (by rfl))))
    (pss_one (ps_ret (pv 0)))))), ?_⟩
  show (_ : TS) _ [some (.int a), some (.int b)] _
  repeat walk_at "st"
  refine ⟨a, rfl, ?_⟩
  repeat walk_at "st"
  refine ⟨b, rfl, ?_⟩
  repeat walk_at "st"
  refine r_seq ?_
  refine r_while (fun σ H' => H' = H ∧ ∃ x y : Int, σ = [some (.int x), some (.int y)] ∧ 0 ≤ x ∧ 0 ≤ y ∧ Int.gcd x y = Int.gcd a b) (fun σ _ => match σ with | [_, some (.int y)] => y.toNat | _ => 0) ?_ ?_
  · refine ⟨rfl, _, _, rfl, ?_, ?_, ?_⟩
    · split <;> omega
    · split <;> omega
    · split <;> split <;> simp only [Int.neg_gcd, Int.gcd_neg]
  · rintro σ H' ⟨rfl, x, y, rfl, hx, hy, hg⟩
    repeat walk_at "st"
    refine r_iteN (fun c => ?_) (fun c => ?_)
    · refine r_turn ?_
      repeat walk_at "st"
      have e1 := Int.emod_nonneg x (show y ≠ 0 by omega)
      have e2 := Int.emod_lt_of_pos x (show 0 < y by omega)
      refine ⟨⟨rfl, y, x % y, rfl, hy, e1, by rw [gcd_step hx (by omega), hg]⟩, ?_⟩
      show (x % y).toNat < y.toNat
      omega
    · subst c
      repeat walk_at "st"
      have g : (Int.gcd x 0 : Int) = x := by rw [Int.gcd_zero]; omega
      rw [hg] at g
      show Q (.int x) _
      rw [← g]
      exact q
theorem ok_lowest (F : Fn K mg "_law_lowest" s_lowest) (G_divisor : Kn P w K mg base 1 "_law_divisor" ["_law_a", "_law_b"] spGcd) : Kn P w K mg base 2 "_law_lowest" ["_law_pair"] (spLowest K) := by
  refine F.kn sc_lowest (fun vs H Q E h => ?_) (fun f cdv A outer s H vs Q E hr h => ?_) (fun _ _ _ _ _ _ us hl => match us, hl with | [_], _ => rfl)
  · obtain ⟨a, t, b, rfl, _⟩ := h
    rfl
  obtain ⟨a, t, b, rfl, hA, hb, sb, q⟩ := h
  refine ⟨_, (pss_cons (ps_set (i := 1) sc_lowest.nd rfl (.inl rfl) (pe_kn G_divisor (hr.mono (by decide)) (by rfl) (pa_cons (pe_ix ix_tup (pv 0) pe_int (fun _ _ => rfl)) (pa_cons (pe_ix ix_tup (pv 0) pe_int (fun _ _ => rfl)) pa_nil))))
    (pss_cons (ps_if (pt_cmpR op_lt (pe_ix ix_tup (pv 0) pe_int (fun _ _ => rfl)) pe_int (nomark _))
    (pss_one (ps_set (i := 1) sc_lowest.nd rfl (.inl rfl) (pe_un un_neg (pv 1))))
    pss_nil)
    (pss_one (ps_ret (pe_tup (pa_cons (pe_op op_fdivZ (pe_ix ix_tup (pv 0) pe_int (fun _ _ => rfl)) (pv 1)) (pa_cons (pe_op op_fdivZ (pe_ix ix_tup (pv 0) pe_int (fun _ _ => rfl)) (pv 1)) pa_nil))))))), ?_⟩
  show (_ : TS) _ [some (.ref a), none] _
  have g0 := gcd_pos (t := t) hb
  have gs : Sm 8900 (Int.gcd t b : Int) := gcd_sm hb sb
  repeat walk_at "st"
  refine ⟨_, _, rfl, ?_⟩
  repeat walk_at "st"
  refine r_cut (fun σ H' => σ = [some (.ref a), some (.int (if decide (b < 0) then -(Int.gcd t b : Int) else (Int.gcd t b : Int)))] ∧ H' = H) ?_ (fun N J => ?_)
  · rintro σ H' ⟨rfl, rfl⟩
    have cd : ∀ i : Int, CDivZ i (if decide (b < 0) then -(Int.gcd t b : Int) else (Int.gcd t b : Int)) := fun i => by
      split
      · exact cdivZ (by omega) gs.neg (by decide) (by decide)
      · exact cdivZ (by omega) gs (by decide) (by decide)
    repeat walk_at "st"
    refine r_i (cd _) ?_
    repeat walk_at "st"
    refine r_i (cd _) ?_
    repeat walk_at "st"
    refine ⟨sz rfl, fun p hp => ?_⟩
    refine q p _ (same_new hp _) hp ?_
    rw [upd_same, fdiv_exact (Int.gcd_dvd_left t b), fdiv_exact (Int.gcd_dvd_right t b)]
    unfold lowT lowB
    simp only [decide_eq_true_eq]
  · repeat walk_at "st"
    refine r_ite (fun c => ?_) (fun c => ?_)
    · repeat walk_at "st"
      exact J _ _ ⟨by simp [c], rfl⟩
    · repeat walk_at "st"
      exact J _ _ ⟨by simp [c], rfl⟩
theorem ok_whole (F : Fn K mg "_law_whole" s_whole) (z_isinstance : mg "isinstance" = none) (z_int : mg "int" = none) (z_bool : mg "bool" = none) : Kn P w K mg base 1 "_law_whole" ["_law_found"] spWhole := by
  refine F.kn sc_whole (fun vs H Q E h => ?_) (fun f cdv A outer s H vs Q E hr h => ?_) (fun _ _ _ _ _ _ us hl => match us, hl with | [_], _ => rfl)
  · obtain ⟨i, rfl, _⟩ := h
    rfl
  obtain ⟨i, rfl, q⟩ := h
  refine ⟨_, (pss_one (ps_ret (pe_and (pe_callB call_isi (by rfl) z_isinstance (by decide +kernel) (pa_cons (pv 0) (pa_cons (pe_bltn (v := .ty "int") (by rfl) z_int (by decide +kernel) rfl) pa_nil))) (pe_one (pe_not (pe_callB call_isi (by rfl) z_isinstance (by decide +kernel) (pa_cons (pv 0) (pa_cons (pe_bltn (v := .ty "bool") (by rfl) z_bool (by decide +kernel) rfl) pa_nil)))))))), ?_⟩
  show (_ : TS) _ [some (.int i)] _
  repeat walk_at "st"
  refine r_isi (r := true) (.base (.int _)) (by decide +kernel) ?_
  repeat walk_at "st"
  refine r_isi (r := false) (.base (.int _)) (by decide +kernel) ?_
  repeat walk_at "st"
  exact q
theorem ok_is_fraction (F : Fn K mg "_law_is_fraction" s_is_fraction) (G_whole : Kn P w K mg base 1 "_law_whole" ["_law_found"] spWhole) (G_divisor : Kn P w K mg base 1 "_law_divisor" ["_law_a", "_law_b"] spGcd) (z_isinstance : mg "isinstance" = none) (z_tuple : mg "tuple" = none) (z_len : mg "len" = none) : Kn P w K mg base 2 "_law_is_fraction" ["_law_found"] (spIsFr K) := by
  refine F.kn sc_is_fraction (fun vs H Q E h => ?_) (fun f cdv A outer s H vs Q E hr h => ?_) (fun _ _ _ _ _ _ us hl => match us, hl with | [_], _ => rfl)
  · obtain ⟨p, t, u, rfl, _⟩ := h
    rfl
  obtain ⟨p, t, u, rfl, hp, hu, hg, q⟩ := h
  refine ⟨_, (pss_cons (ps_if (PW.pt (pw_or (pt_not (pt_val (pe_callB call_isi (by rfl) z_isinstance (by decide +kernel) (pa_cons (pv 0) (pa_cons (pe_bltn (v := .ty "tuple") (by rfl) z_tuple (by decide +kernel) rfl) pa_nil))))) (pw_or1 (pt_cmpR op_ne (pe_callB call_len_seq (by rfl) z_len (by decide +kernel) (pa_cons (pv 0) pa_nil)) pe_int (nomark _)))))
    (pss_one (ps_ret pe_bl))
    pss_nil)
    (pss_cons (ps_if (PW.pt (pw_or (pt_not (pt_val (pe_kn G_whole (hr.mono (by decide)) (by rfl) (pa_cons (pe_ix ix_tup (pv 0) pe_int (fun _ _ => rfl)) pa_nil)))) (pw_or (pt_not (pt_val (pe_kn G_whole (hr.mono (by decide)) (by rfl) (pa_cons (pe_ix ix_tup (pv 0) pe_int (fun _ _ => rfl)) pa_nil)))) (pw_or1 (pt_cmpR op_lt (pe_ix ix_tup (pv 0) pe_int (fun _ _ => rfl)) pe_int (nomark _))))))
    (pss_one (ps_ret pe_bl))
    pss_nil)
    (pss_one (ps_ret (pe_cmpR op_eq (pe_kn G_divisor (hr.mono (by decide)) (by rfl) (pa_cons (pe_ix ix_tup (pv 0) pe_int (fun _ _ => rfl)) (pa_cons (pe_ix ix_tup (pv 0) pe_int (fun _ _ => rfl)) pa_nil))) pe_int (nomark _)))))), ?_⟩
  show (_ : TS) _ [some (.ref p)] _
  refine r_seq ?_
  repeat walk_at "st"
  refine r_isi (tyT hp) rfl ?_
  repeat walk_at "st"
  refine ⟨p, _, rfl, .inr hp, ?_⟩
  repeat walk_at "st"
  refine r_dF (by simp) ?_
  repeat walk_at "st"
  refine r_seq ?_
  repeat walk_at "st"
  refine ⟨_, rfl, ?_⟩
  repeat walk_at "st"
  refine ⟨_, rfl, ?_⟩
  repeat walk_at "st"
  refine r_ite (fun c => by omega) (fun c => ?_)
  repeat walk_at "st"
  refine ⟨_, _, rfl, ?_⟩
  repeat walk_at "st"
  rw [hg]
  exact q
theorem ok_is_place (F : Fn K mg "_law_is_place" s_is_place) (G_is_fraction : Kn P w K mg base 2 "_law_is_fraction" ["_law_found"] (spIsFr K)) (z_isinstance : mg "isinstance" = none) (z_tuple : mg "tuple" = none) (z_len : mg "len" = none) : Kn P w K mg base 3 "_law_is_place" ["_law_found"] (spIsPl K) := by
  refine F.kn sc_is_place (fun vs H Q E h => ?_) (fun f cdv A outer s H vs Q E hr h => ?_) (fun _ _ _ _ _ _ us hl => match us, hl with | [_], _ => rfl)
  · obtain ⟨p, f, g, t, u, r, s, rfl, _⟩ := h
    rfl
  obtain ⟨p, f1, g1, t, u, r, s', rfl, hp, hx, hy, hu, hgx, hs, hgy, q⟩ := h
  refine ⟨_, (pss_cons (ps_if (PW.pt (pw_or (pt_not (pt_val (pe_callB call_isi (by rfl) z_isinstance (by decide +kernel) (pa_cons (pv 0) (pa_cons (pe_bltn (v := .ty "tuple") (by rfl) z_tuple (by decide +kernel) rfl) pa_nil))))) (pw_or1 (pt_cmpR op_ne (pe_callB call_len_seq (by rfl) z_len (by decide +kernel) (pa_cons (pv 0) pa_nil)) pe_int (nomark _)))))
    (pss_one (ps_ret pe_bl))
    pss_nil)
    (pss_one (ps_ret (pe_and (pe_kn G_is_fraction (hr.mono (by decide)) (by rfl) (pa_cons (pe_ix ix_tup (pv 0) pe_int (fun _ _ => rfl)) pa_nil)) (pe_one (pe_kn G_is_fraction (hr.mono (by decide)) (by rfl) (pa_cons (pe_ix ix_tup (pv 0) pe_int (fun _ _ => rfl)) pa_nil))))))), ?_⟩
  show (_ : TS) _ [some (.ref p)] _
  refine r_seq ?_
  repeat walk_at "st"
  refine r_isi (tyT hp) rfl ?_
  repeat walk_at "st"
  refine ⟨p, _, rfl, .inr hp, ?_⟩
  repeat walk_at "st"
  refine r_dF (by simp) ?_
  repeat walk_at "st"
  refine ⟨_, _, _, rfl, hx, hu, hgx, ?_⟩
  repeat walk_at "st"
  exact ⟨_, _, _, rfl, hy, hs, hgy, q⟩
theorem ok_l_minus (F : Fn K mg "_law_minus" s_l_minus) : Kn P w K mg base 1 "_law_minus" ["_law_f", "_law_g"] (spRaw K (fun x y u v => x * v - u * y) (fun x y u v => y * v)) := by
  refine F.kn sc_l_minus (fun vs H Q E h => ?_) (fun f cdv A outer s H vs Q E hr h => ?_) (fun _ _ _ _ _ _ us hl => match us, hl with | [_, _], _ => rfl)
  · obtain ⟨a, b, x, y, u, v, rfl, _⟩ := h
    rfl
  obtain ⟨a, b, x, y, u, v, rfl, h1, h2, s1, s2, s3, s4, q⟩ := h
  refine ⟨_, (pss_one (ps_ret (pe_tup (pa_cons (pe_op op_sub (pe_op op_mulW (pe_ix ix_tup (pv 0) pe_int (fun _ _ => rfl)) (pe_ix ix_tup (pv 1) pe_int (fun _ _ => rfl))) (pe_op op_mulW (pe_ix ix_tup (pv 1) pe_int (fun _ _ => rfl)) (pe_ix ix_tup (pv 0) pe_int (fun _ _ => rfl)))) (pa_cons (pe_op op_mulW (pe_ix ix_tup (pv 0) pe_int (fun _ _ => rfl)) (pe_ix ix_tup (pv 1) pe_int (fun _ _ => rfl))) pa_nil))))), ?_⟩
  show (_ : TS) _ [some (.ref a), some (.ref b)] _
  repeat walk_at "st"
  refine ⟨sz rfl, fun p hp => ?_⟩
  exact q p _ (same_new hp _) hp upd_same
theorem ok_ahead (F : Fn K mg "_law_ahead" s_ahead) (G_l_minus : Kn P w K mg base 1 "_law_minus" ["_law_f", "_law_g"] (spRaw K (fun x y u v => x * v - u * y) (fun x y u v => y * v))) : Kn P w K mg base 2 "_law_ahead" ["_law_p", "_law_q"] (spAhead K) := by
  refine F.kn sc_ahead (fun vs H Q E h => ?_) (fun f cdv A outer s H vs Q E hr h => ?_) (fun _ _ _ _ _ _ us hl => match us, hl with | [_, _], _ => rfl)
  · obtain ⟨v, w, x, y, x', y', rfl, _⟩ := h
    rfl
  obtain ⟨v, w, x, y, x', y', rfl, h1, h2, s1, s2, s3, s4, q⟩ := h
  obtain ⟨i1, i2⟩ := sub_sign x x'
  obtain ⟨j1, j2⟩ := sub_sign y y'
  refine ⟨_, (pss_cons (ps_set (i := 2) sc_ahead.nd rfl (.inl rfl) (pe_kn G_l_minus (hr.mono (by decide)) (by rfl) (pa_cons (pe_ix ix_tup (pv 1) pe_int (fun _ _ => rfl)) (pa_cons (pe_ix ix_tup (pv 0) pe_int (fun _ _ => rfl)) pa_nil))))
    (pss_cons (ps_if (pt_cmpR op_ne (pe_ix ix_tup (pv 2) pe_int (fun _ _ => rfl)) pe_int (nomark _))
    (pss_one (ps_ret (pe_cmpR op_gt (pe_ix ix_tup (pv 2) pe_int (fun _ _ => rfl)) pe_int (nomark _))))
    pss_nil)
    (pss_one (ps_ret (pe_cmpR op_gt (pe_ix ix_tup (pe_kn G_l_minus (hr.mono (by decide)) (by rfl) (pa_cons (pe_ix ix_tup (pv 1) pe_int (fun _ _ => rfl)) (pa_cons (pe_ix ix_tup (pv 0) pe_int (fun _ _ => rfl)) pa_nil))) pe_int (fun _ _ => rfl)) pe_int (nomark _)))))), ?_⟩
  show (_ : TS) _ [some v, some w, none] _
  repeat walk_at "w"
  rename_i f1 k1 f2 k2
  obtain ⟨a1, rfl, t1⟩ := k1
  obtain ⟨a2, rfl, t2⟩ := k2
  refine ⟨_, _, _, _, _, _, rfl, t1, t2, s3.t.mono (by decide), s3.b.mono (by decide), s1.t.mono (by decide), s1.b.mono (by decide), fun p H1 g1 _ hp => ?_⟩
  repeat walk_at "w"
  refine r_seq ?_
  repeat walk_at "w"
  refine r_iteN (fun c => ?_) (fun c => ?_)
  · repeat walk_at "w"
    rw [show decide (x'.num * (x.den : Int) - x.num * (x'.den : Int) > 0) = decide (x < x' ∨ (x = x' ∧ y < y')) from decide_eq_decide.mpr ⟨fun z => .inl (i2.mp z), fun z => by
      rcases z with z | z
      · exact i2.mpr z
      · exact absurd (i1.mpr z.1) c⟩]
    exact q _ g1
  repeat walk_at "w"
  rename_i f3 k3 f4 k4
  obtain ⟨a3, rfl, t3⟩ := k3
  obtain ⟨a4, rfl, t4⟩ := k4
  refine ⟨_, _, _, _, _, _, rfl, t3, t4, s4.t.mono (by decide), s4.b.mono (by decide), s2.t.mono (by decide), s2.b.mono (by decide), fun p2 H2 g2 _ hp2 => ?_⟩
  repeat walk_at "w"
  rw [show decide (y'.num * (y.den : Int) - y.num * (y'.den : Int) > 0) = decide (x < x' ∨ (x = x' ∧ y < y')) from decide_eq_decide.mpr ⟨fun z => .inr ⟨i1.mp c, j2.mp z⟩, fun z => by
    rcases z with z | z
    · have := i2.mpr z
      have c' : x'.num * (x.den : Int) - x.num * (x'.den : Int) = 0 := c
      omega
    · exact j2.mpr z.2⟩]
  exact q _ (g1.trans g2)
theorem ok_is (F : Fn K mg "_law_is" s_is) (z_isinstance : mg "isinstance" = none) (z_bool : mg "bool" = none) : Kn P w K mg base 1 "_law_is" ["_law_found", "_law_due"] spIsB := by
  refine F.kn sc_is (fun vs H Q E h => ?_) (fun f cdv A outer s H vs Q E hr h => ?_) (fun _ _ _ _ _ _ us hl => match us, hl with | [_, _], _ => rfl)
  · obtain ⟨b, c, rfl, _⟩ := h
    rfl
  obtain ⟨b, c, rfl, q⟩ := h
  refine ⟨_, (pss_one (ps_ret (pe_and (pe_callB call_isi (by rfl) z_isinstance (by decide +kernel) (pa_cons (pv 0) (pa_cons (pe_bltn (v := .ty "bool") (by rfl) z_bool (by decide +kernel) rfl) pa_nil))) (pe_one (pe_cmpR op_eq (pv 0) (pv 1) (nomark _)))))), ?_⟩
  show (_ : TS) _ [some (.bl b), some (.bl c)] _
  repeat walk_at "w"
  refine r_isi (.base (.bl b)) rfl ?_
  repeat walk_at "w"
  exact q
theorem ok_small (F : Fn K mg "_law_small" s_small) (G_take : Kn P w K mg base 1 "_law_take" ["_law_stream_here", "_law_many"] spTakeS) (G_lowest : Kn P w K mg base 2 "_law_lowest" ["_law_pair"] (spLowQ K)) : Kn P w K mg base 3 "_law_small" ["_law_stream_here"] (spSmall K) := by
  refine F.kn sc_small (fun vs H Q E h => ?_) (fun f cdv A outer s H vs Q E hr h => ?_) (fun _ _ _ _ _ _ us hl => match us, hl with | [_], _ => rfl)
  · obtain ⟨p, n, rfl, _⟩ := h
    rfl
  obtain ⟨p, n, rfl, hp, hn, q⟩ := h
  refine ⟨_, (pss_cons (ps_set (i := 1) sc_small.nd rfl (.inl rfl) (pe_cmpR op_eq (pe_kn G_take (hr.mono (by decide)) (by rfl) (pa_cons (pv 0) (pa_cons pe_int pa_nil))) pe_int (nomark _)))
    (pss_cons (ps_set (i := 2) sc_small.nd rfl (.inl rfl) (pe_op op_sub (pe_kn G_take (hr.mono (by decide)) (by rfl) (pa_cons (pv 0) (pa_cons pe_int pa_nil))) pe_int))
    (pss_cons (ps_if (pt_val (pv 1))
    (pss_one (ps_ret (pe_tup (pa_cons (pv 2) (pa_cons pe_int pa_nil)))))
    pss_nil)
    (pss_one (ps_ret (pe_kn G_lowest (hr.mono (by decide)) (by rfl) (pa_cons (pe_tup (pa_cons (pv 2) (pa_cons (pe_op op_add pe_int (pe_kn G_take (hr.mono (by decide)) (by rfl) (pa_cons (pv 0) (pa_cons pe_int pa_nil)))) pa_nil))) pa_nil))))))), ?_⟩
  show (_ : TS) _ [some (.ref p), none, none] _
  repeat walk_at "c1"
  refine ⟨p, _, n, rfl, hp, by omega, by decide, by decide, fun r H1 b1 hp1 r0 r1 => ?_⟩
  repeat walk_at "c1"
  refine ⟨p, _, _, rfl, hp1, by omega, by decide, by decide, fun r2 H2 b2 hp2 r3 r4 => ?_⟩
  have st : Sm 8 (r2 - 99) := by unfold Sm; omega
  repeat walk_at "c1"
  refine r_seq ?_
  repeat walk_at "c1"
  refine r_ite (fun d => ?_) (fun d => ?_)
  · repeat walk_at "c1"
    rename_i o H3 g3 n3 h3
    exact q _ _ _ ((b1.trans b2).trans (But.same g3)) ((hp2.same g3).mono (by omega)) (Fq.int h3) (Sz.int st (by decide))
  · repeat walk_at "c1"
    refine ⟨p, _, _, rfl, hp2, by omega, by decide, by decide, fun r5 H3 b3 hp3 r6 r7 => ?_⟩
    have su : Sm 8 (1 + r5) := by unfold Sm; omega
    have nz : 1 + r5 ≠ 0 := by omega
    repeat walk_at "c1"
    rename_i o4 H4 g4 n4 h4 v5 H5 g5 f5
    refine q _ _ _ (((b1.trans b2).trans b3).trans (But.same (g4.trans g5))) ((hp3.same (g4.trans g5)).mono (by omega)) f5 ?_
    rw [← Rat.divInt_eq_div]
    exact Sz.divInt nz st su
theorem ok_small_place (F : Fn K mg "_law_small_place" s_small_place) (G_small : Kn P w K mg base 3 "_law_small" ["_law_stream_here"] (spSmall K)) : Kn P w K mg base 4 "_law_small_place" ["_law_stream_here"] (spSmallP K) := by
  refine F.kn sc_small_place (fun vs H Q E h => ?_) (fun f cdv A outer s H vs Q E hr h => ?_) (fun _ _ _ _ _ _ us hl => match us, hl with | [_], _ => rfl)
  · obtain ⟨p, n, rfl, _⟩ := h
    rfl
  obtain ⟨p, n, rfl, hp, hn, q⟩ := h
  refine ⟨_, (pss_one (ps_ret (pe_tup (pa_cons (pe_kn G_small (hr.mono (by decide)) (by rfl) (pa_cons (pv 0) pa_nil)) (pa_cons (pe_kn G_small (hr.mono (by decide)) (by rfl) (pa_cons (pv 0) pa_nil)) pa_nil))))), ?_⟩
  show (_ : TS) _ [some (.ref p)] _
  repeat walk_at "c1"
  refine ⟨p, n, rfl, hp, by omega, fun v1 q1 H1 b1 hp1 f1 s1 => ?_⟩
  repeat walk_at "c1"
  refine ⟨p, _, rfl, hp1, by omega, fun v2 q2 H2 b2 hp2 f2 s2 => ?_⟩
  repeat walk_at "c1"
  rename_i o H3 g3 n3 h3
  exact q _ _ _ _ ((b1.trans b2).trans (But.same g3)) ((hp2.same g3).mono (by omega)) (Pq.mk h3 ((f1.upB b2 hp1).up g3) (f2.up g3)) s1 s2
theorem ok_small_near (F : Fn K mg "_law_small_near" s_small_near) (G_take : Kn P w K mg base 1 "_law_take" ["_law_stream_here", "_law_many"] spTakeS) (G_small_place : Kn P w K mg base 4 "_law_small_place" ["_law_stream_here"] (spSmallP K)) : Kn P w K mg base 5 "_law_small_near" ["_law_stream_here", "_law_p"] (spSmallN K) := by
  refine F.kn sc_small_near (fun vs H Q E h => ?_) (fun f cdv A outer s H vs Q E hr h => ?_) (fun _ _ _ _ _ _ us hl => match us, hl with | [_, _], _ => rfl)
  · obtain ⟨p, n, w, x, y, rfl, _⟩ := h
    rfl
  obtain ⟨p, n, w, x, y, rfl, hp, hn, hw, sx, sy, q⟩ := h
  refine ⟨_, (pss_cons (ps_set (i := 2) sc_small_near.nd rfl (.inl rfl) (pe_kn G_take (hr.mono (by decide)) (by rfl) (pa_cons (pv 0) (pa_cons pe_int pa_nil))))
    (pss_cons (ps_set (i := 3) sc_small_near.nd rfl (.inl rfl) (pe_kn G_small_place (hr.mono (by decide)) (by rfl) (pa_cons (pv 0) pa_nil)))
    (pss_cons (ps_if (pt_cmpR op_eq (pv 2) pe_int (nomark _))
    (pss_one (ps_ret (pv 1)))
    pss_nil)
    (pss_cons (ps_if (pt_cmpR op_eq (pv 2) pe_int (nomark _))
    (pss_one (ps_ret (pe_tup (pa_cons (pe_ix ix_tup (pv 1) pe_int (fun _ _ => rfl)) (pa_cons (pe_ix ix_tup (pv 3) pe_int (fun _ _ => rfl)) pa_nil)))))
    pss_nil)
    (pss_cons (ps_if (pt_cmpR op_eq (pv 2) pe_int (nomark _))
    (pss_one (ps_ret (pe_tup (pa_cons (pe_ix ix_tup (pv 3) pe_int (fun _ _ => rfl)) (pa_cons (pe_ix ix_tup (pv 1) pe_int (fun _ _ => rfl)) pa_nil)))))
    pss_nil)
    (pss_one (ps_ret (pv 3)))))))), ?_⟩
  show (_ : TS) _ [some (.ref p), some w, none, none] _
  repeat walk_at "c1"
  refine ⟨p, _, n, rfl, hp, by omega, by decide, by decide, fun r H1 b1 hp1 r0 r1 => ?_⟩
  repeat walk_at "c1"
  refine ⟨p, _, rfl, hp1, by omega, fun v2 x2 y2 H2 b2 hp2 P2 t2 t3 => ?_⟩
  have hw2 : Pq K H2 w x y := (hw.upB b1 hp).upB b2 hp1
  have bb := b1.trans b2
  have hp3 : Sr H2 p (n + 40) := hp2.mono (by omega)
  clear hw b1 b2 hp hp1 hp2
  repeat walk_at "c1"
  refine r_seq ?_
  repeat walk_at "c1"
  refine r_ite (fun d => ?_) (fun d => ?_)
  · repeat walk_at "c1"
    exact q _ _ _ _ bb hp3 hw2 sx sy
  repeat walk_at "c1"
  refine r_seq ?_
  repeat walk_at "c1"
  refine r_ite (fun d => ?_) (fun d => ?_)
  · repeat walk_at "c1"
    rename_i o5 H5 g5 n5 h5
    refine q _ ?x1 ?y1 _ (bb.trans (But.same g5)) (hp3.same g5) ?h1 ?h2 ?h3
    case h1 => walk_at "fq"
    case h2 => assumption
    case h3 => assumption
  repeat walk_at "c1"
  refine r_seq ?_
  repeat walk_at "c1"
  refine r_ite (fun d => ?_) (fun d => ?_)
  · repeat walk_at "c1"
    rename_i o5 H5 g5 n5 h5
    refine q _ ?x2 ?y2 _ (bb.trans (But.same g5)) (hp3.same g5) ?i1 ?i2 ?i3
    case i1 => walk_at "fq"
    case i2 => assumption
    case i3 => assumption
  repeat walk_at "c1"
  exact q _ _ _ _ bb hp3 P2 t2 t3
theorem ok_l_in_order (F : Fn K mg "_law_in_order" s_l_in_order) (G_ahead : Kn P w K mg base 2 "_law_ahead" ["_law_p", "_law_q"] (spAhead K)) : Kn P w K mg base 3 "_law_in_order" ["_law_p", "_law_q"] (spInOrder K) := by
  refine F.kn sc_l_in_order (fun vs H Q E h => ?_) (fun f cdv A outer s H vs Q E hr h => ?_) (fun _ _ _ _ _ _ us hl => match us, hl with | [_, _], _ => rfl)
  · obtain ⟨v, w, x, y, x', y', rfl, _⟩ := h
    rfl
  obtain ⟨v, w, x, y, x', y', rfl, h1, h2, s1, s2, s3, s4, q⟩ := h
  refine ⟨_, (pss_cons (ps_if (pt_val (pe_kn G_ahead (hr.mono (by decide)) (by rfl) (pa_cons (pv 1) (pa_cons (pv 0) pa_nil))))
    (pss_one (ps_ret (pe_lst (pa_cons (pv 1) (pa_cons (pv 0) pa_nil)))))
    pss_nil)
    (pss_one (ps_ret (pe_lst (pa_cons (pv 0) (pa_cons (pv 1) pa_nil)))))), ?_⟩
  show (_ : TS) _ [some v, some w] _
  refine r_seq ?_
  repeat walk_at "c2"
  refine ⟨_, _, x', y', x, y, rfl, h2, h1, s3, s4, s1, s2, fun H1 g1 => ?_⟩
  repeat walk_at "c2"
  refine r_ite (fun d => ?_) (fun d => ?_)
  · repeat walk_at "c2"
    rename_i l H2 g2 n2 e2
    exact q l H2 _ _ (g1.trans g2) e2 (.inr ⟨d, rfl, rfl⟩)
  · repeat walk_at "c2"
    rename_i l H2 g2 n2 e2
    exact q l H2 _ _ (g1.trans g2) e2 (.inl ⟨d, rfl, rfl⟩)
theorem ok_two (F : Fn K mg "_law_two" s_two) (G_l_in_order : Kn P w K mg base 3 "_law_in_order" ["_law_p", "_law_q"] (spInOrder K)) : Kn P w K mg base 4 "_law_two" ["_law_found", "_law_p", "_law_q"] (spTwo K) := by
  refine F.kn sc_two (fun vs H Q E h => ?_) (fun f cdv A outer s H vs Q E hr h => ?_) (fun _ _ _ _ _ _ us hl => match us, hl with | [_, _, _], _ => rfl)
  · obtain ⟨f9, v, w, l, x, y, x', y', rfl, _⟩ := h
    rfl
  obtain ⟨f9, v, w, l, x, y, x', y', rfl, h1, h2, s1, s2, s3, s4, cs, q⟩ := h
  refine ⟨_, (pss_one (ps_ret (pe_cmpR (op_eqD hr.units) (pv 0) (pe_tup (pa_cons pe_str (pa_cons (pe_kn G_l_in_order (hr.mono (by decide)) (by rfl) (pa_cons (pv 1) (pa_cons (pv 2) pa_nil))) pa_nil))) (nomark _)))), ?_⟩
  show (_ : TS) _ [some f9, some v, some w] _
  repeat walk_at "c4"
  refine ⟨_, _, x, y, x', y', rfl, h1, h2, s1, s2, s3, s4, fun l9 H9 f8 g9 gs9 e9 c9 => ?_⟩
  repeat walk_at "c4"
  rename_i o10 H10 g10 n10 e10
  rcases c9 with ⟨c9, rfl, rfl⟩ | ⟨c9, rfl, rfl⟩
  · rcases cs with ⟨kf, _⟩ | ⟨_, o⟩
    · skip
      refine r_eqC2 ((kf.up gs9).up g10) (Ct2.mk e10 (g10 _ _ e9) ((h1.up gs9).up g10) ((h2.up gs9).up g10)) ⟨rfl, rfl, rfl, rfl⟩ ?_
      exact q _ (gs9.trans g10)
    · exact absurd o c9
  · rcases cs with ⟨_, o⟩ | ⟨kf, _⟩
    · exact absurd c9 o
    · skip
      refine r_eqC2 ((kf.up gs9).up g10) (Ct2.mk e10 (g10 _ _ e9) ((h2.up gs9).up g10) ((h1.up gs9).up g10)) ⟨rfl, rfl, rfl, rfl⟩ ?_
      exact q _ (gs9.trans g10)
theorem ok_touching (F : Fn K mg "_law_touching" s_touching) (G_through : Kn P w K mg base 3 "through" ["p", "q"] (spThruO K)) (G_upright : Kn P w K mg base 4 "upright" ["p", "line"] (spAlong K RUp)) (G_two : Kn P w K mg base 4 "_law_two" ["_law_found", "_law_p", "_law_q"] (spTwo K)) (G_line_cuts : Kn P w K mg base 4 "line_cuts" ["line", "ring"] (spCuts K)) (G_beyond : Kn P w K mg base 5 "beyond" ["p", "q"] (spP2 K (fun x y x2 y2 => x2 + x2 - x) (fun x y x2 y2 => y2 + y2 - y))) (G_middle : Kn P w K mg base 5 "middle" ["p", "q"] (spP2 K (fun x y x2 y2 => (x + x2) / 2) (fun x y x2 y2 => (y + y2) / 2))) : Kn P w K mg base 6 "_law_touching" ["_law_p", "_law_q", "_law_ring"] (spTouching K) := by
  refine F.kn sc_touching (fun vs H Q E h => ?_) (fun f cdv A outer s H vs Q E hr h => ?_) (fun _ _ _ _ _ _ us hl => match us, hl with | [_, _, _], _ => rfl)
  · obtain ⟨v, w, u, x, y, x', y', s9, rfl, _⟩ := h
    rfl
  obtain ⟨v, w, u, x, y, x', y', s9, rfl, h1, h2, h3, s1, s2, s3, s4, s5, ne, es, q⟩ := h
  refine ⟨_, (pss_cons (ps_set (i := 3) sc_touching.nd rfl (.inl rfl) (pe_kn G_through (hr.mono (by decide)) (by rfl) (pa_cons (pv 0) (pa_cons (pv 1) pa_nil))))
    (pss_cons (ps_if (pt_not (pt_val (pe_kn G_two (hr.mono (by decide)) (by rfl) (pa_cons (pe_kn G_line_cuts (hr.mono (by decide)) (by rfl) (pa_cons (pe_kn G_upright (hr.mono (by decide)) (by rfl) (pa_cons (pv 1) (pa_cons (pv 3) pa_nil))) (pa_cons (pv 2) pa_nil))) (pa_cons (pv 1) (pa_cons (pv 1) pa_nil))))))
    (pss_one (ps_ret pe_bl))
    pss_nil)
    (pss_cons (ps_if (pt_cmpR (op_neD hr.units) (pe_kn G_line_cuts (hr.mono (by decide)) (by rfl) (pa_cons (pe_kn G_upright (hr.mono (by decide)) (by rfl) (pa_cons (pe_kn G_beyond (hr.mono (by decide)) (by rfl) (pa_cons (pv 0) (pa_cons (pv 1) pa_nil))) (pa_cons (pv 3) pa_nil))) (pa_cons (pv 2) pa_nil))) (pe_tup (pa_cons pe_str (pa_cons (pe_lst pa_nil) pa_nil))) (nomark _))
    (pss_one (ps_ret pe_bl))
    pss_nil)
    (pss_one (ps_ret (pe_cmpR (op_eqD hr.units) (pe_kn G_line_cuts (hr.mono (by decide)) (by rfl) (pa_cons (pe_kn G_upright (hr.mono (by decide)) (by rfl) (pa_cons (pe_kn G_middle (hr.mono (by decide)) (by rfl) (pa_cons (pv 0) (pa_cons (pv 1) pa_nil))) (pa_cons (pv 3) pa_nil))) (pa_cons (pv 2) pa_nil))) (pe_tup (pa_cons pe_str (pa_cons (pe_lst pa_nil) pa_nil))) (nomark _))))))), ?_⟩
  show (_ : TS) _ [some v, some w, some u, none] _
  repeat walk_at "c5"
  refine r_seq ?_
  repeat walk_at "c5"
  rename_i vl H1 A B C g1 kl hL o1 o2 t1 t2 t3 va H2 a1 b1 c1 g2 ka hl1 on1 R1 u1 u2 u3
  have p1 := up_wayK hL o1 o2 R1
  have h1' := (h1.up g1).up g2
  have h2' := (h2.up g1).up g2
  have h3' := (h3.up g1).up g2
  have kl' := kl.up g2
  have gS := g1.trans g2
  have z1 : Sz 211 x := s1.mono (by decide)
  have z2 : Sz 211 y := s2.mono (by decide)
  have rq : (x' - x) * (x' - x) + (y' - y) * (y' - y) = s9 := es.symm
  clear h1 h2 h3 kl g1 g2
  refine r_cutK (px := x') (py := y') (qx := x') (qy := y') ka hl1 h3' u1 u2 u3 rfl z1 z2 s5 on1 on1 rq rq (.inr ⟨⟨rfl, rfl⟩, p1⟩) (fun r l H3 g3 kk => ?_)
  repeat walk_at "c5"
  refine r_twoK (h2'.up g3) (h2'.up g3) (s3.mono (by decide)) (s4.mono (by decide)) (s3.mono (by decide)) (s4.mono (by decide)) kk (fun H4 g4 => ?_)
  have gS4 := (gS.trans g3).trans g4
  have h1 := (h1'.up g3).up g4
  have h2 := (h2'.up g3).up g4
  have h3 := (h3'.up g3).up g4
  have kl := (kl'.up g3).up g4
  clear h1' h2' h3' kl' g3 g4 gS kk ka p1 on1 R1 u1 u2 u3 hl1
  repeat walk_at "c5"
  refine r_seq ?_
  repeat walk_at "c5"
  rename_i vb H5 g5 kb va H6 a2 b2 c2 g6 ka hl2 on2 R2 u1 u2 u3
  have p2 := up_wayK hL o1 o2 R2
  have h1' := (h1.up g5).up g6
  have h2' := (h2.up g5).up g6
  have h3' := (h3.up g5).up g6
  have kl' := (kl.up g5).up g6
  have gS6 := (gS4.trans g5).trans g6
  clear h1 h2 h3 kl kb g5 g6 gS4
  obtain ⟨d, hd⟩ : ∃ d, Cd a2 b2 c2 x y s9 d := ⟨_, ⟨rfl⟩⟩
  have m0 := way_nz hl2 ne p2
  have msq := way_sq p2
  have dn : d < 0 := by
    obtain ⟨ed⟩ := hd
    have e1 : d = -3 * (((a2 : Rat) * (x' - x) + b2 * (y' - y)) * ((a2 : Rat) * (x' - x) + b2 * (y' - y))) := by
      rw [ed, es, msq, ← on2]
      grind
    have pp : 0 < ((a2 : Rat) * (x' - x) + b2 * (y' - y)) * ((a2 : Rat) * (x' - x) + b2 * (y' - y)) := by
      refine Rat.not_le.mp (fun z => ?_)
      have := Rat.le_antisymm z (sq_nnR _)
      rcases Rat.mul_eq_zero.mp this with z | z <;> exact absurd z m0
    rw [e1]
    grind
  refine r_cutM ka hl2 h3' u1 u2 u3 rfl z1 z2 s5 hd dn (fun r l H7 g7 n7 k7 => ?_)
  repeat walk_at "c5"
  rename_i l8 H8 g8 n8 e8 o9 H9 g9 n9 e9
  refine r_neC0 ((k7.up g8).up g9) (Ct0.mk e9 (g9 _ _ e8)) ok_miss ?_
  have gg := (g7.trans g8).trans g9
  have h1 := h1'.up gg
  have h2 := h2'.up gg
  have h3 := h3'.up gg
  have kl := kl'.up gg
  have gS9 := gS6.trans gg
  clear h1' h2' h3' kl' gg g7 g8 g9 k7 e8 e9 gS6 ka p2 on2 R2 u1 u2 u3 hl2 hd dn m0 msq
  repeat walk_at "c5"
  rename_i vb H5 g5 kb va H6 a2 b2 c2 g6 ka hl2 on2 R2 u1 u2 u3
  have p2 := up_wayK hL o1 o2 R2
  have h3' := (h3.up g5).up g6
  have gS6 := (gS9.trans g5).trans g6
  clear h1 h2 h3 kl kb g5 g6 gS9
  obtain ⟨d, hd⟩ : ∃ d, Cd a2 b2 c2 x y s9 d := ⟨_, ⟨rfl⟩⟩
  have m0 := way_nz hl2 ne p2
  have msq := way_sq p2
  have e1 : d = 3 * ((((a2 : Rat) * (x' - x) + b2 * (y' - y)) / 2) * (((a2 : Rat) * (x' - x) + b2 * (y' - y)) / 2)) := by
    obtain ⟨ed⟩ := hd
    rw [ed, es, msq, ← on2]
    grind
  have m1 : ((a2 : Rat) * (x' - x) + b2 * (y' - y)) / 2 ≠ 0 := by grind
  have dp : 0 ≤ d := by
    rw [e1]
    have := sq_nnR (((a2 : Rat) * (x' - x) + b2 * (y' - y)) / 2)
    grind
  refine r_cutR ka hl2 h3' u1 u2 u3 rfl z1 z2 s5 hd dp (fun ⟨r, er⟩ => no3R r _ m1 (er.trans e1)) (fun r l H7 g7 n7 k7 => ?_)
  repeat walk_at "c5"
  rename_i l8 H8 g8 n8 e8 o9 H9 g9 n9 e9
  refine r_eqC0 ((k7.up g8).up g9) (Ct0.mk e9 (g9 _ _ e8)) ok_rootw ?_
  exact q _ (((gS6.trans g7).trans g8).trans g9)
theorem ok_law {f : Addr} {fd : FuncData} (F : FnP K "law" s_law f fd) (G_stream : Kn P w K mg base 1 "_law_stream" ["_law_script", "_law_at"] (spStream K)) (G_small_place : Kn P w K mg base 4 "_law_small_place" ["_law_stream_here"] (spSmallP K)) (G_small_near : Kn P w K mg base 5 "_law_small_near" ["_law_stream_here", "_law_p"] (spSmallN K)) (G_about : Kn P w K mg base 4 "about" ["p", "q"] (spAbout K)) (G_touching : Kn P w K mg base 6 "_law_touching" ["_law_p", "_law_q", "_law_ring"] (spTouching K)) (G_through : Kn P w K mg base 3 "through" ["p", "q"] (spThruO K)) (G_upright : Kn P w K mg base 4 "upright" ["p", "line"] (spAlong K RUp)) (G_mirror : Kn P w K mg base 6 "mirror" ["p", "line"] (spMirror K)) (G_is_place : Kn P w K mg base 3 "_law_is_place" ["_law_found"] (spIsP K)) (G_two : Kn P w K mg base 4 "_law_two" ["_law_found", "_law_p", "_law_q"] (spTwo K)) (G_line_cuts : Kn P w K mg base 4 "line_cuts" ["line", "ring"] (spCuts K)) (G_turned : Kn P w K mg base 4 "turned" ["p", "q"] (spP2 K (fun x y x2 y2 => x2 - (y - y2)) (fun x y x2 y2 => y2 + (x - x2)))) (G_ring_cuts : Kn P w K mg base 5 "ring_cuts" ["ring", "other"] (spRing K)) (G_as_far : Kn P w K mg base 4 "as_far" ["p", "q", "r", "s"] (spAsFar K)) (G_all_round : Kn P w K mg base 5 "all_round" ["p", "q", "r", "s"] (spRound K)) (G_is : Kn P w K mg base 1 "_law_is" ["_law_found", "_law_due"] spIsB) : FnOk P w K mg base CX0 (7 + 1) f fd ["_law_script"] (spLaw K) := by
  refine fnp_ok F sc_law (fun vs H Q E h => ?_) (fun cdv A outer s H vs Q E hr h => ?_)
  · obtain ⟨a, ns, rfl, _⟩ := h
    rfl
  obtain ⟨a, ns, rfl, hS, hl, q⟩ := h
  refine ⟨_, (pss_cons (ps_set (i := 1) sc_law.nd rfl (.inl rfl) (pe_kn G_small_place (hr.mono (by decide)) (by rfl) (pa_cons (pe_kn G_stream (hr.mono (by decide)) (by rfl) (pa_cons (pv 0) (pa_cons pe_int pa_nil))) pa_nil)))
    (pss_cons (ps_set (i := 2) sc_law.nd rfl (.inl rfl) (pe_kn G_small_near (hr.mono (by decide)) (by rfl) (pa_cons (pe_kn G_stream (hr.mono (by decide)) (by rfl) (pa_cons (pv 0) (pa_cons pe_int pa_nil))) (pa_cons (pv 1) pa_nil))))
    (pss_cons (ps_set (i := 3) sc_law.nd rfl (.inl rfl) (pe_kn G_small_near (hr.mono (by decide)) (by rfl) (pa_cons (pe_kn G_stream (hr.mono (by decide)) (by rfl) (pa_cons (pv 0) (pa_cons pe_int pa_nil))) (pa_cons (pv 2) pa_nil))))
    (pss_cons (ps_set (i := 4) sc_law.nd rfl (.inl rfl) (pe_kn G_about (hr.mono (by decide)) (by rfl) (pa_cons (pv 1) (pa_cons (pv 2) pa_nil))))
    (pss_cons (ps_if (pt_cmpR (op_eqD hr.units) (pv 1) (pv 2) (nomark _))
    (pss_one (ps_ret (pe_cmpR op_isNo (pv 4) pe_non (nomark _))))
    pss_nil)
    (pss_cons (ps_if (pt_not (pt_val (pe_kn G_touching (hr.mono (by decide)) (by rfl) (pa_cons (pv 1) (pa_cons (pv 2) (pa_cons (pv 4) pa_nil))))))
    (pss_one (ps_ret pe_bl))
    pss_nil)
    (pss_cons (ps_if (pt_cmpR (op_eqD hr.units) (pv 2) (pv 3) (nomark _))
    (pss_one (ps_ret (pe_cmpR op_isNo (pe_kn G_about (hr.mono (by decide)) (by rfl) (pa_cons (pv 3) (pa_cons (pv 2) pa_nil))) pe_non (nomark _))))
    pss_nil)
    (pss_cons (ps_set (i := 5) sc_law.nd rfl (.inl rfl) (pe_kn G_through (hr.mono (by decide)) (by rfl) (pa_cons (pv 2) (pa_cons (pv 3) pa_nil))))
    (pss_cons (ps_set (i := 6) sc_law.nd rfl (.inl rfl) (pe_kn G_mirror (hr.mono (by decide)) (by rfl) (pa_cons (pv 2) (pa_cons (pe_kn G_upright (hr.mono (by decide)) (by rfl) (pa_cons (pv 1) (pa_cons (pv 5) pa_nil))) pa_nil))))
    (pss_cons (ps_if (PW.pt (pw_or (pt_not (pt_val (pe_kn G_is_place (hr.mono (by decide)) (by rfl) (pa_cons (pv 6) pa_nil)))) (pw_or1 (pt_not (pt_val (pe_kn G_two (hr.mono (by decide)) (by rfl) (pa_cons (pe_kn G_line_cuts (hr.mono (by decide)) (by rfl) (pa_cons (pv 5) (pa_cons (pv 4) pa_nil))) (pa_cons (pv 2) (pa_cons (pv 6) pa_nil)))))))))
    (pss_one (ps_ret pe_bl))
    pss_nil)
    (pss_cons (ps_set (i := 7) sc_law.nd rfl (.inl rfl) (pe_lst (pa_cons (pv 2) (pa_cons (pv 6) (pa_cons (pe_kn G_turned (hr.mono (by decide)) (by rfl) (pa_cons (pv 2) (pa_cons (pv 1) pa_nil))) (pa_cons (pe_kn G_turned (hr.mono (by decide)) (by rfl) (pa_cons (pe_kn G_turned (hr.mono (by decide)) (by rfl) (pa_cons (pv 2) (pa_cons (pv 1) pa_nil))) (pa_cons (pv 1) pa_nil))) pa_nil))))))
    (pss_cons (ps_set (i := 8) sc_law.nd rfl (.inl rfl) (pe_kn G_about (hr.mono (by decide)) (by rfl) (pa_cons (pv 3) (pa_cons (pv 2) pa_nil))))
    (pss_cons (ps_if (pt_cmpR (op_eqD hr.units) (pv 1) (pv 3) (nomark _))
    (pss_one (ps_if (pt_cmpR (op_neD hr.units) (pe_kn G_ring_cuts (hr.mono (by decide)) (by rfl) (pa_cons (pv 4) (pa_cons (pv 8) pa_nil))) (pe_tup (pa_cons pe_str (pa_cons (pe_lst pa_nil) pa_nil))) (nomark _))
    (pss_one (ps_ret pe_bl))
    pss_nil))
    (pss_cons (ps_set (i := 9) sc_law.nd rfl (.inl rfl) (pe_kn G_mirror (hr.mono (by decide)) (by rfl) (pa_cons (pv 2) (pa_cons (pe_kn G_through (hr.mono (by decide)) (by rfl) (pa_cons (pv 1) (pa_cons (pv 3) pa_nil))) pa_nil))))
    (pss_cons (ps_if (PW.pt (pw_or (pt_not (pt_val (pe_kn G_two (hr.mono (by decide)) (by rfl) (pa_cons (pe_kn G_ring_cuts (hr.mono (by decide)) (by rfl) (pa_cons (pv 4) (pa_cons (pv 8) pa_nil))) (pa_cons (pv 2) (pa_cons (pv 9) pa_nil)))))) (pw_or1 (pt_not (pt_val (pe_kn G_is (hr.mono (by decide)) (by rfl) (pa_cons (pe_kn G_as_far (hr.mono (by decide)) (by rfl) (pa_cons (pv 3) (pa_cons (pv 9) (pa_cons (pv 3) (pa_cons (pv 2) pa_nil))))) (pa_cons pe_bl pa_nil))))))))
    (pss_one (ps_ret pe_bl))
    pss_nil)
    (pss_one (ps_expr (pe_bm PySem.F.plainAttrs_list PySem.F.slot_list_append PySem.F.type_list_append mt_append (pv 7) (pa_cons (pv 9) pa_nil)))))))
    (pss_cons (ps_for PassesOwn.never rfl (pi_list (pv 7)) (pg_name (i := 10) sc_law.nd rfl (.inl rfl))
    (pss_cons (ps_if (pt_not (pt_val (pe_kn G_is (hr.mono (by decide)) (by rfl) (pa_cons (pe_kn G_as_far (hr.mono (by decide)) (by rfl) (pa_cons (pv 1) (pa_cons (pv 10) (pa_cons (pv 2) (pa_cons (pv 1) pa_nil))))) (pa_cons pe_bl pa_nil)))))
    (pss_one (ps_ret pe_bl))
    pss_nil)
    (pss_one (ps_if (pt_not (pt_val (pe_kn G_is (hr.mono (by decide)) (by rfl) (pa_cons (pe_kn G_all_round (hr.mono (by decide)) (by rfl) (pa_cons (pe_ix ix_list (pv 7) pe_int (fun _ _ => rfl)) (pa_cons (pv 10) (pa_cons (pe_ix ix_list (pv 7) pe_int (fun _ _ => rfl)) (pa_cons (pe_ix ix_list (pv 7) pe_int (fun _ _ => rfl)) pa_nil))))) (pa_cons pe_bl pa_nil)))))
    (pss_one (ps_ret pe_bl))
    pss_nil))))
    (pss_one (ps_ret pe_bl)))))))))))))))), ?_⟩
  show (_ : TS) _ [some (.ref a), none, none, none, none, none, none, none, none, none, none] _
  repeat walk_at "c5"
  rename_i p1 H1 g1 n1 h1 vp xp yp H2 b2 h2 kp s1 s2 p3 H3 g3 n3 h3 vq xq yq H4 b4 h4 kq s3 s4 p5 H5 g5 n5 h5 vr xr yr H6 b6 h6 kr s5 s6
  have kp6 : Pq K H6 vp xp yp := by walk_at "fq"
  have kq6 : Pq K H6 vq xq yq := by walk_at "fq"
  clear kp kq g1 g3 g5 b2 b4 b6 h1 h2 h3 h4 h5 h6 n1 n3 n5
  by_cases e : xp = xq ∧ yp = yq
  · repeat walk_at "c5"
    refine r_seq ?_
    repeat walk_at "c5"
    walk_at "eqd"
    repeat walk_at "c5"
    refine r_dT (decide_eq_true e) ?_
    repeat walk_at "c5"
    exact q _
  repeat walk_at "c5"
  rename_i vg H7 g7 kg
  have kp7 := kp6.up g7
  have kq7 := kq6.up g7
  have kr7 := kr.up g7
  have sS : Sz 211 ((xq - xp) * (xq - xp) + (yq - yp) * (yq - yp)) := Sz.mono (((s3.sub s1).mul (s3.sub s1)).add ((s4.sub s2).mul (s4.sub s2))) (by decide)
  have sS2 : Sz 200 ((xq - xp) * (xq - xp) + (yq - yp) * (yq - yp)) := Sz.mono (((s3.sub s1).mul (s3.sub s1)).add ((s4.sub s2).mul (s4.sub s2))) (by decide)
  obtain ⟨S, eS⟩ : ∃ S, S = (xq - xp) * (xq - xp) + (yq - yp) * (yq - yp) := ⟨_, rfl⟩
  rw [← eS] at kg sS sS2
  clear kp6 kq6 kr g7
  refine r_seq ?_
  repeat walk_at "c5"
  walk_at "eqd"
  repeat walk_at "c5"
  refine r_no e ?_
  repeat walk_at "c5"
  refine r_seq ?_
  repeat walk_at "c5"
  refine r_touch kp7 kq7 kg s1 s2 s3 s4 sS e eS (fun H8 g8 => ?_)
  have kp := kp7.up g8
  have kq := kq7.up g8
  have kr := kr7.up g8
  have kg8 := kg.up g8
  clear kp7 kq7 kr7 kg g8
  repeat walk_at "c5"
  refine r_seq ?_
  repeat walk_at "c5"
  walk_at "eqd"
  repeat walk_at "c5"
  refine r_ite (fun e2 => ?_) (fun ne2 => ?_)
  · have e2' : xr = xq ∧ yr = yq := ⟨e2.1.symm, e2.2.symm⟩
    repeat walk_at "c5"
    exact q _
  have ne2' : ¬ (xr = xq ∧ yr = yq) := fun z => ne2 ⟨z.1.symm, z.2.symm⟩
  repeat walk_at "c5"
  rename_i vl H9 la lb lc g9 kl hL oq orr t1 t2 t3 va H10 a1 b1 c1 g10 ka hL1 op R1 u1 u2 u3 vo H11 fx fy g11 ko onf sqf zf1 zf2
  have kp11 := ((kp.up g9).up g10).up g11
  have kq11 := ((kq.up g9).up g10).up g11
  have kr11 := ((kr.up g9).up g10).up g11
  have kg11 := ((kg8.up g9).up g10).up g11
  have kl11 := (kl.up g10).up g11
  clear kp kq kr kg8 kl ka g9 g10 g11
  have on1 := mir_on hL1 R1 oq sqf
  have far1 := mir_far hL1 op onf sqf
  have szx : Sz 300 (fx + fx - xq) := Sz.mono ((zf1.add zf1).sub s3) (by decide)
  have szy : Sz 300 (fy + fy - yq) := Sz.mono ((zf2.add zf2).sub s4) (by decide)
  have rq : (xq - xp) * (xq - xp) + (yq - yp) * (yq - yp) = S := eS.symm
  rw [rq] at far1
  have cs : ¬ (xq = fx + fx - xq ∧ yq = fy + fy - yq) ∨ ((xq = fx + fx - xq ∧ yq = fy + fy - yq) ∧ (lb : Rat) * (xq - xp) = la * (yq - yp)) := by
    by_cases z : xq = fx + fx - xq ∧ yq = fy + fy - yq
    · refine .inr ⟨z, ?_⟩
      have ex : fx = xq := by have := z.1; grind
      have ey : fy = yq := by have := z.2; grind
      rw [ex, ey] at onf
      unfold RUp at R1
      have k1 : (a1 : Rat) * (xq - xp) + b1 * (yq - yp) = 0 := by grind
      have := par_of hL1 k1 R1
      grind
    · exact .inl z
  obtain ⟨X1, eX1⟩ : ∃ X, X = fx + fx - xq := ⟨_, rfl⟩
  obtain ⟨Y1, eY1⟩ : ∃ Y, Y = fy + fy - yq := ⟨_, rfl⟩
  rw [← eX1, ← eY1] at cs far1 on1 ko
  rw [← eX1] at szx
  rw [← eY1] at szy
  refine r_seq ?_
  repeat walk_at "c5"
  refine r_cutK (px := xq) (py := yq) (qx := X1) (qy := Y1) kl11 hL kg11 t1 t2 t3 rfl (s1.mono (by decide)) (s2.mono (by decide)) sS oq on1 rq far1 cs (fun r l H12 g12 kk => ?_)
  repeat walk_at "c5"
  refine r_twoK (kq11.up g12) (ko.up g12) (s3.mono (by decide)) (s4.mono (by decide)) (szx.mono (by decide)) (szy.mono (by decide)) kk (fun H13 g13 => ?_)
  have kp := (kp11.up g12).up g13
  have kq := (kq11.up g12).up g13
  have kr := (kr11.up g12).up g13
  have kg := (kg11.up g12).up g13
  have ko' := (ko.up g12).up g13
  clear kp11 kq11 kr11 kg11 kl11 ko g12 g13 kk cs on1 sqf onf zf1 zf2 R1 op oq orr hL hL1 t1 t2 t3 u1 u2 u3
  repeat walk_at "c5"
  rename_i v3 H14 g14 k14 v3b H15 g15 k15 v4 H16 g16 k16 D H17 g17 n17 eD vt H18 g18 k18
  have gg := (((g14.trans g15).trans g16).trans g17).trans g18
  have kp9 := kp.up gg
  have kq9 := kq.up gg
  have kr9 := kr.up gg
  have kg9 := kg.up gg
  have ko9 := ko'.up gg
  have k3 := (((k14.up g15).up g16).up g17).up g18
  have k4 := (k16.up g17).up g18
  have eD9 := g18 _ _ eD
  have mem : ∀ v ∈ [vq, vo, v3, v4], ∃ X Y : Rat, Pq K H18 v X Y ∧ Sz 300 X ∧ Sz 300 Y ∧ (X - xp) * (X - xp) + (Y - yp) * (Y - yp) = S := by
    intro v hv
    simp only [List.mem_cons, List.not_mem_nil, or_false] at hv
    rcases hv with rfl | rfl | rfl | rfl
    · exact ⟨_, _, kq9, s3.mono (by decide), s4.mono (by decide), rq⟩
    · exact ⟨_, _, ko9, szx, szy, far1⟩
    · exact ⟨_, _, k3, Sz.mono (s1.sub (s4.sub s2)) (by decide), Sz.mono (s2.add (s3.sub s1)) (by decide), by rw [eS]; grind⟩
    · exact ⟨_, _, k4, Sz.mono (s1.sub ((s2.add (s3.sub s1)).sub s2)) (by decide), Sz.mono (s2.add ((s1.sub (s4.sub s2)).sub s1)) (by decide), by rw [eS]; grind⟩
  have sT : Sz 200 ((xq - xr) * (xq - xr) + (yq - yr) * (yq - yr)) := Sz.mono (((s3.sub s5).mul (s3.sub s5)).add ((s4.sub s6).mul (s4.sub s6))) (by decide)
  clear kp kq kr kg ko' k14 k15 k16 k3 k4 eD gg g14 g15 g16 g17 g18 n17
  refine r_cut (fun σ H' => ∃ (us : List V) (z : Option V), σ = [some (.ref a), some vp, some vq, some vr, some vg, some vl, some vo, some (.ref D), some vt, z, none] ∧ Pq K H' vp xp yp ∧ Pq K H' vq xq yq ∧ H' D = some (.lst (vq :: vo :: v3 :: v4 :: us)) ∧ (us = [] ∨ ∃ u, us = [u]) ∧ ∀ v ∈ vq :: vo :: v3 :: v4 :: us, ∃ X Y : Rat, Pq K H' v X Y ∧ Sz 300 X ∧ Sz 300 Y ∧ (X - xp) * (X - xp) + (Y - yp) * (Y - yp) = S) ?_ (fun N J => ?_)
  · rintro σ H19 ⟨us, z, rfl, kp, kq, eD, lu, mem⟩
    clear kp9 kq9 kr9 kg9 ko9 eD9 k18
    rcases lu with rfl | ⟨u, rfl⟩
    · repeat walk_at "c5"
      refine r_seq ?_
      refine ⟨_, rfl, D, rfl, ⟨_, lstOf eD⟩, for_list (xs := [vq, vo, v3, v4]) (fun i σ H' => (∃ z2, σ = [some (.ref a), some vp, some vq, some vr, some vg, some vl, some vo, some (.ref D), some vt, z, z2]) ∧ Same H19 H') ⟨⟨_, rfl⟩, Same.refl _⟩ ?_ ?_ ?_⟩
      · rintro i σ H' _ ⟨_, g⟩
        exact lstOf (g _ _ eD)
      · rintro i xv σ H' hi ⟨⟨z2, rfl⟩, g⟩
        obtain ⟨Xa, Ya, ka, za1, za2, oa⟩ := mem xv (List.mem_of_getElem? hi)
        obtain ⟨Xb, Yb, kb, zb1, zb2, ob⟩ := mem vo (by simp)
        obtain ⟨Xc, Yc, kc, zc1, zc2, oc⟩ := mem v3 (by simp)
        obtain ⟨Xd, Yd, kd, zd1, zd2, od⟩ := mem v4 (by simp)
        replace ka := ka.up g
        replace kb := kb.up g
        replace kc := kc.up g
        replace kd := kd.up g
        have kp9 := kp.up g
        have kq9 := kq.up g
        have eD9 := g _ _ eD
        have gK := g
        clear kp kq eD mem g
        repeat walk_at "c5"
        refine r_seq ?_
        repeat walk_at "c5"
        rename_i b9 H9 g9 e9
        refine r_dN (beq_tt (e9.mpr (by grind))) ?_
        have eD8 := g9 _ _ eD9
        replace gK := gK.trans g9
        replace ka := ka.up g9
        replace kb := kb.up g9
        replace kc := kc.up g9
        replace kd := kd.up g9
        clear eD9 g9 kp9 kq9
        repeat walk_at "c5"
        rename_i b8 H8 g8 e8
        refine r_dN (beq_tt (e8.mpr (det_round ob oa oc od))) ?_
        repeat walk_at "c5"
        exact ⟨⟨_, rfl⟩, gK.trans g8⟩
      · rintro σ H' ⟨⟨z2, rfl⟩, g⟩
        repeat walk_at "c5"
        exact q _
    · repeat walk_at "c5"
      refine r_seq ?_
      refine ⟨_, rfl, D, rfl, ⟨_, lstOf eD⟩, for_list (xs := [vq, vo, v3, v4, u]) (fun i σ H' => (∃ z2, σ = [some (.ref a), some vp, some vq, some vr, some vg, some vl, some vo, some (.ref D), some vt, z, z2]) ∧ Same H19 H') ⟨⟨_, rfl⟩, Same.refl _⟩ ?_ ?_ ?_⟩
      · rintro i σ H' _ ⟨_, g⟩
        exact lstOf (g _ _ eD)
      · rintro i xv σ H' hi ⟨⟨z2, rfl⟩, g⟩
        obtain ⟨Xa, Ya, ka, za1, za2, oa⟩ := mem xv (List.mem_of_getElem? hi)
        obtain ⟨Xb, Yb, kb, zb1, zb2, ob⟩ := mem vo (by simp)
        obtain ⟨Xc, Yc, kc, zc1, zc2, oc⟩ := mem v3 (by simp)
        obtain ⟨Xd, Yd, kd, zd1, zd2, od⟩ := mem v4 (by simp)
        replace ka := ka.up g
        replace kb := kb.up g
        replace kc := kc.up g
        replace kd := kd.up g
        have kp9 := kp.up g
        have kq9 := kq.up g
        have eD9 := g _ _ eD
        have gK := g
        clear kp kq eD mem g
        repeat walk_at "c5"
        refine r_seq ?_
        repeat walk_at "c5"
        rename_i b9 H9 g9 e9
        refine r_dN (beq_tt (e9.mpr (by grind))) ?_
        have eD8 := g9 _ _ eD9
        replace gK := gK.trans g9
        replace ka := ka.up g9
        replace kb := kb.up g9
        replace kc := kc.up g9
        replace kd := kd.up g9
        clear eD9 g9 kp9 kq9
        repeat walk_at "c5"
        rename_i b8 H8 g8 e8
        refine r_dN (beq_tt (e8.mpr (det_round ob oa oc od))) ?_
        repeat walk_at "c5"
        exact ⟨⟨_, rfl⟩, gK.trans g8⟩
      · rintro σ H' ⟨⟨z2, rfl⟩, g⟩
        repeat walk_at "c5"
        exact q _
  · repeat walk_at "c5"
    walk_at "eqd"
    repeat walk_at "c5"
    refine r_ite (fun e3 => ?_) (fun ne3 => ?_)
    · repeat walk_at "c5"
      refine r_ring0 kg9 k18 (s1.mono (by decide)) (s2.mono (by decide)) sS2 (s5.mono (by decide)) (s6.mono (by decide)) sT e3 (fun r l H20 g20 n20 k20 => ?_)
      repeat walk_at "c5"
      rename_i l8 H21 g21 n21 e21 o9 H22 g22 n22 e22
      refine r_neC0 ((k20.up g21).up g22) (Ct0.mk e22 (g22 _ _ e21)) ok_centre ?_
      have gg := (g20.trans g21).trans g22
      repeat walk_at "c5"
      exact J _ _ ⟨[], _, rfl, kp9.up gg, kq9.up gg, gg _ _ eD9, .inl rfl, fun v hv => by obtain ⟨X, Y, k, x⟩ := mem v hv; exact ⟨X, Y, k.up gg, x⟩⟩
    · repeat walk_at "c5"
      refine r_seq ?_
      repeat walk_at "c5"
      rename_i vm H20 A1 B1 C1 g20 km hM oP oR t1 t2 t3 vh H21 gx gy g21 kh ong sqg zg1 zg2
      have gg := g20.trans g21
      have kp := kp9.up gg
      have kq := kq9.up gg
      have kr := kr9.up gg
      have kg := kg9.up gg
      have kt := k18.up gg
      have eD := gg _ _ eD9
      have mem2 : ∀ v ∈ [vq, vo, v3, v4], ∃ X Y : Rat, Pq K H21 v X Y ∧ Sz 300 X ∧ Sz 300 Y ∧ (X - xp) * (X - xp) + (Y - yp) * (Y - yp) = S := fun v hv => by obtain ⟨X, Y, k, x⟩ := mem v hv; exact ⟨X, Y, k.up gg, x⟩
      clear kp9 kq9 kr9 kg9 k18 eD9 mem gg g20 g21 km
      have f1 := mir_far hM oP ong sqg
      have f2 := mir_far hM oR ong sqg
      rw [rq] at f1
      have wx : Sz 300 (gx + gx - xq) := Sz.mono ((zg1.add zg1).sub s3) (by decide)
      have wy : Sz 300 (gy + gy - yq) := Sz.mono ((zg2.add zg2).sub s4) (by decide)
      have cs : ¬ (xq = gx + gx - xq ∧ yq = gy + gy - yq) ∨ ((xq = gx + gx - xq ∧ yq = gy + gy - yq) ∧ (xr - xp) * (yq - yp) = (yr - yp) * (xq - xp)) := by
        by_cases z : xq = gx + gx - xq ∧ yq = gy + gy - yq
        · refine .inr ⟨z, ?_⟩
          have ex : gx = xq := by have := z.1; grind
          have ey : gy = yq := by have := z.2; grind
          rw [ex, ey] at ong
          exact par_of hM (by grind) (by grind)
        · exact .inl z
      obtain ⟨X2, eX2⟩ : ∃ X, X = gx + gx - xq := ⟨_, rfl⟩
      obtain ⟨Y2, eY2⟩ : ∃ Y, Y = gy + gy - yq := ⟨_, rfl⟩
      rw [← eX2, ← eY2] at cs f1 f2 kh
      rw [← eX2] at wx
      rw [← eY2] at wy
      refine r_ringK (px := xq) (py := yq) (qx := X2) (qy := Y2) kg kt (s1.mono (by decide)) (s2.mono (by decide)) sS2 (s5.mono (by decide)) (s6.mono (by decide)) sT ne3 rq rfl f1 f2 cs (fun r l H22 g22 kk => ?_)
      repeat walk_at "c5"
      refine r_twoK (kq.up g22) (kh.up g22) (s3.mono (by decide)) (s4.mono (by decide)) (wx.mono (by decide)) (wy.mono (by decide)) kk (fun H23 g23 => ?_)
      have gg := g22.trans g23
      have kp9 := kp.up gg
      have kq9 := kq.up gg
      have kr9 := kr.up gg
      have kh9 := kh.up gg
      have eD9 := gg _ _ eD
      have mem : ∀ v ∈ [vq, vo, v3, v4], ∃ X Y : Rat, Pq K H23 v X Y ∧ Sz 300 X ∧ Sz 300 Y ∧ (X - xp) * (X - xp) + (Y - yp) * (Y - yp) = S := fun v hv => by obtain ⟨X, Y, k, x⟩ := mem2 v hv; exact ⟨X, Y, k.up gg, x⟩
      clear kp kq kr kg kt kh eD mem2 gg g22 g23 kk
      repeat walk_at "c5"
      rename_i b24 H24 g24 e24
      refine r_dN (beq_tt (e24.mpr (by grind))) ?_
      have kp := kp9.up g24
      have kq := kq9.up g24
      have kh := kh9.up g24
      have eD := g24 _ _ eD9
      have mem2 : ∀ v ∈ [vq, vo, v3, v4], ∃ X Y : Rat, Pq K H24 v X Y ∧ Sz 300 X ∧ Sz 300 Y ∧ (X - xp) * (X - xp) + (Y - yp) * (Y - yp) = S := fun v hv => by obtain ⟨X, Y, k, x⟩ := mem v hv; exact ⟨X, Y, k.up g24, x⟩
      clear kp9 kq9 kr9 kh9 eD9 mem g24
      repeat walk_at "c5"
      refine ⟨.inl ⟨rfl, _, lstOf eD⟩, ?_⟩
      repeat walk_at "c5"
      refine ⟨D, _, vh, rfl, rfl, eD, (show (4 : Nat) < sizeLine by decide), ?_⟩
      have b9 := But.upd D H24 (.lst ([vq, vo, v3, v4] ++ [vh]))
      refine J _ _ ⟨[vh], _, rfl, kp.but eD b9, kq.but eD b9, upd_same, .inr ⟨vh, rfl⟩, fun v hv => ?_⟩
      have : v ∈ [vq, vo, v3, v4] ∨ v = vh := by
        simp only [List.mem_cons, List.not_mem_nil, or_false] at hv ⊢
        rcases hv with h | h | h | h | h
        · exact .inl (.inl h)
        · exact .inl (.inr (.inl h))
        · exact .inl (.inr (.inr (.inl h)))
        · exact .inl (.inr (.inr (.inr h)))
        · exact .inr h
      rcases this with h | rfl
      · obtain ⟨X, Y, k, x⟩ := mem2 v h
        exact ⟨X, Y, k.but eD b9, x⟩
      · exact ⟨X2, Y2, kh.but eD b9, wx, wy, f1⟩
end
end Mb
namespace Mb
open PySem PySem.Spec PyProof.Rows L2
def d_common_divisor : He.DefD := ⟨("common_divisor", none), "common_divisor", "common_divisor", defArgs s_common_divisor, defBody s_common_divisor, defScope s_common_divisor, [], []⟩
def d_whole_root : He.DefD := ⟨("whole_root", none), "whole_root", "whole_root", defArgs s_whole_root, defBody s_whole_root, defScope s_whole_root, [], []⟩
def d_fraction : He.DefD := ⟨("fraction", none), "fraction", "fraction", defArgs s_fraction, defBody s_fraction, defScope s_fraction, [], []⟩
def d_plus : He.DefD := ⟨("plus", none), "plus", "plus", defArgs s_plus, defBody s_plus, defScope s_plus, [], []⟩
def d_minus : He.DefD := ⟨("minus", none), "minus", "minus", defArgs s_minus, defBody s_minus, defScope s_minus, [], []⟩
def d_root : He.DefD := ⟨("root", none), "root", "root", defArgs s_root, defBody s_root, defScope s_root, [], []⟩
def d_middle : He.DefD := ⟨("middle", none), "middle", "middle", defArgs s_middle, defBody s_middle, defScope s_middle, [], []⟩
def d_share : He.DefD := ⟨("share", none), "share", "share", defArgs s_share, defBody s_share, defScope s_share, [], []⟩
def d_beyond : He.DefD := ⟨("beyond", none), "beyond", "beyond", defArgs s_beyond, defBody s_beyond, defScope s_beyond, [], []⟩
def d_turned : He.DefD := ⟨("turned", none), "turned", "turned", defArgs s_turned, defBody s_turned, defScope s_turned, [], []⟩
def d_between : He.DefD := ⟨("between", none), "between", "between", defArgs s_between, defBody s_between, defScope s_between, [], []⟩
def d_cleared : He.DefD := ⟨("cleared", none), "cleared", "cleared", defArgs s_cleared, defBody s_cleared, defScope s_cleared, [], []⟩
def d_way : He.DefD := ⟨("way", none), "way", "way", defArgs s_way, defBody s_way, defScope s_way, [], []⟩
def d_through : He.DefD := ⟨("through", none), "through", "through", defArgs s_through, defBody s_through, defScope s_through, [], []⟩
def d_upright : He.DefD := ⟨("upright", none), "upright", "upright", defArgs s_upright, defBody s_upright, defScope s_upright, [], []⟩
def d_meet : He.DefD := ⟨("meet", none), "meet", "meet", defArgs s_meet, defBody s_meet, defScope s_meet, [], []⟩
def d_foot : He.DefD := ⟨("foot", none), "foot", "foot", defArgs s_foot, defBody s_foot, defScope s_foot, [], []⟩
def d_mirror : He.DefD := ⟨("mirror", none), "mirror", "mirror", defArgs s_mirror, defBody s_mirror, defScope s_mirror, [], []⟩
def d_line_at : He.DefD := ⟨("line_at", none), "line_at", "line_at", defArgs s_line_at, defBody s_line_at, defScope s_line_at, [], []⟩
def d_one_form : He.DefD := ⟨("one_form", none), "one_form", "one_form", defArgs s_one_form, defBody s_one_form, defScope s_one_form, [], []⟩
def d_about : He.DefD := ⟨("about", none), "about", "about", defArgs s_about, defBody s_about, defScope s_about, [], []⟩
def d_line_cuts : He.DefD := ⟨("line_cuts", none), "line_cuts", "line_cuts", defArgs s_line_cuts, defBody s_line_cuts, defScope s_line_cuts, [], []⟩
def d_ring_cuts : He.DefD := ⟨("ring_cuts", none), "ring_cuts", "ring_cuts", defArgs s_ring_cuts, defBody s_ring_cuts, defScope s_ring_cuts, [], []⟩
def d_reached : He.DefD := ⟨("reached", none), "reached", "reached", defArgs s_reached, defBody s_reached, defScope s_reached, [], []⟩
def d_common_line : He.DefD := ⟨("common_line", none), "common_line", "common_line", defArgs s_common_line, defBody s_common_line, defScope s_common_line, [], []⟩
def d_equation : He.DefD := ⟨("equation", none), "equation", "equation", defArgs s_equation, defBody s_equation, defScope s_equation, [], []⟩
def d_all_round : He.DefD := ⟨("all_round", none), "all_round", "all_round", defArgs s_all_round, defBody s_all_round, defScope s_all_round, [], []⟩
def d_as_far : He.DefD := ⟨("as_far", none), "as_far", "as_far", defArgs s_as_far, defBody s_as_far, defScope s_as_far, [], []⟩
def d_lifted : He.DefD := ⟨("lifted", none), "lifted", "lifted", defArgs s_lifted, defBody s_lifted, defScope s_lifted, [], []⟩
def d_whole : He.DefD := ⟨("_law_whole", none), "_law_whole", "_law_whole", defArgs s_whole, defBody s_whole, defScope s_whole, [], []⟩
def d_stream : He.DefD := ⟨("_law_stream", none), "_law_stream", "_law_stream", defArgs s_stream, defBody s_stream, defScope s_stream, [], []⟩
def d_take : He.DefD := ⟨("_law_take", none), "_law_take", "_law_take", defArgs s_take, defBody s_take, defScope s_take, [], []⟩
def d_divisor : He.DefD := ⟨("_law_divisor", none), "_law_divisor", "_law_divisor", defArgs s_divisor, defBody s_divisor, defScope s_divisor, [], []⟩
def d_lowest : He.DefD := ⟨("_law_lowest", none), "_law_lowest", "_law_lowest", defArgs s_lowest, defBody s_lowest, defScope s_lowest, [], []⟩
def d_l_minus : He.DefD := ⟨("_law_minus", none), "_law_minus", "_law_minus", defArgs s_l_minus, defBody s_l_minus, defScope s_l_minus, [], []⟩
def d_is_fraction : He.DefD := ⟨("_law_is_fraction", none), "_law_is_fraction", "_law_is_fraction", defArgs s_is_fraction, defBody s_is_fraction, defScope s_is_fraction, [], []⟩
def d_is_place : He.DefD := ⟨("_law_is_place", none), "_law_is_place", "_law_is_place", defArgs s_is_place, defBody s_is_place, defScope s_is_place, [], []⟩
def d_ahead : He.DefD := ⟨("_law_ahead", none), "_law_ahead", "_law_ahead", defArgs s_ahead, defBody s_ahead, defScope s_ahead, [], []⟩
def d_small : He.DefD := ⟨("_law_small", none), "_law_small", "_law_small", defArgs s_small, defBody s_small, defScope s_small, [], []⟩
def d_small_place : He.DefD := ⟨("_law_small_place", none), "_law_small_place", "_law_small_place", defArgs s_small_place, defBody s_small_place, defScope s_small_place, [], []⟩
def d_small_near : He.DefD := ⟨("_law_small_near", none), "_law_small_near", "_law_small_near", defArgs s_small_near, defBody s_small_near, defScope s_small_near, [], []⟩
def d_l_in_order : He.DefD := ⟨("_law_in_order", none), "_law_in_order", "_law_in_order", defArgs s_l_in_order, defBody s_l_in_order, defScope s_l_in_order, [], []⟩
def d_is : He.DefD := ⟨("_law_is", none), "_law_is", "_law_is", defArgs s_is, defBody s_is, defScope s_is, [], []⟩
def d_two : He.DefD := ⟨("_law_two", none), "_law_two", "_law_two", defArgs s_two, defBody s_two, defScope s_two, [], []⟩
def d_touching : He.DefD := ⟨("_law_touching", none), "_law_touching", "_law_touching", defArgs s_touching, defBody s_touching, defScope s_touching, [], []⟩
def d_law : He.DefD := ⟨("law", none), "law", "law", defArgs s_law, defBody s_law, defScope s_law, [], []⟩
def fn : List He.DefD := [d_common_divisor, d_whole_root, d_fraction, d_plus, d_minus, d_root, d_middle, d_share, d_beyond, d_turned, d_between, d_cleared, d_way, d_through, d_upright, d_meet, d_foot, d_mirror, d_line_at, d_one_form, d_about, d_line_cuts, d_ring_cuts, d_reached, d_common_line, d_equation, d_all_round, d_as_far, d_lifted, d_whole, d_stream, d_take, d_divisor, d_lowest, d_l_minus, d_is_fraction, d_is_place, d_ahead, d_small, d_small_place, d_small_near, d_l_in_order, d_is, d_two, d_touching, d_law]
def fa : List He.Fa := [.glo "common_divisor", .glo "whole_root", .glo "fraction", .glo "plus", .glo "minus", .glo "root", .glo "middle", .glo "share", .glo "beyond", .glo "turned", .glo "between", .glo "cleared", .glo "way", .glo "through", .glo "upright", .glo "meet", .glo "foot", .glo "mirror", .glo "line_at", .glo "one_form", .glo "about", .glo "line_cuts", .glo "ring_cuts", .glo "reached", .glo "common_line", .glo "equation", .glo "all_round", .glo "as_far", .glo "lifted", .glo "_law_whole", .glo "_law_stream", .glo "_law_take", .glo "_law_divisor", .glo "_law_lowest", .glo "_law_minus", .glo "_law_is_fraction", .glo "_law_is_place", .glo "_law_ahead", .glo "_law_small", .glo "_law_small_place", .glo "_law_small_near", .glo "_law_in_order", .glo "_law_is", .glo "_law_two", .glo "_law_touching", .glo "law", .free "abs", .free "bool", .free "int", .free "isinstance", .free "len", .free "tuple"]
abbrev R : PySem.W.OpenRow := PySem.W.OpenLaw.row PySem.Challenge.rw_movebook_k24_whole_circles_meet
abbrev hk : PySem.W.Hook := He.hookD 5 fa fn
def ob (s : PySem.W.SharedT) : He.AlD := He.obsDG 5 fa fn (HandSHeadRun.getT s)
theorem ob_eq (s : PySem.W.SharedT) : ob s = hk.obs s.abs := He.obsDG_eq (HandSHeadRun.getT_eq s)
def names : List PySem.Str := [("BookError" : PySem.Str), ("NoNumber" : PySem.Str), ("common_divisor" : PySem.Str), ("whole_root" : PySem.Str), ("fraction" : PySem.Str), ("plus" : PySem.Str), ("minus" : PySem.Str), ("root" : PySem.Str), ("middle" : PySem.Str), ("share" : PySem.Str), ("beyond" : PySem.Str), ("turned" : PySem.Str), ("between" : PySem.Str), ("cleared" : PySem.Str), ("way" : PySem.Str), ("through" : PySem.Str), ("upright" : PySem.Str), ("meet" : PySem.Str), ("foot" : PySem.Str), ("mirror" : PySem.Str), ("line_at" : PySem.Str), ("one_form" : PySem.Str), ("about" : PySem.Str), ("line_cuts" : PySem.Str), ("ring_cuts" : PySem.Str), ("reached" : PySem.Str), ("common_line" : PySem.Str), ("equation" : PySem.Str), ("all_round" : PySem.Str), ("as_far" : PySem.Str), ("lifted" : PySem.Str), ("_law_whole" : PySem.Str), ("_law_stream" : PySem.Str), ("_law_take" : PySem.Str), ("_law_divisor" : PySem.Str), ("_law_lowest" : PySem.Str), ("_law_minus" : PySem.Str), ("_law_is_fraction" : PySem.Str), ("_law_is_place" : PySem.Str), ("_law_ahead" : PySem.Str), ("_law_small" : PySem.Str), ("_law_small_place" : PySem.Str), ("_law_small_near" : PySem.Str), ("_law_in_order" : PySem.Str), ("_law_is" : PySem.Str), ("_law_two" : PySem.Str), ("_law_touching" : PySem.Str)]
theorem run (w : World) : HandSHeadRun.RunEq R (PySem.W.view R.prog [55]) hk ob 4000 names w := by
  intro os
  kernel_rfl
theorem facts {P : Program} {w : World} {K : PySem.W.Frag} {h : Heap} {mg : Str → Option Value} {f : Addr} (X : K.In h) (G : h.Ns mainGlobals mg) (hfa : mg ("law" : Str) = some (.ref f)) (c : He.SaysD fa fn K) :
    ∃ fd : FuncData, (∀ (s : Shared) (v : Value), BindsTo s fd ⟨[v], []⟩ [("_law_script", v)]) ∧ ∀ base : Heap, K.In base → base.Ns mainGlobals mg → FnOk P w K mg base CX0 8 f fd ["_law_script"] (spLaw K) := by
  have F_common_divisor : Fn K mg "common_divisor" s_common_divisor := by
    obtain ⟨fd, F⟩ := c.def_ 0 (d := d_common_divisor) rfl
    exact ⟨_, fd, F, He.glo_ok X G (c.fact 0 (f := .glo "common_divisor") rfl)⟩
  have F_whole_root : Fn K mg "whole_root" s_whole_root := by
    obtain ⟨fd, F⟩ := c.def_ 1 (d := d_whole_root) rfl
    exact ⟨_, fd, F, He.glo_ok X G (c.fact 1 (f := .glo "whole_root") rfl)⟩
  have F_fraction : Fn K mg "fraction" s_fraction := by
    obtain ⟨fd, F⟩ := c.def_ 2 (d := d_fraction) rfl
    exact ⟨_, fd, F, He.glo_ok X G (c.fact 2 (f := .glo "fraction") rfl)⟩
  have F_plus : Fn K mg "plus" s_plus := by
    obtain ⟨fd, F⟩ := c.def_ 3 (d := d_plus) rfl
    exact ⟨_, fd, F, He.glo_ok X G (c.fact 3 (f := .glo "plus") rfl)⟩
  have F_minus : Fn K mg "minus" s_minus := by
    obtain ⟨fd, F⟩ := c.def_ 4 (d := d_minus) rfl
    exact ⟨_, fd, F, He.glo_ok X G (c.fact 4 (f := .glo "minus") rfl)⟩
  have F_root : Fn K mg "root" s_root := by
    obtain ⟨fd, F⟩ := c.def_ 5 (d := d_root) rfl
    exact ⟨_, fd, F, He.glo_ok X G (c.fact 5 (f := .glo "root") rfl)⟩
  have F_middle : Fn K mg "middle" s_middle := by
    obtain ⟨fd, F⟩ := c.def_ 6 (d := d_middle) rfl
    exact ⟨_, fd, F, He.glo_ok X G (c.fact 6 (f := .glo "middle") rfl)⟩
  have F_share : Fn K mg "share" s_share := by
    obtain ⟨fd, F⟩ := c.def_ 7 (d := d_share) rfl
    exact ⟨_, fd, F, He.glo_ok X G (c.fact 7 (f := .glo "share") rfl)⟩
  have F_beyond : Fn K mg "beyond" s_beyond := by
    obtain ⟨fd, F⟩ := c.def_ 8 (d := d_beyond) rfl
    exact ⟨_, fd, F, He.glo_ok X G (c.fact 8 (f := .glo "beyond") rfl)⟩
  have F_turned : Fn K mg "turned" s_turned := by
    obtain ⟨fd, F⟩ := c.def_ 9 (d := d_turned) rfl
    exact ⟨_, fd, F, He.glo_ok X G (c.fact 9 (f := .glo "turned") rfl)⟩
  have F_between : Fn K mg "between" s_between := by
    obtain ⟨fd, F⟩ := c.def_ 10 (d := d_between) rfl
    exact ⟨_, fd, F, He.glo_ok X G (c.fact 10 (f := .glo "between") rfl)⟩
  have F_cleared : Fn K mg "cleared" s_cleared := by
    obtain ⟨fd, F⟩ := c.def_ 11 (d := d_cleared) rfl
    exact ⟨_, fd, F, He.glo_ok X G (c.fact 11 (f := .glo "cleared") rfl)⟩
  have F_way : Fn K mg "way" s_way := by
    obtain ⟨fd, F⟩ := c.def_ 12 (d := d_way) rfl
    exact ⟨_, fd, F, He.glo_ok X G (c.fact 12 (f := .glo "way") rfl)⟩
  have F_through : Fn K mg "through" s_through := by
    obtain ⟨fd, F⟩ := c.def_ 13 (d := d_through) rfl
    exact ⟨_, fd, F, He.glo_ok X G (c.fact 13 (f := .glo "through") rfl)⟩
  have F_upright : Fn K mg "upright" s_upright := by
    obtain ⟨fd, F⟩ := c.def_ 14 (d := d_upright) rfl
    exact ⟨_, fd, F, He.glo_ok X G (c.fact 14 (f := .glo "upright") rfl)⟩
  have F_meet : Fn K mg "meet" s_meet := by
    obtain ⟨fd, F⟩ := c.def_ 15 (d := d_meet) rfl
    exact ⟨_, fd, F, He.glo_ok X G (c.fact 15 (f := .glo "meet") rfl)⟩
  have F_foot : Fn K mg "foot" s_foot := by
    obtain ⟨fd, F⟩ := c.def_ 16 (d := d_foot) rfl
    exact ⟨_, fd, F, He.glo_ok X G (c.fact 16 (f := .glo "foot") rfl)⟩
  have F_mirror : Fn K mg "mirror" s_mirror := by
    obtain ⟨fd, F⟩ := c.def_ 17 (d := d_mirror) rfl
    exact ⟨_, fd, F, He.glo_ok X G (c.fact 17 (f := .glo "mirror") rfl)⟩
  have F_line_at : Fn K mg "line_at" s_line_at := by
    obtain ⟨fd, F⟩ := c.def_ 18 (d := d_line_at) rfl
    exact ⟨_, fd, F, He.glo_ok X G (c.fact 18 (f := .glo "line_at") rfl)⟩
  have F_one_form : Fn K mg "one_form" s_one_form := by
    obtain ⟨fd, F⟩ := c.def_ 19 (d := d_one_form) rfl
    exact ⟨_, fd, F, He.glo_ok X G (c.fact 19 (f := .glo "one_form") rfl)⟩
  have F_about : Fn K mg "about" s_about := by
    obtain ⟨fd, F⟩ := c.def_ 20 (d := d_about) rfl
    exact ⟨_, fd, F, He.glo_ok X G (c.fact 20 (f := .glo "about") rfl)⟩
  have F_line_cuts : Fn K mg "line_cuts" s_line_cuts := by
    obtain ⟨fd, F⟩ := c.def_ 21 (d := d_line_cuts) rfl
    exact ⟨_, fd, F, He.glo_ok X G (c.fact 21 (f := .glo "line_cuts") rfl)⟩
  have F_ring_cuts : Fn K mg "ring_cuts" s_ring_cuts := by
    obtain ⟨fd, F⟩ := c.def_ 22 (d := d_ring_cuts) rfl
    exact ⟨_, fd, F, He.glo_ok X G (c.fact 22 (f := .glo "ring_cuts") rfl)⟩
  have F_reached : Fn K mg "reached" s_reached := by
    obtain ⟨fd, F⟩ := c.def_ 23 (d := d_reached) rfl
    exact ⟨_, fd, F, He.glo_ok X G (c.fact 23 (f := .glo "reached") rfl)⟩
  have F_common_line : Fn K mg "common_line" s_common_line := by
    obtain ⟨fd, F⟩ := c.def_ 24 (d := d_common_line) rfl
    exact ⟨_, fd, F, He.glo_ok X G (c.fact 24 (f := .glo "common_line") rfl)⟩
  have F_equation : Fn K mg "equation" s_equation := by
    obtain ⟨fd, F⟩ := c.def_ 25 (d := d_equation) rfl
    exact ⟨_, fd, F, He.glo_ok X G (c.fact 25 (f := .glo "equation") rfl)⟩
  have F_all_round : Fn K mg "all_round" s_all_round := by
    obtain ⟨fd, F⟩ := c.def_ 26 (d := d_all_round) rfl
    exact ⟨_, fd, F, He.glo_ok X G (c.fact 26 (f := .glo "all_round") rfl)⟩
  have F_as_far : Fn K mg "as_far" s_as_far := by
    obtain ⟨fd, F⟩ := c.def_ 27 (d := d_as_far) rfl
    exact ⟨_, fd, F, He.glo_ok X G (c.fact 27 (f := .glo "as_far") rfl)⟩
  have F_lifted : Fn K mg "lifted" s_lifted := by
    obtain ⟨fd, F⟩ := c.def_ 28 (d := d_lifted) rfl
    exact ⟨_, fd, F, He.glo_ok X G (c.fact 28 (f := .glo "lifted") rfl)⟩
  have F_whole : Fn K mg "_law_whole" s_whole := by
    obtain ⟨fd, F⟩ := c.def_ 29 (d := d_whole) rfl
    exact ⟨_, fd, F, He.glo_ok X G (c.fact 29 (f := .glo "_law_whole") rfl)⟩
  have F_stream : Fn K mg "_law_stream" s_stream := by
    obtain ⟨fd, F⟩ := c.def_ 30 (d := d_stream) rfl
    exact ⟨_, fd, F, He.glo_ok X G (c.fact 30 (f := .glo "_law_stream") rfl)⟩
  have F_take : Fn K mg "_law_take" s_take := by
    obtain ⟨fd, F⟩ := c.def_ 31 (d := d_take) rfl
    exact ⟨_, fd, F, He.glo_ok X G (c.fact 31 (f := .glo "_law_take") rfl)⟩
  have F_divisor : Fn K mg "_law_divisor" s_divisor := by
    obtain ⟨fd, F⟩ := c.def_ 32 (d := d_divisor) rfl
    exact ⟨_, fd, F, He.glo_ok X G (c.fact 32 (f := .glo "_law_divisor") rfl)⟩
  have F_lowest : Fn K mg "_law_lowest" s_lowest := by
    obtain ⟨fd, F⟩ := c.def_ 33 (d := d_lowest) rfl
    exact ⟨_, fd, F, He.glo_ok X G (c.fact 33 (f := .glo "_law_lowest") rfl)⟩
  have F_l_minus : Fn K mg "_law_minus" s_l_minus := by
    obtain ⟨fd, F⟩ := c.def_ 34 (d := d_l_minus) rfl
    exact ⟨_, fd, F, He.glo_ok X G (c.fact 34 (f := .glo "_law_minus") rfl)⟩
  have F_is_fraction : Fn K mg "_law_is_fraction" s_is_fraction := by
    obtain ⟨fd, F⟩ := c.def_ 35 (d := d_is_fraction) rfl
    exact ⟨_, fd, F, He.glo_ok X G (c.fact 35 (f := .glo "_law_is_fraction") rfl)⟩
  have F_is_place : Fn K mg "_law_is_place" s_is_place := by
    obtain ⟨fd, F⟩ := c.def_ 36 (d := d_is_place) rfl
    exact ⟨_, fd, F, He.glo_ok X G (c.fact 36 (f := .glo "_law_is_place") rfl)⟩
  have F_ahead : Fn K mg "_law_ahead" s_ahead := by
    obtain ⟨fd, F⟩ := c.def_ 37 (d := d_ahead) rfl
    exact ⟨_, fd, F, He.glo_ok X G (c.fact 37 (f := .glo "_law_ahead") rfl)⟩
  have F_small : Fn K mg "_law_small" s_small := by
    obtain ⟨fd, F⟩ := c.def_ 38 (d := d_small) rfl
    exact ⟨_, fd, F, He.glo_ok X G (c.fact 38 (f := .glo "_law_small") rfl)⟩
  have F_small_place : Fn K mg "_law_small_place" s_small_place := by
    obtain ⟨fd, F⟩ := c.def_ 39 (d := d_small_place) rfl
    exact ⟨_, fd, F, He.glo_ok X G (c.fact 39 (f := .glo "_law_small_place") rfl)⟩
  have F_small_near : Fn K mg "_law_small_near" s_small_near := by
    obtain ⟨fd, F⟩ := c.def_ 40 (d := d_small_near) rfl
    exact ⟨_, fd, F, He.glo_ok X G (c.fact 40 (f := .glo "_law_small_near") rfl)⟩
  have F_l_in_order : Fn K mg "_law_in_order" s_l_in_order := by
    obtain ⟨fd, F⟩ := c.def_ 41 (d := d_l_in_order) rfl
    exact ⟨_, fd, F, He.glo_ok X G (c.fact 41 (f := .glo "_law_in_order") rfl)⟩
  have F_is : Fn K mg "_law_is" s_is := by
    obtain ⟨fd, F⟩ := c.def_ 42 (d := d_is) rfl
    exact ⟨_, fd, F, He.glo_ok X G (c.fact 42 (f := .glo "_law_is") rfl)⟩
  have F_two : Fn K mg "_law_two" s_two := by
    obtain ⟨fd, F⟩ := c.def_ 43 (d := d_two) rfl
    exact ⟨_, fd, F, He.glo_ok X G (c.fact 43 (f := .glo "_law_two") rfl)⟩
  have F_touching : Fn K mg "_law_touching" s_touching := by
    obtain ⟨fd, F⟩ := c.def_ 44 (d := d_touching) rfl
    exact ⟨_, fd, F, He.glo_ok X G (c.fact 44 (f := .glo "_law_touching") rfl)⟩
  have F_law : Fn K mg "law" s_law := by
    obtain ⟨fd, F⟩ := c.def_ 45 (d := d_law) rfl
    exact ⟨_, fd, F, He.glo_ok X G (c.fact 45 (f := .glo "law") rfl)⟩
  have z_abs : mg "abs" = none := He.free_ok X G (c.fact 46 (f := .free "abs") rfl)
  have z_bool : mg "bool" = none := He.free_ok X G (c.fact 47 (f := .free "bool") rfl)
  have z_int : mg "int" = none := He.free_ok X G (c.fact 48 (f := .free "int") rfl)
  have z_isinstance : mg "isinstance" = none := He.free_ok X G (c.fact 49 (f := .free "isinstance") rfl)
  have z_len : mg "len" = none := He.free_ok X G (c.fact 50 (f := .free "len") rfl)
  have z_tuple : mg "tuple" = none := He.free_ok X G (c.fact 51 (f := .free "tuple") rfl)
  obtain ⟨fd, FL⟩ := c.def_ 45 (d := d_law) rfl
  have e := hfa.symm.trans (He.glo_ok X G (c.fact 45 (f := .glo "law") rfl))
  cases e
  have b := FunD.bindsA (ps := ["_law_script"]) FL fun _ _ _ _ _ _ us hl => match us, hl with | [_], _ => rfl
  refine ⟨fd, fun s v => b s [v] rfl, fun base _ _ => ?_⟩
  have G_common_divisor := ok_common_divisor (P := P) (w := w) (base := base) F_common_divisor z_abs
  have G_whole_root := ok_whole_root (P := P) (w := w) (base := base) F_whole_root
  have G_root := ok_root (P := P) (w := w) (base := base) F_root G_whole_root
  replace G_root := G_root.of fun _ _ _ _ h => rootQ_of (K := K) h
  have G_fraction := ok_fraction (P := P) (w := w) (base := base) F_fraction G_common_divisor
  have G_plus := ok_plus (P := P) (w := w) (base := base) F_plus G_fraction
  replace G_plus := G_plus.of fun _ _ _ _ h => plus_q2 (K := K) h
  have G_minus := ok_minus (P := P) (w := w) (base := base) F_minus G_fraction
  replace G_minus := G_minus.of fun _ _ _ _ h => minus_q2 (K := K) h
  replace G_fraction := G_fraction.of fun _ _ _ _ h => frQ_of (K := K) h
  have G_between := ok_between (P := P) (w := w) (base := base) F_between G_fraction
  have G_share := ok_share (P := P) (w := w) (base := base) F_share G_between
  have G_middle := ok_middle (P := P) (w := w) (base := base) F_middle G_share
  have G_beyond := ok_beyond (P := P) (w := w) (base := base) F_beyond G_share
  have G_turned := ok_turned (P := P) (w := w) (base := base) F_turned G_plus G_minus
  have G_cleared := ok_cleared (P := P) (w := w) (base := base) F_cleared G_common_divisor
  have G_way := ok_way (P := P) (w := w) (base := base) F_way G_cleared
  have G_one_form := ok_one_form (P := P) (w := w) (base := base) F_one_form G_common_divisor
  have G_through := ok_through (P := P) (w := w) (base := base) F_through G_cleared G_one_form
  have G_line_at := ok_line_at (P := P) (w := w) (base := base) F_line_at G_cleared G_one_form
  have G_upright := ok_upright (P := P) (w := w) (base := base) F_upright G_line_at
  have G_meet := ok_meet (P := P) (w := w) (base := base) F_meet G_fraction
  have G_foot := ok_foot (P := P) (w := w) (base := base) F_foot G_upright G_meet
  have G_mirror := ok_mirror (P := P) (w := w) (base := base) F_mirror G_beyond G_foot
  have G_about := ok_about (P := P) (w := w) (base := base) F_about G_way G_fraction
  have G_reached := ok_reached (P := P) (w := w) (base := base) F_reached G_fraction
  have G_line_cuts := ok_line_cuts (P := P) (w := w) (base := base) F_line_cuts G_cleared G_fraction G_root G_reached
  have G_equation := ok_equation (P := P) (w := w) (base := base) F_equation G_cleared
  have G_common_line := ok_common_line (P := P) (w := w) (base := base) F_common_line G_equation G_one_form
  have G_ring_cuts := ok_ring_cuts (P := P) (w := w) (base := base) F_ring_cuts G_common_line G_line_cuts
  have G_lifted := ok_lifted (P := P) (w := w) (base := base) F_lifted G_way
  have G_all_round := ok_all_round (P := P) (w := w) (base := base) F_all_round G_lifted
  have G_as_far := ok_as_far (P := P) (w := w) (base := base) F_as_far G_way
  have G_stream := ok_stream (P := P) (w := w) (base := base) F_stream z_len
  have G_take := ok_take (P := P) (w := w) (base := base) F_take
  have G_divisor := ok_divisor (P := P) (w := w) (base := base) F_divisor z_abs
  have G_lowest := ok_lowest (P := P) (w := w) (base := base) F_lowest G_divisor
  have G_whole := ok_whole (P := P) (w := w) (base := base) F_whole z_isinstance z_int z_bool
  have G_is_fraction := ok_is_fraction (P := P) (w := w) (base := base) F_is_fraction G_whole G_divisor z_isinstance z_tuple z_len
  have G_is_place := ok_is_place (P := P) (w := w) (base := base) F_is_place G_is_fraction z_isinstance z_tuple z_len
  replace G_is_place := G_is_place.of fun _ _ _ _ h => isP_of (K := K) h
  have G_l_minus := ok_l_minus (P := P) (w := w) (base := base) F_l_minus
  have G_ahead := ok_ahead (P := P) (w := w) (base := base) F_ahead G_l_minus
  replace G_l_minus := G_l_minus.of fun _ _ _ _ h => minus_r2 (K := K) h
  replace G_lowest := G_lowest.of fun _ _ _ _ h => lowQ_of (K := K) h
  replace G_is_fraction := G_is_fraction.of fun _ _ _ _ h => isF_of (K := K) h
  have G_is := ok_is (P := P) (w := w) (base := base) F_is z_isinstance z_bool
  replace G_through := G_through.of fun _ _ _ _ h => thruO_of (K := K) h
  replace G_meet := G_meet.of fun _ _ _ _ h => meetO_of (K := K) h
  have G_small := ok_small (P := P) (w := w) (base := base) F_small G_take G_lowest
  have G_small_place := ok_small_place (P := P) (w := w) (base := base) F_small_place G_small
  have G_small_near := ok_small_near (P := P) (w := w) (base := base) F_small_near G_take G_small_place
  have G_l_in_order := ok_l_in_order (P := P) (w := w) (base := base) F_l_in_order G_ahead
  have G_two := ok_two (P := P) (w := w) (base := base) F_two G_l_in_order
  have G_touching := ok_touching (P := P) (w := w) (base := base) F_touching G_through G_upright G_two G_line_cuts G_beyond G_middle
  have G_law := ok_law (P := P) (w := w) (base := base) FL G_stream G_small_place G_small_near G_about G_touching G_through G_upright G_mirror G_is_place G_two G_line_cuts G_turned G_ring_cuts G_as_far G_all_round G_is
  exact G_law
end Mb
open PySem PySem.W PySem.Calls PyProof.Rows
set_option maxRecDepth 100000 in
set_option maxHeartbeats 0 in
theorem PySem.Challenge.cw_movebook_k24_whole_circles_meet_holds : PySem.Challenge.rw_movebook_k24_whole_circles_meet.Holds := by
  w_on; o_law
  refine HandSHeadRun.head_any (r := OpenLaw.row PySem.Challenge.rw_movebook_k24_whole_circles_meet) (q := view (OpenLaw.row PySem.Challenge.rw_movebook_k24_whole_circles_meet).prog [55]) (H := Mb.hk) (ob := Mb.ob) (M := 4000) (loose := Mb.names) (d := HandSHeadRun.topDef (OpenLaw.row PySem.Challenge.rw_movebook_k24_whole_circles_meet).prog 55) (kwd := []) Mb.ob_eq
    (by kernel_rfl) (fun s => by kernel_rfl) Mb.run (by kernel_rfl) (by kernel_rfl) (by kernel_rfl) (by rfl) (by first | assumption | decide +kernel) (by decide +kernel) ⟨rfl, rfl, rfl, rfl, rfl, by decide +kernel⟩ ?hw ?hc
  case hw => w_witness2
  case hc =>
    refine L2.walk_ofE (l := PySem.Challenge.rw_movebook_k24_whole_circles_meet) (n := 63) (k := 8) (x := "_law_script") (CX := L2.CX0) rfl (by decide) (by kernel_rfl) ⟨rfl, by decide, by decide⟩ ?F (fun _ _ _ _ z => z)
    intro w mg fa h Y G hmg0
    obtain ⟨K, KX, c⟩ := Y
    have hmg : mg ("law" : PySem.Str) = some (.ref fa) := by
      have e : (HandSHeadRun.topDef (OpenLaw.row PySem.Challenge.rw_movebook_k24_whole_circles_meet).prog 55).name = ("law" : PySem.Str) := by kernel_rfl
      rw [← e]
      exact hmg0
    obtain ⟨fd, hb, hF⟩ := Mb.facts (P := (PySem.Challenge.rw_movebook_k24_whole_circles_meet).prog) (w := w) KX G hmg c
    exact ⟨K, fd, Mb.spLaw K, KX, hb, fun H a ns hl _ hS => ⟨a, ns, rfl, hS, hl, fun _ => rfl⟩, hF⟩
